import PyProof.Rows.All
import Wide.All
import OpenK.AllK
import Wide.FinOn
import Lean
import PyProof.EqAt
import PyProof.EqKinds
import PyProof.TupleCall
import KE.KSortTup
import KE.KRevIter
import KE.KLam
import KE.KNestM
import KE.KTryDeep
import KE.KTryOn
import OpenK.KOwn
import KE.KDictList
import PyProof.MeetsSeq
import PyProof.SeqRoads2
import PySem.Challenge.RW_turnery_k41_early_makes_the_same
set_option hygiene false
set_option compiler.extract_closed false
local macro_rules|`((0:))=>`(⟨rfl,rfl,rfl,by decide +kernel,rfl,by decide +kernel,by decide +kernel⟩)
local macro_rules|`((1:))=>`((by decide +kernel))
local macro_rules|`((2:))=>`((Qk Qj (pv 0) Qf (fun _ _=>rfl)))
local macro_rules|`((4:))=>`((Nat.le_refl _))
local macro_rules|`((5:))=>`((by lia))
local macro_rules|`((6:))=>`((model X.prog X.w))
local macro_rules|`((7:))=>`((fun vs H Q E h=>?_))
local macro_rules|`((8:))=>`((wpAny_attempt (wpAny_callSpecial?_slot (name:=Str.ofString "__next__") hI.typeIs F.slot_dict_keyiterator_next (wpAny_call_entry F.slot_dict_keyiterator_next hI.typeIs F.entry_dict_keyiterator_next ?_ (F.args_dict_keyiterator_next_1 _)))))
local macro_rules|`((9:))=>`((model prog w))
local macro_rules|`((10:))=>`((Addr × Obj))
local macro_rules|`((11:))=>`((by decide))
local macro_rules|`((12:))=>`(((s.heap.update a (Obj.mapSeq fun _=>(#[]:Array Value))).push (seqObj "tuple" vs.toArray 0)))
local macro_rules|`((13:))=>`((QL X (xs ++ caps) scope cl s3.heap.objs.size fp s3 H3))
local macro_rules|`((14:))=>`(⟨fun vs H Q E h=>absurd h (G vs H Q E),fun A outer s H L M vs Q E _ _ _ _ h=>absurd h (G vs H Q E)⟩)
local macro_rules|`((15:))=>`((Or.inl rfl))
local macro_rules|`((17:))=>`((by simp))
local macro_rules|`((18:))=>`((by intro z;cases z))
local macro_rules|`((19:))=>`((vS "turnery.commons" 328))
set_option genSizeOf false
set_option bootstrap.genMatcherCode false
local macro_rules
 | `($m:declModifiers def $i:declId $s:optDeclSig $v:declVal)=>if m.raw.getArgs.all (·.isNone) then `(noncomputable def $i:declId $s:optDeclSig $v:declVal) else Lean.Macro.throwUnsupported
 | `($m:declModifiers abbrev $i:declId $s:optDeclSig $v:declVal)=>if m.raw.getArgs.all (·.isNone) then `(noncomputable abbrev $i:declId $s:optDeclSig $v:declVal) else Lean.Macro.throwUnsupported
abbrev gY:=PySem.Params
abbrev gZ:=PySem.Obj
abbrev hJ:=@PySem.Str.ofString
abbrev hV:=PySem.Challenge.pw_turnery_k41_early_makes_the_same.main.body
abbrev aD:=@List.getElem?_eq_getElem
abbrev aB:=@PySem.wpAny_bind
abbrev aE:=@List.length_map
abbrev aJ:=@List.getElem?_map
abbrev aF:=@PySem.wpAny_pure
abbrev aI:=@Option.some.inj
abbrev aL:=@List.mem_of_getElem?
abbrev aN:=@PySem.Heap.get?_push_of_some
abbrev aU:=@List.getElem?_eq_some_iff
abbrev aK:=@List.mem_map
abbrev aO:=@List.getElem_mem
abbrev aQ:=@List.mem_cons_self
abbrev aM:=@List.mem_cons
abbrev aS:=@Bool.false_ne_true
abbrev aV:=@List.mem_cons_of_mem
abbrev aG:=@if_neg
abbrev aH:=@if_pos
abbrev aT:=@List.map_append
abbrev aP:=@PySem.Heap.lt_size
abbrev aX:=@Int.toNat_natCast
abbrev aR:=@List.map_cons
abbrev bE:=@PySem.Heap.get?_push_size
abbrev bR:=@List.take_of_length_le
abbrev a_:=@List.size_toArray
abbrev aY:=@List.mem_append
abbrev bF:=@List.take_add_one
abbrev bH:=@List.length_append
abbrev bC:=@Bool.and_eq_true
abbrev bM:=@List.mem_singleton
abbrev bJ:=@of_decide_eq_true
abbrev bK:=@List.length_cons
abbrev b_:=@Option.bind_eq_some_iff
abbrev bS:=@List.mem_nil_iff
abbrev cB:=@List.mem_append_right
abbrev bZ:=@List.getElem_of_mem
abbrev bD:=@Nat.ne_of_lt
abbrev aZ:=@Nat.le_refl
abbrev bO:=@decide_eq_true
abbrev bT:=@PySem.boot_len
abbrev bV:=@decide_eq_false
abbrev bW:=@PySem.PassesOwn.never
abbrev cC:=@Nat.lt_of_lt_of_le
abbrev cY:=@PyProof.Rows.boot_isinstance
abbrev bN:=@Nat.zero_le
abbrev cE:=@Bool.false_eq_true
abbrev cR:=@PySem.F.plainAttrs_list
abbrev cS:=@PyProof.Rows.boot_tuple
abbrev cH:=@PySem.W.mg_none_of
abbrev aW:=@Ne.symm
abbrev bX:=@Nat.le_trans
abbrev bY:=@List.map_map
abbrev cZ:=@Option.map_eq_some_iff
abbrev cT:=@List.mem_append_left
abbrev cU:=@PySem.Heap.SameBut.update
abbrev cI:=@List.find?_cons
abbrev cL:=@PySem.wpAny_newObj_type
abbrev cV:=@Int.emod_lt_of_pos
abbrev en:=@PySem.wpAny_typeNameOfWhole_keyiter
abbrev dE:=@List.length_singleton
abbrev cK:=@Int.emod_nonneg
abbrev cM:=@List.length_take
abbrev cF:=@PySem.wpAny_holding
abbrev bQ:=@or_false
abbrev eo:=@List.getD_eq_getElem?_getD
abbrev cJ:=@Bool.and_self
abbrev dU:=@PySem.wpAny_callSpecial?_slot
abbrev c_:=@PySem.wpAny_dictEntries
abbrev bU:=@if_false
abbrev eA:=@Array.getElem?_eq_getElem
abbrev cN:=@List.mem_range
abbrev cW:=@PySem.W.kia_one
abbrev dA:=@PySem.wpAny_call_entry
abbrev eB:=@PySem.wpAny_typeNameOf_keyiter
abbrev dX:=@PySem.Heap.get?_update_self
abbrev dY:=@List.getElem?_eq_none
abbrev cG:=@PySem.wpAny_field
abbrev fo:=@PyProof.Rows.slot_tuple_getitem
abbrev dB:=@List.mem_filter
abbrev dF:=@List.lookup_cons
abbrev eD:=@Array.getElem?_eq_none
abbrev eE:=@PyProof.Rows.boot_list
abbrev dZ:=@beq_eq_false_iff_ne
abbrev d_:=@PySem.mem_of_lookup
abbrev ef:=@Int.toNat_of_nonneg
abbrev dG:=@List.nil_append
abbrev dH:=@Nat.le_add_left
abbrev fq:=@PyProof.Rows.callWith_type1
abbrev dJ:=@Option.bind_some
abbrev dN:=@List.take_length
abbrev cX:=@Nat.le_of_lt
abbrev dC:=@PySem.W.mg_of
abbrev cO:=@PySem.sizeLine_eq
abbrev eS:=@PySem.Heap.get?_update_other
abbrev dO:=@List.append_nil
abbrev eG:=@List.mem_filterMap
abbrev fu:=@PySem.F.slot_list_append
abbrev fw:=@PySem.F.type_list_append
abbrev cQ:=@True.intro
abbrev dP:=@PySem.wpAny_seqItems
abbrev fz:=@List.length_eq_zero_iff
abbrev eI:=@List.length_range
abbrev eJ:=@decide_eq_true_eq
abbrev eV:=@Array.length_toList
abbrev gE:=@List.findIdx?_eq_some_iff_getElem
abbrev dR:=@Nat.lt_irrefl
abbrev fS:=@List.getElem?_append_right
abbrev eg:=@PySem.Heap.size_push
abbrev eX:=@PySem.wpAny_Call_Name_kw
abbrev cD:=@if_true
abbrev eY:=@Option.toList_some
abbrev fT:=@List.getElem?_append_left
abbrev dD:=@PySem.wpAny_mono
abbrev fC:=@List.length_dropLast
abbrev fD:=@PySem.lookup_relabel_local
abbrev fE:=@Nat.mul_le_mul_right
abbrev eM:=@PySem.wpAny_dictEpoch
abbrev eZ:=@PySem.wpAny_truthy_bool
abbrev e_:=@List.append_assoc
abbrev eh:=@PySem.Paired.length
abbrev fb:=@List.cons_append
abbrev fe:=@PySem.wpAny_isInstance
abbrev fU:=@List.length_eq_one_iff
abbrev fF:=@PySem.Obj.data_mapFields
abbrev ff:=@PySem.wpAny_passesOwn
abbrev fg:=@List.nodup_cons
abbrev fV:=@List.length_replicate
abbrev fW:=@Array.getElem?_toList
abbrev fX:=@List.getElem?_zipWith
abbrev gF:=@PySem.F.slot_tuple_iterator_next
abbrev gG:=@List.nodup_iff_pairwise_ne
abbrev fH:=@List.nodup_append
abbrev gI:=@List.mem_of_find?_eq_some
abbrev fh:=@List.nodup_nil
abbrev fJ:=@PySem.F.plain_max_loop
abbrev eP:=@Int.zero_add
abbrev fY:=@List.filterMap_cons
abbrev fZ:=@List.map_congr_left
abbrev f7:=@List.getElem?_range
abbrev fi:=@List.all_cons
abbrev fK:=@PyProof.Rows.KeyOrd.kle_refl
abbrev f9:=@PySem.wpAny_setField_rec
abbrev gJ:=@List.drop_of_length_le
abbrev fj:=@PySem.wpAny_typeOf
abbrev fM:=@PySem.wpAny_tryCatch
abbrev gK:=@PySem.wpAny_notOrdered_dict
abbrev fN:=@PySem.wpAny_setField
abbrev gL:=@PySem.F.slot_enumerate_next
abbrev gM:=@List.take_append_drop
abbrev gN:=@PySem.wpAny_isOneOf_keyiter
abbrev gO:=@Array.mem_toList_iff
abbrev f_:=@Nat.min_le_right
abbrev gP:=@PySem.Around.under_plainId
abbrev eQ:=@PySem.wpAny_rule
abbrev eR:=@Nat.not_lt
abbrev gf:=@forall_eq_or_imp
abbrev gq:=@PySem.F.slot_dict_iter
abbrev gQ:=@PySem.Obj.data_mapDictKeys
abbrev fO:=@List.any_cons
abbrev fQ:=@PySem.plainId_quiet
abbrev fk:=@PySem.wpAny_letGo
abbrev gv:=@Bool.eq_iff_iff
abbrev gw:=@List.cons.injEq
abbrev gD:=@List.range_succ
abbrev gU:=@PySem.F.args_tuple_add_2
abbrev fR:=@Nat.zero_add
abbrev gW:=@PySem.F.slot_list_extend
abbrev gX:=@PySem.F.type_list_extend
abbrev fm:=@beq_iff_eq
abbrev gR:=@List.ext_getElem?
abbrev gS:=@List.getElem?_set
abbrev Fg:=PySem.W.Frag
noncomputable section
set_option Elab.async false
set_option linter.all false
set_option maxRecDepth 100000
variable{us its its':List PySem.Value}{x name qual:PySem.Str}{u cd doc pm cdv ct oc vl vu:PySem.Value}{a b it c f ti l dx d acc zp tu j1 j2 t1 t2 lm wd fa oa lw c1 ls ln lk T1:PySem.Addr}{P prog:PySem.Program}{w:PySem.World}{h h' base:PySem.Heap}{e tg iter value e1 e2 elt el:PySem.Expr}{ob:PySem.Obj}{s s':PySem.Shared}{g':Array PySem.GenState}{t' i j n k' k1 n1 n2 kd ep L:Nat}{d':PySem.Drawn}{ch fp:List PySem.Addr}{M:PySem.Model}{A:PySem.Around}{Q QQ:PySem.Value->PySem.Shared->Prop}{pos pos' tpos apos p2 cpos py px:PySem.Pos}{op:PySem.CmpOp}{es elts ifs:List PySem.Expr}{body:List PySem.Stmt}{R:PySem.Result->PySem.Shared->Prop}{hi:Option Int}{p:Array Nat}{mA mg:PySem.Str->Option PySem.Value}{pl:PySem.Sem Bool}{ns ps loose caps kn:List PySem.Str}{kw:List (PySem.Str×PySem.Value)}{env:PySem.Env}{outer:List PySem.Env}{fd:PySem.FuncData}{kws:List PySem.Keyword}{nm T:String}{kindOf:PySem.Str->Option PySem.NameKind}{sc scope:PySem.Scope}{an od:Option PySem.Addr}{osl:Array (Option PySem.Value)}{items:Array PySem.Value}{XP:(PySem.Str->Option PySem.Value)->PySem.Heap->Prop}{YP:PySem.World->PySem.Heap->Prop}{cap:List Nat}{use:Option (PySem.Value->PySem.Sem Unit)}{O:PyProof.Rows.KeyOrd}{ts:List (PySem.Addr×List Int)}{mark first:Int}{ki:Int->Int->Prop}{sh:PySem.Expr->Option (List PySem.Expr)}{ents:Array PySem.DictEntry}{done:List ((Int×Int)×Int)}
namespace L2
open PySem PySem.Spec PyProof.Rows
abbrev Key:=Sum Int Str
def XD:Key->Value->Bool
 | .inl k,v=>Value.isInt k v
 | .inr x,v=>Value.isStrOf x v
def CK(w:World):Key->Int
 | .inl k=>hashInt k
 | .inr x=>hashStr w x
theorem QP:∀{k:Key}{v:Value},XD k v=true->(∃i t,k=Sum.inl i/\v=Value.int i t)\/(∃x t,k=Sum.inr x/\v=Value.str x t)
 | .inl i,v,h=>by
  obtain⟨t,e⟩:=Value.isInt_shape (k:=i) (v:=v) h;exact .inl ⟨i,t,rfl,e⟩
 | .inr x,v,h=>by
  obtain⟨t,e⟩:=Value.isStrOf_shape (x:=x) (v:=v) h;exact .inr ⟨x,t,rfl,e⟩
theorem Mq(i:Int)(t:Tok):XD (.inl i) (.int i t)=true:=by simp [XD,Value.isInt]
theorem M6(x:Str)(t:Tok):XD (.inr x) (.str x t)=true:=by simp [XD,Value.isStrOf]
theorem AU(a b:Int):decide ((Sum.inl a:Key)=Sum.inl b)=(a==b):=by
 by_cases e:a=b
 .subst e;simp
 .have h:¬(Sum.inl a:Key)=Sum.inl b:=λq=>e (Sum.inl.inj q);rw [bV h];exact(dZ.mpr e).symm
theorem As(a b:Str):decide ((Sum.inr a:Key)=Sum.inr b)=decide (a=b):=by
 by_cases e:a=b
 .subst e;simp
 .have h:¬(Sum.inr a:Key)=Sum.inr b:=λq=>e (Sum.inr.inj q);rw [bV h,bV e]
theorem T7(a:Int)(b:Str):decide ((Sum.inl a:Key)=Sum.inr b)=false:=bV (λq=>nomatch q)
theorem TR(a:Str)(b:Int):decide ((Sum.inr a:Key)=Sum.inl b)=false:=bV (λq=>nomatch q)
def Qw(prog:Program)(w:World):PySem.KeyKind prog w Key where
 is:=XD
 hash:=CK w
 inj:=λv a b ha hb=>by
  rcases QP ha with⟨i,t,rfl,rfl⟩ | ⟨x,t,rfl,rfl⟩
  .rcases QP hb with⟨j,u,rfl,e⟩ | ⟨y,u,rfl,e⟩
   .injection e with e1 _;rw [e1]
   .exact nomatch e
  .rcases QP hb with⟨j,u,rfl,e⟩ | ⟨y,u,rfl,e⟩
   .exact nomatch e
   .injection e with e1 _;rw [e1]
 byValue:=λk v h=>by
  rcases QP h with⟨i,t,rfl,rfl⟩ | ⟨x,t,rfl,rfl⟩<;>rfl
 pyHash:=λhv h=>by
  rcases QP hv with⟨i,t,rfl,rfl⟩ | ⟨x,t,rfl,rfl⟩
  .exact wpAny_pyHash_int h
  .exact wpAny_pyHash_str h
 eqBool:=λhu hv h=>by
  rcases QP hu with⟨i,t,rfl,rfl⟩ | ⟨x,t,rfl,rfl⟩
  .rcases QP hv with⟨j,u,rfl,rfl⟩ | ⟨y,u,rfl,rfl⟩
   .rw [AU]at h;exact wpAny_eqBool_int h
   .rw [T7]at h;exact SeqAt.EqAt.int_str i t y u _ _ _ _ h
  .rcases QP hv with⟨j,u,rfl,rfl⟩ | ⟨y,u,rfl,rfl⟩
   .rw [TR]at h;exact SeqAt.EqAt.str_int x t j u _ _ _ _ h
   .rw [As]at h;exact wpAny_eqBool_str h
 «strs»:=λk x t v h=>by
  rcases QP h with⟨i,u,rfl,e⟩ | ⟨y,u,rfl,e⟩
  .exact nomatch e
  .injection e with e1 _;subst e1;cases v<;>rfl
theorem W3(prog:Program)(w:World)(i:Int)(t:Tok):(Qw prog w).is (.inl i) (.int i t)=true:=Mq i t
theorem W0(prog:Program)(w:World)(x:Str)(t:Tok):(Qw prog w).is (.inr x) (.str x t)=true:=M6 x t
inductive V where
 | non | bl (b:Bool) | int (i:Int) | str (x:Str) | byt (b:Array UInt8) | flt (b:UInt64) | ref (a:Addr) | ty (n:String)
 deriving DecidableEq
def RelV:V->Value->Prop
 | .non,u=>u=Value.none
 | .bl b,u=>u=Value.bool b
 | .int i,u=>∃t,u=Value.int i t
 | .str x,u=>∃t,u=Value.str x t
 | .byt b,u=>∃t,u=Value.bytes b t
 | .flt b,u=>∃t,u=Value.float b t
 | .ref a,u=>u=Value.ref a
 | .ty n,u=>u=Value.type n
abbrev Vals:List V->List Value->Prop:=Paired RelV
theorem Vals.length{xs:List V}(r:Vals xs us):xs.length=us.length:=eh r
theorem Vals.get:∀{xs:List V}{us:List Value}{i:Nat}{x:V},Vals xs us->xs[i]?=some x->∃u,us[i]?=some u/\RelV x u
 | _,_,_,_,.nil,e=>by simp at e
 | _,_,0,_,.cons r _,e=>by simp at e;subst e;exact⟨_,rfl,r⟩
 | _,_,i+1,x,.cons _ t,e=>by
  obtain⟨u,h1,h2⟩:=Vals.get (i:=i) (x:=x) t (by simpa using e);exact⟨u,by simpa using h1,h2⟩
theorem Vals.set{x:V}(r:RelV x u):∀{xs:List V}{us:List Value}(i:Nat),Vals xs us->Vals (xs.set i x) (us.set i u)
 | _,_,_,.nil=>.nil
 | _,_,0,.cons _ t=>.cons r t
 | _,_,i+1,.cons q t=>.cons q (Vals.set r i t)
theorem Vals.append:∀{xs ys:List V}{us ws:List Value},Vals xs us->Vals ys ws->Vals (xs++ys) (us++ws)
 | _,_,_,_,.nil,s=>s
 | _,_,_,_,.cons r t,s=>.cons r (Vals.append t s)
theorem Vals.take:∀{xs:List V}{us:List Value}(n:Nat),Vals xs us->Vals (xs.take n) (us.take n)
 | _,_,0,_=>.nil
 | _,_,_+1,.nil=>.nil
 | _,_,n+1,.cons r t=>.cons r (Vals.take n t)
theorem Vals.drop:∀{xs:List V}{us:List Value}(n:Nat),Vals xs us->Vals (xs.drop n) (us.drop n)
 | _,_,0,r=>r
 | _,_,_+1,.nil=>.nil
 | _,_,n+1,.cons _ t=>Vals.drop n t
def RelO:Option V->Option Value->Prop
 | some v,some u=>RelV v u
 | none,none=>True
 | _,_=>False
def KV{κ:Type}:List (κ×V)->List (κ×Value)->Prop:=Paired λ(p:κ×V)(q:κ×Value)=>p.1=q.1/\RelV p.2 q.2
def kV:Key->V
 | .inl i=>.int i
 | .inr x=>.str x
inductive HO where
 | lst (xs:List V)
 | tup (xs:List V)
 | dK (kvs:List (Key×V)) | dT (kvs:List (List Key×V))
 | set (S:Int->Bool) (n:Nat)
 | ins (C dx:Addr) (fs:List (Str×V))
 | own (x:Addr)
 | xd (fs:List (Str×V))
 | met (f x:Addr)
 | rng (lo hi:Int)
 | frz (o:Obj) (u:HO)
 | tbl (ps:Array Value)
 | ext (φ:Heap->Prop)
abbrev Hp:=Addr->Option HO
def upd(H:Hp)(a:Addr)(o:HO):Hp:=λb=>if b=a then some o else H b
theorem Qb{H:Hp}{o:HO}:upd H a o a=some o:=by unfold upd;rw [aH rfl]
theorem Qh{H:Hp}{o:HO}(h:b≠a):upd H a o b=H b:=by unfold upd;rw [aG h]
theorem QN{H:Hp}{o u:HO}(h:H a=some o)(h':H b=some u)(d:o≠u):a≠b:=by
 intro e;subst e;rw [h]at h';exact d (aI h')
theorem Qg{H:Hp}{o:HO}(h:H a=some o)(h':H b=none):a≠b:=by
 intro e;subst e;rw [h]at h';cases h'
section
variable(P:Program)(w:World)
def ObjOk(H:Hp)(h:Heap)(a:Addr):HO->Prop
 | .lst xs=>xs.length<=sizeLine/\∃(its:List Value)(n:Nat),Vals xs its/\h.get? a=some { cls:=.type "list",data:=.seq its.toArray n }
 | .tup xs=>xs.length<=sizeLine/\∃its:List Value,Vals xs its/\IsTup h a its.toArray
 | .dK kvs=>kvs.length<=sizeLine/\(a==sysModules)=false/\∃vs,KV kvs vs/\h.DictOf (Qw P w) a vs
 | .dT kvs=>kvs.length<=sizeLine/\(a==sysModules)=false/\∃xs:List (List Key×Addr×Value),
  Paired (λ(p:List Key×V)(q:List Key×Addr×Value)=>p.1=q.1/\H q.2.1=some (.tup (p.1.map kV))/\RelV p.2 q.2.2) kvs xs/\
  ∃o es ep,h.get? a=some o/\o.ExactDict/\o.data=.dict es ep/\es.toList=xs.map (entryOfKey (tupleKind (Qw P w)))/\(xs.map (·.1)).Nodup
 | .set S n=>h.SetOf (intKind P w) a S n
 | .ins C dx fs=>H dx=some (.own a)/\fs.length<=1000/\dx≠a/\h.get? a=some (PySem.W.instObj C dx)/\
  ∃mA,h.Ns1 dx mA/\(∀f,RelO (fs.lookup f) (mA f))/\PySem.Within mA (fs.map (·.1))
 | .own _=>∃o,h.get? a=some o
 | .xd fs=>∃mA,h.Ns1 a mA/\∀f,RelO (fs.lookup f) (mA f)
 | .rng lo hi=>∃t u v,h.get? a=some { cls:=.type "range",data:=.fields #[.int lo t,.int hi u,.int 1 v] }
 | .frz o u=>h.get? a=some o/\ObjOk H h a u
 | .tbl ps=>h.get? a=some { cls:=.none,data:=.fields ps }
 | .met f x=>h.get? a=some (PySem.W.methodObj (.ref f) (.ref x))
 | .ext φ=>φ h/\(∃o,h.get? a=some o)/\∀h1 h2:Heap,φ h1->(∀o,h1.get? a=some o->h2.get? a=some o)->φ h2
def HOk(H:Hp)(h:Heap):Prop:=∀a o,H a=some o->ObjOk P w H h a o
end
section
variable{H H':Hp}{o:HO}
theorem ObjOk.lt(x:ObjOk P w H h a o):a<h.objs.size:=by
 cases o with
 | lst xs=>obtain⟨_,_,_,_,e⟩:=x;exact aP e
 | tup xs=>obtain⟨_,_,_,p⟩:=x;exact p.lt
 | dK kvs=>obtain⟨_,_,_,_,o,_,_,e,_⟩:=x;exact aP e
 | dT kvs=>obtain⟨_,_,_,_,o,_,_,e,_⟩:=x;exact aP e
 | set S n=>obtain⟨o,_,_,_,e,_⟩:=x;exact aP e
 | ins C dx fs=>obtain⟨_,_,_,e,_⟩:=x;exact aP e
 | own y=>obtain⟨_,e⟩:=x;exact aP e
 | xd fs=>obtain⟨_,⟨_,_,_,e,_⟩,_⟩:=x;exact aP e
 | rng lo hi=>obtain⟨_,_,_,e⟩:=x;exact aP e
 | frz G u=>obtain⟨e,_⟩:=x;exact aP e
 | tbl ps=>exact aP (show h.get? a=some _ from x)
 | met f y=>exact aP (show h.get? a=some _ from x)
 | ext J=>obtain⟨_,⟨_,e⟩,_⟩:=x;exact aP e
theorem Paired.mapP{α β:Type}{F G:α->β->Prop}:∀{l₁:List α}{l₂:List β},Paired F l₁ l₂->(∀a b,F a b->G a b)->Paired G l₁ l₂
 | _,_,.nil,_=>.nil
 | _,_,.cons r t,f=>.cons (f _ _ r) (Paired.mapP t f)
theorem ObjOk.stay(x:ObjOk P w H h a o)(k:∀b u,(b=a\/H b=some (.own a))->h.get? b=some u->h'.get? b=some u)
 (ho:∀b,H b=some (.own a)->H' b=some (.own a)) (ht:∀b xs,H b=some (.tup xs)->H' b=some (.tup xs)):ObjOk P w H' h' a o:=by
 induction o with
 | lst xs=>obtain⟨z,its,n,r,e⟩:=x;exact⟨z,its,n,r,k _ _ (.inl rfl) e⟩
 | tup xs=>obtain⟨z,its,r,G,e,c⟩:=x;exact⟨z,its,r,G,k _ _ (.inl rfl) e,c⟩
 | dK kvs=>obtain⟨z,y,vs,r,G,es,ep,e,c⟩:=x;exact⟨z,y,vs,r,G,es,ep,k _ _ (.inl rfl) e,c⟩
 | dT kvs=>
  obtain⟨z,y,xs,r,G,es,ep,e,c⟩:=x;exact⟨z,y,xs,Paired.mapP r λp q z=>⟨z.1,ht _ _ z.2.1,z.2.2⟩,G,es,ep,k _ _ (.inl rfl) e,c⟩
 | set S n=>obtain⟨G,es,ep,t,e,c⟩:=x;exact⟨G,es,ep,t,k _ _ (.inl rfl) e,c⟩
 | ins C dx fs=>
  obtain⟨d,z,ne,e,mA,⟨J,es,ep,L,c⟩,r⟩:=x;exact⟨ho _ d,z,ne,k _ _ (.inl rfl) e,mA,⟨J,es,ep,k _ _ (.inr d) L,c⟩,r⟩
 | own y=>obtain⟨G,e⟩:=x;exact⟨G,k _ _ (.inl rfl) e⟩
 | xd fs=>obtain⟨mA,⟨J,es,ep,e,c⟩,r⟩:=x;exact⟨mA,⟨J,es,ep,k _ _ (.inl rfl) e,c⟩,r⟩
 | rng lo hi=>obtain⟨t,u,v,e⟩:=x;exact⟨t,u,v,k _ _ (.inl rfl) e⟩
 | frz G u M=>obtain⟨e,q⟩:=x;exact⟨k _ _ (.inl rfl) e,M q⟩
 | tbl ps=>
  have e:h.get? a=some { cls:=.none,data:=.fields ps }:=x;show h'.get? a=some { cls:=.none,data:=.fields ps };exact k a _ (.inl rfl) e
 | met f y=>
  have e:h.get? a=some (PySem.W.methodObj (.ref f) (.ref y)):=x;show h'.get? a=some (PySem.W.methodObj (.ref f) (.ref y));exact k a _ (.inl rfl) e
 | ext U=>obtain⟨p,⟨o,e⟩,st⟩:=x;exact⟨st _ _ p λo q=>k _ _ (.inl rfl) q,⟨o,k _ _ (.inl rfl) e⟩,st⟩
theorem HOk.lt(x:HOk P w H h)(e:H a=some o):a<h.objs.size:=(x a o e).lt
theorem HOk.fresh(x:HOk P w H h)(e:h.objs.size<=a):H a=none:=by
 cases q:H a with
 | none=>rfl
 | some u=>exact absurd (cC (x.lt q) e) (dR _)
theorem HOk.kept(x:HOk P w H h)(k:∀b u,h.get? b=some u->h'.get? b=some u):HOk P w H h':=λa o e=>
 (x a o e).stay (λb u _ q=>k b u q) (λ_ q=>q) λ_ _ q=>q
theorem HOk.laid(x:HOk P w H h)(k:∀b u,h.get? b=some u->h'.get? b=some u)(hp:h.objs.size<=a)(new:ObjOk P w (upd H a o) h' a o):HOk P w (upd H a o) h':=λb u e=>by
 have G:=x.fresh hp
 by_cases J:b=a
 .subst J;rw [Qb]at e;cases e;exact new
 .rw [Qh J]at e;exact(x b u e).stay (λc v _ q=>k c v q) (λc q=>by rw [Qh (Qg q G)];exact q) λc xs q=>by rw [Qh (Qg q G)];exact q
end
def Rd(H:Hp)(a:Addr)(u:HO):Prop:=H a=some u\/∃o,H a=some (.frz o u)
theorem Rd.ok{H:Hp}{u:HO}(r:Rd H a u)(x:HOk P w H h):ObjOk P w H h a u:=by
 rcases r with r | ⟨o,r⟩
 .exact x a u r
 .obtain⟨_,q⟩:=x a _ r;exact q
def Mut:Option HO->Prop
 | some (.lst _)=>True
 | some (.dK _)=>True
 | some (.dT _)=>True
 | some (.set _ _)=>True
 | some (.ins _ _ _)=>True
 | some (.ext _)=>True
 | _=>False
section
variable{H:Hp}{x e:Addr}{o':HO}
theorem HOk.write(ok:HOk P w H h)(mu:Mut (H x))(he:e=x\/H e=some (.own x))(k:∀b u,b≠e->h.get? b=some u->h'.get? b=some u)(heo:∃u,h'.get? e=some u)
 (new:ObjOk P w (upd H x o') h' x o'):HOk P w (upd H x o') h':=λb u q=>by
 have J:∀c y,H c=some (.own y)->c≠x:=λc y r z=>by subst z;rw [r]at mu;exact mu
 have M:∀c xs,H c=some (.tup xs)->c≠x:=λc xs r z=>by subst z;rw [r]at mu;exact mu
 by_cases L:b=x
 .subst L;rw [Qb]at q;cases q;exact new
 .rw [Qh L]at q
  by_cases G:b=e
  .have U:H b=some (.own x):=by
    rcases he with z | z
    .exact absurd (G.trans z) L
    .rw [G];exact z
   rw [q]at U;cases U;obtain⟨v,Y⟩:=heo;exact⟨v,by rw [G];exact Y⟩
  .refine(ok b u q).stay (λc v hc r=>k c v ?_ r) (λc r=>by rw [Qh (J c b r)];exact r) λc xs r=>by rw [Qh (M c xs r)];exact r
   rcases hc with rfl | hc
   .exact G
   .rintro rfl;rcases he with z | z
    .exact J c b hc z
    .rw [hc]at z;cases z;exact L rfl
end
structure Un(fs ex:List Addr)(H H':Hp)(h h':Heap):Prop where
 keep:∀b o,h.get? b=some o->H b=none->b∉fs->b∉ex->h'.get? b=some o
 slot:∀b o,h.get? b=some o->H b=none->b∈fs->b∉ex->∃sl,h'.get? b=some { o with slots:=sl }
 free:∀b o,h.get? b=some o->H b=none->b∉ex->H' b=none
 there:∀b o,h.get? b=some o->b∉ex->∃o',h'.get? b=some o'
 tups:∀b xs,H b=some (.tup xs)->H' b=some (.tup xs)
 frzs:∀b o u,H b=some (.frz o u)->H' b=some (.frz o u)
 tbls:∀b ps,H b=some (.tbl ps)->∃more,H' b=some (.tbl (ps++more))
section
variable{fs fs' ex ex':List Addr}{H H1 H2:Hp}{h1 h2:Heap}{x e:Addr}{o:HO}
theorem Un.any(u:Un fs ex H H1 h h1)(q:h.get? b=some ob)(n:H b=none)(hx:b∉ex):∃sl,h1.get? b=some { ob with slots:=sl }:=by
 by_cases G:b∈fs
 .exact u.slot b ob q n G hx
 .exact⟨ob.slots,u.keep b ob q n G hx⟩
theorem Un.kept(k:∀b u,h.get? b=some u->h'.get? b=some u):Un fs ex H H h h':=
 ⟨λb G q _ _ _=>k b G q,λb G q _ _ _=>⟨G.slots,k b G q⟩,λ_ _ _ n _=>n,λb G q _=>⟨G,k b G q⟩,λ_ _ q=>q,λ_ _ _ q=>q,λ_ ps q=>⟨#[],by rw [q];simp⟩⟩
theorem Un.refl:Un fs ex H H h h:=Un.kept λ_ _ q=>q
theorem Un.laid(k:∀b u,h.get? b=some u->h'.get? b=some u)(hp:h.objs.size<=a)(hn:H a=none):Un fs ex H (upd H a o) h h' where
 keep:=λb u q _ _ _=>k b u q
 slot:=λb u q _ _ _=>⟨u.slots,k b u q⟩
 free:=λb u q n _=>by rw [Qh (bD (cC (aP q) hp))];exact n
 there:=λb u q _=>⟨u,k b u q⟩
 tups:=λb xs q=>by rw [Qh (Qg q hn)];exact q
 frzs:=λb u xs q=>by rw [Qh (Qg q hn)];exact q
 tbls:=λb ps q=>⟨#[],by rw [Qh (Qg q hn),q];simp⟩
theorem Un.write(mu:Mut (H x))(he:e=x\/H e=some (.own x))(k:∀b u,b≠e->h.get? b=some u->h'.get? b=some u)(heo:∃u,h'.get? e=some u):Un fs ex H (upd H x o) h h':=by
 have L:∀b,H b=none->b≠x:=λb n z=>by subst z;rw [n]at mu;exact mu
 have M:∀b,H b=none->b≠e:=λb n z=>by
  subst z;rcases he with r | r
  .exact L b n r
  .rw [n]at r;cases r
 have J:∀b u,H b=some u->¬Mut (some u)->b≠x:=λb u q nm z=>by subst z;rw [q]at mu;exact nm mu
 refine⟨λb u q n _ _=>k b u (M b n) q,λb u q n _ _=>⟨u.slots,k b u (M b n) q⟩,λb u q n _=>by rw [Qh (L b n)];exact n,λb u q _=>?_,λb xs q=>by rw [Qh (J b _ q λz=>z)];exact q,λb u xs q=>by rw [Qh (J b _ q λz=>z)];exact q,λb ps q=>⟨#[],by rw [Qh (J b _ q λz=>z),q];simp⟩⟩
 by_cases G:b=e
 .subst G;exact heo
 .exact⟨u,k b u G q⟩
end
def trk(h:Heap)(H:Hp):List Addr:=(List.range h.objs.size).filter λa=>(H a).isSome
def Xg(h:Heap)(H:Hp):Heap:=PySem.W.hideAll h (trk h H)
theorem Me(h:Heap)(H:Hp):(Xg h H).objs.size=h.objs.size:=PySem.W.hideAll_size _ _
theorem Pk{H:Hp}{o:Obj}(e:h.get? b=some o)(n:H b=none):(Xg h H).get? b=some o:=
 PySem.W.hideAll_get _ e λG=>by
  have q:(H b).isSome=true:=(dB.mp G).2;rw [n]at q;simp at q
theorem RV{H:Hp}{o:Obj}(e:(Xg h H).get? b=some o):h.get? b=some o/\H b=none:=by
 have G:h.get? b=some o:=PySem.W.of_hideAll (trk h H) e;refine⟨G,?_⟩;cases q:H b with
 | none=>rfl
 | some x=>
  have J:b∈trk h H:=dB.mpr ⟨cN.mpr (aP G),by simp [q]⟩;have z:(Xg h H).get? b=none:=PySem.W.hideAll_none (trk h H) J;rw [z]at e;cases e
end L2
variable{xs ys dvs zs:List L2.V}{H H' H1 H2 H0:L2.Hp}{o:L2.HO}{v y sv:L2.V}{Pv:Nat->List L2.V->L2.Hp->Prop}{kvs:List (List L2.Key×L2.V)}{itm:Nat->L2.V}
namespace L2
open PySem PySem.Spec PyProof.Rows
structure Mod(K:Fg)(mg:Str->Option Value)(base:Heap):Prop where
 kin:K.In base
 glob:base.Ns mainGlobals mg
 blt:∃mb,base.Ns builtinsNs mb/\∀x:Str,x≠"__name__"->mb x=bootBuiltins x
 nolimit:base.NoLimit
structure Cx where
 prog:Program
 w:World
 K:Fg
 mg:Str->Option Value
 base:Heap
 A:Around
 N:List Str
 s₀:Shared
 H₀:Hp
 env:Env
 outer:List Env
 stack:List Env
 ex:List Addr
 fn:Str->Bool
 calm:Bool
 pn:List (10:)
 xe:Value->Shared->Prop
def frs(l:List Env):List Addr:=l.filterMap (·.frame)
abbrev Cx.fs(X:Cx):List Addr:=frs X.outer
def Vis(sc:Scope)(x:Str):Prop:=sc.names.lookup x=some .local\/sc.names.lookup x=some .cell\/sc.names.lookup x=some .free
def Loc(sc:Scope)(x:Str):Prop:=sc.names.lookup x=some .local\/sc.names.lookup x=some .cell
def CN(env:Env)(h:Heap)(m:Str->Option Value)(x:Str)(u:Value):Prop:=
 (env.kindOf x=some .local/\m x=some u)\/((env.kindOf x=some .cell\/env.kindOf x=some .free)/\∃c,env.cells.lookup x=some c/\h.IsCell c (some u))
structure Cx.Ok(X:Cx):Prop where
 mod:Mod X.K X.mg X.base
 kind:X.env.scope.kind=.function
 glob:X.env.globals=mainGlobals
 blt:X.env.builtins=builtinsNs
 above:X.s₀.heap.objs.size<=X.env.locals
 inj:∀x y c,X.env.cells.lookup x=some c->X.env.cells.lookup y=some c->x=y
 has:∀x,(X.env.kindOf x=some .cell\/X.env.kindOf x=some .free)->∃c,X.env.cells.lookup x=some c
 cab:∀x c,X.fn x=true->X.env.cells.lookup x=some c->X.s₀.heap.objs.size<=c
 hd:X.calm=true->X.A.handled=none
 frames:X.A.frames=some X.stack
 stk:X.stack=X.outer\/(X.stack=X.env::X.outer/\X.env.frame=some X.env.locals)
 exf:∀b∈X.ex,b≠X.env.locals/\∀x c,X.env.cells.lookup x=some c->c≠b
 bs:∀b o,X.base.get? b=some o->X.s₀.heap.get? b=some o/\X.H₀ b=none
 bsz:X.base.objs.size<=X.s₀.heap.objs.size
 noex:∀b o,X.base.get? b=some o->b∉X.ex
 exfs:∀b∈X.ex,b∉X.fs
 funs:X.s₀.heap.FunFrames X.base X.outer
 frf:∀b∈X.fs,X.H₀ b=none
structure Inv(X:Cx)(pins:List (10:))(σ:List (Option V))(H:Hp)(s:Shared):Prop where
 ok:X.Ok
 os:s.os=X.s₀.os
 bare:AllBare s.gens
 base:Un X.fs X.ex X.H₀ H X.s₀.heap s.heap
 loc:∃m,s.heap.Ns X.env.locals m/\∀(i:Nat)(x:Str)(v:V),X.N[i]?=some x->σ[i]?=some (some v)->Vis X.env.scope x->∃u,RelV v u/\CN X.env s.heap m x u
 cell:∀x c,X.env.cells.lookup x=some c->∃v,s.heap.IsCell c v
 free:H X.env.locals=none
 freeC:∀x c,X.env.cells.lookup x=some c->H c=none
 pin:∀p∈X.pn++pins,s.heap.get? p.1=some p.2/\H p.1=none/\p.1≠X.env.locals/\p.1∉X.fs/\∀v,p.2.data≠.cell v
 hok:HOk X.prog X.w H s.heap
 len:σ.length=X.N.length
section
variable{X:Cx}{pins:List (10:)}{σ:List (Option V)}
theorem Cx.Ok.nofr(ok:X.Ok){o:Obj}(e:X.base.get? b=some o):b∉X.fs:=λG=>by
 have:=(ok.funs.mem G).1;rw [e]at this;cases this
theorem Inv.bs(I:Inv X pins σ H s):∀b o,X.base.get? b=some o->s.heap.get? b=some o/\H b=none:=λb o e=>
 ⟨I.base.keep b o (I.ok.bs b o e).1 (I.ok.bs b o e).2 (I.ok.nofr e) (I.ok.noex b o e),I.base.free b o (I.ok.bs b o e).1 (I.ok.bs b o e).2 (I.ok.noex b o e)⟩
theorem Inv.bk(I:Inv X pins σ H s):∀b o,X.base.get? b=some o->s.heap.get? b=some o:=λb o e=>(I.bs b o e).1
theorem Inv.mod(I:Inv X pins σ H s):Mod X.K X.mg X.base:=I.ok.mod
theorem Inv.kIn(I:Inv X pins σ H s):X.K.In s.heap:=I.ok.mod.kin.keeps I.bk
theorem Inv.lt(I:Inv X pins σ H s):X.env.locals<s.heap.objs.size:=let⟨_,G,_⟩:=I.loc;G.lt
theorem Inv.sz(I:Inv X pins σ H s):X.s₀.heap.objs.size<=s.heap.objs.size:=bX I.ok.above (cX I.lt)
theorem Inv.nofs(I:Inv X pins σ H s)(h:s.heap.objs.size<=a):a∉X.fs:=λG=>by
 obtain⟨_,o,J,_⟩:=I.ok.funs.mem G;exact absurd (cC (aP J) (bX I.sz h)) (dR _)
theorem Inv.cne(I:Inv X pins σ H s):∀x c,X.env.cells.lookup x=some c->c≠X.env.locals:=λx c e z=>by
 obtain⟨v,o,G,J⟩:=I.cell x c e;obtain⟨m,⟨o',es,ep,L,M,_⟩,_⟩:=I.loc;rw [z,L]at G;cases G;rw [M]at J;cases J
theorem Inv.funs(I:Inv X pins σ H s):s.heap.FunFrames X.base X.outer:=by
 have all:∀(l:List Env),(∀b∈frs l,b∈X.fs)->X.s₀.heap.FunFrames X.base l->s.heap.FunFrames X.base l:=by
  intro l
  induction l with
  | nil=>intro _ _;trivial
  | cons env r Y=>
   intro U Z;obtain⟨hk,⟨L,o,G,hn,ho,hd⟩,hr⟩:=Z;have J:L∈X.fs:=U L (by unfold frs;rw [fY,G];exact aQ);obtain⟨sl,e⟩:=I.base.slot L o ho (I.ok.frf L J) J λz=>I.ok.exfs L z J;exact⟨hk,⟨L,_,G,hn,e,hd⟩,Y (λb M=>U b (by unfold frs;rw [fY,G];exact aV _ M)) hr⟩
 exact all X.outer (λ_ M=>M) I.ok.funs
theorem Inv.stack(I:Inv X pins σ H s):s.heap.FunFrames X.base X.stack:=by
 rcases I.ok.stk with e | ⟨e,G⟩
 .rw [e];exact I.funs
 .rw [e];obtain⟨m,J,_⟩:=I.loc;refine .cons (by rw [I.ok.kind];decide) G J ?_ I.funs;exact Heap.get?_none_of_le (bX I.ok.bsz I.ok.above)
theorem Inv.stkSub(I:Inv X pins σ H s):∀b∈frs X.stack,b∈X.env.locals::X.fs:=λb G=>by
 rcases I.ok.stk with e | ⟨e,J⟩
 .rw [e]at G;exact aV _ G
 .rw [e]at G;unfold frs at G;rw [fY,J]at G;exact G
theorem Inv.stkFree(I:Inv X pins σ H s):∀b∈frs X.stack,H b=none:=λb hb=>by
 rcases aM.mp (I.stkSub b hb)with e | hb
 .rw [e];exact I.free
 .obtain⟨_,o,G,_⟩:=I.ok.funs.mem hb;exact I.base.free b o G (I.ok.frf b hb) λz=>I.ok.exfs b z hb
theorem Inv.step(I:Inv X pins σ H s)
 (hch:∀b∈ch,(b∈X.ex\/X.s₀.heap.objs.size<=b)/\b≠X.env.locals/\(∀x c,X.env.cells.lookup x=some c->c≠b)/\∀p∈X.pn++pins,p.1≠b)
 (keep:∀b o,b≠X.env.locals->b∉X.fs->b∉ch->s.heap.get? b=some o->H b=none->h'.get? b=some o)
 (slot:∀b o,b≠X.env.locals->b∈X.fs->b∉ch->s.heap.get? b=some o->H b=none->∃sl,h'.get? b=some { o with slots:=sl }) (free:∀b o,b∉ch->s.heap.get? b=some o->H b=none->H' b=none)
 (there:∀b o,b∉ch->s.heap.get? b=some o->∃o',h'.get? b=some o')
 (tups:∀b xs,H b=some (.tup xs)->H' b=some (.tup xs)) (frzs:∀b o u,H b=some (.frz o u)->H' b=some (.frz o u)) (tbls:∀b ps,H b=some (.tbl ps)->∃more,H' b=some (.tbl (ps++more)))
 (ns:∀m,s.heap.Ns X.env.locals m->h'.Ns X.env.locals m) (hok:HOk X.prog X.w H' h') (hg:AllBare g'):
 Inv X pins σ H' { s with heap:=h',gens:=g',drawn:=d',toks:=t' }:=by
 have aa:∀b o,X.s₀.heap.get? b=some o->b≠X.env.locals:=λb o e=>bD (cC (aP e) I.ok.above);have U:∀b o,X.s₀.heap.get? b=some o->b∉X.ex->b∉ch:=λb o e G M=>by
  rcases(hch b M).1 with z | z
  .exact G z
  .exact absurd (cC (aP e) z) (dR _)
 have Y:∀x c,X.env.cells.lookup x=some c->∀v,s.heap.IsCell c v->h'.IsCell c v:=λx c e v ⟨o,Z,hd⟩=>by
  have L:c∉ch:=λz=>(hch c z).2.2.1 x c e rfl
  by_cases hc:c∈X.fs
  .obtain⟨sl,q⟩:=slot c o (I.cne x c e) hc L Z (I.freeC x c e);exact⟨_,q,hd⟩
  .exact⟨o,keep c o (I.cne x c e) hc L Z (I.freeC x c e),hd⟩
 refine⟨I.ok,I.os,hg,⟨λb o e n M G=>?_,λb o e n M G=>?_,λb o e n G=>?_,λb o e G=>?_,λb xs e=>tups b xs (I.base.tups b xs e),λb o xs e=>frzs b o xs (I.base.frzs b o xs e),λb ps e=>?_⟩,?_,λx c e=>?_,?_,λx c e=>?_,λp hp=>?_,hok,I.len⟩
 .exact keep b o (aa b o e) M (U b o e G) (I.base.keep b o e n M G) (I.base.free b o e n G)
 .obtain⟨sl,J⟩:=I.base.slot b o e n M G;obtain⟨ab,e2⟩:=slot b _ (aa b o e) M (U b o e G) J (I.base.free b o e n G);exact⟨ab,e2⟩
 .obtain⟨o',J⟩:=I.base.there b o e G;exact free b o' (U b o e G) J (I.base.free b o e n G)
 .obtain⟨o',J⟩:=I.base.there b o e G;exact there b o' (U b o e G) J
 .obtain⟨m1,J⟩:=I.base.tbls b ps e;obtain⟨m2,e2⟩:=tbls b _ J;exact⟨m1++m2,by rw [e2,Array.append_assoc]⟩
 .obtain⟨m,hn,hl⟩:=I.loc;refine⟨m,ns m hn,λi x v J e2 e3=>?_⟩;obtain⟨u,r,l⟩:=hl i x v J e2 e3;refine⟨u,r,?_⟩;rcases l with l | ⟨k,c,e,z⟩
  .exact .inl l
  .exact .inr ⟨k,c,e,Y x c e _ z⟩
 .obtain⟨v,z⟩:=I.cell x c e;exact⟨v,Y x c e v z⟩
 .obtain⟨m,⟨o,_,_,Z,_⟩,_⟩:=I.loc;exact free _ o (λz=>(hch _ z).2.1 rfl) Z I.free
 .obtain⟨v,o,Z,hd⟩:=I.cell x c e;exact free c o (λz=>(hch c z).2.2.1 x c e rfl) Z (I.freeC x c e)
 .obtain⟨e,n,ne,nf,d⟩:=I.pin p hp;have L:p.1∉ch:=λz=>(hch p.1 z).2.2.2 p hp rfl;exact⟨keep p.1 p.2 ne nf L e n,free p.1 p.2 L e n,ne,nf,d⟩
theorem Inv.un{t':Nat}(I:Inv X pins σ H s)(u:Un X.fs [] H H' s.heap h')(hok:HOk X.prog X.w H' h'):Inv X pins σ H' { s with heap:=h',toks:=t' }:=by
 obtain⟨m,⟨o,es,ep,L,r⟩,_⟩:=id I.loc;obtain⟨sl,Y⟩:=u.any L I.free (17:);exact I.step (g':=s.gens) (d':=s.drawn) (ch:=[]) (λ_ z=>nomatch z) (λb o _ J _ e n=>u.keep b o e n J (17:)) (λb o _ J _ e n=>u.slot b o e n J (17:)) (λb o _ e n=>u.free b o e n (17:)) (λb o _ e=>u.there b o e (17:)) u.tups u.frzs u.tbls (λm' Z=>by
  obtain⟨o',M,U,G,r'⟩:=Z;rw [L]at G;cases G;exact⟨_,M,U,Y,r'⟩) hok I.bare
theorem Inv.call(I:Inv X pins σ H s)(u:Un (frs X.stack) ch H H' s.heap h')(hok:HOk X.prog X.w H' h')(hg:AllBare g')
 (hch:∀b∈ch,(b∈X.ex\/X.s₀.heap.objs.size<=b)/\b≠X.env.locals/\(∀x c,X.env.cells.lookup x=some c->c≠b)/\∀p∈X.pn++pins,p.1≠b):
 Inv X pins σ H' { s with heap:=h',gens:=g',drawn:=d',toks:=t' }:=by
 obtain⟨m,⟨o,es,ep,M,r⟩,_⟩:=id I.loc;obtain⟨sl,L⟩:=u.any M I.free λz=>(hch _ z).2.1 rfl;exact I.step (ch:=ch) hch (λb o L Z G e n=>u.keep b o e n (λz=>(aM.mp (I.stkSub b z)).elim L Z) G) (λb o _ _ G e n=>u.any e n G) (λb o G e n=>u.free b o e n G) (λb o G e=>u.there b o e G) u.tups u.frzs u.tbls (λm' hm=>by
  obtain⟨o',U,Y,J,r'⟩:=hm;rw [M]at J;cases J;exact⟨_,U,Y,L,r'⟩) hok hg
theorem Inv.turned(I:Inv X pins σ H s)(k:∀b o,b≠it->s.heap.get? b=some o->h'.get? b=some o)(hn:H it=none)(hL:it≠X.env.locals)
 (h1:it∈X.ex\/X.s₀.heap.objs.size<=it) (h2:∀x c,X.env.cells.lookup x=some c->c≠it) (h3:∀p∈X.pn++pins,p.1≠it):Inv X pins σ H { s with heap:=h',toks:=t' }:=by
 have J:∀b u,H b=some u->b≠it:=λb u e z=>by rw [z,hn]at e;cases e
 refine I.step (g':=s.gens) (d':=s.drawn) (ch:=[it]) (λb L=>?_) (λb o _ _ G e _=>k b o (λz=>G (by simp [z])) e) (λb o _ _ G e _=>⟨o.slots,k b o (λz=>G (by simp [z])) e⟩) (λ_ _ _ _ n=>n)
  (λb o G e=>⟨o,k b o (λz=>G (by simp [z])) e⟩) (λ_ _ e=>e) (λ_ _ _ e=>e) (λb ps e=>⟨#[],by rw [e];simp⟩) (λm M=>?_) (λb u e=>?_) I.bare
 .have e:b=it:=by simpa using L
  subst e;exact⟨h1,hL,h2,h3⟩
 .obtain⟨o,es,ep,U,r⟩:=M;exact⟨o,es,ep,k _ o (aW hL) U,r⟩
 .refine(I.hok b u e).stay (λc v G q=>k c v ?_ q) (λ_ q=>q) λ_ _ q=>q;rcases G with z | z
  .rw [z];exact J b u e
  .exact J c _ z
theorem Inv.tok(I:Inv X pins σ H s)(t:Nat):Inv X pins σ H { s with toks:=t }:=I.un (h':=s.heap) (t':=t) Un.refl I.hok
theorem Inv.kept(I:Inv X pins σ H s)(k:∀b u,s.heap.get? b=some u->h'.get? b=some u):Inv X pins σ H { s with heap:=h',toks:=t' }:=I.un (Un.kept k) (I.hok.kept k)
theorem Inv.laid(I:Inv X pins σ H s)(k:∀b u,s.heap.get? b=some u->h'.get? b=some u)(hp:s.heap.objs.size<=a)(new:ObjOk X.prog X.w (upd H a o) h' a o):
 Inv X pins σ (upd H a o) { s with heap:=h',toks:=t' }:=I.un (Un.laid k hp (I.hok.fresh hp)) (I.hok.laid k hp new)
theorem Inv.write{x e:Addr}(I:Inv X pins σ H s)(mu:Mut (H x))(he:e=x\/H e=some (.own x))(k:∀b u,b≠e->s.heap.get? b=some u->h'.get? b=some u)(heo:∃u,h'.get? e=some u)
 (new:ObjOk X.prog X.w (upd H x o) h' x o):Inv X pins σ (upd H x o) { s with heap:=h',toks:=t' }:=I.un (Un.write mu he k heo) (I.hok.write mu he k heo new)
theorem Inv.pins_of{pins':List (10:)}(I:Inv X pins σ H s)(h:∀p∈pins',s.heap.get? p.1=some p.2/\H p.1=none/\p.1≠X.env.locals/\p.1∉X.fs/\∀v,p.2.data≠.cell v):Inv X pins' σ H s:=
 ⟨I.ok,I.os,I.bare,I.base,I.loc,I.cell,I.free,I.freeC,λp hp=>(aY.mp hp).elim (λz=>I.pin p (cT _ z)) (h p),I.hok,I.len⟩
theorem WL{N:List Str}(hN:N.Nodup)(a:N[i]?=some x)(b:N[j]?=some x):i=j:=by
 obtain⟨h1,G⟩:=aU.mp a;obtain⟨h2,J⟩:=aU.mp b;exact(List.getElem_inj hN).mp (G.trans J.symm)
theorem XE{M:Model}{A:Around}{E:Value->Shared->Prop}{i:Nat}{x:Str}{v:V}{u:Value}{Q:Unit->Shared->Prop}(I:Inv X pins σ H s)(hN:X.N.Nodup)(hi:X.N[i]?=some x)(hx:Loc X.env.scope x)(r:RelV v u)
 (h:∀s',Inv X pins (σ.set i (some v)) H s'->(∃a,Heap.SameBut a s.heap s'.heap/\(a=X.env.locals\/X.env.cells.lookup x=some a))->Q () s') (hf:X.fn x=true\/X.env.scope.names.lookup x=some .local:=by first | exact .inl rfl | exact .inr rfl | assumption):wpAny M A (storeName X.env x u) Q E s:=by
 obtain⟨m,hn,hl⟩:=id I.loc;have ag:(X.env.scope.kind== .class||(X.env.scope.kind== .module&&X.env.locals !=X.env.globals))=false:=by rw [I.ok.kind];rfl
 have ac:i<σ.length:=by rw [I.len];exact(aU.mp hi).1
 have cne:=I.cne;have L:∀{a:Addr}{h':Heap},(∃o,s.heap.get? a=some o/\H a=none)->Heap.SameBut a s.heap h'->HOk X.prog X.w H h':=λ{a h'} ha G b ob e=>by
  obtain⟨_,_,aa⟩:=ha;refine(I.hok b ob e).stay (λc w' hc q=>(G.2 c ?_).trans q) (λ_ q=>q) λ_ _ q=>q;rintro rfl;rcases hc with rfl | hc
  .rw [aa]at e;cases e
  .rw [aa]at hc;cases hc
 rcases hx with hk | hk
 .refine wpAny_storeName_local hk hn (λh' ai G=>?_) ag;obtain⟨oL,_,_,aj,_⟩:=id hn;refine h _ ⟨I.ok,I.os,I.bare,⟨λb o e n Y hx=>?_,λb o e n Y hx=>?_,I.base.free,λb o e hx=>?_,I.base.tups,I.base.frzs,I.base.tbls⟩,⟨_,ai,λj y v' J U e3=>?_⟩,λy c e=>?_,I.free,I.freeC,λp hp=>?_,L ⟨oL,aj,I.free⟩ G,by simpa using I.len⟩ ⟨_,G,.inl rfl⟩
  .exact(G.2 b (bD (cC (aP e) I.ok.above))).trans (I.base.keep b o e n Y hx)
  .obtain⟨sl,J⟩:=I.base.slot b o e n Y hx;exact⟨sl,(G.2 b (bD (cC (aP e) I.ok.above))).trans J⟩
  .obtain⟨o',J⟩:=I.base.there b o e hx;exact⟨o',(G.2 b (bD (cC (aP e) I.ok.above))).trans J⟩
  .by_cases Z:j=i
   .subst Z;rw [hi]at J;cases J;rw [List.getElem?_set_self ac]at U;cases U;exact⟨u,r,.inl ⟨hk,by simp⟩⟩
   .rw [List.getElem?_set_ne (aW Z)]at U;obtain⟨u',r',q⟩:=hl j y v' J U e3;refine⟨u',r',?_⟩;rcases q with⟨k,e⟩ | ⟨k,c,e,z⟩
    .refine .inl ⟨k,?_⟩;have:y≠x:=λe=>Z (WL hN J (e ▸ hi));simp [this,e]
    .exact .inr ⟨k,c,e,z.sameBut G (cne y c e)⟩
  .obtain⟨w',z⟩:=I.cell y c e;exact⟨w',z.sameBut G (cne y c e)⟩
  .obtain⟨e,n,ne,nf,d⟩:=I.pin p hp;exact⟨(G.2 p.1 ne).trans e,n,ne,nf,d⟩
 .have ab:X.fn x=true:=by
   rcases hf with z | z
   .exact z
   .rw [z]at hk;cases hk
  obtain⟨c,hc⟩:=I.ok.has x (.inl hk);obtain⟨w',z⟩:=I.cell x c hc;refine wpAny_storeName_cell I.ok.kind hk hc z (λh' ad G=>?_);obtain⟨oc,ae,ah⟩:=id z;refine h { s with heap:=h' } ⟨I.ok,I.os,I.bare,⟨λb o e n Y hx=>?_,λb o e n Y hx=>?_,I.base.free,λb o e hx=>?_,I.base.tups,I.base.frzs,I.base.tbls⟩,⟨m,hn.sameBut G (aW (cne x c hc)),λj y v' J U e3=>?_⟩,λy c' e=>?_,I.free,I.freeC,λp hp=>?_,L ⟨oc,ae,I.freeC x c hc⟩ G,by simpa using I.len⟩ ⟨c,G,.inr hc⟩
  .exact(G.2 b (bD (cC (aP e) (I.ok.cab x c ab hc)))).trans (I.base.keep b o e n Y hx)
  .obtain⟨sl,J⟩:=I.base.slot b o e n Y hx;exact⟨sl,(G.2 b (bD (cC (aP e) (I.ok.cab x c ab hc)))).trans J⟩
  .obtain⟨o',J⟩:=I.base.there b o e hx;exact⟨o',(G.2 b (bD (cC (aP e) (I.ok.cab x c ab hc)))).trans J⟩
  .by_cases Z:j=i
   .subst Z;rw [hi]at J;cases J;rw [List.getElem?_set_self ac]at U;cases U;exact⟨u,r,.inr ⟨.inl hk,c,hc,ad⟩⟩
   .rw [List.getElem?_set_ne (aW Z)]at U;obtain⟨u',r',q⟩:=hl j y v' J U e3;refine⟨u',r',?_⟩;rcases q with q | ⟨k,c',e,z'⟩
    .exact .inl q
    .refine .inr ⟨k,c',e,z'.sameBut G ?_⟩;rintro rfl;exact Z (WL hN J (I.ok.inj _ _ _ e hc ▸ hi))
  .by_cases af:c'=c
   .subst af;exact⟨_,ad⟩
   .obtain⟨w2,z2⟩:=I.cell y c' e;exact⟨w2,z2.sameBut G af⟩
  .obtain⟨e,n,ne,nf,d⟩:=I.pin p hp;refine⟨(G.2 p.1 ?_).trans e,n,ne,nf,d⟩;intro q;rw [q,ae]at e;have q':oc=p.2:=aI e;exact d w' (by rw [<-q'];exact ah)
theorem Vg{E:Value->Shared->Prop}{Q:Unit->Shared->Prop}(I:Inv X pins σ H s)(hN:X.N.Nodup)(hi:X.N[i]?=some x)(hx:Loc X.env.scope x)(r:RelV v u)
 (h:∀s',Inv X pins (σ.set i (some v)) H s'->Q () s') (hf:X.fn x=true\/X.env.scope.names.lookup x=some .local:=by first | exact .inl rfl | exact .inr rfl | assumption):wpAny M A (storeName X.env x u) Q E s:=
 XE I hN hi hx r (λs' G _=>h s' G) hf
theorem Inv.call'(I:Inv X pins σ H s)(ho:s'.os=s.os)(u:Un (frs X.stack) ch H H' s.heap s'.heap)(hok:HOk X.prog X.w H' s'.heap)(hg:AllBare s'.gens)
 (hch:∀b∈ch,(b∈X.ex\/X.s₀.heap.objs.size<=b)/\b≠X.env.locals/\(∀x c,X.env.cells.lookup x=some c->c≠b)/\∀p∈X.pn++pins,p.1≠b):Inv X pins σ H' s':=by
 obtain⟨h',g',d',t',o'⟩:=s';have e:o'=s.os:=ho;subst e;exact I.call (g':=g') (t':=t') (d':=d') u hok hg hch
end
abbrev XK:=Value->Option Addr->Hp->Prop
abbrev St:=List (Option V)
abbrev VK:=V->Hp->Prop
abbrev TE:=St->Hp->VK->Prop
abbrev TT:=St->Hp->(Bool->Hp->Prop)->Prop
abbrev TA:=St->Hp->(List V->Hp->Prop)->Prop
structure Ends where
 nx:St->Hp->Prop
 rt:VK
 bk:St->Hp->Prop:=λ_ _=>False
 ct:St->Hp->Prop:=λ_ _=>False
abbrev TS:=Ends->St->Hp->Prop
def EP(X:Cx)(pins:List (10:))(σ:St)(Q:VK)(u:Value)(s':Shared):Prop:=∃v H',Inv X pins σ H' s'/\RelV v u/\Q v H'
def TP(X:Cx)(pins:List (10:))(σ:St)(Q:Bool->Hp->Prop)(b:Bool)(s':Shared):Prop:=∃H',Inv X pins σ H' s'/\Q b H'
def AP(X:Cx)(pins:List (10:))(σ:St)(Q:List V->Hp->Prop)(us:List Value)(s':Shared):Prop:=∃vs H',Inv X pins σ H' s'/\Vals vs us/\Q vs H'
def SP(X:Cx)(pins:List (10:))(D:Ends)(f:Flow)(s':Shared):Prop:=
 match f with
 | .next=>∃σ' H',Inv X pins σ' H' s'/\D.nx σ' H'
 | .brk=>∃σ' H',Inv X pins σ' H' s'/\D.bk σ' H'
 | .cont=>∃σ' H',Inv X pins σ' H' s'/\D.ct σ' H'
 | .ret u=>∃v σ' H',Inv X pins σ' H' s'/\RelV v u/\D.rt v H'
def PE(X:Cx)(e:Expr)(t:TE):Prop:=
 ∀(pins:List (10:))(s:Shared)(σ:St)(H:Hp)(Q:VK),Inv X pins σ H s->t σ H Q->wpAny (6:) X.A (eval e X.env) (EP X pins σ Q) X.xe s
def PT(X:Cx)(e:Expr)(t:TT):Prop:=
 ∀(pins:List (10:))(s:Shared)(σ:St)(H:Hp)(Q:Bool->Hp->Prop),Inv X pins σ H s->t σ H Q->wpAny (6:) X.A (isTrue e X.env (eval e X.env)) (TP X pins σ Q) X.xe s
def PW(X:Cx)(e:Expr)(t:TT):Prop:=
 ∀(whole:Sem Value)(pins:List (10:))(s:Shared)(σ:St)(H:Hp)(Q:Bool->Hp->Prop),Inv X pins σ H s->t σ H Q->wpAny (6:) X.A (isTrue e X.env whole) (TP X pins σ Q) X.xe s
theorem PW.pt{X:Cx}{t:TT}(h:PW X e t):PT X e t:=h _
def PA(X:Cx)(es:List Expr)(t:TA):Prop:=
 ∀(pos:Pos)(pins:List (10:))(s:Shared)(σ:St)(H:Hp)(Q:List V->Hp->Prop),Inv X pins σ H s->t σ H Q->wpAny (6:) X.A (spliced (backTo pos (starEach es X.env))) (AP X pins σ Q) X.xe s
def PS(X:Cx)(st:Stmt)(t:TS):Prop:=
 ∀(pins:List (10:))(s:Shared)(σ:St)(H:Hp)(D:Ends),Inv X pins σ H s->t D σ H->wpAny (6:) X.A (exec st X.env) (SP X pins D) X.xe s
def PSs(X:Cx)(st:List Stmt)(t:TS):Prop:=
 ∀(pins:List (10:))(s:Shared)(σ:St)(H:Hp)(D:Ends),Inv X pins σ H s->t D σ H->wpAny (6:) X.A (execs st X.env) (SP X pins D) X.xe s
theorem thn{α:Type}{t:Sem α}{Q Q':α->Shared->Prop}{E:Value->Shared->Prop}(h:wpAny M A t Q E s)(hQ:∀a s,Q a s->Q' a s):wpAny M A t Q' E s:=dD h hQ λ_ _ x=>x
end L2
variable{X:L2.Cx}{σ cs:L2.St}{ta te to tl tv tit:L2.TE}{tc tt:L2.TT}{tk:L2.TA}{r:Fg->List L2.V->L2.Hp->L2.VK->Prop}{a1 a3 a4 a5:L2.TS}{nr:List (List L2.V->L2.Hp->L2.VK->Prop)}{sr:List (L2.St->List L2.V->L2.Hp->(L2.St->L2.Hp->Prop)->Prop)}{EE:L2.St->L2.XK}{rt:L2.VK}
namespace L2
open PySem PySem.Spec PyProof.Rows
section
def ZL(i:Nat):TE:=λσ H Q=>∃v,σ[i]?=some (some v)/\Q v H
def tC(v:V):TE:=λ_ H Q=>Q v H
theorem Gs{i:Nat}{x:Str}{pos:Pos}(hN:X.N[i]?=some x)(hv:Vis X.env.scope x)(hd:(x==("__debug__":Str))=false:=by decide)(hcd:(x==("__classdict__":Str))=false:=by decide):PE X (.Name x pos) (ZL i):=by
 intro pins s σ H Q I h;obtain⟨v,e,h⟩:=h;obtain⟨m,L,M⟩:=I.loc;obtain⟨u,r,l⟩:=M i x v hN e hv;have fin:EP X pins σ Q u s:=⟨v,H,I,r,h⟩;rcases l with⟨hk,U⟩ | ⟨hk,c,J,G⟩
 .exact wpAny_Name (wpAny_loadName_local I.ok.kind hk L U fin) hd
 .rcases hk with hk | hk
  .exact wpAny_Name (wpAny_loadName_cell I.ok.kind hk J G fin) hd
  .exact wpAny_Name (wpAny_loadName_free I.ok.kind hk J G fin hcd) hd
theorem Qf{i j pos}:PE X (.Constant (.int i) j pos) (tC (.int i)):=λ_ _ _ H _ I h=>wpAny_Constant_int ⟨.int i,H,I.tok _,⟨_,rfl⟩,h⟩
theorem ZE{b j pos}:PE X (.Constant (.bool b) j pos) (tC (.bl b)):=λ_ _ _ H _ I h=>Constant_bool ⟨.bl b,H,I,rfl,h⟩
theorem TL{j pos}:PE X (.Constant .none j pos) (tC .non):=λ_ _ _ H _ I h=>Constant_none ⟨.non,H,I,rfl,h⟩
theorem Zi{x j pos}:PE X (.Constant (.str x) j pos) (tC (.str x)):=λ_ _ _ H _ I h=>Calls.Constant_str ⟨.str x,H,I.tok _,⟨_,rfl⟩,h⟩
def Gl(X:Cx)(x:Str):Prop:=X.env.kindOf x=some .globalImplicit
theorem Jl{E:Value->Shared->Prop}{pins:List (10:)}(I:Inv X pins σ H s)(hg:Gl X x)(hm:X.mg x=some u)(h:Q u s)
 (hd:(x==("__debug__":Str))=false:=by decide):wpAny (6:) X.A (eval (.Name x pos) X.env) Q E s:=
 Calls.Name_function_global I.ok.kind hg (Calls.loadGlobal_global (by rw [I.ok.glob];exact I.mod.glob.keeps I.bk) hm h) hd
theorem Z2{E:Value->Shared->Prop}{pins:List (10:)}(I:Inv X pins σ H s)(hg:Gl X x)(hm:X.mg x=none)(hv:bootBuiltins x=some u)(h:Q u s)
 (hn:x≠"__name__":=by decide) (hd:(x==("__debug__":Str))=false:=by decide):wpAny (6:) X.A (eval (.Name x pos) X.env) Q E s:=by
 obtain⟨G,h1,h2⟩:=I.mod.blt;exact Calls.Name_function_global I.ok.kind hg (Calls.loadGlobal_builtin (by rw [I.ok.glob];exact I.mod.glob.keeps I.bk) hm (by rw [I.ok.blt];exact h1.keeps I.bk) ((h2 x hn).trans hv) h) hd
theorem Uv{x:Str}{v:V}{u:Value}{pos:Pos}(hg:Gl X x)(hm:X.mg x=some u)(r:RelV v u)(hd:(x==("__debug__":Str))=false:=by decide):PE X (.Name x pos) (tC v):=
 λ_ _ _ H _ I h=>Jl I hg hm ⟨v,H,I,r,h⟩ hd
theorem Za{x:Str}{v:V}{u:Value}{pos:Pos}(hg:Gl X x)(hm:X.mg x=none)(hv:bootBuiltins x=some u)(r:RelV v u)(hn:x≠"__name__":=by decide)(hd:(x==("__debug__":Str))=false:=by decide):PE X (.Name x pos) (tC v):=
 λ_ _ _ H _ I h=>Z2 I hg hm hv ⟨v,H,I,r,h⟩ hn hd
variable{a b:Expr}{tb:TE}
def PC(X:Cx)(op:CmpOp)(a b:Expr)(t:TE):Prop:=
 ∀(pins:List (10:))(s:Shared)(σ:St)(H:Hp)(Q:VK),Inv X pins σ H s->t σ H Q->
  wpAny (6:) X.A (eval a X.env) (λv s₁=>wpAny (6:) X.A (eval b X.env) (λu s₂=>wpAny (6:) X.A (compareOp op v u) (EP X pins σ Q) X.xe s₂) X.xe s₁) X.xe s
def tB(t:TE):TT:=λσ H Q=>t σ H λx H1=>∃c,x=.bl c/\Q c H1
theorem AF{t:TE}(h:PC X op a b t)(h1:behindInMarks op b=false:=by first | exact nobehind _ (11:) (11:) | rfl):PT X (.Compare a [op] [b] pos) (tB t):=by
 intro pins s σ H Q I G;refine wpAny_isTrue_Compare1 (thn (h pins s σ H _ I G) λv U h1=>thn h1 λu Y h2=>thn h2 λc Z ⟨x,H1,J,L,M⟩=>?_) h1;obtain⟨d,rfl,q⟩:=M;cases L;exact eZ ⟨H1,J,q⟩
theorem QF{t:TE}(h:PE X e t)(he:∀whole,isTrue e X.env whole=(do let v <-whole;standAt e.pos;holding [v] (truthy v)):=by intro _;rfl):PT X e (tB t):=by
 intro pins s σ H Q I G;refine isTrue_plain (thn (h pins s σ H _ I G) λv U ⟨x,H1,J,L,M⟩=>?_) (he _);obtain⟨d,rfl,q⟩:=M;cases L;exact eZ ⟨H1,J,q⟩
variable{tA tB':TT}{rest:List Expr}
def DA(t u:TT):TT:=λσ H Q=>t σ H λc H1=>if c=true then u σ H1 Q else Q false H1
def tOr(t u:TT):TT:=λσ H Q=>t σ H λc H1=>if c=true then Q true H1 else u σ H1 Q
def Ds(t:TT):TT:=λσ H Q=>t σ H λc H1=>Q (!c) H1
theorem pw_and1(ha:PT X a tA):PW X (.BoolOp .And [a] pos) tA:=by
 intro wh pins s σ H Q I h;refine isTrue_and (thn (ha pins s σ H Q I h) λc G e=>?_);cases c with
 | true=>exact isTrue_and_nil e
 | false=>exact e
theorem pw_or1(ha:PT X a tA):PW X (.BoolOp .Or [a] pos) tA:=by
 intro wh pins s σ H Q I h;refine isTrue_or (thn (ha pins s σ H Q I h) λc G e=>?_);cases c with
 | false=>exact isTrue_or_nil e
 | true=>exact e
theorem pw_and(ha:PT X a tA)(hb:PW X (.BoolOp .And (b::rest) pos) tB'):PW X (.BoolOp .And (a::b::rest) pos) (DA tA tB'):=by
 intro wh pins s σ H Q I h;refine isTrue_and (thn (ha pins s σ H _ I h) λc L ⟨H1,G,J⟩=>?_);cases c with
 | true=>exact hb wh pins L σ H1 Q G J
 | false=>exact⟨H1,G,J⟩
theorem pw_or(ha:PT X a tA)(hb:PW X (.BoolOp .Or (b::rest) pos) tB'):PW X (.BoolOp .Or (a::b::rest) pos) (tOr tA tB'):=by
 intro wh pins s σ H Q I h;refine isTrue_or (thn (ha pins s σ H _ I h) λc L ⟨H1,G,J⟩=>?_);cases c with
 | true=>exact⟨H1,G,J⟩
 | false=>exact hb wh pins L σ H1 Q G J
theorem QW(ha:PT X a tA):PT X (.UnaryOp .Not a pos) (Ds tA):=by
 intro pins s σ H Q I h;exact isTrue_not (ha pins s σ H (λc H1=>Q (!c) H1) I h)
def BC(ta tb:TE):TE:=λσ H Q=>ta σ H λx H1=>∃c,x=.bl c/\if c=true then tb σ H1 Q else Q (.bl false) H1
def Dz(ta tb:TE):TE:=λσ H Q=>ta σ H λx H1=>∃c,x=.bl c/\if c=true then Q (.bl true) H1 else tb σ H1 Q
def CJ(ta:TE):TE:=λσ H Q=>ta σ H λx H1=>∃c,x=.bl c/\Q (.bl (!c)) H1
theorem Ps{op}{t:TE}(h:PE X a t):PE X (.BoolOp op [a] pos) t:=λpins s σ H Q I G=>BoolOp_one (h pins s σ H Q I G)
theorem O6(ha:PE X a ta)(hb:PE X (.BoolOp .And (b::rest) pos) tb):PE X (.BoolOp .And (a::b::rest) pos) (BC ta tb):=by
 intro pins s σ H Q I h;refine BoolOp_and (thn (ha pins s σ H _ I h) λv L ⟨x,H1,J,M,G⟩=>?_);obtain⟨c,rfl,G⟩:=G;cases M;refine eZ ?_;cases c with
 | true=>exact hb pins L σ H1 Q J G
 | false=>exact⟨.bl false,H1,J,rfl,G⟩
theorem Bo(ha:PE X a ta)(hb:PE X (.BoolOp .Or (b::rest) pos) tb):PE X (.BoolOp .Or (a::b::rest) pos) (Dz ta tb):=by
 intro pins s σ H Q I h;refine BoolOp_or (thn (ha pins s σ H _ I h) λv L ⟨x,H1,J,M,G⟩=>?_);obtain⟨c,rfl,G⟩:=G;cases M;refine eZ ?_;cases c with
 | false=>exact hb pins L σ H1 Q J G
 | true=>exact⟨.bl true,H1,J,rfl,G⟩
theorem NM(ha:PE X a ta):PE X (.UnaryOp .Not a pos) (CJ ta):=by
 intro pins s σ H Q I h;refine UnaryOp_ (thn (ha pins s σ H _ I h) λv M ⟨x,H1,J,L,G⟩=>?_);obtain⟨c,rfl,G⟩:=G;cases L;exact not_of (eZ ⟨.bl (!c),H1,J,rfl,G⟩)
def tIf(t:TT)(ta tb:TE):TE:=λσ H Q=>t σ H λc H1=>if c=true then ta σ H1 Q else tb σ H1 Q
theorem Ox{c:Expr}(hc:PT X c tA)(ha:PE X a ta)(hb:PE X b tb):PE X (.IfExp c a b pos) (tIf tA ta tb):=by
 intro pins s σ H Q I h;refine wpAny_IfExp (thn (hc pins s σ H _ I h) λd G ⟨H1,J,L⟩=>?_);cases d with
 | true=>exact ha pins G σ H1 Q J L
 | false=>exact hb pins G σ H1 Q J L
end
def SqL(K:Fg)(H:Hp)(a:Addr)(xs:List V):Prop:=
 Rd H a (.lst xs) \/
  ∃(o:Obj)(its:Array Value)(n:Nat),K.lookup a=some o/\o.cls=.type "list"/\ o.dict=none/\o.data=.seq its n/\its.size<=sizeLine/\Vals xs its.toList
def SqT(K:Fg)(H:Hp)(a:Addr)(xs:List V):Prop:=
 Rd H a (.tup xs) \/
  ∃(o:Obj)(its:Array Value)(n:Nat),K.lookup a=some o/\o.cls=.type "tuple"/\ o.data=.seq its n/\its.size<=sizeLine/\Vals xs its.toList
def Dq:Value->Option V
 | .none=>some .non
 | .bool b=>some (.bl b)
 | .int i _=>some (.int i)
 | .str x _=>some (.str x)
 | .bytes b _=>some (.byt b)
 | .float b _=>some (.flt b)
 | .ref a=>some (.ref a)
 | .type n=>some (.ty n)
 | _=>none
theorem RelV.abs{x:V}(r:RelV x u):Dq u=some x:=by
 cases x with
 | non=>cases r;rfl
 | bl _=>cases r;rfl
 | int _=>obtain⟨t,rfl⟩:=r;rfl
 | str _=>obtain⟨t,rfl⟩:=r;rfl
 | byt _=>obtain⟨t,rfl⟩:=r;rfl
 | flt _=>obtain⟨t,rfl⟩:=r;rfl
 | ref _=>cases r;rfl
 | ty _=>cases r;rfl
theorem RelV.inj{x:V}(r:RelV x u)(q:RelV y u):x=y:=aI (r.abs.symm.trans q.abs)
theorem Vals.inj:∀{xs ys:List V}{us:List Value},Vals xs us->Vals ys us->xs=ys
 | _,_,_,.nil,.nil=>rfl
 | _,_,_,.cons r t,.cons G J=>by rw [r.inj G,Vals.inj t J]
section
variable{pins:List (10:)}
theorem SqL.of{K:Fg}(h:H a=some (.lst xs)):SqL K H a xs:=.inl (.inl h)
theorem SqT.of{K:Fg}(h:H a=some (.tup xs)):SqT K H a xs:=.inl (.inl h)
theorem Inv.list(I:Inv X pins σ H s)(h:SqL X.K H a xs):∃its:List Value,Vals xs its/\PlainL s.heap a its.toArray/\xs.length<=sizeLine:=by
 rcases h with h | ⟨o,its,n,G,J,L,M,hz,r⟩
 .obtain⟨z,its,n,r,e⟩:=h.ok I.hok;exact⟨its,r,⟨_,n,e,rfl,rfl,rfl⟩,z⟩
 .refine⟨its.toList,r,⟨o,n,I.kIn a o G,J,L,by simpa using M⟩,?_⟩;have e:=r.length;simp only [eV]at e;lia
theorem Inv.tuple(I:Inv X pins σ H s)(h:SqT X.K H a xs):∃its:List Value,Vals xs its/\IsTup s.heap a its.toArray/\xs.length<=sizeLine:=by
 rcases h with h | ⟨o,its,n,G,J,L,hz,r⟩
 .obtain⟨z,its,r,p⟩:=h.ok I.hok;exact⟨its,r,p,z⟩
 .refine⟨its.toList,r,⟨o,I.kIn a o G,J,n,by simpa using L⟩,?_⟩;have e:=r.length;simp only [eV]at e;lia
theorem Inv.list_inj(I:Inv X pins σ H s)(h:SqL X.K H a xs)(h':SqL X.K H a ys):xs=ys:=by
 obtain⟨its,r,⟨o,n,e,_,_,d⟩,_⟩:=I.list h;obtain⟨G,M,⟨o',Y,J,_,_,L⟩,_⟩:=I.list h';rw [e]at J;cases J;rw [d]at L;injection L with U _;have:its=G:=by simpa using congrArg Array.toList U
 subst this;exact r.inj M
theorem Inv.tuple_inj(I:Inv X pins σ H s)(h:SqT X.K H a xs)(h':SqT X.K H a ys):xs=ys:=by
 obtain⟨its,r,⟨o,e,_,n,d⟩,_⟩:=I.tuple h;obtain⟨G,M,⟨o',J,_,Y,L⟩,_⟩:=I.tuple h';rw [e]at J;cases J;rw [d]at L;injection L with U _;have:its=G:=by simpa using congrArg Array.toList U
 subst this;exact r.inj M
end
abbrev Cx.wish(X:Cx)(E:Value->Shared->Prop):Cx:={ X with xe:=E }
abbrev Cx.nox(X:Cx):Cx:=X.wish λ_ _=>False
theorem Cx.Ok.wish(ok:X.Ok)(E:Value->Shared->Prop):(X.wish E).Ok:=
 ⟨ok.mod,ok.kind,ok.glob,ok.blt,ok.above,ok.inj,ok.has,ok.cab,ok.hd,ok.frames,ok.stk,ok.exf,ok.bs,ok.bsz,ok.noex,ok.exfs,ok.funs,ok.frf⟩
theorem Cx.Ok.unwish{E:Value->Shared->Prop}(ok:(X.wish E).Ok):X.Ok:=
 ⟨ok.mod,ok.kind,ok.glob,ok.blt,ok.above,ok.inj,ok.has,ok.cab,ok.hd,ok.frames,ok.stk,ok.exf,ok.bs,ok.bsz,ok.noex,ok.exfs,ok.funs,ok.frf⟩
section
variable{pins:List (10:)}{E:Value->Shared->Prop}
theorem Inv.wish(I:Inv X pins σ H s)(E:Value->Shared->Prop):Inv (X.wish E) pins σ H s:=⟨I.ok.wish E,I.os,I.bare,I.base,I.loc,I.cell,I.free,I.freeC,I.pin,I.hok,I.len⟩
theorem Inv.unwish(I:Inv (X.wish E) pins σ H s):Inv X pins σ H s:=⟨I.ok.unwish,I.os,I.bare,I.base,I.loc,I.cell,I.free,I.freeC,I.pin,I.hok,I.len⟩
theorem SP.unwish{D:Ends}{f:Flow}(h:SP (X.wish E) pins D f s'):SP X pins D f s':=by
 cases f with
 | next=>obtain⟨G,H',I,q⟩:=h;exact⟨G,H',I.unwish,q⟩
 | brk=>obtain⟨G,H',I,q⟩:=h;exact⟨G,H',I.unwish,q⟩
 | cont=>obtain⟨G,H',I,q⟩:=h;exact⟨G,H',I.unwish,q⟩
 | ret u=>obtain⟨v,G,H',I,r,q⟩:=h;exact⟨v,G,H',I.unwish,r,q⟩
theorem PE.nox{t:TE}(h:PE X.nox e t):PE X e t:=λpins s σ H Q I G=>
 dD (h pins s σ H Q (I.wish _) G) (λ_ _ ⟨v,H',J,r,q⟩=>⟨v,H',J.unwish,r,q⟩) λ_ _ z=>False.elim z
theorem PSs.nox{st:List Stmt}{t:TS}(h:PSs X.nox st t):PSs X st t:=λpins s σ H D I G=>
 dD (h pins s σ H D (I.wish _) G) (λ_ _ q=>q.unwish) λ_ _ z=>False.elim z
end
section
variable{st:Stmt}{rest:List Stmt}{t u:TS}
def B9:TS:=λD σ H=>D.nx σ H
def QR(t u:TS):TS:=λD σ H=>t { D with nx:=u D } σ H
theorem Qs:PSs X [] B9:=λ_ _ σ H _ I h=>wpAny_execs_nil ⟨σ,H,I,h⟩
theorem Qe(h1:PS X st t)(h2:PSs X rest u):PSs X (st::rest) (QR t u):=by
 intro pins s σ H D I h;refine wpAny_execs_cons (thn (h1 pins s σ H { D with nx:=u D } I h) λf G q=>?_);cases f with
 | next=>
  obtain⟨J,H',L,q⟩:=q;exact h2 pins G J H' D L q
 | ret v=>exact q
 | brk=>exact q
 | cont=>exact q
theorem Qi(h1:PS X st t):PSs X [st] t:=by
 intro pins s σ H D I h;refine wpAny_execs_cons (thn (h1 pins s σ H D I h) λf G q=>?_);cases f with
 | next=>exact wpAny_execs_nil q
 | ret v=>exact q
 | brk=>exact q
 | cont=>exact q
theorem Inv.quiet{pins:List (10:)}(I:Inv X pins σ H s):interactive X.env=false:=by simp [interactive,I.ok.kind]
def AZ(te:TE):TS:=λD σ H=>te σ H λ_ H1=>D.nx σ H1
theorem Zb(he:PE X e te)(hs:swapsWith e none pos.line X.env=pure false:=by rfl):PS X (.Expr e pos) (AZ te):=by
 intro pins s σ H D I h;exact wpAny_Expr_any (thn (he pins s σ H _ I h) λv L ⟨x,H1,G,M,J⟩=>⟨σ,H1,G,J⟩) I.quiet hs
def C3(te:TE):TS:=λD σ H=>te σ H D.rt
theorem Ql(he:PE X e te):PS X (.Return (some e) pos) (C3 te):=by
 intro pins s σ H D I h;exact wpAny_Return_some (thn (he pins s σ H _ I h) λv M ⟨x,H1,G,J,L⟩=>⟨x,σ,H1,G,J,L⟩)
def Dw(c:TT)(t u:TS):TS:=λD σ H=>c σ H λb H1=>if b=true then t D σ H1 else u D σ H1
theorem QK{c:Expr}{a b:List Stmt}(hc:PT X c tc)(ha:PSs X a t)(hb:PSs X b u):PS X (.If c a b pos) (Dw tc t u):=by
 intro pins s σ H D I h;refine wpAny_If (thn (hc pins s σ H _ I h) λd G ⟨H1,J,L⟩=>?_);cases d with
 | true=>exact ha pins G σ H1 D J L
 | false=>exact hb pins G σ H1 D J L
def Aj:TS:=λ_ _ _=>False
theorem UC{sts:List Stmt}:PSs X sts Aj:=λ_ _ _ _ _ _ h=>h.elim
end
abbrev TG:=V->St->Hp->(St->Hp->Prop)->Prop
abbrev TGs:=List V->St->Hp->(St->Hp->Prop)->Prop
def PG(X:Cx)(target:Expr)(t:TG):Prop:=
 ∀(pins:List (10:))(s:Shared)(σ:St)(H:Hp)(v:V)(u:Value)(Q:St->Hp->Prop),Inv X pins σ H s->RelV v u->t v σ H Q->
  wpAny (6:) X.A (assign target X.env u) (λ_ s'=>∃σ' H',Inv X pins σ' H' s'/\Q σ' H') X.xe s
def PGs(X:Cx)(ts:List Expr)(t:TGs):Prop:=
 ∀(pins:List (10:))(s:Shared)(σ:St)(H:Hp)(vs:List V)(us:List Value)(Q:St->Hp->Prop),Inv X pins σ H s->Vals vs us->t vs σ H Q->
  wpAny (6:) X.A (assignInOrder ((assignEach ts X.env).map (·.2)) us) (λ_ s'=>∃σ' H',Inv X pins σ' H' s'/\Q σ' H') X.xe s
abbrev T0:=V->V->V->Hp->(Hp->Prop)->Prop
def Cu(X:Cx)(t:T0):Prop:=
 ∀(pins:List (10:))(s:Shared)(σ:St)(H:Hp)(o i v:V)(ov iv u:Value)(Q:Hp->Prop),Inv X pins σ H s->RelV o ov->RelV i iv->RelV v u->t o i v H Q->
  wpAny (6:) X.A (setItem ov iv u) (λ_ s'=>∃H',Inv X pins σ H' s'/\Q H') X.xe s
def Q8(i:Nat):TG:=λv σ H Q=>Q (σ.set i (some v)) H
theorem Qo{i:Nat}{x:Str}(hN:X.N.Nodup)(hi:X.N[i]?=some x)(hx:Loc X.env.scope x)(hf:X.fn x=true\/X.env.scope.names.lookup x=some .local:=by first | exact .inl rfl | exact .inr rfl | assumption):PG X (.Name x pos) (Q8 i):=by
 intro pins s σ H v u Q I r h;exact wpAny_assign_Name (Vg I hN hi hx r (λs' G=>⟨_,H,G,h⟩) hf)
def L5:TGs:=λvs σ H Q=>vs=[]/\Q σ H
def YT(t:TG)(u:TGs):TGs:=λvs σ H Q=>∃v r,vs=v::r/\t v σ H λσ' H'=>u r σ' H' Q
theorem QZ:PGs X [] L5:=by
 intro pins s σ H vs G Q I r h;obtain⟨e,h⟩:=h;subst e;cases r;exact assignInOrder_nil ⟨σ,H,I,h⟩
theorem Qr{t:TG}{u:TGs}(h1:PG X e t)(h2:PGs X es u)
 (hs:(assignEach (e::es) X.env).map (·.2)=assign e X.env::(assignEach es X.env).map (·.2):=by rfl):PGs X (e::es) (YT t u):=by
 intro pins s σ H vs Z Q I r h;obtain⟨v,vr,G,h⟩:=h;subst G;cases r with
 | cons r J=>
  rw [hs];refine assignInOrder_cons (thn (h1 pins s σ H _ _ _ I r h) λ_ L ⟨M,H1,U,Y⟩=>?_);exact h2 pins L M H1 _ _ Q U J Y
def P0(K:Fg)(n:Nat)(t:TGs):TG:=λv σ H Q=>∃a xs,v=.ref a/\SqT K H a xs/\xs.length=n/\t xs σ H Q
theorem Zd{es:List Expr}{k:Nat}{t:TGs}{n:Nat}(hc:X.calm=true)(h:PGs X es t)
 (hn:(assignEach es X.env).length=n:=by rfl) (hst:(assignEach es X.env).findIdx? (·.1)=none:=by rfl):PG X (.Tuple es k pos) (P0 X.K n t):=by
 intro pins s σ H v u Q I r G;obtain⟨a,xs,L,M,U,G⟩:=G;subst L;cases r;obtain⟨its,J,Y,hz⟩:=I.tuple M;refine assign_Tuple_tuple (I.ok.hd hc) Y (by simp [hn,<-U,J.length]) hst λh' Z=>?_;have I1:Inv X pins σ H { s with heap:=h' }:=I.kept (t':=s.toks) λb o e=>Z b o (bD (aP e)) e;exact h pins _ σ H xs _ Q I1 (by simpa using J) G
def C5(to ti:TE)(t:T0):TG:=λv σ H Q=>to σ H λo H1=>ti σ H1 λi H2=>t o i v H2 λH3=>Q σ H3
theorem TV{o i:Expr}{ti:TE}{t:T0}(ho:PE X o to)(hi:PE X i ti)(hs:Cu X t)
 (ha:∀v,assign (.Subscript o i pos) X.env v=(do
  let ov <-holding [v] (eval o X.env)
  let iv <-holding [v,ov] (eval i X.env)
  standAt pos
  holding [v,ov,iv] (setItem ov iv v)
  release [v,ov,iv] []):=by intro _;rfl):PG X (.Subscript o i pos) (C5 to ti t):=by
 intro pins s σ H v u Q I r h;rw [ha];refine aB (cF (thn (ho pins s σ H _ I h) λov G ⟨x,H1,J,L,M⟩=>?_));refine aB (cF (thn (hi pins G σ H1 _ J M) λiv U ⟨y,H2,Y,Z,q2⟩=>?_));refine aB (wpAny_standAt (aB (cF (thn (hs pins U σ H2 x y v ov iv u _ Y L Z r q2) λ_ s3 ⟨H3,I3,q3⟩=>?_))));exact wpAny_release ⟨σ,H3,I3,q3⟩
def Ad(te:TE)(g:TG):TS:=λD σ H=>te σ H λx H1=>g x σ H1 D.nx
theorem X9{g:TG}(he:PE X e te)(hg:PG X tg g)(hs:swapsWithSole [tg] e pos.line X.env=pure false:=by rfl)(hw:swappedStores [tg] e X.env=pure none:=by rfl)
 (h1:(assignEach [tg] X.env).map (·.2)=[assign tg X.env]:=by rfl):PS X (.Assign [tg] e pos) (Ad te g):=by
 intro pins s σ H D I h;refine wpAny_Assign_stores (thn (he pins s σ H _ I h) λv G ⟨x,H1,J,L,M⟩=>?_) hs hw;rw [h1];exact thn (hg pins G σ H1 x v _ J L M) λ_ U q=>q
theorem Qv{i:Nat}{x:Str}{e:Expr}{te:TE}{pos':Pos}(hN:X.N.Nodup)(hi:X.N[i]?=some x)(hx:Loc X.env.scope x)(he:PE X e te)(hs:swapsWith e (some (.Name x pos')) pos.line X.env=pure false:=by rfl)(hf:X.fn x=true\/X.env.scope.names.lookup x=some .local:=by first | exact .inl rfl | exact .inr rfl | assumption):
 PS X (.Assign [.Name x pos'] e pos) (Ad te (Q8 i)):=by
 intro pins s σ H D I h;refine wpAny_Assign_Name (thn (he pins s σ H _ I h) λv U ⟨y,H1,G,J,L⟩=>?_) hs;exact Vg G hN hi hx J (λY M=>⟨_,H1,M,L⟩) hf
def Oa(c:TT)(tb:TS):TS:=λD σ H=>∃W:Nat->St->Hp->Prop,(∃m,W m σ H)/\∀m σ H,W m σ H->
 c σ H λb H1=>if b=true then ∃N:St->Hp->Prop,(∀σ' H',N σ' H'->∃m',m'<m/\W m' σ' H')/\tb { D with nx:=N,ct:=N,bk:=D.nx } σ H1 else D.nx σ H1
theorem J5{c:Expr}{tb:TS}(hp:PassesOwn (6:) X.A X.env X.xe)(hc:PT X c tc)(hb:PSs X body tb):PS X (.While c body [] pos) (Oa tc tb):=by
 intro pins s σ H D I h;obtain⟨W,⟨m0,w0⟩,Y⟩:=h;refine wpAny_While (codeAny_whileLoop (λn s'=>∃aa H',Inv X pins aa H' s'/\W n aa H') ?_ m0 ⟨σ,H,I,w0⟩);rintro n s1 ⟨L,H1,I1,w1⟩;refine ff hp (thn (hc pins s1 L H1 _ I1 (Y n L H1 w1)) λb s2 ⟨H2,I2,M⟩=>?_);cases b with
 | true=>
  obtain⟨N,hN,M⟩:=M;rw [aH rfl];refine ff hp (thn (hb pins s2 L H2 _ I2 M) λf s3 U=>?_);cases f with
  | next=>
   obtain⟨G,J,Z,n3⟩:=U;obtain⟨m',hm,w3⟩:=hN G J n3;exact⟨m',hm,G,J,Z,w3⟩
  | cont=>
   obtain⟨G,J,Z,n3⟩:=U;obtain⟨m',hm,w3⟩:=hN G J n3;exact⟨m',hm,G,J,Z,w3⟩
  | brk=>exact U
  | ret v=>exact U
 | false=>
  rw [aG aS];exact wpAny_execs_nil ⟨L,H2,I2,M⟩
structure It where
 go:Nat->Hp->Prop
 yld:Nat->Hp->V->Hp->Prop
 stop:Nat->Hp->Prop
def Y0(X:Cx)(pins:List (10:))(H:Hp)(b:Addr):Prop:=
 H b=none/\b≠X.env.locals/\b∉X.fs/\(b∈X.ex\/X.s₀.heap.objs.size<=b)/\(∀x c,X.env.cells.lookup x=some c->c≠b)/\∀p∈X.pn++pins,p.1≠b
theorem Inv.fpOk{pins:List (10:)}(I:Inv X pins σ H s)(hb:s.heap.objs.size<=b)(hn:H' b=none):Y0 X pins H' b:=by
 refine⟨hn,Nat.ne_of_gt (cC I.lt hb),I.nofs hb,.inr (bX I.sz hb),λx c e z=>?_,λp hp z=>?_⟩
 .obtain⟨v,q⟩:=I.cell x c e;exact absurd (cC q.lt (by rw [z];exact hb)) (dR _)
 .exact absurd (cC (aP (I.pin p hp).1) (by rw [z];exact hb)) (dR _)
structure Turn(P:Program)(w:World)(K:Fg)(tg:Expr)(J:It)(fp:List Addr)(it:Addr)(tn:Nat->Heap->Prop):Prop where
 mem:it∈fp
 obj:∀i h,tn i h->∀b∈fp,∃o,h.get? b=some o/\∀v,o.data≠.cell v
 keep:∀i h h',tn i h->(∀b∈fp,∀o,h.get? b=some o->h'.get? b=some o)->tn i h'
 item:∀(X:Cx),X.prog=P->X.w=w->X.K=K->X.calm=true->∀(i:Nat)(pins:List (10:))(s:Shared)(σ:St)(H:Hp)(E:Value->Shared->Prop),Inv X pins σ H s->(∀b∈fp,Y0 X pins H b)->tn i s.heap->J.go i H->
  wpAny (model P w) X.A (pyNext (.ref it)) (λr s1=>∃u,r=some u/\
   wpAny (model P w) X.A (letOwnedTupleGo tg (.ref it) u) (λ_ s2=>∃x H',Inv X pins σ H' s2/\RelV x u/\J.yld i H x H'/\tn (i+1) s2.heap/\∀b∈fp,H' b=none) E s1) E s
 done:∀(X:Cx),X.prog=P->X.w=w->X.K=K->X.calm=true->∀(i:Nat)(pins:List (10:))(s:Shared)(σ:St)(H:Hp)(E:Value->Shared->Prop),Inv X pins σ H s->(∀b∈fp,Y0 X pins H b)->tn i s.heap->J.stop i H->
  wpAny (model P w) X.A (pyNext (.ref it)) (λr s1=>r=none/\Inv X pins σ H s1) E s
 self:∀(A:Around)(i:Nat)(s:Shared)(Q:Value->Shared->Prop)(E:Value->Shared->Prop),tn i s.heap->Q (.ref it) s->wpAny (model P w) A (pyIter (.ref it)) Q E s
abbrev TI:=St->Hp->(It->Hp->Prop)->Prop
def PIE(X:Cx)(pins:List (10:))(σ:St)(tg:Expr)(R:It->Hp->Prop)(itv:Value)(s2:Shared):Prop:=
 ∃(it:Addr)(fp:List Addr)(tn:Nat->Heap->Prop)(J:It)(H':Hp),itv=.ref it/\Inv X pins σ H' s2/\Turn X.prog X.w X.K tg J fp it tn/\tn 0 s2.heap/\(∀b∈fp,Y0 X pins H' b)/\R J H'
def PI(X:Cx)(tg iter:Expr)(wi:TI):Prop:=
 ∀(pins:List (10:))(s:Shared)(σ:St)(H:Hp)(R:It->Hp->Prop),Inv X pins σ H s->wi σ H R->
  wpAny (6:) X.A (eval iter X.env) (λv s1=>wpAny (6:) X.A (pyIter v) (PIE X pins σ tg R) X.xe s1) X.xe s
theorem NF{M:Model}{A:Around}{E:Value->Shared->Prop}{s:Shared}{tg:Expr}{it:Addr}{u:Value}{o:Obj}{n:String}{vs:Array Value}{Q:Unit->Shared->Prop}(ho:s.heap.get? it=some o)(hc:o.cls=.type n)(hd:o.data=.fields vs)
 (hn:["enumerate","zip","dict_itemiterator","dict_reverseitemiterator","odict_iterator","itertools.zip_longest","itertools.pairwise"].contains n=false) (hQ:Q () s):wpAny M A (letOwnedTupleGo tg (.ref it) u) Q E s:=by
 unfold letOwnedTupleGo;cases tg<;>first
  | exact aF hQ
  | (cases u<;>first
   | exact aF hQ
   | (refine aB (wpAny_load ho ?_)
      rw [hc,hd];show wpAny M A (if(["enumerate","zip","dict_itemiterator","dict_reverseitemiterator","odict_iterator","itertools.zip_longest","itertools.pairwise"].contains n&&vs[0]? ==some (rawInt _))=true then _ else _) Q E s;rw [aG (by intro h;rw [hn,Bool.false_and]at h;cases h)];exact aF hQ))
def Itl(K:Fg)(a:Addr):It:=
 ⟨λi H=>∃xs x,SqL K H a xs/\xs[i]?=some x,λi H x H'=>H'=H/\∀xs,SqL K H a xs->xs[i]?=some x,λi H=>∃xs,SqL K H a xs/\xs.length<=i⟩
def Itt(K:Fg)(a:Addr):It:=
 ⟨λi H=>∃xs x,SqT K H a xs/\xs[i]?=some x,λi H x H'=>H'=H/\∀xs,SqT K H a xs->xs[i]?=some x,λi H=>∃xs,SqT K H a xs/\xs.length<=i⟩
def Itr(lo:Int)(n:Nat):It:=⟨λi _=>i<n,λi H x H'=>H'=H/\x=.int (lo+i),λi _=>n<=i⟩
theorem Mc{K:Fg}(a it:Addr):Turn P w K tg (Itl K a) [it] it (λi h=>h.IsListIter it a i) where
 mem:=by simp
 obj:=λi h st b G=>by
  have e:b=it:=by simpa using G
  subst e;obtain⟨o,e,c,d⟩:=st;exact⟨o,e,λv z=>by rw [d]at z;cases z⟩
 keep:=λi h h' st k=>st.at λo e=>k it (17:) o e
 item:=by
  intro X U Y Z hc i pins s σ H E I J st hg;subst U Y Z;obtain⟨xs,x,L,hx⟩:=hg;obtain⟨its,rv,p,hz⟩:=I.list L;obtain⟨u,hu,ru⟩:=rv.get hx;obtain⟨f0,f1,f2,f3,f4,f5⟩:=J it (17:);refine wpAny_pyNext_list_item st p.isList (x:=u) (by simpa using hu) λh' M sb=>?_;have I1:Inv X pins σ H { s with heap:=h' }:=I.turned (t':=s.toks) (λb o G e=>(sb.2 b G).trans e) f0 f1 f3 f4 f5;obtain⟨o,e,c,d⟩:=id M;exact⟨u,rfl,NF (s:={ s with heap:=h' }) e c d (11:) ⟨x,H,I1,ru,⟨rfl,λys hy=>by rw [I.list_inj hy L];exact hx⟩,M,λb G=>(J b G).1⟩⟩
 done:=by
  intro X U Y Z hc i pins s σ H E I J st hg;subst U Y Z;obtain⟨xs,L,hx⟩:=hg;obtain⟨its,rv,p,hz⟩:=I.list L;obtain⟨f0,f1,f2,f3,f4,f5⟩:=J it (17:);have hl:=rv.length;exact wpAny_pyNext_list_end (I.ok.hd hc) st p.isList (by simp;lia) λh' eb=>⟨rfl,I.turned (t':=s.toks) (λb o G e=>eb b o G e) f0 f1 f3 f4 f5⟩
 self:=λ_ _ _ _ _ st h=>wpAny_pyIter_listiter st h
theorem VQ{K:Fg}(a it:Addr):Turn P w K tg (Itt K a) [it] it (λi h=>h.IsTupleIter it a i) where
 mem:=by simp
 obj:=λi h st b G=>by
  have e:b=it:=by simpa using G
  subst e;obtain⟨o,e,c,d⟩:=st;exact⟨o,e,λv z=>by rw [d]at z;cases z⟩
 keep:=λi h h' st k=>st.at λo e=>k it (17:) o e
 item:=by
  intro X U Y Z hc i pins s σ H E I J st hg;subst U Y Z;obtain⟨xs,x,L,hx⟩:=hg;obtain⟨its,rv,p,hz⟩:=I.tuple L;obtain⟨u,hu,ru⟩:=rv.get hx;obtain⟨f0,f1,f2,f3,f4,f5⟩:=J it (17:);refine wpAny_pyNext_tuple_item st (show s.heap.IsTuple a its.toArray from p) (x:=u) (by simpa using hu) λh' M sb=>?_;have I1:Inv X pins σ H { s with heap:=h' }:=I.turned (t':=s.toks) (λb o G e=>(sb.2 b G).trans e) f0 f1 f3 f4 f5;obtain⟨o,e,c,d⟩:=id M;exact⟨u,rfl,NF (s:={ s with heap:=h' }) e c d (11:) ⟨x,H,I1,ru,⟨rfl,λys hy=>by rw [I.tuple_inj hy L];exact hx⟩,M,λb G=>(J b G).1⟩⟩
 done:=by
  intro X U Y Z hc i pins s σ H E I J st hg;subst U Y Z;obtain⟨xs,L,hx⟩:=hg;obtain⟨its,rv,p,hz⟩:=I.tuple L;obtain⟨f0,f1,f2,f3,f4,f5⟩:=J it (17:);have hl:=rv.length;exact wpAny_pyNext_tuple_end (I.ok.hd hc) st (show s.heap.IsTuple a its.toArray from p) (by simp;lia) λh' eb=>⟨rfl,I.turned (t':=s.toks) (λb o G e=>eb b o G e) f0 f1 f3 f4 f5⟩
 self:=λ_ _ _ _ _ st h=>wpAny_pyIter_tupleiter st h
theorem VP{K:Fg}(it:Addr)(lo:Int)(n:Nat):Turn P w K tg (Itr lo n) [it] it (λi h=>IsRangeIter h it (lo+(i:Nat)*1) ((n:Int)-(i:Nat)) 1) where
 mem:=by simp
 obj:=λi h st b G=>by
  have e:b=it:=by simpa using G
  subst e;exact⟨_,st,λv z=>by
   have z':Data.fields _=Data.cell v:=z;cases z'⟩
 keep:=λi h h' st k=>k it (17:) _ st
 item:=by
  intro X M U Y Z i pins s σ H E I J st hg;subst M U Y;obtain⟨f0,f1,f2,f3,f4,f5⟩:=J it (17:);have W:=Walks.range (prog:=X.prog) (w:=X.w) (I.ok.hd Z) it lo 1 n;refine W.item i s _ _ hg st λv h' tk hv L kk=>?_;obtain⟨t,rfl⟩:=hv;have I1:Inv X pins σ H { s with heap:=h',toks:=tk }:=I.turned (λb o G e=>kk b o (by simpa using G) e) f0 f1 f3 f4 f5;refine⟨_,rfl,NF (s:={ s with heap:=h',toks:=tk }) (n:="range_iterator") L rfl rfl (11:) ⟨.int (lo+i),H,I1,⟨t,?_⟩,⟨rfl,rfl⟩,L,λb G=>(J b G).1⟩⟩;rw [Int.mul_one]
 done:=by
  intro X M U Y Z i pins s σ H E I J st hg;subst M U Y;obtain⟨f0,f1,f2,f3,f4,f5⟩:=J it (17:);exact wpAny_pyNext_range_end (I.ok.hd Z) st (by have:n<=i:=hg;lia) λh' eb=>⟨rfl,I.turned (t':=s.toks) (λb o G e=>eb b o G e) f0 f1 f3 f4 f5⟩
 self:=λ_ _ _ _ _ st h=>wpAny_pyIter_rangeiter st h
end L2
variable{g:L2.TG}{wi:L2.TI}
namespace L2
open PySem PySem.Spec PyProof.Rows
def BO(K:Fg)(tl:TE):TI:=λσ H R=>tl σ H λx H1=>∃a,x=.ref a/\(∃xs,SqL K H1 a xs)/\R (Itl K a) H1
def DG(K:Fg)(tl:TE):TI:=λσ H R=>tl σ H λx H1=>∃a,x=.ref a/\(∃xs,SqT K H1 a xs)/\R (Itt K a) H1
theorem QH{l:Expr}(hl:PE X l tl):PI X tg l (BO X.K tl):=by
 intro pins s σ H R I h;refine thn (hl pins s σ H _ I h) λv G ⟨x,H1,J,L,M⟩=>?_;obtain⟨a,e,⟨xs,U⟩,q⟩:=M;subst e;cases L;obtain⟨its,Z,p,hz⟩:=J.list U;refine wpAny_pyIter_list p.isList ?_;refine⟨G.heap.objs.size,[G.heap.objs.size],_,_,H1,rfl,J.kept (t':=G.toks) λb o e=>aN _ e,Mc a _,⟨_,bE _ rfl,rfl,rfl⟩,λb Y=>?_,q⟩;have e:b=G.heap.objs.size:=by simpa using Y
 subst e;exact J.fpOk (4:) (J.hok.fresh (4:))
theorem Yu{l:Expr}(hl:PE X l tl):PI X tg l (DG X.K tl):=by
 intro pins s σ H R I h;refine thn (hl pins s σ H _ I h) λv G ⟨x,H1,J,L,M⟩=>?_;obtain⟨a,e,⟨xs,U⟩,q⟩:=M;subst e;cases L;obtain⟨its,Z,p,hz⟩:=J.tuple U;refine wpAny_pyIter_tuple (show G.heap.IsTuple a its.toArray from p) ?_;refine⟨G.heap.objs.size,[G.heap.objs.size],_,_,H1,rfl,J.kept (t':=G.toks) λb o e=>aN _ e,VQ a _,⟨_,bE _ rfl,rfl,rfl⟩,λb Y=>?_,q⟩;have e:b=G.heap.objs.size:=by simpa using Y
 subst e;exact J.fpOk (4:) (J.hok.fresh (4:))
theorem Nu{pins:List (10:)}{R:It->Hp->Prop}{E:Value->Shared->Prop}{lo hi:Int}{t u v:Tok}{tk:Nat}(I:Inv X pins σ H s)(h1:-(2^62)<=lo)(h2:lo<2^62)(h3:-(2^62)<=hi)(h4:hi<2^62)
 (q:R (Itr lo (hi-lo).toNat) H):wpAny (6:) X.A (pyIter (.ref s.heap.objs.size)) (PIE X pins σ tg R) E { s with heap:=s.heap.push { cls:=.type "range",data:=.fields #[.int lo t,.int hi u,.int 1 v] },toks:=tk }:=by
 refine wpAny_pyIter_range (IsRange.new ..) (small_one h1 h2 h3 h4) ?_;have G:Inv X pins σ H { s with heap:=s.heap.push { cls:=.type "range",data:=.fields #[.int lo t,.int hi u,.int 1 v] },toks:=tk }:=I.kept λb o e=>aN _ e;refine⟨(s.heap.push { cls:=.type "range",data:=.fields #[.int lo t,.int hi u,.int 1 v] }).objs.size,[(s.heap.push { cls:=.type "range",data:=.fields #[.int lo t,.int hi u,.int 1 v] }).objs.size],_,_,H,rfl,G.kept (t':=tk) λb o e=>aN _ e,VP _ lo (hi-lo).toNat,?_,λb J=>?_,q⟩
 .have L:lo+((0:Nat):Int)*1=lo:=by simp
  have M:(((hi-lo).toNat:Nat):Int)-((0:Nat):Int)=Builtin.Range.rangeSize lo hi 1:=by rw [rangeSize_one];split<;>lia
  show IsRangeIter _ _ (lo+((0:Nat):Int)*1) ((((hi-lo).toNat:Nat):Int)-((0:Nat):Int)) 1;rw [L,M];exact bE _ rfl
 .have e:b=(s.heap.push { cls:=.type "range",data:=.fields #[.int lo t,.int hi u,.int 1 v] }).objs.size:=by simpa using J
  subst e;exact G.fpOk (4:) (G.hok.fresh (4:))
def BN(ta:TA):TI:=λσ H R=>ta σ H λvs H1=>∃j:Int,vs=[.int j]/\-(2^62)<=j/\j<2^62/\R (Itr 0 j.toNat) H1
theorem Q5{a:Expr}{ta:TA}{p:Pos}(hg:Gl X "range")(hm:X.mg "range"=none)(ha:PA X [a] ta)(hs:starEach [a] X.env=[(false,eval a X.env)]:=by rfl):PI X tg (.Call (.Name "range" p) [a] [] pos) (BN ta):=by
 intro pins s σ H R I h;refine Call_ (Z2 I hg hm boot_range (fq (thn (ha pos pins s σ H _ I h) λY Z ⟨vs,H1,J,L,G⟩=>?_) hs rfl));obtain⟨j,e,G,M,q⟩:=G;subst e;cases L with
 | cons r U=>
  cases U;obtain⟨t,rfl⟩:=r;exact call_range_1 (Nu J (5:) (5:) G M (by simpa using q))
def Dv(wi:TI)(g:TG)(tb:TS):TS:=λD σ H=>wi σ H λJ H1=>∃W:Nat->Nat->St->Hp->Prop,(∃m,W 0 m σ H1)/\∀i m σ H,W i m σ H->
 (J.stop i H/\D.nx σ H)\/(J.go i H/\∃N:St->Hp->Prop,(∀σ' H',N σ' H'->∃m',m'<m/\W (i+1) m' σ' H')/\∀x H',J.yld i H x H'->g x σ H' λσ2 H2=>tb { D with nx:=N,ct:=N,bk:=D.nx } σ2 H2)
def JW(fp:List Addr)(h:Heap):List (10:):=fp.filterMap λb=>(h.get? b).map λo=>(b,o)
theorem Z3{o:Obj}(hb:b∈fp)(e:h.get? b=some o):(b,o)∈JW fp h:=eG.mpr ⟨b,hb,by rw [e];rfl⟩
theorem Ml{p:Addr×Obj}(hp:p∈JW fp h):p.1∈fp/\h.get? p.1=some p.2:=by
 obtain⟨b,G,e⟩:=eG.mp hp;cases q:h.get? b with
 | none=>rw [q]at e;cases e
 | some o=>
  rw [q]at e;have J:(b,o)=p:=aI e;subst J;exact⟨G,q⟩
theorem Inv.pinned{pins:List (10:)}(I:Inv X pins σ H s)(hf:∀b∈fp,Y0 X pins H b)(ho:∀b∈fp,∃o,s.heap.get? b=some o/\∀v,o.data≠.cell v):Inv X (pins++JW fp s.heap) σ H s:=
 I.pins_of λp hp=>(aY.mp hp).elim (λz=>I.pin p (cB _ z)) λz=>by
  obtain⟨G,e⟩:=Ml z;obtain⟨L,f1,f2,_⟩:=hf p.1 G;obtain⟨o,J,d⟩:=ho p.1 G;rw [e]at J;cases J;exact⟨e,L,f1,f2,d⟩
theorem Inv.unpinned{pins pl:List (10:)}(I:Inv X (pins++pl) σ H s):Inv X pins σ H s:=I.pins_of λp hp=>I.pin p (cB _ (cT _ hp))
theorem QJ{tb:TS}(hp:PassesOwn (6:) X.A X.env X.xe)(hc:X.calm=true)(hi:PI X tg iter wi)(hg:PG X tg g)(hb:PSs X body tb)
 (hs:∀x,foldedSetIterable iter X.env x=pure x:=by intro _;rfl):PS X (.For tg iter body [] pos) (Dv wi g tb):=by
 intro pins s σ H D I h;refine wpAny_For (thn (hi pins s σ H _ I h) λv s1 h1=>thn h1 λal s2 h2=>?_) hs;obtain⟨it,fp,tn,J,H2,e,I2,T,ah,f2,W,⟨m0,w0⟩,af⟩:=h2;subst e;have Y:∀{H':Hp},(∀b∈fp,H' b=none)->∀b∈fp,Y0 X pins H' b:=λhn b hb=>⟨hn b hb,(f2 b hb).2⟩;refine codeAny_forLoop_any (λn s'=>∃i aa H',Inv X pins aa H' s'/\tn i s'.heap/\(∀b∈fp,H' b=none)/\W i n aa H') ?_ m0 ⟨0,σ,H2,I2,ah,λb hb=>(f2 b hb).1,w0⟩;rintro n s3 ⟨i,ab,H3,I3,ad,ae,w3⟩;rcases af i n ab H3 w3 with⟨ag,qn⟩ | ⟨go,N,hN,step⟩
 .refine ff hp (thn (T.done X rfl rfl rfl hc i pins s3 ab H3 X.xe I3 (Y ae) ad ag) λr s4 ⟨hr,I4⟩=>?_);subst hr;exact wpAny_execs_nil ⟨ab,H3,I4,qn⟩
 .refine ff hp (thn (T.item X rfl rfl rfl hc i pins s3 ab H3 X.xe I3 (Y ae) ad go) λr s4 ⟨u,hr,h4⟩=>?_);subst hr;refine ff hp (thn h4 λ_ s5 ⟨x,H5,I5,r5,y5,ac,ai⟩=>?_);have aj:=I5.pinned (Y ai) (T.obj _ _ ac);refine ff hp (thn (hg _ s5 ab H5 x u _ aj r5 (step x H5 y5)) λ_ s6 ⟨ak,H6,I6,q6⟩=>?_);refine ff hp (thn (hb _ s6 ak H6 _ I6 q6) λf s7 U=>?_);have Z:∀{G:St}{L:Hp},Inv X (pins++JW fp s5.heap) G L s7->N G L->∃m,m<n/\∃i aa H',Inv X pins aa H' s7/\tn i s7.heap/\(∀b∈fp,H' b=none)/\W i m aa H':=λ{G L} M n7=>by
   obtain⟨m',hm,w7⟩:=hN G L n7;refine⟨m',hm,i+1,G,L,M.unpinned,T.keep _ _ _ ac λb hb o e=>(M.pin (b,o) (cB _ (cB _ (Z3 hb e)))).1,λb hb=>?_,w7⟩;obtain⟨o,e,d⟩:=T.obj _ _ ac b hb;exact(M.pin (b,o) (cB _ (cB _ (Z3 hb e)))).2.1
  cases f with
  | next=>obtain⟨G,L,M,n7⟩:=U;exact Z M n7
  | cont=>obtain⟨G,L,M,n7⟩:=U;exact Z M n7
  | brk=>obtain⟨G,L,M,U⟩:=U;exact⟨G,L,M.unpinned,U⟩
  | ret v=>obtain⟨x7,G,L,M,r7,U⟩:=U;exact⟨x7,G,L,M.unpinned,r7,U⟩
theorem Q2{K:Fg}{a:Addr}{xs:List V}{g:TG}{tb:TS}{D:Ends}{σ:St}{H:Hp}(Pv:Nat->St->Hp->Prop)(h0:Pv 0 σ H)(hl:∀i σ H,i<=xs.length->Pv i σ H->SqL K H a xs)
 (hs:∀i x σ H,xs[i]?=some x->Pv i σ H->g x σ H λσ2 H2=>tb { D with nx:=Pv (i+1),ct:=Pv (i+1),bk:=D.nx } σ2 H2) (hd:∀σ H,Pv xs.length σ H->D.nx σ H):
 ∃W:Nat->Nat->St->Hp->Prop,(∃m,W 0 m σ H)/\∀i m σ H,W i m σ H->
  ((Itl K a).stop i H/\D.nx σ H)\/((Itl K a).go i H/\∃N:St->Hp->Prop,(∀σ' H',N σ' H'->∃m',m'<m/\W (i+1) m' σ' H')/\∀x H',(Itl K a).yld i H x H'->g x σ H' λσ2 H2=>tb { D with nx:=N,ct:=N,bk:=D.nx } σ2 H2):=by
 refine⟨λi m σ H=>m=xs.length-i/\i<=xs.length/\Pv i σ H,⟨xs.length,by simp,bN _,h0⟩,?_⟩;rintro i m σ H ⟨rfl,hi,p⟩;have q:=hl i σ H hi p
 by_cases G:i<xs.length
 .refine .inr ⟨⟨xs,xs[i],q,by simp [G]⟩,Pv (i+1),λσ' H' J=>⟨xs.length-(i+1),by lia,rfl,G,J⟩,λx H' y=>?_⟩;obtain⟨e,y⟩:=y;subst e;exact hs i x σ _ (y xs q) p
 .have e:i=xs.length:=by lia
  subst e;exact .inl ⟨⟨xs,q,aZ _⟩,hd σ H p⟩
theorem Lb{K:Fg}{a:Addr}{xs:List V}{g:TG}{tb:TS}{D:Ends}{σ:St}{H:Hp}(Pv:Nat->St->Hp->Prop)(h0:Pv 0 σ H)(hl:∀i σ H,i<=xs.length->Pv i σ H->SqT K H a xs)
 (hs:∀i x σ H,xs[i]?=some x->Pv i σ H->g x σ H λσ2 H2=>tb { D with nx:=Pv (i+1),ct:=Pv (i+1),bk:=D.nx } σ2 H2) (hd:∀σ H,Pv xs.length σ H->D.nx σ H):
 ∃W:Nat->Nat->St->Hp->Prop,(∃m,W 0 m σ H)/\∀i m σ H,W i m σ H->
  ((Itt K a).stop i H/\D.nx σ H)\/((Itt K a).go i H/\∃N:St->Hp->Prop,(∀σ' H',N σ' H'->∃m',m'<m/\W (i+1) m' σ' H')/\∀x H',(Itt K a).yld i H x H'->g x σ H' λσ2 H2=>tb { D with nx:=N,ct:=N,bk:=D.nx } σ2 H2):=by
 refine⟨λi m σ H=>m=xs.length-i/\i<=xs.length/\Pv i σ H,⟨xs.length,by simp,bN _,h0⟩,?_⟩;rintro i m σ H ⟨rfl,hi,p⟩;have q:=hl i σ H hi p
 by_cases G:i<xs.length
 .refine .inr ⟨⟨xs,xs[i],q,by simp [G]⟩,Pv (i+1),λσ' H' J=>⟨xs.length-(i+1),by lia,rfl,G,J⟩,λx H' y=>?_⟩;obtain⟨e,y⟩:=y;subst e;exact hs i x σ _ (y xs q) p
 .have e:i=xs.length:=by lia
  subst e;exact .inl ⟨⟨xs,q,aZ _⟩,hd σ H p⟩
theorem Zq{lo:Int}{n:Nat}{g:TG}{tb:TS}{D:Ends}{σ:St}{H:Hp}(Pv:Nat->St->Hp->Prop)(h0:Pv 0 σ H)
 (hs:∀i σ H,i<n->Pv i σ H->g (.int (lo+i)) σ H λσ2 H2=>tb { D with nx:=Pv (i+1),ct:=Pv (i+1),bk:=D.nx } σ2 H2) (hd:∀σ H,Pv n σ H->D.nx σ H):
 ∃W:Nat->Nat->St->Hp->Prop,(∃m,W 0 m σ H)/\∀i m σ H,W i m σ H->
  ((Itr lo n).stop i H/\D.nx σ H)\/((Itr lo n).go i H/\∃N:St->Hp->Prop,(∀σ' H',N σ' H'->∃m',m'<m/\W (i+1) m' σ' H')/\∀x H',(Itr lo n).yld i H x H'->g x σ H' λσ2 H2=>tb { D with nx:=N,ct:=N,bk:=D.nx } σ2 H2):=by
 refine⟨λi m σ H=>m=n-i/\i<=n/\Pv i σ H,⟨n,by simp,bN _,h0⟩,?_⟩;rintro i m σ H ⟨rfl,hi,p⟩
 by_cases G:i<n
 .refine .inr ⟨G,Pv (i+1),λσ' H' J=>⟨n-(i+1),by lia,rfl,G,J⟩,λx H' y=>?_⟩;obtain⟨e,y⟩:=y;subst e y;exact hs i σ _ G p
 .have e:i=n:=by lia
  subst e;exact .inl ⟨aZ _,hd σ H p⟩
abbrev R2:=V->V->Hp->VK->Prop
def OpR(X:Cx)(f:Value->Value->Sem Value)(r:R2):Prop:=
 ∀(pins:List (10:))(s:Shared)(σ:St)(H:Hp)(x y:V)(v u:Value)(Q:VK),Inv X pins σ H s->RelV x v->RelV y u->r x y H Q->
  wpAny (6:) X.A (f v u) (EP X pins σ Q) X.xe s
def Q6(X:Cx)(f:Value)(r:List V->Hp->VK->Prop):Prop:=
 ∀(pins:List (10:))(s:Shared)(σ:St)(H:Hp)(xs:List V)(us:List Value)(Q:VK),Inv X pins σ H s->Vals xs us->r xs H Q->
  wpAny (6:) X.A (call f us) (EP X pins σ Q) X.xe s
def tOp(r:R2)(ta tb:TE):TE:=λσ H Q=>ta σ H λx H1=>tb σ H1 λy H2=>r x y H2 Q
def rI(C:Int->Int->Prop)(g:Int->Int->V):R2:=λx y H Q=>∃i j,x=.int i/\y=.int j/\C i j/\Q (g i j) H
def rI0(g:Int->Int->V):R2:=λx y H Q=>∃i j,x=.int i/\y=.int j/\Q (g i j) H
section
variable{a b c:Expr}{tb tc:TE}
theorem An(ha:PE X a ta)(hb:PE X b tb){pins:List (10:)}{R:V->V->Hp->Prop}(I:Inv X pins σ H s)
 (h:ta σ H λx H1=>tb σ H1 λy H2=>R x y H2)  {f:Value->Value->Sem Value}
 (hf:∀v u s2 x y H2,Inv X pins σ H2 s2->RelV x v->RelV y u->R x y H2->wpAny (6:) X.A (f v u) Q X.xe s2):
 wpAny (6:) X.A (eval a X.env) (λv s₁=>wpAny (6:) X.A (eval b X.env) (λu s₂=>wpAny (6:) X.A (f v u) Q X.xe s₂) X.xe s₁) X.xe s:=by
 refine thn (ha pins s σ H _ I h) λv G ⟨x,H1,J,L,M⟩=>?_;refine thn (hb pins G σ H1 _ J M) λu s2 ⟨y,H2,U,Y,Z⟩=>?_;exact hf v u s2 x y H2 U L Y Z
theorem QD{op:Operator}{r:R2}(ho:OpR X (binaryOp op) r)(ha:PE X a ta)(hb:PE X b tb):PE X (.BinOp a op b pos) (tOp r ta tb):=by
 intro pins s σ H Q I h;exact wpAny_BinOp (An ha hb I h λv u G x y H2 J L M q=>ho pins G σ H2 x y v u Q J L M q)
theorem opI{f:Value->Value->Sem Value}{C:Int->Int->Prop}{g:Int->Int->Int}
 (rule:∀(i j:Int)(t u:Tok)(s:Shared)(Q:Value->Shared->Prop)(E:Value->Shared->Prop),C i j->Q (.int (g i j) s.toks) { s with toks:=s.toks+1 }->wpAny (6:) X.A (f (.int i t) (.int j u)) Q E s):
 OpR X f (rI C λi j=>.int (g i j)):=by
 intro pins s σ H x y v u Q I G J h;obtain⟨i,j,rfl,rfl,L,q⟩:=h;obtain⟨t,rfl⟩:=G;obtain⟨M,rfl⟩:=J;exact rule i j t M s _ _ L ⟨.int (g i j),H,I.tok _,⟨_,rfl⟩,q⟩
theorem CF{f:Value->Value->Sem Value}{g:Int->Int->Int}
 (rule:∀(i j:Int)(t u:Tok)(s:Shared)(Q:Value->Shared->Prop)(E:Value->Shared->Prop),Q (.int (g i j) s.toks) { s with toks:=s.toks+1 }->wpAny (6:) X.A (f (.int i t) (.int j u)) Q E s):
 OpR X f (rI0 λi j=>.int (g i j)):=by
 intro pins s σ H x y v u Q I G J h;obtain⟨i,j,rfl,rfl,q⟩:=h;obtain⟨t,rfl⟩:=G;obtain⟨L,rfl⟩:=J;exact rule i j t L s _ _ ⟨.int (g i j),H,I.tok _,⟨_,rfl⟩,q⟩
theorem Sg{f:Value->Value->Sem Value}{g:Int->Int->Bool}
 (rule:∀(i j:Int)(t u:Tok)(s:Shared)(Q:Value->Shared->Prop)(E:Value->Shared->Prop),Q (.bool (g i j)) s->wpAny (6:) X.A (f (.int i t) (.int j u)) Q E s):
 OpR X f (rI0 λi j=>.bl (g i j)):=by
 intro pins s σ H x y v u Q I G J h;obtain⟨i,j,rfl,rfl,q⟩:=h;obtain⟨t,rfl⟩:=G;obtain⟨L,rfl⟩:=J;exact rule i j t L s _ _ ⟨.bl (g i j),H,I,rfl,q⟩
def Cy(i j:Int):Prop:=0<j/\j<1073741824
def TC(i j:Int):Prop:=0<=j/\j<=1000000/\i.natAbs<2^64
def CMul(i j:Int):Prop:=(-(2^64)<i/\i<2^64)\/(-(2^64)<j/\j<2^64)
theorem CMul.ok{i j:Int}(h:CMul i j):IntMulOk i j:=by
 rcases h with⟨h1,h2⟩ | ⟨h1,h2⟩
 .exact .of_left (intBits_le_64 h1 h2)
 .exact .of_right (intBits_le_64 h1 h2)
theorem ZO:OpR X (binaryOp .Add) (rI0 λi j=>.int (i+j)):=CF λ_ _ _ _ _ _ _ q=>add_int q
theorem XY:OpR X (binaryOp .Sub) (rI0 λi j=>.int (i-j)):=CF λ_ _ _ _ _ _ _ q=>sub_int q
theorem UV:OpR X (binaryOp .Mult) (rI CMul λi j=>.int (i*j)):=opI λ_ _ _ _ _ _ _ G q=>mul_int q G.ok
theorem Z7:OpR X (binaryOp .FloorDiv) (rI Cy λi j=>.int (i/j)):=opI λi j _ _ _ _ _ G q=>by
 have h1:(0:Int)<j:=G.1;have h2:j<1073741824:=G.2;exact floordiv_int (5:) (by rw [Int.fdiv_eq_ediv_of_nonneg i (5:)];exact q) (.inl (PyProof.noPylong_small (5:)))
theorem ZP:OpR X (binaryOp .Mod) (rI (λ_ j=>0<j) λi j=>.int (i%j)):=opI λi j _ _ _ _ _ G q=>by
 have h1:(0:Int)<j:=G;exact mod_int' (5:) (by rw [Int.fmod_eq_emod_of_nonneg i (5:)];exact q)
theorem VF:OpR X (binaryOp .Pow) (rI TC λi j=>.int (i^j.toNat)):=opI λ_ _ _ _ _ _ _ G q=>pow_int_small G.1 G.2.1 G.2.2 q
end
def BL:V->V->Bool
 | .non,.non=>true | .non,.int _=>true | .int _,.non=>true | .non,.bl _=>true | .bl _,.non=>true | .non,.str _=>true | .str _,.non=>true
 | .int _,.int _=>true | .bl _,.bl _=>true | .str _,.str _=>true | .byt _,.byt _=>true
 | .int _,.str _=>true | .str _,.int _=>true | .bl _,.str _=>true | .str _,.bl _=>true
 | _,_=>false
def rEq:R2:=λx y H Q=>BL x y=true/\Q (.bl (decide (x=y))) H
def rNe:R2:=λx y H Q=>BL x y=true/\Q (.bl (!decide (x=y))) H
theorem Le{i j:Int}:decide (V.int i=V.int j)=(i==j):=by
 rw [gv];simp
theorem PQ{i j:Bool}:decide (V.bl i=V.bl j)=(i==j):=by
 rw [gv];simp
theorem Lh{i j:Str}:decide (V.str i=V.str j)=(i==j):=by
 rw [gv];simp
theorem GT{i j:Array UInt8}:decide (V.byt i=V.byt j)=(i.toList==j.toList):=by
 rw [gv];cases i;cases j;simp
section
variable{a b c:Expr}{tb tc:TE}
theorem Qy{pins:List (10:)}{Q:VK}{k k':Bool}(I:Inv X pins σ H s)(q:Q (.bl k) H)(e:k=k'):EP X pins σ Q (.bool k') s:=by
 subst e;exact⟨.bl k,H,I,rfl,q⟩
theorem ZG:OpR X (compareOp .Eq) rEq:=by
 intro pins s σ H x y v u Q I M G h;obtain⟨L,q⟩:=h;cases x with
 | non=>
  cases M;cases y with
  | non=>cases G;exact PySem.EqNone.eq_none_none (Qy I q (17:))
  | bl j=>cases G;exact PySem.EqNone.eq_none_bool (Qy I q (17:))
  | int j=>obtain⟨J,rfl⟩:=G;exact PySem.EqNone.eq_none_int (Qy I q (17:))
  | str j=>obtain⟨J,rfl⟩:=G;exact PySem.EqNone.eq_none_str (Qy I q (17:))
  | _=>exact absurd (show false=true from L) aS
 | bl i=>
  cases M;cases y with
  | non=>cases G;exact PySem.EqNone.eq_bool_none (Qy I q (17:))
  | bl j=>cases G;exact eq_bool (Qy I q PQ)
  | str j=>obtain⟨J,rfl⟩:=G;exact PySem.EqMixed.eq_bool_str (Qy I q (17:))
  | _=>exact absurd (show false=true from L) aS
 | int i=>
  obtain⟨t,rfl⟩:=M;cases y with
  | non=>cases G;exact PySem.EqNone.eq_int_none (Qy I q (17:))
  | int j=>obtain⟨J,rfl⟩:=G;exact eq_int (Qy I q Le)
  | str j=>obtain⟨J,rfl⟩:=G;exact PySem.EqMixed.eq_int_str (Qy I q (17:))
  | _=>exact absurd (show false=true from L) aS
 | str i=>
  obtain⟨t,rfl⟩:=M;cases y with
  | non=>cases G;exact PySem.EqNone.eq_str_none (Qy I q (17:))
  | bl j=>cases G;exact PySem.EqMixed.eq_str_bool (Qy I q (17:))
  | int j=>obtain⟨J,rfl⟩:=G;exact PySem.EqMixed.eq_str_int (Qy I q (17:))
  | str j=>obtain⟨J,rfl⟩:=G;exact eq_str (Qy I q Lh)
  | _=>exact absurd (show false=true from L) aS
 | byt i=>
  obtain⟨t,rfl⟩:=M;cases y with
  | byt j=>obtain⟨J,rfl⟩:=G;exact PySem.W.eq_bytes (Qy I q GT)
  | _=>exact absurd (show false=true from L) aS
 | _=>cases y<;>exact absurd (show false=true from L) aS
theorem JT:OpR X (compareOp .NotEq) rNe:=by
 intro pins s σ H x y v u Q I M G h;obtain⟨L,q⟩:=h;cases x with
 | non=>
  cases M;cases y with
  | non=>cases G;exact PySem.EqNone.ne_none_none (Qy I q (17:))
  | bl j=>cases G;exact PySem.EqNone.ne_none_bool (Qy I q (17:))
  | int j=>obtain⟨J,rfl⟩:=G;exact PySem.EqNone.ne_none_int (Qy I q (17:))
  | str j=>obtain⟨J,rfl⟩:=G;exact PySem.EqNone.ne_none_str (Qy I q (17:))
  | _=>exact absurd (show false=true from L) aS
 | bl i=>
  cases M;cases y with
  | non=>cases G;exact PySem.EqNone.ne_bool_none (Qy I q (17:))
  | bl j=>cases G;exact ne_bool (Qy I q (congrArg not PQ))
  | str j=>obtain⟨J,rfl⟩:=G;exact PySem.EqMixed.ne_bool_str (Qy I q (17:))
  | _=>exact absurd (show false=true from L) aS
 | int i=>
  obtain⟨t,rfl⟩:=M;cases y with
  | non=>cases G;exact PySem.EqNone.ne_int_none (Qy I q (17:))
  | int j=>obtain⟨J,rfl⟩:=G;exact ne_int (Qy I q (congrArg not Le))
  | str j=>obtain⟨J,rfl⟩:=G;exact PySem.EqMixed.ne_int_str (Qy I q (17:))
  | _=>exact absurd (show false=true from L) aS
 | str i=>
  obtain⟨t,rfl⟩:=M;cases y with
  | non=>cases G;exact PySem.EqNone.ne_str_none (Qy I q (17:))
  | bl j=>cases G;exact PySem.EqMixed.ne_str_bool (Qy I q (17:))
  | int j=>obtain⟨J,rfl⟩:=G;exact PySem.EqMixed.ne_str_int (Qy I q (17:))
  | str j=>obtain⟨J,rfl⟩:=G;exact ne_str (Qy I q (congrArg not Lh))
  | _=>exact absurd (show false=true from L) aS
 | byt i=>
  obtain⟨t,rfl⟩:=M;cases y with
  | byt j=>obtain⟨J,rfl⟩:=G;exact PySem.W.ne_bytes (Qy I q (congrArg not GT))
  | _=>exact absurd (show false=true from L) aS
 | _=>cases y<;>exact absurd (show false=true from L) aS
theorem Vf:OpR X (compareOp .Lt) (rI0 λi j=>.bl (decide (i<j))):=Sg λ_ _ _ _ _ _ _ q=>lt_int q
theorem Cd:OpR X (compareOp .LtE) (rI0 λi j=>.bl (decide (i<=j))):=Sg λ_ _ _ _ _ _ _ q=>le_int q
theorem Lr:OpR X (compareOp .Gt) (rI0 λi j=>.bl (decide (j<i))):=Sg λ_ _ _ _ _ _ _ q=>gt_int q
theorem Ob:OpR X (compareOp .GtE) (rI0 λi j=>.bl (decide (j<=i))):=Sg λ_ _ _ _ _ _ _ q=>ge_int q
theorem L8:OpR X (compareOp .Lt) (λx y H Q=>∃i j,x=.str i/\y=.str j/\Q (.bl (decide (i.cps.toList<j.cps.toList))) H):=by
 intro pins s σ H x y v u Q I G J h;obtain⟨i,j,rfl,rfl,q⟩:=h;obtain⟨t,rfl⟩:=G;obtain⟨L,rfl⟩:=J;exact lt_str (Qy I q rfl)
theorem Aw:OpR X (compareOp .Is) (λx y H Q=>y=.non/\Q (.bl (decide (x=.non))) H):=by
 intro pins s σ H x y v u Q I G J h;obtain⟨rfl,q⟩:=h;cases J;refine is_none_gen (Qy I q ?_);cases x<;>first
  | (cases G;rfl)
  | (obtain⟨t,rfl⟩:=G;rfl)
theorem R3:OpR X (compareOp .IsNot) (λx y H Q=>y=.non/\Q (.bl (!decide (x=.non))) H):=by
 intro pins s σ H x y v u Q I G J h;obtain⟨rfl,q⟩:=h;cases J;refine isnot_none_gen (Qy I q ?_);cases x<;>first
  | (cases G;rfl)
  | (obtain⟨t,rfl⟩:=G;rfl)
theorem Qx(b:Expr)(h:op≠.In:=by decide)(h2:op≠.NotIn:=by decide):behindInMarks op b=false:=by
 have G:(op==CmpOp.In)=false:=by cases op<;>first | rfl | exact absurd rfl h
 have J:(op==CmpOp.NotIn)=false:=by cases op<;>first | rfl | exact absurd rfl h2
 cases b<;>simp [behindInMarks,G,J]
theorem ZI{r:R2}(ho:OpR X (compareOp op) r)(ha:PE X a ta)(hb:PE X b tb)(hm:behindInMarks op b=false):PE X (.Compare a [op] [b] pos) (tOp r ta tb):=by
 intro pins s σ H Q I h;exact wpAny_Compare1 (An ha hb I h λv u G x y H2 J L M q=>ho pins G σ H2 x y v u Q J L M q) hm
def Bl(t:TE):TT:=λσ H Q=>t σ H λx H'=>∃k,x=.bl k/\Q k H'
theorem Qu{op:CmpOp}{r:R2}(ho:OpR X (compareOp op) r)(ha:PE X a ta)(hb:PE X b tb)(hm:behindInMarks op b=false):PT X (.Compare a [op] [b] pos) (Bl (tOp r ta tb)):=by
 intro pins s σ H Q I h;refine wpAny_isTrue_Compare1 (thn (ha pins s σ H _ I h) λv G ⟨x,H1,J,L,M⟩=>thn (hb pins G σ H1 _ J M) λu U ⟨y,H2,Y,Z,q2⟩=>
  thn (ho pins U σ H2 x y v u _ Y L Z q2) λc s3 ⟨z,H3,I3,r3,k,e,q3⟩=>?_) hm
 subst e;cases r3;exact eZ ⟨H3,I3,q3⟩
theorem UJ:(sizeLine:Nat)<2^63:=by rw [cO];decide
theorem VN:OpR X (binaryOp .Add) (λx y H Q=>∃i j,x=.str i/\y=.str j/\i.length+j.length<=sizeLine/\Q (.str (i++j)) H):=by
 intro pins s σ H x y v u Q I G J h;obtain⟨i,j,rfl,rfl,hz,q⟩:=h;obtain⟨t,rfl⟩:=G;obtain⟨L,rfl⟩:=J;exact add_str (λL tk=>⟨.str (i++j),H,I.tok _,⟨_,rfl⟩,q⟩) hz
theorem LO{x:V}(r:Vals [x] us):∃u,us=[u]/\RelV x u:=by
 cases r with
 | cons G J=>cases J;exact⟨_,rfl,G⟩
theorem Pf{x:V}(r:Vals [x,y] us):∃u w',us=[u,w']/\RelV x u/\RelV y w':=by
 cases r with
 | cons G J=>
  cases J with
  | cons L M=>cases M;exact⟨_,_,rfl,G,L⟩
end
structure ObjM(h:Heap)(x dx C:Addr)(mA:Str->Option Value):Prop where
 obj:h.get? x=some (PySem.W.instObj C dx)
 ns:h.Ns1 dx mA
 ne:dx≠x
theorem MV(n:h.Ns1 dx mA):∃od,h.get? dx=some od/\∀name,PySem.W.lookIn name od=some (mA name):=by
 obtain⟨o,es,ep,J,L,M,_,U⟩:=n;refine⟨o,J,λname=>?_⟩;have e:=U name;unfold nsFind findBy at e;rw [<-Array.find?_toList]at e;unfold PySem.W.lookIn;rw [L];dsimp only;split
 .rename_i y q;rw [q]at e;exact congrArg some e
 .rename_i q;rw [q]at e;have a:es.toList.any (·.refKey)=false:=by
   rw [List.any_eq_false];intro y Y;obtain⟨z,t,G⟩:=M y (gO.mp Y);simp [DictEntry.refKey,G]
  have Z:¬es.toList.any (·.refKey)=true:=by rw [a];exact aS
  rw [aG Z];exact congrArg some e
theorem ObjM.look{x C:Addr}(I:ObjM h x dx C mA):∃od,PySem.W.InstAt h x (PySem.W.instObj C dx) C (some od)/\∀name,PySem.W.lookIn name od=some (mA name):=
 let⟨od,G,J⟩:=MV I.ns
 ⟨od,⟨I.obj,rfl,rfl,G⟩,J⟩
section
variable{E:Value->Shared->Prop}{K:Fg}{x C:Addr}{v:Value}
theorem Sm{expr:Bool}(X:K.In s.heap)(I:ObjM s.heap x dx C mA)(hg:PySem.W.plainGet K C name=true)(hh:PySem.W.hasDictIn K C=true)
 (ha:PySem.W.findIn K (.ref C) name=some none) (hv:mA name=some v) (hv':PySem.W.handedIn v=true) (h:Q v { s with toks:=s.toks+1 }):
 wpAny (9:) A (getAttr (.ref x) name expr) Q E s:=by
 obtain⟨L,J,G⟩:=I.look;exact PySem.W.get_value X J (PySem.W.plainGet_of hg).1 (PySem.W.findObj_own hh ha rfl (by rw [G,hv])) hv' h
theorem PP{Q:Value×List Value->Shared->Prop}(X:K.In s.heap)(I:ObjM s.heap x dx C mA)(hg:PySem.W.plainGet K C name=true)
 (hf:PySem.W.findIn K (.ref C) name=some (some (.ref f))) (ht:PySem.W.isFn K (.ref f)=true) (hv:mA name=none) (h:Q (.ref f,[.ref x]) s):
 wpAny (9:) A (getMethod (.ref x) name pl) Q E s:=by
 obtain⟨G,J,L⟩:=I.look;exact PySem.W.method_fn X J (PySem.W.plainGet_of hg).1 (PySem.W.plainGet_of hg).2 hf (fm.mp ht) (by show(PySem.W.lookIn name G).map (·.isSome)=some false;rw [L,hv];rfl) h
theorem P6{Q:Unit->Shared->Prop}(X:K.In s.heap)(I:ObjM s.heap x dx C mA)
 (hs:PySem.W.findIn K (.ref C) "__setattr__"=some (some (.builtin "object.__setattr__"))) (hp:PySem.W.plainOver K C=true) (ht:PySem.W.takerIn K C name=some none) (hh:PySem.W.hasDictIn K C=true)
 (hw:PySem.Within mA ns) (hsz:ns.length<=sizeLine)
 (h:∀h',ObjM h' x dx C (λy=>if y=name then some v else mA y)->Heap.SameBut dx s.heap h'->Q () { s with heap:=h',toks:=s.toks+2 }):
 wpAny (9:) A (setAttr (.ref x) name v) Q E s:=by
 obtain⟨od,J,hl⟩:=I.look;refine PySem.W.set_plain X J hs (PySem.W.osa_open (s:={ s with toks:=s.toks+1 }) (r:=none) X J hp ht λb=>?_);obtain⟨cd,hc,M⟩:=PySem.W.any_some hh;have hx:s.heap.get? x=some ⟨.ref C,some dx,.plain,#[]⟩:=I.obj;refine aB (aF (aB (aB (wpAny_loadPart hx (aB (PySem.W.Looks.here (s:={ s with toks:=s.toks+1 }) (PySem.W.looks_clsIn X hc) ?_))))));rw [M];refine aF (a:=some dx) (aB (aF (aB ?_)));refine wpAny_nsSet1 (s:={ s with toks:=s.toks+1 }) I.ns λh' G L=>?_;obtain⟨oD,aa,ab,U,Y,Z⟩:=G.count (PySem.Within.cons name v hw);refine aB (wpAny_lookBehind U (by rw [Y];exact pastItsLine_dict (bX Z (by rw [bK];lia))) ?_);exact aF (h _ ⟨(L.2 _ (aW I.ne)).trans I.obj,G,I.ne⟩ L)
theorem OB{vs:List Value}(X:K.In s.heap)(hm:PySem.W.makesIn K C=true)
 (hi:PySem.W.findIn K (.ref C) "__init__"=some (some (.ref f))) (hf:PySem.W.typeIn K (.ref f)=some (.type "function"))
 (h:codeAny (9:) (A.under (.builtin "type.__call__" ⟨.ref C::vs,kw⟩)) (.call (.ref f) ⟨.ref (s.heap.objs.size+1)::vs,kw⟩) (PySem.W.InitBack (s.heap.objs.size+1) R)
  { s with heap:=(s.heap.push PySem.W.emptyDict).push (PySem.W.instObj C s.heap.objs.size) }):
 codeAny (9:) A (.call (.ref C) ⟨vs,kw⟩) R s:=by
 obtain⟨J,g,d,t,L⟩:=s;exact PySem.W.make_core (PySem.W.makes_of X hm) (PySem.W.looks_findIn X hi) (λG=>PySem.W.bind_fn X G hf) (.inl rfl) h
end
def ZA(f:Str)(v:V):List (Str×V)->List (Str×V)
 | []=>[(f,v)]
 | (g,x)::r=>if g=f then(g,v)::r else(g,x)::ZA f v r
theorem U0(f g:Str)(v:V):∀fs:List (Str×V),(ZA f v fs).lookup g=if g=f then some v else fs.lookup g
 | []=>by
  show List.lookup g [(f,v)]=_
  by_cases h:g=f
  .have G:(g==f)=true:=fm.mpr h;simp only [List.lookup,G,aH h]
  .have G:(g==f)=false:=dZ.mpr h;simp only [List.lookup,G,aG h]
 | (k,x)::r=>by
  have L:=U0 f g v r;rw [show ZA f v ((k,x)::r)=(if k=f then(k,v)::r else(k,x)::ZA f v r)from rfl]
  by_cases J:k=f
  .rw [aH J]
   by_cases h:g=k
   .have G:(g==k)=true:=fm.mpr h;simp only [List.lookup,G,aH (h.trans J)]
   .have G:(g==k)=false:=dZ.mpr h;simp only [List.lookup,G,aG (λe:g=f=>h (e.trans J.symm))]
  .rw [aG J]
   by_cases h:g=k
   .have G:(g==k)=true:=fm.mpr h;simp only [List.lookup,G,aG (λe:g=f=>J (h.symm.trans e))]
   .have G:(g==k)=false:=dZ.mpr h;simp only [List.lookup,G];exact L
theorem US(f:Str)(v:V):∀fs:List (Str×V),f∈(ZA f v fs).map (·.1)/\∀g,g∈fs.map (·.1)->g∈(ZA f v fs).map (·.1)
 | []=>⟨by simp [ZA],λg h=>by simp at h⟩
 | (k,x)::r=>by
  obtain⟨i1,i2⟩:=US f v r;rw [show ZA f v ((k,x)::r)=(if k=f then(k,v)::r else(k,x)::ZA f v r)from rfl]
  by_cases G:k=f
  .rw [aH G];subst G;exact⟨by simp,λg h=>by simpa using h⟩
  .rw [aG G];refine⟨?_,λg h=>?_⟩
   .rw [aR];exact aV _ i1
   .rw [aR]at h ⊢;rcases aM.mp h with e | e
    .exact aM.mpr (.inl e)
    .exact aV _ (i2 g e)
theorem UX(f:Str)(v:V):∀fs:List (Str×V),(ZA f v fs).length<=fs.length+1
 | []=>by simp [ZA]
 | (k,x)::r=>by
  have J:=UX f v r;rw [show ZA f v ((k,x)::r)=(if k=f then(k,v)::r else(k,x)::ZA f v r)from rfl]
  by_cases G:k=f
  .rw [aH G,bK,bK];lia
  .rw [aG G,bK,bK];lia
theorem RelO.some_of{o:Option Value}(r:RelO (some v) o):∃u,o=some u/\RelV v u:=by
 cases o with
 | none=>exact(show False from r).elim
 | some u=>exact⟨u,rfl,r⟩
theorem RelO.none_of{o:Option Value}(r:RelO none o):o=none:=by
 cases o with
 | none=>rfl
 | some u=>exact(show False from r).elim
theorem MZ(r:RelV v u):PySem.W.handedIn u=true:=by
 cases v with
 | non=>cases (show u=Value.none from r);rfl
 | bl b=>cases (show u=Value.bool b from r);rfl
 | int i=>obtain⟨t,e⟩:=(show ∃t,u=Value.int i t from r);cases e;rfl
 | str x=>obtain⟨t,e⟩:=(show ∃t,u=Value.str x t from r);cases e;rfl
 | byt b=>obtain⟨t,e⟩:=(show ∃t,u=Value.bytes b t from r);cases e;rfl
 | flt b=>obtain⟨t,e⟩:=(show ∃t,u=Value.float b t from r);cases e;rfl
 | ref a=>cases (show u=Value.ref a from r);rfl
 | ty n=>cases (show u=Value.type n from r);rfl
section
variable{C:Addr}{fs fs':List (Str×V)}
theorem Jj(hok:HOk P w H h)(e:H a=some (.ins C dx fs)):∃mA,ObjM h a dx C mA/\(∀f,RelO (fs.lookup f) (mA f))/\PySem.Within mA (fs.map (·.1))/\fs.length<=1000/\H dx=some (.own a):=by
 obtain⟨d,z,ne,G,mA,n,r,q⟩:=(show ObjOk P w H h a (.ins C dx fs)from hok a _ e);exact⟨mA,⟨G,n,ne⟩,r,q,z,d⟩
end
structure Cls(K:Fg)(C:Addr):Prop where
 pg:PySem.W.plainGet K C Str.empty=true
 hd:PySem.W.hasDictIn K C=true
 po:PySem.W.plainOver K C=true
 sa:PySem.W.findIn K (.ref C) "__setattr__"=some (some (.builtin "object.__setattr__"))
theorem Cls.get{K:Fg}{C:Addr}(c:Cls K C)(f:Str):PySem.W.plainGet K C f=true:=c.pg
def NoAttr(K:Fg)(C:Addr)(f:Str):Prop:=PySem.W.findIn K (.ref C) f=some none
theorem NoAttr.taker{K:Fg}{C:Addr}{f:Str}(n:NoAttr K C f):PySem.W.takerIn K C f=some none:=by
 unfold PySem.W.takerIn;rw [show PySem.W.findIn K (.ref C) f=some none from n]
 rfl
structure Meth(K:Fg)(C:Addr)(m:Str)(f:Addr):Prop where
 at_:PySem.W.findIn K (.ref C) m=some (some (.ref f))
 fn:PySem.W.isFn K (.ref f)=true
 kp:PySem.W.keepIn K (.ref f)=true
section
variable{pins:List (10:)}{C:Addr}{fs:List (Str×V)}{f:Str}{E:Value->Shared->Prop}
theorem V0{b:Bool}(I:Inv X pins σ H s)(e:H a=some (.ins C dx fs))(c:Cls X.K C)(n:NoAttr X.K C f)(l:fs.lookup f=some v)
 (h:∀u s',Inv X pins σ H s'->RelV v u->Q u s'):wpAny (6:) A (getAttr (.ref a) f b) Q E s:=by
 obtain⟨mA,O,r,_,_,_⟩:=Jj I.hok e;obtain⟨u,J,G⟩:=RelO.some_of (v:=v) (o:=mA f) (by rw [<-l];exact r f);exact Sm I.kIn O (c.get f) c.hd n J (MZ G) (h u _ (I.tok _) G)
theorem VS{m:Str}{g:Addr}{Q:Value×List Value->Shared->Prop}(I:Inv X pins σ H s)(e:H a=some (.ins C dx fs))(c:Cls X.K C)(k:Meth X.K C m g)(l:fs.lookup m=none)
 (h:Q (.ref g,[.ref a]) s):wpAny (6:) A (getMethod (.ref a) m pl) Q E s:=by
 obtain⟨mA,O,r,_,_,_⟩:=Jj I.hok e;have G:mA m=none:=RelO.none_of (by rw [<-l];exact r m);exact PP I.kIn O (c.get m) k.at_ k.fn G h
theorem Ge{Q:Unit->Shared->Prop}(I:Inv X pins σ H s)(e:H a=some (.ins C dx fs))(c:Cls X.K C)(n:NoAttr X.K C f)(hl:fs.length<1000)(ry:RelV y u)
 (h:∀s',Inv X pins σ (upd H a (.ins C dx (ZA f y fs))) s'->Q () s'):wpAny (6:) A (setAttr (.ref a) f u) Q E s:=by
 obtain⟨mA,O,r,J,_,L⟩:=Jj I.hok e;have hz:(fs.map (·.1)).length<=sizeLine:=by rw [aE,cO];lia
 refine P6 I.kIn O c.sa c.po n.taker c.hd J hz λh' G M=>h _ ?_;have U:∃o,h'.get? dx=some o:=let⟨o,_,_,Y,_⟩:=G.ns;⟨o,Y⟩
 refine I.write (x:=a) (e:=dx) (by rw [e];exact cQ) (.inr L) (λb q Z z=>(M.2 b Z).trans z) U ?_;refine⟨by rw [Qh O.ne];exact L,?_,O.ne,G.obj,_,G.ns,λg=>?_,λg hg=>?_⟩
 .have:=UX f y fs;lia
 .show RelO ((ZA f y fs).lookup g) (if g=f then some u else mA g);rw [U0]
  by_cases q:g=f
  .rw [aH q,aH q];exact ry
  .rw [aG q,aG q];exact r g
 .by_cases q:g=f
  .rw [q];exact(US f y fs).1
  .refine(US f y fs).2 g (J g λz=>hg ?_);show(if g=f then some u else mA g)=none;rw [aG q];exact z
theorem Inv.made(I:Inv X pins σ H s):Inv X pins σ (upd (upd H s.heap.objs.size (.own (s.heap.objs.size+1))) (s.heap.objs.size+1) (.ins C s.heap.objs.size []))
 { s with heap:=(s.heap.push PySem.W.emptyDict).push (PySem.W.instObj C s.heap.objs.size) }:=by
 have G:(s.heap.push PySem.W.emptyDict).get? s.heap.objs.size=some PySem.W.emptyDict:=bE s.heap rfl;have J:((s.heap.push PySem.W.emptyDict).push (PySem.W.instObj C s.heap.objs.size)).get? (s.heap.objs.size+1)=some (PySem.W.instObj C s.heap.objs.size):=by
  have:=bE (s.heap.push PySem.W.emptyDict) (o:=PySem.W.instObj C s.heap.objs.size) rfl
  rwa [eg]at this
 have L:(s.heap.push PySem.W.emptyDict).Ns s.heap.objs.size (λ_=>none):=⟨PySem.W.emptyDict,#[],_,G,rfl,(λe M=>absurd M (17:)),λ_=>rfl⟩;have U:=I.laid (a:=s.heap.objs.size) (o:=.own (s.heap.objs.size+1)) (h':=s.heap.push PySem.W.emptyDict) (t':=s.toks) (λb u q=>aN _ q) (4:) ⟨_,G⟩;refine U.laid (a:=s.heap.objs.size+1) (o:=.ins C s.heap.objs.size []) (t':=s.toks) (λb u q=>aN _ q) (Nat.le_of_eq (eg _ _)) ?_;have ne:s.heap.objs.size≠s.heap.objs.size+1:=bD (Nat.lt_succ_self _);refine⟨by rw [Qh ne,Qb],bN _,ne,J,λ_=>none,(Heap.Ns1.of_empty L).at λo q=>aN _ q,λ_=>cQ,λy Y=>absurd rfl Y⟩
theorem Rc{f:Str}(hb:attributeBase e f env (eval e env)=eval e env)
 (h:wpAny (9:) A (eval e env) (λo s₁=>wpAny (9:) A (getAttr o f true) Q E s₁) E s):wpAny (9:) A (eval (.Attribute e f pos) env) Q E s:=
 Attribute_any_ h (by rw [arm_eval_Attribute,hb])
end
def De(K:Fg)(ta:TE)(f:Str):TE:=λσ H Q=>ta σ H λx H1=>∃a C dx fs v,x=.ref a/\H1 a=some (.ins C dx fs)/\Cls K C/\NoAttr K C f/\fs.lookup f=some v/\Q v H1
def DC(K:Fg)(ta tv:TE)(f:Str):TS:=λD σ H=>tv σ H λy H1=>ta σ H1 λx H2=>∃a C dx fs,x=.ref a/\H2 a=some (.ins C dx fs)/\Cls K C/\NoAttr K C f/\fs.length<1000/\
 D.nx σ (upd H2 a (.ins C dx (ZA f y fs)))
section
variable{o:Expr}{f:Str}
theorem Yj(he:PE X e ta)(hb:attributeBase e f X.env (eval e X.env)=eval e X.env):PE X (.Attribute e f pos) (De X.K ta f):=by
 intro pins s σ H Q I h;refine Rc hb (thn (he pins s σ H _ I h) λu Y ⟨x,H1,G,J,a,C,dx,fs,v,ex,L,c,n,l,q⟩=>?_);subst ex;obtain rfl:u=Value.ref a:=J;exact V0 G L c n l λZ s2 M U=>⟨v,H1,M,U,q⟩
theorem UO(ha:PE X o ta)(hv:PE X value tv)(hs:swapsWith value (some (.Attribute o f pos')) pos.line X.env=pure false):PS X (.Assign [.Attribute o f pos'] value pos) (DC X.K ta tv f):=by
 intro pins s σ H D I h;refine plainObj_wpAny_Assign_Attribute (thn (hv pins s σ H _ I h) λu G ⟨y,H1,J,L,q⟩=>thn (ha pins G σ H1 _ J q) λM s2 ⟨x,H2,U,Y,a,C,dx,fs,ex,Z,c,n,l,q2⟩=>?_) hs;subst ex;obtain rfl:M=Value.ref a:=Y;exact Ge U Z c n l L λs3 I3=>⟨σ,_,I3,q2⟩
end
section
variable{pins:List (10:)}{E:Value->Shared->Prop}{c:Value}{b:Bool}
inductive TyOf(K:Fg)(H:Hp):V->Value->Prop where
 | non:TyOf K H .non (.type "NoneType")
 | bl (x:Bool):TyOf K H (.bl x) (.type "bool")
 | int (i:Int):TyOf K H (.int i) (.type "int")
 | str (x:Str):TyOf K H (.str x) (.type "str")
 | flt (x:UInt64):TyOf K H (.flt x) (.type "float")
 | lst {a:Addr} {xs:List V} (e:H a=some (.lst xs)):TyOf K H (.ref a) (.type "list")
 | frz {a:Addr} {o:Obj} {xs:List V} (e:H a=some (.frz o (.lst xs))):TyOf K H (.ref a) (.type "list")
 | tup {a:Addr} {xs:List V} (e:H a=some (.tup xs)):TyOf K H (.ref a) (.type "tuple")
 | dK {a:Addr} {kvs:List (Key×V)} (e:H a=some (.dK kvs)):TyOf K H (.ref a) (.type "dict")
 | dT {a:Addr} {kvs:List (List Key×V)} (e:H a=some (.dT kvs)):TyOf K H (.ref a) (.type "dict")
 | ins {a C dx:Addr} {fs:List (Str×V)} (e:H a=some (.ins C dx fs)) (cl:Cls K C) (ha:PySem.W.findIn K (.ref C) "__class__"=some (some (.builtin "object.__class__")))
  (hn:PySem.W.specialIn K (.builtin "object.__class__") "__get__"=some (some (.builtin "getset_descriptor.__get__"))) (htk:PySem.W.takesIn K (.builtin "object.__class__")=some true)
  (hm:PySem.W.mroIn K C (.type "object")=some true):TyOf K H (.ref a) (.ref C)
theorem MW{x:V}{t:Value}(I:Inv X pins σ H s)(rx:RelV x u)(ty:TyOf X.K H x t)(e:PySem.W.kitOne X.K t c=some b)(h:∀tk,Q (.bool b) { s with toks:=tk }):
 wpAny (6:) A (call (.builtin "isinstance") [u,c]) Q E s:=by
 cases ty with
 | non=>cases (show u=Value.none from rx);exact cW PySem.W.kitx_none I.kIn cQ e (λz=>nomatch z) h
 | bl y=>cases (show u=Value.bool y from rx);exact cW PySem.W.kitx_bool I.kIn cQ e (λz=>nomatch z) h
 | int i=>obtain⟨t,q⟩:=(show ∃t,u=Value.int i t from rx);cases q;exact cW PySem.W.kitx_int I.kIn cQ e (λz=>nomatch z) h
 | str y=>obtain⟨t,q⟩:=(show ∃t,u=Value.str y t from rx);cases q;exact cW PySem.W.kitx_str I.kIn cQ e (λz=>nomatch z) h
 | flt y=>obtain⟨t,q⟩:=(show ∃t,u=Value.float y t from rx);cases q;exact cW PySem.W.kitx_float I.kIn cQ e (λz=>nomatch z) h
 | @lst a xs G=>
  cases (show u=Value.ref a from rx);obtain⟨_,_,n,_,h1⟩:=(show ObjOk X.prog X.w H s.heap a (.lst xs)from I.hok a _ G);exact cW PySem.W.kitx_list I.kIn ⟨_,h1,rfl⟩ e (λz=>nomatch z) h
 | @frz a M xs G=>
  cases (show u=Value.ref a from rx);obtain⟨_,_,_,n,_,h1⟩:=(show ObjOk X.prog X.w H s.heap a (.frz M (.lst xs))from I.hok a _ G);exact cW PySem.W.kitx_list I.kIn ⟨_,h1,rfl⟩ e (λz=>nomatch z) h
 | @tup a xs G=>
  cases (show u=Value.ref a from rx);obtain⟨_,_,_,p⟩:=(show ObjOk X.prog X.w H s.heap a (.tup xs)from I.hok a _ G);obtain⟨o,h1,h2,_⟩:=p;exact cW PySem.W.kitx_tuple I.kIn ⟨o,h1,h2⟩ e (λz=>nomatch z) h
 | @dK a kvs G=>
  cases (show u=Value.ref a from rx);obtain⟨_,_,vs,_,p⟩:=(show ObjOk X.prog X.w H s.heap a (.dK kvs)from I.hok a _ G);obtain⟨o,es,ep,h1,h2,_⟩:=p;exact cW PySem.W.kitx_dict I.kIn ⟨o,h1,h2.1⟩ e (λz=>nomatch z) h
 | @dT a kvs G=>
  cases (show u=Value.ref a from rx);obtain⟨_,_,xs,_,o,es,ep,h1,h2,_⟩:=(show ObjOk X.prog X.w H s.heap a (.dT kvs)from I.hok a _ G);exact cW PySem.W.kitx_dict I.kIn ⟨o,h1,h2.1⟩ e (λz=>nomatch z) h
 | @ins a C dx fs G cl U Y L Z=>
  cases (show u=Value.ref a from rx);obtain⟨mA,O,_⟩:=Jj I.hok G;obtain⟨od,J,_⟩:=O.look;exact cW (PySem.W.kitx_own (cl.get _) cl.hd U Y L Z) I.kIn J e (λz=>nomatch z) h
end
structure Room(k:Nat)(A:Around):Prop where
 hd:A.handled=none
 dp:A.depth+3*k+5<recursionLimit
 un:A.units+16*k+200<cLine
theorem Room.mono{k:Nat}(r:Room k A)(h:j<=k):Room j A:=⟨r.hd,by have:=r.dp;lia,by have:=r.un;lia⟩
theorem Room.deeper{k:Nat}(r:Room (k+1) A)(env:Env):Room k (A.deeper env):=
 ⟨r.hd,by have:=r.dp;show A.depth+1+3*k+5<_;lia,by have:=r.un;show A.units+3+16*k+200<_;lia⟩
theorem Gk{C:Addr}:(A.under (.builtin "type.__call__" ⟨.ref C::us,kw⟩)).depth=A.depth+1:=by
 first | rfl | simp [Around.under,Code.weight,Code.isCreation,Code.isGuard,Code.isCaller,Code.frames,Code.isFrame,guardIds]
theorem V3{C:Addr}:(A.under (.builtin "type.__call__" ⟨.ref C::us,kw⟩)).units=A.units+1:=by
 first | rfl | simp [Around.under,Code.cUnits,Code.frames,Code.isFrame]
theorem Room.make{k:Nat}(r:Room (k+1) A)(C:Addr)(us:List Value)(kw:List (Str×Value)):Room k (A.under (.builtin "type.__call__" ⟨.ref C::us,kw⟩)):=
 ⟨r.hd,by have:=r.dp;rw [Gk];lia,by have:=r.un;rw [V3];lia⟩
theorem Room.depth{k:Nat}(r:Room k A):A.depth<recursionLimit:=by have:=r.dp;lia
theorem Room.units{k:Nat}(r:Room k A):A.units+64<cLine:=by have:=r.un;lia
def YL:TA:=λ_ H Q=>Q [] H
def Q1(ta:TE)(tr:TA):TA:=λσ H Q=>ta σ H λx H1=>tr σ H1 λxs H2=>Q (x::xs) H2
section
variable{t:TA}
theorem Qc:PA X [] YL:=λ_ _ _ _ H Q I h=>Calls.spliced_nil ⟨[],H,I,.nil,h⟩
theorem Qa(ha:PE X e te)(hr:PA X es t)(hs:starEach (e::es) X.env=(false,eval e X.env)::starEach es X.env:=by rfl):PA X (e::es) (Q1 te t):=by
 intro pos pins s σ H Q I h;rw [hs];show wpAny _ _ (spliced ((false,eval e X.env)::backTo pos (starEach es X.env))) _ _ s;refine Calls.spliced_cons (thn (ha pins s σ H _ I h) λu G ⟨x,H1,J,L,M⟩=>?_);exact thn (hr pos pins G σ H1 _ J M) λus s2 ⟨xs,H2,U,Y,Z⟩=>⟨x::xs,H2,U,.cons L Y,Z⟩
def Rg(t:TA):TE:=λσ H Q=>t σ H λxs H1=>xs.length<=sizeLine/\∀p,H1 p=none->Q (.ref p) (upd H1 p (.tup xs))
def Bb(t:TA):TE:=λσ H Q=>t σ H λxs H1=>xs.length<=sizeLine/\∀p,H1 p=none->Q (.ref p) (upd H1 p (.lst xs))
theorem QB{x1}(h:PA X es t):PE X (.Tuple es x1 pos) (Rg t):=by
 intro pins s σ H Q I L;refine wpAny_Tuple_spliced (thn (h pos pins s σ H _ I L) λM G ⟨xs,H1,J,r,z,q⟩=>⟨by rw [<-r.length];exact z,?_⟩);have U:H1 G.heap.objs.size=none:=J.hok.fresh (4:);refine⟨.ref G.heap.objs.size,upd H1 G.heap.objs.size (.tup xs),J.laid (t':=G.toks) (λb u e=>aN _ e) (4:) ?_,rfl,q _ U⟩;exact⟨z,M,r,⟨_,bE _ rfl,rfl,_,rfl⟩⟩
theorem Zm(h:PA X es t):PE X (.List es pos) (Bb t):=by
 intro pins s σ H Q I L;refine wpAny_List_spliced (thn (h pos pins s σ H _ I L) λM G ⟨xs,H1,J,r,z,q⟩=>⟨by rw [<-r.length];exact z,?_⟩);have U:H1 G.heap.objs.size=none:=J.hok.fresh (4:);refine⟨.ref G.heap.objs.size,upd H1 G.heap.objs.size (.lst xs),J.laid (t':=G.toks) (λb u e=>aN _ e) (4:) ?_,rfl,q _ U⟩;exact⟨z,M,0,r,bE _ rfl⟩
end
abbrev Sp:=List V->Hp->VK->XK->Prop
abbrev CXT:=List Env->Hp->Shared->XK->Value->Shared->Prop
structure Env0(P:Program)(w:World)(K:Fg)(mg:Str->Option Value)(base:Heap)(A:Around)(outer:List Env)(s:Shared)(H:Hp):Prop where
 frames:A.frames=some outer
 mod:Mod K mg base
 bs:∀b o,base.get? b=some o->s.heap.get? b=some o/\H b=none
 bsz:base.objs.size<=s.heap.objs.size
 funs:s.heap.FunFrames base outer
 frf:∀b∈frs outer,H b=none
 hok:HOk P w H s.heap
 bare:AllBare s.gens
def CE(outer:List Env)(P:Program)(w:World)(H:Hp)(s:Shared)(Q:VK)(u:Value)(s':Shared):Prop:=
 ∃v H',s'.os=s.os/\AllBare s'.gens/\Un (frs outer) [] H H' s.heap s'.heap/\HOk P w H' s'.heap/\RelV v u/\Q v H'
def CR(CX:CXT)(outer:List Env)(P:Program)(w:World)(H:Hp)(s:Shared)(Q:VK)(E:XK)(r:Result)(s':Shared):Prop:=
 match r with
 | .ok (.ret u)=>CE outer P w H s Q u s'
 | .ok _=>False
 | .error e=>CX outer H s E e s'
structure FnOk(P:Program)(w:World)(K:Fg)(mg:Str->Option Value)(base:Heap)(CX:CXT)(k:Nat)(f:Addr)(fd:FuncData)(ps:List Str)(sp:Sp):Prop where
 len:∀vs H Q E,sp vs H Q E->vs.length=ps.length
 run:∀(A:Around)(outer:List Env)(s:Shared)(H:Hp)(args:Args)(us:List Value)(vs:List V)(Q:VK)(E:XK),Room k A->Env0 P w K mg base A outer s H->BindsTo s fd args (ps.zip us)->Vals vs us->sp vs H Q E->
  codeAny (model P w) A (.call (.ref f) args) (CR CX outer P w H s Q E) s
theorem Env0.make{K:Fg}(e:Env0 P w K mg base A outer s H)(C:Addr)(us:List Value)(kw:List (Str×Value)):
 Env0 P w K mg base (A.under (.builtin "type.__call__" ⟨.ref C::us,kw⟩)) outer s H:=⟨by first | exact e.frames | (simpa [Around.under,Code.envs,Code.isFrame,pushEnvs]using e.frames),e.mod,e.bs,e.bsz,e.funs,e.frf,e.hok,e.bare⟩
section
variable{pins:List (10:)}
theorem Inv.env0(I:Inv X pins σ H s):Env0 X.prog X.w X.K X.mg X.base X.A X.stack s H:=
 ⟨I.ok.frames,I.ok.mod,I.bs,bX I.ok.bsz I.sz,I.stack,I.stkFree,I.hok,I.bare⟩
theorem Inv.after{Q:VK}(I:Inv X pins σ H s)(h:CE X.stack X.prog X.w H s Q u s'):EP X pins σ Q u s':=by
 obtain⟨v,H',M,G,un,J,r,q⟩:=h;obtain⟨U,g,d,t,L⟩:=s';obtain rfl:L=s.os:=M;exact⟨v,H',I.call (h':=U) (g':=g) (d':=d) (t':=t) (ch:=[]) un J G (λb z=>absurd z (17:)),r,q⟩
end
def Ur(sp:Sp)(dvs:List V)(E:XK)(t:TA):TE:=λσ H Q=>t σ H λvs H1=>sp (vs++dvs) H1 Q E
def BA(C:Addr)(m:Str)(sp:Sp)(dvs:List V)(E:XK)(ta:TE)(t:TA):TE:=λσ H Q=>ta σ H λx H1=>∃a dx fs,x=.ref a/\H1 a=some (.ins C dx fs)/\fs.lookup m=none/\
 t σ H1 λvs H2=>sp (x::(vs++dvs)) H2 Q E
def Bt(C:Addr)(sp:Sp)(dvs:List V)(E:XK)(t:TA):TE:=λσ H Q=>t σ H λvs H1=>∀x dx,H1 x=none->H1 dx=none->dx≠x->
 sp (.ref x::(vs++dvs)) (upd (upd H1 dx (.own x)) x (.ins C dx [])) (λv H2=>v=.non/\Q (.ref x) H2) E
def Binds(K:Fg)(fd:FuncData)(ps:List Str)(ds:List Value):Prop:=
 ∀(s:Shared)(us:List Value),K.In s.heap->(us++ds).length=ps.length->BindsTo s fd ⟨us,[]⟩ (ps.zip (us++ds))
theorem Binds.all{K:Fg}(h:∀us:List Value,us.length=ps.length->bindArgs fd ⟨us,[]⟩=pure (ps.zip us)):Binds K fd ps []:=λs us _ G=>by
 rw [dO]at G ⊢;exact .of_eq (h us G)
def UW(CX:CXT)(X:Cx)(E:XK):Prop:=∀(pins:List (10:))(σ:St)(H:Hp)(s:Shared)(e:Value)(s':Shared),Inv X pins σ H s->CX X.stack H s E e s'->X.xe e s'
section
variable{CX:CXT}{k:Nat}{C:Addr}{sp:Sp}{ds:List Value}{E:XK}{m:Str}{p:Pos}{o:Expr}{t:TA}
theorem Nx{pins:List (10:)}{σ:St}{H:Hp}{s:Shared}{Q:VK}{us:List Value}{vs:List V}(F:FnOk X.prog X.w X.K X.mg X.base CX k f fd ps sp)(hr:Room k X.A)(hb:Binds X.K fd ps ds)(hd:Vals dvs ds)(hx:UW CX X E)
 (I:Inv X pins σ H s) (r:Vals vs us) (h:sp (vs++dvs) H Q E):wpAny (6:) X.A (call (.ref f) us) (EP X pins σ Q) X.xe s:=by
 have J:Vals (vs++dvs) (us++ds):=r.append hd;have L:(us++ds).length=ps.length:=by rw [<-J.length];exact F.len _ _ _ _ h
 refine wpAny_call (codeAny_mono (F.run X.A X.stack s H ⟨us,[]⟩ (us++ds) (vs++dvs) Q E hr I.env0 (hb s us I.kIn L) J h) λr s' G=>?_);cases r with
 | error e=>exact hx pins σ H s e s' I G
 | ok M=>
  cases M with
  | ret u=>exact I.after G
  | next=>exact False.elim G
  | brk=>exact False.elim G
  | cont=>exact False.elim G
theorem Sb(F:FnOk X.prog X.w X.K X.mg X.base CX k f fd ps sp)(hr:Room k X.A)(hg:Gl X x)(hm:X.mg x=some (.ref f))(hk:PySem.W.keepIn X.K (.ref f)=true)(hb:Binds X.K fd ps ds)(hd:Vals dvs ds)(hx:UW CX X E)
 (ha:PA X (e::es) t) (hdb:(x==("__debug__":Str))=false:=by decide) (he:starEach (e::es) X.env=(false,eval e X.env)::starEach es X.env:=by rfl) (hpl:(backTo pos (starEach es X.env)).any (·.1)=false:=by rfl):
 PE X (.Call (.Name x p) (e::es) [] pos) (Ur sp dvs E t):=by
 intro pins s σ H Q I h;refine eX (Jl I hg hm ?_ hdb);refine PySem.W.callWith_K (h₀:=X.base) I.ok.mod.kin hk (thn (ha pos pins s σ H _ I h) λJ L ⟨vs,H1,G,r,q⟩=>⟨G.kIn,?_⟩) he hpl;exact Nx F hr hb hd hx G r q
theorem Vo(he:PE X o ta)(c:Cls X.K C)(hm:Meth X.K C m f)(F:FnOk X.prog X.w X.K X.mg X.base CX k f fd ps sp)(hr:Room k X.A)(hb:Binds X.K fd ps ds)(hd:Vals dvs ds)(hx:UW CX X E)
 (ht:eval (.Call (.Attribute o m apos) [] [] pos) X.env=(do
  let ov <-eval o X.env
  standAt apos.atName
  let(f,first) <-holding [ov] (getMethod ov m pl)
  callWith pos f first (backTo pos (starEach [] X.env)) (backToKw pos (keywordEach [] X.env))):=by rfl):
 PE X (.Call (.Attribute o m apos) [] [] pos) (BA C m sp dvs E ta YL):=by
 intro pins s σ H Q I h;refine PySem.W.methodCall_KW (pl:=pl) (thn (he pins s σ H _ I h) λu M ⟨x,H1,G,J,a,dx,fs,ex,L,l,q⟩=>?_) ht;subst ex;obtain rfl:u=Value.ref a:=J;refine VS G L c hm l ?_;exact PySem.W.callWith_K0 (first:=[.ref a]) G.kIn hm.kp (Nx (us:=[.ref a]) (vs:=[.ref a]) F hr hb hd hx G (.cons rfl .nil) q)
structure Mk(K:Fg)(C f:Addr):Prop where
 makes:PySem.W.makesIn K C=true
 init:PySem.W.findIn K (.ref C) "__init__"=some (some (.ref f))
 fn:PySem.W.isFn K (.ref f)=true
 kp:PySem.W.keepIn K (.ref C)=true
theorem Nf{pins:List (10:)}{Q:VK}{vs:List V}(M:Mk X.K C f)(F:FnOk X.prog X.w X.K X.mg X.base CX k f fd ps sp)(hr:Room (k+1) X.A)(hb:Binds X.K fd ps ds)(hd:Vals dvs ds)
 (hx:UW CX X E) (I:Inv X pins σ H s) (r:Vals vs us)
 (h:∀x dx,H x=none->H dx=none->dx≠x->sp (.ref x::(vs++dvs)) (upd (upd H dx (.own x)) x (.ins C dx [])) (λv H2=>v=.non/\Q (.ref x) H2) E):
 wpAny (6:) X.A (call (.ref C) us) (EP X pins σ Q) X.xe s:=by
 have L:=h (s.heap.objs.size+1) s.heap.objs.size (I.hok.fresh (Nat.le_succ _)) (I.hok.fresh (4:)) (bD (Nat.lt_succ_self _));have J:=Inv.made (C:=C) I;have U:Vals (V.ref (s.heap.objs.size+1)::(vs++dvs)) (Value.ref (s.heap.objs.size+1)::(us++ds)):=.cons rfl (r.append hd);have Y:(Value.ref (s.heap.objs.size+1)::us++ds).length=ps.length:=by
  have e:=U.length;rw [F.len _ _ _ _ L]at e;exact e.symm
 refine wpAny_call (OB (f:=f) I.kIn M.makes M.init (fm.mp M.fn) (codeAny_mono (F.run _ X.stack _ _ ⟨Value.ref (s.heap.objs.size+1)::us,[]⟩ (Value.ref (s.heap.objs.size+1)::(us++ds)) _ _ E (hr.make C us [])
  (J.env0.make C us []) (hb _ (Value.ref (s.heap.objs.size+1)::us) J.kIn Y) U L) λr s' G=>?_))
 cases r with
 | error e=>exact hx pins σ _ _ e s' J G
 | ok Z=>
  cases Z with
  | ret u=>
   obtain⟨v,H',I3,rv,ev,q3⟩:=J.after G;subst ev;exact⟨rv,⟨V.ref (s.heap.objs.size+1),H',I3,rfl,q3⟩⟩
  | next=>exact False.elim G
  | brk=>exact False.elim G
  | cont=>exact False.elim G
theorem P9(M:Mk X.K C f)(F:FnOk X.prog X.w X.K X.mg X.base CX k f fd ps sp)(hr:Room (k+1) X.A)(hg:Gl X x)(hm:X.mg x=some (.ref C))(hb:Binds X.K fd ps ds)(hd:Vals dvs ds)(hx:UW CX X E)
 (ha:PA X (e::es) t) (hdb:(x==("__debug__":Str))=false:=by decide) (he:starEach (e::es) X.env=(false,eval e X.env)::starEach es X.env:=by rfl) (hpl:(backTo pos (starEach es X.env)).any (·.1)=false:=by rfl):
 PE X (.Call (.Name x p) (e::es) [] pos) (Bt C sp dvs E t):=by
 intro pins s σ H Q I h;refine eX (Jl I hg hm ?_ hdb);refine PySem.W.callWith_K (h₀:=X.base) I.ok.mod.kin M.kp (thn (ha pos pins s σ H _ I h) λJ L ⟨vs,H1,G,r,q⟩=>⟨G.kIn,?_⟩) he hpl;exact Nf M F hr hb hd hx G r q
end
def PK(X:Cx)(kws:List Keyword)(t:TA):Prop:=
 ∀(pos:Pos)(pins:List (10:))(s:Shared)(σ:St)(H:Hp)(Q:List V->Hp->Prop),Inv X pins σ H s->t σ H Q->wpAny (6:) X.A (evalAll ((backToKw pos (keywordEach kws X.env)).map (·.2))) (AP X pins σ Q) X.xe s
section
variable{CX:CXT}{k:Nat}{C:Addr}{ks:List Str}{sp:Sp}{E:XK}{m:Str}{p kpos:Pos}{o:Expr}{t:TA}{nm:Option Str}
theorem Ah:PK X [] YL:=λ_ _ _ _ H Q I h=>wpAny_evalAll_nil ⟨[],H,I,.nil,h⟩
theorem Sj(ha:PE X e te)(hr:PK X kws t):PK X (⟨nm,e,kpos⟩::kws) (Q1 te t):=by
 intro pos pins s σ H Q I h;show wpAny _ _ (evalAll ((do let v <-eval e X.env;standAt pos;pure v)::(backToKw pos (keywordEach kws X.env)).map (·.2))) _ _ s;refine wpAny_evalAll_cons (aB (thn (ha pins s σ H _ I h) λu G ⟨x,H1,J,L,M⟩=>aB (wpAny_standAt (aF ?_))));exact thn (hr pos pins G σ H1 _ J M) λus s2 ⟨xs,H2,U,Y,Z⟩=>⟨x::xs,H2,U,.cons L Y,Z⟩
variable{g:List Value->List Value->List Value}{gV:List V->List V->List V}
end
structure FnScope(N P:List Str)(sc:Scope):Prop where
 kind:sc.kind=.function
 co:sc.isCoroutine=false
 gen:sc.isGenerator=false
 nd:N.Nodup
 pre:N.take P.length=P
 par:∀x∈P,sc.names.lookup x=some .local\/sc.names.lookup x=some .cell
 nofree:∀y∈sc.names,y.2≠.free
theorem XJ:∀{binds:List (Str×Value)}{m:Str->Option Value},(∀v,(x,v)∉binds)->bindL kindOf binds m x=m x
 | [],_,_=>rfl
 | (n,v)::r,m,h=>by
  unfold bindL;rw [XJ λw G=>h w (aV _ G)];split
  .have:x≠n:=by rintro rfl;exact h v aQ
   simp [this]
  .rfl
theorem Xy:∀{binds:List (Str×Value)}{m:Str->Option Value},(∀v,(x,v)∉binds)->bindC kindOf binds m x=m x
 | [],_,_=>rfl
 | (n,v)::r,m,h=>by
  unfold bindC;rw [Xy λw G=>h w (aV _ G)];split
  .rfl
  .have:x≠n:=by rintro rfl;exact h v aQ
   simp [this]
theorem XB{v:Value}:∀{P:List Str}{vs:List Value}{i:Nat}{m:Str->Option Value},P.Nodup->P[i]?=some x->vs[i]?=some v->kindOf x=some .local->
 bindL kindOf (P.zip vs) m x=some v
 | [],_,_,_,_,h,_,_=>by simp at h
 | _::_,[],_,_,_,_,h,_=>by simp at h
 | p::P,w::vs,0,m,nd,h1,h2,hk=>by
  simp at h1 h2;subst h1;subst h2;show bindL kindOf ((p,w)::P.zip vs) m p=_;unfold bindL;rw [XJ λv G=>(fg.mp nd).1 (List.of_mem_zip G).1,aH hk];simp
 | p::P,w::vs,i+1,m,nd,h1,h2,hk=>by
  show bindL kindOf ((p,w)::P.zip vs) m x=_;unfold bindL;exact XB (i:=i) (fg.mp nd).2 (by simpa using h1) (by simpa using h2) hk
theorem XL{v:Value}:∀{P:List Str}{vs:List Value}{i:Nat}{m:Str->Option Value},P.Nodup->P[i]?=some x->vs[i]?=some v->kindOf x≠some .local->
 bindC kindOf (P.zip vs) m x=some v
 | [],_,_,_,_,h,_,_=>by simp at h
 | _::_,[],_,_,_,_,h,_=>by simp at h
 | p::P,w::vs,0,m,nd,h1,h2,hk=>by
  simp at h1 h2;subst h1;subst h2;show bindC kindOf ((p,w)::P.zip vs) m p=_;unfold bindC;rw [Xy λv G=>(fg.mp nd).1 (List.of_mem_zip G).1,aG hk];simp
 | p::P,w::vs,i+1,m,nd,h1,h2,hk=>by
  show bindC kindOf ((p,w)::P.zip vs) m x=_;unfold bindC;exact XL (i:=i) (fg.mp nd).2 (by simpa using h1) (by simpa using h2) hk
def YN(N:List Str)(vs:List V):St:=vs.map some++List.replicate (N.length-vs.length) none
def Vt(CX:CXT)(P:Program)(w:World)(K:Fg)(mg:Str->Option Value)(base:Heap)(N:List Str)(qual:Str)(scope:Scope)(f:Addr)(cd:Value)(A:Around)(outer:List Env)(s:Shared)(H:Hp)(E:XK):Cx where
 prog:=P
 w:=w
 K:=K
 mg:=mg
 base:=base
 A:=A.deeper (envOfC qual scope s.heap.objs.size f cd)
 N:=N
 s₀:=s
 H₀:=H
 env:=envOfC qual scope s.heap.objs.size f cd
 outer:=outer
 stack:=envOfC qual scope s.heap.objs.size f cd::outer
 ex:=[]
 calm:=true
 fn:=λ_=>true
 pn:=[]
 xe:=λe s'=>wpAny (model P w) (A.deeper (envOfC qual scope s.heap.objs.size f cd)) (leaving (envOfC qual scope s.heap.objs.size f cd) e) (λ_ s''=>CX outer H s E e s'') (λe' s''=>CX outer H s E e' s'') s'
theorem W8{sc:Scope}{n:Nat}{x:Str}(h:sc.names.lookup x=some .cell):∃c,(cellsFrom n sc.names []).lookup x=some c:=by
 have q:=PySem.W.cellsFrom_some sc.names n [] (.inl h);exact Option.isSome_iff_exists.mp q
theorem Mp{CX:CXT}{K:Fg}{N:List Str}{s1:Shared}{E:XK}{vs:List V}
 (S:FnScope N ps scope) (hd:A.handled=none) (e0:Env0 P w K mg base A outer s H) (hl:vs.length=ps.length) (r:Vals vs us)
 (x:InCallC s s.heap.objs.size (bindL (envOfC qual scope s.heap.objs.size f cd).kindOf (ps.zip us) λ_=>none) (cellsFrom (s.heap.objs.size+1) scope.names []) (bindC (envOfC qual scope s.heap.objs.size f cd).kindOf (ps.zip us) λ_=>none) s1):
 Inv (Vt CX P w K mg base N qual scope f cd A outer s H E) [] (YN N vs) H s1:=by
 have Z:ps.length<=N.length:=by have:=congrArg List.length S.pre;rw [cM]at this;lia
 obtain⟨h1,tk,rfl,L⟩:=x.done;have G:∀b:Addr,b∉(Vt CX P w K mg base N qual scope f cd A outer s H E).ex:=λb z=>absurd (show b∈([]:List Addr)from z) (17:);refine⟨⟨e0.mod,S.kind,rfl,rfl,aZ _,λy z c h1 h2=>?_,λy hy=>?_,λy c _ h=>?_,λ_=>hd,Around.frames_deeper e0.frames,.inr ⟨rfl,rfl⟩,λb z=>absurd z (G b),e0.bs,e0.bsz,λb _ _=>G b,λb z=>absurd z (G b),e0.funs,e0.frf⟩,rfl,e0.bare,Un.kept L,⟨_,x.toInCall.ns,λi y v h1 h2 h3=>?_⟩,λy c h=>⟨_,x.cell y c h⟩,e0.hok.fresh (4:),λy c h=>?_,λp hp=>absurd (show p∈([]:List (10:))from hp) (17:),e0.hok.kept L,?_⟩
 .exact name_of_addr x.apart (d_ h1) (d_ h2)
 .have hy:scope.names.lookup y=some .cell\/scope.names.lookup y=some .free:=hy;rcases hy with hy | hy
  .exact W8 hy
  .exact absurd rfl (S.nofree _ (d_ hy))
 .exact cX (x.above y c (d_ h))
 .have hi:i<vs.length:=by
   unfold YN at h2
   by_cases hi:i<vs.length
   .exact hi
   .rw [fS (by simpa using hi)]at h2;rw [List.getElem?_replicate]at h2;split at h2<;>cases h2
  have U:vs[i]?=some v:=by
   unfold YN at h2;rw [fT (by simpa using hi),aJ]at h2;cases e:vs[i]? with
   | none=>rw [e]at h2;cases h2
   | some a=>rw [e]at h2;cases h2;rfl
  obtain⟨u,M,Y⟩:=r.get U;have hp:ps[i]?=some y:=by
   rw [<-S.pre,List.getElem?_take_of_lt (5:)];exact h1
  have J:ps.Nodup:=by rw [<-S.pre];exact S.nd.sublist (List.take_sublist _ _)
  refine⟨u,Y,?_⟩;rcases S.par y (aL hp)with k | k
  .exact .inl ⟨k,XB J hp M k⟩
  .obtain⟨c,e⟩:=W8 (n:=s.heap.objs.size+1) k;refine .inr ⟨.inl k,c,e,?_⟩;have q:=x.cell y c e;rw [XL J hp M (by show scope.names.lookup y≠_;rw [k];decide)]at q;exact q
 .exact e0.hok.fresh (cX (x.above y c (d_ h)))
 .unfold YN;show _=N.length;rw [bH,aE,fV];lia
theorem S0{CX:CXT}{K:Fg}{k:Nat}{params:Arguments}{dV kV:Value}
  {N:List Str} {sp:Sp} (lk:K.lookup f=some ⟨oc,od,.func (PySem.W.fnOf name qual params body scope dV kV doc pm an cdv ct),osl⟩) (hcd:PySem.W.codeIn K cdv qual=true) (S:FnScope N ps scope)
 (len:∀vs H Q E,sp vs H Q E->vs.length=ps.length)
 (hbody:∀(A:Around)(outer:List Env)(s:Shared)(H:Hp)(vs:List V)(Q:VK)(E:XK),Room k (A.deeper (envOfC qual scope s.heap.objs.size f cdv))->sp vs H Q E->
  ∃t,PSs (Vt CX P w K mg base N qual scope f cdv A outer s H E) body t/\t { nx:=λ_ H'=>Q .non H',rt:=Q } (YN N vs) H):
 FnOk P w K mg base CX (k+1) f (PySem.W.fnOf name qual params body scope dV kV doc pm an cdv ct) ps sp:=by
 refine⟨len,λA outer s H ab us vs Q E Z L hb r Y=>?_⟩;have hl:=len _ _ _ _ Y;have KX:K.In s.heap:=L.mod.kin.keeps λb o e=>(L.bs b o e).1;have aa:s.heap.NoLimit:=L.mod.nolimit.keeps λb o e=>(L.bs b o e).1;have M:∀y∈ps.zip us,scope.names.lookup y.1=some .local\/(scope.names.lookup y.1=some .cell/\((cellsFrom (s.heap.objs.size+1) scope.names []).lookup y.1).isSome=true):=λ⟨n,v⟩ hy=>by
  rcases S.par n (List.of_mem_zip hy).1 with q | q
  .exact .inl q
  .exact .inr ⟨q,PySem.W.cellsFrom_some _ _ _ (.inl q)⟩
 refine codeAny_call_function Z.depth (KX _ _ lk) rfl S.co S.gen rfl (PySem.W.codeRec_of KX hcd) (hb _ _ _ _ ?_);refine wpAny_newFunctionEnv_cells S.kind M λenv he s1 x=>?_;subst he;refine⟨aa.keeps x.toInCall.keep,codeAny_func ?_⟩;obtain⟨t,ht,hq⟩:=hbody A outer s H vs Q E (Z.deeper _) Y;have I:Inv (Vt CX P w K mg base N qual scope f cdv A outer s H E) [] (YN N vs) H s1:=Mp S Z.hd L hl r x;refine dD (ht [] s1 (YN N vs) H _ I hq) (λfl s' G=>?_) λe s' G=>G;have fin:∀{U:St}{H':Hp}{v:V}{u:Value},Inv (Vt CX P w K mg base N qual scope f cdv A outer s H E) [] U H' s'->RelV v u->Q v H'->CE outer P w H s Q u s':=
  λ{U H' v u} J rv q=>⟨v,H',J.os,J.bare,J.base,J.hok,rv,q⟩
 cases fl with
 | ret u=>
  obtain⟨v,U,H',J,rv,q⟩:=G;exact fin J rv q
 | next=>
  obtain⟨U,H',J,q⟩:=G;exact fin (v:=V.non) (u:=Value.none) J rfl q
 | brk=>
  obtain⟨_,_,_,q⟩:=G;exact False.elim q
 | cont=>
  obtain⟨_,_,_,q⟩:=G;exact False.elim q
end L2
variable{CX:L2.CXT}{sp:L2.Sp}
namespace L2
open PySem PySem.Spec PyProof.Rows
section
variable{p:Pos}{t:TA}{id:String}{r:List V->Hp->VK->Prop}
def tCB(r:List V->Hp->VK->Prop)(t:TA):TE:=λσ H Q=>t σ H λvs H1=>r vs H1 Q
theorem Qn(hc:Q6 X (.builtin id) r)(hg:Gl X x)(hm:X.mg x=none)(hv:bootBuiltins x=some (.builtin id))(ha:PA X (e::es) t)(hn:x≠"__name__":=by decide)(hdb:(x==("__debug__":Str))=false:=by decide)
 (he:starEach (e::es) X.env=(false,eval e X.env)::starEach es X.env:=by rfl) (hpl:(backTo pos (starEach es X.env)).any (·.1)=false:=by rfl):PE X (.Call (.Name x p) (e::es) [] pos) (tCB r t):=by
 intro pins s σ H Q I h;refine eX (Z2 I hg hm hv ?_ hn hdb);exact PyProof.Rows.callWith_builtin1 (thn (ha pos pins s σ H _ I h) λG J ⟨vs,H1,L,M,U⟩=>hc pins J σ H1 vs G Q L M U) he hpl
theorem QO(hc:Q6 X (.type T) r)(hg:Gl X x)(hm:X.mg x=none)(hv:bootBuiltins x=some (.type T))(ha:PA X (e::es) t)(hn:x≠"__name__":=by decide)(hdb:(x==("__debug__":Str))=false:=by decide)
 (he:starEach (e::es) X.env=(false,eval e X.env)::starEach es X.env:=by rfl) (hpl:(backTo pos (starEach es X.env)).any (·.1)=false:=by rfl):PE X (.Call (.Name x p) (e::es) [] pos) (tCB r t):=by
 intro pins s σ H Q I h;refine eX (Z2 I hg hm hv ?_ hn hdb);exact fq (thn (ha pos pins s σ H _ I h) λG J ⟨vs,H1,L,M,U⟩=>hc pins J σ H1 vs G Q L M U) he hpl
end
end L2
namespace HT
open PySem PyProof.Rows
def lexLt:List Int->List Int->Bool
 | [],[]=>false
 | [],_::_=>true
 | _::_,[]=>false
 | x::xs,y::ys=>if x=y then lexLt xs ys else decide (x<y)
theorem lexLt_cons(x y:Int)(xs ys:List Int):lexLt (x::xs) (y::ys)=if x=y then lexLt xs ys else decide (x<y):=rfl
section
open PySem.SeqAt
open PySem.AutoSeq1 (wpAny_loadPart')
open PySem.MeetsSeq PySem.MeetsSeq2 PySem.MeetsSeq3
end
section
variable{E:Value->Shared->Prop}
theorem cat_tup{t:Addr}{vs ws:List Value}(ht:IsTup s.heap t vs.toArray)(hb:IsTup s.heap b ws.toArray)(hv:vs≠[])
 (h1:ws=[]->Q (.ref t) s) (h2:ws≠[]->Q (.ref s.heap.objs.size) { s with heap:=s.heap.push { cls:=.type "tuple",data:=.seq (vs++ws).toArray } })
 (hsz:vs.length+ws.length<=sizeLine):wpAny (9:) A (binaryOp .Add (.ref t) (.ref b)) Q E s:=by
 obtain⟨⟨cls,dd,data,sl⟩,J,hc,n,hd⟩:=id ht;obtain⟨⟨ab,M,aa,U⟩,G,Y,n2,Z⟩:=id hb;simp only at hc hd Y Z;subst hc hd Y Z;have e:vs.toArray++ws.toArray=(vs++ws).toArray:=by simp
 by_cases L:ws=[]
 .exact concat_meets ⟨_,J,rfl⟩ ⟨_,G,rfl⟩ noFill_tuple_add seq_tuple_add PySem.F.slot_tuple_add PySem.F.entry_tuple_add (gU _ _)
   (tuple_addW1 t b vs.toArray ws.toArray n n2 dd M sl U (by simpa using hv) (by simp [L])) ⟨J,G,h1 L⟩
 .refine concat_meets ⟨_,J,rfl⟩ ⟨_,G,rfl⟩ noFill_tuple_add seq_tuple_add PySem.F.slot_tuple_add PySem.F.entry_tuple_add (gU _ _)
   (tuple_addW2 t b vs.toArray ws.toArray n n2 dd M sl U (by simpa using hv) (by simpa using L) (by rw [a_,a_];exact hsz)) ⟨J,G,?_⟩
  rw [e];exact h2 L
def sIx(n d:Nat):Option Int->Nat
 | none=>d
 | some v=>if v<0 then(v+(n:Int)).toNat else min v.toNat n
theorem sIx_none(n d:Nat):sIx n d none=d:=rfl
theorem sIx_nat(n d k:Nat):sIx n d (some (k:Int))=min k n:=by
 show(if(k:Int)<0 then((k:Int)+(n:Int)).toNat else min (k:Int).toNat n)=min k n;rw [aG (5:),aX]
theorem Aa(n d:Nat)(hd:d<=n)(o:Option Int):sIx n d o<=n:=by
 cases o with
 | none=>exact hd
 | some v=>
  show(if v<0 then(v+(n:Int)).toNat else min v.toNat n)<=n
  by_cases G:v<0
  .rw [aH G];lia
  .rw [aG G];exact f_ _ _
theorem GI(v:Int)(n d:Nat):(if v<0 then max (v+(n:Int)) 0 else min v (n:Int))=((sIx n d (some v):Nat):Int):=by
 show(if v<0 then max (v+(n:Int)) 0 else min v (n:Int))=(((if v<0 then(v+(n:Int)).toNat else min v.toNat n):Nat):Int)
 by_cases G:v<0
 .simp only [aH G];lia
 .simp only [aG G];lia
theorem Gx(lo hi:Option Int)(n:Nat):Builtin.Slice.sliceAdjust lo hi 1 (n:Int)=(((sIx n 0 lo:Nat):Int),((sIx n n hi:Nat):Int)):=by
 have h1:¬((1:Int)<0):=by lia
 unfold Builtin.Slice.sliceAdjust;simp only [h1,bU];refine Prod.ext ?_ ?_
 .cases lo with
  | none=>rfl
  | some v=>exact GI v n 0
 .cases hi with
  | none=>rfl
  | some v=>exact GI v n n
theorem VJ(i j:Nat):Builtin.Slice.slicePlaces (i:Int) (j:Int) 1=j-i:=by
 unfold Builtin.Slice.slicePlaces;have h1:(1:Int)>0:=by lia
 simp only [h1,cD,Int.ediv_one];split<;>lia
theorem Jx{v:Value}{o:Option Int}{Q:Option Int->Shared->Prop}(p:IsPart v o)(h:Q o s):wpAny (9:) A (Builtin.Slice.slicePartIndex v) Q E s:=by
 cases p with
 | none=>exact slicePart_none h
 | int i t=>exact slicePart_int h
theorem ZW{sl:Addr}{lo:Option Int}{Q:Int×Int×Nat->Shared->Prop}(hs:s.heap.IsSliceOf sl vl vu .none)(pl:IsPart vl lo)(pu:IsPart vu hi)
 (h:Q (((sIx n 0 lo:Nat):Int),1,sIx n n hi-sIx n 0 lo) s):wpAny (9:) A (Builtin.Slice.sliceApplied (.ref sl) (pure (n:Int))) Q E s:=by
 obtain⟨M,G,L,J⟩:=id hs;unfold Builtin.Slice.sliceApplied Builtin.Slice.sliceFields;refine aB (aB (cG G J (x:=vl) rfl (aB (cG G J (x:=vu) rfl (aB (cG G J (x:=.none) rfl (aF ?_)))))));refine aB (slicePart_none ?_);show wpAny _ _ (if((1:Int)==0)=true then _ else _) _ _ s;rw [aG (11:)];refine aB (Jx pl (aB (Jx pu (aB (aF ?_)))));show wpAny _ _ (match Builtin.Slice.sliceAdjust lo hi 1 (n:Int)with | (lo,hi)=>pure (lo,(1:Int),Builtin.Slice.slicePlaces lo hi 1)) _ _ s;rw [Gx lo hi n];show wpAny _ _ (pure (((sIx n 0 lo:Nat):Int),(1:Int),Builtin.Slice.slicePlaces ((sIx n 0 lo:Nat):Int) ((sIx n n hi:Nat):Int) 1)) _ _ s;rw [VJ];exact aF h
theorem NV(xs:Array Value)(i k:Nat):((List.range k).filterMap λ(m:Nat)=>xs[((i:Int)+(m:Int)*1).toNat]?).toArray=((xs.toList.drop i).take k).toArray:=by
 have e:(λ(m:Nat)=>xs[((i:Int)+(m:Int)*1).toNat]?)=λm=>xs[i+m]?:=by
  funext m
  have:((i:Int)+(m:Int)*1).toNat=i+m:=by lia
  rw [this]
 rw [e];have:=pick_run xs i k;rw [List.filterMap_map]at this;have G:((λx=>xs[x]?)∘λx=>i+x)=λm=>xs[i+m]?:=rfl;rw [G]at this;rw [this]
theorem getItem_tuple_cut{t sl:Addr}{lo:Option Int}(ht:IsTup s.heap t items)(hs:s.heap.IsSliceOf sl vl vu .none)(pl:IsPart vl lo)(pu:IsPart vu hi)
 (hw:¬(sIx items.size 0 lo=0/\sIx items.size items.size hi=items.size))
 (h:Q (.ref s.heap.objs.size) { s with heap:=s.heap.push { cls:=.type "tuple",data:=.seq ((items.toList.drop (sIx items.size 0 lo)).take (sIx items.size items.size hi-sIx items.size 0 lo)).toArray } })
 (hsz:items.size<=sizeLine):wpAny (9:) A (getItem (.ref t) (.ref sl)) Q E s:=by
 have G:sizeOk (.seq ((items.toList.drop (sIx items.size 0 lo)).take (sIx items.size items.size hi-sIx items.size 0 lo)).toArray):=by
  show((items.toList.drop (sIx items.size 0 lo)).take (sIx items.size items.size hi-sIx items.size 0 lo)).toArray.size<=sizeLine;rw [a_,cM,List.length_drop,eV];lia
 have hj:sIx items.size items.size hi<=items.size:=Aa _ _ (4:) hi;obtain⟨Y,J,L,Z⟩:=id hs;have M:s.TypeIs (.ref sl) "slice":=⟨Y,J,L⟩;unfold getItem
 try with_reducible refine cF ?_
 first | refine aB (aF ?_) | skip
 refine aB (wpAny_sequenceKey ht.typeIs (11:) ?_);refine aB (dU (name:=Str.ofString "__getitem__") ht.typeIs fo
  (dA fo ht.typeIs entry_tuple_getitem ?_ (args_tuple_getitem _ _)))
 show wpAny _ _ (Builtin.Tuple.tupleItemsOf (.ref t)>>=_) _ _ s;refine aB (tupleItemsOf_ ht ?_);refine aB (fj M ?_);rw [aH (11:)];refine aB (ZW hs pl pu ?_);have U:¬((((sIx items.size 0 lo:Nat):Int)==0&&(1:Int)==1&&(sIx items.size items.size hi-sIx items.size 0 lo)==items.size)=true):=by
  intro q;rw [bC,bC]at q;have q1:((sIx items.size 0 lo:Nat):Int)=0:=eq_of_beq q.1.1;have q2:sIx items.size items.size hi-sIx items.size 0 lo=items.size:=eq_of_beq q.2;exact hw ⟨by lia,by lia⟩
 show wpAny _ _ (if(((sIx items.size 0 lo:Nat):Int)==0&&(1:Int)==1&&(sIx items.size items.size hi-sIx items.size 0 lo)==items.size)=true then _ else _) _ _ s;rw [aG U,NV]
 first
  | exact aB (m:=Builtin.Tuple.tupleExact _) (cL (aF ⟨_,rfl,aF h⟩) G)
  | exact aB (m:=Builtin.Tuple.tupleExact _) (cL (aB (aF (aF ⟨_,rfl,aF h⟩))) G)
  | exact aB (aB (m:=Builtin.Tuple.tupleExact _) (cL (aF (aF ⟨_,rfl,aF h⟩)) G))
  | exact aB (aB (m:=Builtin.Tuple.tupleExact _) (cL (aF ⟨_,rfl,aF h⟩) G))
end
end HT
namespace L2
open PySem PySem.Spec PyProof.Rows
abbrev TO:=St->Hp->(Option Int->Hp->Prop)->Prop
def PO(X:Cx)(e:Option Expr)(t:TO):Prop:=
 ∀(pins:List (10:))(s:Shared)(σ:St)(H:Hp)(Q:Option Int->Hp->Prop),Inv X pins σ H s->t σ H Q->
  wpAny (6:) X.A (evalPart e X.env) (λu s'=>∃o H',Inv X pins σ H' s'/\IsPart u o/\Q o H') X.xe s
def P4:TO:=λ_ H Q=>Q none H
def Cs(t:TE):TO:=λσ H Q=>t σ H λx H1=>∃i,x=.int i/\Q (some i) H1
section
variable{lo hi:Option Expr}{tl th:TO}
theorem X8:PO X none P4:=by
 intro pins s σ H Q I h;rw [evalPart_none];exact aF ⟨none,H,I,.none,h⟩
theorem Wq(h:PE X e te):PO X (some e) (Cs te):=by
 intro pins s σ H Q I G;rw [evalPart_some];refine thn (h pins s σ H _ I G) λu U ⟨x,H1,J,L,M⟩=>?_;obtain⟨i,rfl,q⟩:=M;obtain⟨t,rfl⟩:=L;exact⟨some i,H1,J,.int i t,q⟩
def SlR(X:Cx)(r:V->Option Int->Option Int->Hp->VK->Prop):Prop:=
 ∀(pins:List (10:))(s:Shared)(σ:St)(H:Hp)(x:V)(v vl vu:Value)(lo hi:Option Int)(sl:Addr)(Q:VK),Inv X pins σ H s->RelV x v->s.heap.IsSliceOf sl vl vu .none->IsPart vl lo->IsPart vu hi->r x lo hi H Q->
  ∃T id,typeLookup (.type T) "__getitem__"=pure (some (.builtin id))/\s.TypeIs v T/\wpAny (6:) X.A (getItem v (.ref sl)) (EP X pins σ Q) X.xe s
def tSl(r:V->Option Int->Option Int->Hp->VK->Prop)(te:TE)(tl th:TO):TE:=λσ H Q=>te σ H λx H1=>tl σ H1 λl H2=>th σ H2 λu H3=>r x l u H3 Q
theorem J7{r:V->Option Int->Option Int->Hp->VK->Prop}(hr:SlR X r)(he:PE X e te)(hl:PO X lo tl)(hu:PO X hi th):PE X (.Subscript e (.Slice lo hi none p2) pos) (tSl r te tl th):=by
 intro pins s σ H Q I h;refine Subscript_ (thn (he pins s σ H _ I h) λv U ⟨x,H1,Y,Z,q1⟩=>?_);refine wpAny_Slice (thn (hl pins U σ H1 _ Y q1) λJ s2 ⟨l,H2,I2,pl,q2⟩=>thn (hu pins s2 σ H2 _ I2 q2) λL G ⟨u,M,I3,pu,q3⟩=>?_);rw [evalPart_none];refine aF ?_;have I4:Inv X pins σ M { G with heap:=G.heap.push { cls:=.type "slice",data:=.fields #[J,L,.none] } }:=I3.kept (t':=G.toks) λb ob q=>aN _ q;obtain⟨T,id,hT,ht,hg⟩:=hr pins { G with heap:=G.heap.push { cls:=.type "slice",data:=.fields #[J,L,.none] } } σ M x v J L l u G.heap.objs.size Q I4 Z (Heap.IsSliceOf.new ..) pl pu q3;show wpAny (6:) X.A (subscriptTail e (.Slice lo hi none p2) v (.ref G.heap.objs.size)) (EP X pins σ Q) X.xe { G with heap:=G.heap.push { cls:=.type "slice",data:=.fields #[J,L,.none] } };exact tail_any (ops:=[.ref G.heap.objs.size,v]) ht hT hg (by with_unfolding_all rfl)
def cutV(xs:List V)(lo hi:Option Int):List V:=(xs.drop (HT.sIx xs.length 0 lo)).take (HT.sIx xs.length xs.length hi-HT.sIx xs.length 0 lo)
theorem U8(xs:List V)(lo hi:Option Int):(cutV xs lo hi).length<=xs.length:=by
 unfold cutV;rw [cM,List.length_drop];lia
def CU(K:Fg):V->Option Int->Option Int->Hp->VK->Prop:=λx lo hi H Q=>∃a xs,x=.ref a/\SqT K H a xs/\
 ¬(HT.sIx xs.length 0 lo=0/\HT.sIx xs.length xs.length hi=xs.length)/\∀p,H p=none->Q (.ref p) (upd H p (.tup (cutV xs lo hi)))
theorem AQ:SlR X (CU X.K):=by
 intro pins s σ H x v vl vu lo hi sl Q I L M U Y h;obtain⟨a,xs,rfl,Z,hw,q⟩:=h;cases L;obtain⟨its,r,J,hz⟩:=I.tuple Z;have G:its.toArray.size=xs.length:=by rw [a_];exact r.length.symm
 refine⟨"tuple",_,fo.lookup,J.typeIs,?_⟩;refine HT.getItem_tuple_cut J M U Y (by rw [G];exact hw) ?_ (by rw [G];exact hz);rw [G];refine⟨.ref s.heap.objs.size,_,I.laid (t':=s.toks) (o:=.tup (cutV xs lo hi)) (λb ob q=>aN _ q) (4:) ?_,rfl,q _ (I.hok.fresh (4:))⟩;exact⟨bX (U8 xs lo hi) hz,_,(r.drop (HT.sIx xs.length 0 lo)).take (HT.sIx xs.length xs.length hi-HT.sIx xs.length 0 lo),IsTup.new _ _⟩
def Cv(K:Fg):R2:=λx y H Q=>∃a b xs ys,x=.ref a/\y=.ref b/\SqT K H a xs/\SqT K H b ys/\xs≠[]/\xs.length+ys.length<=sizeLine/\
 (ys=[]->Q (.ref a) H)/\(ys≠[]->∀p,H p=none->Q (.ref p) (upd H p (.tup (xs++ys))))
theorem Vals.nil_iff(r:Vals xs us):us=[]↔xs=[]:=by
 cases r with
 | nil=>simp
 | cons _ _=>simp
theorem Sq:OpR X (binaryOp .Add) (Cv X.K):=by
 intro pins s σ H x y v u Q I L M h;obtain⟨a,b,xs,ys,rfl,rfl,U,Y,Z,hz,q1,q2⟩:=h;cases L;cases M;obtain⟨its,J,p1,_⟩:=I.tuple U;obtain⟨aa,G,p2,_⟩:=I.tuple Y;refine HT.cat_tup p1 p2 (λz=>Z (J.nil_iff.mp z)) (λz=>⟨.ref a,H,I,rfl,q1 (G.nil_iff.mp z)⟩) (λz=>?_) (by rw [<-J.length,<-G.length];exact hz);refine⟨.ref s.heap.objs.size,_,I.laid (t':=s.toks) (o:=.tup (xs++ys)) (λb ob q=>aN _ q) (4:) ?_,rfl,q2 (λw=>z (G.nil_iff.mpr w)) _ (I.hok.fresh (4:))⟩;exact⟨by rw [bH];exact hz,_,J.append G,IsTup.new _ _⟩
end
def ixN(n:Nat)(i:Int):Option Nat:=if 0<=i then(if i<n then some i.toNat else none)else if-(n:Int)<=i then some (i+n).toNat else none
def atI{α:Type}(xs:List α)(i:Int):Option α:=(ixN xs.length i).bind λj=>xs[j]?
theorem LC{i:Int}(h:ixN n i=some j):seqIndex? i n=some j/\j<n/\-(n:Int)<=i/\i<n:=by
 unfold ixN at h
 by_cases G:0<=i
 .rw [aH G]at h
  by_cases h1:i<n
  .rw [aH h1]at h;have e:i.toNat=j:=aI h;exact⟨by rw [seqIndex_of G h1,e],by lia,by lia,h1⟩
  .rw [aG h1]at h;cases h
 .rw [aG G]at h
  by_cases h1:-(n:Int)<=i
  .rw [aH h1]at h;have e:(i+n).toNat=j:=aI h;exact⟨by rw [seqIndex_neg (5:) h1,e],by lia,h1,by lia⟩
  .rw [aG h1]at h;cases h
theorem Ws{α:Type}{xs:List α}{i:Int}{v:α}(h:atI xs i=some v):∃j,seqIndex? i xs.length=some j/\xs[j]?=some v/\j<xs.length/\-(xs.length:Int)<=i/\i<xs.length:=by
 unfold atI at h;cases e:ixN xs.length i with
 | none=>rw [e]at h;cases h
 | some j=>
  rw [e]at h;obtain⟨h1,h2,G,J⟩:=LC e;exact⟨j,h1,h,h2,G,J⟩
theorem Qq{α:Type}{xs:List α}{j:Nat}{v:α}(h:xs[j]?=some v):atI xs (j:Int)=some v:=by
 have G:j<xs.length:=(aU.mp h).1;have e:ixN xs.length (j:Int)=some j:=by
  unfold ixN;rw [aH (5:),aH (5:)];simp
 unfold atI;rw [e];exact h
def LV(b:Expr):Prop:=∀o i,subscripted b false o i=operate [o,i] (getItem o i)
def IxR(X:Cx)(r:R2):Prop:=
 ∀(value slice:Expr)(pins:List (10:))(s:Shared)(σ:St)(H:Hp)(x y:V)(v u:Value)(Q:VK),Inv X pins σ H s->RelV x v->RelV y u->r x y H Q->
  subscripted slice false v u=operate [v,u] (getItem v u)->wpAny (6:) X.A (subscriptTail value slice v u) (EP X pins σ Q) X.xe s
def MtR(X:Cx)(id:String)(r:V->List V->Hp->VK->Prop):Prop:=
 ∀(pins:List (10:))(s:Shared)(σ:St)(H:Hp)(x:V)(xs:List V)(v:Value)(us:List Value)(Q:VK),Inv X pins σ H s->RelV x v->Vals xs us->r x xs H Q->
  wpAny (6:) X.A (call (.builtin id) (v::us)) (EP X pins σ Q) X.xe s
section
variable{a b:Expr}{tb:TE}
theorem Qk{r:R2}(hr:IxR X r)(ha:PE X a ta)(hb:PE X b tb)(hs:LV b):PE X (.Subscript a b pos) (tOp r ta tb):=by
 intro pins s σ H Q I h;exact Subscript_ (An ha hb I h λv u G x y H2 J L M q=>hr a b pins G σ H2 x y v u Q J L M q (hs _ _))
def C8(K:Fg):R2:=λx y H Q=>∃p xs i v,x=.ref p/\y=.int i/\SqL K H p xs/\atI xs i=some v/\Q v H
def SD(K:Fg):R2:=λx y H Q=>∃p xs i v,x=.ref p/\y=.int i/\SqT K H p xs/\atI xs i=some v/\Q v H
def Do:R2:=λx y H Q=>∃z i c,x=.str z/\y=.int i/\z.length<=sizeLine/\atI z.cps.toList i=some c/\Q (.str ⟨#[c]⟩) H
theorem QE:IxR X (C8 X.K):=by
 intro value Z pins s σ H x y v u Q I rx ry h L;obtain⟨p,xs,i,z,rfl,rfl,hq,he,q⟩:=h;cases rx;obtain⟨t,rfl⟩:=ry;obtain⟨its,r,G,hz⟩:=I.list hq;obtain⟨j,h1,h2,h3,h4,h5⟩:=Ws he;obtain⟨w,M,U⟩:=r.get h2;have hl:=r.length;have hn:=UJ;have fin:EP X pins σ Q w s:=⟨z,H,I,U,q⟩
 by_cases Y:0<=i
 .have J:i.toNat=j:=by
   rw [seqIndex_of Y h5]at h1;exact aI h1
  exact item_listR G.isList Y (5:) (by rw [J];simpa using M) fin L
 .have J:(i+(its.toArray.size:Int)).toNat=j:=by
   rw [seqIndex_neg (5:) h4]at h1;rw [a_,<-hl];exact aI h1
  exact subscriptTail_builtinR (x:=w) G.isList.typeIs slot_list_getitem.lookup
   (wpAny_getItem_list_neg (Q:=λr s'=>r=w/\EP X pins σ Q r s') G.isList (5:) (by rw [a_]<;>lia) (5:) (by rw [J];simpa using M) ⟨rfl,fin⟩) L
theorem Qj:IxR X (SD X.K):=by
 intro value L pins s σ H x y v u Q I M U h Y;obtain⟨p,xs,i,z,rfl,rfl,Z,he,q⟩:=h;cases M;obtain⟨t,rfl⟩:=U;obtain⟨its,r,G,hz⟩:=I.tuple Z;obtain⟨j,h1,h2,h3,h4,h5⟩:=Ws he;obtain⟨w,ew,J⟩:=r.get h2;have hl:=r.length;have hn:=UJ;have fin:EP X pins σ Q w s:=⟨z,H,I,J,q⟩;exact subscriptTail_builtinR (x:=w) G.typeIs slot_tuple_getitem.lookup
  (getItem_tuple (j:=j) (Q:=λr s'=>r=w/\EP X pins σ Q r s') G (5:) (5:) (by rw [a_,<-hl];exact h1) (by simpa using ew) ⟨rfl,fin⟩) Y
theorem Ar:IxR X Do:=by
 intro value G pins s σ H x y v u Q I J L h M;obtain⟨z,i,c,rfl,rfl,hz,U,q⟩:=h;obtain⟨t,rfl⟩:=J;obtain⟨t',rfl⟩:=L;obtain⟨j,h1,h2,h3,Y,Z⟩:=Ws U;have hl:z.cps.toList.length=z.length:=by simp [Str.length]
 rw [hl]at h1 Y Z;have hn:=UJ;exact tail_any (typeIs_str s z t) slot_str_getitem.lookup (getItem_str (c:=c) (by
  have e1:decide (i< -(2^63:Int))=false:=bV (5:);have e2:decide (i>=2^63)=false:=bV (5:);rw [e1,e2,Bool.or_false]) (by rw [h1];simpa using h2) ⟨.str ⟨#[c]⟩,H,I.tok _,⟨_,rfl⟩,q⟩) M
theorem Gr(its:List Value)(n j:Nat)(u:Value):Obj.mapSeq (·.setIfInBounds j u) { cls:=.type "list",data:=.seq its.toArray n }={ cls:=.type "list",data:=.seq (its.set j u).toArray n }:=by
 simp [Obj.mapSeq]
theorem Inv.lst{pins:List (10:)}{p:Addr}(I:Inv X pins σ H s)(h:H p=some (.lst xs)):
 ∃(its:List Value)(n:Nat),Vals xs its/\s.heap.get? p=some { cls:=.type "list",data:=.seq its.toArray n }/\xs.length<=sizeLine:=by
 obtain⟨z,its,n,r,e⟩:=I.hok p _ h;exact⟨its,n,r,e,z⟩
theorem Inv.lstUpd{pins:List (10:)}{p:Addr}{n':Nat}{f:Obj->Obj}(I:Inv X pins σ H s)(h:H p=some (.lst xs))
 (ho:s.heap.get? p=some { cls:=.type "list",data:=.seq its.toArray n }) (hf:f { cls:=.type "list",data:=.seq its.toArray n }={ cls:=.type "list",data:=.seq its'.toArray n' }) (r:Vals ys its') (hz:ys.length<=sizeLine) (t:Nat):
 Inv X pins σ (upd H p (.lst ys)) { s with heap:=s.heap.update p f,toks:=t }:=by
 have e:(s.heap.update p f).get? p=some { cls:=.type "list",data:=.seq its'.toArray n' }:=by
  rw [dX f ho (by rw [hf]<;>rfl),hf]
 refine I.write (x:=p) (e:=p) (by rw [h];trivial) (.inl rfl) (λb u G q=>(eS _ _ (aW G)).trans q) ⟨_,e⟩ ?_;exact⟨hz,its',n',r,e⟩
def BG:V->V->V->Hp->(Hp->Prop)->Prop:=λo i v H Q=>∃p xs k j,o=.ref p/\i=.int k/\H p=some (.lst xs)/\ixN xs.length k=some j/\Q (upd H p (.lst (xs.set j v)))
theorem ND:Cu X BG:=by
 intro pins s σ H o i v ov iv u Q I ro ri rv h;obtain⟨p,xs,k,j,rfl,rfl,hp,hj,q⟩:=h;cases ro;obtain⟨t,rfl⟩:=ri;obtain⟨its,n,r,G,hz⟩:=I.lst hp;obtain⟨h1,h2,M,U⟩:=LC hj;have J:=r.length;have hn:=UJ;have Y:Inv X pins σ (upd H p (.lst (xs.set j v))) { s with heap:=s.heap.update p (Obj.mapSeq (·.setIfInBounds j u)) }:=
  I.lstUpd hp G (Gr its n j u) (r.set rv j) (by rw [List.length_set];exact hz) s.toks
 by_cases Z:0<=k
 .have L:k.toNat=j:=by
   rw [seqIndex_of Z U]at h1;exact aI h1
  exact PySem.W.ki_setAt G Z (5:) (by rw [a_,<-J];exact U) (by rw [L];exact⟨_,Y,q⟩)
 .have L:(k+(its.toArray.size:Int)).toNat=j:=by
   rw [seqIndex_neg (5:) M]at h1;rw [a_,<-J];exact aI h1
  exact PySem.W.ki_setBack G (5:) (by rw [a_,<-J];exact M) (5:) (by rw [L];exact⟨_,Y,q⟩)
theorem Wf(lo hi:Option Int)(n:Nat):(sliceBounds lo hi none n).1=((HT.sIx n 0 lo:Nat):Int)/\(sliceBounds lo hi none n).2.1=((HT.sIx n n hi:Nat):Int)/\(sliceBounds lo hi none n).2.2=1:=by
 refine⟨?_,?_,rfl⟩
 .cases lo with
  | none=>simp [sliceBounds,HT.sIx]
  | some i=>
   simp only [sliceBounds,HT.sIx,Option.getD_none,show(1:Int)>0 by decide,cD]
   by_cases h:i<0
   .simp only [h,cD]<;>lia
   .simp only [h,bU]<;>lia
 .cases hi with
  | none=>simp [sliceBounds,HT.sIx]
  | some i=>
   simp only [sliceBounds,HT.sIx,Option.getD_none,show(1:Int)>0 by decide,cD]
   by_cases h:i<0
   .simp only [h,cD]<;>lia
   .simp only [h,bU]<;>lia
theorem Xe(its:List Value)(lo hi:Option Int):slicePick its.toArray lo hi none=((its.drop (HT.sIx its.length 0 lo)).take (HT.sIx its.length its.length hi-HT.sIx its.length 0 lo)).toArray:=by
 obtain⟨h1,h2,G⟩:=Wf lo hi its.toArray.size;unfold slicePick;rw [h1,h2,G];simp only [sliceRange_one,pick_run,a_]<;>rfl
def Bz(K:Fg):V->Option Int->Option Int->Hp->VK->Prop:=λx lo hi H Q=>∃a xs,x=.ref a/\SqL K H a xs/\∀p,H p=none->Q (.ref p) (upd H p (.lst (cutV xs lo hi)))
theorem Wc:SlR X (Bz X.K):=by
 intro pins s σ H x v vl vu lo hi sl Q I L M U Y h;obtain⟨a,xs,rfl,Z,q⟩:=h;cases L;obtain⟨its,r,J,hz⟩:=I.list Z;have G:=r.length;refine⟨"list",_,slot_list_getitem.lookup,J.isList.typeIs,?_⟩;refine wpAny_getItem_list_slice J.isList M U Y .none (17:) ?_ (by rw [a_]<;>lia);rw [Xe,<-G];refine⟨.ref s.heap.objs.size,_,I.laid (t':=s.toks) (o:=.lst (cutV xs lo hi)) (λb ob q=>aN _ q) (4:) ?_,rfl,q _ (I.hok.fresh (4:))⟩;exact⟨bX (U8 xs lo hi) hz,_,0,(r.drop (HT.sIx xs.length 0 lo)).take (HT.sIx xs.length xs.length hi-HT.sIx xs.length 0 lo),bE _ rfl⟩
def UZ:V->Bool
 | .non=>true
 | .bl _=>true
 | .int _=>true
 | .str _=>true
 | _=>false
def eqV:V->V->Bool
 | .non,.non=>true
 | .bl a,.bl b=>a==b
 | .bl a,.int b=>(if a then 1 else 0)==b
 | .int a,.bl b=>a==(if b then 1 else 0)
 | .int a,.int b=>a==b
 | .str a,.str b=>a==b
 | _,_=>false
theorem Tt{x:V}{v:Value}(ry:RelV y u)(rx:RelV x v)(fy:UZ y=true)(fx:UZ x=true):SeqAt.EqAt A s u v (eqV y x):=by
 cases y with
 | non=>
  cases ry;cases x with
  | non=>cases rx;exact SeqAt.EqAt.same _
  | bl b=>cases rx;exact SeqAt.EqAt.none_bool b
  | int b=>obtain⟨t,rfl⟩:=rx;exact SeqAt.EqAt.none_int b t
  | str b=>obtain⟨t,rfl⟩:=rx;exact SeqAt.EqAt.none_str b t
  | _=>exact absurd (show false=true from fx) aS
 | bl a=>
  cases ry;cases x with
  | non=>cases rx;exact SeqAt.EqAt.bool_none a
  | bl b=>cases rx;exact SeqAt.EqAt.bool_bool a b
  | int b=>obtain⟨t,rfl⟩:=rx;exact SeqAt.EqAt.bool_int a b t
  | str b=>obtain⟨t,rfl⟩:=rx;exact SeqAt.EqAt.bool_str a b t
  | _=>exact absurd (show false=true from fx) aS
 | int a=>
  obtain⟨G,rfl⟩:=ry;cases x with
  | non=>cases rx;exact SeqAt.EqAt.int_none a G
  | bl b=>cases rx;exact SeqAt.EqAt.int_bool a G b
  | int b=>obtain⟨t,rfl⟩:=rx;exact SeqAt.EqAt.int_int a G b t
  | str b=>obtain⟨t,rfl⟩:=rx;exact SeqAt.EqAt.int_str a G b t
  | _=>exact absurd (show false=true from fx) aS
 | str a=>
  obtain⟨G,rfl⟩:=ry;cases x with
  | non=>cases rx;exact SeqAt.EqAt.str_none a G
  | bl b=>cases rx;exact SeqAt.EqAt.str_bool a G b
  | int b=>obtain⟨t,rfl⟩:=rx;exact SeqAt.EqAt.str_int a G b t
  | str b=>obtain⟨t,rfl⟩:=rx;exact SeqAt.EqAt.str_str a G b t
  | _=>exact absurd (show false=true from fx) aS
 | _=>exact absurd (show false=true from fy) aS
def eqU(x:V)(u:Value):Bool:=match u with
 | .none=>eqV .non x
 | .bool b=>eqV (.bl b) x
 | .int i _=>eqV (.int i) x
 | .str z _=>eqV (.str z) x
 | _=>false
theorem N0{x:V}(r:RelV y u)(f:UZ y=true):eqU x u=eqV y x:=by
 cases y with
 | non=>cases r;rfl
 | bl b=>cases r;rfl
 | int i=>obtain⟨t,rfl⟩:=r;rfl
 | str z=>obtain⟨t,rfl⟩:=r;rfl
 | _=>exact absurd (show false=true from f) aS
theorem Wa{x:V}:∀{xs:List V}{us:List Value},Vals xs us->xs.all UZ=true->us.any (eqU x)=xs.any λy=>eqV y x
 | _,_,.nil,_=>rfl
 | y::xs,u::us,.cons r t,f=>by
  rw [fi,bC]at f;rw [fO,fO,N0 r f.1,Wa t f.2]
theorem Jz{x:V}{v:Value}(rx:RelV x v)(fx:UZ x=true):∀{xs:List V}{us:List Value},Vals xs us->xs.all UZ=true->∀u∈us,SeqAt.EqAt A s u v (eqU x u)
 | _,_,.nil,_=>λu hu=>by cases hu
 | y::xs,u::us,.cons r t,f=>λG hu=>by
  rw [fi,bC]at f;rcases aM.mp hu with rfl | hu
  .rw [N0 r f.1];exact Tt r rx f.1 fx
  .exact Jz rx fx t f.2 G hu
def inV(x:V)(xs:List V):Bool:=xs.any λy=>eqV y x
def rIn(K:Fg)(neg:Bool):R2:=λx y H Q=>∃p xs,y=.ref p/\(SqL K H p xs\/SqT K H p xs)/\UZ x=true/\xs.all UZ=true/\Q (.bl (if neg then !inV x xs else inV x xs)) H
theorem XR:OpR X (compareOp .NotIn) (rIn X.K true):=by
 intro pins s σ H x y v u Q I L U h;obtain⟨p,xs,rfl,hq,M,fs,q⟩:=h;cases U;rcases hq with hq | hq
 .obtain⟨its,r,G,hz⟩:=I.list hq;refine SeqAt.notIn_listAt (eqU x) G.isList (λw J=>Jz L M r fs w (by simpa using J)) ⟨.bl _,H,I,rfl,?_⟩;rw [show its.toArray.any (eqU x)=its.any (eqU x)by simp,Wa r fs];exact q
 .obtain⟨its,r,G,hz⟩:=I.tuple hq;refine SeqAt.notIn_tupleAt (eqU x) G (λw J=>Jz L M r fs w (by simpa using J)) ⟨.bl _,H,I,rfl,?_⟩;rw [show its.toArray.any (eqU x)=its.any (eqU x)by simp,Wa r fs];exact q
theorem Qm:Q6 X (.builtin "len") (λxs H Q=>∃p ys,xs=[.ref p]/\(SqL X.K H p ys\/SqT X.K H p ys)/\Q (.int ys.length) H):=by
 intro pins s σ H xs U Q I r h;obtain⟨p,ys,rfl,hq,q⟩:=h;obtain⟨u,rfl,M⟩:=LO r;cases M;have Y:=UJ;rcases hq with hq | hq
 .obtain⟨its,J,L,hz⟩:=I.list hq;have G:=J.length;exact Calls.call_len_list L.isList (by simp only [a_]<;>lia) ⟨.int ys.length,H,I.tok _,⟨s.toks+1,by rw [a_,G]⟩,q⟩
 .obtain⟨its,J,L,hz⟩:=I.tuple hq;have G:=J.length;exact len_tuple L (by simp only [a_]<;>lia) ⟨.int ys.length,H,I.tok _,⟨s.toks+1,by rw [a_,G]⟩,q⟩
theorem ZC:Q6 X (.type "list") (λxs H Q=>∃p ys,xs=[.ref p]/\(SqL X.K H p ys\/SqT X.K H p ys)/\∀l,H l=none->Q (.ref l) (upd H l (.lst ys))):=by
 intro pins s σ H xs us Q I r h;obtain⟨p,ys,rfl,hq,q⟩:=h;obtain⟨u,rfl,rx⟩:=LO r;cases rx;have fin:∀(its:List Value),Vals ys its->ys.length<=sizeLine->∀(h':Heap)(G:Nat),(∀b o',s.heap.get? b=some o'->h'.get? b=some o')->
  h'.get? s.heap.objs.size=some { cls:=.type "list",dict:=none,data:=.seq its.toArray G,slots:=#[] }->EP X pins σ Q (.ref s.heap.objs.size) { s with heap:=h' }:=λits J hz h' G kp e=>
  ⟨.ref s.heap.objs.size,_,I.laid (t':=s.toks) kp (4:) (show ObjOk X.prog X.w _ h' _ (.lst ys)from⟨hz,its,G,J,e⟩),rfl,q _ (I.hok.fresh (4:))⟩
 rcases hq with hq | hq
 .obtain⟨its,J,L,hz⟩:=I.list hq;have M:=J.length;obtain⟨o,U,Y,n,Z⟩:=L.isList;exact call_list_seq p (.inl rfl) U Y Z (λh' G kp e=>fin its J hz h' G kp e) (by simp only [a_]<;>lia)
 .obtain⟨its,J,L,hz⟩:=I.tuple hq;have M:=J.length;obtain⟨o,U,Y,n,Z⟩:=L;exact call_list_seq p (.inr rfl) U Y Z (λh' G kp e=>fin its J hz h' G kp e) (by simp only [a_]<;>lia)
theorem QV:Q6 X (.type "tuple") (λxs H Q=>∃p ys,xs=[.ref p]/\((SqL X.K H p ys/\∀l,H l=none->Q (.ref l) (upd H l (.tup ys)))\/(SqT X.K H p ys/\Q (.ref p) H))):=by
 intro pins s σ H xs us Q I r h;obtain⟨p,ys,rfl,h⟩:=h;obtain⟨u,rfl,U⟩:=LO r;cases U;rcases h with⟨G,q⟩ | ⟨G,q⟩
 .obtain⟨its,J,L,hz⟩:=I.list G;have Y:=J.length;refine call_tuple_list L.isList (λh' kp=>?_) (by simp only [a_]<;>lia);have M:Inv X pins σ H { s with heap:=h' }:=I.kept (t':=s.toks) kp;have Z:Inv X pins σ (upd H h'.objs.size (.tup ys)) { s with heap:=h'.push { cls:=.type "tuple",data:=.seq its.toArray } }:=
   M.laid (t':=s.toks) (λb o e=>aN _ e) (4:) (show ObjOk X.prog X.w _ _ _ (.tup ys)from⟨hz,its,J,IsTup.new _ _⟩)
  exact⟨.ref h'.objs.size,_,Z,rfl,q _ (M.hok.fresh (4:))⟩
 .obtain⟨its,J,L,hz⟩:=I.tuple G;exact call_tuple_same L ⟨.ref p,H,I,rfl,q⟩
def tyV(K:Fg)(T:String)(x:V)(H:Hp):Prop:=match x with
 | .str _=>T="str"
 | .int _=>T="int"
 | .ref p=>(T="list"/\ ∃xs,SqL K H p xs)\/(T="tuple"/\ ∃o,K.lookup p=some o/\o.cls=.type "tuple"/\ o.dict=none) \/
  (T="dict"/\ ((∃kvs,H p=some (.dK kvs))\/∃kvs,H p=some (.dT kvs)))\/(T="set"/\ ∃S n,H p=some (.set S n))
 | _=>False
theorem Pj{pins:List (10:)}{x:V}{v:Value}(I:Inv X pins σ H s)(r:RelV x v)(ty:tyV X.K T x H):
 s.TypeIs v T/\∀a,v=.ref a->∃ob,s.heap.get? a=some ob/\ob.dict=none:=by
 cases x with
 | str z=>
  obtain⟨t,rfl⟩:=r;cases (show T="str" from ty);exact⟨typeIs_str s z t,λ_ e=>nomatch e⟩
 | int i=>
  obtain⟨t,rfl⟩:=r;cases (show T="int" from ty);exact⟨typeIs_int s i t,λ_ e=>nomatch e⟩
 | ref p=>
  cases r;rcases ty with⟨rfl,xs,U⟩ | ⟨rfl,o,G,Y,J⟩ | ⟨rfl,G⟩ | ⟨rfl,S,n,G⟩
  .obtain⟨its,_,M,_⟩:=I.list U;refine⟨M.isList.typeIs,λa e=>?_⟩;cases e;obtain⟨o,n,e,c,J,_⟩:=M;exact⟨o,e,J⟩
  .refine⟨⟨o,I.kIn p o G,Y⟩,λa e=>?_⟩;cases e;exact⟨o,I.kIn _ o G,J⟩
  .have z:∃o,s.heap.get? p=some o/\o.ExactDict:=by
    rcases G with⟨kvs,G⟩ | ⟨kvs,G⟩
    .obtain⟨_,_,_,_,o,_,_,e,ex,_⟩:=I.hok p _ G;exact⟨o,e,ex⟩
    .obtain⟨_,_,_,_,o,_,_,e,ex,_⟩:=I.hok p _ G;exact⟨o,e,ex⟩
   obtain⟨o,e,ex⟩:=z;refine⟨⟨o,e,ex.1⟩,λa L=>?_⟩;cases L;exact⟨o,e,ex.2.1⟩
  .obtain⟨o,_,_,_,e,ex,_⟩:=I.hok p _ G;refine⟨⟨o,e,ex.1⟩,λa L=>?_⟩;cases L;exact⟨o,e,ex.2.1⟩
 | _=>exact False.elim ty
def CQ(K:Fg)(T:String)(r:V->List V->Hp->VK->Prop)(to:TE):TE:=λσ H Q=>to σ H λx H1=>tyV K T x H1/\r x [] H1 Q
def tBM(K:Fg)(T:String)(r:V->List V->Hp->VK->Prop)(to:TE)(t:TA):TE:=λσ H Q=>to σ H λx H1=>tyV K T x H1/\t σ H1 λxs H2=>r x xs H2 Q
variable{o:Expr}{t:TA}{id:String}{r:V->List V->Hp->VK->Prop}
theorem Pe(pa:PlainAttrs T)(slot:Slot T name id)(hty:typeOf (.builtin id)=pure (.type "method_descriptor"))(hm:MtR X id r)(ho:PE X o to)
 (hbase:attributeBase o name X.env (eval o X.env)=eval o X.env:=by rfl) (hline:(apos.endLine==cpos.line)=true:=by rfl):PE X (.Call (.Attribute o name apos) [] [] cpos) (CQ X.K T r to):=by
 intro pins s σ H Q I h;refine wpAny_Call_method0_late hbase hline (thn (ho pins s σ H _ I h) λv L ⟨x,H1,G,J,ty,M⟩=>?_);obtain⟨h1,h2⟩:=Pj G J ty;exact⟨T,id,pa,slot,hty,h1,h2,Calls.callWith_builtin rfl (PySem.evalArgs_none (hm pins L σ H1 x [] v [] Q G J .nil M))⟩
theorem YQ(pa:PlainAttrs T)(slot:Slot T name id)(hty:typeOf (.builtin id)=pure (.type "method_descriptor"))(hm:MtR X id r)(ho:PE X o to)(ha:PA X (e::es) t)
 (hbase:attributeBase o name X.env (eval o X.env)=eval o X.env:=by rfl)
 (hfew:((backTo cpos (starEach (e::es) X.env)).all (λx=>!x.1)&&(backToKw cpos (keywordEach [] X.env)).all (λx=>x.1.isSome)
  &&decide ((e::es).length+([]:List Keyword).length+(if([]:List Keyword).isEmpty then 0 else 1)<30))=true:=by rfl)
 (hline:(apos.endLine==cpos.line)=true:=by rfl) (hs:starEach (e::es) X.env=(false,eval e X.env)::starEach es X.env:=by rfl) (hplain:(backTo cpos (starEach es X.env)).any (·.1)=false:=by rfl):
 PE X (.Call (.Attribute o name apos) (e::es) [] cpos) (tBM X.K T r to t):=by
 intro pins s σ H Q I h;refine wpAny_Call_method_late hbase hfew hline rfl (thn (ho pins s σ H _ I h) λv M ⟨x,H1,G,J,ty,U⟩=>?_);obtain⟨h1,h2⟩:=Pj G J ty;refine⟨T,id,pa,slot,hty,h1,h2,?_⟩;have L:=ha cpos pins M σ H1 _ G U;rw [hs]at L ⊢;refine Calls.callWith_builtin (by show(false||(backTo cpos (starEach es X.env)).any (·.1))=false;rw [hplain]<;>rfl) (Calls.evalArgs_plain ?_);exact thn L λY Z ⟨vs,H2,I2,r2,q2⟩=>hm pins Z σ H2 x vs v Y Q I2 J r2 q2
end
def MtM(X:Cx)(id:String)(r:V->List V->Hp->VK->Prop):Prop:=
 ∀(pins:List (10:))(s:Shared)(σ:St)(H:Hp)(x:V)(xs:List V)(v:Value)(us:List Value)(Q:VK),Inv X pins σ H s->RelV x v->Vals xs us->r x xs H Q->
  wpAny (6:) X.A (call (.builtin id) (v::us)) (EP X pins σ Q) X.xe s
theorem Vals.one:∀{x:V}{us:List Value},Vals [x] us->∃u,us=[u]/\RelV x u
 | _,_,.cons r .nil=>⟨_,rfl,r⟩
theorem Vals.two:∀{x y:V}{us:List Value},Vals [x,y] us->∃u v,us=[u,v]/\RelV x u/\RelV y v
 | _,_,_,.cons r (.cons q .nil)=>⟨_,_,rfl,r,q⟩
theorem Vals.zero:∀{us:List Value},Vals [] us->us=[]
 | _,.nil=>rfl
theorem Vals.dropLast(h:Vals xs us):Vals xs.dropLast us.dropLast:=by
 induction h with
 | nil=>exact .nil
 | cons r t G=>
  cases t with
  | nil=>exact .nil
  | cons q J=>exact .cons r G
theorem Gw{α:Type}(l:List α):l.eraseIdx (l.length-1)=l.dropLast:=by
 induction l with
 | nil=>rfl
 | cons a r G=>
  cases r with
  | nil=>rfl
  | cons b r=>
   have e:(a::b::r).length-1=((b::r).length-1)+1:=by
    have h1:(a::b::r).length=r.length+2:=rfl;have h2:(b::r).length=r.length+1:=rfl;lia
   rw [e,List.eraseIdx_cons_succ,G]
   all_goals rfl
section
variable{pins:List (10:)}
theorem Inv.lset{f:Array Value->Array Value}(I:Inv X pins σ H s)(hH:H l=some (.lst xs))
 (e:s.heap.get? l=some { cls:=.type "list",data:=.seq its.toArray n }) (hf:f its.toArray=its'.toArray) (hv:Vals ys its') (hz:ys.length<=sizeLine):
 Inv X pins σ (upd H l (.lst ys)) { s with heap:=s.heap.update l (Obj.mapSeq f),toks:=t' }:=by
 have q:=PySem.IsL.update e f;rw [hf]at q;refine I.write (x:=l) (e:=l) (by rw [hH];exact trivial) (.inl rfl) (λL u G J=>(eS s.heap (Obj.mapSeq f) (aW G)).trans J) ⟨_,q⟩ ?_;exact⟨hz,its',_,hv,q⟩
theorem Inv.lnew(I:Inv X pins σ H s)(hv:Vals ys its)(hz:ys.length<=sizeLine):
 Inv X pins σ (upd H s.heap.objs.size (.lst ys)) { s with heap:=s.heap.push { cls:=.type "list",data:=.seq its.toArray },toks:=t' }:=
 I.laid (λ_ _ q=>aN _ q) (4:) ⟨hz,its,0,hv,bE _ rfl⟩
theorem Inv.fresh(I:Inv X pins σ H s):H s.heap.objs.size=none:=I.hok.fresh (4:)
theorem Inv.lstM(I:Inv X pins σ H s)(hH:H l=some (.lst xs)):xs.length<=sizeLine/\∃(its:List Value)(n:Nat),Vals xs its/\xs.length=its.length/\s.heap.get? l=some { cls:=.type "list",data:=.seq its.toArray n }:=by
 obtain⟨z,its,n,r,e⟩:=I.hok l _ hH;exact⟨z,its,n,r,r.length,e⟩
theorem PV(h:n<=sizeLine):Builtin.List.listTooLong n=false:=by
 unfold Builtin.List.listTooLong;exact bV (5:)
end
def Ls:V->List V->Hp->VK->Prop:=λx vs H Q=>∃l xs y,x=.ref l/\vs=[y]/\H l=some (.lst xs)/\xs.length<sizeLine/\Q .non (upd H l (.lst (xs++[y])))
theorem Zo:MtM X "list.append" Ls:=by
 intro pins s σ H x vs v U Q I J L h;obtain⟨l,xs,y,rfl,rfl,G,hz,q⟩:=h;cases J;obtain⟨u,rfl,M⟩:=L.one;obtain⟨z,its,n,r,Y,e⟩:=I.lstM G;refine call_meets F.slot_list_append ⟨_,e,rfl⟩ F.entry_list_append (F.args_list_append_2 _ _) (PySem.list_append l its.toArray n u (by rw [a_];lia)) ⟨e,?_⟩;refine⟨.non,_,I.lset (its':=its++[u]) G e (17:) (r.append (.cons M .nil)) ?_,rfl,q⟩;rw [bH,dE];lia
def G6:V->List V->Hp->VK->Prop:=λx vs H Q=>∃l b xs zs,x=.ref l/\vs=[.ref b]/\H l=some (.lst xs)/\H b=some (.lst zs)/\xs.length+zs.length<=sizeLine/\Q .non (upd H l (.lst (xs++zs)))
theorem UD:MtM X "list.extend" G6:=by
 intro pins s σ H x vs v us Q I U Y h;obtain⟨l,b,xs,zs,rfl,rfl,L,Z,hz,q⟩:=h;cases U;obtain⟨u,rfl,ru⟩:=Y.one;cases ru;obtain⟨z,its,n,r,hl,e⟩:=I.lstM L;obtain⟨z2,G,n2,r2,aa,e2⟩:=I.lstM Z;have M:its.toArray.size+G.toArray.size<=sizeLine:=by rw [a_,a_];lia
 have J:¬(!its.toArray.isEmpty&&Builtin.List.listTooLong (its.toArray.size+G.toArray.size))=true:=by
  rw [PV M,Bool.and_false];exact aS
 refine call_meets F.slot_list_extend ⟨_,e,rfl⟩ F.entry_list_extend (F.args_list_extend_2 _ _)
  (AutoSeq1.list_extend_list_list_0 l its.toArray n b G.toArray n2 J (by rw [a_];lia) (5:)) ⟨e,e2,?_⟩
 refine⟨.non,_,I.lset (its':=its++G) L e (17:) (r.append r2) ?_,rfl,q⟩;rw [bH];lia
def Cr:V->List V->Hp->VK->Prop:=λx vs H Q=>∃l xs y,x=.ref l/\vs=[]/\H l=some (.lst xs)/\xs[xs.length-1]?=some y/\Q y (upd H l (.lst xs.dropLast))
theorem V6:MtM X "list.pop" Cr:=by
 intro pins s σ H x vs v us Q I M U h;obtain⟨l,xs,y,rfl,rfl,G,Y,q⟩:=h;cases M;have J:=U.zero;subst J;obtain⟨z,its,n,r,Z,e⟩:=I.lstM G;obtain⟨u,hu,ru⟩:=r.get Y;have L:its.toArray[its.toArray.size-1]?=some u:=by
  show its.toArray[its.length-1]?=some u;rw [<-fW,<-Z];exact hu
 refine call_meets F.slot_list_pop ⟨_,e,rfl⟩ F.entry_list_pop (F.args_list_pop_1 _) (MeetsSeq.list_pop_last l its.toArray n u L (by rw [a_];lia)) ⟨e,?_⟩;refine⟨y,_,I.lset (its':=its.dropLast) G e ?_ r.dropLast ?_,ru,q⟩
 .show its.toArray.eraseIdxIfInBounds (its.toArray.size-1)=its.dropLast.toArray;rw [a_,List.eraseIdxIfInBounds_toArray,Gw]
 .rw [fC];lia
section
variable{E:Value->Shared->Prop}
end
end L2
namespace Att
open PySem PySem.W PySem.Calls PyProof.Rows
theorem Je{P:Params}:∀(ns:List Int)(vs:List Value),WellAll P h vs (ns.map WData.int)->IntsAre vs ns:=by
 intro ns
 induction ns with
 | nil=>
  intro vs w;rw [List.map_nil]at w;cases w;exact .nil
 | cons n ns G=>
  intro vs w;rw [aR]at w;cases w with
  | cons a b=>
   cases a;exact .cons _ _ (G _ b)
theorem MO{l:OpenLaw}(hn:l.most=some n){P:Params}{args:List WData}{vals:List Value}
 (hpre:l.row.toRowW.claim.pre args=true) (hwl:WellAll P h vals args):
 ∃a vs ns,vals=[Value.ref a]/\args=[WData.list (ns.map WData.int)]/\h.get? a=some { cls:=.type "list",data:=.seq vs.toArray }/\IntsAre vs ns/\ns.length<=n:=by
 have U:WShape.hasAll [] args [.list .int]=true:=(pre_splitW hpre).1;have Y:l.pre.holds [] { args:=args }=true:=(pre_splitW hpre).2;obtain⟨d,r,rfl,h1,h2⟩:=hasAllW_cons U;obtain rfl:=hasAllW_nil h2;obtain⟨xs,rfl,Z⟩:=hasW_list h1;obtain⟨ns,rfl⟩:=items_int Z;have L:ns.length<=n:=by
  unfold OpenLaw.pre at Y;have G:(WTm.not (.lt (.lit (.int (n:Int))) (.len (.arg 0)))).holds [] { args:=[.list (ns.map .int)] }=true:=by
   have G:=(holds_andW Y).1;rw [hn]at G;exact G
  have J:=condW_of G (w_not (w_lt w_lit (w_len_list (w_arg rfl))));rw [aE]at J;refine Nat.le_of_not_lt λq=>?_;have q':(n:Int)<((ns.length:Nat):Int):=by lia
  first
   | (rw [bO q']at J;exact absurd J (11:))
   | (simp at J;lia)
 cases hwl with
 | cons w1 w2=>
  cases w2;cases w1 with
  | list ho M=>exact⟨_,_,ns,rfl,rfl,ho,Je ns _ M,L⟩
theorem Mg(l:OpenLaw)(args:List WData):l.row.toRowW.claim.post args (.bool true) args=true:=
 postW_of (r:=l.row.toRowW) (X:=(true==true))
  (show WShape.has [] (.bool true) .bool=true by first | rfl | decide | simp [WShape.has,WShape.arms,WShape.armsAll])
  (show(WTm.eq .res (.lit (.bool true))).value [] { args:=args,res:=some (.bool true),after:=args }=some (.bool (true==true))from w_eq_bool (w_res rfl) w_lit) rfl
theorem attach_call{l:OpenLaw}{q:Program}{d:DefRec}
 (hn:l.most=some n) (hdf:d.params.defaults=[])
 (call:∀(w:World)(s₀ s₁:Shared)(mg mb:Str->Option Value)(fa:Addr)(o:Obj)(pm cd doc:Value)(a:Addr)(vs:List Value)(ns:List Int),Ground q loose [] XP w s₀ mg mb s₁.heap->YP w s₁.heap->
  s₁.heap.get? fa=some o->o.data=.func (docDef d.name d.params d.body d.scope pm cd doc)->s₁.heap.CodeRec cd d.name->mg d.name=some (.ref fa)->
  s₁.heap.get? a=some { cls:=.type "list",data:=.seq vs.toArray }->IntsAre vs ns->ns.length<=n->s₁.gens=#[]->
  codeAny (model l.prog w) callerA (.call (.ref fa) ⟨[.ref a],[]⟩) (λr s'=>r=.ok (.ret (.bool true))/\OldK s₁.heap s'.heap/\s'.os=s₁.os/\AllBare s'.gens) s₁):
 WalkO q loose XP YP l.row.toRowW d [] (λf vs=>PySem.call f vs):=by
 intro w s₀ s₁ mg mb G Y fa o pm cd doc dV kV ho hd Z hD aa hg ac ad as L ae af ab ag;obtain rfl:dV=.none:=Dflts.none hD hdf;obtain rfl:kV=.none:=Dflts.noKw hD;obtain⟨a,vs,ns,rfl,rfl,M,J,U⟩:=MO hn L ab;refine enter_call (codeAny_mono (call w s₀ s₁ mg mb fa o pm cd doc a vs ns G Y ho (fd_plain hd) Z aa M J U hg) λr s' hq=>?_);obtain⟨rfl,h2,h3,h4⟩:=hq;exact⟨.inl ⟨.bool true,.bool true,[],rfl,λ_=>rfl,.bool true,Mg l _,λ_=>⟨List.Pairwise.nil,λ_ hm=>(nomatch hm)⟩⟩,h2,h3,h4⟩
section
variable{E:Value->Shared->Prop}{K:Frag}
end
end Att
namespace L2
open PySem PySem.Spec PyProof.Rows
theorem XQ:∀{vs:List Value}{ns:List Int},IntsAre vs ns->Vals (ns.map V.int) vs
 | _,_,.nil=>.nil
 | _,_,.cons n t h=>.cons ⟨t,rfl⟩ (XQ h)
def inClass(s:Stmt)(j:Nat):Stmt:=match s with
 | .ClassDef _ _ _ body _ _ _ _ _ _ _=>body.getD j (.Pass ⟨0,0,0,0⟩)
 | _=>.Pass ⟨0,0,0,0⟩
def defArgs(s:Stmt):Arguments:=match s with
 | .FunctionDef _ a _ _ _ _ _ _ _ _=>a
 | _=>{ posonlyargs:=[],args:=[],vararg:=none,kwonlyargs:=[],kw_defaults:=[],kwarg:=none,defaults:=[] }
def defBody(s:Stmt):List Stmt:=match s with
 | .FunctionDef _ _ b _ _ _ _ _ _ _=>b
 | _=>[]
def defScope(s:Stmt):Scope:=match s with
 | .FunctionDef _ _ _ _ _ _ sc _ _ _=>sc
 | _=>{ kind:=.function,names:=[],isGenerator:=false,isCoroutine:=false }
abbrev CX0:CXT:=λ_ _ _ _ _ _=>False
abbrev E0:XK:=λ_ _ _=>False
theorem L0:UW CX0 X E0:=λ_ _ _ _ _ _ _ h=>h.elim
structure Fun(K:Fg)(x qual:Str)(st:Stmt)(f:Addr)(fd:FuncData):Prop where
 ex:∃(oc:Value)(od:Option Addr)(kV doc pm:Value)(an:Option Addr)(cdv ct:Value)(osl:Array (Option Value)),
  fd=PySem.W.fnOf x qual (defArgs st) (defBody st) (defScope st) .none kV doc pm an cdv ct/\K.lookup f=some ⟨oc,od,.func fd,osl⟩/\PySem.W.codeIn K cdv qual=true
 kp:PySem.W.keepIn K (.ref f)=true
section
variable{K:Fg}
theorem Fun.ok{x qual:Str}{st:Stmt}{f:Addr}{fd:FuncData}{N ps:List Str}{k:Nat}{sp:Sp}(F:Fun K x qual st f fd)(S:FnScope N ps (defScope st))(len:∀vs H Q E,sp vs H Q E->vs.length=ps.length)
 (hbody:∀(cdv:Value)(A:Around)(outer:List Env)(s:Shared)(H:Hp)(vs:List V)(Q:VK)(E:XK),Room k (A.deeper (envOfC qual (defScope st) s.heap.objs.size f cdv))->sp vs H Q E->
  ∃t,PSs (Vt CX0 P w K mg base N qual (defScope st) f cdv A outer s H E).nox (defBody st) t/\t { nx:=λ_ H'=>Q .non H',rt:=Q } (YN N vs) H):FnOk P w K mg base CX0 (k+1) f fd ps sp:=by
 obtain⟨Z,od,kV,U,pm,an,cdv,ct,Y,rfl,L,G⟩:=F.ex;refine S0 L G S len λA outer s H vs Q E M J=>?_;obtain⟨t,h,q⟩:=hbody cdv A outer s H vs Q E M J;exact⟨t,h.nox,q⟩
theorem Fun.binds{st:Stmt}(F:Fun K x qual st f fd)
 (h:∀(kV doc pm:Value)(an:Option Addr)(cdv ct:Value)(us:List Value),us.length=ps.length->bindArgs (PySem.W.fnOf x qual (defArgs st) (defBody st) (defScope st) .none kV doc pm an cdv ct) ⟨us,[]⟩=pure (ps.zip us)):Binds K fd ps []:=by
 obtain⟨L,M,kV,doc,pm,an,cdv,ct,G,rfl,U,J⟩:=F.ex;exact .all (h kV doc pm an cdv ct)
theorem Z5{x qual:Str}{st:Stmt}{f:Addr}{oc:Value}{od an:Option Addr}{osl:Array (Option Value)}{kV doc pm cdv ct:Value}(l:K.lookup f=some ⟨oc,od,.func (PySem.W.fnOf x qual (defArgs st) (defBody st) (defScope st) .none kV doc pm an cdv ct),osl⟩)
 (c:PySem.W.codeIn K cdv qual=true) (k:PySem.W.keepIn K (.ref f)=true):Fun K x qual st f (PySem.W.fnOf x qual (defArgs st) (defBody st) (defScope st) .none kV doc pm an cdv ct):=⟨⟨oc,od,kV,doc,pm,an,cdv,ct,osl,rfl,l,c⟩,k⟩
end
theorem OX{k:Nat}(hr:Room k A):A.units+1<cLine:=Nat.lt_of_le_of_lt (Nat.add_le_add_left (by decide:1<=64) _) hr.units
theorem pv(i:Nat)(hN:X.N[i]?=some x:=by rfl)(hv:Vis X.env.scope x:=by first | exact Or.inl rfl | exact Or.inr (15:) | exact Or.inr (Or.inr rfl))(hd:(x==("__debug__":Str))=false:=by decide)
 (hcd:(x==("__classdict__":Str))=false:=by decide):PE X (.Name x pos) (ZL i):=Gs hN hv hd hcd
theorem QS{A B:Prop}(h:B):if false=true then A else B:=by
 rw [aG aS];exact h
theorem Q4{A B:Prop}(h:A):if true=true then A else B:=by
 rw [aH rfl];exact h
theorem MD{c A B:Prop} [Decidable c] (h1:c->A) (h2:¬c->B):if c then A else B:=by
 by_cases h:c
 .rw [aH h];exact h1 h
 .rw [aG h];exact h2 h
theorem WN{c A B:Prop} [Decidable c] (hc:c) (h:B):if(!decide c)=true then A else B:=by
 rw [bO hc];exact QS h
def Same(H H':Hp):Prop:=∀b o,H b=some o->H' b=some o
theorem Same.refl(H:Hp):Same H H:=λ_ _ h=>h
theorem Same.trans(a:Same H H1)(b:Same H1 H2):Same H H2:=λc o h=>b c o (a c o h)
theorem Same.free(e:Same H H')(h:H' l=Option.none):H l=Option.none:=by
 cases q:H l with
 | none=>rfl
 | some o=>
  rw [e l o q]at h;cases h
theorem Same.seq{K:Fg}(e:Same H H')(h:SqL K H a xs):SqL K H' a xs:=by
 rcases h with(h | ⟨o,h⟩) | h
 .exact .inl (.inl (e _ _ h))
 .exact .inl (.inr ⟨o,e _ _ h⟩)
 .exact .inr h
end L2
set_option maxHeartbeats 4000000
namespace L2
open PySem PySem.Spec PyProof.Rows
theorem Zv:Q6 X (.builtin "isinstance") (λxs H Q=>∃x T t b,xs=[x,.ty T]/\TyOf X.K H x t/\PySem.W.kitOne X.K t (.type T)=some b/\Q (.bl b) H):=by
 intro pins s σ H xs L Q I r h;obtain⟨x,T,t,b,rfl,ty,e,q⟩:=h;obtain⟨u,c,rfl,G,J⟩:=Pf r;cases (show c=Value.type T from J);exact MW I G ty e λtk=>⟨.bl b,H,I.tok tk,rfl,q⟩
mutual
inductive RdV(K:Fg)(H:Hp):V->PyData->Prop where
 | non:RdV K H .non .none
 | bl (b:Bool):RdV K H (.bl b) (.bool b)
 | int (i:Int):RdV K H (.int i) (.int i)
 | str (x:Str):RdV K H (.str x) (.str x)
 | lst {a:Addr} {xs:List V} {ds:List PyData}:SqL K H a xs->RdAll K H xs ds->RdV K H (.ref a) (.list ds)
 | tup {a:Addr} {xs:List V} {ds:List PyData}:SqT K H a xs->RdAll K H xs ds->RdV K H (.ref a) (.tuple ds)
inductive RdAll(K:Fg)(H:Hp):List V->List PyData->Prop where
 | nil:RdAll K H [] []
 | cons {v:V} {vs:List V} {d:PyData} {ds:List PyData}:RdV K H v d->RdAll K H vs ds->RdAll K H (v::vs) (d::ds)
end
section
variable{pins:List (10:)}
mutual
theorem RdV.reads(I:Inv X pins σ H s):∀{v:V}{d:PyData}{u:Value},RdV X.K H v d->RelV v u->∃as,Reads s.heap u d as
 | _,_,u,.non,r=>by cases (show u=Value.none from r);exact⟨_,.none⟩
 | _,_,u,.bl b,r=>by cases (show u=Value.bool b from r);exact⟨_,.bool b⟩
 | _,_,u,.int i,r=>by obtain⟨t,e⟩:=(show ∃t,u=Value.int i t from r);cases e;exact⟨_,.int i t⟩
 | _,_,u,.str x,r=>by obtain⟨t,e⟩:=(show ∃t,u=Value.str x t from r);cases e;exact⟨_,.str x t⟩
 | _,_,u,@RdV.lst _ _ a xs ds G J,r=>by
  cases (show u=Value.ref a from r);obtain⟨its,L,⟨o,n,e,c,_,M⟩,_⟩:=I.list G;obtain⟨as,q⟩:=RdAll.reads I J L;exact⟨_,.list e c M (by simpa using q)⟩
 | _,_,u,@RdV.tup _ _ a xs ds G J,r=>by
  cases (show u=Value.ref a from r);obtain⟨its,L,⟨o,e,c,n,M⟩,_⟩:=I.tuple G;obtain⟨as,q⟩:=RdAll.reads I J L;exact⟨_,.tuple e c M (by simpa using q)⟩
theorem RdAll.reads(I:Inv X pins σ H s):∀{vs:List V}{ds:List PyData}{us:List Value},RdAll X.K H vs ds->Vals vs us->∃as,ReadsAll s.heap us ds as
 | _,_,_,.nil,r=>by cases r;exact⟨_,.nil⟩
 | _,_,_,.cons h t,r=>by
  cases r with
  | cons G J=>
   obtain⟨as,q⟩:=RdV.reads I h G;obtain⟨bs,L⟩:=RdAll.reads I t J;exact⟨_,.cons q L⟩
end
end
def AK(K:Fg)(A:Around)(neg:Bool):R2:=λx y H Q=>∃d e:PyData,RdV K H x d/\RdV K H y e/\d.canLay0=true/\e.canLay0=true/\A.units+min d.depth e.depth<cLine/\Q (.bl (if neg then !PyData.eqv d e else PyData.eqv d e)) H
theorem Wu:OpR X (compareOp .Eq) (AK X.K X.A false):=by
 intro pins s σ H x y v u Q I G J h;obtain⟨d,e,L,M,cd,U,Y,q⟩:=h;obtain⟨as,Z⟩:=L.reads I G;obtain⟨bs,q2⟩:=M.reads I J;exact SeqAt.compareEq_reads Z q2 cd U Y ⟨.bl _,H,I,rfl,q⟩
theorem X5:OpR X (compareOp .NotEq) (AK X.K X.A true):=by
 intro pins s σ H x y v u Q I G J h;obtain⟨d,e,L,M,cd,U,Y,q⟩:=h;obtain⟨as,Z⟩:=L.reads I G;obtain⟨bs,q2⟩:=M.reads I J;exact SeqAt.compareNe_reads Z q2 cd U Y ⟨.bl _,H,I,rfl,q⟩
mutual
theorem Yw:∀d:PyData,d.canLay0=true->PyData.eqv d d=true
 | .none,_=>by simp [PyData.eqv]
 | .bool _,_=>by simp [PyData.eqv]
 | .int _,_=>by simp [PyData.eqv]
 | .str _,_=>by simp [PyData.eqv]
 | .list xs,h=>by
  simp only [PyData.eqv];exact YB xs (by simpa [PyData.canLay0]using h)
 | .tuple xs,h=>by
  simp only [PyData.eqv];exact YB xs (by simpa [PyData.canLay0]using h)
 | .dict _,h=>by simp [PyData.canLay0]at h
theorem YB:∀ds:List PyData,PyData.canLayAll0 ds=true->PyData.eqvAll ds ds=true
 | [],_=>by simp [PyData.eqvAll]
 | d::ds,h=>by
  simp only [PyData.canLayAll0,bC]at h;simp only [PyData.eqvAll,bC];exact⟨Yw d h.1,YB ds h.2⟩
end
structure Fn(P:Program)(w:World)(K:Fg)(mg:Str->Option Value)(base:Heap)(k:Nat)(x:Str)(ps:List Str)(sp:Sp):Prop where
 ex:∃(f:Addr)(fd:FuncData),FnOk P w K mg base CX0 k f fd ps sp/\Binds K fd ps []/\PySem.W.keepIn K (.ref f)=true/\mg x=some (.ref f)
theorem Qp{X:Cx}{k k':Nat}{x:Str}{ps:List Str}{sp:Sp}{p pos:Pos}{e:Expr}{es:List Expr}{t:TA}(F:Fn X.prog X.w X.K X.mg X.base k x ps sp)(hr:Room k' X.A)(ha:PA X (e::es) t)(hk:k<=k':=by decide)(hg:Gl X x:=by rfl)
 (hdb:(x==("__debug__":Str))=false:=by decide) (he:starEach (e::es) X.env=(false,eval e X.env)::starEach es X.env:=by rfl) (hpl:(backTo pos (starEach es X.env)).any (·.1)=false:=by rfl):
 PE X (.Call (.Name x p) (e::es) [] pos) (Ur sp [] E0 t):=by
 obtain⟨f,fd,h1,h2,G,J⟩:=F.ex;exact Sb h1 (hr.mono hk) hg J G h2 .nil L0 ha hdb he hpl
theorem Sz{c A B:Prop} [Decidable c] (hc:c) (h:A):if decide c=true then A else B:=by
 rw [bO hc];exact Q4 h
theorem JR{c A B:Prop} [Decidable c] (hc:¬c) (h:B):if decide c=true then A else B:=by
 rw [bV hc];exact QS h
theorem Qd{p:Addr}(h:H p=Option.none)(o:HO):Same H (upd H p o):=λb u q=>by rw [Qh (Qg q h)];exact q
def S(l:List Nat):Str:=⟨l.toArray⟩
theorem Nz(l:List Nat):(S l).cps.toList=l:=by simp [S]
theorem Ng(l:List Nat):(S l).length=l.length:=by simp [S,Str.length]
theorem Be{a b:List Nat}(h:S a=S b):a=b:=by
 have:=congrArg (λz:Str=>z.cps.toList) h
 simpa [Nz]using this
theorem BZ(a b:List Nat):S a++S b=S (a++b):=by
 show Str.append (S a) (S b)=S (a++b);simp [Str.append,S]
def AA(t:TS):TS:=λD σ H=>∃R:St->Hp->Prop,t { D with nx:=R } σ H/\∀σ' H',R σ' H'->D.nx σ' H'
theorem Ya{st:Stmt}{t:TS}(h:PS X st t):PS X st (AA t):=by
 intro pins s σ H D I G;obtain⟨R,h1,h2⟩:=G;refine thn (h pins s σ H { D with nx:=R } I h1) λf M q=>?_;cases f with
 | next=>
  obtain⟨J,H',L,q⟩:=q;exact⟨J,H',L,h2 _ _ q⟩
 | brk=>exact q
 | cont=>exact q
 | ret v=>exact q
theorem Y3:∀xs:List Str,PyData.depthAll (xs.map PyData.str)=0
 | []=>by simp [PyData.depthAll]
 | x::r=>by simp [PyData.depthAll,PyData.depth,Y3 r]
structure DefAt(K:Fg)(x:Str)(st:Stmt):Prop where
 ex:∃(f:Addr)(oc:Value)(od:Option Addr)(kV doc pm:Value)(an:Option Addr)(cdv ct:Value)(osl:Array (Option Value)),
  PySem.W.nsIn K mainGlobals x=some (some (.ref f))/\K.lookup f=some ⟨oc,od,.func (PySem.W.fnOf x x (defArgs st) (defBody st) (defScope st) .none kV doc pm an cdv ct),osl⟩/\PySem.W.codeIn K cdv x=true/\PySem.W.keepIn K (.ref f)=true
theorem DefAt.mk'{K:Fg}{st:Stmt}{kV:Value}
 (a:PySem.W.nsIn K mainGlobals x=some (some (.ref f))) (l:K.lookup f=some ⟨oc,od,.func (PySem.W.fnOf x x (defArgs st) (defBody st) (defScope st) .none kV doc pm an cdv ct),osl⟩) (c:PySem.W.codeIn K cdv x=true) (k:PySem.W.keepIn K (.ref f)=true):DefAt K x st:=
 ⟨f,oc,od,kV,doc,pm,an,cdv,ct,osl,a,l,c,k⟩
end L2
namespace L2
open PySem
theorem let1{b:TS}{D:Ends}(h:let B1:TS:=b;QR a1 B1 D σ H):(QR a1 (b)) D σ H:=h
theorem let2{a2 b:TS}{D:Ends}(h:let B2:TS:=b;let B1:TS:=QR a2 B2;QR a1 B1 D σ H):(QR a1 (QR a2 (b))) D σ H:=h
theorem let3{a2 b:TS}{D:Ends}(h:let B3:TS:=b;let B2:TS:=QR a3 B3;let B1:TS:=QR a2 B2;QR a1 B1 D σ H):(QR a1 (QR a2 (QR a3 (b)))) D σ H:=h
theorem let4{a2 b:TS}{D:Ends}(h:let B4:TS:=b;let B3:TS:=QR a4 B4;let B2:TS:=QR a3 B3;let B1:TS:=QR a2 B2;QR a1 B1 D σ H):(QR a1 (QR a2 (QR a3 (QR a4 (b))))) D σ H:=h
theorem let5{a2 b:TS}{D:Ends}(h:let B5:TS:=b;let B4:TS:=QR a5 B5;let B3:TS:=QR a4 B4;let B2:TS:=QR a3 B3;let B1:TS:=QR a2 B2;QR a1 B1 D σ H):(QR a1 (QR a2 (QR a3 (QR a4 (QR a5 (b)))))) D σ H:=h
theorem let6{a2 a6 b:TS}{D:Ends}(h:let B6:TS:=b;let B5:TS:=QR a6 B6;let B4:TS:=QR a5 B5;let B3:TS:=QR a4 B4;let B2:TS:=QR a3 B3;let B1:TS:=QR a2 B2;QR a1 B1 D σ H):(QR a1 (QR a2 (QR a3 (QR a4 (QR a5 (QR a6 (b))))))) D σ H:=h
end L2
namespace L2
open PySem PySem.Spec PyProof.Rows
def Ck(K:Fg):R2:=λx y H Q=>∃a b xs ys,x=.ref a/\y=.ref b/\SqT K H a xs/\SqT K H b ys/\xs.length+ys.length<=sizeLine/\
 ∀p H',Same H H'->SqT K H' p (xs++ys)->Q (.ref p) H'
theorem GV:OpR X (binaryOp .Add) (Ck X.K):=by
 intro pins s σ H x y v u Q I Z ry h;obtain⟨a,b,xs,ys,e1,e2,M,U,hz,q⟩:=h
 by_cases hx:xs=[]
 .subst e1;subst e2;subst hx;cases (show v=Value.ref a from Z);cases (show u=Value.ref b from ry);obtain⟨its,r1,p1,_⟩:=I.tuple M;obtain⟨Y,r2,p2,_⟩:=I.tuple U;cases r1;obtain⟨⟨cls,dd,ad,sl⟩,ho,hc,n,hd⟩:=id p1;obtain⟨⟨ae,aa,ac,ab⟩,G,J,n2,L⟩:=id p2;simp only at hc hd J L;subst hc hd J L;exact concat_meets ⟨_,ho,rfl⟩ ⟨_,G,rfl⟩ noFill_tuple_add seq_tuple_add PySem.F.slot_tuple_add PySem.F.entry_tuple_add (gU _ _)
   (tuple_addW0 a b _ Y.toArray n n2 dd aa sl ab rfl) ⟨ho,G,⟨.ref b,H,I,rfl,q b H (Same.refl H) (by simpa using U)⟩⟩
 .refine Sq pins s σ H x y v u Q I Z ry ⟨a,b,xs,ys,e1,e2,M,U,hx,hz,λhy=>?_,λhy p hp=>?_⟩
  .subst hy;exact q a H (Same.refl H) (by simpa using M)
  .exact q p _ (Qd hp _) (SqT.of Qb)
theorem Same.seqT{K:Fg}(e:Same H H')(h:SqT K H a xs):SqT K H' a xs:=by
 rcases h with(h | ⟨o,h⟩) | h
 .exact .inl (.inl (e _ _ h))
 .exact .inl (.inr ⟨o,e _ _ h⟩)
 .exact .inr h
def O0(K:Fg):R2:=λx y H Q=>∃l b xs zs,x=.ref l/\y=.ref b/\SqL K H l xs/\SqL K H b zs/\xs.length+zs.length<=sizeLine/\∀p,H p=none->Q (.ref p) (upd H p (.lst (xs++zs)))
theorem P7:OpR X (binaryOp .Add) (O0 X.K):=by
 intro pins s σ H x y v u Q I Z ry h;obtain⟨l,b,xs,zs,rfl,rfl,ha,hb,hz,q⟩:=h;cases Z;cases ry;obtain⟨its,J,⟨⟨c1,d1,t1,s1⟩,n1,g1,L,f1,k1⟩,_⟩:=I.list ha;obtain⟨G,M,⟨⟨c2,d2,t2,s2⟩,n2,g2,U,f2,Y⟩,_⟩:=I.list hb;simp only at L f1 k1 U f2 Y;subst L f1 k1 U f2 Y;have l1:=J.length;have l2:=M.length;refine concat_meets ⟨_,g1,rfl⟩ ⟨_,g2,rfl⟩ noFill_list_add seq_list_add PySem.F.slot_list_add PySem.F.entry_list_add (PySem.F.args_list_add_2 _ _) (list_addW l b _ _ n1 n2 none none s1 s2 (by rw [a_,a_];lia)) ⟨g1,g2,?_⟩;have ea:its.toArray++G.toArray=(its++G).toArray:=by simp
 rw [ea];exact⟨.ref _,_,I.lnew (t':=s.toks) (J.append M) (by rw [bH];lia),rfl,q _ I.fresh⟩
theorem LI(xs:List V)(k:Nat):cutV xs (some (k:Int)) none=xs.drop k:=by
 unfold cutV;rw [HT.sIx_none,HT.sIx_nat]
 by_cases h:k<=xs.length
 .rw [Nat.min_eq_left h];exact bR (by rw [List.length_drop];lia)
 .rw [Nat.min_eq_right (5:),gJ (4:),gJ (5:),List.take_nil]
theorem Tk(xs:List V)(k:Nat):cutV xs none (some (k:Int))=xs.take k:=by
 unfold cutV;rw [HT.sIx_none,HT.sIx_nat,List.drop_zero,Nat.sub_zero]
 by_cases h:k<=xs.length
 .rw [Nat.min_eq_left h]
 .rw [Nat.min_eq_right (5:),bR (4:),bR (5:)]
theorem Re{k:Nat}(h:k<n):ixN n (k:Int)=some k:=by
 unfold ixN;rw [aH (5:),aH (5:)];simp
theorem QI:sizeLine=16777216:=by decide
theorem Z9(h:n<=5000):n<=sizeLine:=by rw [QI];lia
def QL(X:Cx)(N':List Str)(scope:Scope)(cl:List (Str×Addr))(C:Addr)(fp:List Addr)(s₀:Shared)(H₀:Hp):Cx:=
 { X with N:=N',s₀:=s₀,H₀:=H₀,env:=compEnvC scope cl C X.env,outer:=X.stack,ex:=fp,fn:=λ_=>false,pn:=[],xe:=λ_ _=>False }
def PF(X:Cx)(ifs:List Expr)(t:TT):Prop:=
 ∀(pins:List (10:))(s:Shared)(σ:St)(H:Hp)(Q:Bool->Hp->Prop),Inv X pins σ H s->t σ H Q->
  wpAny (6:) X.A (forIn ifs true λc r=>if r=true then do let ok <-isTrue c X.env (eval c X.env);pure (ForInStep.yield ok)else pure (ForInStep.yield r)) (TP X pins σ Q) X.xe s
theorem Ze:PF X [] (λ_ H Q=>Q true H):=by
 intro pins s σ H Q I h;rw [List.forIn_nil];exact aF ⟨H,I,h⟩
theorem Xa{c:Expr}{t:TT}(hc:PT X c t):PF X [c] t:=by
 intro pins s σ H Q I h;rw [List.forIn_cons];refine aB ?_;rw [aH rfl];refine aB (thn (hc pins s σ H Q I h) λok G q=>aF ?_);dsimp only;rw [List.forIn_nil];exact aF q
structure OwnAt(X:Cx)(pins:List (10:))(H:Hp)(s:Shared)(C:Addr):Prop where
 ns:∃m,s.heap.Ns C m
 free:H C=none
 loc:C≠X.env.locals
 above:X.s₀.heap.objs.size<=C
 cells:∀x c,X.env.cells.lookup x=some c->c≠C
 pins:∀p∈X.pn++pins,p.1≠C
theorem OwnAt.go{pins:List (10:)}{C:Addr}(I:Inv X pins σ H s)(o:OwnAt X pins H s C)(hb:Heap.SameBut C s.heap h'):Inv X pins σ H { s with heap:=h' }:=
 I.turned (t':=s.toks) (λb u G e=>(hb.2 b G).trans e) o.free o.loc (.inr o.above) o.cells o.pins
def WX(n:Nat)(Pv:Nat->List V->Hp->Prop):Nat->Nat->Hp->Prop:=λi m H=>m=n-i/\i<=n/\∃ys,Pv i ys H
def OV(n:Nat)(Pv:Nat->List V->Hp->Prop)(acc:Addr)(i m:Nat):VK:=λy H5=>∃ys,H5 acc=some (.lst ys)/\ys.length<sizeLine/\∃m',m'<m/\WX n Pv (i+1) m' (upd H5 acc (.lst (ys++[y])))
theorem QA{n:Nat}{Pv:Nat->List V->Hp->Prop}{acc:Addr}{i:Nat}{y:V}{H5:Hp}{ys:List V}(hi:i<n)(hacc:H5 acc=some (.lst ys))(hl:ys.length<5000)(hP:Pv (i+1) (ys++[y]) (upd H5 acc (.lst (ys++[y])))):OV n Pv acc i (n-i) y H5:=
 ⟨ys,hacc,Nat.lt_trans hl (11:),n-(i+1),by lia,rfl,hi,_,hP⟩
theorem ZQ{n:Nat}{Pv:Nat->List V->Hp->Prop}{i:Nat}{H:Hp}{ys:List V}(hi:i<n)(hP:Pv (i+1) ys H):∃m',m'<n-i/\WX n Pv (i+1) m' H:=⟨n-(i+1),by lia,rfl,hi,ys,hP⟩
def Bf(t:TT):TT:=λσ H Q=>∃R:Bool->Hp->Prop,t σ H R/\∀b H',R b H'->Q b H'
theorem T6{t:TT}(h:PT X e t):PT X e (Bf t):=by
 intro pins s σ H Q I G;obtain⟨R,h1,h2⟩:=G;refine thn (h pins s σ H R I h1) λb L q=>?_;obtain⟨H',J,q⟩:=q;exact⟨H',J,h2 _ _ q⟩
section
variable{pins:List (10:)}
theorem Inv.turnedL(I:Inv X pins σ H s)(k:∀b o,b∉ch->s.heap.get? b=some o->h'.get? b=some o)(hf:∀b∈ch,Y0 X pins H b):Inv X pins σ H { s with heap:=h',toks:=t' }:=by
 have J:∀b u,H b=some u->b∉ch:=λb u e z=>by rw [(hf b z).1]at e;cases e
 refine I.step (g':=s.gens) (d':=s.drawn) (ch:=ch) (λb L=>?_) (λb o _ _ G e _=>k b o G e) (λb o _ _ G e _=>⟨o.slots,k b o G e⟩) (λ_ _ _ _ n=>n)
  (λb o G e=>⟨o,k b o G e⟩) (λ_ _ e=>e) (λ_ _ _ e=>e) (λb ps e=>⟨#[],by rw [e];simp⟩) (λm M=>?_) (λb u e=>?_) I.bare
 .obtain⟨Y,f1,f2,f3,f4,f5⟩:=hf b L;exact⟨f3,f1,f4,f5⟩
 .obtain⟨o,es,ep,U,r⟩:=M;exact⟨o,es,ep,k _ o (λz=>(hf _ z).2.1 rfl) U,r⟩
 .refine(I.hok b u e).stay (λc v G q=>k c v ?_ q) (λ_ q=>q) λ_ _ q=>q;rcases G with z | z
  .rw [z];exact J b u e
  .exact J c _ z
theorem Inv.turnedNew(I:Inv X pins σ H s)(k:∀b o,b∉ch->s.heap.get? b=some o->h'.get? b=some o)(hf:∀b∈ch,Y0 X pins H b)
 (hp:s.heap.objs.size<=a) (new:ObjOk X.prog X.w (upd H a o) h' a o):Inv X pins σ (upd H a o) { s with heap:=h',toks:=t' }:=by
 have J:H a=none:=I.hok.fresh hp;have M:∀b u,H b=some u->b∉ch:=λb u e z=>by rw [(hf b z).1]at e;cases e
 have lt:∀b u,s.heap.get? b=some u->b≠a:=λb u e=>bD (cC (aP e) hp);refine I.step (g':=s.gens) (d':=s.drawn) (ch:=ch) (λb L=>?_) (λb o _ _ G e _=>k b o G e) (λb o _ _ G e _=>⟨o.slots,k b o G e⟩) (λb u _ e n=>by rw [Qh (lt b u e)];exact n)
  (λb o G e=>⟨o,k b o G e⟩) (λb xs e=>by rw [Qh (Qg e J)];exact e) (λb u xs e=>by rw [Qh (Qg e J)];exact e) (λb ps e=>⟨#[],by rw [Qh (Qg e J),e];simp⟩) (λm U=>?_) (λb u e=>?_) I.bare
 .obtain⟨Z,f1,f2,f3,f4,f5⟩:=hf b L;exact⟨f3,f1,f4,f5⟩
 .obtain⟨o,es,ep,Y,r⟩:=U;exact⟨o,es,ep,k _ o (λz=>(hf _ z).2.1 rfl) Y,r⟩
 .by_cases L:b=a
  .subst L;rw [Qb]at e;cases e;exact new
  .rw [Qh L]at e;refine(I.hok b u e).stay (λc v G q=>k c v ?_ q) (λc q=>by rw [Qh (Qg q J)];exact q) λc xs q=>by rw [Qh (Qg q J)];exact q
   rcases G with z | z
   .rw [z];exact M b u e
   .exact M c _ z
end
def Itz(K:Fg)(a b:Addr)(xs ys:List V):It:=
 ⟨λi H=>SqL K H a xs/\SqL K H b ys/\i<xs.length/\i<ys.length,λi H x H'=>∃p u v,H p=none/\x=.ref p/\H'=upd H p (.tup [u,v])/\xs[i]?=some u/\ys[i]?=some v,λi H=>SqL K H a xs/\SqL K H b ys/\(xs.length<=i\/ys.length<=i)⟩
theorem O2{K:Fg}(a b z:Addr)(xs ys:List V)(TI TO i1 i2:Addr)(Ap:ZipApart z TI TO i1 i2 a b):
 Turn P w K (.Tuple elts k1 pos) (Itz K a b xs ys) [z,TI,TO,i1,i2] z (λi h=>IsZip h z TI TO .none/\IsPair h TI (.ref i1) (.ref i2)/\(∃u v,IsPair h TO u v)/\h.IsListIter i1 a i/\h.IsListIter i2 b i) where
 mem:=by simp
 obj:=λi h st c G=>by
  obtain⟨hz,J,⟨u,v,L⟩,h1,h2⟩:=st;simp only [aM,bS,bQ]at G;rcases G with rfl | rfl | rfl | rfl | rfl
  .exact⟨_,hz,λv z=>by have U:Data.fields _=Data.cell v:=z;cases U⟩
  .exact⟨_,J,λv z=>by have U:Data.seq _ _=Data.cell v:=z;cases U⟩
  .exact⟨_,L,λv z=>by have U:Data.seq _ _=Data.cell v:=z;cases U⟩
  .obtain⟨o,e,c,d⟩:=h1;exact⟨o,e,λv z=>by rw [d]at z;cases z⟩
  .obtain⟨o,e,c,d⟩:=h2;exact⟨o,e,λv z=>by rw [d]at z;cases z⟩
 keep:=λi h h' st k=>by
  obtain⟨hz,J,⟨u,v,L⟩,h1,h2⟩:=st;exact⟨k z (17:) _ hz,k TI (17:) _ J,⟨u,v,k TO (17:) _ L⟩,h1.at λo e=>k i1 (17:) o e,h2.at λo e=>k i2 (17:) o e⟩
 item:=by
  intro X hP hw hK G i pins s σ H E I hf st hg;subst hP hw hK;obtain⟨hz,J,⟨u0,v0,L⟩,h1,h2⟩:=st;obtain⟨qa,qb,lx,ly⟩:=hg;obtain⟨its,rv,p,_⟩:=I.list qa;obtain⟨ab,Y,p2,_⟩:=I.list qb;have ex:xs[i]?=some xs[i]:=aD lx;have ey:ys[i]?=some ys[i]:=aD ly;obtain⟨u,hu,ru⟩:=rv.get ex;obtain⟨v,hv,ac⟩:=Y.get ey;refine wpAny_pyNext_zip_item Ap hz J L h1 h2 p.isList p2.isList (x:=u) (y:=v) (by simpa using hu) (by simpa using hv) λh' a1 a2 a3 a4 a5 a6 hk=>?_;refine⟨.ref s.heap.objs.size,rfl,wpAny_letOwnedTupleGo_zip (s:={ s with heap:=h' }) a1 λaa ad M=>?_⟩;have lt:∀{c o},s.heap.get? c=some o->c≠s.heap.objs.size:=λe=>bD (aP e);have e5:IsPair aa s.heap.objs.size u v:=(M.2 _ (aW (lt hz))).trans a5;have Z:∀c∈[z,TO,i1,i2],Y0 X pins H c:=λc G=>hf c (by
   simp only [aM,bS,bQ]at G ⊢;rcases G with rfl | rfl | rfl | rfl<;>simp)
  have I2:Inv X pins σ (upd H s.heap.objs.size (.tup [xs[i],ys[i]])) { s with heap:=aa,toks:=s.toks }:=by
   refine I.turnedNew (ch:=[z,TO,i1,i2]) (λc o G e=>?_) Z (4:) ⟨by show 2<=sizeLine;decide,[u,v],.cons ru (.cons ac .nil),⟨_,e5,rfl,_,rfl⟩⟩;simp only [aM,bS,bQ,not_or]at G;exact(M.2 c G.1).trans (hk c o G.1 G.2.1 G.2.2.1 G.2.2.2 e)
  have ae:∀c∈[z,TI,TO,i1,i2],upd H s.heap.objs.size (.tup [xs[i],ys[i]]) c=none:=λc G=>by
   have af:=hf c G;have:c≠s.heap.objs.size:=by
    simp only [aM,bS,bQ]at G;rcases G with rfl | rfl | rfl | rfl | rfl
    .exact lt hz
    .exact lt J
    .exact lt L
    .obtain⟨o,e,_⟩:=h1;exact lt e
    .obtain⟨o,e,_⟩:=h2;exact lt e
   rw [Qh this];exact af.1
  exact⟨.ref s.heap.objs.size,_,I2,rfl,⟨s.heap.objs.size,_,_,I.fresh,rfl,rfl,ex,ey⟩,⟨ad,M.extBut _ _ Ap.TIz (hk _ _ Ap.TIz Ap.TITO Ap.TIi1 Ap.TIi2 J),⟨_,_,M.extBut _ _ Ap.TOz a2⟩,a3.extBut M.extBut Ap.i1z,a4.extBut M.extBut Ap.i2z⟩,ae⟩
 done:=by
  intro X hP hw hK G i pins s σ H E I hf st hg;subst hP hw hK;obtain⟨hz,J,⟨u0,v0,L⟩,h1,h2⟩:=st;obtain⟨qa,qb,hl⟩:=hg;obtain⟨its,rv,p,_⟩:=I.list qa;obtain⟨ab,Y,p2,_⟩:=I.list qb;have l1:=rv.length;have l2:=Y.length;have Z:∀c∈[z,TO,i1,i2],Y0 X pins H c:=λc G=>hf c (by
   simp only [aM,bS,bQ]at G ⊢;rcases G with rfl | rfl | rfl | rfl<;>simp)
  refine wpAny_pyNext_zip_end (I.ok.hd G) Ap hz J L h1 h2 p.isList p2.isList ?_ λh' hk=>⟨rfl,I.turnedL (t':=s.toks) (ch:=[z,TO,i1,i2]) (λc o G e=>?_) Z⟩
  .rcases hl with q | q
   .exact .inl (by simp;lia)
   .exact .inr (by simp;lia)
  .simp only [aM,bS,bQ,not_or]at G;exact hk c o G.1 G.2.1 G.2.2.1 G.2.2.2 e
 self:=λ_ _ _ _ _ st h=>wpAny_pyIter_zip st.1 h
theorem nne{x y:Nat}(h:x<y\/y<x):x≠y:=by lia
def Dt(K:Fg)(ta:TA):TI:=λσ H R=>ta σ H λvs H1=>∃a b xs ys,vs=[.ref a,.ref b]/\SqL K H1 a xs/\SqL K H1 b ys/\R (Itz K a b xs ys) H1
theorem Ov{ta:TA}{p:Pos}(hg:Gl X "zip")(hm:X.mg "zip"=none)(ha:PA X [e1,e2] ta)(hs:starEach [e1,e2] X.env=[(false,eval e1 X.env),(false,eval e2 X.env)]:=by rfl)(hs2:starEach [e2] X.env=[(false,eval e2 X.env)]:=by rfl):
 PI X (.Tuple elts k1 tpos) (.Call (.Name "zip" p) [e1,e2] [] pos) (Dt X.K ta):=by
 intro pins s σ H R I h;refine Call_ (Z2 I hg hm PyProof.Rows.boot_zip (fq (thn (ha pos pins s σ H _ I h) λus G ⟨vs,H1,J,r1,q1⟩=>?_) (by rw [hs,hs2]) (by rw [hs2];rfl)));obtain⟨a,b,xs,ys,e,qa,qb,q⟩:=q1;subst e;obtain⟨u1,u2,e3,r3,r4⟩:=r1.two;subst e3;cases (show u1=Value.ref a from r3);cases (show u2=Value.ref b from r4);obtain⟨its,rv,U,_⟩:=J.list qa;obtain⟨aa,ab,L,_⟩:=J.list qb;have la:@LT.lt Nat _ a G.heap.objs.size:=by obtain⟨o,n,e,_⟩:=U;exact aP e
 have lb:@LT.lt Nat _ b G.heap.objs.size:=by obtain⟨o,n,e,_⟩:=L;exact aP e
 refine call_zip_2 U.isList L.isList λh' hz Y Z h1 h2 ac hk=>?_;refine wpAny_pyIter_zip hz ?_;have I2:Inv X pins σ H1 { G with heap:=h' }:=J.kept (t':=G.toks) hk;refine⟨G.heap.objs.size+4,[G.heap.objs.size+4,G.heap.objs.size+2,G.heap.objs.size+3,G.heap.objs.size,G.heap.objs.size+1],_,_,H1,rfl,I2,O2 a b (G.heap.objs.size+4) xs ys (G.heap.objs.size+2) (G.heap.objs.size+3) G.heap.objs.size (G.heap.objs.size+1) ?_,⟨hz,Y,⟨_,_,Z⟩,h1,h2⟩,λc hc=>?_,q⟩
 .constructor<;>(refine nne ?_;lia)
 .have M:@LE.le Nat _ G.heap.objs.size c:=by
   simp only [aM,bS,bQ]at hc;rcases hc with rfl | rfl | rfl | rfl | rfl<;>lia
  exact J.fpOk M (J.hok.fresh M)
theorem RJ{K:Fg}{a b:Addr}{xs ys:List V}{g:TG}{tb:TS}{D:Ends}{σ:St}{H:Hp}(hlen:xs.length=ys.length)(Pv:Nat->St->Hp->Prop)(h0:Pv 0 σ H)(hl:∀i σ H,i<=xs.length->Pv i σ H->SqL K H a xs/\SqL K H b ys)
 (hs:∀i u v p σ H,xs[i]?=some u->ys[i]?=some v->H p=none->Pv i σ H->g (.ref p) σ (upd H p (.tup [u,v])) λσ2 H2=>tb { D with nx:=Pv (i+1),ct:=Pv (i+1),bk:=D.nx } σ2 H2) (hd:∀σ H,Pv xs.length σ H->D.nx σ H):
 ∃W:Nat->Nat->St->Hp->Prop,(∃m,W 0 m σ H)/\∀i m σ H,W i m σ H->
  ((Itz K a b xs ys).stop i H/\D.nx σ H)\/((Itz K a b xs ys).go i H/\∃N:St->Hp->Prop,(∀σ' H',N σ' H'->∃m',m'<m/\W (i+1) m' σ' H')/\∀x H',(Itz K a b xs ys).yld i H x H'->g x σ H' λσ2 H2=>tb { D with nx:=N,ct:=N,bk:=D.nx } σ2 H2):=by
 refine⟨λi m σ H=>m=xs.length-i/\i<=xs.length/\Pv i σ H,⟨xs.length-0,rfl,bN _,h0⟩,?_⟩;rintro i m σ H ⟨rfl,hi,p⟩;obtain⟨J,L⟩:=hl i σ H hi p
 by_cases h:i<xs.length
 .refine .inr ⟨⟨J,L,h,by lia⟩,Pv (i+1),λσ' H' G=>⟨xs.length-(i+1),by lia,rfl,h,G⟩,?_⟩;rintro x H' ⟨G,u,v,hp,rfl,rfl,M,U⟩;exact hs i u v G σ H M U hp p
 .have e:i=xs.length:=by lia
  subst e;exact .inl ⟨⟨J,L,.inl (4:)⟩,hd σ H p⟩
theorem Y6:∀{ns:List Int}{us:List Value},Vals (ns.map V.int) us->∃xs:List (Int×Tok),us=xs.map (λp=>Value.int p.1 p.2)/\xs.map (·.1)=ns
 | [],_,.nil=>⟨[],rfl,rfl⟩
 | n::ns,_,.cons r rr=>by
  obtain⟨t,e⟩:=r;obtain⟨xs,G,J⟩:=Y6 rr;exact⟨(n,t)::xs,by rw [e,G];rfl,by rw [aR,J]⟩
theorem Xw(xs:List (Int×Tok)):intItems xs.toArray=(xs.map (λp=>Value.int p.1 p.2)).toArray:=by
 simp [intItems]
theorem Pg(xs:List (Int×Tok))(j:Nat):numAt xs.toArray j=(xs.map (·.1)).getD j 0:=by rw [numAt_eq]
theorem Sa(xs:List (Int×Tok))(j:Nat):preSum (numAt xs.toArray) j=((xs.map (·.1)).take j).sum:=by rw [preSum_eq]
theorem gtI{prog:Program}{w:World}{A:Around}{E:Value->Shared->Prop}{s:Shared}{a M:Int}{t u:Tok}{Q:Value->Shared->Prop}(h:Q (.bool (decide (M<a))) s):wpAny (9:) A (richCompare .Gt (.int a t) (.int M u)) Q E s:=
 CmpOf.ints_gt (P:=λk v=>∃t,v=.int (if k=0 then a else M) t) (λk=>if k=0 then a else M) (λ_ _ h=>h) 0 1 _ _ s Q E ⟨t,rfl⟩ ⟨u,rfl⟩ h
def Mx(val:Nat->Int)(i:Nat)(M:Int):Prop:=(∃j,j<i/\val j=M)/\∀j,j<i->val j<=M
section
variable{I:Addr}{wr:List Addr}{P:Nat->Value->Prop}{St:Nat->Heap->Prop}
theorem MM(W:Walks prog w A.in1 I fp wr n P St)(val:Nat->Int)(hval:∀i v,P i v->∃t,v=.int (val i) t)(d:Value)(S:Addr)(hSf:S∉fp):
 ∀(k i:Nat)(s:Shared)(ob:List Value)(c:Nat),n-i=k->i<=n->St i s.heap->((i=0/\ob=[])\/∃M t,ob=[Value.int M t,.int M t]/\Mx val i M)->
  s.heap.get? S=some { cls:=.type "list",dict:=none,data:=.seq ob.toArray c,slots:=#[] }->
  (∀v h' tk,((n=0/\v=d)\/∃M t,v=.int M t/\Mx val n M)->(∀b o,b∉wr->b≠S->s.heap.get? b=some o->h'.get? b=some o)->R (.ok (.ret v)) { s with heap:=h',toks:=tk })->
  codeAny (9:) A (.builtin "max.loop" ⟨[.ref I,.none,.ref S],[(Str.ofString "default",d)]⟩) R s:=by
 have af:S∉wr:=λh=>hSf (W.sub _ h);have aa:(toString "max"++toString ".loop":String)="max.loop":=by decide
 intro k
 induction k with
 | zero=>
  intro i s ob c hk hi ac ag hS hR;have aj:i=n:=by lia
  subst aj;refine codeAny_builtin F.entry_max_loop ?_;rw [gP fJ _];show wpAny _ A.in1 (seqItems? (.ref S)>>=_) _ _ s;refine aB (dP hS rfl ?_);rcases ag with⟨h0,rfl⟩ | ⟨M,t,rfl,hM⟩
  .show wpAny _ A.in1 (tryCatch (pyNext (.ref I)) _>>=_) _ _ s;refine aB (fM (W.done s _ _ ac λh' tk G=>?_));show wpAny _ A.in1 (rule _>>=_) _ _ _;exact aB (eQ (aF (hR d h' tk (.inl ⟨h0,rfl⟩) λb o hb _ e=>G b o hb e)))
  .show wpAny _ A.in1 (tryCatch (pyNext (.ref I)) _>>=_) _ _ s;refine aB (fM (W.done s _ _ ac λh' tk G=>?_));show wpAny _ A.in1 (updateSeq S (λ_=>#[])>>=_) _ _ _;refine aB (wpAny_updateSeq (G S _ af hS) rfl (aB (fk (aF (hR _ _ tk (.inr ⟨M,t,rfl,hM⟩) λb o J L e=>?_)))));exact(eS _ _ (aW L)).trans (G b o J e)
 | succ k ih=>
  intro i s ob c hk hi ac ag hS hR;have ad:i<n:=by lia
  refine codeAny_builtin F.entry_max_loop ?_;rw [gP fJ _];show wpAny _ A.in1 (seqItems? (.ref S)>>=_) _ _ s;refine aB (dP hS rfl ?_);rcases ag with⟨h0,rfl⟩ | ⟨M,t,rfl,hM⟩
  .show wpAny _ A.in1 (tryCatch (pyNext (.ref I)) _>>=_) _ _ s;refine aB (fM (W.item i s _ _ ad ac λv h' tk hP ab G=>?_));obtain⟨tv,rfl⟩:=hval i v hP;have Z:=G S _ af hS;show wpAny _ A.in1 (updateSeq S (λ_=>#[_,_])>>=_) _ _ _;refine aB (wpAny_updateSeq Z rfl ?_);rw [aa];refine aF ⟨fQ fJ _,ih (i+1) _ [.int (val i) tv,.int (val i) tv] _ (5:) ad (W.frame _ _ _ ab λb ah o e=>?_) (.inr ⟨val i,tv,rfl,⟨i,by lia,rfl⟩,λj hj=>?_⟩) (dX _ Z rfl) λv ae U hv Y=>?_⟩
   .exact(eS _ _ (λh:S=b=>hSf (by rw [h];exact ah))).trans e
   .have:j=i:=by lia
    rw [this];exact Int.le_refl _
   .exact hR v ae U hv λb o J L e=>Y b o J L ((eS _ _ (aW L)).trans (G b o J e))
  .show wpAny _ A.in1 (tryCatch (pyNext (.ref I)) _>>=_) _ _ s;refine aB (fM (W.item i s _ _ ad ac λv h' tk hP ab G=>?_));obtain⟨tv,rfl⟩:=hval i v hP;have Z:=G S _ af hS;show wpAny _ A.in1 (tryCatch (holding [_,_] (richCompare .Gt _ _>>=_)) _>>=_) _ _ _;refine aB (fM (cF (aB (gtI (M:=M) ?_))));refine aB (cF (eZ ?_));refine aB (fk (aF ?_))
   by_cases hb:M<val i
   .rw [bO hb];simp only [cD];refine aB (wpAny_updateSeq Z rfl (aB (fk ?_)));rw [aa];refine aF ⟨fQ fJ _,ih (i+1) _ [.int (val i) tv,.int (val i) tv] _ (5:) ad (W.frame _ _ _ ab λb ah o e=>?_) (.inr ⟨val i,tv,rfl,⟨i,by lia,rfl⟩,λj hj=>?_⟩) (dX _ Z rfl) λv ae U hv Y=>?_⟩
    .exact(eS _ _ (λh:S=b=>hSf (by rw [h];exact ah))).trans e
    .by_cases ai:j=i
     .rw [ai];exact Int.le_refl _
     .have:=hM.2 j (5:);lia
    .exact hR v ae U hv λb o J L e=>Y b o J L ((eS _ _ (aW L)).trans (G b o J e))
   .rw [bV hb];simp only [cE,bU];refine aB (fk ?_);rw [aa];refine aF ⟨fQ fJ _,ih (i+1) _ [.int M t,.int M t] c (5:) ad ab (.inr ⟨M,t,rfl,?_,λj hj=>?_⟩) Z λv ae U hv Y=>?_⟩
    .obtain⟨j,hj,e⟩:=hM.1;exact⟨j,by lia,e⟩
    .by_cases ai:j=i
     .rw [ai];lia
     .exact hM.2 j (5:)
    .exact hR v ae U hv λb o J L e=>Y b o J L (G b o J e)
end
section
variable{E:Value->Shared->Prop}
theorem MP(a d:Value):argsOk "max" ⟨[a],[(Str.ofString "default",d)]⟩:=by unfold argsOk;kernel_rfl
theorem L9{xs:List (Int×Tok)}{d:Value}(hh:A.handled=none)(hl:s.heap.IsList l (intItems xs.toArray))
 (h:∀v h' tk,((xs.length=0/\v=d)\/∃M t,v=.int M t/\Mx (numAt xs.toArray) xs.length M)->(∀b o,s.heap.get? b=some o->h'.get? b=some o)->Q v { s with heap:=h',toks:=tk }):
 wpAny (9:) A (call (.builtin "max") [.ref l] [(Str.ofString "default",d)]) Q E s:=by
 have G:(toString "max"++toString ".loop":String)="max.loop":=by decide
 have L:(intItems xs.toArray).size=xs.length:=by simp [intItems]
 refine wpAny_call (codeAny_call_builtin F.plain_max F.entry_max ?_);have U:wpAny (9:) A.in1 (Builtin.«max» ⟨[.ref l],[(Str.ofString "default",d)]⟩) (λfin s'=>match fin with
  | .done f=>(match(Except.ok f:Result)with | .ok (.ret v)=>Q v s' | .ok _=>False | .error e=>E e s')
  | .again Y=>Y.quiet=true/\codeAny (9:) A Y (λr s'=>match r with | .ok (.ret v)=>Q v s' | .ok _=>False | .error e=>E e s') s') E s:=by
  show wpAny _ A.in1 (Builtin.Builtins.bindParams "max" ["key","default"] 0 ⟨[],[(Str.ofString "default",d)]⟩>>=_) _ _ s;refine aB (wpAny_of_eq (show Builtin.Builtins.bindParams "max" ["key","default"] 0 ⟨[],[(Str.ofString "default",d)]⟩=pure [none,some d]from rfl) ?_);refine aB (aF ?_);refine aB (iter_intList hl λae e st Z aa=>?_);subst e;refine aB (cL ?_);have ab:(s.heap.push { cls:=.type "list_iterator",data:=.fields #[.ref l,.int 0 0] }).objs.size∉[s.heap.objs.size,l]:=λhm=>dR _ (Z _ hm);rw [G];have W:=Walks.list (prog:=prog) (w:=w) (A:=A.in1) hh s.heap.objs.size l aa (intItems xs.toArray);refine aF ⟨fQ fJ _,MM W (numAt xs.toArray) (λ_ _=>intItems_at) d _ ab _ 0 _ [] 0 rfl (bN _) (W.frame _ _ _ st λb _ o e=>aN _ e) (.inl ⟨rfl,rfl⟩) (bE _ rfl) λv h' tk hv hk=>?_⟩;rw [L]at hv;exact h v h' tk hv (old_kept λb o hb e=>hk b o hb (bD (aP e)) (aN _ e))
 simp only [checkBuiltinCall,F.kind_max];cases J:Manifest.signature? "max" with
 | none=>exact aF U
 | some ac=>
  have ad:Bind.checkArgs "max" ac ⟨[.ref l],[(Str.ofString "default",d)]⟩=pure ():=by simpa only [argsOk,J]using MP (.ref l) d
  simp only [ad];exact aF U
end
section
variable{p:Pos}{t:TA}{id:String}{ks:List Str}{r:List V->List V->Hp->VK->Prop}
def ON(X:Cx)(id:String)(ks:List Str)(r:List V->List V->Hp->VK->Prop):Prop:=
 ∀(pins:List (10:))(s:Shared)(σ:St)(H:Hp)(vs:List V)(us:List Value)(zs:List V)(ws:List Value)(Q:VK),Inv X pins σ H s->Vals vs us->Vals zs ws->r vs zs H Q->wpAny (6:) X.A (call (.builtin id) us (ks.zip ws)) (EP X pins σ Q) X.xe s
def Dx(r:List V->List V->Hp->VK->Prop)(t tk:TA):TE:=λσ H Q=>t σ H λvs H1=>tk σ H1 λzs H2=>r vs zs H2 Q
theorem Mo(hc:ON X id ks r)(hg:Gl X x)(hm:X.mg x=none)(hv:bootBuiltins x=some (.builtin id))(ha:PA X (e::es) t)(hkw:PK X kws tk)(hks:(backToKw pos (keywordEach kws X.env)).filterMap (·.1)=ks:=by rfl)
 (hn:x≠"__name__":=by decide) (hdb:(x==("__debug__":Str))=false:=by decide)
 (he:backTo pos (starEach (e::es) X.env)=(false,eval e X.env)::backTo pos (starEach es X.env):=by rfl)
 (hpl:(backTo pos (starEach (e::es) X.env)).any (·.1)=false:=by rfl)
 (hall:(backToKw pos (keywordEach kws X.env)).all (·.1.isSome)=true:=by rfl)
 (hno:(backToKw pos (keywordEach kws X.env)).any (·.1.isNone)=false:=by rfl):PE X (.Call (.Name x p) (e::es) kws pos) (Dx r t tk):=by
 intro pins s σ H Q I h;refine eX (Z2 I hg hm hv (callWith_kw ?_ he hpl hall hno) hn hdb);refine thn (ha pos pins s σ H _ I h) λG J ⟨vs,H1,L,M,q⟩=>thn (hkw pos pins J σ H1 _ L q) λU Y ⟨zs,H2,Z,r2,q2⟩=>?_;rw [hks];exact hc pins Y σ H2 vs G zs U Q Z M r2 q2
theorem MJ(hc:X.calm=true):ON X "max" ["default"] (λvs zs H Q=>∃l ns d,vs=[.ref l]/\zs=[d]/\SqL X.K H l (ns.map V.int)/\(ns=[]->Q d H)/\∀M,M∈ns->(∀n∈ns,n<=M)->Q (.int M) H):=by
 intro pins s σ H vs us zs ws Q I G Z h;obtain⟨l,ns,d,rfl,rfl,hl,q0,q⟩:=h;cases G with
 | cons r rr=>
  cases rr;cases Z with
  | cons rd L=>
   cases L;obtain rfl:_=Value.ref l:=r;obtain⟨its,G,pl,_⟩:=I.list hl;obtain⟨ys,rfl,J⟩:=Y6 G;have hL:s.heap.IsList l (intItems ys.toArray):=by rw [Xw];exact pl.isList
   have aa:ys.length=ns.length:=by rw [<-J];simp
   show wpAny _ _ (call (.builtin "max") [.ref l] [(Str.ofString "default",_)]) _ _ s;refine L9 (I.ok.hd hc) hL λv h' tk hv hk=>?_;have U:=I.kept (t':=tk) hk;rcases hv with⟨h0,rfl⟩ | ⟨M,t,rfl,⟨j,hj,Y⟩,hM⟩
   .exact⟨d,H,U,rd,q0 (fz.mp (5:))⟩
   .rw [Pg,J]at Y;refine⟨.int M,H,U,⟨t,rfl⟩,q M ?_ λn hn=>?_⟩
    .rw [<-Y,eo,aD (5:)];exact aO _
    .obtain⟨i,hi,rfl⟩:=bZ hn;have:=hM i (5:);rw [Pg,J,eo,aD hi]at this;exact this
end
structure CompG(X:Cx)(xs caps:List Str)(cap:List Nat)(scope:Scope)(cl:List (Str×Addr)):Prop where
 clos:closureFor scope X.env=pure cl
 cell:∀y∈scope.names,y.2≠.cell
 kind:scope.kind=.function
 names:∀y∈scope.names,y.2=.local->scope.names.lookup y.1=some .local
 lx:∀x∈xs,scope.names.lookup x=some .local
 nd:(xs++caps).Nodup
 from_:∀y c,cl.lookup y=some c->X.env.cells.lookup y=some c
 has:∀y,((relabel scope X.env).names.lookup y=some .cell\/(relabel scope X.env).names.lookup y=some .free)->∃c,cl.lookup y=some c
 len:cap.length=caps.length
 cps:∀(i:Nat)(y:Str),caps[i]?=some y->∃j,cap[i]?=some j/\X.N[j]?=some y/\X.env.scope.names.lookup y=some .cell/\(relabel scope X.env).names.lookup y=some .cell
def Xj(cap:List Nat)(σ:St):St:=cap.map λj=>(σ[j]?).getD none
def Ju(n:Nat)(wi:TI)(cap:List Nat)(g:TG)(tt:TT)(te:TE):TE:=λσ H Q=>wi σ H λJ H1=>∀acc,H1 acc=none->∃W:Nat->Nat->Hp->Prop,(∃m,W 0 m (upd H1 acc (.lst [])))/\∀i m H2,W i m H2->
 (J.stop i H2/\Q (.ref acc) H2)\/(J.go i H2/\∀x H3,J.yld i H2 x H3->∀as:St,as.length=n->g x (as++Xj cap σ) H3 λσ4 H4=>(∃bs:St,bs.length=n/\σ4=bs++Xj cap σ)/\tt σ4 H4 λok H5=>if ok=true then
  te σ4 H5 (λy H6=>∃ys,H6 acc=some (.lst ys)/\ys.length<sizeLine/\∃m',m'<m/\W (i+1) m' (upd H6 acc (.lst (ys++[y]))))
  else ∃m',m'<m/\W (i+1) m' H5)
theorem WW{xs:List Str}{cl:List (Str×Addr)}
 (O:CompG X xs caps cap scope cl) (hc:X.calm=true) (hi:PI X tg iter wi) (hg:∀C fp s₀ H₀,PG (QL X (xs++caps) scope cl C fp s₀ H₀) tg g)
 (ht:∀C fp s₀ H₀,PF (QL X (xs++caps) scope cl C fp s₀ H₀) ifs tt)
 (hs:∀x,foldedSetIterable iter X.env x=pure x) {pins:List (10:)}    {Q:VK}   (I:Inv X pins σ H s)
 (h:Ju xs.length wi cap g tt te σ H Q)
 (hfin:∀D C H' s',Inv X pins σ H' s'->OwnAt X pins H' s' C->Q (.ref D) H'->compPost (6:) X.A X.xe use QQ (.ref D) C (.ok .next) s')
 (hw:∀{fp:List Addr}{s3:Shared}{H3:Hp}{D:Value}{p9:List (10:)}{s9:Shared}{σ9:St}{H9:Hp}{Q9:VK},Inv X pins σ H3 s3->(∀b∈fp,(b∈X.ex\/X.s₀.heap.objs.size<=b)/\b≠X.env.locals/\(∀x c,X.env.cells.lookup x=some c->c≠b)/\∀p∈X.pn++pins,p.1≠b)->Inv (13:) p9 σ9 H9 s9->te σ9 H9 Q9->
  wpAny (6:) X.A (eval elt (compEnvC scope cl s3.heap.objs.size X.env)) (EP (13:) p9 σ9 Q9) (notedBy (6:) X.A (compEnvC scope cl s3.heap.objs.size X.env) (λx s'=>compPost (6:) X.A X.xe use QQ D s3.heap.objs.size (.error x) s')) s9):
 wpAny (6:) X.A (comprehension (.ListComp elt [⟨tg,iter,ifs,0⟩] scope pos) scope X.env pos' (newList []) false (eval iter X.env) use) QQ X.xe s:=by
 refine wpAny_comprehension_free rfl hs O.clos O.kind O.names (thn (hi pins s σ H _ I h) λv s1 h1=>thn h1 λbq Y h2=>?_);obtain⟨it,fp,tn,J,H1,e,I2,T,t0,f2,hR⟩:=h2;subst e;refine cL (wpAny_newFunctionEnv O.cell (by intro y hy;simp at hy) (λan ap aq=>?_) O.kind);have ah:H1 Y.heap.objs.size=none:=I2.fresh;obtain⟨W,⟨m0,w0⟩,ai⟩:=hR Y.heap.objs.size ah;have L:Inv X pins σ (upd H1 Y.heap.objs.size (.lst [])) { Y with heap:=Y.heap.push { cls:=.type "list",data:=.seq ([]:List Value).toArray } }:=I2.lnew (t':=Y.toks) (ys:=[]) (its:=[]) .nil (bN _);generalize ar:({ Y with heap:=Y.heap.push { cls:=.type "list",data:=.seq ([]:List Value).toArray } }:Shared)=s3 at ap aq L ⊢;generalize hD:Y.heap.objs.size=D at L w0 ai ah ⊢;generalize a9:upd H1 D (.lst [])=H3 at L w0;have U:∀b o,s3.heap.get? b=some o->an.get? b=some o:=λb o e=>(aq.2 b (bD (aP e))).trans (aN _ e);have a1:∀b∈fp,H3 b=none:=λb G=>by
  rw [<-a9,Qh]
  .exact(f2 b G).1
  .intro z;obtain⟨o,e,_⟩:=T.obj _ _ t0 b G;exact absurd (aP e) (by rw [z,hD];exact dR _)
 have ag:H3 s3.heap.objs.size=none:=L.fresh;have aj:∀b∈fp,b≠s3.heap.objs.size:=λb G z=>by
  obtain⟨o,e,_⟩:=T.obj _ _ t0 b G;have h2:s3.heap.objs.size=Y.heap.objs.size+1:=by rw [<-ar];exact eg ..
  exact absurd (aP e) (by rw [z,h2];exact eR.mpr (Nat.le_succ _))
 have t3:tn 0 an:=T.keep _ _ _ t0 λb G o e=>U b o (by rw [<-ar];exact aN _ e);have au:(13:).Ok:=by
  refine⟨L.ok.mod,O.kind,L.ok.glob,L.ok.blt,aZ _,λy z c e1 e2=>L.ok.inj y z c (O.from_ y c e1) (O.from_ z c e2),λy hy=>O.has y hy,λy c z _=>(nomatch z),L.ok.hd,L.ok.frames,.inl rfl,λb G=>⟨aj b G,λy c e=>?_⟩,L.bs,bX L.ok.bsz L.sz,λb o e G=>?_,λb G z=>?_,L.stack,L.stkFree⟩
  .exact(f2 b G).2.2.2.2.1 y c (O.from_ y c e)
  .rcases(f2 b G).2.2.2.1 with q | q
   .exact L.ok.noex b o e q
   .exact absurd (cC (aP e) (bX L.ok.bsz q)) (dR _)
  .rcases aM.mp (L.stkSub b z)with q | q
   .exact(f2 b G).2.1 q
   .exact(f2 b G).2.2.1 q
 have I4:Inv (13:) [] (List.replicate xs.length none++Xj cap σ) H3 { s3 with heap:=an,toks:=s3.toks+([]:List (Str×Value)).length }:=by
  obtain⟨m,hn,hl⟩:=id L.loc;refine⟨au,rfl,L.bare,Un.kept U,⟨_,ap,λi y v e1 e2 e3=>?_⟩,λy c e=>?_,ag,λy c e=>L.freeC y c (O.from_ y c e),λp hp=>(nomatch hp),L.hok.kept U,?_⟩
  .by_cases av:i<xs.length
   .rw [fT (by rw [fV];exact av),List.getElem?_replicate,aH av]at e2;cases e2
   .have ba:caps[i-xs.length]?=some y:=by
     have a3:(xs++caps)[i]?=some y:=e1
     rwa [fS (5:)]at a3
    obtain⟨j,hj,hN,hk,aw⟩:=O.cps _ y ba;have ae:(σ[j]?).getD none=some v:=by
     rw [fS (by rw [fV];lia),fV]at e2;unfold Xj at e2
     simpa [hj]using e2
    have a4:σ[j]?=some (some v):=by
     cases q:σ[j]? with
     | none=>rw [q]at ae;cases ae
     | some a=>rw [q]at ae;exact congrArg some ae
    obtain⟨u,r,l⟩:=hl j y v hN a4 (.inr (.inl hk));refine⟨u,r,?_⟩;rcases l with⟨k,_⟩ | ⟨k,c,e,z⟩
    .have k':X.env.scope.names.lookup y=some .local:=k;rw [hk]at k';cases k'
    .obtain⟨c',ax⟩:=O.has y (.inl aw);have:c'=c:=aI ((O.from_ y c' ax).symm.trans e);subst this;refine .inr ⟨.inl aw,c',ax,?_⟩;obtain⟨o,ho,hd⟩:=z;exact⟨o,U _ _ ho,hd⟩
  .obtain⟨v,o,ho,hd⟩:=L.cell y c (O.from_ y c e);exact⟨v,o,U _ _ ho,hd⟩
  .show(List.replicate xs.length none++Xj cap σ).length=(xs++caps).length;simp [Xj,O.len]
 have fin:∀(H':Hp)(bb:St)(s':Shared),Inv (13:) [] bb H' s'->Q (.ref D) H'->
  compPost (6:) X.A X.xe use QQ (.ref D) s3.heap.objs.size (.ok .next) s':=λH' bb s' I' q=>by
  obtain⟨m,hn,_⟩:=id I'.loc;have hU:Un (frs X.stack) fp H3 H' s3.heap s'.heap:=I'.base;have a5:HOk X.prog X.w H' s'.heap:=I'.hok;have bc:s'.os=s3.os:=I'.os;have I6:Inv X pins σ H' s':=L.call' (ch:=fp) bc hU a5 I'.bare (λb G=>⟨(f2 b G).2.2.2.1,(f2 b G).2.1,(f2 b G).2.2.2.2⟩);refine hfin D _ H' s' I6 ⟨⟨m,hn⟩,I'.free,Nat.ne_of_gt L.lt,L.sz,λy c e z=>?_,λp hp z=>?_⟩ q
  .obtain⟨v,hv⟩:=L.cell y c e;exact absurd hv.lt (by rw [z];exact dR _)
  .exact absurd (aP (L.pin p hp).1) (by rw [z];exact dR _)
 have ad:∀{H':Hp},(∀b∈fp,H' b=none)->∀b∈fp,Y0 (13:) [] H' b:=λhn b G=>
  ⟨hn b G,aj b G,au.exfs b G,.inl G,λy c e=>(f2 b G).2.2.2.2.1 y c (O.from_ y c e),λp hp=>(nomatch hp)⟩
 have ak:codeAny (6:) X.A (.compLoop (.ListComp elt [⟨tg,iter,ifs,0⟩] scope pos) 0 (.ref it) (.ref D) (compEnvC scope cl s3.heap.objs.size X.env))
  (compPost (6:) X.A X.xe use QQ (.ref D) s3.heap.objs.size) { s3 with heap:=an,toks:=s3.toks+([]:List (Str×Value)).length }:=by
  refine codeAny_loop rfl (λn s'=>∃i as H',as.length=xs.length/\Inv (13:) [] (as++Xj cap σ) H' s'/\tn i s'.heap/\(∀b∈fp,H' b=none)/\W i n H') ?_ m0 ⟨0,_,H3,fV,I4,t3,a1,w0⟩;rintro n s5 ⟨i,as,H5,bd,I5,ay,az,w5⟩;show wpAny _ _ ((compTurn (.ListComp elt [⟨tg,iter,ifs,0⟩] scope pos) 0 (.ref it) (.ref D) (compEnvC scope cl s3.heap.objs.size X.env)).onRaise (λx=>do noteFrame x (compEnvC scope cl s3.heap.objs.size X.env);theTreesLotGoes x)) _ _ s5;refine wpAny_noted ?_;rw [compTurn_list];refine aB (wpAny_standAt (aB ?_));have Z:∀{M:Model}{A:Around}{α:Type}{t:Sem α}{P:α->Shared->Prop}{E':Value->Shared->Prop}{s':Shared},wpAny M A t P (λ_ _=>False) s'->wpAny M A t P E' s':=λh=>dD h (λ_ _ q=>q) λ_ _ z=>z.elim;rcases ai i n H5 w5 with⟨a6,qn⟩ | ⟨go,step⟩
  .refine Z (thn (T.done (13:) rfl rfl rfl hc i [] s5 _ H5 (λ_ _=>False) I5 (ad az) ay a6) λr s6 ⟨hr,I6⟩=>?_);subst hr;exact aF (fin H5 _ s6 I6 qn)
  .refine Z (thn (T.item (13:) rfl rfl rfl hc i [] s5 _ H5 (λ_ _=>False) I5 (ad az) ay go) λr s6 ⟨u,hr,h6⟩=>?_);subst hr;refine aB (Z (thn h6 λ_ s7 ⟨y,H7,I7,r7,y7,al,be⟩=>?_));have bf:=I7.pinned (ad be) (T.obj _ _ al);have a7:=step y H7 y7 as bd;refine aB (Z (thn (hg s3.heap.objs.size fp s3 H3 _ s7 _ H7 y _ _ bf r7 a7) λ_ s8 ⟨bt,H8,I8,⟨bs,bg,bp⟩,ao⟩=>?_));subst bp;refine aB (Z (thn (ht s3.heap.objs.size fp s3 H3 _ s8 _ H8 _ I8 ao) λbh s9 ⟨H9,I9,q9⟩=>?_));have af:∀{aa:Hp}{ab:Shared}{m':Nat},Inv (13:) ([]++JW fp s7.heap) (bs++Xj cap σ) aa ab->m'<n->W (i+1) m' aa->
    ∃m,m<n/\∃i as H',as.length=xs.length/\Inv (13:) [] (as++Xj cap σ) H' ab/\tn i ab.heap/\(∀b∈fp,H' b=none)/\W i m H':=λ{aa ab m'} ac hm am=>by
    refine⟨m',hm,i+1,bs,aa,bg,ac.unpinned,T.keep _ _ _ al λb G o e=>(ac.pin (b,o) (cB _ (cB _ (Z3 G e)))).1,λb G=>?_,am⟩;obtain⟨o,e,d⟩:=T.obj _ _ al b G;exact(ac.pin (b,o) (cB _ (cB _ (Z3 G e)))).2.1
   cases bh with
   | false=>
    rw [aG aS]at q9;obtain⟨m',hm,w9⟩:=q9;exact aF ⟨rfl,af I9 hm w9⟩
   | true=>
    rw [aH rfl]at q9;refine aB (aB (thn (hw L (λb G=>⟨(f2 b G).2.2.2.1,(f2 b G).2.1,(f2 b G).2.2.2.2⟩) I9 q9) λyv ab ⟨yy,aa,ac,bi,ys,bj,a8,m',hm,am⟩=>?_));refine aB (Z (thn (Zo (X:=QL X (xs++caps) scope cl s3.heap.objs.size fp s3 H3) _ ab _ aa (.ref D) [yy] (.ref D) [yv] (λ_ a0=>W (i+1) m' a0) ac rfl (.cons bi .nil) ⟨D,ys,yy,rfl,rfl,bj,a8,am⟩) λ_ br ⟨_,a0,bn,_,bo⟩=>?_));exact aF (aF ⟨rfl,af bn hm bo⟩)
 refine codeAny_compStart_list ak (T.self _ 0 _ _ _ t3 ak)
theorem Jw{X:Cx}{elt iter tg:Expr}{xs:List Str}{ifs:List Expr}{scope:Scope}{pos pos':Pos}{wi:TI}{g:TG}{tt:TT}{te:TE}{cl:List (Str×Addr)}{caps:List Str}{cap:List Nat}
 (O:CompG X xs caps cap scope cl) (hc:X.calm=true) (hi:PI X tg iter wi) (hg:∀C fp s₀ H₀,PG (QL X (xs++caps) scope cl C fp s₀ H₀) tg g)
 (ht:∀C fp s₀ H₀,PF (QL X (xs++caps) scope cl C fp s₀ H₀) ifs tt) (he:∀C fp s₀ H₀,PE (QL X (xs++caps) scope cl C fp s₀ H₀) elt te)
 (hs:∀x,foldedSetIterable iter X.env x=pure x) {pins:List (10:)} {s:Shared} {σ:St} {H:Hp} {Q:VK} {use:Option (Value->Sem Unit)} {QQ:Value->Shared->Prop} (I:Inv X pins σ H s)
 (h:Ju xs.length wi cap g tt te σ H Q)
 (hfin:∀D C H' s',Inv X pins σ H' s'->OwnAt X pins H' s' C->Q (.ref D) H'->compPost (6:) X.A X.xe use QQ (.ref D) C (.ok .next) s'):
 wpAny (6:) X.A (comprehension (.ListComp elt [⟨tg,iter,ifs,0⟩] scope pos) scope X.env pos' (newList []) false (eval iter X.env) use) QQ X.xe s:=
 WW O hc hi hg ht hs I h hfin λ_ _ G J=>dD (he _ _ _ _ _ _ _ _ _ G J) (λ_ _ q=>q) λ_ _ L=>L.elim
theorem QM{X:Cx}{elt iter tg:Expr}{xs:List Str}{ifs:List Expr}{scope:Scope}{pos:Pos}{wi:TI}{g:TG}{tt:TT}{te:TE}{cl:List (Str×Addr)}{caps:List Str}{cap:List Nat}
 (O:CompG X xs caps cap scope cl) (hc:X.calm=true) (hi:PI X tg iter wi) (hg:∀C fp s₀ H₀,PG (QL X (xs++caps) scope cl C fp s₀ H₀) tg g)
 (ht:∀C fp s₀ H₀,PF (QL X (xs++caps) scope cl C fp s₀ H₀) ifs tt) (he:∀C fp s₀ H₀,PE (QL X (xs++caps) scope cl C fp s₀ H₀) elt te)
 (hs:∀x,foldedSetIterable iter X.env x=pure x:=by intro _;rfl):
 PE X (.ListComp elt [⟨tg,iter,ifs,0⟩] scope pos) (Ju xs.length wi cap g tt te):=by
 intro pins s σ H Q I h;rw [eval_ListComp];exact Jw (use:=none) O hc hi hg ht he hs I h λD C H' s' G o q=>by
  obtain⟨m,J⟩:=o.ns;exact⟨m,J,λh' L=>⟨.ref D,H',o.go G L,rfl,q⟩⟩
theorem Uq{X:Cx}{elt iter tg:Expr}{xs:List Str}{y:Str}{py:Pos}{ifs:List Expr}{scope:Scope}{pos spos:Pos}{wi:TI}{g:TG}{tt:TT}{te:TE}{cl:List (Str×Addr)}{caps:List Str}{cap:List Nat}{i:Nat}
 (O:CompG X xs caps cap scope cl) (hc:X.calm=true) (hi:PI X tg iter wi) (hg:∀C fp s₀ H₀,PG (QL X (xs++caps) scope cl C fp s₀ H₀) tg g)
 (ht:∀C fp s₀ H₀,PF (QL X (xs++caps) scope cl C fp s₀ H₀) ifs tt) (he:∀C fp s₀ H₀,PE (QL X (xs++caps) scope cl C fp s₀ H₀) elt te)
 (hN:X.N.Nodup) (hy:X.N[i]?=some y) (hl:X.env.scope.names.lookup y=some .local)
 (hsw:swapsWith (.ListComp elt [⟨tg,iter,ifs,0⟩] scope pos) (some (.Name y py)) spos.line X.env=pure true:=by rfl)
 (hs:∀x,foldedSetIterable iter X.env x=pure x:=by intro _;rfl):
 PS X (.Assign [.Name y py] (.ListComp elt [⟨tg,iter,ifs,0⟩] scope pos) spos) (Ad (Ju xs.length wi cap g tt te) (Q8 i)):=by
 intro pins s σ H D I h;rw [exec_Assign_Name_used _ _ _ _ hsw];refine aB (wpAny_standAt (aB ?_));show wpAny _ X.A (do let _ <-comprehension (.ListComp elt [⟨tg,iter,ifs,0⟩] scope pos) scope X.env _ (newList []) false (eval iter X.env) (some (assign (.Name y py) X.env))) _ _ s;refine aB (thn (Jw (use:=some (assign (.Name y py) X.env)) (QQ:=λ_ s'=>SP X pins D .next s') O hc hi hg ht he hs I h λL C H' s' U o q=>?_) λ_ s' Y=>aF (aF Y));obtain⟨m,M⟩:=o.ns;show wpAny _ X.A (assign (.Name y py) X.env (.ref L)) _ _ s';refine wpAny_assign_Name (XE (v:=.ref L) U hN hy (.inl hl) rfl (λZ I2 G=>?_) (.inr hl));obtain⟨a,G,ha⟩:=G;have J:C≠a:=by
  rcases ha with z | z
  .rw [z];exact o.loc
  .exact aW (o.cells y a z)
 have o2:OwnAt X pins H' Z C:=⟨⟨m,M.sameBut G J⟩,o.free,o.loc,o.above,o.cells,o.pins⟩;refine⟨m,M.sameBut G J,λh' hb=>?_⟩;exact⟨_,H',o2.go I2 hb,q⟩
section
variable{xs:List Str}{cl:List (Str×Addr)}
theorem YR(O:CompG X [x] caps cap scope cl):∀C fp s₀ H₀,PG (QL X ([x]++caps) scope cl C fp s₀ H₀) (.Name x px) (Q8 0):=λC fp s₀ H₀=>
 Qo (X:=QL X ([x]++caps) scope cl C fp s₀ H₀) (i:=0) O.nd rfl (.inl (fD (O.lx x (17:)))) (.inr (fD (O.lx x (17:))))
theorem U7{y:Str}{k:Nat}(O:CompG X [x,y] caps cap scope cl)(hc:X.calm=true):∀C fp s₀ H₀,PG (QL X ([x,y]++caps) scope cl C fp s₀ H₀) (.Tuple [.Name x px,.Name y py] k pos) (P0 X.K 2 (YT (Q8 0) (YT (Q8 1) L5))):=λC fp s₀ H₀=>
 Zd (X:=QL X ([x,y]++caps) scope cl C fp s₀ H₀) hc (Qr (Qo (i:=0) O.nd rfl (.inl (fD (O.lx x (17:)))) (.inr (fD (O.lx x (17:)))))
  (Qr (Qo (i:=1) O.nd rfl (.inl (fD (O.lx y (17:)))) (.inr (fD (O.lx y (17:))))) QZ))
end
theorem XI{k:NameKind}{y:Str}:∀{l:List (Str×NameKind)},l.lookup y=some k->(y,k)∈l
 | [],h=>by simp at h
 | (n,j)::r,h=>by
  cases G:y==n with
  | true=>
   simp only [dF,G]at h;have:y=n:=by simpa using G
   cases h;rw [this];exact aQ
  | false=>
   simp only [dF,G]at h;exact aV _ (XI h)
theorem JS{y:Str}:∀{l:List (Str×Addr)},l.lookup y=some c->(y,c)∈l
 | [],h=>by simp at h
 | (n,j)::r,h=>by
  cases G:y==n with
  | true=>
   simp only [dF,G]at h;have:y=n:=by simpa using G
   cases h;rw [this];exact aQ
  | false=>
   simp only [dF,G]at h;exact aV _ (JS h)
theorem J4{y:Str}{c:Addr}:∀{l:List (Str×Addr)},(y,c)∈l->∃c',l.lookup y=some c'
 | [],h=>by cases h
 | (n,j)::r,h=>by
  cases G:y==n with
  | true=>exact⟨j,by simp only [dF,G]⟩
  | false=>
   simp only [dF,G];rcases aM.mp h with z | z
   .have:y=n:=congrArg Prod.fst z;rw [this]at G;simp at G
   .exact J4 z
theorem Ut{y:Str}(hf:env.scope.kind=.function)(hy:env.kindOf y=some .cell):∀{names:List (Str×NameKind)},names.lookup y=some .free->
 (names.map λ(n,k)=>if(k==NameKind.free&&env.scope.kind== .function&&env.kindOf n==some .cell)then(n,NameKind.cell)else(n,k)).lookup y=some .cell
 | [],h=>by simp at h
 | (n,k)::r,h=>by
  show List.lookup y ((if(k==NameKind.free&&env.scope.kind== .function&&env.kindOf n==some .cell)=true then(n,NameKind.cell)else(n,k))::_)=_;cases G:y==n with
  | true=>
   simp only [dF,G]at h;have e:y=n:=by simpa using G
   cases h;rw [<-e,hf,hy];simp
  | false=>
   simp only [dF,G]at h;have J:=Ut hf hy h;split
   .simp only [dF,G];exact J
   .simp only [dF,G];exact J
def Zg(names:List (Str×NameKind)):List Str:=names.filterMap λz=>if z.2==NameKind.free then some z.1 else none
theorem YW{env:Env}:∀(names:List (Str×NameKind))(caps:List Str)(cs:List Addr)(acc:List (Str×Addr)),Zg names=caps->caps.map (λy=>env.cells.lookup y)=cs.map some->
 (forIn names acc λ(x:Str×NameKind)(r:List (Str×Addr))=>(if(x.2==NameKind.free)=true then do let a <-cellOf env x.1;pure (ForInStep.yield ((x.1,a)::r))else pure (ForInStep.yield r):Sem (ForInStep (List (Str×Addr)))))=(pure ((caps.zip cs).reverse++acc):Sem (List (Str×Addr)))
 | [],caps,cs,acc,h1,h2=>by
  have:caps=[]:=h1.symm;subst this;simp
 | (n,k)::r,caps,cs,acc,h1,h2=>by
  rw [List.forIn_cons]
  by_cases G:(k==NameKind.free)=true
  .have L:caps=n::Zg r:=by
    rw [<-h1];unfold Zg;rw [fY];simp only [G,cD]
   subst L;cases cs with
   | nil=>simp at h2
   | cons c cs=>
    simp only [aR,gw]at h2;have J:cellOf env n=pure c:=by unfold cellOf;rw [h2.1]
    simp only [G,cD,J,pure_bind];rw [YW r _ cs ((n,c)::acc) rfl h2.2];simp
  .have L:caps=Zg r:=by
    rw [<-h1];unfold Zg;rw [fY];simp only [G]
    rfl
   subst L;simp only [G,bU,pure_bind];exact YW r _ cs acc rfl h2
theorem Jc{cs:List Addr}(hf:Zg scope.names=caps)(hc:caps.map (λy=>env.cells.lookup y)=cs.map some):closureFor scope env=pure (caps.zip cs).reverse:=by
 have h:=YW (env:=env) scope.names caps cs [] hf hc;rw [dO]at h;unfold closureFor;simp only [bind_pure];exact h
theorem CompG.many{xs:List Str}{cs:List Addr}(hk:scope.kind=.function)(hf:X.env.scope.kind=.function)(hfr:Zg scope.names=caps)
 (hnc:∀z∈scope.names,z.2≠.cell) (hl:∀y∈scope.names,y.2=.local->scope.names.lookup y.1=some .local) (hlx:∀x∈xs,scope.names.lookup x=some .local) (hnd:(xs++caps).Nodup)
 (hfl:∀y∈caps,scope.names.lookup y=some .free) (hce:caps.map (λy=>X.env.scope.names.lookup y)=caps.map λ_=>some .cell) (hcs:caps.map (λy=>X.env.cells.lookup y)=cs.map some)
 (hN:cap.map (λj=>X.N[j]?)=caps.map some):CompG X xs caps cap scope (caps.zip cs).reverse:=by
 have ac:caps.length=cs.length:=by simpa using congrArg List.length hcs
 have U:∀(i:Nat)(y:Str),caps[i]?=some y->∃c,cs[i]?=some c/\X.env.cells.lookup y=some c:=λi y h=>by
  have e:=congrArg (λl=>l[i]?) hcs;simp only [aJ,h]at e;cases q:cs[i]? with
  | none=>rw [q]at e;simp at e
  | some c=>rw [q]at e;exact⟨c,rfl,by simpa using e⟩
 refine⟨Jc hfr hcs,hnc,hk,hl,hlx,hnd,λy c h=>?_,λy h=>?_,?_,λi y h=>?_⟩
 .have L:=JS h;rw [List.mem_reverse]at L;obtain⟨i,hi,e⟩:=bZ L;have aa:i<caps.length:=by rw [List.length_zip]at hi;lia
  have Y:i<cs.length:=by rw [List.length_zip]at hi;lia
  rw [List.getElem_zip]at e;obtain⟨c',e1,M⟩:=U i caps[i] (aD aa);have e3:caps[i]=y:=congrArg Prod.fst e;have e4:cs[i]=c:=congrArg Prod.snd e;rw [aD Y,e4]at e1;cases e1;rw [<-e3];exact M
 .have L:y∈caps:=by
   have Z:∀k:NameKind,(k=.cell\/k=.free)->(relabel scope X.env).names.lookup y=some k->y∈caps:=λk hk h=>by
    have h1:=XI h;obtain⟨z,hz,e⟩:=aK.mp h1;obtain⟨n,kk⟩:=z;have G:kk=.free/\n=y:=by
     dsimp only at e;split at e
     .rename_i q;simp only [bC]at q;exact⟨by simpa using q.1.1,congrArg Prod.fst e⟩
     .have M:kk=k:=congrArg Prod.snd e;refine⟨?_,congrArg Prod.fst e⟩;rcases hk with z | z
      .exact absurd (M.trans z) (hnc _ hz)
      .exact M.trans z
    rw [<-hfr];refine eG.mpr ⟨(n,kk),hz,?_⟩;rw [G.1,G.2];rfl
   rcases h with h | h
   .exact Z _ (.inl rfl) h
   .exact Z _ (.inr rfl) h
  obtain⟨i,hi,e⟩:=bZ L;have Y:i<cs.length:=by lia
  refine J4 (c:=cs[i]) ?_;rw [List.mem_reverse];have ab:i<(caps.zip cs).length:=by rw [List.length_zip];lia
  have:=aO ab;rw [List.getElem_zip,e]at this;exact this
 .have:=congrArg List.length hN
  simpa using this
 .have e:=congrArg (λl=>l[i]?) hN;simp only [aJ,h]at e;have L:=aL h;cases q:cap[i]? with
  | none=>rw [q]at e;simp at e
  | some j=>
   rw [q]at e;have J:X.env.scope.names.lookup y=some .cell:=by
    have M:=congrArg (λl=>l[i]?) hce
    simpa only [aJ,h,Option.map_some,Option.some.injEq]using M
   exact⟨j,rfl,by simpa using e,J,Ut hf J (hfl y L)⟩
theorem Zh{J:It}{n N:Nat}{cs:St}{g:TG}{tt:TT}{te:TE}{H1:Hp}{acc:Addr}{Q:Hp->Prop}(Pv:Nat->List V->Hp->Prop)(h0:Pv 0 [] (upd H1 acc (.lst [])))
 (hstop:∀ys H,Pv N ys H->J.stop N H/\Q H)
 (hstep:∀i ys H,i<N->Pv i ys H->J.go i H/\∀x H3,J.yld i H x H3->∀as:St,as.length=n->g x (as++cs) H3 λσ4 H4=>(∃bs:St,bs.length=n/\σ4=bs++cs)/\tt σ4 H4 λok H5=>if ok=true then te σ4 H5 (OV N Pv acc i (N-i))else ∃m',m'<N-i/\WX N Pv (i+1) m' H5):
 ∃W:Nat->Nat->Hp->Prop,(∃m,W 0 m (upd H1 acc (.lst [])))/\∀i m H2,W i m H2->
  (J.stop i H2/\Q H2)\/(J.go i H2/\∀x H3,J.yld i H2 x H3->∀as:St,as.length=n->g x (as++cs) H3 λσ4 H4=>(∃bs:St,bs.length=n/\σ4=bs++cs)/\tt σ4 H4 λok H5=>if ok=true then
   te σ4 H5 (λy H6=>∃ys,H6 acc=some (.lst ys)/\ys.length<sizeLine/\∃m',m'<m/\W (i+1) m' (upd H6 acc (.lst (ys++[y]))))
   else ∃m',m'<m/\W (i+1) m' H5):=by
 refine⟨WX N Pv,⟨N-0,rfl,bN _,[],h0⟩,?_⟩;rintro i m H2 ⟨rfl,hi,ys,p⟩
 by_cases h:i<N
 .exact .inr (hstep i ys H2 h p)
 .have e:i=N:=by lia
  subst e;exact .inl (hstop ys H2 p)
abbrev WZ(N:Nat)(Pv:Nat->List V->Hp->Prop)(acc:Addr)(i:Nat)(te:TE)(σ:St):Bool->Hp->Prop:=λok H5=>if ok=true then te σ H5 (OV N Pv acc i (N-i))else ∃m',m'<N-i/\WX N Pv (i+1) m' H5
abbrev Uc(J:It)(n:Nat)(cs:St)(g:TG)(tt:TT)(te:TE)(H1:Hp)(acc:Addr)(Q:Hp->Prop):Prop:=
 ∃W:Nat->Nat->Hp->Prop,(∃m,W 0 m (upd H1 acc (.lst [])))/\∀i m H2,W i m H2->
  (J.stop i H2/\Q H2)\/(J.go i H2/\∀x H3,J.yld i H2 x H3->∀as:St,as.length=n->g x (as++cs) H3 λσ4 H4=>(∃bs:St,bs.length=n/\σ4=bs++cs)/\tt σ4 H4 λok H5=>if ok=true then
   te σ4 H5 (λy H6=>∃ys,H6 acc=some (.lst ys)/\ys.length<sizeLine/\∃m',m'<m/\W (i+1) m' (upd H6 acc (.lst (ys++[y]))))
   else ∃m',m'<m/\W (i+1) m' H5)
section
variable{K:Fg}{Q:Hp->Prop}
theorem Ji(Pv:Nat->List V->Hp->Prop)(h0:Pv 0 [] (upd H1 acc (.lst [])))(hl:∀i ys H,i<=xs.length->Pv i ys H->SqL K H a xs)
 (hs:∀i x ys H,i<xs.length->xs[i]?=some x->Pv i ys H->tt (some x::cs) H (WZ xs.length Pv acc i te (some x::cs))) (hd:∀ys H,Pv xs.length ys H->Q H):Uc (Itl K a) 1 cs (Q8 0) tt te H1 acc Q:=by
 refine Zh Pv h0 (λys H p=>⟨⟨xs,hl _ _ _ (4:) p,aZ _⟩,hd ys H p⟩) λi ys H hi p=>⟨⟨xs,xs[i],hl _ _ _ (cX hi) p,aD hi⟩,?_⟩;rintro x U ⟨rfl,L⟩ M G;obtain⟨J,rfl⟩: ∃J,M=[J]:=fU.mp G;exact⟨⟨[some x],rfl,rfl⟩,hs i x ys _ hi (L xs (hl _ _ _ (cX hi) p)) p⟩
theorem Y7(Pv:Nat->List V->Hp->Prop)(h0:Pv 0 [] (upd H1 acc (.lst [])))(hl:∀i ys H,i<=xs.length->Pv i ys H->SqT K H a xs)
 (hs:∀i x ys H,i<xs.length->xs[i]?=some x->Pv i ys H->tt (some x::cs) H (WZ xs.length Pv acc i te (some x::cs))) (hd:∀ys H,Pv xs.length ys H->Q H):Uc (Itt K a) 1 cs (Q8 0) tt te H1 acc Q:=by
 refine Zh Pv h0 (λys H p=>⟨⟨xs,hl _ _ _ (4:) p,aZ _⟩,hd ys H p⟩) λi ys H hi p=>⟨⟨xs,xs[i],hl _ _ _ (cX hi) p,aD hi⟩,?_⟩;rintro x U ⟨rfl,L⟩ M G;obtain⟨J,rfl⟩: ∃J,M=[J]:=fU.mp G;exact⟨⟨[some x],rfl,rfl⟩,hs i x ys _ hi (L xs (hl _ _ _ (cX hi) p)) p⟩
theorem JQ{lo:Int}{n:Nat}(Pv:Nat->List V->Hp->Prop)(h0:Pv 0 [] (upd H1 acc (.lst [])))
 (hs:∀i ys H,i<n->Pv i ys H->tt (some (.int (lo+i))::cs) H (WZ n Pv acc i te (some (.int (lo+i))::cs))) (hd:∀ys H,Pv n ys H->Q H):Uc (Itr lo n) 1 cs (Q8 0) tt te H1 acc Q:=by
 refine Zh Pv h0 (λys H p=>⟨aZ _,hd ys H p⟩) λi ys H hi p=>⟨hi,?_⟩;rintro x M ⟨rfl,rfl⟩ L G;obtain⟨J,rfl⟩: ∃J,L=[J]:=fU.mp G;exact⟨⟨[some _],rfl,rfl⟩,hs i ys _ hi p⟩
theorem Wg{as:St}(h:as.length=2):∃a0 a1,as=[a0,a1]:=by
 match as,h with
 | [a0,a1],_=>exact⟨a0,a1,rfl⟩
theorem YE(Pv:Nat->List V->Hp->Prop)(h0:Pv 0 [] (upd H1 acc (.lst [])))(hl:∀i ys H,i<=xs.length->Pv i ys H->SqL K H a xs)
 (hs:∀i x ys H,i<xs.length->xs[i]?=some x->Pv i ys H->∃p u v,x=.ref p/\SqT K H p [u,v]/\tt (some u::some v::cs) H (WZ xs.length Pv acc i te (some u::some v::cs))) (hd:∀ys H,Pv xs.length ys H->Q H):Uc (Itl K a) 2 cs (P0 K 2 (YT (Q8 0) (YT (Q8 1) L5))) tt te H1 acc Q:=by
 refine Zh Pv h0 (λys H p=>⟨⟨xs,hl _ _ _ (4:) p,aZ _⟩,hd ys H p⟩) λi ys H hi p=>⟨⟨xs,xs[i],hl _ _ _ (cX hi) p,aD hi⟩,?_⟩;rintro x M ⟨rfl,J⟩ U G;obtain⟨Y,Z,rfl⟩:=Wg G;obtain⟨q,u,v,rfl,L,h⟩:=hs i x ys _ hi (J xs (hl _ _ _ (cX hi) p)) p;exact⟨q,[u,v],rfl,L,rfl,u,[v],rfl,v,[],rfl,rfl,⟨[some u,some v],rfl,rfl⟩,h⟩
theorem AY(hlen:xs.length=zs.length)(Pv:Nat->List V->Hp->Prop)(h0:Pv 0 [] (upd H1 acc (.lst [])))(hl:∀i ys H,i<=xs.length->Pv i ys H->SqL K H a xs/\SqL K H b zs)
 (hs:∀i u v p ys H,i<xs.length->xs[i]?=some u->zs[i]?=some v->H p=none->Pv i ys H->tt (some u::some v::cs) (upd H p (.tup [u,v])) (WZ xs.length Pv acc i te (some u::some v::cs))) (hd:∀ys H,Pv xs.length ys H->Q H):Uc (Itz K a b xs zs) 2 cs (P0 K 2 (YT (Q8 0) (YT (Q8 1) L5))) tt te H1 acc Q:=by
 refine Zh (N:=xs.length) Pv h0 (λys H p=>?_) λi ys H hi p=>?_
 .obtain⟨G,J⟩:=hl _ _ _ (4:) p;exact⟨⟨G,J,.inl (4:)⟩,hd ys H p⟩
 .obtain⟨G,J⟩:=hl _ _ _ (cX hi) p;refine⟨⟨G,J,hi,by lia⟩,?_⟩;rintro x Z ⟨q,u,v,M,rfl,rfl,U,Y⟩ as L;obtain⟨a0,a1,rfl⟩:=Wg L;exact⟨q,[u,v],rfl,SqT.of Qb,rfl,u,[v],rfl,v,[],rfl,rfl,⟨[some u,some v],rfl,rfl⟩,hs i u v q ys _ hi U Y M p⟩
end
section
variable{κ:Type} [DecidableEq κ]
def UT(kvs:List (κ×V))(k:κ):Option V:=(kvs.find? λkv=>decide (kv.1=k)).map (·.2)
def putK(kvs:List (κ×V))(k:κ)(v:V):List (κ×V):=
 if(kvs.any λkv=>decide (kv.1=k))=true then kvs.map (λkv=>if kv.1=k then(kv.1,v)else kv)else kvs++[(k,v)]
theorem Y9{p:κ×V}{r:List (κ×V)}{k:κ}(e:p.1=k):UT (p::r) k=some p.2:=by simp [UT,cI,e]
theorem Um{p:κ×V}{r:List (κ×V)}{k:κ}(e:¬p.1=k):UT (p::r) k=UT r k:=by simp [UT,cI,e]
theorem Vh(k:κ):∀kvs:List (κ×V),(kvs.any λkv=>decide (kv.1=k))=(UT kvs k).isSome
 | []=>rfl
 | p::r=>by
  rw [fO]
  by_cases e:p.1=k
  .simp only [Y9 e,bO e,Bool.true_or,Option.isSome_some]
  .rw [Um e,bV e,Bool.false_or];exact Vh k r
theorem Ye(kvs:List (κ×V))(k:κ)(v:V):(putK kvs k v).length<=kvs.length+1:=by
 unfold putK;split
 .rw [aE];lia
 .rw [bH,bK,List.length_nil];lia
theorem RelO.isSome_eq{o:Option V}{u:Option Value}(r:RelO o u):o.isSome=u.isSome:=by
 cases o with
 | none=>cases u with
  | none=>rfl
  | some _=>exact(show False from r).elim
 | some _=>cases u with
  | none=>exact(show False from r).elim
  | some _=>rfl
theorem RelO.getD{o:Option V}{u:Option Value}{d:V}{d':Value}(r:RelO o u)(rd:RelV d d'):RelV (o.getD d) (u.getD d'):=by
 cases o with
 | none=>cases u with
  | none=>exact rd
  | some _=>exact(show False from r).elim
 | some _=>cases u with
  | none=>exact(show False from r).elim
  | some _=>exact r
theorem KV.val{kvs:List (κ×V)}{vs:List (κ×Value)}(r:KV kvs vs)(k:κ):RelO (UT kvs k) (valueAt vs k):=by
 unfold KV at r
 induction r with
 | nil=>exact cQ
 | @cons p q ps qs h t J=>
  obtain⟨h1,h2⟩:=h
  by_cases e:p.1=k
  .have G:q.1=k:=h1.symm.trans e;have b:valueAt (q::qs) k=some q.2:=by simp [valueAt,cI,G]
   rw [Y9 e,b];exact h2
  .have G:¬q.1=k:=λz=>e (h1.trans z);have b:valueAt (q::qs) k=valueAt qs k:=by simp [valueAt,cI,G]
   rw [Um e,b];exact J
theorem KV.any{kvs:List (κ×V)}{vs:List (κ×Value)}(r:KV kvs vs)(k:κ):(kvs.any λkv=>decide (kv.1=k))=vs.any λkv=>decide (kv.1=k):=by
 unfold KV at r
 induction r with
 | nil=>rfl
 | cons h t G=>rw [fO,fO,G,h.1]
theorem KV.repl{kvs:List (κ×V)}{vs:List (κ×Value)}(r:KV kvs vs)(k:κ)(ry:RelV y u):
 KV (kvs.map λkv=>if kv.1=k then(kv.1,y)else kv) (vs.map λkv=>if kv.1=k then(kv.1,u)else kv):=by
 unfold KV at r ⊢
 induction r with
 | nil=>exact .nil
 | @cons p q ps qs h t G=>
  rw [aR,aR];refine .cons ?_ G;obtain⟨h1,h2⟩:=h
  by_cases e:p.1=k
  .rw [aH e,aH (h1.symm.trans e)];exact⟨h1,ry⟩
  .rw [aG e,aG (λz=>e (h1.trans z))];exact⟨h1,h2⟩
theorem KV.put{kvs:List (κ×V)}{vs:List (κ×Value)}(r:KV kvs vs)(k:κ)(ry:RelV y u):KV (putK kvs k y) (stored vs k u):=by
 unfold putK stored;rw [r.any k]
 by_cases e:(vs.any λG=>decide (G.1=k))=true
 .rw [aH e,aH e];exact r.repl k ry
 .rw [aG e,aG e];exact Paired.snoc r ⟨rfl,ry⟩
theorem KV.length{kvs:List (κ×V)}{vs:List (κ×Value)}(r:KV kvs vs):kvs.length=vs.length:=eh r
end
theorem Lg{P:Program}{w:World}{k:Key}{u:Value}(r:RelV (kV k) u):(Qw P w).is k u=true:=by
 cases k with
 | inl i=>obtain⟨t,e⟩:=(show ∃t,u=Value.int i t from r);subst e;exact W3 P w i t
 | inr x=>obtain⟨t,e⟩:=(show ∃t,u=Value.str x t from r);subst e;exact W0 P w x t
theorem Xu:∀{ks:List Key}{us:List Value},Vals (ks.map kV) us->ItemsAre (Qw P w) ks us
 | [],_,r=>by rw [List.map_nil]at r;cases r;exact .nil
 | k::ks,_,r=>by
  rw [aR]at r;cases r with
  | cons h t=>exact .cons (Lg h) (Xu t)
abbrev KT(H:Hp):List (List Key×V)->List (List Key×Addr×Value)->Prop:=Paired λp q=>p.1=q.1/\H q.2.1=some (.tup (p.1.map kV))/\RelV p.2 q.2.2
theorem KT.val{xs:List (List Key×Addr×Value)}(r:KT H kvs xs)(k:List Key):RelO (UT kvs k) ((atKey xs k).map (·.2)):=by
 induction r with
 | nil=>exact cQ
 | @cons p q ps qs h t J=>
  obtain⟨h1,_,h2⟩:=h
  by_cases e:p.1=k
  .have G:q.1=k:=h1.symm.trans e;have b:atKey (q::qs) k=some q.2:=by simp [atKey,cI,G]
   rw [Y9 e,b];exact h2
  .have G:¬q.1=k:=λz=>e (h1.trans z);have b:atKey (q::qs) k=atKey qs k:=by simp [atKey,cI,G]
   rw [Um e,b];exact J
theorem KT.repl{xs:List (List Key×Addr×Value)}(r:KT H kvs xs)(k:List Key)(ry:RelV y u):
 KT H (kvs.map λkv=>if kv.1=k then(kv.1,y)else kv) (xs.map (putAt k u)):=by
 induction r with
 | nil=>exact .nil
 | @cons p q ps qs h t G=>
  rw [aR,aR];refine .cons ?_ G;obtain⟨h1,h2,J⟩:=h;unfold putAt
  by_cases e:p.1=k
  .rw [aH e,aH (h1.symm.trans e)];exact⟨h1,h2,ry⟩
  .rw [aG e,aG (λz=>e (h1.trans z))];exact⟨h1,h2,J⟩
theorem KT.put{xs:List (List Key×Addr×Value)}(r:KT H kvs xs)(k:List Key)(hb:H b=some (.tup (k.map kV)))(ry:RelV y u):
 KT H (putK kvs k y) (storedH xs k b u):=by
 have e:(kvs.any λG=>decide (G.1=k))=(atKey xs k).isSome:=by
  rw [Vh,(r.val k).isSome_eq,Option.isSome_map]
 unfold putK storedH;rw [e]
 by_cases q:(atKey xs k).isSome=true
 .rw [aH q,aH q];exact r.repl k ry
 .rw [aG q,aG q];exact Paired.snoc r ⟨rfl,hb,ry⟩
theorem KT.keeps{xs:List (List Key×Addr×Value)}(r:KT H kvs xs)(ht:∀b ys,H b=some (.tup ys)->H' b=some (.tup ys)):KT H' kvs xs:=
 Paired.mapP r λ_ _ z=>⟨z.1,ht _ _ z.2.1,z.2.2⟩
theorem S1{u:HO}(ok:HOk P w H h)(e:Rd H a u):ObjOk P w H h a u:=e.ok ok
theorem PB{kvs:List (Key×V)}(ok:HOk P w H h)(e:Rd H a (.dK kvs)):kvs.length<=sizeLine/\(a==sysModules)=false/\∃vs,KV kvs vs/\h.DictOf (Qw P w) a vs:=
 show ObjOk P w H h a (.dK kvs)from S1 ok e
theorem Bi{kvs:List (Key×V)}(ok:HOk P w H h)(e:H a=some (.dK kvs)):kvs.length<=sizeLine/\(a==sysModules)=false/\∃vs,KV kvs vs/\h.DictOf (Qw P w) a vs:=PB ok (.inl e)
theorem Gh{ks:List Key}(ok:HOk P w H h)(e:H a=some (.tup (ks.map kV))):(tupleKind (Qw P w)).is h ks a:=by
 obtain⟨_,its,r,o,h1,h2,n,G⟩:=(show ObjOk P w H h a (.tup (ks.map kV))from ok a _ e);exact⟨o,its.toArray,n,h1,h2,G,by simpa using Xu r⟩
theorem OU(ok:HOk P w H h)(e:Rd H a (.dT kvs)):kvs.length<=sizeLine/\(a==sysModules)=false/\
 ∃xs,KT H kvs xs/\h.DictOfH (tupleKind (Qw P w)) a xs:=by
 obtain⟨z,y,xs,r,o,es,ep,h1,h2,J,L,M⟩:=(show ObjOk P w H h a (.dT kvs)from S1 ok e);refine⟨z,y,xs,r,o,es,ep,h1,h2,J,L,λx hx=>?_,M⟩;have all:∀{l:List (List Key×V)}{m:List (List Key×Addr×Value)},KT H l m->∀x∈m,(tupleKind (Qw P w)).is h x.1 x.2.1:=by
  intro l m q
  induction q with
  | nil=>intro x hx;exact nomatch hx
  | @cons p q ps qs G t U=>
   intro x hx;rcases aM.mp hx with e | hx
   .subst e;exact Gh ok (by rw [<-G.1];exact G.2.1)
   .exact U x hx
 exact all r x hx
theorem Ld(ok:HOk P w H h)(e:H a=some (.dT kvs)):kvs.length<=sizeLine/\(a==sysModules)=false/\
 ∃xs,KT H kvs xs/\h.DictOfH (tupleKind (Qw P w)) a xs:=OU ok (.inl e)
def DGet(H:Hp)(a:Addr)(y:V)(r:Option V):Prop:=
 (∃kvs k,Rd H a (.dK kvs)/\y=kV k/\r=UT kvs k)\/∃kvs k b,Rd H a (.dT kvs)/\y=.ref b/\H b=some (.tup (k.map kV))/\r=UT kvs k
def DPut(H:Hp)(a:Addr)(y v:V)(H':Hp):Prop:=
 (∃kvs k,H a=some (.dK kvs)/\y=kV k/\kvs.length<sizeLine/\H'=upd H a (.dK (putK kvs k v))) \/
 ∃kvs k b,H a=some (.dT kvs)/\y=.ref b/\H b=some (.tup (k.map kV))/\kvs.length<sizeLine/\H'=upd H a (.dT (putK kvs k v))
theorem DGet.k{H:Hp}{a:Addr}{kvs:List (Key×V)}{k:Key}(e:H a=some (.dK kvs)):DGet H a (kV k) (UT kvs k):=.inl ⟨kvs,k,.inl e,rfl,rfl⟩
theorem DPut.t{H:Hp}{a b:Addr}{kvs:List (List Key×V)}{k:List Key}{v:V}(e:H a=some (.dT kvs))(eb:H b=some (.tup (k.map kV)))(hl:kvs.length<sizeLine):
 DPut H a (.ref b) v (upd H a (.dT (putK kvs k v))):=.inr ⟨kvs,k,b,e,rfl,eb,hl,rfl⟩
section
variable{pins:List (10:)}{r:Value}{o:Option V}{E:Value->Shared->Prop}
theorem Inv.big(I:Inv X pins σ H s):sysModules<s.heap.objs.size:=by
 have h:mainGlobals<s.heap.objs.size:=(I.mod.glob.keeps I.bk).lt;exact Nat.lt_trans (11:) h
theorem Jf{ob:HO}(I:Inv X pins σ H s)(mu:Mut (H a))(hs:Heap.SameBut a s.heap h')(he:∃q,h'.get? a=some q)(new:ObjOk X.prog X.w (upd H a ob) h' a ob):
 Inv X pins σ (upd H a ob) { s with heap:=h',toks:=t' }:=
 I.write (x:=a) (e:=a) mu (.inl rfl) (λb q G z=>(hs.2 b G).trans z) he new
theorem OH{kvs:List (Key×V)}{vs:List (Key×Value)}(z:kvs.length<=sizeLine)(hd:(a==sysModules)=false)(rel:KV kvs vs)(dd:h'.DictOf (Qw P w) a vs):
 ObjOk P w H' h' a (.dK kvs):=⟨z,hd,vs,rel,dd⟩
theorem Ms{Q:Unit->Shared->Prop}(hu:A.units+1<cLine)(I:Inv X pins σ H s)(g:DPut H a y v H')(ry:RelV y u)(rv:RelV v r)(h:∀s',Inv X pins σ H' s'->Q () s'):
 wpAny (6:) A (setItem (.ref a) u r) Q E s:=by
 rcases g with⟨kvs,k,e,M,l,U⟩ | ⟨kvs,k,b,e,M,eb,l,U⟩
 .subst M U;obtain⟨z,Y,vs,G,Z⟩:=Bi I.hok e;have hz:vs.length<=sizeLine:=by rw [<-G.length];exact z
  have hl:(putK kvs k v).length<=sizeLine:=by have:=Ye kvs k v;lia
  refine wpAny_setItem_pairs (hsz:=hz) (Lg ry) Z λh' J hs=>h _ ?_;have he:∃q,h'.get? a=some q:=let⟨q,_,_,L,_⟩:=J;⟨q,L⟩
  exact Jf I (by rw [e];exact cQ) hs he (OH hl Y (G.put k rv) J)
 .subst M U;cases (show u=Value.ref b from ry);obtain⟨z,Y,xs,G,Z⟩:=Ld I.hok e;have hz:xs.length<=sizeLine:=by rw [<-eh G];exact z
  have hl:(putK kvs k v).length<=sizeLine:=by have:=Ye kvs k v;lia
  refine wpAny_setItem_heap (hsz:=hz) (tupleKind_room_in1 hu) (Gh I.hok eb) Z λh' J hs=>h _ ?_;obtain⟨q,es,ep,L,h2,h3,h4,_,h5⟩:=J;refine Jf I (by rw [e];exact cQ) hs ⟨q,L⟩ ⟨hl,Y,_,(G.put k eb rv).keeps λc ys ec=>?_,q,es,ep,L,h2,h3,h4,h5⟩;rw [Qh (QN ec e (λz=>nomatch z))];exact ec
end
section
variable{pins:List (10:)}{kvs:List (Key×V)}{k:Key}{E:Value->Shared->Prop}
end
def BB(i:Expr):Prop:=∀ov iv,subscripted i false ov iv=operate [ov,iv] (getItem ov iv)
theorem P1{E:Value->Shared->Prop}{slice:Expr}{id:String}
 (hl:typeLookup (.type T) "__getitem__"=pure (some (.builtin id))) (hs:BB slice)
 (h:wpAny (9:) A (eval value env) (λo s₁=>wpAny (9:) A (eval slice env) (λi s₂=>s₂.TypeIs o T/\wpAny (9:) A (getItem o i) Q E s₂) E s₁) E s):
 wpAny (9:) A (eval (.Subscript value slice pos) env) Q E s:=by
 refine Subscript_ (dD h (λo s₁ M=>dD M (λi s₂ G=>?_) λ_ _ x=>x) λ_ _ x=>x);obtain⟨J,G⟩:=G;unfold subscriptTail;refine aB ?_;rw [getitemInPython_of_ne J.not_modules];refine aB (wpAny_specialOf J hl ?_);have fin:wpAny (9:) A (subscripted slice false o i) (λr L=>wpAny (9:) A (letTemporaryGo value o r>>=λ_=>pure r) Q E L) E s₂:=by
  rw [hs o i];exact wpAny_operating (dD G (λr L U=>aB (wpAny_letTemporaryGo (aF U))) λ_ _ x=>x)
 first
  | exact aF (aB fin)
  | exact aB (aF (aB fin))
  | exact aB fin
def BS(td ty tv:TE):TS:=λD σ H=>tv σ H λv H1=>td σ H1 λx H2=>ty σ H2 λy H3=>∃a H4,x=.ref a/\DPut H3 a y v H4/\D.nx σ H4
section
variable{o i:Expr}{td ty:TE}
theorem Sr(hu:X.A.units+1<cLine)(ho:PE X o td)(hi:PE X i ty)(hv:PE X value tv)(hs:swapsWith value (some (.Subscript o i pos')) pos.line X.env=pure false):
 PS X (.Assign [.Subscript o i pos'] value pos) (BS td ty tv):=by
 intro pins s σ H D I h;refine wpAny_Assign_Subscript (thn (hv pins s σ H _ I h) λr G ⟨v,H1,J,L,M⟩=>thn (ho pins G σ H1 _ J M) λu U ⟨x,H2,Y,Z,q2⟩=>thn (hi pins U σ H2 _ Y q2) λiv s3 ⟨y,H3,I3,ry,a,H4,ex,g,q3⟩=>?_) hs;subst ex;obtain rfl:u=Value.ref a:=Z;exact Ms hu I3 g ry L λs4 I4=>⟨σ,H4,I4,q3⟩
end
theorem Pl(h:Heap)(hb:sysModules<h.objs.size):ObjOk P w H (h.push { cls:=.type "dict",data:=.dict #[] }) h.objs.size (.dT []):=
 ⟨bN _,dZ.mpr (aW (bD hb)),[],.nil,_,#[],0,bE _ rfl,⟨rfl,rfl,rfl⟩,rfl,rfl,fh⟩
def Nj:TE:=λ_ H Q=>∀p,H p=none->Q (.ref p) (upd H p (.dT []))
theorem W5:PE X (.Dict [] [] pos) Nj:=λpins s σ H Q I h=>
 wpAny_Dict_empty ⟨.ref s.heap.objs.size,_,I.laid (a:=s.heap.objs.size) (o:=.dT []) (t':=s.toks) (λ_ _ q=>aN _ q) (4:) (Pl s.heap I.big),rfl,h _ (I.hok.fresh (4:))⟩
structure M2(X:Cx)(o:Expr)(m:Str)(apos:Pos)(e f:Expr)(cpos:Pos):Prop where
 base:attributeBase o m X.env (eval o X.env)=eval o X.env
 few:((backTo cpos (starEach [e,f] X.env)).all (λx=>!x.1)&&(backToKw cpos (keywordEach [] X.env)).all (λx=>x.1.isSome)
  &&decide (([e,f]:List Expr).length+([]:List Keyword).length+(if([]:List Keyword).isEmpty then 0 else 1)<30))=true
 line:(apos.endLine==cpos.line)=true
 trees:backTo cpos (starEach [e,f] X.env)=[(false,eval e X.env),(false,eval f X.env)]
def IsD(H:Hp)(a:Addr):Prop:=(∃kvs,Rd H a (.dK kvs))\/∃kvs,Rd H a (.dT kvs)
theorem AL{pins:List (10:)}(I:Inv X pins σ H s)(d:IsD H a):
 s.TypeIs (.ref a) "dict"/\ (∀b,Value.ref a=.ref b->∃ob,s.heap.get? b=some ob/\ob.dict=none)/\(a==sysModules)=false:=by
 rcases d with⟨kvs,e⟩ | ⟨kvs,e⟩
 .obtain⟨_,J,vs,_,G⟩:=PB I.hok e;refine⟨G.typeIs,λb q=>?_,J⟩;cases q;obtain⟨ob,_,_,h1,h2,_⟩:=G;exact⟨ob,h1,h2.2.1⟩
 .obtain⟨_,J,xs,_,G⟩:=OU I.hok e;refine⟨G.typeIs,λb q=>?_,J⟩;cases q;obtain⟨ob,_,_,h1,h2,_⟩:=G;exact⟨ob,h1,h2.2.1⟩
section
variable{pins:List (10:)}{d:V}{r:Value}{o:Option V}{E:Value->Shared->Prop}
theorem TD(hu:A.units+1<cLine)(I:Inv X pins σ H s)(g:DGet H a y o)(ry:RelV y u)(rd:RelV d r)(h:∀w' s',Inv X pins σ H s'->RelV (o.getD d) w'->Q w' s'):
 wpAny (6:) A (call (.builtin "dict.get") [.ref a,u,r]) Q E s:=by
 rcases g with⟨kvs,k,e,L,l⟩ | ⟨kvs,k,b,e,L,U,l⟩
 .subst L;obtain⟨z,M,vs,G,J⟩:=PB I.hok e;refine call_meetsIn PySem.F.slot_dict_get J.typeIs PySem.F.entry_dict_get (PySem.F.args_dict_get_3 _ _ _) (meets_dict_get_default (Qw X.prog X.w) a (Lg ry) M r) ⟨_,J.mapOf,h _ _ (I.tok _) ?_⟩;rw [l];exact(G.val k).getD rd
 .subst L;cases (show u=Value.ref b from ry);obtain⟨z,M,xs,G,J⟩:=OU I.hok e;refine call_meetsIn PySem.F.slot_dict_get J.typeIs PySem.F.entry_dict_get (PySem.F.args_dict_get_3 _ _ _) (meetsH_dict_get_default (tupleKind (Qw X.prog X.w)) a b M r) ⟨tupleKind_room_in1 hu,k,xs,Gh I.hok U,J,h _ _ (I.tok _) ?_⟩;rw [l];exact(G.val k).getD rd
end
def AM(td ty tx:TE):TE:=λσ H Q=>td σ H λx H1=>∃a,x=.ref a/\IsD H1 a/\ty σ H1 λy H2=>tx σ H2 λz H3=>∃o,DGet H3 a y o/\Q (o.getD z) H3
section
variable{o f:Expr}{td ty tx:TE}
theorem NK(hu:X.A.units+1<cLine)(ho:PE X o td)(he:PE X e ty)(hf:PE X f tx)(m:M2 X o "get" apos e f cpos):PE X (.Call (.Attribute o "get" apos) [e,f] [] cpos) (AM td ty tx):=by
 intro pins s σ H Q I h;refine wpAny_Call_method m.base m.few m.line PySem.F.plainAttrs_dict PySem.F.slot_dict_get PySem.F.type_dict_get (thn (ho pins s σ H _ I h) λu L ⟨x,H1,G,M,a,ex,d,U⟩=>?_);subst ex;obtain rfl:u=Value.ref a:=M;obtain⟨Y,Z,_⟩:=AL G d;refine⟨Y,Z,?_⟩;rw [m.trees];refine Calls.callWith_builtin rfl (Calls.evalArgs_plain (Calls.spliced_cons (thn (he pins L σ H1 _ G U) λiv s2 ⟨y,H2,I2,ry,q2⟩=>
  Calls.spliced_cons (thn (hf pins s2 σ H2 _ I2 q2) λfv s3 ⟨z,H3,I3,rz,ov,g,q3⟩=>Calls.spliced_nil ?_))))
 exact TD hu I3 g ry rz λw' s4 I4 J=>⟨_,H3,I4,J,q3⟩
end
section
variable{pins:List (10:)}{kvs:List (Key×V)}{E:Value->Shared->Prop}
end
section
variable{pins:List (10:)}{E:Value->Shared->Prop}
end
end L2
namespace Srt
open PySem PySem.W PyProof.Rows
variable{α β:Type}{key:Nat->O.α}
def Ok(O:KeyOrd)(key:Nat->O.α)(n:Nat)(Q:α->Prop):KasT α->Prop
 | .ret a=>Q a
 | .ask i j k=>i<n/\j<n/\Ok O key n Q (k (O.blt (key i) (key j)))
theorem Ok.bind{t:KasT α}{f:α->KasT β}{Q:β->Prop}:Ok O key n (λa=>Ok O key n Q (f a)) t->Ok O key n Q (t.bind f):=by
 induction t with
 | ret a=>exact id
 | ask i j k G=>exact λh=>⟨h.1,h.2.1,G _ h.2.2⟩
theorem Ok.wp{cmp:Nat->Nat->(Bool->Shared->Prop)->Shared->Prop}(hc:∀i j C,i<n->j<n->C (O.blt (key i) (key j)) s->cmp i j C s){G:α->Shared->Prop}{Q:α->Prop}(hq:∀a,Q a->G a s){t:KasT α}:Ok O key n Q t->t.kasWp cmp G s:=by
 induction t with
 | ret a=>exact hq a
 | ask i j k J=>exact λh=>hc i j _ h.1 h.2.1 (J _ h.2.2)
def Pm(n:Nat)(p:Array Nat):Prop:=p.toList.Perm (List.range n)
theorem Pm.size(h:Pm n p):p.size=n:=by
 have:=h.length_eq
 simpa using this
theorem Pm.lt(h:Pm n p)(hi:i<n):p.getD i 0<n:=by
 have G:i<p.size:=by rw [h.size];exact hi
 have e:p.getD i 0=p[i]:=by simp [Array.getD,G]
 rw [e];have:p[i]∈p.toList:=by simp
 exact cN.mp (h.mem_iff.mp this)
theorem Pm.of{q:Array Nat}(h:Pm n p)(e:q.Perm p):Pm n q:=(Array.perm_iff_toList_perm.mp e).trans h
variable(key) in
def kk(p:Array Nat)(i:Nat):O.α:=key (p.getD i 0)
theorem Yl{q:Array Nat}(h:p[i]?=q[j]?):kk key p i=kk key q j:=by
 unfold kk;rw [Array.getD_eq_getD_getElem?,Array.getD_eq_getD_getElem?,h]
variable(key) in
def Up(p:Array Nat)(k:Nat):Prop:=∀i j,i<=j->j<k->O.kle (kk key p i) (kk key p j)
variable(key) in
def Mb(p:Array Nat)(k:Nat):Prop:=∀i j,i<=j->j<k->O.kle (kk key p j) (kk key p i)
theorem V9(hj:j<=p.size)(k:Nat):kk key (kas_rev p i j) k=if i<=k/\k<j then kk key p (i+j-1-k)else kk key p k:=by
 have e:=getElem?_mirror_all (xs:=p) (i:=i) hj k;unfold kas_rev
 by_cases h:i<=k/\k<j
 .rw [aH h]at e ⊢;exact Yl e
 .rw [aG h]at e ⊢;exact Yl e
theorem J1{p:Array Nat}{i j:Nat}(hj:j<=p.size)(heq:∀k,i<=k->k<j->kk key p k=kk key p (j-1))(k:Nat):kk key (kas_rev p i j) k=kk key p k:=by
 rw [V9 hj]
 by_cases h:i<=k/\k<j
 .rw [aH h,heq _ (5:) (5:),heq k h.1 h.2]
 .rw [aG h]
theorem Pm.rev(h:Pm n p)(i j:Nat):Pm n (kas_rev p i j):=h.of (mirror_perm _ _ _ _)
theorem Rz{m:Nat}(h1:1<=m)(hs:Up key p m)(h:O.kle (kk key p (m-1)) (kk key p m)):Up key p (m+1):=λi j G L=>by
 by_cases J:j<m
 .exact hs i j G J
 .have:j=m:=by lia
  subst this
  by_cases hi:i=j
  .subst hi;exact fK _
  .exact KeyOrd.kle_trans (hs i (j-1) (5:) (5:)) h
theorem YK{m:Nat}(h1:1<=m)(hs:Mb key p m)(h:O.kle (kk key p m) (kk key p (m-1))):Mb key p (m+1):=λi j G L=>by
 by_cases J:j<m
 .exact hs i j G J
 .have:j=m:=by lia
  subst this
  by_cases hi:i=j
  .subst hi;exact fK _
  .exact KeyOrd.kle_trans h (hs i (j-1) (5:) (5:))
theorem VU(hP:Pm n p){Q:Nat->Prop}:∀(f m:Nat),1<=m->m+f<=n->Up key p m->(∀m',m<=m'->m'<=m+f->Up key p m'->(m'=m+f\/O.klt (kk key p m') (kk key p (m'-1)))->Q m')->Ok O key n Q (kas_asc p f m)
 | 0,m,_,_,G,h=>h m (4:) (4:) G (.inl rfl)
 | f+1,m,h1,L,G,h=>by
  refine⟨hP.lt (5:),hP.lt (5:),?_⟩;show Ok O key n Q (if O.blt (kk key p m) (kk key p (m-1))=true then .ret m else kas_asc p f (m+1));cases J:O.blt (kk key p m) (kk key p (m-1))with
  | true=>
   rw [aH rfl];exact h m (4:) (5:) G (.inr J)
  | false=>
   rw [aG aS];exact VU hP f (m+1) (5:) (5:) (Rz h1 G J) λm' a b c d=>h m' (5:) (5:) c (by rcases d with d | d;exact .inl (5:);exact .inr d)
variable(key) in
def Tz(p:Array Nat)(m q:Nat):Prop:=q+1<=m/\∀i,m-(q+1)<=i->i<m->kk key p i=kk key p (m-1)
theorem Jh{Q:Array Nat×Nat×Nat->Prop}:∀(f:Nat)(p:Array Nat)(m q:Nat),Pm n p->1<=m->m+f<=n->Mb key p m->Tz key p m q->
 (∀p' m' q',Pm n p'->m<=m'->m'<=m+f->Mb key p' m'->Tz key p' m' q'->Q (p',m',q'))->Ok O key n Q (kas_desc f p m q)
 | 0,p,m,q,G,_,_,L,J,h=>h p m q G (4:) (4:) L J
 | f+1,p,m,q,G,h1,hn,L,J,h=>by
  have aa:=G.size;refine⟨G.lt (5:),G.lt (5:),?_⟩;show Ok O key n Q (if O.blt (kk key p m) (kk key p (m-1))=true then(if q>0 then kas_desc f (kas_rev p (m-(q+1)) m) (m+1) 0 else kas_desc f p (m+1) 0)
   else .ask (p.getD (m-1) 0) (p.getD m 0) λd=>if d=true then .ret (p,m,q)else kas_desc f p (m+1) (q+1))
  have one:∀p':Array Nat,Tz key p' (m+1) 0:=λp'=>⟨by lia,λi a b=>by congr 1;lia⟩;cases M:O.blt (kk key p m) (kk key p (m-1))with
  | true=>
   rw [aH rfl];have U:=YK h1 L (KeyOrd.kle_of_klt M)
   by_cases Y:q>0
   .rw [aH Y];have e:=J1 (key:=key) (p:=p) (i:=m-(q+1)) (j:=m) (5:) J.2;refine Jh f _ (m+1) 0 (G.rev _ _) (5:) (5:) (λi j a b=>by rw [e,e];exact U i j a b) (one _) λp' m' q' a b c d g=>h p' m' q' a (5:) (5:) d g
   .rw [aG Y];exact Jh f p (m+1) 0 G (5:) (5:) U (one _) λp' m' q' a b c d g=>h p' m' q' a (5:) (5:) d g
  | false=>
   rw [aG aS];refine⟨G.lt (5:),G.lt (5:),?_⟩;show Ok O key n Q (if O.blt (kk key p (m-1)) (kk key p m)=true then .ret (p,m,q)else kas_desc f p (m+1) (q+1));cases Z:O.blt (kk key p (m-1)) (kk key p m)with
   | true=>
    rw [aH rfl];exact h p m q G (4:) (5:) L J
   | false=>
    rw [aG aS];have he:kk key p m=kk key p (m-1):=KeyOrd.kle_antisymm Z M;refine Jh f p (m+1) (q+1) G (5:) (5:) (YK h1 L Z) ⟨by have:=J.1;lia,λi a b=>?_⟩ λp' m' q' a b c d g=>h p' m' q' a (5:) (5:) d g;rw [Nat.add_sub_cancel]
    by_cases hi:i=m
    .rw [hi]
    .rw [he];exact J.2 i (5:) (5:)
theorem Lk{m:Nat}(hP:Pm n p)(h1:1<=m)(hm:m<=n)(hs:Mb key p m){Q:Nat×Array Nat->Prop}(h:∀m' p',Pm n p'->1<=m'->m'<=n->Up key p' m'->Q (m',p')):Ok O key n Q (kas_tail3 m n p):=by
 have G:=hP.size;refine Ok.bind (VU (hP.rev 0 m) (n-m) m h1 (5:) (λi j J L=>?_) λm' a b c _=>h m' _ (hP.rev 0 m) (5:) (5:) c);rw [V9 (5:),V9 (5:),aH (5:),aH (5:)];exact hs _ _ (5:) (5:)
theorem U5{m:Nat}(hP:Pm n p)(h1:1<=m)(hm:m+1<=n)(hs:Mb key p (m+1)){Q:Nat×Array Nat->Prop}(h:∀m' p',Pm n p'->1<=m'->m'<=n->Up key p' m'->Q (m',p')):Ok O key n Q (kas_descPart m n p):=by
 refine Ok.bind (Jh (n-(m+1)) p (m+1) 0 hP (5:) (5:) hs ⟨by lia,λi a b=>by congr 1;lia⟩ λp' m' G a b c d g=>?_);have L:=a.size;show Ok O key n Q (if G>0 then kas_tail3 m' n (kas_rev p' (m'-(G+1)) m')else kas_tail3 m' n p')
 by_cases J:G>0
 .rw [aH J];have e:=J1 (key:=key) (p:=p') (i:=m'-(G+1)) (j:=m') (5:) g.2;exact Lk (a.rev _ _) (5:) (5:) (λi j x y=>by rw [e,e];exact d i j x y) h
 .rw [aG J];exact Lk a (5:) (5:) d h
theorem OG(hP:Pm n p)(h1:1<=n){Q:Nat×Array Nat->Prop}(h:∀m' p',Pm n p'->1<=m'->m'<=n->Up key p' m'->Q (m',p')):Ok O key n Q (kas_count n p):=by
 have Z:=hP.size;refine Ok.bind (VU hP (n-1) 1 (4:) (5:) (λi j a b=>?_) λm a b c d=>?_)
 .have:i=j:=by lia
  subst this;exact fK _
 .show Ok O key n Q (if(m==n)=true then .ret (m,p)else if m>1 then .ask (p.getD 0 0) (p.getD (m-1) 0) λc=>if c=true then .ret (m,p)else kas_descPart m n (kas_rev p 0 m)else kas_descPart m n p)
  by_cases L:m=n
  .rw [aH (by simpa using L)];exact h m p hP a (5:) c
  .rw [aG (by simpa using L)];have J:O.klt (kk key p m) (kk key p (m-1)):=by
    rcases d with d | d
    .exact absurd (5:) L
    .exact d
   by_cases M:m>1
   .rw [aH M];refine⟨hP.lt (5:),hP.lt (5:),?_⟩;show Ok O key n Q (if O.blt (kk key p 0) (kk key p (m-1))=true then .ret (m,p)else kas_descPart m n (kas_rev p 0 m));cases U:O.blt (kk key p 0) (kk key p (m-1))with
    | true=>
     rw [aH rfl];exact h m p hP a (5:) c
    | false=>
     rw [aG aS];have G:∀k,0<=k->k<m->kk key p k=kk key p (m-1):=λk _ Y=>
      KeyOrd.kle_antisymm (c k (m-1) (5:) (5:)) (KeyOrd.kle_trans U (c 0 k (5:) Y))
     have e:=J1 (key:=key) (p:=p) (i:=0) (j:=m) (5:) G;refine U5 (hP.rev _ _) (5:) (5:) (YK (5:) (λi j x y=>?_) ?_) h
     .rw [e,e,G i (5:) (5:),G j (5:) y];exact fK _
     .rw [e,e];exact KeyOrd.kle_of_klt J
   .rw [aG M];have:m=1:=by lia
    subst this;refine U5 hP (4:) (5:) (YK (4:) (λi j x y=>?_) (KeyOrd.kle_of_klt J)) h;have:i=j:=by lia
    subst this;exact fK _
theorem JB{k:Nat}(hP:Pm n p)(hk:k<n)(hs:Up key p k){Q:Nat->Prop}
 (h:∀l,l<=k->(∀i,i<l->O.kle (kk key p i) (kk key p k))->(∀i,l<=i->i<k->O.klt (kk key p k) (kk key p i))->Q l):∀(f l r:Nat),l<=r->r<=k->r-l<=f->
  (∀i,i<l->O.kle (kk key p i) (kk key p k))->(∀i,r<=i->i<k->O.klt (kk key p k) (kk key p i))->Ok O key n Q (kas_place p k f l r)
 | 0,l,r,a,b,c,d,e=>by
  have:l=r:=by lia
  subst this;exact h l b d e
 | f+1,l,r,a,b,c,d,e=>by
  show Ok O key n Q (if l>=r then .ret l else .ask (p.getD k 0) (p.getD ((l+r)/2) 0) λc=>if c=true then kas_place p k f l ((l+r)/2)else kas_place p k f ((l+r)/2+1) r)
  by_cases G:l>=r
  .rw [aH G];have:l=r:=by lia
   subst this;exact h l b d e
  .rw [aG G];refine⟨hP.lt hk,hP.lt (5:),?_⟩;show Ok O key n Q (if O.blt (kk key p k) (kk key p ((l+r)/2))=true then kas_place p k f l ((l+r)/2)else kas_place p k f ((l+r)/2+1) r);cases J:O.blt (kk key p k) (kk key p ((l+r)/2))with
   | true=>
    rw [aH rfl];exact JB hP hk hs h f l ((l+r)/2) (5:) (5:) (5:) d λi x y=>KeyOrd.klt_of_klt_of_kle J (hs _ _ x y)
   | false=>
    rw [aG aS];exact JB hP hk hs h f ((l+r)/2+1) r (5:) b (5:) (λi x=>KeyOrd.kle_trans (hs i ((l+r)/2) (5:) (5:)) J) e
theorem XF{k d:Nat}(hs:k<p.size)(hd:d<=k)(i:Nat):kk key (bubble p k d) i=if i=k-d then kk key p k else if k-d<i/\i<=k then kk key p (i-1)else kk key p i:=by
 have e:=getElem?_bubble hs d hd i
 by_cases h1:i=k-d
 .rw [aH h1]at e ⊢;exact Yl e
 .rw [aG h1]at e ⊢
  by_cases h2:k-d<i/\i<=k
  .rw [aH h2]at e ⊢;exact Yl e
  .rw [aG h2]at e ⊢;exact Yl e
theorem NJ{Q:Array Nat->Prop}:∀(f:Nat)(p:Array Nat)(k:Nat),Pm n p->1<=k->k+f=n->Up key p k->(∀p',Pm n p'->Up key p' n->Q p')->Ok O key n Q (kas_bin f p k)
 | 0,p,k,G,_,L,J,h=>h p G (by rw [<-L];exact J)
 | f+1,p,k,G,h1,L,J,h=>by
  have U:=G.size;have M:k<n:=by lia
  refine Ok.bind (JB G M J (λl a b c=>?_) k 0 k (bN _) (4:) (5:) (λi x=>by lia) λi x y=>by lia);refine NJ f _ (k+1) (G.of (bubble_perm _ _ _)) (5:) (5:) (λi j Y Z=>?_) h;rw [XF (5:) (5:),XF (5:) (5:),show k-(k-l)=l by lia]
  repeat' split
  all_goals first
   | (exfalso;lia)
   | exact fK _
   | exact b _ (5:)
   | exact KeyOrd.kle_of_klt (c _ (5:) (5:))
   | exact J _ _ (5:) (5:)
theorem sort_ok(h1:1<=n){Q:Array Nat->Prop}(h:∀p,Pm n p->Up key p n->Q p):Ok O key n Q (kas_sort n):=by
 have J:Pm n (List.toArray (List.range n)):=List.Perm.refl _;refine Ok.bind (OG J h1 λm p a b c d=>?_);show Ok O key n Q (if m<n then kas_bin (n-max m 1) p (max m 1)else .ret p);have L:max m 1=m:=by lia
 by_cases G:m<n
 .rw [aH G,L];exact NJ (n-m) p m a b (5:) d h
 .rw [aG G];have:m=n:=by lia
  subst this;exact h p a d
end Srt
namespace L2
open PySem PySem.Spec PyProof.Rows PySem.W
theorem Js:∀a:List Int,HT.lexLt a a=false
 | []=>rfl
 | x::r=>by rw [HT.lexLt_cons,aH rfl];exact Js r
theorem XM:∀a b c:List Int,HT.lexLt a b=true->HT.lexLt b c=true->HT.lexLt a c=true
 | [],[],c,h,_=>by cases h
 | [],_::_,[],_,h=>by cases h
 | [],_::_,_::_,_,_=>rfl
 | _::_,[],_,h,_=>by cases h
 | _::_,_::_,[],_,h=>by cases h
 | x::a,y::b,z::c,h1,h2=>by
  rw [HT.lexLt_cons]at h1 h2 ⊢
  by_cases J:x=y
  .subst J;rw [aH rfl]at h1
   by_cases G:x=z
   .subst G;rw [aH rfl]at h2 ⊢;exact XM a b c h1 h2
   .rw [aG G]at h2 ⊢;exact h2
  .rw [aG J]at h1;have L:x<y:=bJ h1
   by_cases G:y=z
   .subst G;rw [aG J];exact h1
   .rw [aG G]at h2;have M:y<z:=bJ h2;rw [aG (5:)];exact bO (5:)
theorem G9:∀a b c:List Int,HT.lexLt a c=true->HT.lexLt a b=true\/HT.lexLt b c=true
 | _,[],[],h=>by
  rename_i a;cases a<;>cases h
 | [],[],_::_,_=>.inr rfl
 | _::_,[],_::_,_=>.inr rfl
 | [],_::_,_,_=>.inl rfl
 | _::_,_::_,[],h=>by cases h
 | x::a,y::b,z::c,h=>by
  rw [HT.lexLt_cons]at h ⊢;rw [HT.lexLt_cons]
  by_cases J:x=y
  .subst J;rw [aH rfl]
   by_cases G:x=z
   .subst G;rw [aH rfl]at h ⊢;exact G9 a b c h
   .rw [aG G]at h ⊢;exact .inr h
  .rw [aG J]
   by_cases L:x<y
   .exact .inl (bO L)
   .right
    by_cases G:x=z
    .subst G;rw [aG (5:)];exact bO (5:)
    .rw [aG G]at h;have M:x<z:=bJ h;rw [aG (5:)];exact bO (5:)
theorem Xx:∀a b:List Int,HT.lexLt a b=false->HT.lexLt b a=false->a=b
 | [],[],_,_=>rfl
 | [],_::_,h,_=>by cases h
 | _::_,[],_,h=>by cases h
 | x::a,y::b,h1,h2=>by
  rw [HT.lexLt_cons]at h1 h2
  by_cases e:x=y
  .subst e;rw [aH rfl]at h1 h2;rw [Xx a b h1 h2]
  .rw [aG e]at h1;rw [aG (aW e)]at h2;have:=of_decide_eq_false h1;have:=of_decide_eq_false h2;lia
@[reducible] def lexOrd:KeyOrd:=⟨List Int,HT.lexLt,Js,XM,G9,Xx⟩
def DJ(h:Heap)(a:Addr)(p:List Int):Prop:=∃its:List Value,h.IsTuple a its.toArray/\IntsAre its p
section
variable{E:Value->Shared->Prop}
end
section
variable{E:Value->Shared->Prop}
theorem WM{vs:List Value}{P:PySem.Fin->Shared->Prop}(O:KeyOrd)(key:Nat->O.α)(κ:SortKind)(ho:s.heap.get? a=some (seqObj "list" vs.toArray n))(h64:vs.length<64)
 (hk:∀(s':Shared)(Q:SortKind->Shared->Prop),(∀b o,b≠a->s.heap.get? b=some o->s'.heap.get? b=some o)->2<=vs.length->Q κ s'->wpAny (9:) A (keyKind' vs.toArray) Q E s')
 (hc:∀(s':Shared)(i j:Nat)(C:Bool->Shared->Prop),(∀b o,b≠a->s.heap.get? b=some o->s'.heap.get? b=some o)->i<vs.length->j<vs.length->C (O.blt (key i) (key j)) s'->wpAny (9:) A (keyLt' κ (vs.getD i Value.none) (vs.getD j Value.none)) C (λ_ _=>False) s')
 (h:∀p:Array Nat,Srt.Pm vs.length p->Srt.Up (O:=O) key p vs.length->P (.done (.ret .none)) { s with heap:=sortedHeap s.heap a vs (p.toList.map λi=>vs.getD i Value.none).toArray }):
 wpAny (9:) A (Builtin.«list.sort» ⟨[.ref a],[]⟩) P E s:=by
 have ab:a<s.heap.objs.size:=aP ho;rw [list_sort_plain];refine aB (listItems_at ho rfl ?_);refine aB (listUpdate_at ho rfl ?_ (by rw [a_,cO];lia) (bN _));obtain⟨U,M⟩: ∃U,(s.heap.update a (Obj.mapSeq λ_=>(#[]:Array Value))).get? a=some (seqObj "list" #[] U):=⟨_,get?_update_seq ho λ_=>#[]⟩;refine aB (seqEpoch_at M rfl (aB (wpAny_newTuple ?_ (by show vs.length<=_;rw [cO];lia))));refine aB (wpAny_newList (cF ?_) (bN _));have keep:∀b o,b≠a->s.heap.get? b=some o->((12:).push (seqObj "list" #[] 0)).get? b=some o:=λb o hb e=>
  aN _ (aN _ ((Heap.get?_update_ne _ _ _ _ hb).trans e))
 have J:((12:).push (seqObj "list" #[] 0)).get? a=some (seqObj "list" #[] U):=aN _ (aN _ M);show wpAny (9:) A _ P E { s with heap:=(12:).push (seqObj "list" #[] 0) };dsimp only;have hz:vs.toArray.size=vs.length:=a_
 by_cases h2:vs.toArray.size<2
 .rw [aH h2,aH h2];refine aB (aF ?_);rw [StateT.run_pure];refine aB (aF ?_);dsimp only;refine aB (seqEpoch_at J rfl ?_);have e2:(arrOf (SortSt.mk' general' (vs.toArray.zip vs.toArray) #[] 7 none)).map (·.2)=vs.toArray:=by
   show(vs.toArray.zip vs.toArray).map (·.2)=vs.toArray;apply Array.toList_inj.mp;rw [Array.toList_map,Array.toList_zip];exact List.map_snd_zip (4:)
  rw [e2];refine aB (listUpdate_at J rfl ?_ (hsz2:=by show vs.toArray.size<=_;rw [cO];lia));simp only [bne_self_eq_false,cE,bU];have:=h (List.range vs.length).toArray (List.Perm.refl _) (λi j ac Y=>by
   have:i=j:=by lia
   subst this;exact O.irrefl _)
  have e3:((List.range vs.length).toArray.toList.map λi=>vs.getD i Value.none)=vs:=by
   apply List.ext_getElem (17:);intro i a b;simp at a;simp [a]
  rw [e3]at this;exact aF this
 .rw [aG h2,aG h2];refine aB ?_;refine hk { s with heap:=(12:).push (seqObj "list" #[] 0) } _ keep (5:) ?_;refine aB (dD (kat_run (Q:=λL s'=>∃p:Array Nat,Srt.Pm vs.length p/\Srt.Up (O:=O) key p vs.length/\(arrOf L).map (·.2)=(p.toList.map λi=>vs.getD i Value.none).toArray/\failedOf L=none/\
   s'={ s with heap:=(12:).push (seqObj "list" #[] 0) })
   (G:=λp s'=>Srt.Pm vs.length p/\Srt.Up (O:=O) key p vs.length/\s'={ s with heap:=(12:).push (seqObj "list" #[] 0) })
   (vs:=vs) (ks:=vs) rfl (5:) (5:) (λp L s' ad Z aa hg=>?_) ?_) (λr s' hq=>?_) λ_ _ e=>e)
  .obtain⟨hP,hU,es⟩:=hg;exact⟨p,hP,hU,kat_snds rfl Z,aa,es⟩
  .refine Srt.Ok.wp (O:=O) (key:=key) (n:=vs.length) (λi j C hi Y hC=>?_) (Q:=λp=>Srt.Pm vs.length p/\Srt.Up (O:=O) key p vs.length) (λp hp=>⟨hp.1,hp.2,rfl⟩) (Srt.sort_ok (5:) λp a b=>⟨a,b⟩);exact hc { s with heap:=(12:).push (seqObj "list" #[] 0) } i j C keep hi Y hC
  .obtain⟨p,o1,o2,o3,o4,rfl⟩:=hq;obtain⟨⟨⟩,L⟩:=r;dsimp only at o3 o4 ⊢;refine aB (seqEpoch_at J rfl ?_);rw [o3];refine aB (listUpdate_at J rfl ?_ (hsz2:=by show(p.toList.map λi=>vs.getD i Value.none).toArray.size<=_;rw [a_,aE,o1.length_eq,eI,cO];lia));rw [o4];simp only [bne_self_eq_false,cE,bU];exact aF (h p o1 o2)
theorem Gn{vs:List Value}(O:KeyOrd)(key:Nat->O.α)(κ:SortKind)(hl:s.heap.IsList l vs.toArray)(h64:vs.length<64)
 (hk:∀(s':Shared)(E':Value->Shared->Prop)(Q:SortKind->Shared->Prop),(∀b o,s.heap.get? b=some o->s'.heap.get? b=some o)->2<=vs.length->Q κ s'->wpAny (9:) A.in1.in1 (keyKind' vs.toArray) Q E' s')
 (hc:∀(s':Shared)(i j:Nat)(C:Bool->Shared->Prop),(∀b o,s.heap.get? b=some o->s'.heap.get? b=some o)->i<vs.length->j<vs.length->C (O.blt (key i) (key j)) s'->wpAny (9:) A.in1.in1 (keyLt' κ (vs.getD i Value.none) (vs.getD j Value.none)) C (λ_ _=>False) s')
 (h:∀p:Array Nat,Srt.Pm vs.length p->Srt.Up (O:=O) key p vs.length->Q (.ref (s.heap.objs.size+1)) { s with heap:=sortedAll s.heap vs (p.toList.map λi=>vs.getD i Value.none).toArray }):
 wpAny (9:) A (call (.builtin "sorted") [.ref l]) Q E s:=by
 refine Calls.call_function_entry kind_sorted plain_sorted entry_sorted (args_sorted1 _) ?_;unfold Builtin.«sorted»;refine aB (m:=checkCount "sorted" 1 1 _) (aF ?_);refine aB (collect_list hl ?_ (by rw [cO];lia));refine aB (wpAny_newList ?_ (by rw [cO];lia));have J:((s.heap.push (seqObj "list" #[] 0)).update s.heap.objs.size (Obj.mapSeq (· ++vs.toArray))).objs.size=s.heap.objs.size+1:=by rw [Heap.size_update,size_push']
 have L:(((s.heap.push (seqObj "list" #[] 0)).update s.heap.objs.size (Obj.mapSeq (· ++vs.toArray))).push (seqObj "list" vs.toArray 0)).get? (s.heap.objs.size+1)=some (seqObj "list" vs.toArray 0):=by
  rw [<-J];exact bE _ rfl
 have keep:∀b o,s.heap.get? b=some o->(((s.heap.push (seqObj "list" #[] 0)).update s.heap.objs.size (Obj.mapSeq (· ++vs.toArray))).push (seqObj "list" vs.toArray 0)).get? b=some o:=λb o e=>by
  have G:b<s.heap.objs.size:=aP e;exact aN _ ((Heap.get?_update_ne _ _ _ _ (bD G)).trans (aN _ e))
 show wpAny _ _ _ _ _ { s with heap:=((s.heap.push (seqObj "list" #[] 0)).update s.heap.objs.size (Obj.mapSeq (· ++vs.toArray))).push (seqObj "list" vs.toArray 0) };rw [J];refine aB (cF (dA slot_list_sort ⟨_,L,rfl⟩ entry_list_sort ?_ (args_list_sort _)));have M:∀(s':Shared),(∀b o,b≠s.heap.objs.size+1->(((s.heap.push (seqObj "list" #[] 0)).update s.heap.objs.size (Obj.mapSeq (· ++vs.toArray))).push (seqObj "list" vs.toArray 0)).get? b=some o->s'.heap.get? b=some o)->∀b o,s.heap.get? b=some o->s'.heap.get? b=some o:=λs' h b o e=>by
  have G:b<s.heap.objs.size:=aP e;exact h b o (λz=>by rw [z]at G;exact absurd G (eR.mpr (Nat.le_succ _))) (keep b o e)
 refine WM (A:=A.in1.in1) O key κ L h64 (λs' Y U h2 Z=>hk s' _ Y (M s' U) h2 Z) (λs' i j C U hi hj hC=>hc s' i j C (M s' U) hi hj hC) λp o1 o2=>⟨_,rfl,aF ⟨_,rfl,h p o1 o2⟩⟩
theorem RK{x y:Addr}{fx sx fy sy:Value}{b:Bool}{C:Bool->Shared->Prop}(hx:s.heap.IsTuple x [fx,sx].toArray)(hy:s.heap.IsTuple y [fy,sy].toArray)
 (hne:x≠y->SeqAt.EqAt A s fx fy false/\wpAny (9:) A (oneLt' b fx fy) C (λ_ _=>False) s) (heq:x=y->SeqAt.EqAt A s fx fx true/\SeqAt.EqAt A s sx sx true/\C false s):
 wpAny (9:) A (keyLt' (tuples' b) (.ref x) (.ref y)) C E s:=by
 obtain⟨ox,M,cx,nx,dx⟩:=hx;obtain⟨oy,U,cy,ny,G⟩:=hy;refine kat_lt M dx U G ?_
 by_cases h:x=y
 .subst h;obtain rfl:=aI (M.symm.trans U);rw [dx]at G;injection G with Y e2;have Z:[fx,sx]=[fy,sy]:=by simpa using congrArg Array.toList Y
  injection Z with e4 e5;injection e5 with e6 e7;subst e4 e6;obtain⟨J,L,q3⟩:=heq rfl;show KatLex prog w A b _ C [(fx,fx),(sx,sx)] 0 s;refine kat_cons (J _ _ _ _ (kat_yes (kat_cons (L _ _ _ _ (kat_yes (kat_nil ?_))))));exact q3
 .obtain⟨J,L⟩:=hne h;show KatLex prog w A b _ C [(fx,fy),(sx,sy)] 0 s;refine kat_cons (J _ _ _ _ (kat_no ?_));have:(b&&(0:Nat)==0)=b:=by simp
  rw [this];exact L
end
theorem LL{α:Type}{O:KeyOrd}{ts:List α}{d:α}{key:α->O.α}{p:Array Nat}(hP:Srt.Pm ts.length p)(hU:Srt.Up (O:=O) (λi=>key (ts.getD i d)) p ts.length):
 (p.toList.map λi=>ts.getD i d).Perm ts/\(p.toList.map λi=>ts.getD i d).Pairwise λx y=>O.blt (key y) (key x)=false:=by
 constructor
 .have h1:=List.Perm.map (λi=>ts.getD i d) hP;have e:(List.range ts.length).map (λi=>ts.getD i d)=ts:=by
   apply List.ext_getElem (17:);intro i a b;simp at a;simp [a]
  rwa [e]at h1
 .rw [List.pairwise_iff_getElem];intro i j hi G J;have U:=hP.size;simp only [aE,eV]at hi G;have:=hU i j (cX J) (5:);unfold KeyOrd.kle Srt.kk at this;have L:p.getD i 0=p[i]:=by simp [Array.getD,hi]
  have M:p.getD j 0=p[j]:=by simp [Array.getD,G]
  rw [L,M]at this
  simpa using this
theorem IsTuple.keeps{xs:Array Value}(k:∀b o,h.get? b=some o->h'.get? b=some o)(x:h.IsTuple a xs):h'.IsTuple a xs:=by
 obtain⟨o,e,r⟩:=x;exact⟨o,k _ _ e,r⟩
section
variable{E:Value->Shared->Prop}
end
theorem UQ{α:Type}{f:α->Addr}:∀{ts:List α}{us:List Value},Vals (ts.map λt=>V.ref (f t)) us->us=ts.map λt=>Value.ref (f t)
 | [],_,.nil=>rfl
 | t::ts,_,.cons r rr=>by
  have e:_=Value.ref (f t):=r;rw [aR,<-UQ rr,<-e]
theorem Uz{α:Type}{f:α->Addr}:∀ts:List α,Vals (ts.map λt=>V.ref (f t)) (ts.map λt=>Value.ref (f t))
 | []=>.nil
 | t::ts=>.cons rfl (Uz ts)
end L2
namespace L2
open PySem PySem.Spec PyProof.Rows
theorem Zk:plainId "dict.update.loop"=true:=by decide+kernel
theorem Yv:entryFor table "dict.update.loop"=some Builtin.«dict.update.loop»:=entryFor_of_tree (by kernel_rfl)
theorem JJ:typeLookup (.type "list") "keys"=pure none:=by rw [typeLookup_type,builtinLookup_eq_fast];kernel_rfl
section
variable{E:Value->Shared->Prop}
theorem M3{xs:Array Value}{k:Nat}{sl:Array (Option Value)}{Q:Option Value->Shared->Prop}(hx:s.heap.get? a=some { cls:=.type "list",dict:=none,data:=.seq xs k,slots:=sl })(hA:A.handled=none)
 (h:∀h' tk,(∀b o,s.heap.get? b=some o->h'.get? b=some o)->Q none { s with heap:=h',toks:=tk }):wpAny (9:) A (getAttr? (.ref a) "keys") Q E s:=by
 obtain⟨hp,g,d,tk,M⟩:=s;have L:∀G,(⟨hp,g,d,G,M⟩:Shared).TypeIs (.ref a) "list":=λ_=>⟨_,hx,rfl⟩;have f1:=sub_AttributeError;have f3:=F.slot_list_getattribute.lookup;have f4:=F.slot_list_getattribute.bind (.ref a);have f5:=am_list_getattr_none;unfold getAttr? getAttrBy? getAttrBy
 repeat (any_goals (first | assumption | exact L _ | ((with_reducible show wpAny _ _ (call (Value.builtin "list.__getattribute__") _ _) _ _ _);refine call_meets F.slot_list_getattribute (L _) am_entry_list_getattribute (F.args_list_getattribute_2 _ _) (meets_getattribute_miss_list a xs k sl "keys" _ JJ (1:)) ⟨hx,hA,λh' G e J=>?_⟩) | wp_step))
 obtain⟨U,Y,Z⟩:=J.there;show wpAny _ _ (getattributeRaised _ _ _ _ _ _ _) _ _ _;unfold getattributeRaised
 repeat (any_goals (first | assumption | wp_step))
 exact h _ _ J.keeps
theorem Jv{o u:Obj}(ha:h.get? a=some o)(hb:h.get? b=some u)(hc:o.cls≠u.cls):a≠b:=λe=>by
 subst e;rw [ha]at hb;exact hc (congrArg Obj.cls (aI hb))
def ZV(kvs:List (Key×Value)):List (Key×Value)->List (Key×Value)
 | []=>kvs
 | p::r=>ZV (stored kvs p.1 p.2) r
theorem Vc{R:Result->Shared->Prop}{l d it:Addr}{items:Array Value}(hA:A.handled=none)(hli:l≠it)(hd0:(d==sysModules)=false):∀(ps:List (Key×Value))(i:Nat)(s:Shared)(kvs:List (Key×Value)),i+ps.length=items.size->s.heap.IsListIter it l i->s.heap.IsList l items->s.heap.DictOf (Qw prog w) d kvs->kvs.length+ps.length<=sizeLine->
 (∀(j:Nat)(q:Key×Value),ps[j]?=some q->∃p u,items[i+j]?=some (.ref p)/\(Qw prog w).is q.1 u=true/\s.heap.IsTuple p #[u,q.2])->
 (∀h' tk,h'.DictOf (Qw prog w) d (ZV kvs ps)->(∀b o,b≠it->b≠d->s.heap.get? b=some o->h'.get? b=some o)->R (.ok (.ret .none)) { s with heap:=h',toks:=tk })->
 codeAny (9:) A (.builtin "dict.update.loop" ⟨[.ref d,.ref it,rawInt (i:Int),.none],[]⟩) R s
 | [],i,s,kvs,hk,U,hL,Y,hz,hp,hR=>by
  have W:=Walks.list (prog:=prog) (w:=w) (A:=A.in1) hA it l hli items;have an:i=items.size:=by simpa using hk
  subst an;refine codeAny_builtin Yv ?_;rw [gP Zk _];show wpAny _ A.in1 (pyNext (.ref it)>>=_) _ _ s;refine aB (W.done s _ _ ⟨U,hL⟩ λh' tk Z=>?_);show wpAny _ A.in1 (Builtin.Dict.addKeywords d []>>=_) _ _ _;refine aB (aF (aF ?_));have aa:d≠it:=by
   obtain⟨o,es,ep,G,M,_⟩:=Y;obtain⟨o2,J,L,_⟩:=U;exact Jv G J (by rw [M.1,L];intro z;injection z with z;exact absurd z (11:))
  exact hR h' tk (Y.extBut (b:=it) (λa o ac e=>Z a o (by simpa using ac) e) aa) (λb o h1 _ e=>Z b o (by simpa using h1) e)
 | q::ps,i,s,kvs,hk,U,hL,Y,hz,hp,hR=>by
  have W:=Walks.list (prog:=prog) (w:=w) (A:=A.in1) hA it l hli items;obtain⟨p,u,ah,ao,ai⟩:=hp 0 q rfl;rw [Nat.add_zero]at ah;have ap:i<items.size:=by rw [bK]at hk;lia
  have aa:d≠it:=by
   obtain⟨o,es,ep,G,M,_⟩:=Y;obtain⟨o2,J,L,_⟩:=U;exact Jv G J (by rw [M.1,L];intro z;injection z with z;exact absurd z (11:))
  have aq:d≠l:=by
   obtain⟨o,es,ep,G,M,_⟩:=Y;obtain⟨o2,J,L,_⟩:=hL;exact Jv G J (by rw [M.1,L];intro z;injection z with z;exact absurd z (11:))
  have ad:∀{p:Addr}{xs:Array Value},s.heap.IsTuple p xs->p≠it/\p≠d:=λ{p xs} ht=>by
   obtain⟨o,G,M,_⟩:=ht;obtain⟨o2,J,L,_⟩:=id U;obtain⟨o3,es,ep,ar,as,_⟩:=id Y;exact⟨Jv G J (by rw [M,L];intro z;injection z with z;exact absurd z (11:)),Jv G ar (by rw [M,as.1];intro z;injection z with z;exact absurd z (11:))⟩
  refine codeAny_builtin Yv ?_;rw [gP Zk _];show wpAny _ A.in1 (pyNext (.ref it)>>=_) _ _ s;refine aB (W.item i s _ _ ap ⟨U,hL⟩ λv h' tk hP ae Z=>?_);obtain rfl:v=.ref p:=aI ((show items[i]?=some v from hP).symm.trans ah);have af:∀b o,b≠it->s.heap.get? b=some o->h'.get? b=some o:=λb o hb e=>Z b o (by simpa using hb) e;have aj:h'.IsTuple p #[u,q.2]:=by
   obtain⟨o,G,r⟩:=id ai;exact⟨o,af _ _ (ad ai).1 G,r⟩
  obtain⟨o,G,M,n,ak⟩:=id aj;refine aB (cF ?_);refine aB (fM ?_);unfold Builtin.Dict.pairItems;refine aB (fj (T:="tuple") (s:={ s with heap:=h',toks:=tk }) ⟨o,G,M⟩ ?_);rw [aH (1:)];refine aB ?_;show wpAny _ A.in1 (load p>>=_) _ _ _;refine aB (wpAny_load G ?_);rw [ak];refine aF (aF ?_);have au:h'.DictOf (Qw prog w) d kvs:=Y.extBut (b:=it) (λa o ac e=>af a o ac e) aa;refine cF (wpAny_dictSet_pairs (s:={ s with heap:=h',toks:=tk }) ao au (λag al hs=>?_) (by rw [bK]at hz;lia));have am:ag.IsListIter it l (i+1):=by
   obtain⟨o,G,r⟩:=ae.1;exact⟨o,(hs.2 it (aW aa)).trans G,r⟩
  have av:ag.IsList l items:=by
   obtain⟨o,G,r⟩:=ae.2;exact⟨o,(hs.2 l (aW aq)).trans G,r⟩
  have ab:∀b o,b≠it->b≠d->s.heap.get? b=some o->ag.get? b=some o:=λb o h1 h2 e=>(hs.2 b h2).trans (af b o h1 e);have az:(stored kvs q.1 q.2).length<=kvs.length+1:=by
   unfold stored;split
   .rw [aE];lia
   .rw [bH];simp
  refine aF ⟨fQ Zk _,?_⟩;refine Vc hA hli hd0 ps (i+1) _ (stored kvs q.1 q.2) (by rw [bK]at hk;lia) am av al (by rw [bK]at hz;lia) (λj r hj=>?_) λh3 aw ax ay=>?_
  .obtain⟨p',u',e1,e2,e3⟩:=hp (j+1) r (by simpa using hj);refine⟨p',u',by rw [<-e1];congr 1;lia,e2,?_⟩;obtain⟨o,G,rr⟩:=id e3;exact⟨o,ab _ _ (ad e3).1 (ad e3).2 G,rr⟩
  .exact hR h3 aw ax λb o h1 h2 e=>ay b o h1 h2 (ab b o h1 h2 e)
theorem Gi{ps:List (Key×Value)}(hA:A.handled=none)(hb:sysModules<s.heap.objs.size){ol:Obj}{nl:Nat}(hl:s.heap.get? l=some ol)(hlc:ol.cls=.type "list")(hld:ol.dict=none)(hlt:ol.data=.seq items nl)(hz:ps.length<=sizeLine)(hn:ps.length=items.size)
 (hp:∀(j:Nat)(q:Key×Value),ps[j]?=some q->∃p u,items[j]?=some (.ref p)/\(Qw prog w).is q.1 u=true/\s.heap.IsTuple p #[u,q.2])
 (h:∀h' tk,h'.DictOf (Qw prog w) s.heap.objs.size (ZV [] ps)->(∀b o,s.heap.get? b=some o->h'.get? b=some o)->Q (.ref s.heap.objs.size) { s with heap:=h',toks:=tk }):
 wpAny (9:) A (call (.type "dict") [.ref l]) Q E s:=by
 refine callType_codes (Q₁:=λY ab=>Y=.ref s.heap.objs.size/\ab={ s with heap:=s.heap.push { cls:=.type "dict",data:=.dict #[] } }) F.kt_called_dict (F.kt_typeCall_dict_1 _) F.entry_dict_init (kt_code_dict_new _ ⟨rfl,rfl⟩) ?_;rintro Y ab ⟨rfl,rfl⟩;have G:(s.heap.push { cls:=.type "dict",data:=.dict #[] }).DictOf (Qw prog w) s.heap.objs.size []:=Heap.DictOf.new s.heap;have L:(s.heap.push { cls:=.type "dict",data:=.dict #[] }).get? l=some ol:=aN _ hl;have hT:({ s with heap:=s.heap.push { cls:=.type "dict",data:=.dict #[] } }:Shared).TypeIs (.ref l) "list":=⟨_,L,hlc⟩;obtain⟨c1,d1,t1,s1⟩:=ol;simp only at hlc hld hlt;subst hlc hld hlt;refine⟨G.typeIs,F.args_dict_init_2 _ _,?_⟩;unfold Builtin.«dict.__init__»;refine aB ?_;unfold Builtin.Dict.selfAndRest;refine aB (gK G.typeIs ?_);show wpAny _ _ (pure (s.heap.objs.size,[Value.ref l])) _ _ _;refine aF ?_;show wpAny _ _ (Builtin.Dict.updateFrom "dict.__init__" s.heap.objs.size (.ref l) [] .none) _ _ _;unfold Builtin.Dict.updateFrom;refine aB (fj hT ?_);rw [aH (11:)];refine aB (M3 L hA λh2 ac J=>?_);simp only [Option.isNone_none,cD];refine aB (eQ ?_);have Z:h2.IsList l items:=⟨_,J _ _ L,rfl,nl,rfl⟩;refine aB (wpAny_pyIter_list (s:={ s with heap:=h2,toks:=ac }) Z ?_);have aa:l<h2.objs.size:=aP (J _ _ L);have ae:s.heap.objs.size<h2.objs.size:=by
  obtain⟨o,es,ep,M,_⟩:=id G;exact aP (J _ _ M)
 have ad:h2.DictOf (Qw prog w) s.heap.objs.size []:=by
  obtain⟨o,es,ep,M,r⟩:=id G;exact⟨o,es,ep,J _ _ M,r⟩
 have U:∀b o,s.heap.get? b=some o->h2.get? b=some o:=λb o e=>J b o (aN _ e);refine aF ⟨fQ Zk _,Vc (A:=A.in1) (it:=h2.objs.size) (l:=l) (items:=items) hA (bD aa) (dZ.mpr (aW (bD hb))) ps 0 _ [] (by simpa using hn) ⟨_,bE _ rfl,rfl,rfl⟩ (Z.push _) (ad.push _) (by simpa using hz) (λj q hq=>?_) λh' tk hD hk=>⟨rfl,?_⟩⟩
 .obtain⟨p,u,e1,e2,o,M,r⟩:=hp j q hq;exact⟨p,u,by rw [fR];exact e1,e2,o,aN _ (U _ _ M),r⟩
 .refine h h' tk hD λb o e=>hk b o ?_ ?_ (aN _ (U b o e))
  .exact bD (aP (U b o e))
  .exact bD (aP e)
end
theorem VR{kvs:List (Key×Value)}{k:Key}{v:Value}(h:k∉kvs.map (·.1)):stored kvs k v=kvs++[(k,v)]:=by
 unfold stored;rw [aG];intro z;obtain⟨G,h1,h2⟩:=List.any_eq_true.mp z;exact h (aK.mpr ⟨G,h1,bJ h2⟩)
theorem Ul:∀(ps kvs:List (Key×Value)),((kvs++ps).map (·.1)).Nodup->ZV kvs ps=kvs++ps
 | [],kvs,_=>by simp [ZV]
 | p::r,kvs,h=>by
  have G:p.1∉kvs.map (·.1):=λJ=>by
   rw [aT,fH]at h;exact h.2.2 _ J _ (17:) rfl
  show ZV (stored kvs p.1 p.2) r=_;rw [VR G];have e:kvs++[(p.1,p.2)]++r=kvs++p::r:=by simp
  rw [Ul r _ (by rw [e];exact h),e]
theorem Vq{pins:List (10:)}(I:Inv X pins σ H s):∀ts:List (Addr×Str×V),(∀t∈ts,SqT X.K H t.1 [.str t.2.1,t.2.2])->
 ∃ps:List (Key×Value),KV (ts.map λt=>((Sum.inr t.2.1:Key),t.2.2)) ps/\∀(j:Nat)(q:Key×Value),ps[j]?=some q->∃p u,(ts.map λt=>Value.ref t.1)[j]?=some (.ref p)/\(Qw X.prog X.w).is q.1 u=true/\s.heap.IsTuple p #[u,q.2]
 | [],_=>⟨[],.nil,λj q h=>by simp at h⟩
 | t::r,h=>by
  obtain⟨ps,h1,h2⟩:=Vq I r λu L=>h u (aV _ L);obtain⟨its,M,p,_⟩:=I.tuple (h t aQ);obtain⟨u,v,rfl,U,G⟩:=M.two;refine⟨(Sum.inr t.2.1,v)::ps,.cons ⟨rfl,G⟩ h1,λj q J=>?_⟩;cases j with
  | zero=>
   have:q=(Sum.inr t.2.1,v):=by simpa using J.symm
   subst this;exact⟨t.1,u,rfl,Lg (k:=Sum.inr t.2.1) U,p⟩
  | succ j=>
   obtain⟨Y,Z,e1,e2,e3⟩:=h2 j q (by simpa using J);exact⟨Y,Z,by simpa using e1,e2,e3⟩
theorem KV.keys'{kvs:List (Key×V)}{ps:List (Key×Value)}(r:KV kvs ps):ps.map (·.1)=kvs.map (·.1):=by
 induction r with
 | nil=>rfl
 | cons h _ G=>rw [aR,aR,G,h.1]
theorem Gu(hc:X.calm=true):Q6 X (.type "dict") (λxs H Q=>∃(l:Addr)(ts:List (Addr×Str×V)),xs=[.ref l]/\SqL X.K H l (ts.map λt=>V.ref t.1)/\(∀t∈ts,SqT X.K H t.1 [.str t.2.1,t.2.2])/\(ts.map λt=>t.2.1).Nodup/\ts.length<=1000/\
 ∀d,H d=none->Q (.ref d) (upd H d (.dK (ts.map λt=>((Sum.inr t.2.1:Key),t.2.2))))):=by
 intro pins s σ H xs us Q I r h;obtain⟨l,ts,rfl,hl,ht,L,hz,q⟩:=h;cases r with
 | cons r rr=>
  cases rr;obtain rfl:_=Value.ref l:=r;obtain⟨its,rv,⟨o,n,e,c,dn,dt⟩,_⟩:=I.list hl;obtain rfl:=UQ rv;obtain⟨ps,G,M⟩:=Vq I ts ht;have J:ps.length=ts.length:=by have:=G.length;rw [aE]at this;exact this.symm
  have U:ps.length<=sizeLine:=by rw [J,cO];lia
  refine Gi (I.ok.hd hc) I.big e c dn dt U (by rw [a_,aE];exact J) (λj q hq=>by simpa using M j q hq) λh' tk Y hk=>?_;have Z:((([]:List (Key×Value))++ps).map (·.1)).Nodup:=by
   rw [dG,KV.keys' G,bY];have e2:(ts.map ((λx:Key×V=>x.1)∘λt=>((Sum.inr t.2.1:Key),t.2.2)))=(ts.map λt=>t.2.1).map (Sum.inr:Str->Key):=by rw [bY];rfl
   rw [e2];exact List.Pairwise.map _ (λa b aa z=>aa (by injection z)) L
  rw [Ul ps [] Z,dG]at Y;have ab:=I.hok.fresh (aZ s.heap.objs.size);refine⟨.ref s.heap.objs.size,_,I.laid (a:=s.heap.objs.size) (o:=.dK (ts.map λt=>((Sum.inr t.2.1:Key),t.2.2))) (t':=tk) hk (4:) (OH (by rw [aE,cO];lia) (dZ.mpr (aW (bD I.big))) G Y),rfl,q _ ab⟩
end L2
namespace L2
open PySem PySem.Spec PyProof.Rows PySem.W
@[reducible] def strOrd:KeyOrd:=⟨List Nat,λa b=>decide (a<b),λa=>strKind.irrefl a,λa b c=>strKind.trans a b c,λa b c=>strKind.negTrans a b c,λa b=>strKind.total a b⟩
abbrev PNx:=Addr×Str×Addr×List Str
def PairN(h:Heap)(t:PNx):Prop:=∃(tk:Tok)(as:List Addr),h.IsTuple t.1 [Value.str t.2.1 tk,Value.ref t.2.2.1].toArray/\Reads h (.ref t.2.2.1) (.tuple (t.2.2.2.map PyData.str)) as
theorem PairN.keeps{t:PNx}(k:∀b o,h.get? b=some o->h'.get? b=some o)(x:PairN h t):PairN h' t:=by
 obtain⟨tk,G,h1,h2⟩:=x;exact⟨tk,G,IsTuple.keeps k h1,Reads.keeps k h2⟩
theorem Wi{K:Fg}:∀p:List Str,RdAll K H (p.map V.str) (p.map PyData.str)
 | []=>.nil
 | i::r=>.cons (.str i) (Wi r)
theorem JM:∀p:List Str,(∀x∈p,PyData.strOk x=true)->PyData.canLayAll0 (p.map PyData.str)=true
 | [],_=>by simp [PyData.canLayAll0]
 | i::r,h=>by simp only [aR,PyData.canLayAll0,PyData.canLay0,JM r λx G=>h x (aV _ G),h i aQ,cJ]
theorem JC{h:Heap}:∀{ts:List PNx},(∀t∈ts,PairN h t)->∃fs:List Value,KatTups h (ts.map λt=>Value.ref t.1) fs/\(∀v∈fs,∃x t,v=Value.str x t)/\fs.length=ts.length
 | [],_=>⟨[],KatTups.nil,λv hv=>(nomatch hv),rfl⟩
 | t::r,ht=>by
  obtain⟨tk,U,⟨o,go,G,n,J⟩,_⟩:=ht t aQ;obtain⟨fs,h1,h2,L⟩:=JC λu M=>ht u (aV _ M);refine⟨Value.str t.2.1 tk::fs,KatTups.cons go G J rfl h1,λv hv=>?_,by simp [L]⟩;rcases aM.mp hv with rfl | hv
  .exact⟨_,_,rfl⟩
  .exact h2 v hv
section
variable{E:Value->Shared->Prop}
theorem OM{t u:PNx}{C:Bool->Shared->Prop}(ht:PairN s.heap t)(hu:PairN s.heap u)(hok:∀x∈t.2.2.2,PyData.strOk x=true)(hd:t.1≠u.1->t.2.1≠u.2.1)(hA:A.units+2<cLine)(h:C (decide (t.2.1.cps.toList<u.2.1.cps.toList)) s):wpAny (9:) A (keyLt' (tuples' true) (.ref t.1) (.ref u.1)) C E s:=by
 obtain⟨tk,as,h1,L⟩:=ht;obtain⟨J,aa,g1,g4⟩:=hu;have G:(PyData.tuple (t.2.2.2.map PyData.str)).canLay0=true:=by simp only [PyData.canLay0];exact JM _ hok
 have ab:(PyData.tuple (t.2.2.2.map PyData.str)).depth<=1:=by simp only [PyData.depth,Y3];lia
 refine RK h1 g1 (λM=>?_) (λU=>?_)
 .refine⟨?_,oneLt_str h⟩;have e:=(eqGives_str t.2.1 u.2.1 tk J).at A s;have:(t.2.1==u.2.1)=false:=by simpa using hd M
  rw [this]at e;exact e
 .refine⟨?_,?_,?_⟩
  .have e:=(eqGives_str t.2.1 t.2.1 tk tk).at A s
   simpa using e
  .have e:=SeqAt.eqAt_reads _ _ A s _ _ _ _ L L G G (5:);rw [Yw _ G]at e;exact e
  .have Z:t.2.1=u.2.1:=by
    obtain⟨o,e,_,n,d⟩:=h1;obtain⟨o2,e2,_,n2,Y⟩:=g1;rw [U,e2]at e;cases e;rw [d]at Y;injection Y with z1 z2;have z3:[Value.str t.2.1 tk,Value.ref t.2.2.1]=[Value.str u.2.1 J,Value.ref u.2.2.1]:=by simpa using congrArg Array.toList z1
    injection z3 with z4 z5;injection z4
   rw [<-Z,bV (List.lt_irrefl _)]at h;exact h
end
theorem Wj(hu:X.A.units+4<cLine):Q6 X (.builtin "sorted") (λxs H Q=>∃(l:Addr)(ts:List PNx),xs=[.ref l]/\SqL X.K H l (ts.map λt=>V.ref t.1)/\(∀t∈ts,SqT X.K H t.1 [.str t.2.1,.ref t.2.2.1]/\SqT X.K H t.2.2.1 (t.2.2.2.map V.str)/\∀x∈t.2.2.2,PyData.strOk x=true)/\(ts.map λt=>t.2.1).Nodup/\ts.length<64/\
 ∀(out:List PNx) p,out.Perm ts->(out.Pairwise λx y=>¬y.2.1.cps.toList<x.2.1.cps.toList)->H p=none->Q (.ref p) (upd H p (.lst (out.map λt=>V.ref t.1)))):=by
 intro pins s σ H xs us Q I r h;obtain⟨l,ts,rfl,hl,ht,aa,ab,q⟩:=h;cases r with
 | cons r rr=>
  cases rr;obtain rfl:_=Value.ref l:=r;obtain⟨its,M,p,_⟩:=I.list hl;obtain rfl:=UQ M;have U:∀t∈ts,PairN s.heap t:=λt G=>by
   obtain⟨h1,h2,_⟩:=ht t G;obtain⟨af,r1,p1,_⟩:=I.tuple h1;obtain⟨u,v,rfl,ru,M⟩:=r1.two;cases (show v=Value.ref _ from M);obtain⟨tk,rfl⟩:=(show ∃tk,u=Value.str _ tk from ru);obtain⟨as,q4⟩:=(RdV.tup h2 (Wi _)).reads I (show RelV (.ref t.2.2.1) (.ref t.2.2.1)from rfl);exact⟨tk,as,p1,q4⟩
  let d:PNx:=(0,⟨#[]⟩,0,[])
  have Y:∀i,i<ts.length->(ts.map λt=>Value.ref t.1).getD i Value.none=.ref (ts.getD i d).1:=λi hi=>by simp [eo,hi]
  have md:∀i,i<ts.length->ts.getD i d∈ts:=λi hi=>by simp [eo,hi]
  have ek:(Value.type "str" !=Value.type "tuple")=true:=by decide+kernel
  refine Gn strOrd (λi=>(ts.getD i d).2.1.cps.toList) (tuples' true) p.isList (by simpa using ab) (λs' E' Q' L h2 hq=>?_) (λs' i j C L hi J hC=>?_) λZ o1 o2=>?_
  .obtain⟨fs,f1,f2,f3⟩:=JC (h:=s'.heap) λt G=>(U t G).keeps L;refine kat_kind (T:=.type "str") f1 (by rw [f3];rw [aE]at h2;lia) (λv hv=>?_) (1:) (by rw [ek];exact hq);obtain⟨x,t,rfl⟩:=f2 v hv;exact .now
  .rw [aE]at hi J;rw [Y i hi,Y j J];refine OM ((U _ (md i hi)).keeps L) ((U _ (md j J)).keeps L) (ht _ (md i hi)).2.2 (λac he=>ac ?_) (by show X.A.units+1+1+2<cLine;lia) hC;have ad:i=j:=by
    have a1:(ts.map λt=>t.2.1)[i]'(by simpa using hi)=(ts.getD i d).2.1:=by simp [eo,hi]
    have a2:(ts.map λt=>t.2.1)[j]'(by simpa using J)=(ts.getD j d).2.1:=by simp [eo,J]
    exact(List.getElem_inj aa).mp (a1.trans (he.trans a2.symm))
   rw [ad]
  .rw [aE]at o1 o2;obtain⟨w1,w2⟩:=LL (O:=strOrd) (ts:=ts) (d:=d) (key:=λt=>t.2.1.cps.toList) o1 o2;have em:(Z.toList.map λi=>(ts.map λt=>Value.ref t.1).getD i Value.none)=(Z.toList.map λi=>ts.getD i d).map λt=>Value.ref t.1:=by
    rw [bY];refine fZ λi hi=>?_;exact Y i (cN.mp (o1.mem_iff.mp hi))
   rw [em];generalize Z.toList.map (λi=>ts.getD i d)=out at w1 w2;obtain⟨e,he⟩:=sortedAll_at s.heap (ts.map λt=>Value.ref t.1) (out.map λt=>Value.ref t.1).toArray;have ae:H (s.heap.objs.size+1)=none:=I.hok.fresh (Nat.le_succ _);refine⟨.ref (s.heap.objs.size+1),_,I.laid (t':=s.toks) (o:=.lst (out.map λt=>V.ref t.1)) (λb o g=>sortedAll_old g) (Nat.le_succ _) ?_,rfl,q out _ w1 (w2.imp λh=>by simpa using h) ae⟩;exact⟨by rw [aE,w1.length_eq,cO];lia,_,e,Uz out,he⟩
end L2
variable{rs:List L2.PNx}{rw:PySem.Str->List L2.PNx}
namespace TM
inductive Tree(α:Type) where
 | node (name:α) (mark:Int) (bs:List (Tree α))
variable{α:Type}
def Tree.bs:Tree α->List (Tree α)
 | .node _ _ bs=>bs
structure Rows(α:Type) where
 n:Nat
 nm:Nat->α
 mr:Nat->Int
 up:Nat->Nat
variable{R:Rows α}
section
variable{K:Nat->List Int}{B:Nat->Tree α}{o0:Tree α}
variable{B':Nat->Tree α}{o:Tree α}{s:Nat}
end
end TM
namespace L2
open PySem PySem.Spec PyProof.Rows TM
mutual
inductive TrV(K:Fg)(H:Hp):V->Tree Str->Prop where
 | mk {a b:Addr} {vs:List V} {ts:List (Tree Str)} {name:Str} {mark:Int}:SqT K H a [.str name,.int mark,.ref b]->SqT K H b vs->TrAll K H vs ts->vs.length<=1000->TrV K H (.ref a) (.node name mark ts)
inductive TrAll(K:Fg)(H:Hp):List V->List (Tree Str)->Prop where
 | nil:TrAll K H [] []
 | cons {v:V} {vs:List V} {t:Tree Str} {ts:List (Tree Str)}:TrV K H v t->TrAll K H vs ts->TrAll K H (v::vs) (t::ts)
end
mutual
theorem TrV.mono{K:Fg}{H H':Hp}(k:∀a xs,SqT K H a xs->SqT K H' a xs):∀{v:V}{t:Tree Str},TrV K H v t->TrV K H' v t
 | _,_,.mk h1 h2 G J=>.mk (k _ _ h1) (k _ _ h2) (TrAll.mono k G) J
theorem TrAll.mono{K:Fg}{H H':Hp}(k:∀a xs,SqT K H a xs->SqT K H' a xs):∀{vs:List V}{ts:List (Tree Str)},TrAll K H vs ts->TrAll K H' vs ts
 | _,_,.nil=>.nil
 | _,_,.cons h t=>.cons (TrV.mono k h) (TrAll.mono k t)
end
theorem TrAll.get{K:Fg}:∀{vs:List V}{ts:List (Tree Str)}{i:Nat}{t:Tree Str},TrAll K H vs ts->ts[i]?=some t->∃v,vs[i]?=some v/\TrV K H v t
 | _,_,_,_,.nil,e=>by simp at e
 | _,_,0,_,.cons h _,e=>by simp at e;subst e;exact⟨_,rfl,h⟩
 | _,_,i+1,t,.cons _ r,e=>by
  obtain⟨v,h1,h2⟩:=TrAll.get (i:=i) (t:=t) r (by simpa using e);exact⟨v,by simpa using h1,h2⟩
theorem TrAll.append{K:Fg}:∀{vs ws:List V}{ts us:List (Tree Str)},TrAll K H vs ts->TrAll K H ws us->TrAll K H (vs++ws) (ts++us)
 | _,_,_,_,.nil,h=>h
 | _,_,_,_,.cons a t,h=>.cons a (TrAll.append t h)
theorem SqT.put{K:Fg}(h:SqT K H a xs)(hd:H d=some (.lst ys)):SqT K (upd H d o) a xs:=by
 rcases h with(h | ⟨G,h⟩) | h
 .exact .inl (.inl (by rw [Qh (QN h hd (18:))];exact h))
 .exact .inl (.inr ⟨G,by rw [Qh (QN h hd (18:))];exact h⟩)
 .exact .inr h
end L2
namespace TM
variable{α:Type}
mutual
noncomputable def sz:Tree α->Nat
 | .node _ _ bs=>1+szs bs
noncomputable def szs:List (Tree α)->Nat
 | []=>0
 | t::r=>sz t+szs r
end
mutual
noncomputable def lv:Tree α->Nat
 | .node _ _ bs=>1+lvs bs
noncomputable def lvs:List (Tree α)->Nat
 | []=>0
 | t::r=>max (lv t) (lvs r)
end
theorem NU(t:Tree α):sz t=1+szs t.bs:=by cases t;simp [sz,Tree.bs]
theorem Zl(t:Tree α):lv t=1+lvs t.bs:=by cases t;simp [lv,Tree.bs]
theorem Jp:∀ts:List (Tree α),((ts.map λt=>(sz t:Int)).sum)=(szs ts:Int)
 | []=>by simp [szs]
 | t::r=>by rw [aR,List.sum_cons,Jp r];simp [szs]
theorem PH{ts:List (Tree α)}{t:Tree α}(h:t∈ts):sz t<=szs ts:=by
 induction ts with
 | nil=>cases h
 | cons u r G=>
  simp only [szs];rcases aM.mp h with rfl | h
  .lia
  .have:=G h;lia
theorem Zt{ts:List (Tree α)}{t:Tree α}(h:t∈ts):lv t<=lvs ts:=by
 induction ts with
 | nil=>cases h
 | cons u r G=>
  simp only [lvs];rcases aM.mp h with rfl | h
  .lia
  .have:=G h;lia
theorem Ro{ts:List (Tree α)}(h:ts≠[]):∃t∈ts,lv t=lvs ts:=by
 induction ts with
 | nil=>exact absurd rfl h
 | cons u r J=>
  simp only [lvs]
  by_cases G:r=[]
  .subst G;exact⟨u,aQ,by simp [lvs]⟩
  .obtain⟨t,h1,h2⟩:=J G
   by_cases L:lvs r<=lv u
   .exact⟨u,aQ,by lia⟩
   .exact⟨t,aV _ h1,by lia⟩
variable{R:Rows α}{K:Nat->List Int}{B:Nat->Tree α}{o0:Tree α}
end TM
namespace TT
open TM PySem
inductive Lab where
 | call (m b:Int)
 | put (nm:Str) (kept:Bool) (add:Int)
abbrev Tm:=Tree Lab
def Uh(m b:Int):Tm:=.node (.call m b) 0 []
def lcl:Lab->List (Int×Int)
 | .call m b=>[(m,b)]
 | .put _ _ _=>[]
def isC:Lab->Bool
 | .call _ _=>true
 | .put _ _ _=>false
def lab:Tm->Lab
 | .node l _ _=>l
mutual
noncomputable def cls:Tm->List (Int×Int)
 | .node l _ bs=>lcl l++Q7 bs
noncomputable def Q7:List Tm->List (Int×Int)
 | []=>[]
 | t::r=>cls t++Q7 r
end
theorem NH{ts:List Tm}{t:Tm}(h:t∈ts):∀c,c∈cls t->c∈Q7 ts:=by
 induction ts with
 | nil=>cases h
 | cons u r J=>
  intro c G;simp only [Q7];rcases aM.mp h with rfl | h
  .exact cT _ G
  .exact cB _ (J h c G)
theorem Xv:∀(ts:List Tm)(t:Tm),Q7 (ts++[t])=Q7 ts++cls t
 | [],t=>by simp [Q7]
 | u::r,t=>by rw [fb];simp only [Q7,Xv r t,e_]
mutual
theorem GM:∀t:Tm,(cls t).length<=sz t
 | .node l _ bs=>by
  simp only [cls,sz,bH];have:=JN bs;have h:(lcl l).length<=1:=by cases l<;>simp [lcl]
  lia
theorem JN:∀ts:List Tm,(Q7 ts).length<=szs ts
 | []=>by simp [Q7,szs]
 | t::r=>by simp only [Q7,szs,bH];have h1:=GM t;have h2:=JN r;lia
end
variable{R:Rows Lab}
variable{B B':Nat->Tm}{f:Int->Int->Tm}
end TT
namespace L2
open PySem PyProof.Rows TM TT
abbrev ZB:Str:=Str.ofString "call"
abbrev PUT:Str:=Str.ofString "put"
mutual
inductive TmV(K:Fg)(H:Hp):V->Tm->Prop where
 | call {a:Addr} {m b:Int}:SqT K H a [.str ZB,.int m,.int b]->TmV K H (.ref a) (.node (.call m b) 0 [])
 | put {a b:Addr} {vs:List V} {ts:List Tm} {n:Str} {k:Bool} {ad:Int}:SqT K H a [.str PUT,.str n,.bl k,.int ad,.ref b]->SqT K H b vs->TmAll K H vs ts->vs.length<=1000->TmV K H (.ref a) (.node (.put n k ad) 0 ts)
inductive TmAll(K:Fg)(H:Hp):List V->List Tm->Prop where
 | nil:TmAll K H [] []
 | cons {v:V} {vs:List V} {t:Tm} {ts:List Tm}:TmV K H v t->TmAll K H vs ts->TmAll K H (v::vs) (t::ts)
end
mutual
theorem TmV.mono{K:Fg}{H H':Hp}(k:∀a xs,SqT K H a xs->SqT K H' a xs):∀{v:V}{t:Tm},TmV K H v t->TmV K H' v t
 | _,_,.call h=>.call (k _ _ h)
 | _,_,.put h1 h2 G J=>.put (k _ _ h1) (k _ _ h2) (TmAll.mono k G) J
theorem TmAll.mono{K:Fg}{H H':Hp}(k:∀a xs,SqT K H a xs->SqT K H' a xs):∀{vs:List V}{ts:List Tm},TmAll K H vs ts->TmAll K H' vs ts
 | _,_,.nil=>.nil
 | _,_,.cons h t=>.cons (TmV.mono k h) (TmAll.mono k t)
end
theorem TmAll.length{K:Fg}:∀{vs:List V}{ts:List Tm},TmAll K H vs ts->vs.length=ts.length
 | _,_,.nil=>rfl
 | _,_,.cons _ t=>by rw [bK,bK,TmAll.length t]
theorem TmAll.get{K:Fg}:∀{vs:List V}{ts:List Tm}{i:Nat}{t:Tm},TmAll K H vs ts->ts[i]?=some t->∃v,vs[i]?=some v/\TmV K H v t
 | _,_,_,_,.nil,e=>by simp at e
 | _,_,0,_,.cons h _,e=>by simp at e;subst e;exact⟨_,rfl,h⟩
 | _,_,i+1,t,.cons _ r,e=>by
  obtain⟨v,h1,h2⟩:=TmAll.get (i:=i) (t:=t) r (by simpa using e);exact⟨v,by simpa using h1,h2⟩
theorem TmAll.append{K:Fg}:∀{vs ws:List V}{ts us:List Tm},TmAll K H vs ts->TmAll K H ws us->TmAll K H (vs++ws) (ts++us)
 | _,_,_,_,.nil,h=>h
 | _,_,_,_,.cons a t,h=>.cons a (TmAll.append t h)
def tdl:Lab->List PyData->PyData
 | .call m b,_=>.tuple [.str ZB,.int m,.int b]
 | .put n k a,ds=>.tuple [.str PUT,.str n,.bool k,.int a,.tuple ds]
mutual
noncomputable def tmd:Tm->PyData
 | .node l _ bs=>tdl l (tmds bs)
noncomputable def tmds:List Tm->List PyData
 | []=>[]
 | t::r=>tmd t::tmds r
end
mutual
theorem TmV.rd{K:Fg}{H:Hp}:∀{v:V}{t:Tm},TmV K H v t->RdV K H v (tmd t)
 | _,_,.call h=>by
  simp only [tmd,tdl];exact .tup h (.cons (.str _) (.cons (.int _) (.cons (.int _) .nil)))
 | _,_,.put h1 h2 G _=>by
  simp only [tmd,tdl];exact .tup h1 (.cons (.str _) (.cons (.str _) (.cons (.bl _) (.cons (.int _) (.cons (.tup h2 (TmAll.rd G)) .nil)))))
theorem TmAll.rd{K:Fg}{H:Hp}:∀{vs:List V}{ts:List Tm},TmAll K H vs ts->RdAll K H vs (tmds ts)
 | _,_,.nil=>by simp only [tmds];exact .nil
 | _,_,.cons h t=>by simp only [tmds];exact .cons (TmV.rd h) (TmAll.rd t)
end
def MOk(d:Nat)(t:Tm):Prop:=(tmd t).canLay0=true/\(tmd t).depth<=d
theorem LU{d:Nat}:∀ts:List Tm,(∀t∈ts,MOk d t)->PyData.canLayAll0 (tmds ts)=true/\PyData.depthAll (tmds ts)<=d
 | [],_=>by simp [tmds,PyData.canLayAll0,PyData.depthAll]
 | t::r,h=>by
  obtain⟨h1,h2⟩:=h t aQ;obtain⟨G,L⟩:=LU r λu J=>h u (aV _ J);simp only [tmds,PyData.canLayAll0,PyData.depthAll,h1,G,cJ,true_and];lia
theorem W2:PyData.strOk ZB=true:=by decide+kernel
theorem SR:PyData.strOk PUT=true:=by decide+kernel
theorem leaf_ok(m b:Int)(mk:Int)(bs:List Tm):MOk 1 (.node (.call m b) mk bs):=by
 constructor
 .simp only [tmd,tdl,PyData.canLay0,PyData.canLayAll0,W2,cJ]
 .simp only [tmd,tdl,PyData.depth,PyData.depthAll];lia
end L2
namespace L2
open PySem PySem.Spec PyProof.Rows
section
variable{E:Value->Shared->Prop}{t:Addr}{its:Array Value}{x:Value}
theorem Z8(hi:s.heap.IsTupleIter it t i)(ht:s.heap.IsTuple t its)(hx:its[i]?=some x)(q:∀h',h'.IsTupleIter it t (i+1)->Heap.SameBut it s.heap h'->Q x { s with heap:=h' }):
 wpAny (9:) A (Builtin.SmallTypes.nextOf (.ref it)) Q E s:=by
 obtain⟨Y,J,L,G⟩:=id hi;obtain⟨Z,M,_,nt,U⟩:=ht;unfold Builtin.SmallTypes.nextOf;refine aB (dU (name:=Str.ofString "__next__") hi.typeIs gF (dA gF hi.typeIs F.entry_tuple_iterator_next ?_ (F.args_tuple_iterator_next_1 _)));show wpAny _ _ (field (.ref it) 0>>=_) _ _ s;refine aB (cG J G (x:=.ref t) rfl ?_);show wpAny _ _ (if(Value.ref t==Value.none)=true then _ else _) _ _ s;rw [aG (show ¬((Value.ref t==Value.none)=true)from aS)];show wpAny _ _ (field (.ref it) 1>>=_) _ _ s;refine aB (cG J G (x:=.int i 0) rfl ?_);show wpAny _ _ (seqItems? (.ref t)>>=_) _ _ s;refine aB (dP M U ?_);simp only [aX,hx];refine aB (fN J G (17:) (aF ⟨x,rfl,aF (q _ ⟨_,dX _ J (Obj.isFreed_of_fields (fF G _)),(Obj.cls_mapFields ..).trans L,?_⟩ (cU ..))⟩));rw [fF G];simp [rawInt]
theorem Yn(hh:A.handled=none)(hi:s.heap.IsTupleIter it t i)(ht:s.heap.IsTuple t its)(hx:its[i]?=none)
 (q:∀h' e,Heap.ExtBut it s.heap h'->(∃o,h'.get? e=some o/\o.cls=.type "StopIteration")->E (.ref e) { s with heap:=h' }):wpAny (9:) A (Builtin.SmallTypes.nextOf (.ref it)) Q E s:=by
 obtain⟨U,G,Y,J⟩:=id hi;obtain⟨Z,L,_,nt,M⟩:=ht;unfold Builtin.SmallTypes.nextOf;refine aB (dU (name:=Str.ofString "__next__") hi.typeIs gF (dA gF hi.typeIs F.entry_tuple_iterator_next ?_ (F.args_tuple_iterator_next_1 _)));show wpAny _ _ (field (.ref it) 0>>=_) _ _ s;refine aB (cG G J (x:=.ref t) rfl ?_);show wpAny _ _ (if(Value.ref t==Value.none)=true then _ else _) _ _ s;rw [aG (show ¬((Value.ref t==Value.none)=true)from aS)];show wpAny _ _ (field (.ref it) 1>>=_) _ _ s;refine aB (cG G J (x:=.int i 0) rfl ?_);show wpAny _ _ (seqItems? (.ref t)>>=_) _ _ s;refine aB (dP L M ?_);simp only [aX,hx];refine aB (eQ (aB (fN G J (17:) ?_)));show wpAny _ _ (newExc (.type "StopIteration") []>>=_) _ _ _;simp only [newExc,newTuple];refine aB (aB (cL (aB (m:=firstArgMember _ _) (wpAny_of_eq (a:=Value.none) (by first | rfl | (simp only [firstArgMember];rfl)) (cL ?_ (by size_fits)))) (by size_fits)));simp only [raiseNew];refine aB (wpAny_handled ?_)
 first | rw [show A.in1.handled=none from hh] | rw [hh]
 exact aB (aF (wpAny_throw (q _ _ (((cU ..).extBut.push _).push _) ⟨_,bE _ rfl,rfl⟩)))
theorem ME(hh:A.handled=none)(hne:t≠it):Draws prog w A it [it,t] its.size (λi v=>its[i]?=some v) (λi h=>h.IsTupleIter it t i/\h.IsTuple t its) where
 live:=λ_ _ st=>let⟨o,J,_⟩:=st.1;⟨o,J⟩
 frame:=λ_ _ _ st M=>⟨st.1.at λo e=>M it (17:) o e,let⟨o,J,r⟩:=st.2;⟨o,M t (17:) o J,r⟩⟩
 item:=λi s Q E hi st U=>Z8 st.1 st.2 (x:=its[i]) (by simp [hi]) λh' L G=>U _ h' s.toks (by simp [hi]) ⟨L,st.2.extBut G.extBut hne⟩ G
 done:=λs Q E st hE=>Yn hh st.1 st.2 (17:) hE
end
theorem MB(t:Addr)(its:Array Value)(n:Nat)(dct:Option Addr)(sl:Array (Option Value)):
 Meets (Builtin.«enumerate.__new__» ⟨[.type "enumerate",.ref t],[]⟩) (λ_ R s=>s.heap.get? t=some { cls:=.type "tuple",dict:=dct,data:=.seq its n,slots:=sl }/\
  R (.ok (.ret (.ref (s.heap.push { cls:=.type "tuple_iterator",data:=.fields #[.ref t,.int 0 0] }).objs.size)))
   { s with heap:=(s.heap.push { cls:=.type "tuple_iterator",data:=.fields #[.ref t,.int 0 0] }).push { cls:=.type "enumerate",data:=.fields #[.none,.bool false,.ref s.heap.objs.size,rawInt 0,.none,.none] } }):=
 .of_wp λprog w A R s h=>by
  obtain⟨hp,g,d,tk,L⟩:=s;obtain⟨G,h⟩:=h;have M:=sub_enumerate;have J:Heap.IsTuple (Shared.heap ⟨hp,g,d,tk,L⟩) t its:=⟨_,G,rfl,n,rfl⟩
  wp_walk using AutoSeq1.wpAny_loadPart' G
  refine wpAny_stack_any λst=>aF ?_;split
  .rename_i c _ _ _ _ _;cases (c==Value.type "enumerate")<;>(wp_walk using AutoSeq1.wpAny_loadPart' G,wpAny_pyIter_tuple J;exact⟨_,rfl,h⟩)
  .wp_walk using AutoSeq1.wpAny_loadPart' G,wpAny_pyIter_tuple J
   exact⟨_,rfl,h⟩
theorem Gg{E:Value->Shared->Prop}{t:Addr}{its:Array Value}(hT:s.heap.IsTuple t its)
 (h:∀h',IsEnum h' (s.heap.objs.size+1) s.heap.objs.size 0 .none->h'.IsTupleIter s.heap.objs.size t 0->h'.objs.size=s.heap.objs.size+2->
  (∀b o,s.heap.get? b=some o->h'.get? b=some o)->Q (.ref (s.heap.objs.size+1)) { s with heap:=h' }):
 wpAny (9:) A (call (.type "enumerate") [.ref t]) Q E s:=by
 obtain⟨⟨c,J,Z,sl⟩,Y,L,n,M⟩:=hT;simp only at L M;subst L M;refine callType_new F.called_enumerate (11:) (F.typeCall_enumerate_1 _) (F.newCall_enumerate_1 _) (λU=>F.args_object_init_2 U _) F.entry_enumerate_new (MB t its n J sl) ⟨Y,?_⟩;have hz:(s.heap.push { cls:=.type "tuple_iterator",data:=.fields #[.ref t,.int 0 0] }).objs.size=s.heap.objs.size+1:=eg ..;have G:=bE (s.heap.push { cls:=.type "tuple_iterator",data:=.fields #[.ref t,.int 0 0] }) (o:={ cls:=.type "enumerate",data:=.fields #[.none,.bool false,.ref s.heap.objs.size,rawInt 0,.none,.none] }) rfl;show _/\_;rw [hz]at G ⊢;exact⟨⟨_,G,rfl⟩,h _ G ⟨_,aN _ (bE _ rfl),rfl,rfl⟩ (by rw [eg,hz]) λb o y=>aN _ (aN _ y)⟩
def Ite(K:Fg)(a:Addr):It:=
 ⟨λi H=>∃xs x,SqT K H a xs/\xs[i]?=some x,λi H x H'=>∃p v,H p=none/\x=.ref p/\H'=upd H p (.tup [.int (i:Int),v])/\∀xs,SqT K H a xs->xs[i]?=some v,λi H=>∃xs,SqT K H a xs/\xs.length<=i⟩
theorem M1{K:Fg}(a e it:Addr)(hei:e≠it):
 Turn P w K (.Tuple elts k1 pos) (Ite K a) [e,it] e (λi h=>(∃old,IsEnum h e it (i:Nat) old)/\h.IsTupleIter it a i) where
 mem:=by simp
 obj:=λi h st c G=>by
  obtain⟨⟨old,J⟩,hi⟩:=st;simp only [aM,bS,bQ]at G;rcases G with rfl | rfl
  .exact⟨_,J,λv z=>by have z':Data.fields _=Data.cell v:=z;cases z'⟩
  .obtain⟨o,g,c,d⟩:=hi;exact⟨o,g,λv z=>by rw [d]at z;cases z⟩
 keep:=λi h h' st k=>by
  obtain⟨⟨old,J⟩,hi⟩:=st;exact⟨⟨old,k e (17:) _ J⟩,hi.at λo g=>k it (17:) o g⟩
 item:=by
  intro X hP hw hK G i pins s σ H E I U st hg;subst hP hw hK;obtain⟨⟨old,J⟩,hi⟩:=st;obtain⟨xs,x,Y,hx⟩:=hg;obtain⟨its,rv,p,hz⟩:=I.tuple Y;obtain⟨u,hu,ru⟩:=rv.get hx;have pt:s.heap.IsTuple a its.toArray:=p;obtain⟨oa,Z,ca,na,da⟩:=id pt;have ab:a≠e:=λz=>by
   subst z;have hE:s.heap.get? a=some _:=J;rw [hE]at Z;cases Z;exact absurd (Value.type.inj ca) (11:)
  have ac:a≠it:=λz=>by
   subst z;obtain⟨o,g,c,d⟩:=hi;rw [g]at Z;cases Z;rw [c]at ca;exact absurd (Value.type.inj ca) (11:)
  have ad:i<its.toArray.size:=by
   have:=(aU.mp hu).1
   simpa using this
  refine wpAny_pyNext_enum_itemD (ME (prog:=X.prog) (w:=X.w) (A:=X.A.in1) (it:=it) (t:=a) (its:=its.toArray) (I.ok.hd G) ac) J ⟨hi,pt⟩ ad hei (by simp only [aM,bS,bQ,not_or];exact⟨hei,aW ab⟩) λy h' tk hy ho ae ht ao hk=>?_;have af:y=u:=by
   have:its.toArray[i]?=some u:=by simpa using hu
   exact aI (hy.symm.trans this)
  subst af;refine⟨.ref s.heap.objs.size,rfl,wpAny_letOwnedTupleGo_enum (s:={ s with heap:=h',toks:=tk+1 }) ho λag aa M=>?_⟩;have lt:∀{c o},s.heap.get? c=some o->c≠s.heap.objs.size:=λg=>bD (aP g);have ah:s.heap.objs.size≠e:=aW (lt J);have ai:∀c∈[e,it],Y0 X pins H c:=U;have I2:Inv X pins σ (upd H s.heap.objs.size (.tup [.int (i:Int),x])) { s with heap:=ag,toks:=tk+1 }:=by
   refine I.turnedNew (ch:=[e,it]) (λc o G g=>?_) ai (4:) ⟨by show 2<=sizeLine;decide,[.int (i:Int) tk,y],.cons ⟨tk,rfl⟩ (.cons ru .nil),⟨_,(M.2 _ ah).trans ht,rfl,_,rfl⟩⟩;simp only [aM,bS,bQ,not_or]at G;exact(M.2 c G.1).trans (hk c o G.1 G.2 g)
  have aj:∀c∈[e,it],upd H s.heap.objs.size (.tup [.int (i:Int),x]) c=none:=λc G=>by
   have:c≠s.heap.objs.size:=by
    have L:=G;simp only [aM,bS,bQ]at L;rcases L with rfl | rfl
    .exact lt J
    .obtain⟨o,g,_⟩:=hi;exact lt g
   rw [Qh this];exact(U c G).1
  exact⟨.ref s.heap.objs.size,_,I2,rfl,⟨s.heap.objs.size,x,I.fresh,rfl,rfl,λys ak=>by rw [I.tuple_inj ak Y];exact hx⟩,⟨⟨_,aa⟩,ae.1.extBut M.extBut (aW hei)⟩,aj⟩
 done:=by
  intro X hP hw hK G i pins s σ H E I U st hg;subst hP hw hK;obtain⟨⟨old,J⟩,hi⟩:=st;obtain⟨xs,Y,hx⟩:=hg;obtain⟨its,rv,p,hz⟩:=I.tuple Y;have pt:s.heap.IsTuple a its.toArray:=p;have an:=rv.length;have hn:its.toArray.size<=i:=by simp;lia
  have hT:s.TypeIs (.ref e) "enumerate":=⟨_,J,rfl⟩;unfold pyNext;refine aB (wpAny_attempt (dU (name:=Str.ofString "__next__") hT gL (dA gL hT F.entry_enumerate_next ?_ (F.args_enumerate_next_1 _))));show wpAny _ _ (field (.ref e) 2>>=_) _ _ _;refine aB (cG J rfl (x:=.ref it) rfl ?_);refine aB (Yn (A:=X.A.in1) (I.ok.hd G) hi pt (eD hn) λh' y al hy=>?_);obtain⟨o,ho,am⟩:=hy;refine aB (fe (T:="StopIteration") (b:=true) ⟨o,ho,am⟩ isSubtype_stop ?_);refine aF ⟨rfl,I.turnedL (t':=s.toks) (ch:=[e,it]) (λc u L g=>al c u (λz=>L (by rw [z];simp)) g) U⟩
 self:=λ_ _ _ _ _ st h=>wpAny_pyIter_enum st.1.choose_spec h
def By(K:Fg)(ta:TA):TI:=λσ H R=>ta σ H λvs H1=>∃a xs,vs=[.ref a]/\SqT K H1 a xs/\R (Ite K a) H1
theorem GU{ta:TA}{p:Pos}(hg:Gl X "enumerate")(hm:X.mg "enumerate"=none)(ha:PA X [e1] ta)(hb:bootBuiltins "enumerate"=some (.type "enumerate"):=by decide+kernel)(hs:starEach [e1] X.env=[(false,eval e1 X.env)]:=by rfl):
 PI X (.Tuple elts k1 tpos) (.Call (.Name "enumerate" p) [e1] [] pos) (By X.K ta):=by
 intro pins s σ H R I h;refine Call_ (Z2 I hg hm hb (fq (thn (ha pos pins s σ H _ I h) λus G ⟨vs,H1,J,Y,Z⟩=>?_) hs rfl));obtain⟨a,xs,e,hq,q⟩:=Z;subst e;cases Y with
 | cons r rr=>
  cases rr;obtain rfl:_=Value.ref a:=r;obtain⟨its,rv,pt,_⟩:=J.tuple hq;refine Gg (show G.heap.IsTuple a its.toArray from pt) λh' M hi aa hk=>?_;refine wpAny_pyIter_enum M ?_;have I2:Inv X pins σ H1 { G with heap:=h' }:=J.kept (t':=G.toks) hk;refine⟨G.heap.objs.size+1,[G.heap.objs.size+1,G.heap.objs.size],_,_,H1,rfl,I2,M1 a (G.heap.objs.size+1) G.heap.objs.size (nne (5:)),⟨⟨_,M⟩,hi⟩,λc U=>?_,q⟩;have L:@LE.le Nat _ G.heap.objs.size c:=by
   simp only [aM,bS,bQ]at U;rcases U with rfl | rfl<;>lia
  exact J.fpOk L (J.hok.fresh L)
theorem WC{K:Fg}{a:Addr}{xs:List V}{g:TG}{tb:TS}{D:Ends}{σ:St}{H:Hp}(Pv:Nat->St->Hp->Prop)(h0:Pv 0 σ H)(hl:∀i σ H,i<=xs.length->Pv i σ H->SqT K H a xs)
 (hs:∀i v p σ H,xs[i]?=some v->H p=none->Pv i σ H->g (.ref p) σ (upd H p (.tup [.int (i:Int),v])) λσ2 H2=>tb { D with nx:=Pv (i+1),ct:=Pv (i+1),bk:=D.nx } σ2 H2) (hd:∀σ H,Pv xs.length σ H->D.nx σ H):
 ∃W:Nat->Nat->St->Hp->Prop,(∃m,W 0 m σ H)/\∀i m σ H,W i m σ H->
  ((Ite K a).stop i H/\D.nx σ H)\/((Ite K a).go i H/\∃N:St->Hp->Prop,(∀σ' H',N σ' H'->∃m',m'<m/\W (i+1) m' σ' H')/\∀x H',(Ite K a).yld i H x H'->g x σ H' λσ2 H2=>tb { D with nx:=N,ct:=N,bk:=D.nx } σ2 H2):=by
 refine⟨λi m σ H=>m=xs.length-i/\i<=xs.length/\Pv i σ H,⟨xs.length-0,rfl,bN _,h0⟩,?_⟩;rintro i m σ H ⟨rfl,hi,p⟩;have G:=hl i σ H hi p
 by_cases h:i<xs.length
 .refine .inr ⟨⟨xs,xs[i],G,aD h⟩,Pv (i+1),λσ' H' J=>⟨xs.length-(i+1),by lia,rfl,h,J⟩,?_⟩;rintro x H' ⟨J,v,hp,rfl,rfl,L⟩;exact hs i v J σ H (L xs G) hp p
 .have e:i=xs.length:=by lia
  subst e;exact .inl ⟨⟨xs,G,aZ _⟩,hd σ H p⟩
section
variable{E:Value->Shared->Prop}
theorem Mf{us vs:Array Value}{p q c d:Value}(Ap:ZipApart zp ti tu j1 j2 t1 t2)
 (gz:IsZip s.heap zp ti tu .none) (gi:IsPair s.heap ti (.ref j1) (.ref j2)) (gu:IsPair s.heap tu c d)
 (w1:s.heap.IsTupleIter j1 t1 n1) (w2:s.heap.IsTupleIter j2 t2 n2) (l1:s.heap.IsTuple t1 us) (l2:s.heap.IsTuple t2 vs) (ep:us[n1]?=some p) (eq:vs[n2]?=some q)
 (k:∀h',IsZip h' zp ti tu (rawInt s.heap.objs.size)->IsPair h' tu p q->h'.IsTupleIter j1 t1 (n1+1)->h'.IsTupleIter j2 t2 (n2+1)->IsPair h' s.heap.objs.size p q->
  (∀b o,b≠zp->b≠tu->b≠j1->b≠j2->s.heap.get? b=some o->h'.get? b=some o)->Q (.ref s.heap.objs.size) { s with heap:=h' }):
 wpAny (9:) A (Builtin.«zip.__next__» ⟨[.ref zp],[]⟩) (λfin s'=>∃v,fin=.done (.ret v)/\Q v s') E s:=by
 show wpAny _ _ (field (.ref zp) 2>>=_) _ _ _;refine aB (cG gz rfl (x:=.bool false) rfl ?_);show wpAny _ _ (field (.ref zp) 3>>=_) _ _ _;refine aB (cG gz rfl (x:=.ref ti) rfl ?_);refine aB (dP gi rfl ?_);show wpAny _ _ (Builtin.SmallTypes.ownedTupleIsFree (.ref zp)>>=_) _ _ _;refine aB ?_;(unfold Builtin.SmallTypes.ownedTupleIsFree);refine aB (cG gz rfl (x:=.none) rfl (aF ?_));simp only [cD];refine aB (eQ (aB (cG gz rfl (x:=.ref tu) rfl ?_)));refine aB (f9 gz (17:) λha aa J=>?_)
 replace aa:IsZip ha zp ti tu .ellipsis:=aa
 refine aB ?_;simp only [List.forIn_cons,List.forIn_nil,List.zipIdx_cons,List.zipIdx_nil];refine aB (aB (wpAny_onRaise ?_));show wpAny _ _ (Builtin.SmallTypes.nextOf (.ref j1)>>=_) _ _ _;refine aB (Z8 (w1.extBut J.extBut Ap.i1z) (l1.extBut J.extBut Ap.l1z) ep λhb ai sb=>aF ?_);have af:IsPair hb tu c d:=sb.extBut _ _ Ap.TOi1 (J.extBut _ _ Ap.TOz gu);refine aB (dP af rfl (aB (wpAny_updateSeq_pair af λhc ab sc=>?_)))
 replace ab:IsPair hc tu p d:=ab
 refine aB (fk (aF (aB (aB (wpAny_onRaise ?_)))));show wpAny _ _ (Builtin.SmallTypes.nextOf (.ref j2)>>=_) _ _ _;refine aB (Z8 (((w2.extBut J.extBut Ap.i2z).extBut sb.extBut Ap.i12.symm).extBut sc.extBut Ap.TOi2.symm) (((l2.extBut J.extBut Ap.l2z).extBut sb.extBut Ap.l2i1).extBut sc.extBut Ap.l2TO) eq λhd aj sd=>aF ?_);have ag:IsPair hd tu p d:=sd.extBut _ _ Ap.TOi2 ab;refine aB (dP ag rfl (aB (wpAny_updateSeq_pair ag λG M se=>?_)))
 replace M:IsPair G tu p q:=M
 refine aB (fk (aF (aF (aB (dP M rfl (aB (wpAny_newTuple ?_)))))));have U:G.objs.size=s.heap.objs.size:=by rw [se.1,sd.1,sc.1,sb.1,J.1]
 have ah:IsZip G zp ti tu .ellipsis:=se.extBut _ _ Ap.TOz.symm (sd.extBut _ _ Ap.i2z.symm (sc.extBut _ _ Ap.TOz.symm (sb.extBut _ _ Ap.i1z.symm aa)));have ae:∀b o,b≠zp->b≠tu->b≠j1->b≠j2->s.heap.get? b=some o->G.get? b=some o:=λb o L b2 b3 b4 e=>se.extBut _ _ b2 (sd.extBut _ _ b4 (sc.extBut _ _ b2 (sb.extBut _ _ b3 (J.extBut _ _ L e))));have ak:G.IsTupleIter j1 t1 (n1+1):=((ai.extBut sc.extBut Ap.TOi1.symm).extBut sd.extBut Ap.i12).extBut se.extBut Ap.TOi1.symm;have al:G.IsTupleIter j2 t2 (n2+1):=aj.extBut se.extBut Ap.TOi2.symm;have lz:zp<G.objs.size:=aP ah;show wpAny _ _ (Builtin.SmallTypes.ownedTupleHandOut (.ref zp) (.ref G.objs.size)>>=_) _ _ _;refine aB ?_;(unfold Builtin.SmallTypes.ownedTupleHandOut);have am:IsZip (G.push { cls:=.type "tuple",data:=.seq #[p,q] }) zp ti tu .ellipsis:=aN _ ah;refine aB (f9 am (17:) λhg ac sg=>?_)
 replace ac:IsZip hg zp ti tu (rawInt G.objs.size):=ac
 refine f9 ac (17:) λhh Y sh=>?_
 replace Y:IsZip hh zp ti tu (rawInt G.objs.size):=Y
 have Z:∀b o,b≠zp->G.get? b=some o->hh.get? b=some o:=λb o L e=>sh.extBut _ _ L (sg.extBut _ _ L (aN _ e));have ad:IsPair hh G.objs.size p q:=sh.extBut _ _ (Nat.ne_of_gt lz) (sg.extBut _ _ (Nat.ne_of_gt lz) (bE _ rfl));rw [U]at Y ad;refine aF ⟨_,rfl,?_⟩;show Q (.ref G.objs.size) _;rw [U];exact k hh Y (Z _ _ Ap.TOz M) (ak.at λo e=>Z _ o Ap.i1z e) (al.at λo e=>Z _ o Ap.i2z e) ad λb o L b2 b3 b4 e=>Z b o L (ae b o L b2 b3 b4 e)
theorem Oi{zp ti tu j1 j2 t1 t2:Addr}{n1 n2:Nat}{us vs:Array Value}{c d:Value}{Q:Fin->Shared->Prop}(hh:A.handled=none)(Ap:ZipApart zp ti tu j1 j2 t1 t2)
 (gz:IsZip s.heap zp ti tu .none) (gi:IsPair s.heap ti (.ref j1) (.ref j2)) (gu:IsPair s.heap tu c d)
 (w1:s.heap.IsTupleIter j1 t1 n1) (l1:s.heap.IsTuple t1 us) (ep:us[n1]?=none)
 (k:∀h' e,(∀b o,b≠zp->b≠tu->b≠j1->b≠j2->s.heap.get? b=some o->h'.get? b=some o)->(∃o,h'.get? e=some o/\o.cls=.type "StopIteration")->E (.ref e) { s with heap:=h' }):
 wpAny (9:) A (Builtin.«zip.__next__» ⟨[.ref zp],[]⟩) Q E s:=by
 show wpAny _ _ (field (.ref zp) 2>>=_) _ _ _;refine aB (cG gz rfl (x:=.bool false) rfl ?_);show wpAny _ _ (field (.ref zp) 3>>=_) _ _ _;refine aB (cG gz rfl (x:=.ref ti) rfl ?_);refine aB (dP gi rfl ?_);show wpAny _ _ (Builtin.SmallTypes.ownedTupleIsFree (.ref zp)>>=_) _ _ _;refine aB ?_;(unfold Builtin.SmallTypes.ownedTupleIsFree);refine aB (cG gz rfl (x:=.none) rfl (aF ?_));simp only [cD];refine aB (eQ (aB (cG gz rfl (x:=.ref tu) rfl ?_)));refine aB (f9 gz (17:) λha G U=>?_)
 replace G:IsZip ha zp ti tu .ellipsis:=G
 refine aB ?_;simp only [List.forIn_cons,List.forIn_nil,List.zipIdx_cons,List.zipIdx_nil];refine aB (aB (wpAny_onRaise ?_));show wpAny _ _ (Builtin.SmallTypes.nextOf (.ref j1)>>=_) _ _ _;refine aB (Yn hh (w1.extBut U.extBut Ap.i1z) (l1.extBut U.extBut Ap.l1z) ep λhb e Y ge=>?_);obtain⟨oe,J,L⟩:=ge;have M:IsZip hb zp ti tu .ellipsis:=Y _ _ Ap.i1z.symm G;have Z:e≠zp:=λx=>by subst x;rw [M]at J;cases J;simp at L
 refine f9 M (17:) λhc _ sc=>k hc e (λb o b1 _ b3 _ x=>sc.extBut _ _ b1 (Y _ _ b3 (U.extBut _ _ b1 x))) ⟨oe,sc.extBut _ _ Z J,L⟩
theorem UK{zp ti tu j1 j2 t1 t2:Addr}{n1 n2:Nat}{us vs:Array Value}{p q c d:Value}{Q:Option Value->Shared->Prop}(Ap:ZipApart zp ti tu j1 j2 t1 t2)
 (gz:IsZip s.heap zp ti tu .none) (gi:IsPair s.heap ti (.ref j1) (.ref j2)) (gu:IsPair s.heap tu c d)
 (w1:s.heap.IsTupleIter j1 t1 n1) (w2:s.heap.IsTupleIter j2 t2 n2) (l1:s.heap.IsTuple t1 us) (l2:s.heap.IsTuple t2 vs) (ep:us[n1]?=some p) (eq:vs[n2]?=some q)
 (k:∀h',IsZip h' zp ti tu (rawInt s.heap.objs.size)->IsPair h' tu p q->h'.IsTupleIter j1 t1 (n1+1)->h'.IsTupleIter j2 t2 (n2+1)->IsPair h' s.heap.objs.size p q->
  (∀b o,b≠zp->b≠tu->b≠j1->b≠j2->s.heap.get? b=some o->h'.get? b=some o)->Q (some (.ref s.heap.objs.size)) { s with heap:=h' }):
 wpAny (9:) A (pyNext (.ref zp)) Q E s:=by
 have G:s.TypeIs (.ref zp) "zip":=⟨_,gz,rfl⟩;unfold pyNext;exact aB (wpAny_attempt (dU (name:=Str.ofString "__next__") G F.slot_zip_next (dA F.slot_zip_next G F.entry_zip_next (Mf Ap gz gi gu w1 w2 l1 l2 ep eq λh' J a2 L M U Y=>aF (k h' J a2 L M U Y)) (F.args_zip_next_1 _))))
theorem Jd{zp ti tu j1 j2 t1 t2:Addr}{n1 n2:Nat}{us:Array Value}{c d:Value}{Q:Option Value->Shared->Prop}(hh:A.handled=none)(Ap:ZipApart zp ti tu j1 j2 t1 t2)
 (gz:IsZip s.heap zp ti tu .none) (gi:IsPair s.heap ti (.ref j1) (.ref j2)) (gu:IsPair s.heap tu c d) (w1:s.heap.IsTupleIter j1 t1 n1) (l1:s.heap.IsTuple t1 us) (ep:us[n1]?=none)
 (k:∀h',(∀b o,b≠zp->b≠tu->b≠j1->b≠j2->s.heap.get? b=some o->h'.get? b=some o)->Q none { s with heap:=h' }):wpAny (9:) A (pyNext (.ref zp)) Q E s:=by
 have G:s.TypeIs (.ref zp) "zip":=⟨_,gz,rfl⟩;unfold pyNext;refine aB (wpAny_attempt (dU (name:=Str.ofString "__next__") G F.slot_zip_next (dA F.slot_zip_next G F.entry_zip_next (Oi hh (n2:=n2) (vs:=us) Ap gz gi gu w1 l1 ep λh' e J L=>?_) (F.args_zip_next_1 _))));obtain⟨o,M,U⟩:=L;exact aB (fe (T:="StopIteration") (b:=true) ⟨o,M,U⟩ isSubtype_stop (aF (k _ J)))
abbrev zT1(h:Heap)(t1:Addr):Heap:=h.push { cls:=.type "tuple_iterator",data:=.fields #[.ref t1,.int 0 0] }
abbrev zT2(h:Heap)(t1 t2:Addr):Heap:=(zT1 h t1).push { cls:=.type "tuple_iterator",data:=.fields #[.ref t2,.int 0 0] }
abbrev zT3(h:Heap)(t1 t2:Addr):Heap:=(zT2 h t1 t2).push { cls:=.type "tuple",data:=.seq #[.ref h.objs.size,.ref (zT1 h t1).objs.size] }
abbrev zT4(h:Heap)(t1 t2:Addr):Heap:=(zT3 h t1 t2).push { cls:=.type "tuple",data:=.seq #[.none,.none] }
abbrev zT5(h:Heap)(t1 t2:Addr):Heap:=(zT4 h t1 t2).push { cls:=.type "zip",data:=.fields #[.none,.bool false,.bool false,.ref (zT2 h t1 t2).objs.size,.ref (zT3 h t1 t2).objs.size] }
theorem OZ(t1 t2:Addr)(us vs:Array Value):
 Meets (Builtin.«zip.__new__» ⟨[.type "zip",.ref t1,.ref t2],[]⟩) (λ_ R s=>s.heap.IsTuple t1 us/\s.heap.IsTuple t2 vs/\
  R (.ok (.ret (.ref (zT4 s.heap t1 t2).objs.size))) { s with heap:=zT5 s.heap t1 t2 }):=
 .of_wp λprog w A R s h=>by
  obtain⟨hp,g,d,tk,G⟩:=s;obtain⟨J,L,h⟩:=h;have M:=sub_zip;have U:Heap.IsTuple (Shared.heap ⟨hp,g,d,tk,G⟩) t1 us:=J;have L2:Heap.IsTuple (Shared.heap ⟨hp.push { cls:=.type "tuple_iterator",data:=.fields #[.ref t1,.int 0 0] },g,d,tk,G⟩) t2 vs:=let⟨o,e,r⟩:=L;⟨o,aN _ e,r⟩
  wp_walk using wpAny_pyIter_tuple U,wpAny_pyIter_tuple L2
  exact⟨_,rfl,h⟩
theorem Mi{us vs:Array Value}(l1:s.heap.IsTuple t1 us)(l2:s.heap.IsTuple t2 vs)
 (h:∀h',IsZip h' (s.heap.objs.size+4) (s.heap.objs.size+2) (s.heap.objs.size+3) .none->IsPair h' (s.heap.objs.size+2) (.ref s.heap.objs.size) (.ref (s.heap.objs.size+1))->
  IsPair h' (s.heap.objs.size+3) .none .none->h'.IsTupleIter s.heap.objs.size t1 0->h'.IsTupleIter (s.heap.objs.size+1) t2 0->
  (∀c o,s.heap.get? c=some o->h'.get? c=some o)->Q (.ref (s.heap.objs.size+4)) { s with heap:=h' }):
 wpAny (9:) A (call (.type "zip") [.ref t1,.ref t2]) Q E s:=by
 refine callType_new F.called_zip (11:) (F.typeCall_zip_2 _ _) (F.newCall_zip_2 _ _) (λU=>F.args_object_init_3 U _ _) F.entry_zip_new (OZ t1 t2 us vs) ⟨l1,l2,?_⟩;have G:(zT1 s.heap t1).objs.size=s.heap.objs.size+1:=eg ..;have J:(zT2 s.heap t1 t2).objs.size=s.heap.objs.size+2:=by rw [eg,G]
 have L:(zT3 s.heap t1 t2).objs.size=s.heap.objs.size+3:=by rw [eg,J]
 have Y:(zT4 s.heap t1 t2).objs.size=s.heap.objs.size+4:=by rw [eg,L]
 have M:(zT5 s.heap t1 t2).get? (zT4 s.heap t1 t2).objs.size=some _:=bE _ rfl;have Z:(zT5 s.heap t1 t2).get? (zT3 s.heap t1 t2).objs.size=some _:=aN _ (bE _ rfl);have r3:(zT5 s.heap t1 t2).get? (zT2 s.heap t1 t2).objs.size=some _:=aN _ (aN _ (bE _ rfl));have r2:(zT5 s.heap t1 t2).get? (zT1 s.heap t1).objs.size=some _:=aN _ (aN _ (aN _ (bE _ rfl)));have r1:(zT5 s.heap t1 t2).get? s.heap.objs.size=some _:=aN _ (aN _ (aN _ (aN _ (bE _ rfl))));show _/\_;rw [J,L,Y]at M;rw [G,J]at r3;rw [L]at Z;rw [G]at r2;rw [Y];exact⟨⟨_,M,rfl⟩,h _ M r3 Z ⟨_,r1,rfl,rfl⟩ ⟨_,r2,rfl,rfl⟩ λb o x=>aN _ (aN _ (aN _ (aN _ (aN _ x))))⟩
end
def Tw(K:Fg)(a b:Addr)(xs ys:List V):It:=
 ⟨λi H=>SqT K H a xs/\SqT K H b ys/\i<xs.length/\i<ys.length,λi H x H'=>∃p u v,H p=none/\x=.ref p/\H'=upd H p (.tup [u,v])/\xs[i]?=some u/\ys[i]?=some v,λi H=>SqT K H a xs/\xs.length<=i⟩
theorem MF{K:Fg}(a b z:Addr)(xs ys:List V)(TI TO i1 i2:Addr)(Ap:ZipApart z TI TO i1 i2 a b):
 Turn P w K (.Tuple elts k1 pos) (Tw K a b xs ys) [z,TI,TO,i1,i2] z (λi h=>IsZip h z TI TO .none/\IsPair h TI (.ref i1) (.ref i2)/\(∃u v,IsPair h TO u v)/\h.IsTupleIter i1 a i/\h.IsTupleIter i2 b i) where
 mem:=by simp
 obj:=λi h st c G=>by
  obtain⟨hz,J,⟨u,v,L⟩,h1,h2⟩:=st;simp only [aM,bS,bQ]at G;rcases G with rfl | rfl | rfl | rfl | rfl
  .exact⟨_,hz,λv z=>by have U:Data.fields _=Data.cell v:=z;cases U⟩
  .exact⟨_,J,λv z=>by have U:Data.seq _ _=Data.cell v:=z;cases U⟩
  .exact⟨_,L,λv z=>by have U:Data.seq _ _=Data.cell v:=z;cases U⟩
  .obtain⟨o,e,c,d⟩:=h1;exact⟨o,e,λv z=>by rw [d]at z;cases z⟩
  .obtain⟨o,e,c,d⟩:=h2;exact⟨o,e,λv z=>by rw [d]at z;cases z⟩
 keep:=λi h h' st k=>by
  obtain⟨hz,J,⟨u,v,L⟩,h1,h2⟩:=st;exact⟨k z (17:) _ hz,k TI (17:) _ J,⟨u,v,k TO (17:) _ L⟩,h1.at λo e=>k i1 (17:) o e,h2.at λo e=>k i2 (17:) o e⟩
 item:=by
  intro X hP hw hK G i pins s σ H E I Z st hg;subst hP hw hK;obtain⟨hz,J,⟨u0,v0,L⟩,h1,h2⟩:=st;obtain⟨qa,qb,lx,ly⟩:=hg;obtain⟨its,rv,p,_⟩:=I.tuple qa;obtain⟨ag,ab,p2,_⟩:=I.tuple qb;have ex:xs[i]?=some xs[i]:=aD lx;have ey:ys[i]?=some ys[i]:=aD ly;obtain⟨u,hu,ru⟩:=rv.get ex;obtain⟨v,hv,ac⟩:=ab.get ey;refine UK Ap hz J L h1 h2 p p2 (p:=u) (q:=v) (by simpa using hu) (by simpa using hv) λh' a1 a2 a3 a4 a5 hk=>?_;refine⟨.ref s.heap.objs.size,rfl,wpAny_letOwnedTupleGo_zip (s:={ s with heap:=h' }) a1 λaa ad M=>?_⟩;have lt:∀{c o},s.heap.get? c=some o->c≠s.heap.objs.size:=λe=>bD (aP e);have e5:IsPair aa s.heap.objs.size u v:=(M.2 _ (aW (lt hz))).trans a5;have Y:∀c∈[z,TO,i1,i2],Y0 X pins H c:=λc G=>Z c (by
   simp only [aM,bS,bQ]at G ⊢;rcases G with rfl | rfl | rfl | rfl<;>simp)
  have I2:Inv X pins σ (upd H s.heap.objs.size (.tup [xs[i],ys[i]])) { s with heap:=aa,toks:=s.toks }:=by
   refine I.turnedNew (ch:=[z,TO,i1,i2]) (λc o G e=>?_) Y (4:) ⟨by show 2<=sizeLine;decide,[u,v],.cons ru (.cons ac .nil),⟨_,e5,rfl,_,rfl⟩⟩;simp only [aM,bS,bQ,not_or]at G;exact(M.2 c G.1).trans (hk c o G.1 G.2.1 G.2.2.1 G.2.2.2 e)
  have ae:∀c∈[z,TI,TO,i1,i2],upd H s.heap.objs.size (.tup [xs[i],ys[i]]) c=none:=λc G=>by
   have af:=Z c G;have:c≠s.heap.objs.size:=by
    simp only [aM,bS,bQ]at G;rcases G with rfl | rfl | rfl | rfl | rfl
    .exact lt hz
    .exact lt J
    .exact lt L
    .obtain⟨o,e,_⟩:=h1;exact lt e
    .obtain⟨o,e,_⟩:=h2;exact lt e
   rw [Qh this];exact af.1
  exact⟨.ref s.heap.objs.size,_,I2,rfl,⟨s.heap.objs.size,_,_,I.fresh,rfl,rfl,ex,ey⟩,⟨ad,M.extBut _ _ Ap.TIz (hk _ _ Ap.TIz Ap.TITO Ap.TIi1 Ap.TIi2 J),⟨_,_,M.extBut _ _ Ap.TOz a2⟩,a3.extBut M.extBut Ap.i1z,a4.extBut M.extBut Ap.i2z⟩,ae⟩
 done:=by
  intro X hP hw hK G i pins s σ H E I Z st hg;subst hP hw hK;obtain⟨hz,J,⟨u0,v0,L⟩,h1,h2⟩:=st;obtain⟨qa,hl⟩:=hg;obtain⟨its,rv,p,_⟩:=I.tuple qa;have l1:=rv.length;have Y:∀c∈[z,TO,i1,i2],Y0 X pins H c:=λc G=>Z c (by
   simp only [aM,bS,bQ]at G ⊢;rcases G with rfl | rfl | rfl | rfl<;>simp)
  refine Jd (n2:=0) (I.ok.hd G) Ap hz J L h1 p (by simp;lia) λh' hk=>⟨rfl,I.turnedL (t':=s.toks) (ch:=[z,TO,i1,i2]) (λc o G e=>?_) Y⟩;simp only [aM,bS,bQ,not_or]at G;exact hk c o G.1 G.2.1 G.2.2.1 G.2.2.2 e
 self:=λ_ _ _ _ _ st h=>wpAny_pyIter_zip st.1 h
def Bv(K:Fg)(ta:TA):TI:=λσ H R=>ta σ H λvs H1=>∃a b xs ys,vs=[.ref a,.ref b]/\SqT K H1 a xs/\SqT K H1 b ys/\R (Tw K a b xs ys) H1
theorem Rk{ta:TA}{p:Pos}(hg:Gl X "zip")(hm:X.mg "zip"=none)(ha:PA X [e1,e2] ta)(hs:starEach [e1,e2] X.env=[(false,eval e1 X.env),(false,eval e2 X.env)]:=by rfl)(hs2:starEach [e2] X.env=[(false,eval e2 X.env)]:=by rfl):
 PI X (.Tuple elts k1 tpos) (.Call (.Name "zip" p) [e1,e2] [] pos) (Bv X.K ta):=by
 intro pins s σ H R I h;refine Call_ (Z2 I hg hm PyProof.Rows.boot_zip (fq (thn (ha pos pins s σ H _ I h) λus G ⟨vs,H1,J,r1,q1⟩=>?_) (by rw [hs,hs2]) (by rw [hs2];rfl)));obtain⟨a,b,xs,ys,e,qa,qb,q⟩:=q1;subst e;obtain⟨u1,u2,e3,r3,r4⟩:=r1.two;subst e3;cases (show u1=Value.ref a from r3);cases (show u2=Value.ref b from r4);obtain⟨its,rv,U,_⟩:=J.tuple qa;obtain⟨aa,ab,L,_⟩:=J.tuple qb;have la:@LT.lt Nat _ a G.heap.objs.size:=by obtain⟨o,e,_⟩:=U;exact aP e
 have lb:@LT.lt Nat _ b G.heap.objs.size:=by obtain⟨o,e,_⟩:=L;exact aP e
 refine Mi U L λh' hz Y Z h1 h2 hk=>?_;refine wpAny_pyIter_zip hz ?_;have I2:Inv X pins σ H1 { G with heap:=h' }:=J.kept (t':=G.toks) hk;refine⟨G.heap.objs.size+4,[G.heap.objs.size+4,G.heap.objs.size+2,G.heap.objs.size+3,G.heap.objs.size,G.heap.objs.size+1],_,_,H1,rfl,I2,MF a b (G.heap.objs.size+4) xs ys (G.heap.objs.size+2) (G.heap.objs.size+3) G.heap.objs.size (G.heap.objs.size+1) ?_,⟨hz,Y,⟨_,_,Z⟩,h1,h2⟩,λc hc=>?_,q⟩
 .constructor<;>(refine nne ?_;lia)
 .have M:@LE.le Nat _ G.heap.objs.size c:=by
   simp only [aM,bS,bQ]at hc;rcases hc with rfl | rfl | rfl | rfl | rfl<;>lia
  exact J.fpOk M (J.hok.fresh M)
theorem SU{K:Fg}{a b acc:Addr}{xs zs:List V}{tt:TT}{te:TE}{cs:St}{H1:Hp}{Q:Hp->Prop}(hlen:xs.length=zs.length)(Pv:Nat->List V->Hp->Prop)(h0:Pv 0 [] (upd H1 acc (.lst [])))(hl:∀i ys H,i<=xs.length->Pv i ys H->SqT K H a xs/\SqT K H b zs)
 (hs:∀i u v p ys H,i<xs.length->xs[i]?=some u->zs[i]?=some v->H p=none->Pv i ys H->tt (some u::some v::cs) (upd H p (.tup [u,v])) (WZ xs.length Pv acc i te (some u::some v::cs))) (hd:∀ys H,Pv xs.length ys H->Q H):Uc (Tw K a b xs zs) 2 cs (P0 K 2 (YT (Q8 0) (YT (Q8 1) L5))) tt te H1 acc Q:=by
 refine Zh (N:=xs.length) Pv h0 (λys H p=>?_) λi ys H hi p=>?_
 .obtain⟨G,J⟩:=hl _ _ _ (4:) p;exact⟨⟨G,aZ _⟩,hd ys H p⟩
 .obtain⟨G,J⟩:=hl _ _ _ (cX hi) p;refine⟨⟨G,J,hi,by lia⟩,?_⟩;rintro x Z ⟨q,u,v,M,rfl,rfl,U,Y⟩ as L;obtain⟨a0,a1,rfl⟩:=Wg L;exact⟨q,[u,v],rfl,SqT.of Qb,rfl,u,[v],rfl,v,[],rfl,rfl,⟨[some u,some v],rfl,rfl⟩,hs i u v q ys _ hi U Y M p⟩
end L2
namespace K9
open PySem L2 TM
mutual
noncomputable def td:Tree Str->PyData
 | .node n m bs=>.tuple [.str n,.int m,.tuple (tds bs)]
noncomputable def tds:List (Tree Str)->List PyData
 | []=>[]
 | t::r=>td t::tds r
end
mutual
theorem TrV.rd{K:Fg}{H:Hp}:∀{v:V}{t:Tree Str},TrV K H v t->RdV K H v (td t)
 | _,_,.mk h1 h2 G _=>by
  simp only [td];exact .tup h1 (.cons (.str _) (.cons (.int _) (.cons (.tup h2 (TrAll.rd G)) .nil)))
theorem TrAll.rd{K:Fg}{H:Hp}:∀{vs:List V}{ts:List (Tree Str)},TrAll K H vs ts->RdAll K H vs (tds ts)
 | _,_,.nil=>by simp only [tds];exact .nil
 | _,_,.cons h t=>by simp only [tds];exact .cons (TrV.rd h) (TrAll.rd t)
end
abbrev KdT:=Addr×Str×Addr×List PNx
def RowAt(K:Fg)(H:Hp)(t:PNx):Prop:=SqT K H t.1 [.str t.2.1,.ref t.2.2.1]/\SqT K H t.2.2.1 (t.2.2.2.map V.str)
def RowsL(K:Fg)(H:Hp)(lr:Addr)(rs:List PNx):Prop:=SqL K H lr (rs.map λt=>V.ref t.1)/\∀t∈rs,RowAt K H t
def WoodAt(K:Fg)(H:Hp)(w:Addr)(ks:List KdT):Prop:=SqL K H w (ks.map λk=>V.ref k.1)/\∀k∈ks,SqT K H k.1 [.str k.2.1,.ref k.2.2.1]/\RowsL K H k.2.2.1 k.2.2.2
theorem RowAt.same{K:Fg}{t:PNx}(g:Same H H')(h:RowAt K H t):RowAt K H' t:=⟨g.seqT h.1,g.seqT h.2⟩
theorem RowsL.same{K:Fg}{lr:Addr}(g:Same H H')(h:RowsL K H lr rs):RowsL K H' lr rs:=⟨g.seq h.1,λt G=>(h.2 t G).same g⟩
theorem WoodAt.same{K:Fg}{w:Addr}{ks:List KdT}(g:Same H H')(h:WoodAt K H w ks):WoodAt K H' w ks:=⟨g.seq h.1,λk G=>⟨g.seqT (h.2 k G).1,(h.2 k G).2.same g⟩⟩
structure RowsOk(rs:List PNx):Prop where
 nd:(rs.map λt=>t.2.1).Nodup
 len:rs.length<=10
 nm:∀r∈rs,PyData.strOk r.2.1=true
 kn:∀r∈rs,∀x∈r.2.2.2,PyData.strOk x=true
 kl:∀r∈rs,r.2.2.2.length<=4
structure WoodOk(ks:List KdT):Prop where
 nd:(ks.map λk=>k.2.1).Nodup
 len:ks.length<=10
 rows:∀k∈ks,RowsOk k.2.2.2
def Qt(ks:List KdT)(kind:Str):List PNx:=((ks.find? λk=>decide (k.2.1=kind)).map λk=>k.2.2.2).getD []
theorem Lv{α:Type}(f:α->Str)(g:α->V)(z:Str):∀l:List α,UT (l.map λx=>((Sum.inr (f x):Key),g x)) (Sum.inr z)=(l.find? λx=>decide (f x=z)).map g
 | []=>rfl
 | x::r=>by
  rw [aR,cI]
  by_cases e:f x=z
  .rw [Y9 (p:=((Sum.inr (f x):Key),g x)) (by rw [e]),bO e];rfl
  .rw [Um (p:=((Sum.inr (f x):Key),g x)) (λq=>e (by injection q)),bV e];exact Lv f g z r
theorem NC{ks:List KdT}(h:WoodOk ks)(kind:Str):RowsOk (Qt ks kind):=by
 unfold Qt;cases e:ks.find? λk=>decide (k.2.1=kind)with
 | none=>exact⟨fh,bN _,λr G=>(nomatch G),λr G=>(nomatch G),λr G=>(nomatch G)⟩
 | some k=>exact h.rows k (gI e)
end K9
variable{ks' hs:List K9.KdT}{k0:K9.KdT}
namespace K11
open PySem L2 TM TT K9
def kpl:Lab->Bool
 | .call _ _=>false
 | .put _ k _=>k
mutual
noncomputable def kp:Tm->Bool
 | .node l _ bs=>kpl l||kps bs
noncomputable def kps:List Tm->Bool
 | []=>false
 | t::r=>kp t||kps r
end
theorem GZ:∀ts:List Tm,kps ts=(ts.map kp).any id
 | []=>by simp [kps]
 | t::r=>by simp only [kps,aR,fO,id,GZ r]
abbrev Md:=Str×List Tm
abbrev MdT:=Addr×Str×Addr×List V×List Tm
def MdT.md(m:MdT):Md:=(m.2.1,m.2.2.2.2)
def MdAt(K:Fg)(H:Hp)(m:MdT):Prop:=SqT K H m.1 [.str m.2.1,.ref m.2.2.1]/\SqL K H m.2.2.1 m.2.2.2.1/\TmAll K H m.2.2.2.1 m.2.2.2.2
def ModesL(K:Fg)(H:Hp)(lm:Addr)(ms:List MdT):Prop:=SqL K H lm (ms.map λm=>V.ref m.1)/\∀m∈ms,MdAt K H m
theorem MdAt.same{K:Fg}{m:MdT}(g:Same H H')(h:MdAt K H m):MdAt K H' m:=⟨g.seqT h.1,g.seq h.2.1,h.2.2.mono λ_ _=>g.seqT⟩
theorem ModesL.same{K:Fg}{ms:List MdT}(g:Same H H')(h:ModesL K H lm ms):ModesL K H' lm ms:=⟨g.seq h.1,λm G=>(h.2 m G).same g⟩
end K11
variable{ms ms':List K11.MdT}
namespace L2
open PySem PySem.Spec PyProof.Rows
section
variable{E:Value->Shared->Prop}
end
section
variable{p pos2:Pos}
theorem M5(hc:X.calm=true):Q6 X (.builtin "sum") (λxs H Q=>∃(l:Addr)(ns:List Int),xs=[.ref l]/\SqL X.K H l (ns.map V.int)/\Q (.int ns.sum) H):=by
 intro pins s σ H xs Z Q I r h;obtain⟨l,ns,rfl,J,q⟩:=h;cases r with
 | cons r L=>
  cases L;obtain rfl:_=Value.ref l:=r;obtain⟨its,M,p,_⟩:=I.list J;obtain⟨ys,rfl,G⟩:=Y6 M;have U:s.heap.IsList l (intItems ys.toArray):=by rw [Xw];exact p.isList
  refine sum_intListG (I.ok.hd hc) U λh' tk t' Y=>⟨.int ns.sum,H,I.kept (t':=tk) Y,⟨t',?_⟩,q⟩;rw [Sa,G,bR];rw [<-G];simp
end
end L2
namespace ST
open PySem TM
inductive Stp where
 | op:Stp
 | put:Str->Int->List Stp->Stp
mutual
noncomputable def met:Stp->Stp->Stp
 | .op,_=>.op
 | .put _ _ _,.op=>.op
 | .put n m ps,.put n' m' qs=>if n=n'/\m=m'/\ps.length=qs.length then .put n m (QG ps qs)else .op
noncomputable def QG:List Stp->List Stp->List Stp
 | [],_=>[]
 | _::_,[]=>[]
 | p::ps,q::qs=>met p q::QG ps qs
end
mutual
noncomputable def beg:Stp->Tree Str->Bool
 | .op,_=>true
 | .put n m ps,.node n' m' bs=>decide (n=n'/\m=m'/\ps.length=bs.length)&&YA ps bs
noncomputable def YA:List Stp->List (Tree Str)->Bool
 | [],_=>true
 | _::_,[]=>true
 | p::ps,b::bs=>beg p b&&YA ps bs
end
mutual
noncomputable def sl:Stp->Nat
 | .op=>1
 | .put _ _ ps=>1+sls ps
noncomputable def sls:List Stp->Nat
 | []=>0
 | p::r=>max (sl p) (sls r)
end
mutual
noncomputable def SOk:Stp->Prop
 | .op=>True
 | .put n _ ps=>PyData.strOk n=true/\ps.length<=4/\Yi ps
noncomputable def Yi:List Stp->Prop
 | []=>True
 | p::r=>SOk p/\Yi r
end
theorem ZY:∀ps qs:List Stp,ps.length=qs.length->(QG ps qs).length=ps.length
 | [],_,_=>by simp [QG]
 | _::_,[],h=>by simp at h
 | p::ps,q::qs,h=>by simp only [QG,bK];rw [ZY ps qs (by simpa using h)]
theorem Vp:∀ps qs:List Stp,QG ps qs=List.zipWith met ps qs
 | [],_=>by simp [QG]
 | _::_,[]=>by simp [QG]
 | p::ps,q::qs=>by simp only [QG,List.zipWith_cons_cons];rw [Vp ps qs]
theorem LZ{ps:List Stp}{p:Stp}(h:p∈ps):sl p<=sls ps:=by
 induction ps with
 | nil=>cases h
 | cons u r G=>
  simp only [sls];rcases aM.mp h with rfl | h
  .lia
  .have:=G h;lia
theorem N5(s:Stp):0<sl s:=by cases s<;>simp only [sl]<;>lia
theorem Yf(ps:List Stp):Yi ps↔ ∀p∈ps,SOk p:=by
 induction ps with
 | nil=>simp [Yi]
 | cons u r G=>simp only [Yi,G,aM,gf]
mutual
theorem ZH:∀a b:Stp,met a b=met b a
 | .op,.op=>by simp [met]
 | .op,.put _ _ _=>by simp [met]
 | .put _ _ _,.op=>by simp [met]
 | .put n m ps,.put J L qs=>by
  simp only [met]
  by_cases h:n=J/\m=L/\ps.length=qs.length
  .obtain⟨rfl,rfl,G⟩:=h;rw [aH ⟨rfl,rfl,G⟩,aH ⟨rfl,rfl,G.symm⟩,XA ps qs]
  .rw [aG h,aG λz=>h ⟨z.1.symm,z.2.1.symm,z.2.2.symm⟩]
theorem XA:∀a b:List Stp,QG a b=QG b a
 | [],[]=>by simp [QG]
 | [],_::_=>by simp [QG]
 | _::_,[]=>by simp [QG]
 | p::ps,q::qs=>by simp only [QG];rw [ZH p q,XA ps qs]
end
mutual
theorem Uo:∀a:Stp,met a a=a
 | .op=>by simp [met]
 | .put n m ps=>by simp only [met,and_self,cD];rw [XH ps]
theorem XH:∀a:List Stp,QG a a=a
 | []=>by simp [QG]
 | p::ps=>by simp only [QG];rw [Uo p,XH ps]
end
theorem Z6(a:Stp):met a .op=.op:=by cases a<;>simp [met]
theorem Z4(n n':Str)(m m':Int)(ps qs:List Stp):met (.put n m ps) (.put n' m' qs)=if n=n'/\m=m'/\ps.length=qs.length then .put n m (QG ps qs)else .op:=by rw [met]
theorem UN(a:Stp):met .op a=.op:=by rw [met]
theorem CZ(n n' n2:Str)(m m' m2:Int)(ps qs rs:List Stp)(ih:QG (QG ps qs) rs=QG ps (QG qs rs)):
 met (met (.put n m ps) (.put n' m' qs)) (.put n2 m2 rs)=met (.put n m ps) (met (.put n' m' qs) (.put n2 m2 rs)):=by
 rw [Z4,Z4]
 by_cases h:n=n'/\m=m'/\ps.length=qs.length
 .have J:=ZY ps qs h.2.2;rw [aH h,Z4]
  by_cases h':n'=n2/\m'=m2/\qs.length=rs.length
  .have G:=ZY qs rs h'.2.2;rw [aH h',Z4,aH ⟨h.1.trans h'.1,h.2.1.trans h'.2.1,by lia⟩,aH ⟨h.1,h.2.1,by lia⟩,ih]
  .rw [aG h',Z6,aG λz=>h' ⟨h.1.symm.trans z.1,h.2.1.symm.trans z.2.1,by have:=z.2.2;lia⟩]
 .rw [aG h,UN]
  by_cases h':n'=n2/\m'=m2/\qs.length=rs.length
  .have G:=ZY qs rs h'.2.2;rw [aH h',Z4,aG λz=>h ⟨z.1,z.2.1,by have:=z.2.2;lia⟩]
  .rw [aG h',Z6]
mutual
theorem YJ:∀a b c:Stp,met (met a b) c=met a (met b c)
 | .op,b,c=>by rw [UN,UN,UN]
 | .put n m ps,.op,c=>by rw [Z6,UN,Z6]
 | .put n m ps,.put G J qs,.op=>by rw [Z6,Z6,Z6]
 | .put n m ps,.put G J qs,.put M U L=>CZ n G M m J U ps qs L (JG ps qs L)
theorem JG:∀a b c:List Stp,QG (QG a b) c=QG a (QG b c)
 | [],_,_=>by simp [QG]
 | _::_,[],_=>by simp [QG]
 | _::_,_::_,[]=>by simp [QG]
 | p::ps,q::qs,r::rs=>by simp only [QG];rw [YJ p q r,JG ps qs rs]
end
theorem Ma(a b:Stp):met (met a b) a=met a b:=by
 rw [ZH a b,YJ,Uo]
mutual
theorem Lm:∀(a b:Stp)(t:Tree Str),beg a t=true->beg (met a b) t=true
 | .op,_,_,_=>by simp [met,beg]
 | .put _ _ _,.op,_,_=>by simp [met,beg]
 | .put n m ps,.put J L qs,.node M U bs,h=>by
  simp only [met]
  by_cases G:n=J/\m=L/\ps.length=qs.length
  .rw [aH G];simp only [beg,bC,eJ]at h ⊢;have e:=ZY ps qs G.2.2;exact⟨⟨h.1.1,h.1.2.1,by have:=h.1.2.2;lia⟩,WU ps qs bs h.2⟩
  .rw [aG G];simp [beg]
theorem WU:∀(a b:List Stp)(t:List (Tree Str)),YA a t=true->YA (QG a b) t=true
 | [],_,_,_=>by simp [QG,YA]
 | _::_,[],_,_=>by simp [QG,YA]
 | _::_,_::_,[],_=>by simp [QG,YA]
 | p::ps,q::qs,b::bs,h=>by
  simp only [QG,YA,bC]at h ⊢;exact⟨Lm p q b h.1,WU ps qs bs h.2⟩
end
mutual
theorem Xc:∀a b:Stp,SOk a->SOk (met a b)/\sl (met a b)<=sl a
 | .op,_,_=>by simp [met,SOk,sl]
 | .put _ _ _,.op,_=>by simp only [met,SOk,sl];exact⟨trivial,by lia⟩
 | .put n m ps,.put J L qs,h=>by
  simp only [met]
  by_cases G:n=J/\m=L/\ps.length=qs.length
  .rw [aH G];simp only [SOk,sl]at h ⊢;obtain⟨h1,h2⟩:=GO ps qs h.2.2;have e:=ZY ps qs G.2.2;exact⟨⟨h.1,by lia,h1⟩,by lia⟩
  .rw [aG G];simp only [SOk,sl];exact⟨trivial,by lia⟩
theorem GO:∀a b:List Stp,Yi a->Yi (QG a b)/\sls (QG a b)<=sls a
 | [],_,_=>by simp [QG,Yi,sls]
 | _::_,[],_=>by simp [QG,Yi,sls]
 | p::ps,q::qs,h=>by
  simp only [QG,Yi,sls]at h ⊢;obtain⟨h1,h2⟩:=Xc p q h.1;obtain⟨G,J⟩:=GO ps qs h.2;exact⟨⟨h1,G⟩,by lia⟩
end
end ST
namespace L2
open PySem PyProof.Rows TM ST
abbrev YY:Str:=Str.ofString "open"
abbrev W6:Str:=Str.ofString "put"
mutual
inductive SV(K:Fg)(H:Hp):V->Stp->Prop where
 | op {a:Addr}:SqT K H a [.str YY]->SV K H (.ref a) .op
 | put {a b:Addr} {vs:List V} {ps:List Stp} {n:Str} {m:Int}:SqT K H a [.str W6,.str n,.int m,.ref b]->SqT K H b vs->SAll K H vs ps->SV K H (.ref a) (.put n m ps)
inductive SAll(K:Fg)(H:Hp):List V->List Stp->Prop where
 | nil:SAll K H [] []
 | cons {v:V} {vs:List V} {t:Stp} {ts:List Stp}:SV K H v t->SAll K H vs ts->SAll K H (v::vs) (t::ts)
end
mutual
theorem SV.mono{K:Fg}{H H':Hp}(k:∀a xs,SqT K H a xs->SqT K H' a xs):∀{v:V}{t:Stp},SV K H v t->SV K H' v t
 | _,_,.op h=>.op (k _ _ h)
 | _,_,.put h1 h2 G=>.put (k _ _ h1) (k _ _ h2) (SAll.mono k G)
theorem SAll.mono{K:Fg}{H H':Hp}(k:∀a xs,SqT K H a xs->SqT K H' a xs):∀{vs:List V}{ts:List Stp},SAll K H vs ts->SAll K H' vs ts
 | _,_,.nil=>.nil
 | _,_,.cons h t=>.cons (SV.mono k h) (SAll.mono k t)
end
theorem SAll.length{K:Fg}:∀{vs:List V}{ts:List Stp},SAll K H vs ts->vs.length=ts.length
 | _,_,.nil=>rfl
 | _,_,.cons _ t=>by rw [bK,bK,SAll.length t]
theorem SAll.get{K:Fg}:∀{vs:List V}{ts:List Stp}{i:Nat}{t:Stp},SAll K H vs ts->ts[i]?=some t->∃v,vs[i]?=some v/\SV K H v t
 | _,_,_,_,.nil,e=>by simp at e
 | _,_,0,_,.cons h _,e=>by simp at e;subst e;exact⟨_,rfl,h⟩
 | _,_,i+1,t,.cons _ r,e=>by
  obtain⟨v,h1,h2⟩:=SAll.get (i:=i) (t:=t) r (by simpa using e);exact⟨v,by simpa using h1,h2⟩
theorem SAll.append{K:Fg}:∀{vs ws:List V}{ts us:List Stp},SAll K H vs ts->SAll K H ws us->SAll K H (vs++ws) (ts++us)
 | _,_,_,_,.nil,h=>h
 | _,_,_,_,.cons a t,h=>.cons a (SAll.append t h)
mutual
noncomputable def sd:Stp->PyData
 | .op=>.tuple [.str YY]
 | .put n m ps=>.tuple [.str W6,.str n,.int m,.tuple (sds ps)]
noncomputable def sds:List Stp->List PyData
 | []=>[]
 | p::r=>sd p::sds r
end
mutual
theorem SV.rd{K:Fg}{H:Hp}:∀{v:V}{t:Stp},SV K H v t->RdV K H v (sd t)
 | _,_,.op h=>by
  simp only [sd];exact .tup h (.cons (.str _) .nil)
 | _,_,.put h1 h2 G=>by
  simp only [sd];exact .tup h1 (.cons (.str _) (.cons (.str _) (.cons (.int _) (.cons (.tup h2 (SAll.rd G)) .nil))))
theorem SAll.rd{K:Fg}{H:Hp}:∀{vs:List V}{ts:List Stp},SAll K H vs ts->RdAll K H vs (sds ts)
 | _,_,.nil=>by simp only [sds];exact .nil
 | _,_,.cons h t=>by simp only [sds];exact .cons (SV.rd h) (SAll.rd t)
end
theorem Py:PyData.strOk YY=true:=by decide+kernel
theorem Ol:PyData.strOk W6=true:=by decide+kernel
mutual
theorem Nl:∀s:Stp,SOk s->(sd s).canLay0=true/\(sd s).depth<=2*sl s
 | .op,_=>by
  simp only [sd,PyData.canLay0,PyData.canLayAll0,Py,cJ,PyData.depth,PyData.depthAll,sl];exact⟨trivial,by lia⟩
 | .put n m ps,h=>by
  simp only [SOk]at h;obtain⟨h1,h2⟩:=O3 ps h.2.2;constructor
  .simp only [sd,PyData.canLay0,PyData.canLayAll0,Ol,h.1,h1,cJ]
  .simp only [sd,PyData.depth,PyData.depthAll,sl];lia
theorem O3:∀ps:List Stp,Yi ps->PyData.canLayAll0 (sds ps)=true/\PyData.depthAll (sds ps)<=2*sls ps
 | [],_=>by simp [sds,PyData.canLayAll0,PyData.depthAll,sls]
 | p::r,h=>by
  simp only [Yi]at h;obtain⟨h1,h2⟩:=Nl p h.1;obtain⟨G,J⟩:=O3 r h.2;simp only [sds,PyData.canLayAll0,PyData.depthAll,h1,G,cJ,true_and,sls];lia
end
theorem Uu{K:Fg}{s:Stp}(h:SV K H v s):(∃a,v=.ref a/\s=.op/\SqT K H a [.str YY]) \/
 ∃a b vs n m ps,v=.ref a/\s=.put n m ps/\SqT K H a [.str W6,.str n,.int m,.ref b]/\SqT K H b vs/\SAll K H vs ps:=by
 cases h with
 | op h=>exact .inl ⟨_,rfl,rfl,h⟩
 | put h1 h2 G=>exact .inr ⟨_,_,_,_,_,_,rfl,rfl,h1,h2,G⟩
def hd3(n:Str)(m:Int)(k:Nat):PyData:=.tuple [.str n,.int m,.int (k:Int)]
theorem Pt{n:Str}(hn:PyData.strOk n=true)(m:Int)(k:Nat):(hd3 n m k).canLay0=true/\(hd3 n m k).depth<=1:=by
 constructor
 .simp only [hd3,PyData.canLay0,PyData.canLayAll0,hn,cJ]
 .simp only [hd3,PyData.depth,PyData.depthAll];lia
theorem Rj(n n':Str)(m m':Int)(k k':Nat):PyData.eqv (hd3 n m k) (hd3 n' m' k')=decide (n=n'/\m=m'/\k=k'):=by
 simp only [hd3,PyData.eqv,PyData.eqvAll,Bool.and_true];rw [gv];simp only [bC,fm,eJ];constructor
 .rintro⟨a,b,c⟩;exact⟨a,b,by lia⟩
 .rintro⟨a,b,c⟩;exact⟨a,b,by lia⟩
def Dk(H:Hp)(d:Addr):Prop:=∃xs:List Int,H d=some (.lst (xs.map V.int))
def SameD(d:Addr)(H H':Hp):Prop:=∀b u,b≠d->H b=some u->H' b=some u
theorem SameD.refl(d:Addr)(H:Hp):SameD d H H:=λ_ _ _ e=>e
theorem SameD.trans(a:SameD d H H1)(b:SameD d H1 H2):SameD d H H2:=λx u n e=>b x u n (a x u n e)
theorem SameD.of(h:Same H H'):SameD d H H':=λb u _ e=>h b u e
theorem SameD.seqT{K:Fg}(g:SameD d H H')(hd:Dk H d)(h:SqT K H a xs):SqT K H' a xs:=by
 obtain⟨J,hd⟩:=hd;rcases h with(h | ⟨G,h⟩) | h
 .exact .inl (.inl (g _ _ (QN h hd (18:)) h))
 .exact .inl (.inr ⟨G,g _ _ (QN h hd (18:)) h⟩)
 .exact .inr h
theorem Dk.ne(h:Dk H d)(ha:H a=none):a≠d:=by
 obtain⟨xs,h⟩:=h;rintro rfl;rw [ha]at h;cases h
end L2
namespace L2
open PySem PyProof.Rows TM
abbrev VI:Str:=Str.ofString "abcdefghijklmnopqrstuvwxyz"
def TY:List Nat:=[97,98,99,100,101,102,103,104,105,106,107,108,109,110,111,112,113,114,115,116,117,118,119,120,121,122]
theorem Pr:VI=S TY:=by decide+kernel
theorem Si:VI.cps.toList=TY:=by rw [Pr,Nz]
theorem RX:Str.ofString ""=S []:=by decide+kernel
theorem Tc(c:Nat):(⟨#[c]⟩:Str)=S [c]:=rfl
def Nm(z:Str):Prop:=PyData.strOk z=true
theorem Nm.of{u:List Nat}(h:∀c∈u,c<128):Nm (S u):=by
 unfold Nm PyData.strOk;rw [Array.all_eq_true_iff_forall_mem];intro c G;have:c∈u:=by simpa [S]using G
 have:=h c this;simp;lia
theorem Room.fit{k:Nat}(r:Room k A)(h:n<=64):A.units+n<cLine:=by have:=r.units;lia
def YO(x:Int):Nat:=97+(x%26).toNat
theorem Pi:∀i:Fin 26,TY[i.val]?=some (97+i.val):=by decide
theorem SI(x:Int):atI VI.cps.toList (x%26)=some (YO x):=by
 have G:0<=x%26:=cK _ (11:);have h1:x%26<26:=cV _ (11:);have e:x%26=(((x%26).toNat:Nat):Int):=by lia
 rw [e,Si];exact Qq (Pi ⟨(x%26).toNat,by lia⟩)
theorem O5(x:Int):YO x<128:=by
 have h1:x%26<26:=cV _ (11:);unfold YO;lia
theorem Mj{x y:Int}(h:YO x=YO y):x%26=y%26:=by
 have G:0<=x%26:=cK _ (11:);have h1:0<=y%26:=cK _ (11:);unfold YO at h;lia
end L2
namespace L2
open PySem PyProof.Rows TM TT K9 K11
theorem SameD.seqL{K:Fg}(g:SameD d H H')(hne:a≠d)(h:SqL K H a xs):SqL K H' a xs:=by
 rcases h with(h | ⟨G,h⟩) | h
 .exact .inl (.inl (g _ _ hne h))
 .exact .inl (.inr ⟨G,g _ _ hne h⟩)
 .exact .inr h
theorem SameD.put(g:SameD d H H')(ha:H a=none):SameD d H (L2.upd H' a o):=λb u G e=>by
 rw [Qh (Qg e ha)];exact g _ _ G e
end L2
namespace ST
open PySem TM TT
mutual
noncomputable def TDr(cs:List (Int×Int)):Tm->Prop
 | .node (.call m b) _ _=>(m,b)∈cs
 | .node (.put n _ _) _ bs=>PyData.strOk n=true/\bs.length<=3/\Xh cs bs
noncomputable def Xh(cs:List (Int×Int)):List Tm->Prop
 | []=>True
 | b::r=>TDr cs b/\Xh cs r
end
theorem N7(cs:List (Int×Int))(bs:List Tm):Xh cs bs↔ ∀b∈bs,TDr cs b:=by
 induction bs with
 | nil=>simp [Xh]
 | cons u r G=>simp only [Xh,G,aM,gf]
theorem G0{α:Type}{bs:List (Tree α)}(h:∀b∈bs,lv b<=n):lvs bs<=n:=by
 induction bs with
 | nil=>simp [lvs]
 | cons u r G=>
  simp only [lvs];have h1:=h u aQ;have h2:=G λb J=>h b (aV _ J);lia
end ST
namespace L2
open PySem PyProof.Rows TM TT ST
theorem SameD.new{d a:Addr}{H:Hp}{o:HO}(h:H a=none):SameD d H (L2.upd H a o):=SameD.of (Qd h o)
theorem Jq{α:Type}{xs:List α}{r:Int}{v:α}(h0:0<=r)(h:xs[r.toNat]?=some v):atI xs r=some v:=by
 obtain⟨n,rfl⟩:=Int.eq_ofNat_of_zero_le h0;exact Qq (by simpa using h)
end L2
namespace L2
open PySem PyProof.Rows TM TT ST K9 K11
structure TurnD(K:Fg)(H:Hp)(tu wd lm:Addr)(sv:V)(ks:List KdT)(st:Tm)(ms:List MdT):Prop where
 tu:SqT K H tu [.ref wd,sv,.ref lm]
 w:WoodAt K H wd ks
 s:TmV K H sv st
 m:ModesL K H lm ms
theorem TurnD.same{K:Fg}{ks:List KdT}{st:Tm}(g:Same H H')(h:TurnD K H tu wd lm sv ks st ms):TurnD K H' tu wd lm sv ks st ms:=⟨g.seqT h.tu,h.w.same g,h.s.mono λ_ _=>g.seqT,h.m.same g⟩
def Z1(k:KdT):Str×List PNx:=(k.2.1,k.2.2.2)
def YZ(r:PNx):PyData:=.tuple [.str r.2.1,.tuple (r.2.2.2.map .str)]
theorem LH{K:Fg}:∀{rs:List PNx},(∀t∈rs,RowAt K H t)->RdAll K H (rs.map λt=>V.ref t.1) (rs.map YZ)
 | [],_=>.nil
 | t::r,h=>.cons (.tup (h t aQ).1 (.cons (.str _) (.cons (.tup (h t aQ).2 (Wi _)) .nil))) (LH λu G=>h u (aV _ G))
theorem WQ:∀{rs:List PNx},(∀r∈rs,PyData.strOk r.2.1=true)->(∀r∈rs,∀x∈r.2.2.2,PyData.strOk x=true)->PyData.canLayAll0 (rs.map YZ)=true
 | [],_,_=>by simp [PyData.canLayAll0]
 | r::rs,h1,h2=>by
  simp only [aR,PyData.canLayAll0,YZ,PyData.canLay0,h1 r aQ,JM _ (h2 r aQ),cJ,Bool.true_and];exact WQ (λu G=>h1 u (aV _ G)) λu G=>h2 u (aV _ G)
def YF(p:Str×List PNx):PyData:=.tuple [.str p.1,.list (p.2.map YZ)]
theorem WE{K:Fg}:∀{ks:List KdT},(∀k∈ks,SqT K H k.1 [.str k.2.1,.ref k.2.2.1]/\RowsL K H k.2.2.1 k.2.2.2)->RdAll K H (ks.map λk=>V.ref k.1) ((ks.map Z1).map YF)
 | [],_=>.nil
 | k::r,h=>.cons (.tup (h k aQ).1 (.cons (.str _) (.cons (.lst (h k aQ).2.1 (LH (h k aQ).2.2)) .nil))) (WE λu G=>h u (aV _ G))
theorem Xn:∀{ks:List KdT},(∀k∈ks,PyData.strOk k.2.1=true)->(∀k∈ks,RowsOk k.2.2.2)->PyData.canLayAll0 ((ks.map Z1).map YF)=true
 | [],_,_=>by simp [PyData.canLayAll0]
 | k::r,h1,h2=>by
  have J:PyData.canLayAll0 (k.2.2.2.map YZ)=true:=WQ (h2 k aQ).nm (h2 k aQ).kn;simp only [aR,PyData.canLayAll0,YF,Z1,PyData.canLay0,h1 k aQ,J,cJ,Bool.true_and];exact Xn (λu G=>h1 u (aV _ G)) λu G=>h2 u (aV _ G)
theorem JP:∀rs:List PNx,PyData.depthAll (rs.map YZ)<=2
 | []=>by simp [PyData.depthAll]
 | r::rs=>by
  have:=JP rs;simp only [aR,PyData.depthAll,YZ,PyData.depth,Y3];lia
theorem Ja:∀ks:List (Str×List PNx),PyData.depthAll (ks.map YF)<=4
 | []=>by simp [PyData.depthAll]
 | k::r=>by
  have h1:=Ja r;have h2:=JP k.2;simp only [aR,PyData.depthAll,YF,PyData.depth];lia
end L2
namespace K41
open PySem L2 TM TT
def top(i:Nat):Stmt:=PySem.Challenge.pw_turnery_k41_early_makes_the_same.main.body.getD i (.Pass ⟨0,0,0,0⟩)
abbrev Mn:Stmt:=top 7
abbrev sCO:Stmt:=top 10
abbrev sWP:Stmt:=top 13
abbrev Pd:Stmt:=top 42
abbrev Wb:Stmt:=top 43
abbrev VZ:Stmt:=top 44
abbrev OO:Stmt:=top 45
abbrev OI:Stmt:=top 46
abbrev V7:Stmt:=top 47
abbrev G2:Stmt:=top 48
abbrev P8:Stmt:=top 49
abbrev NZ:Stmt:=top 50
abbrev Ga:Stmt:=top 51
abbrev sWh:Stmt:=top 52
abbrev P3:Stmt:=top 53
abbrev PJ:Stmt:=top 54
abbrev WA:Stmt:=top 55
abbrev Nr:Stmt:=top 56
abbrev sBy:Stmt:=top 57
abbrev Av:Stmt:=top 58
abbrev Gj:Stmt:=top 59
structure Gm(mg:Str->Option Value):Prop where
 len:mg "len"=none
 isi:mg "isinstance"=none
 boo:mg "bool"=none
 int:mg "int"=none
 str:mg "str"=none
 tup:mg "tuple"=none
 lst:mg "list"=none
 rng:mg "range"=none
 sum:mg "sum"=none
 max:mg "max"=none
 srt:mg "sorted"=none
 zip:mg "zip"=none
 all:mg "all"=none
 any:mg "any"=none
 enu:mg "enumerate"=none
 dct:mg "dict"=none
theorem Jo{α:Type}:∀l r:List (Tree α),szs (l++r)=szs l+szs r
 | [],r=>by simp [szs]
 | t::l,r=>by rw [fb,szs,szs,Jo l r];lia
theorem O1{α:Type}(l:List (Tree α))(i:Nat):szs (l.take i)<=szs l:=by
 have:=Jo (l.take i) (l.drop i);rw [gM]at this;lia
theorem LS{α:Type}{d:Nat}:∀{l:List (Tree α)},(∀t∈l,sz t<=d)->szs l<=l.length*d
 | [],_=>by simp [szs]
 | t::r,h=>by
  have h1:=h t aQ;have h2:=LS (l:=r) λu G=>h u (aV _ G);rw [szs,bK,Nat.succ_mul];lia
def zb:Nat->Nat
 | 0=>0
 | 1=>1
 | 2=>2
 | 3=>7
 | _=>9
def Lz(n:Nat)(t:Tm):Prop:=lv t<=n/\sz t<=zb n
theorem Tq:∀n,1<=zb (n+1)
 | 0=>by decide
 | 1=>by decide
 | 2=>by decide
 | _+3=>by simp only [zb];lia
def CPr(p:Int->Int->Prop)(t:Tm):Prop:=∀c∈cls t,p c.1 c.2
theorem CPr.bs{p:Int->Int->Prop}{n:Str}{k:Bool}{a z:Int}{bs:List Tm}(h:CPr p (.node (.put n k a) z bs)):∀b∈bs,CPr p b:=λb G c J=>h c (by simp only [cls,lcl,dG];exact NH G c J)
theorem ZZ{K:Fg}{t:Tm}(h:TmV K H v t):(∃a m b,v=.ref a/\t=Uh m b/\SqT K H a [.str ZB,.int m,.int b]) \/
 ∃a b vs n k ad,v=.ref a/\t=.node (.put n k ad) 0 t.bs/\SqT K H a [.str PUT,.str n,.bl k,.int ad,.ref b]/\SqT K H b vs/\TmAll K H vs t.bs/\vs.length<=1000:=by
 cases h with
 | call h=>exact .inl ⟨_,_,_,rfl,rfl,h⟩
 | put h1 h2 G J=>exact .inr ⟨_,_,_,_,_,_,rfl,rfl,h1,h2,G,J⟩
theorem tm_op{K:Fg}{t:Tm}(h:TmV K H v t):(∃a m b,v=.ref a/\t=.node (.call m b) 0 []/\SqT K H a [.str ZB,.int m,.int b]) \/
 ∃a b vs n k ad ts,v=.ref a/\t=.node (.put n k ad) 0 ts/\SqT K H a [.str PUT,.str n,.bl k,.int ad,.ref b]/\SqT K H b vs/\TmAll K H vs ts/\vs.length<=1000:=by
 cases h with
 | call h=>exact .inl ⟨_,_,_,rfl,rfl,h⟩
 | put h1 h2 G J=>exact .inr ⟨_,_,_,_,_,_,_,rfl,rfl,h1,h2,G,J⟩
end K41
namespace ST
open PySem TM TT
def Bel(a b:Stp):Prop:=met a b=a
theorem Bel.refl(a:Stp):Bel a a:=Uo a
theorem Bel.trans{a b c:Stp}(h:Bel a b)(k:Bel b c):Bel a c:=by
 unfold Bel at*;rw [<-h,YJ,k]
theorem Bel.anti{a b:Stp}(h:Bel a b)(k:Bel b a):a=b:=by
 unfold Bel at*;rw [<-h,ZH];exact k
theorem G1(a b:Stp):Bel (met a b) a:=by unfold Bel;exact Ma a b
theorem Ti(a b:Stp):Bel (met a b) b:=by rw [ZH];exact G1 b a
theorem GG{x a b:Stp}(h:Bel x a)(k:Bel x b):Bel x (met a b):=by
 unfold Bel at*;rw [<-YJ,h,k]
mutual
noncomputable def rsT(S:Int->Stp):Tm->Stp
 | .node (.call m _) _ _=>S m
 | .node (.put n k a) _ bs=>if k=true then .op else .put n a (ZU S bs)
noncomputable def ZU(S:Int->Stp):List Tm->List Stp
 | []=>[]
 | b::r=>rsT S b::ZU S r
end
theorem Ud(S:Int->Stp)(bs:List Tm):ZU S bs=bs.map (rsT S):=by
 induction bs with
 | nil=>rfl
 | cons b r G=>simp only [ZU,aR,G]
theorem Uk(S:Int->Stp)(bs:List Tm):(ZU S bs).length=bs.length:=by rw [Ud,aE]
mutual
theorem LN{S S':Int->Stp}(h:∀m,Bel (S m) (S' m)):∀t:Tm,Bel (rsT S t) (rsT S' t)
 | .node (.call m b) _ _=>by simp only [rsT];exact h m
 | .node (.put n k a) _ bs=>by
  simp only [rsT];cases k with
  | true=>simp only [cD];exact Bel.refl _
  | false=>
   simp only [cE,bU];have:=W4 h bs;unfold Bel;rw [Z4,aH ⟨rfl,rfl,by rw [Uk,Uk]⟩,this]
theorem W4{S S':Int->Stp}(h:∀m,Bel (S m) (S' m)):∀bs:List Tm,QG (ZU S bs) (ZU S' bs)=ZU S bs
 | []=>by simp only [ZU,QG]
 | b::r=>by
  simp only [ZU,QG];have h1:met (rsT S b) (rsT S' b)=rsT S b:=LN h b;rw [h1,W4 h r]
end
mutual
theorem Ue{S S':Int->Stp}:∀t:Tm,(∀c∈cls t,S c.1=S' c.1)->rsT S t=rsT S' t
 | .node (.call m b) _ bs,h=>by simp only [rsT];exact h (m,b) (by simp [cls,lcl])
 | .node (.put n k a) _ bs,h=>by
  simp only [rsT];rw [XO bs λc G=>h c (by simp only [cls,lcl,dG];exact G)]
theorem XO{S S':Int->Stp}:∀bs:List Tm,(∀c∈Q7 bs,S c.1=S' c.1)->ZU S bs=ZU S' bs
 | [],_=>rfl
 | b::r,h=>by
  simp only [ZU];rw [Ue b λc G=>h c (by simp only [Q7];exact cT _ G),XO r λc G=>h c (by simp only [Q7];exact cB _ G)]
end
def Vk:List Stp->Stp
 | []=>.op
 | x::r=>r.foldl met x
theorem Vn:∀(r:List Stp)(x:Stp),Bel (r.foldl met x) x/\∀y∈r,Bel (r.foldl met x) y
 | [],x=>⟨Bel.refl _,λy G=>(nomatch G)⟩
 | z::r,x=>by
  obtain⟨h1,h2⟩:=Vn r (met x z);refine⟨h1.trans (G1 _ _),λy G=>?_⟩;rcases aM.mp G with e | h
  .rw [e];exact h1.trans (Ti _ _)
  .exact h2 y h
theorem WK{w:Stp}:∀(r:List Stp)(x:Stp),Bel w x->(∀y∈r,Bel w y)->Bel w (r.foldl met x)
 | [],x,h,_=>h
 | z::r,x,h,k=>WK r (met x z) (GG h (k z aQ)) λy G=>k y (aV _ G)
theorem Yr{l:List Stp}{y:Stp}(h:y∈l):Bel (Vk l) y:=by
 cases l with
 | nil=>cases h
 | cons x r=>
  obtain⟨h1,h2⟩:=Vn r x;rcases aM.mp h with e | h
  .rw [e];exact h1
  .exact h2 y h
theorem J9{w:Stp}{l:List Stp}(hne:l≠[])(h:∀y∈l,Bel w y):Bel w (Vk l):=by
 cases l with
 | nil=>exact absurd rfl hne
 | cons x r=>exact WK r x (h x aQ) λy G=>h y (aV _ G)
mutual
noncomputable def ssz:Stp->Nat
 | .op=>1
 | .put _ _ ps=>2+ZM ps
noncomputable def ZM:List Stp->Nat
 | []=>0
 | p::r=>ssz p+ZM r
end
mutual
theorem Ll:∀a b:Stp,ssz (met a b)<=ssz a/\(met a b≠a->ssz (met a b)<ssz a)
 | .op,_=>by simp only [met];exact⟨aZ _,λh=>absurd rfl h⟩
 | .put n m ps,.op=>by simp only [met,ssz];exact⟨by lia,λ_=>by lia⟩
 | .put n m ps,.put J L qs=>by
  rw [Z4]
  by_cases h:n=J/\m=L/\ps.length=qs.length
  .rw [aH h];obtain⟨h1,h2⟩:=VB ps qs h.2.2;simp only [ssz];refine⟨by lia,λG=>?_⟩;have:=h2 λz=>G (by rw [z]);lia
  .rw [aG h];simp only [ssz];exact⟨by lia,λ_=>by lia⟩
theorem VB:∀a b:List Stp,a.length=b.length->ZM (QG a b)<=ZM a/\(QG a b≠a->ZM (QG a b)<ZM a)
 | [],_,_=>by simp only [QG];exact⟨aZ _,λh=>absurd rfl h⟩
 | _::_,[],h=>by simp at h
 | p::ps,q::qs,h=>by
  obtain⟨h1,h2⟩:=Ll p q;obtain⟨L,J⟩:=VB ps qs (by simpa using h);simp only [QG,ZM];refine⟨by lia,λG=>?_⟩
  by_cases e:met p q=p
  .have:QG ps qs≠ps:=λz=>G (by rw [e,z]);have:=J this;lia
  .have:=h2 e;lia
end
theorem LY{a b:Stp}(h:Bel a b):ssz a<=ssz b/\(a≠b->ssz a<ssz b):=by
 have e:met b a=a:=by rw [ZH];exact h
 have:=Ll b a;rw [e]at this;exact this
abbrev Rls:=List (List (Bool×Tm))
def lookS(S:List Stp):Int->Stp:=λm=>(S[m.toNat]?).getD .op
def Jb(rs:List (Bool×Tm)):Stp:=Vk ((rs.filter λr=>r.1).map λr=>rsT (λ_=>.op) r.2)
def Uw(S:List Stp)(rs:List (Bool×Tm)):Stp:=Vk (rs.map λr=>rsT (lookS S) r.2)
def D(ms:Rls):Nat->List Stp
 | 0=>ms.map Jb
 | n+1=>ms.map (Uw (D ms n))
theorem Uf(ms:Rls):∀n,(D ms n).length=ms.length
 | 0=>by simp [D]
 | n+1=>by simp [D]
def JH(ms:Rls):Prop:=∀rs∈ms,(∃r∈rs,r.1=true)/\∀r∈rs,r.1=true->cls r.2=[]
theorem ZD{f:List (Bool×Tm)->Stp}{ms:Rls}{m:Int}:lookS (ms.map f) m=((ms[m.toNat]?).map f).getD .op:=by
 unfold lookS;rw [aJ]
theorem MK{ms:Rls}(ok:JH ms)(S:List Stp){rs:List (Bool×Tm)}(h:rs∈ms):Bel (Uw S rs) (Jb rs):=by
 obtain⟨⟨J,L,Y⟩,Z⟩:=ok rs h;refine J9 ?_ λy hy=>?_
 .intro z;have:rsT (λ_=>Stp.op) J.2∈(rs.filter λr=>r.1).map λr=>rsT (λ_=>.op) r.2:=aK.mpr ⟨J,dB.mpr ⟨L,Y⟩,rfl⟩;rw [z]at this;cases this
 .obtain⟨r,hr,rfl⟩:=aK.mp hy;obtain⟨G,M⟩:=dB.mp hr;have e:rsT (λ_=>Stp.op) r.2=rsT (lookS S) r.2:=Ue r.2 λc U=>by rw [Z r G M]at U;cases U
  rw [e];exact Yr (aK.mpr ⟨r,G,rfl⟩)
theorem Xo{ms:Rls}(ok:JH ms):∀n m,Bel (lookS (D ms (n+1)) m) (lookS (D ms n) m)
 | 0,m=>by
  simp only [D];rw [ZD,ZD];cases e:ms[m.toNat]? with
  | none=>exact Bel.refl _
  | some G=>exact MK ok _ (aL e)
 | n+1,m=>by
  have M:=Xo ok n;show Bel (lookS (ms.map (Uw (D ms (n+1)))) m) (lookS (ms.map (Uw (D ms n))) m);rw [ZD,ZD];cases e:ms[m.toNat]? with
  | none=>exact Bel.refl _
  | some G=>
   show Bel (Uw _ G) (Uw _ G);obtain⟨⟨J,L,_⟩,_⟩:=ok G (aL e);refine J9 (λz=>?_) λy U=>?_
   .have:rsT (lookS (D ms n)) J.2∈G.map λr=>rsT (lookS (D ms n)) r.2:=aK.mpr ⟨J,L,rfl⟩;rw [z]at this;cases this
   .obtain⟨r,Y,rfl⟩:=aK.mp U;exact(Yr (aK.mpr ⟨r,Y,rfl⟩)).trans (LN M r.2)
def tsz(S:List Stp):Nat:=ZM S
theorem To{ms:Rls}(ok:JH ms)(n:Nat):tsz (D ms (n+1))<=tsz (D ms n)/\(D ms (n+1)≠D ms n->tsz (D ms (n+1))<tsz (D ms n)):=by
 have J:∀(a b:List Stp),a.length=b.length->(∀(i:Nat) x y,a[i]?=some x->b[i]?=some y->Bel x y)->ZM a<=ZM b/\(a≠b->ZM a<ZM b):=by
  intro a
  induction a with
  | nil=>intro b G _;cases b with
   | nil=>exact⟨aZ _,λh=>absurd rfl h⟩
   | cons _ _=>simp at G
  | cons x a M=>
   intro b G h;cases b with
   | nil=>simp at G
   | cons y b=>
    obtain⟨h1,h2⟩:=LY (h 0 x y rfl rfl);obtain⟨h3,U⟩:=M b (by simpa using G) λi u v Y Z=>h (i+1) u v (by simpa using Y) (by simpa using Z);simp only [ZM];refine⟨by lia,λL=>?_⟩
    by_cases e:x=y
    .have:=U λz=>L (by rw [e,z]);lia
    .have:=h2 e;lia
 refine J _ _ (by rw [Uf,Uf]) λi x y hx hy=>?_;have:=Xo ok n (i:Int);unfold lookS at this;rw [aX,hx,hy]at this;exact this
end ST
namespace ST
open PySem TM TT L2 K9
mutual
noncomputable def OfK(rw:Str->List PNx):Tree Str->Str->Prop
 | .node n _ bs,k=>∃r∈rw k,r.2.1=n/\Y2 rw bs r.2.2.2
noncomputable def Y2(rw:Str->List PNx):List (Tree Str)->List Str->Prop
 | [],ks=>ks=[]
 | b::r,ks=>∃k ks',ks=k::ks'/\OfK rw b k/\Y2 rw r ks'
end
theorem VD:∀{ps qs:List Stp},ps.length=qs.length->(QG ps qs=ps↔ ∀(i:Nat) x y,ps[i]?=some x->qs[i]?=some y->Bel x y)
 | [],[],_=>by simp [QG]
 | [],_::_,h=>by simp at h
 | _::_,[],h=>by simp at h
 | p::ps,q::qs,h=>by
  have L:=VD (ps:=ps) (qs:=qs) (by simpa using h);simp only [QG,gw];constructor
  .rintro⟨h1,h2⟩ i x y G J;cases i with
   | zero=>
    obtain rfl:p=x:=by simpa using G
    obtain rfl:q=y:=by simpa using J
    exact h1
   | succ i=>exact L.mp h2 i x y (by simpa using G) (by simpa using J)
  .intro z;exact⟨z 0 p q rfl rfl,L.mpr λi x y G J=>z (i+1) x y (by simpa using G) (by simpa using J)⟩
theorem Sw{n n':Str}{m m':Int}{ps qs:List Stp}(h:Bel (.put n m ps) (.put n' m' qs)):n=n'/\m=m'/\ps.length=qs.length/\∀(i:Nat) x y,ps[i]?=some x->qs[i]?=some y->Bel x y:=by
 unfold Bel at h;rw [Z4]at h
 by_cases G:n=n'/\m=m'/\ps.length=qs.length
 .rw [aH G]at h;injection h with _ _ J;exact⟨G.1,G.2.1,G.2.2,(VD G.2.2).mp J⟩
 .rw [aG G]at h;cases h
end ST
namespace K51
open PySem TM TT L2 K9 K11 ST
mutual
noncomputable def TPr(p:Int->Int->Prop):Tm->Prop
 | .node (.call m b) _ bs=>p m b/\bs=[]
 | .node (.put n _ _) _ bs=>PyData.strOk n=true/\bs.length<=3/\TPrs p bs
noncomputable def TPrs(p:Int->Int->Prop):List Tm->Prop
 | []=>True
 | b::r=>TPr p b/\TPrs p r
end
theorem TPrs_iff(p:Int->Int->Prop)(bs:List Tm):TPrs p bs↔ ∀b∈bs,TPr p b:=by
 induction bs with
 | nil=>simp [TPrs]
 | cons u r G=>simp only [TPrs,G,aM,gf]
mutual
theorem TPr.mono{p q:Int->Int->Prop}(h:∀m b,p m b->q m b):∀{t:Tm},TPr p t->TPr q t
 | .node (.call m b) _ bs,k=>by simp only [TPr]at k ⊢;exact⟨h _ _ k.1,k.2⟩
 | .node (.put n _ _) _ bs,k=>by simp only [TPr]at k ⊢;exact⟨k.1,k.2.1,TPrs.mono h k.2.2⟩
theorem TPrs.mono{p q:Int->Int->Prop}(h:∀m b,p m b->q m b):∀{bs:List Tm},TPrs p bs->TPrs q bs
 | [],_=>by simp only [TPrs]
 | b::r,k=>by simp only [TPrs]at k ⊢;exact⟨TPr.mono h k.1,TPrs.mono h k.2⟩
end
inductive Mk(rl:Int->Str->Option Tm):Tm->Int->List (Tree Str)->Tree Str->Prop where
 | call {m b z:Int} {qs:List Tm} {mark:Int} {bs:List (Tree Str)} {n:Str} {mm:Int} {cs:List (Tree Str)} {r:Tm} {o:Tree Str}:bs[b.toNat]?=some (.node n mm cs)->rl m n=some r->Mk rl r mm cs o->Mk rl (.node (.call m b) z qs) mark bs o
 | put {n:Str} {k:Bool} {a z:Int} {ps:List Tm} {mark:Int} {bs os:List (Tree Str)}:os.length=ps.length->(∀(i:Nat)(p:Tm)(o:Tree Str),ps[i]?=some p->os[i]?=some o->Mk rl p mark bs o)->Mk rl (.node (.put n k a) z ps) mark bs (.node n (if k then a+mark else a) os)
def rlOf(ks:List KdT)(ms:List MdT)(m:Int)(n:Str):Option Tm:=(ms[m.toNat]?).bind λmd=>((Qt ks md.2.1).findIdx? λr=>decide (r.2.1=n)).bind λj=>md.2.2.2.2[j]?
end K51
namespace K41
open K51
open PySem TM TT L2 ST
abbrev Ky:=Int×List Nat
inductive LX where
 | put (n:Str) (k:Bool) (ad:Int)
 | call (q:Ky) (b:Int)
abbrev TX:=Tree LX
def stA:Stp->List Nat->Option Stp
 | s,[]=>some s
 | .op,_::_=>none
 | .put _ _ ps,i::r=>(ps[i]?).bind λs=>stA s r
mutual
noncomputable def stX(m b:Int)(p:List Nat):Stp->TX
 | .op=>.node (.call (m,p) b) 0 []
 | .put n a ps=>.node (.put n false a) 0 (Zy m b p 0 ps)
noncomputable def Zy(m b:Int)(p:List Nat):Nat->List Stp->List TX
 | _,[]=>[]
 | i,s::r=>stX m b (p++[i]) s::Zy m b p (i+1) r
end
def dn:Tm->List Nat->Option (Tm×List Nat)
 | t,[]=>some (t,[])
 | .node (.call m b) z bs,i::r=>some (.node (.call m b) z bs,i::r)
 | .node (.put _ _ _) _ bs,i::r=>(bs[i]?).bind λt=>dn t r
mutual
noncomputable def sin(S:Int->Stp):Tm->TX
 | .node (.call m b) _ _=>stX m b [] (S m)
 | .node (.put n k a) _ bs=>.node (.put n k a) 0 (Y4 S bs)
noncomputable def Y4(S:Int->Stp):List Tm->List TX
 | []=>[]
 | t::r=>sin S t::Y4 S r
end
theorem YC(S:Int->Stp):∀ts:List Tm,Y4 S ts=ts.map (sin S)
 | []=>rfl
 | t::r=>by simp only [Y4,aR,YC S r]
theorem Wx(m b:Int)(p:List Nat):∀(i:Nat)(ps:List Stp),(Zy m b p i ps).length=ps.length
 | _,[]=>rfl
 | i,s::r=>by simp only [Zy,bK,Wx m b p (i+1) r]
theorem JL(m b:Int)(p:List Nat):∀(i j:Nat)(ps:List Stp),(Zy m b p i ps)[j]?=(ps[j]?).map (stX m b (p++[i+j]))
 | i,j,[]=>by simp [Zy]
 | i,0,s::r=>by simp [Zy]
 | i,j+1,s::r=>by
  simp only [Zy,List.getElem?_cons_succ];rw [JL m b p (i+1) j r,show i+1+j=i+(j+1)by lia]
def eU(S:Int->Stp):Tm×List Nat->Option TX
 | (.node (.call m b) _ _,p)=>(stA (S m) p).map (stX m b p)
 | (.node (.put n k a) z bs,_)=>some (sin S (.node (.put n k a) z bs))
def eT(S:Int->Stp)(t:Tm)(p:List Nat):Option TX:=(dn t p).bind (eU S)
theorem Zj(s:Stp):stA s []=some s:=by cases s<;>rfl
theorem Gf(t:Tm):dn t []=some (t,[]):=by
 obtain⟨l,z,bs⟩:=t;cases l<;>rfl
theorem ZN(S:Int->Stp)(t:Tm):eT S t []=some (sin S t):=by
 obtain⟨l,z,bs⟩:=t;cases l with
 | call m b=>simp only [eT,dn,dJ,eU,Zj,Option.map_some,sin]
 | put n k a=>simp only [eT,dn,dJ,eU]
theorem Ug(S:Int->Stp)(m b z:Int)(bs:List Tm)(p:List Nat):eT S (.node (.call m b) z bs) p=(stA (S m) p).map (stX m b p):=by
 cases p<;>simp only [eT,dn,dJ,eU]
theorem J6(S:Int->Stp)(n:Str)(k:Bool)(a z:Int)(bs:List Tm)(i:Nat)(p:List Nat):eT S (.node (.put n k a) z bs) (i::p)=(bs[i]?).bind λt=>eT S t p:=by
 unfold eT;simp only [dn];cases bs[i]? <;>rfl
theorem Lj:∀(p q:List Nat)(s:Stp),stA s (p++q)=(stA s p).bind λu=>stA u q
 | [],q,s=>by rw [Zj];rfl
 | i::p,q,.op=>rfl
 | i::p,q,.put n m ps=>by
  simp only [fb,stA];cases ps[i]? with
  | none=>rfl
  | some s=>exact Lj p q s
mutual
noncomputable def clX:TX->List (Ky×Int)
 | .node (.call q b) _ _=>[(q,b)]
 | .node (.put _ _ _) _ bs=>QU bs
noncomputable def QU:List TX->List (Ky×Int)
 | []=>[]
 | t::r=>clX t++QU r
end
theorem YH{ts:List TX}{t:TX}{c:Ky×Int}(h:t∈ts)(hc:c∈clX t):c∈QU ts:=by
 induction ts with
 | nil=>cases h
 | cons u r G=>
  rw [QU];rcases aM.mp h with rfl | h
  .exact cT _ hc
  .exact cB _ (G h)
theorem Vi{c:Ky×Int}:∀{ts:List TX},c∈QU ts->∃t∈ts,c∈clX t
 | [],h=>by simp [QU]at h
 | t::r,h=>by
  rw [QU]at h;rcases aY.mp h with h | h
  .exact⟨t,aQ,h⟩
  .obtain⟨u,h1,h2⟩:=Vi h;exact⟨u,aV _ h1,h2⟩
mutual
theorem VG{s0:Stp}{m b:Int}:∀{s:Stp}{p:List Nat},stA s0 p=some s->∀c∈clX (stX m b p s),c.1.1=m/\c.2=b/\stA s0 c.1.2=some .op
 | .op,p,h,c,G=>by
  simp only [stX,clX,bM]at G;rw [G];exact⟨rfl,rfl,h⟩
 | .put n a ps,p,h,c,G=>by
  simp only [stX,clX]at G;exact GS (ps:=ps) (λj s J=>by rw [Lj,h];simp only [dJ,stA,fR,J]) c G
theorem GS{s0:Stp}{m b:Int}:∀{ps:List Stp}{p:List Nat}{i:Nat},(∀(j:Nat) s,ps[j]?=some s->stA s0 (p++[i+j])=some s)->∀c∈QU (Zy m b p i ps),c.1.1=m/\c.2=b/\stA s0 c.1.2=some .op
 | [],p,i,h,c,hc=>by simp [Zy,QU]at hc
 | s::r,p,i,h,c,hc=>by
  simp only [Zy,QU,aY]at hc;rcases hc with hc | hc
  .exact VG (by have:=h 0 s rfl;simpa using this) c hc
  .exact GS (ps:=r) (λj s G=>by rw [show i+1+j=i+(j+1)by lia];exact h (j+1) s (by simpa using G)) c hc
end
def Bg(S:Int->Stp)(t:Tm)(x:TX):Prop:=∀c∈clX x,(c.1.1,c.2)∈cls t/\stA (S c.1.1) c.1.2=some .op
mutual
theorem PZ{S:Int->Stp}:∀t:Tm,Bg S t (sin S t)
 | .node (.call m b) _ bs,c,G=>by
  simp only [sin]at G;obtain⟨h1,h2,J⟩:=VG (Zj _) c G;exact⟨by rw [h1,h2];simp [cls,lcl],by rw [h1];exact J⟩
 | .node (.put n k a) _ bs,c,G=>by
  simp only [sin,clX]at G;obtain⟨h1,h2⟩:=Lx bs c G;exact⟨by simp only [cls,lcl,dG];exact h1,h2⟩
theorem Lx{S:Int->Stp}:∀(ts:List Tm),∀c∈QU (Y4 S ts),(c.1.1,c.2)∈Q7 ts/\stA (S c.1.1) c.1.2=some .op
 | [],c,hc=>by simp [Y4,QU]at hc
 | t::r,c,hc=>by
  simp only [Y4,QU,aY]at hc;rcases hc with hc | hc
  .obtain⟨h1,h2⟩:=PZ t c hc;exact⟨by simp only [Q7];exact cT _ h1,h2⟩
  .obtain⟨h1,h2⟩:=Lx r c hc;exact⟨by simp only [Q7];exact cB _ h1,h2⟩
end
theorem Nh{S:Int->Stp}:∀{p:List Nat}{t:Tm}{x:TX},eT S t p=some x->Bg S t x
 | [],t,x,h=>by
  rw [ZN]at h;rw [<-aI h];exact PZ t
 | i::p,.node (.call m b) z bs,x,h=>by
  rw [Ug]at h;obtain⟨s,J,rfl⟩:=cZ.mp h;intro c G;obtain⟨h1,h2,L⟩:=VG J c G;exact⟨by rw [h1,h2];simp [cls,lcl],by rw [h1];exact L⟩
 | i::p,.node (.put n k a) z bs,x,h=>by
  rw [J6]at h;obtain⟨t,M,U⟩:=b_.mp h;intro c G;obtain⟨h1,h2⟩:=Nh U c G;exact⟨by simp only [cls,lcl,dG];exact NH (aL M) _ h1,h2⟩
theorem SY{S:Int->Stp}:∀{p:List Nat}{t:Tm}{s:Stp},stA (rsT S t) p=some s->∃x,eT S t p=some x
 | [],t,s,_=>⟨_,ZN S t⟩
 | i::p,.node (.call m b) z bs,s,h=>by
  simp only [rsT]at h;exact⟨_,by rw [Ug,h];rfl⟩
 | i::p,.node (.put n k a) z bs,s,h=>by
  simp only [rsT]at h;cases k with
  | true=>simp [stA]at h
  | false=>
   simp only [cE,bU,stA,Ud,aJ]at h;cases e:bs[i]? with
   | none=>rw [e]at h;cases h
   | some t=>
    rw [e]at h;obtain⟨x,G⟩:=SY (t:=t) (by simpa using h);exact⟨x,by rw [J6,e];exact G⟩
theorem Pw:∀{p:List Nat}{a b:Stp}{s:Stp},Bel a b->stA a p=some s->∃u,stA b p=some u
 | [],a,b,s,_,_=>⟨b,Zj b⟩
 | i::p,.op,b,s,_,h=>by simp [stA]at h
 | i::p,.put n m ps,.op,s,h,_=>by unfold Bel at h;rw [Z6]at h;cases h
 | i::p,.put n m ps,.put n' m' qs,s,h,e=>by
  obtain⟨_,_,U,L⟩:=Sw h;simp only [stA]at e ⊢;cases G:ps[i]? with
  | none=>rw [G]at e;cases e
  | some x=>
   have hi:=(aU.mp G).1;have J:=aD (show i<qs.length by lia);rw [G]at e;obtain⟨u,M⟩:=Pw (L i x _ G J) (by simpa using e);exact⟨u,by rw [J];exact M⟩
def atT:Tree Str->List Nat->Option (Tree Str)
 | t,[]=>some t
 | .node _ _ bs,i::r=>(bs[i]?).bind λt=>atT t r
theorem Ub(t:Tree Str):atT t []=some t:=by obtain⟨n,m,bs⟩:=t;rfl
theorem GF:∀(p q:List Nat)(t:Tree Str),atT t (p++q)=(atT t p).bind λu=>atT u q
 | [],q,t=>by rw [Ub];rfl
 | i::p,q,.node n m bs=>by
  simp only [fb,atT];cases bs[i]? with
  | none=>rfl
  | some s=>exact GF p q s
theorem WV:∀{ps:List Stp}{bs:List (Tree Str)}{i:Nat}{s:Stp}{t:Tree Str},YA ps bs=true->ps[i]?=some s->bs[i]?=some t->beg s t=true
 | [],_,i,s,t,_,h,_=>by simp at h
 | _::_,[],i,s,t,_,_,h=>by simp at h
 | p::ps,b::bs,0,s,t,h,h1,h2=>by
  simp only [YA,bC]at h;cases h1;cases h2;exact h.1
 | p::ps,b::bs,i+1,s,t,h,h1,h2=>by
  simp only [YA,bC]at h;exact WV h.2 (by simpa using h1) (by simpa using h2)
theorem GJ:∀{ps:List Stp}{bs:List (Tree Str)},(∀(i:Nat) s t,ps[i]?=some s->bs[i]?=some t->beg s t=true)->YA ps bs=true
 | [],_,_=>by simp [YA]
 | _::_,[],_=>by simp [YA]
 | p::ps,b::bs,h=>by
  simp only [YA,bC];exact⟨h 0 p b rfl rfl,GJ λi s t h1 h2=>h (i+1) s t (by simpa using h1) (by simpa using h2)⟩
theorem PX:∀{p:List Nat}{s u:Stp}{t:Tree Str},beg s t=true->stA s p=some u->∃o,atT t p=some o/\beg u o=true
 | [],s,u,t,h,e=>by
  rw [Zj]at e;rw [<-aI e];exact⟨t,Ub t,h⟩
 | i::p,.op,u,t,h,e=>by simp [stA]at e
 | i::p,.put n m ps,u,.node n' m' bs,h,e=>by
  simp only [beg,bC,eJ]at h;simp only [stA]at e;cases G:ps[i]? with
  | none=>rw [G]at e;cases e
  | some x=>
   have hi:=(aU.mp G).1;have J:=aD (show i<bs.length by have:=h.1.2.2;lia);rw [G]at e;obtain⟨o,h1,h2⟩:=PX (WV h.2 G J) (by simpa using e);exact⟨o,by simp only [atT,J,dJ];exact h1,h2⟩
theorem GK{a b:Stp}{t:Tree Str}(h:Bel a b)(k:beg b t=true):beg a t=true:=by
 unfold Bel at h;rw [<-h,ZH];exact Lm b a t k
section
variable{rl rl':Int->Str->Option Tm}{S:Int->Stp}{g:Ky->Int}{qs:List Ky}
theorem At(hf:∀m n r,rl m n=some r->Bel (S m) (rsT S r)){t:Tm}{bs:List (Tree Str)}{o:Tree Str}(h:Mk rl t mark bs o):beg (rsT S t) o=true:=by
 induction h with
 | @call m b z qs mark bs n M cs r o U J _ G=>
  simp only [rsT];exact GK (hf _ _ _ J) G
 | @put n k a z ps mark bs Y L _ G=>
  simp only [rsT];cases k with
  | true=>simp [beg]
  | false=>
   simp only [cE,bU,beg,bC,eJ,Uk];refine⟨⟨trivial,trivial,L.symm⟩,GJ λi s u h1 h2=>?_⟩;rw [Ud,aJ]at h1;cases e:ps[i]? with
   | none=>rw [e]at h1;cases h1
   | some p=>
    rw [e]at h1;cases h1;exact G i p u e h2
mutual
noncomputable def mpX(g:Ky->Int):TX->Tm
 | .node (.call q b) _ _=>.node (.call (g q) b) 0 []
 | .node (.put n k a) _ bs=>.node (.put n k a) 0 (Yb g bs)
noncomputable def Yb(g:Ky->Int):List TX->List Tm
 | []=>[]
 | t::r=>mpX g t::Yb g r
end
theorem Yy(g:Ky->Int):∀ts:List TX,Yb g ts=ts.map (mpX g)
 | []=>by rw [Yb];rfl
 | t::r=>by rw [Yb,Yy g r];rfl
mutual
theorem Os{m b mark:Int}{bs:List (Tree Str)}{O:Tree Str}(hc:∀p o,(m,p)∈qs->atT O p=some o->Mk rl' (.node (.call (g (m,p)) b) 0 []) mark bs o):∀{s:Stp}{p:List Nat}{o:Tree Str},atT O p=some o->beg s o=true->(∀c∈clX (stX m b p s),c.1∈qs)->Mk rl' (mpX g (stX m b p s)) mark bs o
 | .op,p,o,h,_,G=>by
  simp only [stX,mpX];exact hc p o (G ((m,p),b) (by simp [stX,clX])) h
 | .put n a ps,p,.node Y Z os,h,J,G=>by
  simp only [beg,bC,eJ]at J;obtain⟨⟨rfl,rfl,M⟩,L⟩:=J;simp only [stX,clX]at G;simp only [stX,mpX];have h1:=GY hc (ps:=ps) (p:=p) (i:=0) (os:=os) M.symm (λj o U=>by rw [GF,h];simp only [dJ,atT,fR,U]) L G;exact .put (k:=false) h1.1 h1.2
theorem GY{m b mark:Int}{bs:List (Tree Str)}{O:Tree Str}(hc:∀p o,(m,p)∈qs->atT O p=some o->Mk rl' (.node (.call (g (m,p)) b) 0 []) mark bs o):∀{ps:List Stp}{p:List Nat}{i:Nat}{os:List (Tree Str)},os.length=ps.length->(∀(j:Nat) o,os[j]?=some o->atT O (p++[i+j])=some o)->YA ps os=true->(∀c∈QU (Zy m b p i ps),c.1∈qs)->os.length=(Yb g (Zy m b p i ps)).length/\∀(j:Nat) u o,(Yb g (Zy m b p i ps))[j]?=some u->os[j]?=some o->Mk rl' u mark bs o
 | [],p,i,os,G,_,_,_=>by
  simp only [Zy,Yb];exact⟨G,λj u o h=>by simp at h⟩
 | s::r,p,i,[],G,_,_,_=>by simp at G
 | s::r,p,i,o::os,G,ha,hb,hq=>by
  simp only [YA,bC]at hb;simp only [Zy,QU,aY]at hq;have h1:=Os hc (s:=s) (p:=p++[i]) (o:=o) (by have:=ha 0 o rfl;simpa using this) hb.1 λc J=>hq c (.inl J);have h2:=GY hc (ps:=r) (p:=p) (i:=i+1) (os:=os) (by simpa using G) (λj o U=>by rw [show i+1+j=i+(j+1)by lia];exact ha (j+1) o (by simpa using U)) hb.2 λc J=>hq c (.inr J);simp only [Zy,Yb,bK];refine⟨by rw [h2.1],λj u v L M=>?_⟩;cases j with
  | zero=>cases L;cases M;exact h1
  | succ j=>exact h2.2 j u v (by simpa using L) (by simpa using M)
end
theorem Bw(hf:∀m n r,rl m n=some r->Bel (S m) (rsT S r))(hr:∀m p n r x,(m,p)∈qs->rl m n=some r->eT S r p=some x->rl' (g (m,p)) n=some (mpX g x)/\∀c∈clX x,c.1∈qs)(he:∀m p n r,(m,p)∈qs->rl m n=some r->∃x,eT S r p=some x){t:Tm}{bs:List (Tree Str)}{o:Tree Str}(h:Mk rl t mark bs o):∀{p:List Nat}{x:TX},eT S t p=some x->(∀c∈clX x,c.1∈qs)->∃o',atT o p=some o'/\Mk rl' (mpX g x) mark bs o':=by
 induction h with
 | @call m b z ps mark bs n mm cs r o e1 Z h3 L=>
  intro p x G J;rw [Ug]at G;obtain⟨s,hs,rfl⟩:=cZ.mp G;have hb:=GK (hf _ _ _ Z) (At hf h3);obtain⟨o',a1,a2⟩:=PX hb hs;refine⟨o',a1,Os (rl':=rl') (qs:=qs) (g:=g) (O:=o) (λp' aa U ha=>?_) a1 a2 J⟩;obtain⟨x',Y⟩:=he m p' n r U Z;obtain⟨f1,f2⟩:=hr m p' n r x' U Z Y;obtain⟨o3,g1,g2⟩:=L Y f2;rw [ha]at g1;cases g1;exact .call e1 f1 g2
 | @put n k a z ps mark bs os hl hm L=>
  intro p x G J;cases p with
  | nil=>
   rw [ZN]at G;cases G;refine⟨_,Ub _,?_⟩;simp only [sin,clX]at J;simp only [sin,mpX];have el:(Yb g (Y4 S ps)).length=ps.length:=by rw [Yy,YC,aE,aE]
   refine .put (by rw [el];exact hl) λi q u h1 h2=>?_;rw [Yy,YC,bY,aJ]at h1;cases e:ps[i]? with
   | none=>rw [e]at h1;cases h1
   | some t=>
    rw [e]at h1;cases h1;obtain⟨o',M,b2⟩:=L i t u e h2 (ZN S t) λc hc=>J c (YH (by rw [YC];exact List.mem_map_of_mem (aL e)) hc);rw [Ub]at M;cases M;exact b2
  | cons i p=>
   rw [J6]at G;obtain⟨t,ht,G⟩:=b_.mp G;have hi:=(aU.mp ht).1;have ho:=aD (show i<os.length by lia);obtain⟨o',M,b2⟩:=L i t _ ht ho G J;exact⟨o',by simp only [atT,ho,dJ];exact M,b2⟩
end
mutual
theorem Wr(m b:Int):∀(s:Stp)(p:List Nat),sz (stX m b p s)<=ssz s/\lv (stX m b p s)<=sl s
 | .op,p=>by simp only [stX,sz,szs,lv,lvs,ssz,sl];lia
 | .put n a ps,p=>by
  have:=Lp m b ps p 0;simp only [stX,sz,lv,ssz,sl];lia
theorem Lp(m b:Int):∀(ps:List Stp)(p:List Nat)(i:Nat),szs (Zy m b p i ps)<=ZM ps/\lvs (Zy m b p i ps)<=sls ps
 | [],p,i=>by simp only [Zy,szs,lvs,ZM,sls];lia
 | s::r,p,i=>by
  have:=Wr m b s (p++[i]);have:=Lp m b r p (i+1);simp only [Zy,szs,lvs,ZM,sls];lia
end
theorem V2:∀{p:List Nat}{s u:Stp},stA s p=some u->ssz u<=ssz s/\sl u<=sl s
 | [],s,u,h=>by
  rw [Zj]at h;rw [aI h];lia
 | i::p,.op,u,h=>by simp [stA]at h
 | i::p,.put n m ps,u,h=>by
  simp only [stA]at h;obtain⟨x,J,L⟩:=b_.mp h;have h1:=V2 L;have G:=aL J;have h2:=LZ G;have M:∀l:List Stp,x∈l->ssz x<=ZM l:=λl=>by
   induction l with
   | nil=>intro z;cases z
   | cons y r U=>
    intro z;simp only [ZM];rcases aM.mp z with rfl | z
    .lia
    .have:=U z;lia
  have:=M ps G;simp only [ssz,sl];lia
mutual
theorem PM{S:Int->Stp}{A B:Nat}(ha:∀m,ssz (S m)<=A/\sl (S m)<=B)(h1:1<=A)(h2:1<=B):∀t:Tm,sz (sin S t)<=sz t*A/\lv (sin S t)<=lv t+B
 | .node (.call m b) z bs=>by
  simp only [sin];have:=Wr m b (S m) [];have:=ha m;have:A<=sz (.node (Lab.call m b) z bs)*A:=Nat.le_mul_of_pos_left _ (by simp only [sz];lia);lia
 | .node (.put n k a) _ bs=>by
  simp only [sin,sz,lv];have:=Lu ha h1 h2 bs;rw [Nat.add_mul,Nat.one_mul];lia
theorem Lu{S:Int->Stp}{A B:Nat}(ha:∀m,ssz (S m)<=A/\sl (S m)<=B)(h1:1<=A)(h2:1<=B):∀ts:List Tm,szs (Y4 S ts)<=szs ts*A/\lvs (Y4 S ts)<=lvs ts+B
 | []=>by simp only [Y4,szs,lvs];lia
 | t::r=>by
  simp only [Y4,szs,lvs];have:=PM ha h1 h2 t;have:=Lu ha h1 h2 r;rw [Nat.add_mul];lia
end
theorem WJ{S:Int->Stp}{A B:Nat}(ha:∀m,ssz (S m)<=A/\sl (S m)<=B)(h1:1<=A)(h2:1<=B):∀{p:List Nat}{t:Tm}{x:TX},eT S t p=some x->sz x<=sz t*A/\lv x<=lv t+B
 | [],t,x,h=>by
  rw [ZN]at h;rw [<-aI h];exact PM ha h1 h2 t
 | i::p,.node (.call m b) z bs,x,h=>by
  rw [Ug]at h;obtain⟨s,J,rfl⟩:=cZ.mp h;have:=Wr m b s (i::p);have:=V2 J;have:=ha m;have:A<=sz (.node (Lab.call m b) z bs)*A:=Nat.le_mul_of_pos_left _ (by simp only [sz];lia);lia
 | i::p,.node (.put n k a) z bs,x,h=>by
  rw [J6]at h;obtain⟨t,L,M⟩:=b_.mp h;have:=WJ ha h1 h2 M;have G:=aL L;have U:=PH G;have Y:=Zt G;simp only [sz,lv];have:sz t*A<=(1+szs bs)*A:=fE _ (5:);lia
end K41
variable{q:K41.Ky}{qs:List K41.Ky}
namespace G3
open PySem L2
inductive C where
 | v (i:Nat) | k (x:V) | bin (op:Operator) (a b:C) | cmp (op:CmpOp) (a b:C) | ix (a b:C)
 | tup (as:List C) | lst (as:List C) | call (i:Nat) (as:List C)
 | meth (i:Nat) (o:C) (as:List C) | no (a:C) | an (a b:C) | oo (a b:C)
 | nd (i:Nat) (as:List C) | iff (c a b:C)
 | comp (kd:Nat) (it:C) (cap:List Nat) (elt:C) | compI (kd:Nat) (it:C) (cap:List Nat) (cnd elt:C)
abbrev Rel:=St->List V->Hp->VK->Prop
structure Mr where
 ty:V->Hp->Prop
 r:V->List V->Hp->VK->Prop
structure En where
 K:Fg
 fs:List Rel
 ms:List Mr
 nr:List (List V->Hp->VK->Prop)
 sr:List (St->List V->Hp->(St->Hp->Prop)->Prop)
def DI(a:Option V)(k:V->Prop):Prop:=match a with
 | none=>False
 | some x=>k x
def Ty:St->Nat->(V->Prop)->Prop
 | [],_,_=>False
 | a::_,0,k=>DI a k
 | _::r,n+1,k=>Ty r n k
def X3:St->Nat->V->(St->Prop)->Prop
 | [],_,_,_=>False
 | _::r,0,x,k=>k (some x::r)
 | a::r,n+1,x,k=>X3 r n x λr'=>k (a::r')
def Mh:List V->Nat->Bool
 | [],_=>true
 | _::_,0=>false
 | _::r,n+1=>Mh r n
structure Cnd(p q:Prop):Prop where
 c::(h:p) (k:q)
structure NewT(K:Fg)(xs:List V)(H:Hp)(Q:VK):Prop where
 t::(h:∀p H',Same H H'->SqT K H' p xs->H' p=some (.tup xs)->Q (.ref p) H')
structure NewL(xs:List V)(H:Hp)(Q:VK):Prop where
 l::(h:∀p H',Same H H'->H' p=some (.lst xs)->H p=none->Q (.ref p) H')
inductive Ix(K:Fg)(a:Addr)(i:Int)(H:Hp)(Q:VK):Prop where
 | t (xs:List V) (v:V) (h:SqT K H a xs) (e:atI xs i=some v) (k:Q v H):Ix K a i H Q
 | l (xs:List V) (v:V) (h:SqL K H a xs) (e:atI xs i=some v) (k:Q v H):Ix K a i H Q
inductive Cat(K:Fg)(a b:Addr)(H:Hp)(Q:VK):Prop where
 | a (xs ys:List V) (h1:SqT K H a xs) (h2:SqT K H b ys) (hz:xs.length+ys.length<=sizeLine) (k:∀p H',Same H H'->SqT K H' p (xs++ys)->Q (.ref p) H'):Cat K a b H Q
def Rm(i j:Int)(H:Hp)(Q:VK):Prop:=match j with
 | .ofNat (_+1)=>Q (.int (i%j)) H
 | _=>False
def Ag(i j:Int)(H:Hp)(Q:VK):Prop:=match j with
 | .ofNat (n+1)=>cond (Nat.ble (n+2) 1073741824) (Q (.int (i/j)) H) False
 | _=>False
def i2(x y:V)(ki:Int->Int->Prop)(ks:Str->Str->Prop):Prop:=match x with
 | .int i=>match y with
  | .int j=>ki i j
  | _=>False
 | .str i=>match y with
  | .str j=>ks i j
  | _=>False
 | _=>False
def a2(x y:V)(k:Addr->Addr->Prop):Prop:=match x with
 | .ref a=>match y with
  | .ref b=>k a b
  | _=>False
 | _=>False
def Bd:V->Bool
 | .ref _=>true
 | _=>false
def rB(K:Fg)(op:Operator)(x y:V)(H:Hp)(Q:VK):Prop:=match op with
 | .Add=>cond (Bd x) (a2 x y λa b=>Cat K a b H Q) (i2 x y (λi j=>Q (.int (i+j)) H) λ_ _=>False)
 | .Sub=>i2 x y (λi j=>Q (.int (i-j)) H) λ_ _=>False
 | .Mult=>i2 x y (λi j=>Cnd (CMul i j) (Q (.int (i*j)) H)) λ_ _=>False
 | .Mod=>i2 x y (λi j=>Rm i j H Q) λ_ _=>False
 | .FloorDiv=>i2 x y (λi j=>Ag i j H Q) λ_ _=>False
 | _=>False
def OW:V->Bool
 | .non=>true
 | _=>false
def iN(y:V)(k:Prop):Prop:=cond (OW y) k False
def rC(op:CmpOp)(x y:V)(H:Hp)(Q:VK):Prop:=match op with
 | .Eq=>i2 x y (λi j=>Q (.bl (decide (i=j))) H) λi j=>Q (.bl (decide (i=j))) H
 | .NotEq=>i2 x y (λi j=>Q (.bl (!decide (i=j))) H) λi j=>Q (.bl (!decide (i=j))) H
 | .Lt=>i2 x y (λi j=>Q (.bl (decide (i<j))) H) λi j=>Q (.bl (decide (i.cps.toList<j.cps.toList))) H
 | .LtE=>i2 x y (λi j=>Q (.bl (decide (i<=j))) H) λ_ _=>False
 | .Gt=>i2 x y (λi j=>Q (.bl (decide (j<i))) H) λ_ _=>False
 | .GtE=>i2 x y (λi j=>Q (.bl (decide (j<=i))) H) λ_ _=>False
 | .Is=>iN y (Q (.bl (OW x)) H)
 | .IsNot=>iN y (Q (.bl (!OW x)) H)
 | _=>False
def rX(K:Fg)(x y:V)(H:Hp)(Q:VK):Prop:=match x,y with
 | .ref a,.int i=>Ix K a i H Q
 | _,_=>False
def asB(x:V)(H:Hp)(Q:Bool->Hp->Prop):Prop:=match x with
 | .bl b=>Q b H
 | _=>False
def BH(j:Int):Prop:=-(2^62)<=j/\j<2^62
inductive Cmp(K:Fg)(it:Hp->Prop)(itm:Nat->V)(m:Nat)(cs:St)(tt:TT)(te:TE)(H:Hp)(Q:VK):Prop where
 | s (R:Nat->List V->Hp->Prop) (h0:∀H1,Same H H1->R 0 [] H1)
  (hm:∀acc i ys l H1 H2,R i ys H1->H1 acc=some (.lst l)->H acc=none->(∀a o,a≠acc->H1 a=some o->H2 a=some o)->(∀a xs,SqT K H1 a xs->SqT K H2 a xs)->R i ys H2) (hz:m<=4000)
  (hs:∀i ys H1,i<m->ys.length<=i->Same H H1->R i ys H1->tt (some (itm i)::cs) H1 λb H2=>cond b (te (some (itm i)::cs) H2 λy H3=>Same H1 H3/\R (i+1) (ys++[y]) H3) (Same H1 H2/\R (i+1) ys H2))
  (hd:∀p ys H1,Same H H1->H1 p=some (.lst ys)->R m ys H1->Q (.ref p) H1):Cmp K it itm m cs tt te H Q
 | m (R:Addr->Nat->List V->Hp->Prop) (hz:m<=4000) (h0:∀acc H1,H acc=none->Same H H1->H1 acc=some (.lst [])->R acc 0 [] H1) (hx:∀acc i ys H1,R acc i ys H1->it H1)
  (hs:∀acc i ys H1,i<m->ys.length<=i->H acc=none->R acc i ys H1->tt (some (itm i)::cs) H1 λb H2=>cond b (te (some (itm i)::cs) H2 λy H3=>H3 acc=some (.lst ys)/\R acc (i+1) (ys++[y]) (upd H3 acc (.lst (ys++[y])))) (R acc (i+1) ys H2))
  (hd:∀acc ys H1,H acc=none->R acc m ys H1->Q (.ref acc) H1):Cmp K it itm m cs tt te H Q
inductive CmpL(K:Fg)(a:Addr)(cs:St)(tt:TT)(te:TE)(H:Hp)(Q:VK):Prop where
 | l (xs:List V) (h:SqL K H a xs) (k:Cmp K (λH=>SqL K H a xs) (λi=>(xs[i]?).getD .non) xs.length cs tt te H Q):CmpL K a cs tt te H Q
inductive CmpT(K:Fg)(a:Addr)(cs:St)(tt:TT)(te:TE)(H:Hp)(Q:VK):Prop where
 | t (xs:List V) (h:SqT K H a xs) (k:Cmp K (λH=>SqT K H a xs) (λi=>(xs[i]?).getD .non) xs.length cs tt te H Q):CmpT K a cs tt te H Q
def Np(K:Fg)(kd:Nat)(x:V)(cs:St)(tt:TT)(te:TE)(H:Hp)(Q:VK):Prop:=match kd,x with
 | 0,.int j=>Cnd (BH j) (Cmp K (λ_=>True) (λi=>.int (i:Int)) j.toNat cs tt te H Q)
 | 1,.ref a=>CmpL K a cs tt te H Q
 | 2,.ref a=>CmpT K a cs tt te H Q
 | _,_=>False
def Vl:List Nat->St->St
 | [],_=>[]
 | j::r,σ=>(σ[j]?).getD none::Vl r σ
mutual
noncomputable def E(n:En):C->TE
 | .v i=>λσ H Q=>Ty σ i λx=>Q x H
 | .k x=>λ_ H Q=>Q x H
 | .bin op a b=>λσ H Q=>E n a σ H λx H1=>E n b σ H1 λy H2=>rB n.K op x y H2 Q
 | .cmp op a b=>λσ H Q=>E n a σ H λx H1=>E n b σ H1 λy H2=>rC op x y H2 Q
 | .ix a b=>λσ H Q=>E n a σ H λx H1=>E n b σ H1 λy H2=>rX n.K x y H2 Q
 | .tup as=>λσ H Q=>Es n as σ H λxs H1=>cond (Mh xs 1000) (NewT n.K xs H1 Q) False
 | .lst as=>λσ H Q=>Es n as σ H λxs H1=>cond (Mh xs 1000) (NewL xs H1 Q) False
 | .call i as=>λσ H Q=>Es n as σ H λxs H1=>match n.fs[i]? with | some r=>r σ xs H1 Q | none=>False
 | .no a=>λσ H Q=>E n a σ H λx H1=>asB x H1 λb H2=>Q (.bl (!b)) H2
 | .an a b=>λσ H Q=>E n a σ H λx H1=>asB x H1 λc H2=>cond c (E n b σ H2 Q) (Q (.bl false) H2)
 | .oo a b=>λσ H Q=>E n a σ H λx H1=>asB x H1 λc H2=>cond c (Q (.bl true) H2) (E n b σ H2 Q)
 | .meth i o as=>λσ H Q=>E n o σ H λx H1=>match n.ms[i]? with | some m=>Cnd (m.ty x H1) (Es n as σ H1 λxs H2=>m.r x xs H2 Q) | none=>False
 | .nd i as=>λσ H Q=>Es n as σ H λxs H1=>match n.nr[i]? with | some r=>r xs H1 Q | none=>False
 | .iff c a b=>λσ H Q=>E n c σ H λx H1=>asB x H1 λt H2=>cond t (E n a σ H2 Q) (E n b σ H2 Q)
 | .comp kd it cap elt=>λσ H Q=>E n it σ H λx H1=>Np n.K kd x (Vl cap σ) (λ_ H Q=>Q true H) (E n elt) H1 Q
 | .compI kd it cap cnd elt=>λσ H Q=>E n it σ H λx H1=>Np n.K kd x (Vl cap σ) (λσ H Q=>E n cnd σ H λx H1=>asB x H1 Q) (E n elt) H1 Q
termination_by structural c=>c
noncomputable def Es(n:En):List C->TA
 | []=>λ_ H Q=>Q [] H
 | a::r=>λσ H Q=>E n a σ H λx H1=>Es n r σ H1 λxs H2=>Q (x::xs) H2
termination_by structural c=>c
end
theorem iteI{p:Prop} [Decidable p] {A B:Prop} (h1:p->A) (h2:¬p->B):cond (decide p) A B:=by
 by_cases h:p
 .rw [bO h];exact h1 h
 .rw [bV h];exact h2 h
theorem modI{i j:Int}{Q:VK}(h:0<j)(k:Q (.int (i%j)) H):Rm i j H Q:=by
 match j,h,k with
 | .ofNat (n+1),_,k=>exact k
 | .ofNat 0,h,_=>exact absurd h (11:)
 | .negSucc n,h,_=>exact absurd h (17:)
theorem Nb{i j:Int}{Q:VK}(h:Rm i j H Q):0<j/\Q (.int (i%j)) H:=by
 unfold Rm at h;split at h
 .exact⟨by simp,h⟩
 .exact h.elim
theorem Nq{i j:Int}{Q:VK}(h:Ag i j H Q):Cy i j/\Q (.int (i/j)) H:=by
 unfold Ag at h;split at h
 .rename_i n;cases G:Nat.ble (n+2) 1073741824 with
  | false=>rw [G]at h;exact h.elim
  | true=>
   rw [G]at h;have:=Nat.ble_eq.mp G;refine⟨⟨by simp,?_⟩,h⟩;show((n+1:Nat):Int)<_;lia
 .exact h.elim
theorem i2_of{x:V}{ks:Str->Str->Prop}(h:i2 x y ki ks):(∃i j,x=.int i/\y=.int j/\ki i j)\/∃i j,x=.str i/\y=.str j/\ks i j:=by
 cases x with
 | int i=>cases y with
  | int j=>exact .inl ⟨i,j,rfl,rfl,h⟩
  | _=>exact False.elim h
 | str i=>cases y with
  | str j=>exact .inr ⟨i,j,rfl,rfl,h⟩
  | _=>exact False.elim h
 | _=>exact False.elim h
theorem JA{x:V}(h:i2 x y ki λ_ _=>False):∃i j,x=.int i/\y=.int j/\ki i j:=by
 rcases i2_of h with h | ⟨_,_,_,_,h⟩
 .exact h
 .exact h.elim
theorem S4{k:Prop}(h:iN y k):y=.non/\k:=by
 cases y with
 | non=>exact⟨rfl,h⟩
 | _=>exact False.elim h
theorem dI{i j:Int}:decide (V.int i=V.int j)=decide (i=j):=by simp
theorem dS{i j:Str}:decide (V.str i=V.str j)=decide (i=j):=by simp
theorem CY(op:Operator):OpR X (binaryOp op) (rB X.K op):=by
 intro pins s σ H x y v u Q I G J h;cases op with
 | Add=>
  cases x with
  | ref a=>cases y with
   | ref b=>
    obtain⟨xs,ys,h1,h2,hz,k⟩:=(show Cat X.K a b H Q from h);exact GV pins s σ H _ _ v u Q I G J ⟨_,_,xs,ys,rfl,rfl,h1,h2,hz,k⟩
   | _=>exact False.elim h
  | int i=>cases y with
   | int j=>exact ZO pins s σ H _ _ v u Q I G J ⟨_,_,rfl,rfl,h⟩
   | _=>exact False.elim h
  | str i=>cases y<;>exact False.elim h
  | _=>exact False.elim h
 | Sub=>
  obtain⟨i,j,rfl,rfl,h⟩:=JA h;exact XY pins s σ H _ _ v u Q I G J ⟨_,_,rfl,rfl,h⟩
 | Mult=>
  obtain⟨i,j,rfl,rfl,h⟩:=JA h;exact UV pins s σ H _ _ v u Q I G J ⟨_,_,rfl,rfl,h.h,h.k⟩
 | Mod=>
  obtain⟨i,j,rfl,rfl,h⟩:=JA h;exact ZP pins s σ H _ _ v u Q I G J ⟨_,_,rfl,rfl,(Nb h).1,(Nb h).2⟩
 | FloorDiv=>
  obtain⟨i,j,rfl,rfl,h⟩:=JA h;exact Z7 pins s σ H _ _ v u Q I G J ⟨_,_,rfl,rfl,(Nq h).1,(Nq h).2⟩
 | _=>exact False.elim h
theorem B0(op:CmpOp):OpR X (compareOp op) (rC op):=by
 intro pins s σ H x y v u Q I G J h;cases op with
 | Eq=>
  rcases i2_of h with⟨i,j,rfl,rfl,h⟩ | ⟨i,j,rfl,rfl,h⟩
  .exact ZG pins s σ H _ _ v u Q I G J ⟨rfl,by rw [dI];exact h⟩
  .exact ZG pins s σ H _ _ v u Q I G J ⟨rfl,by rw [dS];exact h⟩
 | NotEq=>
  rcases i2_of h with⟨i,j,rfl,rfl,h⟩ | ⟨i,j,rfl,rfl,h⟩
  .exact JT pins s σ H _ _ v u Q I G J ⟨rfl,by rw [dI];exact h⟩
  .exact JT pins s σ H _ _ v u Q I G J ⟨rfl,by rw [dS];exact h⟩
 | Lt=>
  rcases i2_of h with⟨i,j,rfl,rfl,h⟩ | ⟨i,j,rfl,rfl,h⟩
  .exact Vf pins s σ H _ _ v u Q I G J ⟨_,_,rfl,rfl,h⟩
  .exact L8 pins s σ H _ _ v u Q I G J ⟨_,_,rfl,rfl,h⟩
 | LtE=>
  obtain⟨i,j,rfl,rfl,h⟩:=JA h;exact Cd pins s σ H _ _ v u Q I G J ⟨_,_,rfl,rfl,h⟩
 | Gt=>
  obtain⟨i,j,rfl,rfl,h⟩:=JA h;exact Lr pins s σ H _ _ v u Q I G J ⟨_,_,rfl,rfl,h⟩
 | GtE=>
  obtain⟨i,j,rfl,rfl,h⟩:=JA h;exact Ob pins s σ H _ _ v u Q I G J ⟨_,_,rfl,rfl,h⟩
 | Is=>
  obtain⟨rfl,h⟩:=S4 h;refine Aw pins s σ H _ _ v u Q I G J ⟨rfl,?_⟩;cases x<;>exact h
 | IsNot=>
  obtain⟨rfl,h⟩:=S4 h;refine R3 pins s σ H _ _ v u Q I G J ⟨rfl,?_⟩;cases x<;>exact h
 | _=>exact False.elim h
theorem Dh:IxR X (rX X.K):=by
 intro value G pins s σ H x y v u Q I M U h Y;unfold rX at h;split at h
 .cases h with
  | t xs w J L k=>exact Qj value G pins s σ H _ _ v u Q I M U ⟨_,xs,_,w,rfl,rfl,J,L,k⟩ Y
  | l xs w J L k=>exact QE value G pins s σ H _ _ v u Q I M U ⟨_,xs,_,w,rfl,rfl,J,L,k⟩ Y
 .exact h.elim
def ord:Expr->Bool
 | .Starred _ _=>false
 | .Slice _ _ _ _=>false
 | .Set _ _ _=>false
 | _=>true
def osw:Expr->Bool
 | .ListComp _ _ _ _=>false
 | .SetComp _ _ _ _=>false
 | .DictComp _ _ _ _ _=>false
 | _=>true
def tst:Expr->Bool
 | .UnaryOp .Not _ _=>false
 | .BoolOp _ _ _=>false
 | .IfExp _ _ _ _=>false
 | .Compare _ _ _ _=>false
 | _=>true
theorem Zu(h:ord e=true):starEach (e::es) env=(false,eval e env)::starEach es env:=by
 cases e<;>first | rfl | exact absurd (show false=true from h) aS
theorem VC{t:Option Expr}{l:Nat}(h:osw e=true):swapsWith e t l env=pure false:=by
 cases e<;>first | rfl | exact absurd (show false=true from h) aS
theorem PR(h:ord e=true):LV e:=by
 cases e<;>first | exact λ_ _=>rfl | exact absurd (show false=true from h) aS
theorem Yh(h:ord e=true)(x:Value):foldedSetIterable e env x=pure x:=by
 cases e<;>first | rfl | exact absurd (show false=true from h) aS
theorem M0(h:tst e=true)(wh:Sem Value):isTrue e env wh=(do let v <-wh;standAt e.pos;holding [v] (truthy v)):=by
 cases e<;>first | rfl | exact absurd (show false=true from h) aS | (rename_i op _ _;cases op<;>first | rfl | exact absurd (show false=true from h) aS)
theorem Uy{es:List Expr}{pos:Pos}{env:Env}(h:es.all ord=true):(backTo pos (starEach es env)).any (·.1)=false:=by
 induction es with
 | nil=>rfl
 | cons e es G=>
  rw [fi,bC]at h;rw [Zu h.1];show(false||(backTo pos (starEach es env)).any (·.1))=false;rw [G h.2];rfl
structure CallOk(X:Cx)(x:Str)(r:Rel):Prop where
 ok:∀(p pos:Pos)(e:Expr)(es:List Expr)(t:TA),PA X (e::es) t->Gl X x->(x==("__debug__":Str))=false->starEach (e::es) X.env=(false,eval e X.env)::starEach es X.env->(backTo pos (starEach es X.env)).any (·.1)=false->PE X (.Call (.Name x p) (e::es) [] pos) (λσ H Q=>t σ H λvs H1=>r σ vs H1 Q)
theorem CallOk.fn{k:Nat}(F:Fn X.prog X.w X.K X.mg X.base k x ps sp)(hr:Room k' X.A)(hk:k<=k':=by decide):CallOk X x (λ_ vs H Q=>sp vs H Q E0):=
 ⟨λp pos e es t G J L M hp=>by
  have:=Qp (p:=p) (pos:=pos) F hr G hk J L M hp;intro pins s σ H Q I h;exact this pins s σ H Q I (by
   show t σ H λvs H1=>sp (vs++[]) H1 Q E0
   simpa only [dO]using h)⟩
structure MethOk(X:Cx)(m:Str)(q:Mr):Prop where
 ok:∀(o e:Expr)(es:List Expr)(to:TE)(t:TA)(ap cp:Pos),PE X o to->PA X (e::es) t->attributeBase o m X.env (eval o X.env)=eval o X.env->((e::es).all ord)=true->(e::es).length<20->(ap.endLine==cp.line)=true->PE X (.Call (.Attribute o m ap) (e::es) [] cp) (λσ H Q=>to σ H λx H1=>q.ty x H1/\t σ H1 λvs H2=>q.r x vs H2 Q)
theorem TJ{cp:Pos}(h:es.all ord=true)(hl:es.length<20):((backTo cp (starEach es env)).all (λx=>!x.1)&&(backToKw cp (keywordEach [] env)).all (λx=>x.1.isSome)
 &&decide (es.length+([]:List Keyword).length+(if([]:List Keyword).isEmpty then 0 else 1)<30))=true:=by
 have h1:(backTo cp (starEach es env)).all (λx=>!x.1)=true:=by
  have:=Uy (pos:=cp) (env:=env) h;exact List.all_eq_true.mpr λx G=>by
   have:=List.any_eq_false.mp this x G
   simpa using this
 rw [h1];have h2:decide (es.length+([]:List Keyword).length+(if([]:List Keyword).isEmpty then 0 else 1)<30)=true:=by simp;lia
 rw [h2];rfl
theorem MethOk.bm{id:String}{r:V->List V->Hp->VK->Prop}(pa:PlainAttrs T)(slot:Slot T name id)(hty:typeOf (.builtin id)=pure (.type "method_descriptor"))(hm:MtR X id r):MethOk X name ⟨tyV X.K T,r⟩:=
 ⟨λo e es to t Y Z J L M h U G=>by
  rw [fi,bC]at h;exact YQ pa slot hty hm J L M (TJ (by rw [fi,bC];exact h) U) G (Zu h.1) (Uy h.2)⟩
inductive PEs(X:Cx):List Expr->List TE->Prop where
 | nil:PEs X [] []
 | cons {e:Expr} {es:List Expr} {t:TE} {ts:List TE}:PE X e t->PEs X es ts->PEs X (e::es) (t::ts)
def V8:List TE->TA
 | []=>λ_ H Q=>Q [] H
 | t::r=>λσ H Q=>t σ H λx H1=>V8 r σ H1 λxs H2=>Q (x::xs) H2
structure NodeOk(X:Cx)(sh:Expr->Option (List Expr))(r:List V->Hp->VK->Prop):Prop where
 ok:∀(e:Expr)(es:List Expr)(ts:List TE),sh e=some es->PEs X es ts->PE X e (λσ H Q=>V8 ts σ H λvs H1=>r vs H1 Q)
 okT:∀(e:Expr)(es:List Expr)(ts:List TE),sh e=some es->PEs X es ts->PT X e (λσ H Q=>V8 ts σ H λvs H1=>r vs H1 λx H2=>asB x H2 Q)
def up(t:TE):TE:=λσ H Q=>∃Q0:VK,t σ H Q0/\∀x H',Q0 x H'->Q x H'
def upA(t:TA):TA:=λσ H Q=>∃Q0:List V->Hp->Prop,t σ H Q0/\∀x H',Q0 x H'->Q x H'
def upT(t:TT):TT:=λσ H Q=>∃Q0:Bool->Hp->Prop,t σ H Q0/\∀x H',Q0 x H'->Q x H'
def upR(r:R2):R2:=λx y H Q=>∃Q0:VK,r x y H Q0/\∀x H',Q0 x H'->Q x H'
theorem QX{X:Cx}{e:Expr}{t:TE}(h:PE X e t):PE X e (up t):=λpins s σ H Q I ⟨G,J,k⟩=>thn (h pins s σ H G I J) λv Y ⟨x,H1,L,M,U⟩=>⟨x,H1,L,M,k _ _ U⟩
theorem Tj{t:TA}(h:PA X es t):PA X es (upA t):=λpos pins s σ H Q I ⟨G,J,k⟩=>thn (h pos pins s σ H G I J) λv Y ⟨x,H1,L,M,U⟩=>⟨x,H1,L,M,k _ _ U⟩
theorem WP{t:TT}(h:PT X e t):PT X e (upT t):=λpins s σ H Q I ⟨G,J,k⟩=>thn (h pins s σ H G I J) λv U ⟨H1,L,M⟩=>⟨H1,L,k _ _ M⟩
theorem Oj{f:Value->Value->Sem Value}{r:R2}(h:OpR X f r):OpR X f (upR r):=λpins s σ H x y v u Q I G J ⟨L,M,k⟩=>thn (h pins s σ H x y v u L I G J M) λv s1 ⟨x,H1,U,Y,Z⟩=>⟨x,H1,U,Y,k _ _ Z⟩
theorem SW{t:TT}(h:PF X es t):PF X es (upT t):=λpins s σ H Q I ⟨G,J,k⟩=>thn (h pins s σ H G I J) λv U ⟨H1,L,M⟩=>⟨H1,L,k _ _ M⟩
theorem Zc{t u:TE}(h:PE X e t)(k:∀σ H Q,u σ H Q->t σ H Q):PE X e u:=λpins s σ H Q I q=>h pins s σ H Q I (k σ H Q q)
theorem YG{t u:TT}(h:PT X e t)(k:∀σ H Q,u σ H Q->t σ H Q):PT X e u:=λpins s σ H Q I q=>h pins s σ H Q I (k σ H Q q)
section
variable{K:Fg}{m:Nat}{Q:VK}
theorem JE{R:Nat->List V->Hp->Prop}{x:V}(hn:i<n)(hz:n<=4000)(ha:H acc=none)(hm:∀acc i ys l H1 H2,R i ys H1->H1 acc=some (.lst l)->H acc=none->(∀a o,a≠acc->H1 a=some o->H2 a=some o)->(∀a xs,SqT K H1 a xs->SqT K H2 a xs)->R i ys H2)
 (hy:H1 acc=some (.lst ys)) (hl:ys.length<=i) (g:Same H H1) (q:tt (some x::cs) H1 λb H2=>cond b (te (some x::cs) H2 λy H3=>Same H1 H3/\R (i+1) (ys++[y]) H3) (Same H1 H2/\R (i+1) ys H2)):
 upT tt (some x::cs) H1 (WZ n (λi ys H'=>H' acc=some (.lst ys)/\Same H H'/\R i ys H'/\ys.length<=i) acc i (up te) (some x::cs)):=by
 refine⟨_,q,λb H2 q=>?_⟩;cases b with
 | true=>
  refine Q4 ⟨_,q,λy H3 q=>?_⟩;have G:=q.1 _ _ hy;refine QA (ys:=ys) hn G (5:) ⟨Qb,λz u e=>?_,hm acc _ _ ys H3 _ q.2 G ha (λa o J e=>by rw [Qh J];exact e) (λa xs h=>SqT.put h G),by rw [bH];show ys.length+1<=_;lia⟩;rw [Qh (Qg e ha)];exact q.1 _ _ (g _ _ e)
 | false=>exact QS (ZQ hn ⟨q.1 _ _ hy,g.trans q.1,q.2,by lia⟩)
theorem UF{R:Addr->Nat->List V->Hp->Prop}{x:V}(hn:i<n)(hz:n<=4000)(hl:ys.length<=i)(q:tt (some x::cs) H1 λb H2=>cond b (te (some x::cs) H2 λy H3=>H3 acc=some (.lst ys)/\R acc (i+1) (ys++[y]) (upd H3 acc (.lst (ys++[y])))) (R acc (i+1) ys H2)):
 upT tt (some x::cs) H1 (WZ n (λi ys H'=>R acc i ys H'/\ys.length<=i) acc i (up te) (some x::cs)):=by
 refine⟨_,q,λb H2 q=>?_⟩;cases b with
 | true=>exact Q4 ⟨_,q,λy H3 q=>QA (ys:=ys) hn q.1 (5:) ⟨q.2,by rw [bH];show ys.length+1<=_;lia⟩⟩
 | false=>exact QS (ZQ hn ⟨q,by lia⟩)
theorem MY(h:Cmp K (λ_=>True) (λi=>.int (i:Int)) m cs tt te H Q)(ha:H acc=none):Uc (Itr 0 m) 1 cs (Q8 0) (upT tt) (up te) H acc (λH'=>Q (.ref acc) H'):=by
 cases h with
 | s R G M hz J L=>
  refine JQ (λi ys H'=>H' acc=some (.lst ys)/\Same H H'/\R i ys H'/\ys.length<=i) ⟨Qb,Qd ha _,G _ (Qd ha _),bN _⟩ (λi ys H1 hi p=>?_) λys H1 p=>L acc ys H1 p.2.1 p.1 p.2.2.1;rw [eP];exact JE hi hz ha M p.1 p.2.2.2 p.2.1 (J i ys H1 hi p.2.2.2 p.2.1 p.2.2.1)
 | m R hz G U J L=>
  refine JQ (λi ys H'=>R acc i ys H'/\ys.length<=i) ⟨G acc _ ha (Qd ha _) Qb,bN _⟩ (λi ys H1 hi p=>?_) λys H1 p=>L acc ys H1 ha p.1;rw [eP];exact UF hi hz p.2 (J acc i ys H1 hi p.2 ha p.1)
theorem OD(hx:SqL K H a xs)(h:Cmp K (λH=>SqL K H a xs) (λi=>(xs[i]?).getD .non) xs.length cs tt te H Q)(ha:H acc=none):Uc (Itl K a) 1 cs (Q8 0) (upT tt) (up te) H acc (λH'=>Q (.ref acc) H'):=by
 cases h with
 | s R G U hz J L=>
  refine Ji (xs:=xs) (λi ys H'=>H' acc=some (.lst ys)/\Same H H'/\R i ys H'/\ys.length<=i) ⟨Qb,Qd ha _,G _ (Qd ha _),bN _⟩ (λi ys H1 _ p=>p.2.1.seq hx) (λi x ys H1 hi e p=>?_) λys H1 p=>L acc ys H1 p.2.1 p.1 p.2.2.1;have q:=J i ys H1 hi p.2.2.2 p.2.1 p.2.2.1;rw [e]at q;exact JE hi hz ha U p.1 p.2.2.2 p.2.1 q
 | m R hz G M J L=>
  refine Ji (xs:=xs) (λi ys H'=>R acc i ys H'/\ys.length<=i) ⟨G acc _ ha (Qd ha _) Qb,bN _⟩ (λi ys H1 _ p=>M acc i ys H1 p.1) (λi x ys H1 hi e p=>?_) λys H1 p=>L acc ys H1 ha p.1;have q:=J acc i ys H1 hi p.2 ha p.1;rw [e]at q;exact UF hi hz p.2 q
theorem P2(hx:SqT K H a xs)(h:Cmp K (λH=>SqT K H a xs) (λi=>(xs[i]?).getD .non) xs.length cs tt te H Q)(ha:H acc=none):Uc (Itt K a) 1 cs (Q8 0) (upT tt) (up te) H acc (λH'=>Q (.ref acc) H'):=by
 cases h with
 | s R G U hz J L=>
  refine Y7 (xs:=xs) (λi ys H'=>H' acc=some (.lst ys)/\Same H H'/\R i ys H'/\ys.length<=i) ⟨Qb,Qd ha _,G _ (Qd ha _),bN _⟩ (λi ys H1 _ p=>p.2.1.seqT hx) (λi x ys H1 hi e p=>?_) λys H1 p=>L acc ys H1 p.2.1 p.1 p.2.2.1;have q:=J i ys H1 hi p.2.2.2 p.2.1 p.2.2.1;rw [e]at q;exact JE hi hz ha U p.1 p.2.2.2 p.2.1 q
 | m R hz G M J L=>
  refine Y7 (xs:=xs) (λi ys H'=>R acc i ys H'/\ys.length<=i) ⟨G acc _ ha (Qd ha _) Qb,bN _⟩ (λi ys H1 _ p=>M acc i ys H1 p.1) (λi x ys H1 hi e p=>?_) λys H1 p=>L acc ys H1 ha p.1;have q:=J acc i ys H1 hi p.2 ha p.1;rw [e]at q;exact UF hi hz p.2 q
end
structure Tb where
 N:List Str
 sc:Scope
 fn:List Str
 mt:List Str
 nk:List (Expr->Option (List Expr))
 sk:List (Stmt->Option (List Expr))
def AT(sc:Scope)(x:Str):Bool:=match sc.names.lookup x with
 | some .local=>true
 | some .cell=>true
 | some .free=>true
 | _=>false
def AI(sc:Scope)(x:Str):Bool:=match sc.names.lookup x with
 | some .local=>true
 | some .cell=>true
 | _=>false
def glB(sc:Scope)(x:Str):Bool:=match sc.names.lookup x with
 | some .globalImplicit=>true
 | _=>false
def ndB(x:Str):Bool:=!(x==("__debug__":Str))&& !(x==("__classdict__":Str))
def Ab:Const->V->Bool
 | .int i,.int j=>decide (i=j)
 | .str i,.str j=>decide (i=j)
 | .bool i,.bl j=>decide (i=j)
 | .none,.non=>true
 | _,_=>false
def S5(scope sc:Scope):Scope:={ scope with names:=scope.names.map λ(n,k)=>if(k==NameKind.free&&sc.kind== .function&&sc.names.lookup n==some .cell)then(n,NameKind.cell)else(n,k) }
def inn(T:Tb)(x:Str)(scope:Scope):Tb:=⟨x::Zg scope.names,S5 scope T.sc,T.fn,T.mt,T.nk,T.sk⟩
def U3(T:Tb)(cap:List Nat)(x:Str)(scope:Scope):Bool:=
 decide (scope.kind=.function)&&decide (T.sc.kind=.function)&&decide (cap.map (λj=>T.N[j]?)=(Zg scope.names).map some)&&decide (∀z∈scope.names,z.2≠.cell)&&decide (∀y∈scope.names,y.2=.local->scope.names.lookup y.1=some .local)
  &&decide (scope.names.lookup x=some .local)&&decide ((x::Zg scope.names).Nodup)&&decide (∀y∈Zg scope.names,scope.names.lookup y=some .free)&&decide (∀y∈Zg scope.names,T.sc.names.lookup y=some .cell)
def Px:Expr->Bool
 | .Call _ _ _ _=>false
 | _=>true
structure Vw where
 t:Nat
 x:Str
 a:Expr
 b:Expr
 c:Expr
 l:List Expr
 p:Pos
 o:Operator
 q:CmpOp
 n:Const
 k:Nat
 s:Scope
def Vw.z:Vw:=⟨0,Str.empty,.Name Str.empty default,.Name Str.empty default,.Name Str.empty default,[],default,.Add,.Eq,.none,0,default⟩
def DE(a:Expr):List CmpOp->List Expr->Vw
 | [q],[b]=>{ Vw.z with t:=4,a:=a,q:=q,b:=b }
 | _,_=>Vw.z
def Cn(f:Expr):List Expr->List Keyword->Vw
 | a::l,[]=>match f with
  | .Name x p=>{ Vw.z with t:=8,x:=x,p:=p,a:=a,l:=l }
  | .Attribute b x p=>{ Vw.z with t:=15,b:=b,x:=x,p:=p,a:=a,l:=l }
  | _=>Vw.z
 | _,_=>Vw.z
def CP(a:Expr):UnaryOp->Vw
 | .Not=>{ Vw.z with t:=9,a:=a }
 | _=>Vw.z
def Cf:BoolOp->List Expr->Vw
 | .And,a::b::l=>{ Vw.z with t:=10,a:=a,b:=b,l:=l }
 | .Or,a::b::l=>{ Vw.z with t:=11,a:=a,b:=b,l:=l }
 | _,_=>Vw.z
def vLc(a b:Expr)(s:Scope)(x:Str)(p:Pos):List Expr->Vw
 | []=>{ Vw.z with t:=13,a:=a,x:=x,p:=p,b:=b,s:=s }
 | [c]=>{ Vw.z with t:=14,a:=a,x:=x,p:=p,b:=b,c:=c,s:=s }
 | _=>Vw.z
def C0(a:Expr)(s:Scope)(b:Expr)(ifs:List Expr)(g:Expr):Int->Vw
 | .ofNat 0=>match g with
  | .Name x p=>vLc a b s x p ifs
  | _=>Vw.z
 | _=>Vw.z
def vLs(a:Expr)(s:Scope):List Comprehension->Vw
 | [g]=>C0 a s g.iter g.ifs g.target g.is_async
 | _=>Vw.z
def vw:Expr->Vw
 | .Name x _=>{ Vw.z with t:=1,x:=x }
 | .Constant n k _=>{ Vw.z with t:=2,n:=n,k:=k }
 | .BinOp a o b _=>{ Vw.z with t:=3,a:=a,o:=o,b:=b }
 | .Compare a q b _=>DE a q b
 | .Subscript a b _=>{ Vw.z with t:=5,a:=a,b:=b }
 | .Tuple l k _=>{ Vw.z with t:=6,l:=l,k:=k }
 | .List l _=>{ Vw.z with t:=7,l:=l }
 | .Call f l k _=>Cn f l k
 | .UnaryOp o a _=>CP a o
 | .BoolOp o l _=>Cf o l
 | .IfExp a b c _=>{ Vw.z with t:=12,a:=a,b:=b,c:=c }
 | .ListComp a g s _=>vLs a s g
 | _=>Vw.z
def reb(v:Vw)(p:Pos):Nat->Expr
 | 1=>.Name v.x p
 | 2=>.Constant v.n v.k p
 | 3=>.BinOp v.a v.o v.b p
 | 4=>.Compare v.a [v.q] [v.b] p
 | 5=>.Subscript v.a v.b p
 | 6=>.Tuple v.l v.k p
 | 7=>.List v.l p
 | 8=>.Call (.Name v.x v.p) (v.a::v.l) [] p
 | 9=>.UnaryOp .Not v.a p
 | 10=>.BoolOp .And (v.a::v.b::v.l) p
 | 11=>.BoolOp .Or (v.a::v.b::v.l) p
 | 12=>.IfExp v.a v.b v.c p
 | 13=>.ListComp v.a [⟨.Name v.x v.p,v.b,[],0⟩] v.s p
 | 14=>.ListComp v.a [⟨.Name v.x v.p,v.b,[v.c],0⟩] v.s p
 | 15=>.Call (.Attribute v.b v.x v.p) (v.a::v.l) [] p
 | _=>.Name v.x p
def Vok(v:Vw)(e:Expr):Prop:=v.t=0\/reb v e.pos v.t=e
theorem vw_eq(e:Expr):Vok (vw e) e:=by
 cases e with
 | Compare a q b p=>
  rcases q with _ | ⟨_,_ | ⟨_,_⟩⟩
  .exact .inl rfl
  .rcases b with _ | ⟨_,_ | ⟨_,_⟩⟩<;>first | exact .inr rfl | exact .inl rfl
  .exact .inl rfl
 | Call f l k p=>
  cases l with
  | nil=>exact .inl rfl
  | cons a l=>cases k with
   | nil=>cases f<;>first | exact .inr rfl | exact .inl rfl
   | cons _ _=>exact .inl rfl
 | UnaryOp o a p=>cases o<;>first | exact .inr rfl | exact .inl rfl
 | BoolOp o l p=>cases o<;>rcases l with _ | ⟨_,_ | ⟨_,_⟩⟩<;>first | exact .inr rfl | exact .inl rfl
 | ListComp a g s p=>
  rcases g with _ | ⟨⟨g,b,l,i⟩,_ | ⟨_,_⟩⟩
  .exact .inl rfl
  .rcases i with(_ | i) | i
   .cases g with
    | Name x q=>rcases l with _ | ⟨_,_ | ⟨_,_⟩⟩<;>first | exact .inr rfl | exact .inl rfl
    | _=>exact .inl rfl
   .exact .inl rfl
   .exact .inl rfl
  .exact .inl rfl
 | _=>first | exact .inr rfl | exact .inl rfl
def is(e:Expr)(n:Nat):Bool:=Nat.beq (vw e).t n
theorem rb{P:Expr->Prop}{e:Expr}{n:Nat}(h:is e (n+1)=true)(k:P (reb (vw e) e.pos (n+1))):P e:=by
 have G:(vw e).t=n+1:=Nat.eq_of_beq_eq_true h;rcases vw_eq e with h0 | h0
 .rw [h0]at G;cases G
 .rw [G]at h0;exact Eq.subst (motive:=P) h0 k
def MQ(kd:Nat)(f:Expr->Bool)(T:Tb)(b:Expr):Bool:=match kd with
 | 0=>is b 8&&(decide ((vw b).x="range")&&glB T.sc (vw b).x&&(vw b).l.isEmpty&&f (vw b).a&&ord (vw b).a)
 | 1=>f b&&ord b
 | 2=>f b&&ord b
 | _=>false
def rest(op:BoolOp)(v:Vw)(p:Pos):Expr:=match v.l with
 | []=>v.b
 | _::_=>.BoolOp op (v.b::v.l) p
mutual
noncomputable def chk:C->Tb->Expr->Bool
 | .v i,T,e=>is e 1&&(decide (T.N[i]?=some (vw e).x)&&AT T.sc (vw e).x&&ndB (vw e).x)
 | .k x,_,e=>is e 2&&Ab (vw e).n x
 | .bin op a b,T,e=>is e 3&&(decide (op=(vw e).o)&&chk a T (vw e).a&&chk b T (vw e).b)
 | .cmp op a b,T,e=>is e 4&&(decide (op=(vw e).q)&&chk a T (vw e).a&&chk b T (vw e).b&& !(behindInMarks op (vw e).b))
 | .ix a b,T,e=>is e 5&&(chk a T (vw e).a&&chk b T (vw e).b&&ord (vw e).b)
 | .tup as,T,e=>is e 6&&Y1 as T (vw e).l
 | .lst as,T,e=>is e 7&&Y1 as T (vw e).l
 | .call i as,T,e=>is e 8&&(decide (T.fn[i]?=some (vw e).x)&&glB T.sc (vw e).x&&ndB (vw e).x&&Y1 as T ((vw e).a::(vw e).l))
 | .no a,T,e=>is e 9&&chk a T (vw e).a
 | .an a b,T,e=>is e 10&&(chk a T (vw e).a&&chk b T (rest .And (vw e) e.pos))
 | .oo a b,T,e=>is e 11&&(chk a T (vw e).a&&chk b T (rest .Or (vw e) e.pos))
 | .meth i o as,T,e=>is e 15&&(decide (T.mt[i]?=some (vw e).x)&&chk o T (vw e).b&&Px (vw e).b&&Y1 as T ((vw e).a::(vw e).l)&&Nat.ble ((vw e).a::(vw e).l).length 19&&((vw e).p.endLine==e.pos.line))
 | .nd i as,T,e=>match T.nk[i]? with
  | some sh=>match sh e with
   | some es=>Y1 as T es
   | none=>false
  | none=>false
 | .iff c a b,T,e=>is e 12&&(chk c T (vw e).a&&chk a T (vw e).b&&chk b T (vw e).c)
 | .comp kd it cap elt,T,e=>is e 13&&(U3 T cap (vw e).x (vw e).s&&chk elt (inn T (vw e).x (vw e).s) (vw e).a&&MQ kd (chk it T) T (vw e).b)
 | .compI kd it cap cnd elt,T,e=>is e 14&&(U3 T cap (vw e).x (vw e).s&&chk elt (inn T (vw e).x (vw e).s) (vw e).a&&chk cnd (inn T (vw e).x (vw e).s) (vw e).c&&MQ kd (chk it T) T (vw e).b)
termination_by structural c=>c
noncomputable def Y1:List C->Tb->List Expr->Bool
 | [],_,es=>es.isEmpty
 | a::r,T,es=>match es with
  | e::es=>ord e&&chk a T e&&Y1 r T es
  | []=>false
termination_by structural c=>c
end
theorem Tx(h:AT sc x=true):Vis sc x:=by
 unfold AT at h;split at h
 .exact .inl (by assumption)
 .exact .inr (.inl (by assumption))
 .exact .inr (.inr (by assumption))
 .cases h
theorem M9(h:AI sc x=true):Loc sc x:=by
 unfold AI at h;split at h
 .exact .inl (by assumption)
 .exact .inr (by assumption)
 .cases h
theorem O8(h:glB X.env.scope x=true):Gl X x:=by
 unfold glB at h;split at h
 .assumption
 .cases h
theorem YS(h:ndB x=true):(x==("__debug__":Str))=false/\(x==("__classdict__":Str))=false:=by
 unfold ndB at h;rw [bC]at h;exact⟨by simpa using h.1,by simpa using h.2⟩
theorem Wd{k:V->Prop}:∀{σ:St}{i:Nat},Ty σ i k->∃v,σ[i]?=some (some v)/\k v
 | [],_,h=>h.elim
 | none::_,0,h=>h.elim
 | some x::_,0,h=>⟨x,rfl,h⟩
 | none::r,n+1,h=>by rw [List.getElem?_cons_succ];exact Wd (σ:=r) (i:=n) h
 | some _::r,n+1,h=>by rw [List.getElem?_cons_succ];exact Wd (σ:=r) (i:=n) h
theorem ZJ{x:V}:∀{σ:St}{i:Nat}{k:St->Prop},X3 σ i x k->k (σ.set i (some x))
 | [],_,_,h=>h.elim
 | _::_,0,_,h=>h
 | a::r,n+1,k,h=>ZJ (σ:=r) (i:=n) (k:=λG=>k (a::G)) h
theorem UL{x:V}{Q:Bool->Hp->Prop}(h:asB x H Q):∃b,x=.bl b/\Q b H:=by
 unfold asB at h;split at h
 .exact⟨_,rfl,h⟩
 .exact h.elim
theorem Mw{c:Bool}{A B:Prop}(h:cond c A B):if c=true then A else B:=by
 cases c with
 | true=>exact h
 | false=>exact h
theorem O7:∀{xs:List V}{n:Nat},Mh xs n=true->xs.length<=n
 | [],_,_=>bN _
 | _::_,0,h=>nomatch h
 | _::r,n+1,h=>Nat.succ_le_succ (O7 (xs:=r) h)
theorem Ou{A:Prop}(h:cond (Mh xs n) A False):xs.length<=n/\A:=by
 cases G:Mh xs n with
 | false=>rw [G]at h;exact h.elim
 | true=>rw [G]at h;exact⟨O7 G,h⟩
theorem Wt{T:Tb}:∀(as:List C)(es:List Expr),Y1 as T es=true->es.all ord=true
 | [],[],_=>rfl
 | [],_::_,h=>nomatch h
 | _::_,[],h=>nomatch h
 | a::r,e::es,h=>by
  have h:(ord e&&chk a T e&&Y1 r T es)=true:=h;rw [bC,bC]at h;rw [fi,bC];exact⟨h.1.1,Wt r _ h.2⟩
theorem Ch{op:BoolOp}{t:TT}(h:PT X (.BoolOp op es pos) t):PW X (.BoolOp op es pos) t:=λ_ pins s σ H Q I q=>h pins s σ H Q I q
def ET(n:En)(c:C):TT:=λσ H Q=>E n c σ H λx H1=>asB x H1 Q
theorem XW:∀{cap:List Nat}{σ:St},Vl cap σ=Xj cap σ
 | [],_=>rfl
 | j::r,σ=>by rw [Vl,XW (cap:=r)];rfl
structure Fam(X X':Cx):Prop where
 p:X'.prog=X.prog
 w:X'.w=X.w
 K:X'.K=X.K
 m:X'.mg=X.mg
 b:X'.base=X.base
 A:X'.A=X.A
 c:X'.calm=X.calm
structure Fit(X:Cx)(T:Tb)(fs:List Rel)(ms:List Mr)(nr:List (List V->Hp->VK->Prop)):Prop where
 hN:T.N=X.N
 hs:T.sc=X.env.scope
 hf:∀X':Cx,Fam X X'->∀(i:Nat) x,T.fn[i]?=some x->∃r,fs[i]?=some r/\CallOk X' x r
 hm:∀X':Cx,Fam X X'->∀(i:Nat) x,T.mt[i]?=some x->∃r,ms[i]?=some r/\MethOk X' x r
 hn:∀X':Cx,Fam X X'->∀(i:Nat) sh,T.nk[i]?=some sh->∃r,nr[i]?=some r/\NodeOk X' sh r
 ca:X.calm=true
 rg:X.mg "range"=none
theorem Fit.inn{T:Tb}{fs:List Rel}{ms:List Mr}(F:Fit X T fs ms nr)(x:Str)(scope:Scope)(cl:List (Str×Addr))(C:Addr)(fp:List Addr)(s₀:Shared)(H₀:Hp):Fit (QL X ([x]++Zg scope.names) scope cl C fp s₀ H₀) (inn T x scope) fs ms nr:=
 ⟨rfl,by
  show S5 scope T.sc=relabel scope X.env;rw [F.hs];rfl,λG f=>F.hf G ⟨f.p,f.w,f.K,f.m,f.b,f.A,f.c⟩,λG f=>F.hm G ⟨f.p,f.w,f.K,f.m,f.b,f.A,f.c⟩,λG f=>F.hn G ⟨f.p,f.w,f.K,f.m,f.b,f.A,f.c⟩,F.ca,F.rg⟩
theorem Lw{T:Tb}{fs:List Rel}{ms:List Mr}(F:Fit X T fs ms nr)(h:U3 T cap x scope=true)(has:∀y,X.env.scope.names.lookup y=some .cell->∃c,X.env.cells.lookup y=some c):∃cl,CompG X [x] (Zg scope.names) cap scope cl:=by
 unfold U3 at h;simp only [bC,eJ]at h;obtain⟨⟨⟨⟨⟨⟨⟨⟨h1,h2⟩,J⟩,M⟩,U⟩,Y⟩,Z⟩,h8⟩,G⟩:=h;rw [F.hs]at h2 G;rw [F.hN]at J;obtain⟨cs,L⟩: ∃cs:List Addr,(Zg scope.names).map (λy=>X.env.cells.lookup y)=cs.map some:=by
  have:∀l:List Str,(∀y∈l,X.env.scope.names.lookup y=some .cell)->∃cs:List Addr,l.map (λy=>X.env.cells.lookup y)=cs.map some:=by
   intro l
   induction l with
   | nil=>exact λ_=>⟨[],rfl⟩
   | cons y r ih=>
    intro h;obtain⟨cs,e⟩:=ih λz hz=>h z (aV _ hz);obtain⟨c,ec⟩:=has y (h y aQ);exact⟨c::cs,by rw [aR,e,ec];rfl⟩
  exact this _ G
 exact⟨_,CompG.many (xs:=[x]) (caps:=Zg scope.names) (cap:=cap) (cs:=cs) h1 h2 rfl M U (λz hz=>by rw [bM.mp hz];exact Y) Z h8 (fZ λy hy=>G y hy) L J⟩
theorem pvT{t:TE}(h:PE X e t)(ht:tst e=true):PE X e t/\PT X e (λσ H Q=>t σ H λx H1=>asB x H1 Q):=⟨h,YG (QF (QX h) (M0 ht)) λσ H Q q=>⟨_,q,λx H1 q=>UL q⟩⟩
theorem XU{n:En}:∀(as:List C){σ:St}{H:Hp}{Q:List V->Hp->Prop},Es n as σ H Q↔V8 (as.map (E n)) σ H Q
 | [],σ,H,Q=>Iff.rfl
 | a::r,σ,H,Q=>by
  have:(λx H1=>Es n r σ H1 λxs H2=>Q (x::xs) H2)=λx H1=>V8 (r.map (E n)) σ H1 λxs H2=>Q (x::xs) H2:=by
   funext x H1
   exact propext (XU r)
  show(E n a σ H λx H1=>Es n r σ H1 λxs H2=>Q (x::xs) H2)↔_;rw [this];exact Iff.rfl
theorem NP{α:Type}{l:List α}(h:l.isEmpty=true):l=[]:=by
 cases l with
 | nil=>rfl
 | cons _ _=>cases h
theorem NW{op:BoolOp}{v:Vw}{p:Pos}{t:TE}(h:PE X (rest op v p) t):PE X (.BoolOp op (v.b::v.l) p) t:=by
 obtain⟨_,_,_,b,_,l,_,_,_,_,_,_⟩:=v;cases l with
 | nil=>exact Ps h
 | cons _ _=>exact h
theorem T8{v:Vw}{p:Pos}{t:TT}(h:PT X (rest .And v p) t):PW X (.BoolOp .And (v.b::v.l) p) t:=by
 obtain⟨_,_,_,b,_,l,_,_,_,_,_,_⟩:=v;cases l with
 | nil=>exact pw_and1 h
 | cons _ _=>exact Ch h
theorem AN{v:Vw}{p:Pos}{t:TT}(h:PT X (rest .Or v p) t):PW X (.BoolOp .Or (v.b::v.l) p) t:=by
 obtain⟨_,_,_,b,_,l,_,_,_,_,_,_⟩:=v;cases l with
 | nil=>exact pw_or1 h
 | cons _ _=>exact Ch h
theorem b2{a b:Bool}(h:(a&&b)=true):a=true/\b=true:=by rwa [bC]at h
theorem JO{K:Fg}{m:Nat}{Q Q':VK}{it:Hp->Prop}(h:Cmp K it itm m cs tt te H Q)(k:∀x H,Q x H->Q' x H):Cmp K it itm m cs tt te H Q':=by
 cases h with
 | s R G M hz J L=>exact .s R G M hz J λp ys H1 g e r=>k _ _ (L p ys H1 g e r)
 | m R hz G U J L=>exact .m R hz G U J λp ys H1 g r=>k _ _ (L p ys H1 g r)
def ItR(X:Cx)(kd:Nat)(tit:TE)(tg b:Expr):Prop:=∃wi:TI,PI X tg b wi/\(∀x,foldedSetIterable b X.env x=pure x)/\∀cap tt te σ H (Q Q':VK),(∀x H,Q x H->Q' x H)->(tit σ H λx H1=>Np X.K kd x (Vl cap σ) tt te H1 Q)->Ju 1 wi cap (Q8 0) (upT tt) (up te) σ H Q'
theorem Te{X:Cx}{T:Tb}{fs:List Rel}{ms:List Mr}{nr:List (List V->Hp->VK->Prop)}(F:Fit X T fs ms nr){kd:Nat}{f:Expr->Bool}{b tg:Expr}{tit:TE}(h:MQ kd f T b=true)(hf:∀e,f e=true->PE X e tit):ItR X kd tit tg b:=by
 match kd,h with
 | 0,h=>
  obtain⟨h0,h⟩:=b2 (show(is b 8&&_)=true from h);obtain⟨h,G⟩:=b2 h;obtain⟨h,J⟩:=b2 h;obtain⟨h,z5⟩:=b2 h;obtain⟨U,Y⟩:=b2 h;rw [F.hs,bJ U]at Y;refine rb (P:=ItR X 0 tit tg) h0 ?_;show ItR X 0 tit tg (.Call (.Name (vw b).x (vw b).p) ((vw b).a::(vw b).l) [] b.pos);rw [bJ U,NP z5];refine⟨_,Q5 (O8 Y) F.rg (Qa (QX (hf _ J)) Qc (Zu G)) (Zu G),λ_=>rfl,λcap tt te σ H Q Z k q=>⟨_,q,λx H1 q=>?_⟩⟩;cases x with
  | int j=>
   obtain⟨hr,q⟩:=q;rw [XW]at q;exact⟨j,rfl,hr.1,hr.2,λacc L=>MY (JO q k) L⟩
  | _=>exact False.elim q
 | 1,h=>
  obtain⟨J,G⟩:=b2 h;refine⟨_,QH (QX (hf _ J)),Yh G,λcap tt te σ H Q Z k q=>⟨_,q,λx H1 q=>?_⟩⟩;cases x with
  | ref a=>
   cases q with
   | l xs M q=>
    rw [XW]at q;exact⟨a,rfl,⟨xs,M⟩,λacc L=>OD M (JO q k) L⟩
  | _=>exact False.elim q
 | 2,h=>
  obtain⟨J,G⟩:=b2 h;refine⟨_,Yu (QX (hf _ J)),Yh G,λcap tt te σ H Q Z k q=>⟨_,q,λx H1 q=>?_⟩⟩;cases x with
  | ref a=>
   cases q with
   | t xs M q=>
    rw [XW]at q;exact⟨a,rfl,⟨xs,M⟩,λacc L=>P2 M (JO q k) L⟩
  | _=>exact False.elim q
 | _+3,h=>exact nomatch h
theorem S7{T:Tb}{fs:List Rel}{ms:List Mr}(F:Fit X T fs ms nr){f:Expr->Bool}{b:Expr}{p:Pos}(h1:U3 T cap x scope=true)(h:MQ kd f T b=true)(hf:∀e,f e=true->PE X e tit)
 (hel:∀cl C fp s₀ H₀,PE (QL X ([x]++Zg scope.names) scope cl C fp s₀ H₀) el te) (hc:∀cl C fp s₀ H₀,PF (QL X ([x]++Zg scope.names) scope cl C fp s₀ H₀) ifs tt):PE X (.ListComp el [⟨.Name x p,b,ifs,0⟩] scope pos) (λσ H Q=>tit σ H λv H1=>Np X.K kd v (Vl cap σ) tt te H1 Q):=λpins s σ H Q I q=>by
 obtain⟨cl,O⟩:=Lw F h1 λy G=>I.ok.has y (.inl G);obtain⟨U,J,L,M⟩:=Te F (tg:=.Name x p) h hf;exact QM O F.ca J (YR O) (λC fp s₀ H₀=>SW (hc cl C fp s₀ H₀)) (λC fp s₀ H₀=>QX (hel cl C fp s₀ H₀)) L pins s σ H Q I (M _ _ _ _ _ _ _ (λ_ _ q=>q) q)
theorem AJ{c:Const}{x:V}{k:Nat}{p:Pos}(h:Ab c x=true):PE X (.Constant c k p) (λ_ H Q=>Q x H):=by
 unfold Ab at h;split at h
 .rw [bJ h];exact Qf
 .rw [bJ h];exact Zi
 .rw [bJ h];exact ZE
 .exact TL
 .cases h
theorem rbE{t:TE}{u:TT}(h:is e (n+1)=true)(k:PE X (reb (vw e) e.pos (n+1)) t/\PT X (reb (vw e) e.pos (n+1)) u):PE X e t/\PT X e u:=rb (P:=λe=>PE X e t/\PT X e u) h k
theorem Ac{m:Str}(h:Px e=true):attributeBase e m env (eval e env)=eval e env:=by
 cases e<;>first | rfl | exact absurd (show false=true from h) aS
section
variable{fs:List Rel}{ms:List Mr}
mutual
theorem snb:∀(c:C){X:Cx}{T:Tb}(F:Fit X T fs ms nr)(e:Expr),chk c T e=true->PE X e (E ⟨X.K,fs,ms,nr,sr⟩ c)/\PT X e (ET ⟨X.K,fs,ms,nr,sr⟩ c)
 | .v i,X,T,F,e,h=>by
  obtain⟨G,h⟩:=b2 h;obtain⟨h,J⟩:=b2 h;obtain⟨h1,h2⟩:=b2 h;have h1:=bJ h1;rw [F.hN]at h1;rw [F.hs]at h2;exact rbE G (pvT (Zc (Gs h1 (Tx h2) (YS J).1 (YS J).2) λσ H Q q=>Wd q) rfl)
 | .k x,X,T,F,e,h=>by
  obtain⟨G,h⟩:=b2 h;exact rbE G (pvT (AJ h) rfl)
 | .bin op a b,X,T,F,e,h=>by
  obtain⟨G,h⟩:=b2 h;obtain⟨h,J⟩:=b2 h;obtain⟨h1,h2⟩:=b2 h;refine rbE G ?_;show PE X (.BinOp (vw e).a (vw e).o (vw e).b e.pos) _/\PT X (.BinOp (vw e).a (vw e).o (vw e).b e.pos) _;rw [<-bJ h1];exact pvT (QD (CY op) (snb a F _ h2).1 (snb b F _ J).1) rfl
 | .cmp op a b,X,T,F,e,h=>by
  obtain⟨G,h⟩:=b2 h;obtain⟨h,M⟩:=b2 h;obtain⟨h,J⟩:=b2 h;obtain⟨h1,h2⟩:=b2 h;have M:behindInMarks op (vw e).b=false:=by simpa using M
  refine rbE G ?_;show PE X (.Compare (vw e).a [(vw e).q] [(vw e).b] e.pos) _/\PT X (.Compare (vw e).a [(vw e).q] [(vw e).b] e.pos) _;rw [<-bJ h1];exact⟨ZI (B0 op) (snb a F _ h2).1 (snb b F _ J).1 M,YG (Qu (Oj (B0 op)) (QX (snb a F _ h2).1) (QX (snb b F _ J).1) M) λσ H Q q=>⟨_,q,λx H1 q=>⟨_,q,λy H2 q=>⟨_,q,λz H3 q=>UL q⟩⟩⟩⟩
 | .ix a b,X,T,F,e,h=>by
  obtain⟨G,h⟩:=b2 h;obtain⟨h,J⟩:=b2 h;obtain⟨h1,h2⟩:=b2 h;exact rbE G (pvT (Qk Dh (snb a F _ h1).1 (snb b F _ h2).1 (PR J)) rfl)
 | .tup L,X,T,F,e,h=>by
  obtain⟨G,h⟩:=b2 h;exact rbE G (pvT (Zc (QB (Tj (Om L F _ h))) λσ H Q q=>⟨_,q,λvs H1 q=>by
   obtain⟨hl,q⟩:=Ou q;exact⟨bX hl (11:),λp hp=>q.h p _ (Qd hp _) (SqT.of Qb) Qb⟩⟩) rfl)
 | .lst L,X,T,F,e,h=>by
  obtain⟨G,h⟩:=b2 h;exact rbE G (pvT (Zc (Zm (Tj (Om L F _ h))) λσ H Q q=>⟨_,q,λvs H1 q=>by
   obtain⟨hl,q⟩:=Ou q;exact⟨bX hl (11:),λp hp=>q.h p _ (Qd hp _) Qb hp⟩⟩) rfl)
 | .call i L,X,T,F,e,h=>by
  obtain⟨G,h⟩:=b2 h;obtain⟨h,M⟩:=b2 h;obtain⟨h,J⟩:=b2 h;obtain⟨h1,h2⟩:=b2 h;obtain⟨r,U,Y⟩:=F.hf X ⟨rfl,rfl,rfl,rfl,rfl,rfl,rfl⟩ _ _ (bJ h1);rw [F.hs]at h2;have Z:=Wt L _ M;rw [fi,bC]at Z;refine rbE G (pvT (Zc (Y.ok (vw e).p e.pos _ _ _ (Om L F _ M) (O8 h2) (YS J).1 (Zu Z.1) (Uy Z.2)) λσ H Q q=>?_) rfl);have q:Es ⟨X.K,fs,ms,nr,sr⟩ L σ H λvs H1=>match fs[i]? with | some r=>r σ vs H1 Q | none=>False:=q
  rw [U]at q;exact q
 | .no a,X,T,F,e,h=>by
  obtain⟨G,h⟩:=b2 h;exact rbE G ⟨Zc (NM (QX (snb a F _ h).1)) λσ H Q q=>⟨_,q,λx H1 q=>UL q⟩,QW (snb a F _ h).2⟩
 | .an a b,X,T,F,e,h=>by
  obtain⟨G,h⟩:=b2 h;obtain⟨h1,h2⟩:=b2 h;exact rbE G ⟨Zc (O6 (QX (snb a F _ h1).1) (NW (snb b F _ h2).1)) λσ H Q q=>⟨_,q,λx H1 q=>by
   obtain⟨c,e,q⟩:=UL q;exact⟨c,e,Mw q⟩⟩,YG (PW.pt (pw_and (WP (snb a F _ h1).2) (T8 (snb b F _ h2).2))) λσ H Q q=>⟨_,q,λx H1 q=>Mw q⟩⟩
 | .oo a b,X,T,F,e,h=>by
  obtain⟨G,h⟩:=b2 h;obtain⟨h1,h2⟩:=b2 h;exact rbE G ⟨Zc (Bo (QX (snb a F _ h1).1) (NW (snb b F _ h2).1)) λσ H Q q=>⟨_,q,λx H1 q=>by
   obtain⟨c,e,q⟩:=UL q;exact⟨c,e,Mw q⟩⟩,YG (PW.pt (pw_or (WP (snb a F _ h1).2) (AN (snb b F _ h2).2))) λσ H Q q=>⟨_,q,λx H1 q=>Mw q⟩⟩
 | .meth i o L,X,T,F,e,h=>by
  obtain⟨G,h⟩:=b2 h;obtain⟨h,h6⟩:=b2 h;obtain⟨h,Z⟩:=b2 h;obtain⟨h,M⟩:=b2 h;obtain⟨h,J⟩:=b2 h;obtain⟨h1,h2⟩:=b2 h;obtain⟨r,U,Y⟩:=F.hm X ⟨rfl,rfl,rfl,rfl,rfl,rfl,rfl⟩ _ _ (bJ h1);refine rbE G (pvT (Zc (Y.ok (vw e).b _ _ _ _ (vw e).p e.pos (QX (snb o F _ h2).1) (Om L F _ M) (Ac J) (Wt L _ M) (Nat.lt_succ_of_le (Nat.ble_eq.mp Z)) h6) λσ H Q q=>⟨_,q,λx H1 q=>?_⟩) rfl);have q:(match ms[i]? with | some m=>Cnd (m.ty x H1) (Es ⟨X.K,fs,ms,nr,sr⟩ L σ H1 λxs H2=>m.r x xs H2 Q) | none=>False):=q;rw [U]at q;exact⟨q.h,q.k⟩
 | .nd i L,X,T,F,e,h=>by
  have h:(match T.nk[i]? with
   | some sh=>match sh e with
    | some es=>Y1 L T es
    | none=>false
   | none=>false)=true:=h
  split at h
  .rename_i sh ae;obtain⟨r,U,Y⟩:=F.hn X ⟨rfl,rfl,rfl,rfl,rfl,rfl,rfl⟩ _ _ ae;split at h
   .rename_i es ad;refine⟨Zc (Y.ok e es _ ad (Ra L F _ h)) λσ H Q q=>?_,YG (Y.okT e es _ ad (Ra L F _ h)) λσ H Q q=>?_⟩
    .have q:Es ⟨X.K,fs,ms,nr,sr⟩ L σ H λvs H1=>match nr[i]? with | some r=>r vs H1 Q | none=>False:=q
     rw [U]at q;exact(XU L).mp q
    .have q:Es ⟨X.K,fs,ms,nr,sr⟩ L σ H λvs H1=>match nr[i]? with | some r=>r vs H1 (λx H2=>asB x H2 Q) | none=>False:=q
     rw [U]at q;exact(XU L).mp q
   .cases h
  .cases h
 | .iff c a b,X,T,F,e,h=>by
  obtain⟨G,h⟩:=b2 h;obtain⟨h,J⟩:=b2 h;obtain⟨h1,h2⟩:=b2 h;refine rbE G ⟨Zc (Ox (WP (snb c F _ h1).2) (snb a F _ h2).1 (snb b F _ J).1) λσ H Q q=>⟨_,q,λx H1 q=>Mw q⟩,λpins s σ H Q I q=>?_⟩;refine PyProof.Rows.isTrue_IfExp (thn ((snb c F _ h1).2 pins s σ H _ I q) λd s1 ⟨H1,I1,q1⟩=>?_);cases d with
  | true=>exact(snb a F _ h2).2 pins s1 σ H1 _ I1 q1
  | false=>exact(snb b F _ J).2 pins s1 σ H1 _ I1 q1
 | .comp kd it cap aa,X,T,F,e,h=>by
  obtain⟨G,h⟩:=b2 h;obtain⟨h,J⟩:=b2 h;obtain⟨h1,h2⟩:=b2 h;exact rbE G (pvT (S7 F h1 J (λe h=>(snb it F e h).1) (λcl C fp ab ac=>(snb aa (F.inn _ _ cl C fp ab ac) _ h2).1) λ_ _ _ _ _=>Ze) rfl)
 | .compI kd it cap af aa,X,T,F,e,h=>by
  obtain⟨G,h⟩:=b2 h;obtain⟨h,J⟩:=b2 h;obtain⟨h,hc⟩:=b2 h;obtain⟨h1,h2⟩:=b2 h;exact rbE G (pvT (S7 F h1 J (λe h=>(snb it F e h).1) (λcl C fp ab ac=>(snb aa (F.inn _ _ cl C fp ab ac) _ h2).1) λcl C fp ab ac=>Xa (snb af (F.inn _ _ cl C fp ab ac) _ hc).2) rfl)
theorem Om:∀(as:List C){X:Cx}{T:Tb}(F:Fit X T fs ms nr)(es:List Expr),Y1 as T es=true->PA X es (Es ⟨X.K,fs,ms,nr,sr⟩ as)
 | [],X,T,F,[],h=>Qc
 | [],_,_,_,_::_,h=>nomatch h
 | _::_,_,_,_,[],h=>nomatch h
 | a::r,X,T,F,e::es,h=>by
  obtain⟨h,G⟩:=b2 (show(ord e&&chk a T e&&Y1 r T es)=true from h);obtain⟨h1,h2⟩:=b2 h;exact Qa (snb a F _ h2).1 (Om r F _ G) (Zu h1)
theorem Ra:∀(as:List C){X:Cx}{T:Tb}(F:Fit X T fs ms nr)(es:List Expr),Y1 as T es=true->PEs X es (as.map (E ⟨X.K,fs,ms,nr,sr⟩))
 | [],X,T,F,[],h=>.nil
 | [],_,_,_,_::_,h=>nomatch h
 | _::_,_,_,_,[],h=>nomatch h
 | a::r,X,T,F,e::es,h=>by
  obtain⟨h,G⟩:=b2 (show(ord e&&chk a T e&&Y1 r T es)=true from h);exact .cons (snb a F _ (b2 h).2).1 (Ra r F _ G)
end
theorem snd(c:C){X:Cx}{T:Tb}(F:Fit X T fs ms nr)(e:Expr)(h:chk c T e=true):PE X e (E ⟨X.K,fs,ms,nr,sr⟩ c):=(snb c F e h).1
theorem snt(c:C){T:Tb}(F:Fit X T fs ms nr)(e:Expr)(h:chk c T e=true):PT X e (ET ⟨X.K,fs,ms,nr,sr⟩ c):=(snb c F e h).2
end
inductive S where
 | set (i:Nat) (c:C) | ret (c:C) | ex (c:C) | ite (c:C) (a b:List S)
 | forR (i:Nat) (c:C) (b:List S) | forL (i:Nat) (c:C) (b:List S) | forT (i:Nat) (c:C) (b:List S)
 | setC (i:Nat) (c:C) | cut (s:S) | unp (is:List Nat) (c:C)
 | wh (c:C) (b:List S) | forU (is:List Nat) (c:C) (b:List S) | sx (i:Nat) (as:List C)
inductive ForR(i m:Nat)(tb:TS)(D:Ends)(σ:St)(H:Hp):Prop where
 | f (Pv:Nat->St->Hp->Prop) (h0:Pv 0 σ H) (hs:∀j σ H,j<m->Pv j σ H->X3 σ i (.int (j:Int)) λσ2=>tb { D with nx:=Pv (j+1),ct:=Pv (j+1),bk:=D.nx } σ2 H) (hd:∀σ H,Pv m σ H->D.nx σ H):ForR i m tb D σ H
inductive ForL(K:Fg)(i:Nat)(a:Addr)(tb:TS)(D:Ends)(σ:St)(H:Hp):Prop where
 | f (xs:List V) (Pv:Nat->St->Hp->Prop) (h0:Pv 0 σ H) (hl:∀j σ H,j<=xs.length->Pv j σ H->SqL K H a xs) (hs:∀j x σ H,xs[j]?=some x->Pv j σ H->X3 σ i x λσ2=>tb { D with nx:=Pv (j+1),ct:=Pv (j+1),bk:=D.nx } σ2 H) (hd:∀σ H,Pv xs.length σ H->D.nx σ H):ForL K i a tb D σ H
inductive ForT(K:Fg)(i:Nat)(a:Addr)(tb:TS)(D:Ends)(σ:St)(H:Hp):Prop where
 | f (xs:List V) (Pv:Nat->St->Hp->Prop) (h0:Pv 0 σ H) (hl:∀j σ H,j<=xs.length->Pv j σ H->SqT K H a xs) (hs:∀j x σ H,xs[j]?=some x->Pv j σ H->X3 σ i x λσ2=>tb { D with nx:=Pv (j+1),ct:=Pv (j+1),bk:=D.nx } σ2 H) (hd:∀σ H,Pv xs.length σ H->D.nx σ H):ForT K i a tb D σ H
inductive Cut(t:TS)(D:Ends)(σ:St)(H:Hp):Prop where
 | c (R:St->Hp->Prop) (h:t { D with nx:=R } σ H) (k:∀σ' H',R σ' H'->D.nx σ' H'):Cut t D σ H
def WT:St->List Nat->List V->(St->Prop)->Prop
 | σ,[],[],k=>k σ
 | σ,i::is,x::xs,k=>X3 σ i x λσ'=>WT σ' is xs k
 | _,_,_,_=>False
inductive Unp(K:Fg)(a:Addr)(is:List Nat)(σ:St)(H:Hp)(k:St->Hp->Prop):Prop where
 | u (xs:List V) (h:SqT K H a xs) (q:WT σ is xs λσ'=>k σ' H):Unp K a is σ H k
inductive Wh(c:TT)(tb:TS)(D:Ends)(σ:St)(H:Hp):Prop where
 | w (J:Nat->St->Hp->Prop) (m:Nat) (h0:J m σ H) (hs:∀m σ H,J m σ H->c σ H λb H1=>cond b (tb { D with nx:=λσ' H'=>∃m'<m,J m' σ' H',ct:=λσ' H'=>∃m'<m,J m' σ' H',bk:=D.nx } σ H1) (D.nx σ H1)):Wh c tb D σ H
inductive ForU(K:Fg)(is:List Nat)(a:Addr)(tb:TS)(D:Ends)(σ:St)(H:Hp):Prop where
 | f (xs:List V) (Pv:Nat->St->Hp->Prop) (h0:Pv 0 σ H) (hl:∀j σ H,j<=xs.length->Pv j σ H->SqL K H a xs) (hs:∀j x σ H,xs[j]?=some x->Pv j σ H->∃b ys,x=.ref b/\SqT K H b ys/\WT σ is ys λσ2=>tb { D with nx:=Pv (j+1),ct:=Pv (j+1),bk:=D.nx } σ2 H) (hd:∀σ H,Pv xs.length σ H->D.nx σ H):ForU K is a tb D σ H
mutual
noncomputable def E1(n:En):S->TS
 | .set i c=>λD σ H=>E n c σ H λx H1=>X3 σ i x λσ'=>D.nx σ' H1
 | .ret c=>λD σ H=>E n c σ H D.rt
 | .ex c=>λD σ H=>E n c σ H λ_ H1=>D.nx σ H1
 | .ite c a b=>λD σ H=>ET n c σ H λt H1=>cond t (ES n a D σ H1) (ES n b D σ H1)
 | .forR i c b=>λD σ H=>E n c σ H λx H1=>match x with | .int j=>Cnd (BH j) (ForR i j.toNat (ES n b) D σ H1) | _=>False
 | .forL i c b=>λD σ H=>E n c σ H λx H1=>match x with | .ref a=>ForL n.K i a (ES n b) D σ H1 | _=>False
 | .forT i c b=>λD σ H=>E n c σ H λx H1=>match x with | .ref a=>ForT n.K i a (ES n b) D σ H1 | _=>False
 | .cut s=>λD σ H=>Cut (E1 n s) D σ H
 | .unp is c=>λD σ H=>E n c σ H λx H1=>match x with | .ref a=>Unp n.K a is σ H1 D.nx | _=>False
 | .wh c b=>λD σ H=>Wh (ET n c) (ES n b) D σ H
 | .forU is c b=>λD σ H=>E n c σ H λx H1=>match x with | .ref a=>ForU n.K is a (ES n b) D σ H1 | _=>False
 | .sx i as=>λD σ H=>Es n as σ H λvs H1=>match n.sr[i]? with | some r=>r σ vs H1 D.nx | none=>False
 | .setC i c=>λD σ H=>E n c σ H λx H1=>X3 σ i x λσ'=>D.nx σ' H1
termination_by structural c=>c
noncomputable def ES(n:En):List S->TS
 | []=>λD σ H=>D.nx σ H
 | s::r=>λD σ H=>E1 n s { D with nx:=ES n r D } σ H
termination_by structural c=>c
end
structure Vs where
 t:Nat
 x:Str
 p:Pos
 a:Expr
 l:List Expr
 k:Nat
 b:List Stmt
 c:List Stmt
def Vs.z:Vs:=⟨0,Str.empty,default,.Name Str.empty default,[],0,[],[]⟩
def Da(a:Expr):List Expr->Vs
 | [g]=>match g with
  | .Name x p=>{ Vs.z with t:=1,x:=x,p:=p,a:=a }
  | .Tuple l k p=>{ Vs.z with t:=6,l:=l,k:=k,p:=p,a:=a }
  | _=>Vs.z
 | _=>Vs.z
def C7:Option Expr->Vs
 | some a=>{ Vs.z with t:=2,a:=a }
 | none=>Vs.z
def DD(g a:Expr)(b:List Stmt):List Stmt->Vs
 | []=>match g with
  | .Name x p=>{ Vs.z with t:=5,x:=x,p:=p,a:=a,b:=b }
  | .Tuple l k p=>{ Vs.z with t:=8,l:=l,k:=k,p:=p,a:=a,b:=b }
  | _=>Vs.z
 | _=>Vs.z
def sWh(a:Expr)(b:List Stmt):List Stmt->Vs
 | []=>{ Vs.z with t:=7,a:=a,b:=b }
 | _=>Vs.z
def vs:Stmt->Vs
 | .Assign g a _=>Da a g
 | .Return a _=>C7 a
 | .Expr a _=>{ Vs.z with t:=3,a:=a }
 | .If a b c _=>{ Vs.z with t:=4,a:=a,b:=b,c:=c }
 | .For g a b c _=>DD g a b c
 | .While a b c _=>sWh a b c
 | _=>Vs.z
def Cq(v:Vs)(p:Pos):Nat->Stmt
 | 1=>.Assign [.Name v.x v.p] v.a p
 | 2=>.Return (some v.a) p
 | 3=>.Expr v.a p
 | 4=>.If v.a v.b v.c p
 | 5=>.For (.Name v.x v.p) v.a v.b [] p
 | 6=>.Assign [.Tuple v.l v.k v.p] v.a p
 | 7=>.While v.a v.b [] p
 | 8=>.For (.Tuple v.l v.k v.p) v.a v.b [] p
 | _=>.Pass p
theorem vs_eq(s:Stmt):(vs s).t=0\/∃p,Cq (vs s) p (vs s).t=s:=by
 cases s with
 | Assign g a p=>
  rcases g with _ | ⟨g,_ | ⟨_,_⟩⟩
  .exact .inl rfl
  .cases g<;>first | exact .inr ⟨_,rfl⟩ | exact .inl rfl
  .exact .inl rfl
 | Return a p=>cases a<;>first | exact .inr ⟨_,rfl⟩ | exact .inl rfl
 | For g a b c p=>
  cases c with
  | nil=>cases g<;>first | exact .inr ⟨_,rfl⟩ | exact .inl rfl
  | cons _ _=>exact .inl rfl
 | While a b c p=>cases c<;>first | exact .inr ⟨_,rfl⟩ | exact .inl rfl
 | _=>first | exact .inr ⟨_,rfl⟩ | exact .inl rfl
def isS(s:Stmt)(n:Nat):Bool:=Nat.beq (vs s).t n
theorem rbS{X:Cx}{t:TS}{s:Stmt}{n:Nat}(h:isS s (n+1)=true)(k:∀p,PS X (Cq (vs s) p (n+1)) t):PS X s t:=by
 have J:(vs s).t=n+1:=Nat.eq_of_beq_eq_true h;rcases vs_eq s with G | ⟨p,G⟩
 .rw [G]at J;cases J
 .rw [J]at G;exact Eq.subst (motive:=λs=>PS X s t) G (k p)
def tgB(T:Tb)(i:Nat)(x:Str):Bool:=decide (T.N[i]?=some x)&&AI T.sc x
def chN(T:Tb):List Nat->List Expr->Bool
 | [],es=>es.isEmpty
 | i::is,es=>match es with
  | e::es=>G3.is e 1&&tgB T i (vw e).x&&chN T is es
  | []=>false
def S6:Expr->Bool
 | .Tuple _ _ _=>false
 | _=>true
def GA:C->Bool
 | .comp _ _ _ _=>true
 | .compI _ _ _ _ _=>true
 | _=>false
mutual
noncomputable def ch1(T:Tb):S->Stmt->Bool
 | .set i c,s=>isS s 1&&(tgB T i (vs s).x&&chk c T (vs s).a&&osw (vs s).a)
 | .ret c,s=>isS s 2&&chk c T (vs s).a
 | .ex c,s=>isS s 3&&(chk c T (vs s).a&&osw (vs s).a)
 | .ite c a b,s=>isS s 4&&(chk c T (vs s).a&&chS T a (vs s).b&&chS T b (vs s).c)
 | .forR i c b,s=>isS s 5&&(tgB T i (vs s).x&&MQ 0 (chk c T) T (vs s).a&&chS T b (vs s).b)
 | .forL i c b,s=>isS s 5&&(tgB T i (vs s).x&&(chk c T (vs s).a&&ord (vs s).a)&&chS T b (vs s).b)
 | .forT i c b,s=>isS s 5&&(tgB T i (vs s).x&&(chk c T (vs s).a&&ord (vs s).a)&&chS T b (vs s).b)
 | .cut a,s=>ch1 T a s
 | .unp is c,s=>isS s 6&&(chN T is (vs s).l&&chk c T (vs s).a&&S6 (vs s).a)
 | .wh c b,s=>isS s 7&&(chk c T (vs s).a&&chS T b (vs s).b)
 | .forU is c b,s=>isS s 8&&(chN T is (vs s).l&&(chk c T (vs s).a&&ord (vs s).a)&&chS T b (vs s).b)
 | .sx i as,s=>match T.sk[i]? with
  | some sh=>match sh s with
   | some es=>Y1 as T es
   | none=>false
  | none=>false
 | .setC i c,s=>isS s 1&&(GA c&&(decide (T.N[i]?=some (vs s).x)&&decide (T.sc.names.lookup (vs s).x=some .local)&&chk c T (vs s).a&&((vs s).p.line==(vs s).a.pos.line)&& !((vw (vs s).a).s.names.any λz=>z.1==(vs s).x&&(z.2== .local||z.2== .cell))))
termination_by structural c=>c
noncomputable def chS(T:Tb):List S->List Stmt->Bool
 | [],ss=>ss.isEmpty
 | a::r,ss=>match ss with
  | s::ss=>ch1 T a s&&chS T r ss
  | []=>false
termination_by structural c=>c
end
theorem Zr{X:Cx}{s:Stmt}{t u:TS}(h:PS X s t)(k:∀D σ H,u D σ H->t D σ H):PS X s u:=λpins s σ H D I q=>h pins s σ H D I (k D σ H q)
structure SNodeOk(X:Cx)(sh:Stmt->Option (List Expr))(r:St->List V->Hp->(St->Hp->Prop)->Prop):Prop where
 ok:∀(s:Stmt)(es:List Expr)(ts:List TE),sh s=some es->PEs X es ts->PS X s (λD σ H=>V8 ts σ H λvs H1=>r σ vs H1 D.nx)
structure FitS(X:Cx)(T:Tb)(fs:List Rel)(ms:List Mr)(nr:List (List V->Hp->VK->Prop))(sr:List (St->List V->Hp->(St->Hp->Prop)->Prop)):Prop where
 f:Fit X T fs ms nr
 nd:X.N.Nodup
 fn:∀x,X.fn x=true
 po:PassesOwn (6:) X.A X.env X.xe
 hx:∀(i:Nat) sh,T.sk[i]?=some sh->∃r,sr[i]?=some r/\SNodeOk X sh r
theorem Cz{T:Tb}{fs:List Rel}{ms:List Mr}(F:Fit X T fs ms nr){y:Str}{gs:List Comprehension}{sp:Pos}(h:U3 T cap x scope=true)(h2:T.sc.names.lookup y=some .local)(h3:(py.line==pos.line)=true)(h4:(!(scope.names.any λz=>z.1==y&&(z.2== .local||z.2== .cell)))=true):
 swapsWith (.ListComp el gs scope pos) (some (.Name y py)) sp.line X.env=pure true:=by
 unfold U3 at h;simp only [bC,eJ]at h;have G:T.sc.kind=.function:=h.1.1.1.1.1.1.1.2;rw [F.hs]at G h2;have J:X.env.blockKind=.function:=by unfold Env.blockKind;rw [G];rfl
 show(pure (X.env.blockKind== .function&&X.env.kindOf y==some .local&&py.line==pos.line&& !(scope.names.any λz=>z.1==y&&(z.2== .local||z.2== .cell))):Sem Bool)=pure true;rw [J,h3,h4,show X.env.kindOf y=some .local from h2]
 rfl
def gsN:List Nat->TGs
 | []=>L5
 | i::is=>YT (Q8 i) (gsN is)
theorem XT{H:Hp}{k:St->Hp->Prop}:∀{is:List Nat}{xs:List V}{σ:St},(WT σ is xs λσ'=>k σ' H)->gsN is xs σ H k
 | [],[],σ,h=>⟨rfl,h⟩
 | i::is,x::xs,σ,h=>⟨x,xs,rfl,XT (is:=is) (xs:=xs) (ZJ h)⟩
 | [],_::_,_,h=>h.elim
 | _::_,[],_,h=>h.elim
theorem J2{k:St->Prop}:∀{is:List Nat}{xs:List V}{σ:St},WT σ is xs k->xs.length=is.length
 | [],[],σ,h=>rfl
 | i::is,x::xs,σ,h=>congrArg (· +1) (J2 (is:=is) (xs:=xs) (ZJ h))
 | [],_::_,_,h=>h.elim
 | _::_,[],_,h=>h.elim
theorem Ow{l:List Expr}{k n:Nat}{p:Pos}{e:Expr}{env:Env}(h:S6 e=true):swapsWithSole [.Tuple l k p] e n env=pure false/\swappedStores [.Tuple l k p] e env=pure none:=by
 cases e<;>first | exact⟨rfl,rfl⟩ | exact absurd (show false=true from h) aS
theorem Ae:∀{c:C},GA c=true->(∃kd it cap elt,c=.comp kd it cap elt)\/∃kd it cap cnd elt,c=.compI kd it cap cnd elt:=λ{c} h=>by
 cases c<;>first | exact .inl ⟨_,_,_,_,rfl⟩ | exact .inr ⟨_,_,_,_,_,rfl⟩ | exact nomatch h
section
variable{T:Tb}{fs:List Rel}{ms:List Mr}(F:FitS X T fs ms nr sr)
include F
theorem La(h:tgB T i x=true):PG X (.Name x pos) (Q8 i):=by
 obtain⟨h1,h2⟩:=b2 h;have h1:=bJ h1;rw [F.f.hN]at h1;rw [F.f.hs]at h2;exact Qo F.nd h1 (M9 h2) (.inl (F.fn x))
theorem Jt:∀(is:List Nat)(es:List Expr),chN T is es=true->PGs X es (gsN is)/\(assignEach es X.env).length=is.length/\(assignEach es X.env).findIdx? (·.1)=none
 | [],[],_=>⟨QZ,rfl,rfl⟩
 | i::is,e::es,h=>by
  obtain⟨h,G⟩:=b2 (show(G3.is e 1&&tgB T i (vw e).x&&chN T is es)=true from h);obtain⟨h1,h2⟩:=b2 h;obtain⟨J,L,M⟩:=Jt is es G;refine rb (P:=λe=>PGs X (e::es) (gsN (i::is))/\(assignEach (e::es) X.env).length=(i::is).length/\(assignEach (e::es) X.env).findIdx? (·.1)=none) h1 ⟨Qr (La F h2) J rfl,?_,?_⟩
  .show(assignEach es X.env).length+1=is.length+1;rw [L]
  .show((false,assign (.Name (vw e).x e.pos) X.env)::assignEach es X.env).findIdx? (·.1)=none;rw [List.findIdx?_cons];simp [M]
 | [],_::_,h=>nomatch h
 | _::_,[],h=>nomatch h
theorem GQ{f:Expr->Bool}{b:Expr}{y:Str}{p sp:Pos}(y1:decide (T.N[i]?=some y)=true)(y2:decide (T.sc.names.lookup y=some .local)=true)(y3:(py.line==pos.line)=true)(y4:(!(scope.names.any λz=>z.1==y&&(z.2== .local||z.2== .cell)))=true)(h1:U3 T cap x scope=true)(h:MQ kd f T b=true)(hf:∀e,f e=true->PE X e tit)
 (hel:∀cl C fp s₀ H₀,PE (QL X ([x]++Zg scope.names) scope cl C fp s₀ H₀) el te) (hc:∀cl C fp s₀ H₀,PF (QL X ([x]++Zg scope.names) scope cl C fp s₀ H₀) ifs tt):PS X (.Assign [.Name y py] (.ListComp el [⟨.Name x p,b,ifs,0⟩] scope pos) sp) (λD σ H=>tit σ H λv H1=>Np X.K kd v (Vl cap σ) tt te H1 λx H1=>X3 σ i x λσ'=>D.nx σ' H1):=λpins s σ H D I q=>by
 have y1:=bJ y1;have y2:=bJ y2;have G:=y2;rw [F.f.hN]at y1;rw [F.f.hs]at G;obtain⟨cl,O⟩:=Lw F.f h1 λy J=>I.ok.has y (.inl J);obtain⟨Y,L,M,U⟩:=Te F.f (tg:=.Name x p) h hf;exact Uq O F.f.ca L (YR O) (λC fp s₀ H₀=>SW (hc cl C fp s₀ H₀)) (λC fp s₀ H₀=>QX (hel cl C fp s₀ H₀)) F.nd y1 G (Cz F.f h1 y2 y3 y4) M pins s σ H D I (U _ _ _ _ _ _ _ (λ_ _ q=>ZJ q) q)
theorem R6{c:C}{y:Str}{sp:Pos}(hk:GA c=true)(y1:decide (T.N[i]?=some y)=true)(y2:decide (T.sc.names.lookup y=some .local)=true)(h:chk c T e=true)(y3:(py.line==e.pos.line)=true)(y4:(!((vw e).s.names.any λz=>z.1==y&&(z.2== .local||z.2== .cell)))=true):PS X (.Assign [.Name y py] e sp) (E1 ⟨X.K,fs,ms,nr,sr⟩ (.setC i c)):=by
 rcases Ae hk with⟨U,it,cap,G,rfl⟩ | ⟨U,it,cap,M,G,rfl⟩
 .obtain⟨Y,h⟩:=b2 h;obtain⟨h,Z⟩:=b2 h;obtain⟨h1,h2⟩:=b2 h;exact rb (P:=λe=>PS X (.Assign [.Name y py] e sp) (E1 ⟨X.K,fs,ms,nr,sr⟩ (.setC i (.comp U it cap G)))) Y (GQ F y1 y2 y3 y4 h1 Z (λe h=>snd (sr:=sr) it F.f e h) (λcl C fp J L=>snd (sr:=sr) G (F.f.inn _ _ cl C fp J L) _ h2) λ_ _ _ _ _=>Ze)
 .obtain⟨Y,h⟩:=b2 h;obtain⟨h,Z⟩:=b2 h;obtain⟨h,hc⟩:=b2 h;obtain⟨h1,h2⟩:=b2 h;exact rb (P:=λe=>PS X (.Assign [.Name y py] e sp) (E1 ⟨X.K,fs,ms,nr,sr⟩ (.setC i (.compI U it cap M G)))) Y (GQ F y1 y2 y3 y4 h1 Z (λe h=>snd (sr:=sr) it F.f e h) (λcl C fp J L=>snd (sr:=sr) G (F.f.inn _ _ cl C fp J L) _ h2) λcl C fp J L=>Xa (snt (sr:=sr) M (F.f.inn _ _ cl C fp J L) _ hc))
mutual
theorem sn1:∀(c:S)(s:Stmt),ch1 T c s=true->PS X s (E1 ⟨X.K,fs,ms,nr,sr⟩ c)
 | .set i c,s,h=>by
  obtain⟨G,h⟩:=b2 h;obtain⟨h,M⟩:=b2 h;obtain⟨h,h2⟩:=b2 h;obtain⟨h1,h4⟩:=b2 h;have h1:=bJ h1;rw [F.f.hN]at h1;rw [F.f.hs]at h4;exact rbS G λp=>Zr (Qv F.nd h1 (M9 h4) (QX (snd (sr:=sr) c F.f _ h2)) (VC M) (.inl (F.fn _))) λD σ H q=>⟨_,q,λx H1 q=>ZJ q⟩
 | .ret c,s,h=>by
  obtain⟨G,h⟩:=b2 h;exact rbS G λp=>Ql (snd (sr:=sr) c F.f _ h)
 | .ex c,s,h=>by
  obtain⟨G,h⟩:=b2 h;obtain⟨h1,h2⟩:=b2 h;exact rbS G λp=>Zb (snd (sr:=sr) c F.f _ h1) (VC h2)
 | .ite c a b,s,h=>by
  obtain⟨G,h⟩:=b2 h;obtain⟨h,M⟩:=b2 h;obtain⟨h1,h2⟩:=b2 h;exact rbS G λp=>Zr (QK (WP (snt (sr:=sr) c F.f _ h1)) (snS a _ h2) (snS b _ M)) λD σ H q=>⟨_,q,λx H1 q=>Mw q⟩
 | .forR i c b,s,h=>by
  obtain⟨G,h⟩:=b2 h;obtain⟨h,h7⟩:=b2 h;obtain⟨h1,h⟩:=b2 h;obtain⟨h2,h⟩:=b2 (show(is (vs s).a 8&&_)=true from h);obtain⟨h,L⟩:=b2 h;obtain⟨h,U⟩:=b2 h;obtain⟨h,h4⟩:=b2 h;obtain⟨M,h8⟩:=b2 h;have M:=bJ M;rw [F.f.hs,M]at h8;refine rbS G λp=>rb (P:=λe=>PS X (.For (.Name (vs s).x (vs s).p) e (vs s).b [] p) (E1 ⟨X.K,fs,ms,nr,sr⟩ (.forR i c b))) h2 ?_;show PS X (.For _ (.Call (.Name (vw (vs s).a).x (vw (vs s).a).p) ((vw (vs s).a).a::(vw (vs s).a).l) [] (vs s).a.pos) _ [] p) _;rw [M,NP h4];refine Zr (QJ F.po F.f.ca (Q5 (O8 h8) F.f.rg (Qa (QX (snd (sr:=sr) c F.f _ U)) Qc (Zu L)) (Zu L)) (La F h1) (snS b _ h7)) λD σ H q=>⟨_,q,λx H1 q=>?_⟩;cases x with
  | int j=>
   obtain⟨hr,q⟩:=q;refine⟨j,rfl,hr.1,hr.2,?_⟩;cases q with
   | f Y G Z hd=>exact Zq (lo:=0) Y G (λj σ H hj hp=>by rw [eP];exact ZJ (Z j σ H hj hp)) hd
  | _=>exact False.elim q
 | .forL i c b,s,h=>by
  obtain⟨G,h⟩:=b2 h;obtain⟨h,h7⟩:=b2 h;obtain⟨h1,h⟩:=b2 h;obtain⟨U,L⟩:=b2 h;refine rbS G λp=>Zr (QJ F.po F.f.ca (QH (QX (snd (sr:=sr) c F.f _ U))) (La F h1) (snS b _ h7) (Yh L)) λD σ H q=>⟨_,q,λx H1 q=>?_⟩;cases x with
  | ref a=>
   cases q with
   | f ys Y G hl Z hd=>exact⟨a,rfl,⟨ys,hl 0 _ _ (bN _) G⟩,Q2 Y G hl (λj x σ H hj hp=>ZJ (Z j x σ H hj hp)) hd⟩
  | _=>exact False.elim q
 | .forT i c b,s,h=>by
  obtain⟨G,h⟩:=b2 h;obtain⟨h,h7⟩:=b2 h;obtain⟨h1,h⟩:=b2 h;obtain⟨U,L⟩:=b2 h;refine rbS G λp=>Zr (QJ F.po F.f.ca (Yu (QX (snd (sr:=sr) c F.f _ U))) (La F h1) (snS b _ h7) (Yh L)) λD σ H q=>⟨_,q,λx H1 q=>?_⟩;cases x with
  | ref a=>
   cases q with
   | f ys Y G hl Z hd=>exact⟨a,rfl,⟨ys,hl 0 _ _ (bN _) G⟩,Lb Y G hl (λj x σ H hj hp=>ZJ (Z j x σ H hj hp)) hd⟩
  | _=>exact False.elim q
 | .cut a,s,h=>Zr (Ya (sn1 a s h)) λD σ H q=>by
  cases q with
  | c R h k=>exact⟨R,h,k⟩
 | .unp is c,s,h=>by
  obtain⟨G,h⟩:=b2 h;obtain⟨h,L⟩:=b2 h;obtain⟨h,U⟩:=b2 h;obtain⟨h1,h2,M⟩:=Jt F is _ h;refine rbS G λp=>Zr (X9 (QX (snd (sr:=sr) c F.f _ U)) (Zd (X:=X) F.f.ca h1 h2 M) (Ow L).1 (Ow (n:=0) L).2 rfl) λD σ H q=>⟨_,q,λx H1 q=>?_⟩;cases x with
  | ref a=>
   cases q with
   | u xs hx k=>exact⟨a,xs,rfl,hx,J2 k,XT k⟩
  | _=>exact False.elim q
 | .wh c b,s,h=>by
  obtain⟨G,h⟩:=b2 h;obtain⟨h1,h2⟩:=b2 h;refine rbS G λp=>Zr (J5 F.po (WP (snt (sr:=sr) c F.f _ h1)) (snS b _ h2)) λD σ H q=>?_;cases q with
  | w J m G Z=>exact⟨J,⟨m,G⟩,λm σ H p=>⟨_,Z m σ H p,λb H1 q=>by
   cases b with
   | true=>exact Q4 ⟨_,λad H' h=>h,q⟩
   | false=>exact QS q⟩⟩
 | .forU is c b,s,h=>by
  obtain⟨G,h⟩:=b2 h;obtain⟨h,h7⟩:=b2 h;obtain⟨h1,h⟩:=b2 h;obtain⟨U,L⟩:=b2 h;obtain⟨n1,n2,n3⟩:=Jt F is _ h1;refine rbS G λp=>Zr (QJ F.po F.f.ca (QH (QX (snd (sr:=sr) c F.f _ U))) (Zd (X:=X) F.f.ca n1 n2 n3) (snS b _ h7) (Yh L)) λD σ H q=>⟨_,q,λx H1 q=>?_⟩;cases x with
  | ref a=>
   cases q with
   | f ys Y G hl Z hd=>exact⟨a,rfl,⟨ys,hl 0 _ _ (bN _) G⟩,Q2 Y G hl (λj x σ H hj hp=>by
    obtain⟨b',zs,e,hz,k⟩:=Z j x σ H hj hp;exact⟨b',zs,e,hz,J2 k,XT (k:=λac H2=>ES ⟨X.K,fs,ms,nr,sr⟩ b { D with nx:=Y (j+1),ct:=Y (j+1),bk:=D.nx } ac H2) k⟩) hd⟩
  | _=>exact False.elim q
 | .sx i as,s,h=>by
  have h:(match T.sk[i]? with
   | some sh=>match sh s with
    | some es=>Y1 as T es
    | none=>false
   | none=>false)=true:=h
  split at h
  .rename_i sh aa;obtain⟨r,e1,e2⟩:=F.hx _ _ aa;split at h
   .rename_i es ab;refine Zr (e2.ok s es _ ab (Ra (sr:=sr) as F.f _ h)) λD σ H q=>?_;have q:Es ⟨X.K,fs,ms,nr,sr⟩ as σ H λvs H1=>match sr[i]? with | some r=>r σ vs H1 D.nx | none=>False:=q
    rw [e1]at q;exact(XU as).mp q
   .cases h
  .cases h
 | .setC i c,s,h=>by
  obtain⟨G,h⟩:=b2 h;obtain⟨hk,h⟩:=b2 h;obtain⟨h,y4⟩:=b2 h;obtain⟨h,y3⟩:=b2 h;obtain⟨h,h1⟩:=b2 h;exact rbS G λp=>R6 F hk (b2 h).1 (b2 h).2 h1 y3 y4
theorem snS:∀(as:List S)(ss:List Stmt),chS T as ss=true->PSs X ss (ES ⟨X.K,fs,ms,nr,sr⟩ as)
 | [],[],h=>Qs
 | [],_::_,h=>nomatch h
 | _::_,[],h=>nomatch h
 | a::r,s::ss,h=>by
  obtain⟨h1,h2⟩:=b2 (show(ch1 T a s&&chS T r ss)=true from h);exact Qe (sn1 a _ h1) (snS r _ h2)
end
end
end G3
namespace L2
open PySem
def SameX(x:Addr)(H H':Hp):Prop:=∀b u,b≠x->H b=some u->H' b=some u
theorem SameX.refl(x:Addr)(H:Hp):SameX x H H:=λ_ _ _ e=>e
theorem SameX.trans{x:Addr}(a:SameX x H H1)(b:SameX x H1 H2):SameX x H H2:=λc u n e=>b c u n (a c u n e)
theorem SameX.of{x:Addr}(h:Same H H'):SameX x H H':=λb u _ e=>h b u e
theorem SameX.upd{x:Addr}:SameX x H (upd H x o):=λb u n e=>by rw [Qh n];exact e
structure InsAt(H:Hp)(x:Addr):Prop where
 ex:∃C dx fs,H x=some (.ins C dx fs)
theorem InsAt.seqT{K:Fg}{x:Addr}(i:InsAt H x)(g:SameX x H H')(h:SqT K H a xs):SqT K H' a xs:=by
 obtain⟨C,dx,fs,G⟩:=i.ex;rcases h with(h | ⟨o,h⟩) | h
 .exact .inl (.inl (g _ _ (QN h G (18:)) h))
 .exact .inl (.inr ⟨o,g _ _ (QN h G (18:)) h⟩)
 .exact .inr h
theorem InsAt.seq{K:Fg}{x:Addr}(i:InsAt H x)(g:SameX x H H')(h:SqL K H a xs):SqL K H' a xs:=by
 obtain⟨C,dx,fs,G⟩:=i.ex;rcases h with(h | ⟨o,h⟩) | h
 .exact .inl (.inl (g _ _ (QN h G (18:)) h))
 .exact .inl (.inr ⟨o,g _ _ (QN h G (18:)) h⟩)
 .exact .inr h
theorem InsAt.lst{x:Addr}(i:InsAt H x)(g:SameX x H H')(h:H a=some (.lst xs)):H' a=some (.lst xs):=by
 obtain⟨C,dx,fs,G⟩:=i.ex;exact g _ _ (QN h G (18:)) h
theorem InsAt.dT{x:Addr}{xs:List (List Key×V)}(i:InsAt H x)(g:SameX x H H')(h:H a=some (.dT xs)):H' a=some (.dT xs):=by
 obtain⟨C,dx,fs,G⟩:=i.ex;exact g _ _ (QN h G (18:)) h
end L2
namespace L2
open PySem PySem.Spec PyProof.Rows
def R7(e:Expr):Arguments:=match e with
 | .Lambda a _ _ _=>a
 | _=>{ posonlyargs:=[],args:=[],vararg:=none,kwonlyargs:=[],kw_defaults:=[],kwarg:=none,defaults:=[] }
def LK(e:Expr):Expr:=match e with
 | .Lambda _ b _ _=>b
 | _=>e
def Qz(e:Expr):Scope:=match e with
 | .Lambda _ _ s _=>s
 | _=>{ kind:=.function,names:=[],isGenerator:=false,isCoroutine:=false }
def VX(e:Expr):Pos:=match e with
 | .Lambda _ _ _ p=>p
 | _=>⟨0,0,0,0⟩
def CD(s:Stmt):Expr:=match(defBody s).getLast? with
 | some (.Return (some e) _)=>e
 | _=>.Name "" ⟨0,0,0,0⟩
def Bu(e:Expr)(i:Nat):Expr:=match e with
 | .Call _ as _ _=>as.getD i e
 | _=>e
def MR(f:Addr)(fd:FuncData):HO:=.ext λh=>h.get? f=some { cls:=.type "function",data:=.func fd }
def Og(c:Addr)(qual:Str):HO:=.ext λh=>h.CodeRec (.ref c) qual
def TbS(H:Hp)(T:Addr)(pos:Pos)(qual:Str):Prop:=H T=some (.tbl #[])\/∃c,H T=some (.tbl #[rawInt pos.line,rawInt pos.col,.ref c])/\H c=some (Og c qual)
theorem TbS.at{T:Addr}(h:TbS H T pos qual):∃ps,H T=some (.tbl ps):=by
 rcases h with h | ⟨c,h,_⟩
 .exact⟨_,h⟩
 .exact⟨_,h⟩
theorem TbS.same{T:Addr}(g:Same H H')(h:TbS H T pos qual):TbS H' T pos qual:=by
 rcases h with h | ⟨c,h,h2⟩
 .exact .inl (g _ _ h)
 .exact .inr ⟨c,g _ _ h,g _ _ h2⟩
def Wk(mg:Str->Option Value)(base:Heap):Prop:=∃bm o,mg "__builtins__"=some (.ref bm)/\bm≠builtinsNs/\bm≠mainGlobals/\base.get? bm=some o/\o.cls=.type "module"/\ o.dict=some builtinsNs/\o.data=.plain
theorem GH(e:h.get? f=some { cls:=.type "function",data:=.func fd }):ObjOk P w H h f (MR f fd):=⟨e,⟨_,e⟩,λ_ _ G k=>k _ G⟩
theorem SH(e:h.CodeRec (.ref c) qual):ObjOk P w H h c (Og c qual):=by
 refine⟨e,?_,λh1 h2 M k=>?_⟩
 .obtain⟨U,J,vs,L,z,G,_⟩:=e;cases z;exact⟨_,G⟩
 .obtain⟨U,J,vs,L,z,G,r⟩:=M;cases z;exact⟨c,J,vs,L,rfl,k _ G,r⟩
section
variable{K:Fg}
theorem Rr{T:Addr}{sl:Array (Option Value)}(hn:PySem.W.nsIn K mainGlobals x=some (some (.ref f)))(lk:K.lookup f=some ⟨oc,od,.func fd,sl⟩)(h:PySem.W.tabIn K x=some (c,T)):fd.code=.ref c:=by
 unfold PySem.W.tabIn at h;rw [hn]at h;simp only [lk]at h;split at h
 .rename_i J G;split at h
  .split at h
   .cases h;exact G
   .cases h
  .cases h
 .cases h
theorem Fun.okC{st:Stmt}{T:Addr}{N:List Str}{k:Nat}(F:Fun K x qual st f fd)(hn:PySem.W.nsIn K mainGlobals x=some (some (.ref f)))(hT:PySem.W.tabIn K x=some (c,T))(S:FnScope N ps (defScope st))(len:∀vs H Q E,sp vs H Q E->vs.length=ps.length)
 (hbody:∀(A:Around)(outer:List Env)(s:Shared)(H:Hp)(vs:List V)(Q:VK)(E:XK),Room k (A.deeper (envOfC qual (defScope st) s.heap.objs.size f (.ref c)))->sp vs H Q E->
  ∃t,PSs (Vt CX0 P w K mg base N qual (defScope st) f (.ref c) A outer s H E).nox (defBody st) t/\t { nx:=λ_ H'=>Q .non H',rt:=Q } (YN N vs) H):FnOk P w K mg base CX0 (k+1) f fd ps sp:=by
 obtain⟨oc,od,kV,Y,pm,an,G,ct,Z,rfl,J,L⟩:=F.ex;have e:G=.ref c:=Rr hn J hT;subst e;refine S0 J L S len λA outer s H vs Q E U M=>?_;obtain⟨t,h,q⟩:=hbody A outer s H vs Q E U M;exact⟨t,h.nox,q⟩
end
theorem MH{P:Program}{w:World}{K:Fg}{mg mb:Str->Option Value}{k:Nat}{fa a:Addr}{fd:FuncData}{x:Str}{sp:Sp}{s₁:Shared}{vs:List Value}{ns:List Int}{Ts:List Addr}
 (KX:K.In s₁.heap) (hns:s₁.heap.Ns mainGlobals mg) (hb:s₁.heap.Ns builtinsNs mb) (hbb:∀x:Str,x≠"__name__"->mb x=bootBuiltins x) (hlim:s₁.heap.NoLimit) (hg:s₁.gens=#[]) (hbt:Wk mg s₁.heap)
 (hTs:∀T∈Ts,s₁.heap.get? T=some { cls:=.none,data:=.fields #[] }/\isCodeTable s₁.heap T/\K.lookup T=none)
 (ha:s₁.heap.get? a=some { cls:=.type "list",data:=.seq vs.toArray }) (hi:IntsAre vs ns) (hl:ns.length<=sizeLine) (hr:Room k callerA)
 (F:∀base:Heap,K.In base->base.Ns mainGlobals mg->Wk mg base->FnOk P w K mg base CX0 k fa fd [x] sp) (hbind:∀(s:Shared)(u:Value),BindsTo s fd ⟨[u],[]⟩ [(x,u)])
 (hsp:∀H:Hp,SqL K H a (ns.map V.int)->(∀T∈Ts,H T=some (.tbl #[]))->sp [.ref a] H (λv _=>v=.bl true) λ_ _ _=>False):
 codeAny (model P w) callerA (.call (.ref fa) ⟨[.ref a],[]⟩) (λr s'=>r=.ok (.ret (.bool true))/\OldK s₁.heap s'.heap/\s'.os=s₁.os/\AllBare s'.gens) s₁:=by
 have rv:=XQ hi;have af:=hi.length;have Y:∀H:Hp,(∀b,H b=none\/(b=a/\K.lookup a=none/\∃o xs,H b=some (.frz o (.lst xs)))\/(b∈Ts/\H b=some (.tbl #[])))->SqL K H a (ns.map V.int)->(∀T∈Ts,H T=some (.tbl #[]))->HOk P w H s₁.heap->
  codeAny (model P w) callerA (.call (.ref fa) ⟨[.ref a],[]⟩) (λr s'=>r=.ok (.ret (.bool true))/\OldK s₁.heap s'.heap/\s'.os=s₁.os/\AllBare s'.gens) s₁:=by
  intro H hO hS M ac;have G:∀{b:Addr}{o:Obj},s₁.heap.get? b=some o->H b=none->(Xg s₁.heap H).get? b=some o:=λe n=>Pk e n;have ad:∀{b:Addr}{o:Obj},s₁.heap.get? b=some o->(∀xs n,o.data≠.seq xs n)->(∀xs,o.data≠.fields xs)->H b=none:=λ{b o} e d1 d2=>by
   rcases hO b with z | ⟨rfl,_⟩ | ⟨z,_⟩
   .exact z
   .rw [ha]at e;cases e;exact absurd rfl (d1 _ _)
   .rw [(hTs b z).1]at e;cases e;exact absurd rfl (d2 _)
  have U:∀{b:Addr}{m:Str->Option Value},s₁.heap.Ns b m->(Xg s₁.heap H).Ns b m:=λ{b m} ⟨o,es,ep,e,d,r⟩=>⟨o,es,ep,G e (ad e (λ_ _ z=>by rw [d]at z;cases z) (λ_ z=>by rw [d]at z;cases z)),d,r⟩;have ae:K.In (Xg s₁.heap H):=λb o e=>G (KX b o e) (by
   rcases hO b with z | ⟨rfl,Z,_⟩ | ⟨z,_⟩
   .exact z
   .rw [Z]at e;cases e
   .rw [(hTs b z).2.2]at e;cases e)
  have ah:Wk mg (Xg s₁.heap H):=by
   obtain⟨bm,o,b1,b2,b3,b4,b5,b6,b7⟩:=hbt;exact⟨bm,o,b1,b2,b3,G b4 (ad b4 (λ_ _ z=>by rw [b7]at z;cases z) (λ_ z=>by rw [b7]at z;cases z)),b5,b6,b7⟩
  have hM:Mod K mg (Xg s₁.heap H):=⟨ae,U hns,⟨mb,U hb,hbb⟩,let⟨mc,h1,h2⟩:=hlim;⟨mc,U h1,h2⟩⟩;have e0:Env0 P w K mg (Xg s₁.heap H) callerA [] s₁ H:=⟨rfl,hM,λb o e=>RV e,Nat.le_of_eq (Me _ _),trivial,λb hb=>absurd (show b∈([]:List Addr)from hb) (17:),ac,.of_eq hg⟩;refine codeAny_mono ((F _ ae (U hns) ah).run callerA [] s₁ H ⟨[.ref a],[]⟩ [.ref a] [.ref a] _ _ hr e0 (hbind s₁ (.ref a)) (.cons rfl .nil) (hsp H hS M)) λr s' h=>?_;cases r with
  | error e=>exact h.elim
  | ok fl=>
   cases fl with
   | next=>exact False.elim h
   | brk=>exact False.elim h
   | cont=>exact False.elim h
   | ret u=>
    obtain⟨v,H',os,ag,un,aa,r',q⟩:=h;have q':v=.bl true:=q;subst q';obtain rfl:u=Value.bool true:=r';refine⟨rfl,⟨λb o e=>?_,λb o e=>un.there b o e (17:)⟩,os,ag⟩;rcases hO b with z | ⟨rfl,_,ob,xs,z⟩ | ⟨zT,z⟩
    .exact .inl (un.keep b o e z (by intro z;exact absurd (show b∈([]:List Addr)from z) (17:)) (17:))
    .have z2:=un.frzs b ob _ z;obtain⟨e1,_⟩:=ac b _ z;obtain⟨e2,_⟩:=aa b _ z2;rw [e]at e1;cases e1;exact .inl e2
    .obtain⟨ab,z2⟩:=un.tbls b _ z;have e2:s'.heap.get? b=some { cls:=.none,data:=.fields (#[]++ab) }:=aa b _ z2;obtain⟨t1,t2,_⟩:=hTs b zT;rw [t1]at e;cases e;exact .inr (.inl ⟨t2,rfl,#[],ab,rfl,e2⟩)
 have ai:∀T∈Ts,T≠a:=λT M z=>by
  have:=(hTs T M).1;rw [z,ha]at this;cases this
 cases Z:K.lookup a with
 | some o=>
  have e:=KX a o Z;rw [ha]at e;cases e;refine Y (λb=>if b∈Ts then some (.tbl #[])else none) (λb=>?_) (.inr ⟨_,vs.toArray,_,Z,rfl,rfl,rfl,by rw [a_,af];exact hl,by simpa using rv⟩) (λT M=>aH M) (λb u z=>?_)
  .by_cases hb:b∈Ts
   .exact .inr (.inr ⟨hb,aH hb⟩)
   .exact .inl (aG hb)
  .by_cases hb:b∈Ts
   .have L:=(aH hb).symm.trans z;cases L;exact(hTs b hb).1
   .have L:=(aG hb).symm.trans z;cases L
 | none=>
  refine Y (λb=>if b=a then some (.frz { cls:=.type "list",data:=.seq vs.toArray } (.lst (ns.map V.int)))else if b∈Ts then some (.tbl #[])else none) (λb=>?_) (.inl (.inr ⟨{ cls:=.type "list",data:=.seq vs.toArray },aH rfl⟩)) (λT M=>(aG (ai T M)).trans (aH M)) (λb u z=>?_)
  .by_cases hb:b=a
   .exact .inr (.inl ⟨hb,Z,_,_,aH hb⟩)
   .by_cases J:b∈Ts
    .exact .inr (.inr ⟨J,(aG hb).trans (aH J)⟩)
    .exact .inl ((aG hb).trans (aG J))
  .by_cases hb:b=a
   .have L:=(aH hb).symm.trans z;cases L;subst hb;exact⟨ha,by rw [aE];exact hl,vs,_,rv,ha⟩
   .have z1:=(aG hb).symm.trans z
    by_cases J:b∈Ts
    .have L:=(aH J).symm.trans z1;cases L;exact(hTs b J).1
    .have L:=(aG J).symm.trans z1;cases L
structure TabAt(q:Program)(K:Fg)(x:Str)(c T:Addr):Prop where
 fnd:∃d,(recsOf q).find? (λe=>e.name==x)=some d
 tab:PySem.W.tabIn K x=some (c,T)
 hd:PySem.W.codeHdIn K c T=true
 no:K.lookup T=none
theorem walk_ofT{l:PySem.W.OpenLaw}{k:Nat}{q:Program}{d:DefRec}{K:Params->Fg}{sp:World->Sp}{tabs:List (Str×Addr×Addr)}
 (hn:l.most=some n) (hn2:n<=sizeLine) (hdf:d.params.defaults=[]) (hr:Room k callerA)
 (hY:∀(w:World)(h:Heap),YP w h->(K w.params).In h)
 (htab:∀(w:World),∀p∈tabs,TabAt q (K w.params) p.1 p.2.1 p.2.2)
 (F:∀(w:World)(mg:Str->Option Value)(fa:Addr)(h:Heap),(K w.params).In h->h.Ns mainGlobals mg->mg d.name=some (.ref fa)->
  ∃fd:FuncData,(∀(s:Shared)(u:Value),BindsTo s fd ⟨[u],[]⟩ [(x,u)])/\
   ∀base:Heap,(K w.params).In base->base.Ns mainGlobals mg->Wk mg base->FnOk l.prog w (K w.params) mg base CX0 k fa fd [x] (sp w))
 (hsp:∀(w:World)(H:Hp)(a:Addr)(ns:List Int),ns.length<=n->SqL (K w.params) H a (ns.map V.int)->(∀p∈tabs,H p.2.2=some (.tbl #[]))->sp w [.ref a] H (λv _=>v=.bl true) λ_ _ _=>False):
 PySem.W.WalkO q loose XP YP l.row.toRowW d [] (λf vs=>PySem.call f vs):=by
 refine Att.attach_call hn hdf λw ai af mg mb fa o pm cd ag a vs ns G Y ho hd ah ab M L J hg=>?_;have U:=hY w _ Y;obtain⟨fd,hb,hF⟩:=F w mg fa _ U G.T.g ab;have ac:Wk mg af.heap:=by
  obtain⟨bm,ob,b1,b2,Z,b4,b5,b6⟩:=G.T.bmain;have ad:bm≠mainGlobals:=λq=>by
   obtain⟨o,es,ep,e,hd,_⟩:=G.T.g;rw [q,e]at Z;cases Z;rw [hd]at b6;cases b6
  exact⟨bm,ob,b1,b2,ad,Z,b4,b5,b6⟩
 refine MH (Ts:=tabs.map λp=>p.2.2) U G.T.g G.T.b G.T.builtins G.T.nolimit hg ac (λT hT=>?_) M L (bX J hn2) hr hF hb (λH hS hT=>hsp w H a ns J hS λp hp=>hT _ (aK.mpr ⟨p,hp,rfl⟩));obtain⟨p,hp,rfl⟩:=aK.mp hT;obtain⟨⟨dd,aa⟩,ht,_,ae⟩:=htab w p hp;obtain⟨hc,h0⟩:=PySem.W.tab_of G.T U aa ht;exact⟨h0,(hc.tab h0).isCodeTable,ae⟩
section
variable{pins:List (10:)}
end
section
variable{K:Fg}{N:List Str}{E:XK}
end
section
variable{K:Fg}{N:List Str}{E:XK}
end
section
variable{K:Fg}{N:List Str}{E:XK}
end
section
variable{pins:List (10:)}
end
end L2
namespace G3
open PySem L2
inductive TupOf(K:Fg)(p:Addr)(H:Hp)(Q:VK):Prop where
 | l (ys:List V) (h:SqL K H p ys) (k:∀l H',Same H H'->SqT K H' l ys->Q (.ref l) H'):TupOf K p H Q
def rTupOf(K:Fg)(vs:List V)(H:Hp)(Q:VK):Prop:=match vs with
 | [.ref p]=>TupOf K p H Q
 | _=>False
theorem call_tupOf:Q6 X (.type "tuple") (rTupOf X.K):=by
 intro pins s σ H xs G Q I r h;unfold rTupOf at h;split at h
 .cases h with
  | l ys J k=>exact QV pins s σ H _ G Q I r ⟨_,ys,rfl,.inl ⟨J,λl L=>k l _ (Qd L _) (SqT.of Qb)⟩⟩
 .exact h.elim
theorem CallOk.blt{id:String}{r:List V->Hp->VK->Prop}(hc:Q6 X (.builtin id) r)(hm:X.mg x=none)(hv:bootBuiltins x=some (.builtin id))(hn:x≠"__name__":=by decide):CallOk X x (λ_ vs H Q=>r vs H Q):=
 ⟨λp pos e es t G J L M hp=>Qn hc J hm hv G hn L M hp⟩
theorem CallOk.ty{r:List V->Hp->VK->Prop}(hc:Q6 X (.type T) r)(hm:X.mg x=none)(hv:bootBuiltins x=some (.type T))(hn:x≠"__name__":=by decide):CallOk X x (λ_ vs H Q=>r vs H Q):=
 ⟨λp pos e es t G J L M hp=>QO hc J hm hv G hn L M hp⟩
def shCmp(op:CmpOp):Expr->Option (List Expr)
 | .Compare a [o] [b] _=>if decide (o=op)&& !(behindInMarks op b)then some [a,b]else none
 | _=>none
def shIx:Expr->Option (List Expr)
 | .Subscript a b _=>if ord b then some [a,b]else none
 | _=>none
def shBin(op:Operator):Expr->Option (List Expr)
 | .BinOp a o b _=>if o=op then some [a,b]else none
 | _=>none
def shSlTo:Expr->Option (List Expr)
 | .Subscript a (.Slice none (some h) none _) _=>some [a,h]
 | _=>none
def shM0(m:Str):Expr->Option (List Expr)
 | .Call (.Attribute o m' ap) [] [] cp=>if decide (m'=m)&&Px o&&(ap.endLine==cp.line)then some [o]else none
 | _=>none
def on2(r:R2):List V->Hp->VK->Prop:=λvs H Q=>match vs with
 | [x,y]=>r x y H Q
 | _=>False
def on1(r:V->Hp->VK->Prop):List V->Hp->VK->Prop:=λvs H Q=>match vs with
 | [x]=>r x H Q
 | _=>False
theorem PEs.two{a b:Expr}{ts:List TE}(h:PEs X [a,b] ts):∃t u,ts=[t,u]/\PE X a t/\PE X b u:=by
 cases h with
 | cons h1 h=>cases h with
  | cons h2 h=>cases h with
   | nil=>exact⟨_,_,rfl,h1,h2⟩
theorem PEs.one{a:Expr}{ts:List TE}(h:PEs X [a] ts):∃t,ts=[t]/\PE X a t:=by
 cases h with
 | cons h1 h=>cases h with
  | nil=>exact⟨_,rfl,h1⟩
theorem NodeOk.plain{r:List V->Hp->VK->Prop}(h:∀(e:Expr)(es:List Expr)(ts:List TE),sh e=some es->PEs X es ts->PE X e (λσ H Q=>V8 ts σ H λvs H1=>r vs H1 Q)/\tst e=true):NodeOk X sh r:=
 ⟨λe es ts G hp=>(h e es ts G hp).1,λe es ts G hp=>(pvT (h e es ts G hp).1 (h e es ts G hp).2).2⟩
theorem NodeOk.cmp{r:R2}(ho:OpR X (compareOp op) r):NodeOk X (shCmp op) (on2 r):=by
 have J:∀(e:Expr)(es:List Expr),shCmp op e=some es->∃a b p,e=.Compare a [op] [b] p/\es=[a,b]/\behindInMarks op b=false:=λe es G=>by
  unfold shCmp at G;split at G
  .split at G
   .rename_i L;cases G;rw [bC]at L;rw [bJ L.1];exact⟨_,_,_,rfl,rfl,by simpa using L.2⟩
   .cases G
  .cases G
 refine⟨λe es U G h=>?_,λe es U G h=>?_⟩
 .obtain⟨a,b,p,rfl,rfl,M⟩:=J e es G;obtain⟨t,u,rfl,h1,h2⟩:=h.two;exact ZI ho h1 h2 M
 .obtain⟨a,b,p,rfl,rfl,M⟩:=J e es G;obtain⟨t,u,rfl,h1,h2⟩:=h.two;exact YG (Qu (Oj ho) (QX h1) (QX h2) M) λσ H Q q=>⟨_,q,λx H1 q=>⟨_,q,λy H2 q=>⟨_,q,λz Y q=>UL q⟩⟩⟩
theorem NodeOk.bin{op:Operator}{r:R2}(ho:OpR X (binaryOp op) r):NodeOk X (shBin op) (on2 r):=.plain λe es L G h=>by
 unfold shBin at G;split at G
 .split at G
  .rename_i J;cases G;obtain⟨t,u,rfl,h1,h2⟩:=h.two;rw [J];exact⟨QD ho h1 h2,rfl⟩
  .cases G
 .cases G
def asI(x:V)(k:Int->Prop):Prop:=match x with
 | .int i=>k i
 | _=>False
theorem AB{x:V}{k:Int->Prop}(h:asI x k):∃i,x=.int i/\k i:=by
 unfold asI at h;split at h
 .exact⟨_,rfl,h⟩
 .exact h.elim
theorem NodeOk.slTo{r:V->Option Int->Option Int->Hp->VK->Prop}(hr:SlR X r):NodeOk X shSlTo (on2 λx y H Q=>asI y λi=>r x none (some i) H Q):=.plain λe es J G h=>by
 unfold shSlTo at G;split at G
 .cases G;obtain⟨t,u,rfl,h1,h2⟩:=h.two;exact⟨Zc (J7 hr (QX h1) X8 (Wq (QX h2))) λσ H Q q=>⟨_,q,λx H1 q=>⟨_,q,λy H2 q=>AB q⟩⟩,rfl⟩
 .cases G
theorem NodeOk.m0{id:String}{r:V->List V->Hp->VK->Prop}(pa:PlainAttrs T)(slot:Slot T name id)(hty:typeOf (.builtin id)=pure (.type "method_descriptor"))(hm:MtR X id r):NodeOk X (shM0 name) (on1 λx H Q=>tyV X.K T x H/\r x [] H Q):=.plain λe es L G h=>by
 unfold shM0 at G;split at G
 .split at G
  .rename_i o M U Y J;cases G;simp only [bC]at J;obtain⟨t,rfl,h1⟩:=h.one;obtain rfl:=bJ J.1.1;exact⟨Pe pa slot hty hm h1 (by cases o<;>first | rfl | exact absurd (show false=true from J.1.2) aS) J.2,rfl⟩
  .cases G
 .cases G
structure Cxt(X:Cx)(P:Program)(w:World)(K:Fg)(mg:Str->Option Value)(base:Heap)(k:Nat):Prop where
 p:X.prog=P
 w:X.w=w
 K:X.K=K
 m:X.mg=mg
 b:X.base=base
 r:Room k X.A
 c:X.calm=true
inductive Calls(X:Cx):List Str->List Rel->Prop where
 | nil:Calls X [] []
 | cons {x:Str} {r:Rel} {xs:List Str} {rs:List Rel}:CallOk X x r->Calls X xs rs->Calls X (x::xs) (r::rs)
inductive Meths(X:Cx):List Str->List Mr->Prop where
 | nil:Meths X [] []
 | cons {x:Str} {r:Mr} {xs:List Str} {rs:List Mr}:MethOk X x r->Meths X xs rs->Meths X (x::xs) (r::rs)
inductive Nodes(X:Cx):List (Expr->Option (List Expr))->List (List V->Hp->VK->Prop)->Prop where
 | nil:Nodes X [] []
 | cons {x:Expr->Option (List Expr)} {r:List V->Hp->VK->Prop} {xs:List (Expr->Option (List Expr))} {rs:List (List V->Hp->VK->Prop)}:NodeOk X x r->Nodes X xs rs->Nodes X (x::xs) (r::rs)
theorem Calls.at:∀{xs:List Str}{rs:List Rel},Calls X xs rs->∀(i:Nat) y,xs[i]?=some y->∃r,rs[i]?=some r/\CallOk X y r
 | _,_,.nil,i,y,e=>by simp at e
 | _,_,.cons h _,0,y,e=>by cases e;exact⟨_,rfl,h⟩
 | _,_,.cons _ h,i+1,y,e=>h.at i y e
theorem Meths.at:∀{xs:List Str}{rs:List Mr},Meths X xs rs->∀(i:Nat) y,xs[i]?=some y->∃r,rs[i]?=some r/\MethOk X y r
 | _,_,.nil,i,y,e=>by simp at e
 | _,_,.cons h _,0,y,e=>by cases e;exact⟨_,rfl,h⟩
 | _,_,.cons _ h,i+1,y,e=>h.at i y e
theorem Nodes.at:∀{xs:List (Expr->Option (List Expr))}{rs:List (List V->Hp->VK->Prop)},Nodes X xs rs->∀(i:Nat) y,xs[i]?=some y->∃r,rs[i]?=some r/\NodeOk X y r
 | _,_,.nil,i,y,e=>by simp at e
 | _,_,.cons h _,0,y,e=>by cases e;exact⟨_,rfl,h⟩
 | _,_,.cons _ h,i+1,y,e=>h.at i y e
section
variable{K:Fg}{k:Nat}
theorem Cxt.fn(c:Cxt X P w K mg base k)(F:Fn P w K mg base j x ps sp)(hk:j<=k:=by decide):CallOk X x (λ_ vs H Q=>sp vs H Q E0):=by
 obtain⟨rfl,rfl,rfl,rfl,rfl,G,J⟩:=c;exact .fn F G hk
theorem Cxt.ty(c:Cxt X P w K mg base k)(hc:∀X:Cx,Q6 X (.type T) (r X.K))(hm:mg x=none)(hv:bootBuiltins x=some (.type T))(hn:x≠"__name__":=by decide):CallOk X x (λ_ vs H Q=>r K vs H Q):=by
 obtain⟨rfl,rfl,rfl,rfl,rfl,J,G⟩:=c;exact .ty (hc X) hm hv hn
theorem Cxt.blt(c:Cxt X P w K mg base k){id:String}(hc:∀X:Cx,Q6 X (.builtin id) (r X.K))(hm:mg x=none)(hv:bootBuiltins x=some (.builtin id))(hn:x≠"__name__":=by decide):CallOk X x (λ_ vs H Q=>r K vs H Q):=by
 obtain⟨rfl,rfl,rfl,rfl,rfl,J,G⟩:=c;exact .blt (hc X) hm hv hn
theorem Cxt.meth(c:Cxt X P w K mg base k){r:Fg->Mr}(h:∀X:Cx,MethOk X x (r X.K)):MethOk X x (r K):=by
 obtain⟨rfl,rfl,rfl,rfl,rfl,J,G⟩:=c;exact h X
theorem Cxt.node(c:Cxt X P w K mg base k)(h:∀X:Cx,NodeOk X sh (r X.K)):NodeOk X sh (r K):=by
 obtain⟨rfl,rfl,rfl,rfl,rfl,J,G⟩:=c;exact h X
end
section
variable{K:Fg}{k:Nat}
end
theorem Fun.okC{K:Fg}{st:Stmt}{N fn mt:List Str}{nk:List (Expr->Option (List Expr))}{k:Nat}(F:Fun K x qual st f fd)(S:FnScope N ps (defScope st))(n:En)(c:List G3.S)
 (hcx:∀X:Cx,Cxt X P w K mg base k->Calls X fn n.fs/\Meths X mt n.ms/\Nodes X nk n.nr)
 (len:∀vs H Q E,sp vs H Q E->vs.length=ps.length)
 (hb:∀(H:Hp)(vs:List V)(Q:VK)(E:XK),sp vs H Q E->ES n c { nx:=λ_ H'=>Q .non H',rt:=Q } (YN N vs) H)
 (hm:mg "range"=none) (hc:chS ⟨N,defScope st,fn,mt,nk,[]⟩ c (defBody st)=true:=by decide+kernel) (hn:n.K=K:=by rfl):FnOk P w K mg base CX0 (k+1) f fd ps sp:=by
 obtain⟨J,fs,ms,nr,sr⟩:=n;have hn:J=K:=hn;subst hn;exact F.ok S len λL A outer s H vs Q E G h=>⟨_,snS (X:=(Vt CX0 P w J mg base N qual (defScope st) f L A outer s H E).nox) (fs:=fs) (ms:=ms) (nr:=nr) (sr:=sr) ⟨⟨rfl,rfl,λX f i y e=>(hcx X ⟨f.p,f.w,f.K,f.m,f.b,by rw [f.A];exact G,f.c⟩).1.at i y e,λX f i y e=>(hcx X ⟨f.p,f.w,f.K,f.m,f.b,by rw [f.A];exact G,f.c⟩).2.1.at i y e,λX f i y e=>(hcx X ⟨f.p,f.w,f.K,f.m,f.b,by rw [f.A];exact G,f.c⟩).2.2.at i y e,rfl,hm⟩,S.nd,λ_=>rfl,bW,λi y e=>by simp at e⟩ c _ hc,hb H vs Q E h⟩
inductive EqD(K:Fg)(neg:Bool)(x y:V)(H:Hp)(Q:VK):Prop where
 | e (d e:PyData) (h1:RdV K H x d) (h2:RdV K H y e) (c1:d.canLay0=true) (c2:e.canLay0=true) (hu:min d.depth e.depth<=190) (q:Q (.bl (if neg then !PyData.eqv d e else PyData.eqv d e)) H):EqD K neg x y H Q
theorem Cxt.neD{K:Fg}{k:Nat}(c:Cxt X P w K mg base k):NodeOk X (shCmp .NotEq) (on2 (EqD K true)):=by
 obtain⟨rfl,rfl,rfl,rfl,rfl,G,Y⟩:=c;refine .cmp λpins s σ H x y v u Q I J L h=>?_;cases h with
 | e d e h1 h2 M U Z q=>exact X5 pins s σ H x y v u Q I J L ⟨d,e,h1,h2,M,U,by have:=G.un;lia,q⟩
inductive Len(K:Fg)(p:Addr)(H:Hp)(Q:VK):Prop where
 | l (ys:List V) (h:SqL K H p ys) (k:Q (.int ys.length) H):Len K p H Q
 | t (ys:List V) (h:SqT K H p ys) (k:Q (.int ys.length) H):Len K p H Q
def rLen(K:Fg)(vs:List V)(H:Hp)(Q:VK):Prop:=match vs with
 | [.ref p]=>Len K p H Q
 | _=>False
theorem call_len(X:Cx):Q6 X (.builtin "len") (rLen X.K):=by
 intro pins s σ H xs J Q I r h;unfold rLen at h;split at h
 .cases h with
  | l ys G k=>exact Qm pins s σ H _ J Q I r ⟨_,ys,rfl,.inl G,k⟩
  | t ys G k=>exact Qm pins s σ H _ J Q I r ⟨_,ys,rfl,.inr G,k⟩
 .exact h.elim
def mApp(K:Fg):Mr:=⟨tyV K "list",Ls⟩
theorem m_append(X:Cx):MethOk X "append" (mApp X.K):=.bm cR fu fw Zo
theorem tyL{K:Fg}(h:H l=some (.lst xs)):tyV K "list" (.ref l) H:=.inl ⟨rfl,xs,SqL.of h⟩
end G3
namespace L2
open PySem PySem.Spec PyProof.Rows
noncomputable instance decPyD:DecidableEq PyData:=λa b=>Classical.propDecidable (a=b)
def nk:Nat->PyData->Prop
 | 0,d=>(∃i,d=.int i)\/∃x,d=.str x/\PyData.strOk x=true
 | n+1,d=>(∃i,d=.int i)\/(∃x,d=.str x/\PyData.strOk x=true)\/∃ds,d=.tuple ds/\∀e∈ds,nk n e
mutual
noncomputable def U4(w:World):PyData->Int
 | .int i=>hashInt i
 | .str x=>hashStr w x
 | .tuple ds=>reduceHash (Builtin.Tuple.tupleHashOf (ZK w ds))
 | _=>0
noncomputable def ZK(w:World):List PyData->List Int
 | []=>[]
 | d::r=>U4 w d::ZK w r
end
mutual
noncomputable def drD:PyData->Nat
 | .tuple ds=>Jy ds+1
 | _=>1
noncomputable def Jy:List PyData->Nat
 | []=>0
 | d::r=>drD d+Jy r
end
theorem J3(w:World):∀a b:List PyData,ZK w (a++b)=ZK w a++ZK w b
 | [],b=>by simp [ZK]
 | d::r,b=>by simp [ZK,J3 w r b]
theorem WF:∀a b:List PyData,Jy (a++b)=Jy a+Jy b
 | [],b=>by simp [Jy]
 | d::r,b=>by simp [Jy,WF r b,Nat.add_assoc]
section
variable{E:Value->Shared->Prop}
theorem SO:∀(n:Nat){d:PyData}{v:Value}{as:List Addr}{A:Around}{s:Shared}{Q:Int->Shared->Prop},nk n d->Reads s.heap v d as->A.units+n<cLine->Q (U4 w d) { s with toks:=s.toks+drD d }->wpAny (9:) A (pyHash v) Q E s:=by
 have hi:∀{i:Int}{v:Value}{as:List Addr}{A:Around}{s:Shared}{Q:Int->Shared->Prop},Reads s.heap v (.int i) as->Q (U4 w (.int i)) { s with toks:=s.toks+drD (.int i) }->wpAny (9:) A (pyHash v) Q E s:=λr q=>by
  cases r with
  | int i t=>
   simp only [U4,drD]at q;exact wpAny_pyHash_int q
 have Z:∀{x:Str}{v:Value}{as:List Addr}{A:Around}{s:Shared}{Q:Int->Shared->Prop},Reads s.heap v (.str x) as->Q (U4 w (.str x)) { s with toks:=s.toks+drD (.str x) }->wpAny (9:) A (pyHash v) Q E s:=λr q=>by
  cases r with
  | str i t=>
   simp only [U4,drD]at q;exact wpAny_pyHash_str q
 intro n
 induction n with
 | zero=>
  rintro d v as A s Q (⟨i,rfl⟩ | ⟨x,rfl,_⟩) r _ q
  .exact hi r q
  .exact Z r q
 | succ n ih=>
  rintro d v as A s Q (⟨i,rfl⟩ | ⟨x,rfl,_⟩ | ⟨ds,rfl,aa⟩) r hu q
  .exact hi r q
  .exact Z r q
  .cases r with
   | @tuple a o vs m xs as ho hc hd M=>
   have hT:s.TypeIs (.ref a) "tuple":=⟨o,ho,hc⟩;simp only [U4,drD]at q;show wpAny (9:) A (pyHashByItsType (.ref a)) Q E s;refine PySem.W.pyHash_slot hT PySem.F.slot_tuple_hash PySem.F.entry_tuple_hash (PySem.F.args_tuple_hash_1 _) (beq_builtin_none _) (.inr (5:)) ?_;show wpAny (9:) A.in1 (Builtin.Tuple.tupleItemsOf (.ref a)>>=_) _ E s;refine aB (wpAny_tupleItemsOf ho hd (aB ?_));rw [<-Array.forIn_toList];refine wpAny_forIn_list _ (λrest (b:Array Int) s'=>∃G left J,ds=G++left/\ReadsAll s.heap rest left J/\b.toList=ZK w G/\s'={ s with toks:=s.toks+Jy G }) _ ?_ ?_ vs.toList #[] ⟨[],ds,_,rfl,M,by simp [ZK],by simp [Jy]⟩
   .rintro x rest b s' ⟨G,left,J,rfl,U,Y,rfl⟩;cases U with
    | @cons _ _ e left ac ad ab L=>
    refine aB (ih (aa e (17:)) (s:={ s with toks:=s.toks+Jy G }) ab (show A.in1.units+n<cLine by show A.units+1+n<cLine;lia) ?_);refine aF ?_;exact⟨G++[e],left,_,by simp,L,by simp [Y,J3,ZK],by simp [WF,Jy,Nat.add_assoc]⟩
   .rintro b s' ⟨G,left,J,rfl,U,Y,rfl⟩;cases U;rw [dO]at q;show wpAny (9:) A.in1 (retInt (Builtin.Tuple.tupleHashOf b.toList)) _ E _;rw [Y];unfold retInt;refine aB (wpAny_mkInt ?_);exact aF ⟨_,_,rfl,q⟩
theorem Ph:∀(n m:Nat){d:PyData}{v:Value}{as:List Addr}{A:Around}{s:Shared}{Q:Bool->Shared->Prop},nk n d->Reads s.heap v d as->n<=m->Q true s->wpAny (9:) A (eqIsQuiet m v) Q E s:=by
 have M:∀{d:PyData}{v:Value}{as:List Addr}{h:Heap},((∃i,d=.int i)\/∃x,d=.str x/\PyData.strOk x=true)->Reads h v d as->carriedByValue v=true:=λG r=>by
  rcases G with⟨i,rfl⟩ | ⟨x,rfl,_⟩
  .cases r;rfl
  .cases r;rfl
 intro n
 induction n with
 | zero=>
  intro m d v as A s Q G r _ q;rw [eqIsQuiet_byValue m (M G r)];exact aF q
 | succ n ih=>
  intro m d v as A s Q G r hm q;rcases G with h | h | ⟨ds,rfl,Y⟩
  .rw [eqIsQuiet_byValue m (M (.inl h) r)];exact aF q
  .rw [eqIsQuiet_byValue m (M (.inr h) r)];exact aF q
  .obtain⟨m,rfl⟩: ∃k,m=k+1:=⟨m-1,by lia⟩;cases r with
   | @tuple a o vs k xs as Z hc G U=>
   have hT:s.TypeIs (.ref a) "tuple":=⟨o,Z,hc⟩;rw [eqIsQuiet.eq_2];refine aB (wpAny_specialOf hT PySem.F.slot_tuple_eq.lookup ?_);refine aB (fe hT isSubtype_tuple_tuple ?_);simp only [Bool.not_true,cE,bU];refine aB (dP Z G (aB ?_));show wpAny (9:) A (forIn vs _ _) _ E s;rw [<-Array.forIn_toList];refine wpAny_forIn_list _ (λrest (r:Option Bool×Unit) s'=>r.fst=none/\s'=s/\∃left L,ReadsAll s.heap rest left L/\∀e∈left,nk n e) _ ?_ ?_ vs.toList _ ⟨rfl,rfl,ds,_,U,Y⟩
   .rintro x rest r s' ⟨hr,rfl,left,L,hl,hn⟩;cases hl with
    | @cons _ _ e left ab ac aa J=>
    refine aB (ih m (hn e aQ) aa (5:) ?_);simp only [Bool.not_true,cE,bU];exact aF ⟨rfl,rfl,left,_,J,λe he=>hn e (aV _ he)⟩
   .rintro r s' ⟨hr,rfl,_⟩;obtain⟨r1,r2⟩:=r;cases hr;exact aF q
end
end L2
namespace L2
open PySem PySem.Spec PyProof.Rows PySem.W
section
variable{E:Value->Shared->Prop}
end
end L2
namespace L2
namespace LD
open PySem PySem.Spec PyProof.Rows PySem.W
def DEnt(h:Heap)(d:Addr)(ents:Array DictEntry)(ep:Nat):Prop:=∃o,h.get? d=some o/\o.ExactDict/\o.data=.dict ents ep
section
variable{E:Value->Shared->Prop}
theorem DEnt.ty(x:DEnt s.heap d ents ep):s.TypeIs (.ref d) "dict":=by
 obtain⟨o,g,e,_⟩:=x;exact⟨o,g,e.1⟩
theorem DEnt.lt(x:DEnt h d ents ep):d<h.objs.size:=by
 obtain⟨o,g,_⟩:=x;exact aP g
theorem UB(lo:(d==sysModules)=false)(x:DEnt s.heap d ents ep)
 (fin:Q (.ref s.heap.objs.size) { s with heap:=s.heap.push { cls:=.type "dict_keyiterator",data:=.fields #[.ref d,.int 0 0,.int ents.size 0,.int ep 0] } }):wpAny (9:) A (pyIter (.ref d)) Q E s:=by
 have ty:=x.ty;obtain⟨o,g,ex,G⟩:=x;refine wpAny_pyIter_slot ty gq (dA gq ty F.entry_dict_iter ?_ (F.args_dict_iter_1 _));unfold Builtin.«dict.__iter__» Builtin.Dict.dictSlotNone;refine aB (aB (gK ty (show wpAny _ _ (pure (Value.ref d)) _ _ s from aF ?_)));show wpAny _ _ (Builtin.Dict.showsAll d>>=_) _ _ s;unfold Builtin.Dict.showsAll;rw [aG (by rw [lo];exact aS)];refine aB (aF (aB (c_ g G (aB (eM g G ?_)))));refine aB (cL (aF ⟨_,rfl,"dict_keyiterator",_,⟨_,bE _ rfl,rfl⟩,F.slot_dict_keyiterator_next.lookup,?_⟩))
 simpa [rawInt]using fin
theorem UG{t:DictEntry}{Q:Option Value->Shared->Prop}(hI:s.heap.IsKeyIter it d i ents.size ep)(x:DEnt s.heap d ents ep)(at_i:ents[i]?=some t)
 (fin:∀h2,h2.IsKeyIter it d (i+1) ents.size ep->Heap.SameBut it s.heap h2->Q (some t.key) { s with heap:=h2 }):wpAny (9:) A (pyNext (.ref it)) Q E s:=by
 obtain⟨oi,M,Z,G⟩:=id hI;obtain⟨od,Y,aa,J⟩:=id x;unfold pyNext;refine aB (8:);refine aB (aF (aB (aB ?_)))
 first | refine aB (en hI.typeIs (aF ?_)) | refine aB (eB hI.typeIs (aF ?_))
 refine aB (wpAny_fieldsOf M G ?_);have U:Builtin.Dict_items.ownsTuple "dict_keyiterator"=false:=by decide
 simp only [U,cE,bU];show wpAny _ _ (if(Value.ref d==Value.none)=true then _ else _) _ _ s;rw [aG (show ¬((Value.ref d==Value.none)=true)from aS)];refine aB (aF (aB (c_ Y J ?_)));rw [aG (17:)];refine aB (aF (aB (eM Y J ?_)));rw [aG (17:)];refine aF ?_;simp only [show ¬((i:Int)<0)from by lia,bU,aX,at_i];refine aB ?_
 first | refine aB (en hI.typeIs (aF ?_)) | refine aB (eB hI.typeIs (aF ?_))
 refine aB (gN hI.typeIs ?_);show wpAny _ _ (setField (.ref it) 1 (rawInt ((i:Int)+1))>>=_) _ _ s;refine aB (fN M G (17:) ?_);have L:(s.heap.update it (Obj.mapFields (·.setIfInBounds 1 (rawInt ((i:Int)+1))))).IsKeyIter it d (i+1) ents.size ep:=by
  refine⟨_,dX _ M (Obj.isFreed_of_fields (fF G _)),(Obj.cls_mapFields ..).trans Z,?_⟩;rw [fF G];simp [rawInt]
 refine aB (cF (aB (gN (s:={ s with heap:=s.heap.update it (Obj.mapFields (·.setIfInBounds 1 (rawInt ((i:Int)+1)))) }) L.typeIs ?_)));show wpAny _ _ (pure t.key) _ _ _;exact aF (aF ⟨_,rfl,aF (fin _ L (cU ..))⟩)
theorem JF{Q:Option Value->Shared->Prop}(hh:A.handled=none)(hI:s.heap.IsKeyIter it d ents.size ents.size ep)(x:DEnt s.heap d ents ep)(fin:∀h2,Heap.ExtBut it s.heap h2->Q none { s with heap:=h2 }):wpAny (9:) A (pyNext (.ref it)) Q E s:=by
 obtain⟨Z,L,ci,M⟩:=id hI;obtain⟨od,U,Y,G⟩:=id x;unfold pyNext;refine aB (8:);refine aB (aF (aB (aB ?_)))
 first | refine aB (en hI.typeIs (aF ?_)) | refine aB (eB hI.typeIs (aF ?_))
 refine aB (wpAny_fieldsOf L M ?_);have J:Builtin.Dict_items.ownsTuple "dict_keyiterator"=false:=by decide
 simp only [J,cE,bU];show wpAny _ _ (if(Value.ref d==Value.none)=true then _ else _) _ _ s;rw [aG (show ¬((Value.ref d==Value.none)=true)from aS)];refine aB (aF (aB (c_ U G ?_)));rw [aG (17:)];refine aB (aF (aB (eM U G ?_)));rw [aG (17:)];refine aF ?_;simp only [show ¬(((ents.size:Nat):Int)<0)from by lia,bU,aX,eD (4:)];refine aB ?_
 first | refine aB (en hI.typeIs (aF ?_)) | refine aB (eB hI.typeIs (aF ?_))
 show wpAny _ _ (setField (.ref it) 0 .none>>=_) _ _ s;refine aB (fN L M (17:) ?_);show wpAny _ _ (newExc (.type "StopIteration") []>>=_) _ _ _;refine aB ?_;simp only [newExc,newTuple];refine aB (cL ?_ (by size_fits));refine aB (m:=firstArgMember _ _) (wpAny_of_eq (a:=Value.none) (by first | rfl | (simp only [firstArgMember];rfl)) ?_);refine cL ?_ (by size_fits);simp only [raiseNew];refine aB (wpAny_handled ?_);rw [show A.in1.handled=none from hh];refine aB (aF (wpAny_throw ?_));refine aB (fe (T:="StopIteration") (b:=true) ⟨_,bE _ rfl,rfl⟩ isSubtype_stop ?_);exact aF (fin _ (((cU ..).extBut.push _).push _))
theorem Ux(hh:A.handled=none)(ne:d≠it):Walks prog w A it [it,d] [it] ents.size (λi v=>∃t,ents[i]?=some t/\v=t.key) (λi h=>h.IsKeyIter it d i ents.size ep/\DEnt h d ents ep) where
 sub:=λb G=>by simp at G;simp [G]
 frame:=λ_ h h2 st k=>by
  obtain⟨⟨M,Y,Z⟩,J,L,rd⟩:=st;exact⟨⟨M,k it (17:) M Y,Z⟩,J,k d (17:) J L,rd⟩
 item:=λi s Q E hi st fin=>by
  refine UG st.1 st.2 (eA hi) λh2 I2 U=>?_;obtain⟨J,L,rd⟩:=st.2;refine fin _ h2 s.toks ⟨_,eA hi,rfl⟩ ⟨I2,J,U.extBut d J ne L,rd⟩ λb o G e=>U.extBut b o (λz=>G (by simp [z])) e
 done:=λs Q E st fin=>JF hh st.1 st.2 λh2 he=>fin h2 s.toks λb o G e=>he b o (λz=>G (by simp [z])) e
 self:=λ_ _ _ _ st fin=>wpAny_pyIter_keyiter st.1 fin
theorem JY(lo:(d==sysModules)=false):KdlSrc prog w "dict" d d ents.size (λi v=>∃t,ents[i]?=some t/\v=t.key) (λh=>DEnt h d ents ep) where
 type:=λ_ x=>x.ty
 there:=λ_ x=>⟨x.lt,x.lt⟩
 keep:=λ_ _ x k=>by
  obtain⟨o,g,r⟩:=x;exact⟨o,k d (.inl rfl) o g,r⟩
 notList:=by decide
 notTuple:=by decide
 hint:=λ_ _ _ _ x q=>kdl_hint_dict x.ty q
 iter:=λ_ _ G x=>⟨_,_,(λ_ _ q=>UB lo x q),Ux G (bD x.lt),⟨⟨_,bE _ rfl,rfl,rfl⟩,by
  obtain⟨o,g,r⟩:=x;exact⟨o,aN _ g,r⟩⟩⟩
end
theorem Xr{α:Type}{l:Array α}{m:List α}(h:l.toList=m):l.size=m.length:=by rw [<-h,eV]
theorem J8(hd:(d==sysModules)=false):
 MeetsIn prog w (Builtin.«dict.__len__» ⟨[.ref d],[]⟩) (λ_ R s=>∃ents ep,DEnt s.heap d ents ep/\R (.ok (.ret (.int ents.size s.toks))) { s with toks:=s.toks+1 }):=
 .of_wp λA R s ⟨ents,ep,J,h⟩=>by
  obtain⟨o,L,M,G⟩:=J;show wpAny _ _ (dictSize d>>=_) _ _ s;unfold dictSize;refine aB (aB (c_ L G (aF ?_)));show wpAny _ _ (Builtin.Dict.pendingCount d>>=_) _ _ s;refine aB (wpAny_pendingCount_other hd ?_);refine wpAny_ret_mkInt ?_;rw [Nat.add_zero];exact h
theorem Xm{E:Value->Shared->Prop}(hd:(d==sysModules)=false)(hm:DEnt s.heap d ents ep)(hfit:(ents.size:Int)<2^63)
 (h:Q (.int ents.size (s.toks+1)) { s with toks:=s.toks+1+1 }):wpAny (9:) A (call (.builtin "len") [.ref d]) Q E s:=by
 refine Calls.call_function_entry kind_len plain_len entry_len (args_len1 _) ?_;unfold Builtin.«len»;refine aB (m:=oneArg "len" _) (aF ?_);refine aB (m:=callSpecial? (.ref d) (Str.ofString "__len__")) (dU (name:=Str.ofString "__len__") hm.ty F.slot_dict_len
  (call_meetsIn F.slot_dict_len hm.ty F.entry_dict_len (F.args_dict_len_1 _) (J8 hd) ⟨ents,ep,hm,?_⟩))
 show wpAny _ _ _ _ _ { s with toks:=s.toks+1 };refine aB (cF (aF ?_));refine aB (fk ?_);show wpAny _ _ (if((ents.size:Nat):Int)<0 then _ else _) _ _ _;rw [aG (5:)];show wpAny _ _ (if((ents.size:Nat):Int)>=2^63 then _ else _) _ _ _;rw [aG (5:)];exact aB (wpAny_mkInt (aF ⟨_,rfl,h⟩))
end LD
end L2
namespace L2
open PySem PySem.Spec PyProof.Rows
mutual
theorem OF:∀(n:Nat){x y:PyData},nk n x->nk n y->PyData.eqv x y=true->x=y
 | 0,x,y,J,G,e=>by
  rcases J with⟨i,rfl⟩ | ⟨s,rfl,_⟩
  .rcases G with⟨j,rfl⟩ | ⟨t,rfl,_⟩
   .simp [PyData.eqv]at e;rw [e]
   .simp [PyData.eqv]at e
  .rcases G with⟨j,rfl⟩ | ⟨t,rfl,_⟩
   .simp [PyData.eqv]at e
   .simp [PyData.eqv]at e;rw [e]
 | n+1,x,y,J,G,e=>by
  rcases J with⟨i,rfl⟩ | ⟨s,rfl,_⟩ | ⟨ds,rfl,M⟩
  .rcases G with⟨j,rfl⟩ | ⟨t,rfl,_⟩ | ⟨es,rfl,L⟩
   .simp [PyData.eqv]at e;rw [e]
   .simp [PyData.eqv]at e
   .simp [PyData.eqv]at e
  .rcases G with⟨j,rfl⟩ | ⟨t,rfl,_⟩ | ⟨es,rfl,L⟩
   .simp [PyData.eqv]at e
   .simp [PyData.eqv]at e;rw [e]
   .simp [PyData.eqv]at e
  .rcases G with⟨j,rfl⟩ | ⟨t,rfl,_⟩ | ⟨es,rfl,L⟩
   .simp [PyData.eqv]at e
   .simp [PyData.eqv]at e
   .simp only [PyData.eqv]at e;rw [GC n M L e]
theorem GC:∀(n:Nat){ds es:List PyData},(∀d∈ds,nk n d)->(∀e∈es,nk n e)->PyData.eqvAll ds es=true->ds=es
 | n,[],[],_,_,_=>rfl
 | n,[],_::_,_,_,e=>by simp [PyData.eqvAll]at e
 | n,_::_,[],_,_,e=>by simp [PyData.eqvAll]at e
 | n,d::ds,x::es,h1,h2,e=>by
  simp only [PyData.eqvAll,bC]at e;rw [OF n (h1 d aQ) (h2 x aQ) e.1,GC n (λd G=>h1 d (aV _ G)) (λe J=>h2 e (aV _ J)) e.2]
end
theorem LB(ih:∀{d:PyData},nk n d->d.canLay0=true/\d.depth<=n+1):∀{ds:List PyData},(∀d∈ds,nk n d)->PyData.canLayAll0 ds=true/\PyData.depthAll ds<=n+1
 | [],_=>by simp [PyData.canLayAll0,PyData.depthAll]
 | d::r,h=>by
  obtain⟨G,a2⟩:=ih (h d aQ);obtain⟨J,b2⟩:=LB ih λe L=>h e (aV _ L);simp only [PyData.canLayAll0,PyData.depthAll,G,J,cJ,true_and];lia
theorem Gz:∀(n:Nat){d:PyData},nk n d->d.canLay0=true/\d.depth<=n+1
 | 0,d,h=>by
  rcases h with⟨i,rfl⟩ | ⟨x,rfl,G⟩
  .simp [PyData.canLay0,PyData.depth]
  .simp [PyData.canLay0,PyData.depth,G]
 | n+1,d,h=>by
  rcases h with⟨i,rfl⟩ | ⟨x,rfl,G⟩ | ⟨ds,rfl,J⟩
  .simp [PyData.canLay0,PyData.depth]
  .simp [PyData.canLay0,PyData.depth,G]
  .obtain⟨L,a2⟩:=LB (λ{d} h=>Gz n h) J;simp only [PyData.canLay0,PyData.depth,L,true_and];lia
theorem Xs{es:Array DictEntry}(hc:h.get? c=some ob)(hd:ob.data=.dict es ep)(sb:Heap.SameBut c h h'):∀(n:Nat){d:PyData}{v:Value}{as:List Addr},nk n d->Reads h v d as->∃as',Reads h' v d as'
 | 0,d,v,as,L,r=>by
  rcases L with⟨i,rfl⟩ | ⟨x,rfl,_⟩
  .cases r;exact⟨_,.int _ _⟩
  .cases r;exact⟨_,.str _ _⟩
 | n+1,d,v,as,L,r=>by
  rcases L with⟨i,rfl⟩ | ⟨x,rfl,_⟩ | ⟨ds,rfl,U⟩
  .cases r;exact⟨_,.int _ _⟩
  .cases r;exact⟨_,.str _ _⟩
  .cases r with
   | @tuple a o vs m xs as Y Z J M=>
   have ne:a≠c:=λz=>by
    subst z;rw [Y]at hc;obtain rfl:=aI hc;rw [J]at hd;cases hd
   have all:∀{G:List Value}{fs:List PyData}{as:List Addr},(∀e∈fs,nk n e)->ReadsAll h G fs as->∃as',ReadsAll h' G fs as':=by
    intro G fs as hn r
    induction G generalizing fs as with
    | nil=>cases r;exact⟨_,.nil⟩
    | cons u G ih=>
     cases r with
     | @cons _ _ f fs aa ab h1 h2=>
      obtain⟨as',q⟩:=Xs hc hd sb n (hn f aQ) h1;obtain⟨ac,q2⟩:=ih (λe he=>hn e (aV _ he)) h2;exact⟨_,.cons q q2⟩
   obtain⟨as',q⟩:=all U M;exact⟨_,.tuple (by rw [sb.2 a ne];exact Y) Z J q⟩
def ZS(prog:Program)(w:World):HeapKind prog w PyData where
 is h d a:=(∃as,Reads h (.ref a) d as)/\nk 6 d
 hash:=U4 w
 draws:=drD
 room A:=A.units+8<cLine
 inj:=λ⟨⟨as,r⟩,_⟩ ⟨⟨bs,q⟩,_⟩=>(r.unique _ _ q).1
 keeps:=λ⟨⟨as,r⟩,k⟩ hc hd sb=>⟨Xs hc hd sb 6 k r,k⟩
 pyHash:=λhr ⟨⟨as,r⟩,k⟩ q=>SO 6 k r (5:) q
 eqBool:=λ{A E s x y a b Q} hr ⟨⟨as,r⟩,k⟩ ⟨⟨bs,q⟩,l⟩ h=>by
  have e1:=Gz 6 k;have e2:=Gz 6 l;refine SeqAt.eqBoolOverData prog w A E s _ _ _ _ _ _ Q r q e1.1 e2.1 (by have:=Nat.min_le_left x.depth y.depth;lia) ?_;have:PyData.eqv x y=decide (x=y):=by
   by_cases e:x=y
   .rw [bO e,e];exact Yw _ e2.1
   .rw [bV e];cases z:PyData.eqv x y with
    | false=>rfl
    | true=>exact absurd (OF 6 k l z) e
  rw [this];exact h
 quiet:=λ⟨⟨as,r⟩,k⟩ q=>Ph 6 8 k r (11:) q
abbrev NKv:=List (PyData×Addr×V)
abbrev NT:NKv->List (PyData×Addr×Value)->Prop:=Paired λp q=>p.1=q.1/\p.2.1=q.2.1/\RelV p.2.2 q.2.2
def NdP(P:Program)(w:World)(a:Addr)(kvs:NKv)(h:Heap):Prop:=kvs.length<=sizeLine/\(a==sysModules)=false/\∃xs,NT kvs xs/\∃o es ep,h.get? a=some o/\o.ExactDict/\o.data=.dict es ep/\es.toList=xs.map (entryOfKey (ZS P w))/\(xs.map (·.1)).Nodup
def NdO(P:Program)(w:World)(a:Addr)(kvs:NKv):HO:=.ext (NdP P w a kvs)
theorem SX{kvs:NKv}(x:NdP P w a kvs h):ObjOk P w H h a (NdO P w a kvs):=by
 refine⟨x,?_,?_⟩
 .obtain⟨_,_,_,_,o,_,_,e,_⟩:=x;exact⟨o,e⟩
 .rintro h1 h2 ⟨G,J,xs,r,o,es,ep,e,c⟩ k;exact⟨G,J,xs,r,o,es,ep,k o e,c⟩
def YM(kvs:NKv)(d:PyData):Option V:=(kvs.find? λp=>decide (p.1=d)).map λp=>p.2.2
def W7(kvs:NKv)(d:PyData)(b:Addr)(v:V):NKv:=if(YM kvs d).isSome=true then kvs.map (λp=>if p.1=d then(p.1,p.2.1,v)else p)else kvs++[(d,b,v)]
theorem NT.val{kvs:NKv}{xs:List (PyData×Addr×Value)}(r:NT kvs xs)(k:PyData):RelO (YM kvs k) ((atKey xs k).map (·.2)):=by
 induction r with
 | nil=>exact cQ
 | @cons p q ps qs h t J=>
  obtain⟨h1,_,h2⟩:=h
  by_cases e:p.1=k
  .have G:q.1=k:=h1.symm.trans e;have b:atKey (q::qs) k=some q.2:=by simp [atKey,cI,G]
   have c:YM (p::ps) k=some p.2.2:=by simp [YM,cI,e]
   rw [c,b];exact h2
  .have G:¬q.1=k:=λz=>e (h1.trans z);have b:atKey (q::qs) k=atKey qs k:=by simp [atKey,cI,G]
   have c:YM (p::ps) k=YM ps k:=by simp [YM,cI,e]
   rw [c,b];exact J
theorem NT.repl{kvs:NKv}{xs:List (PyData×Addr×Value)}(r:NT kvs xs)(k:PyData)(ry:RelV y u):
 NT (kvs.map λp=>if p.1=k then(p.1,p.2.1,y)else p) (xs.map (putAt k u)):=by
 induction r with
 | nil=>exact .nil
 | @cons p q ps qs h t G=>
  rw [aR,aR];refine .cons ?_ G;obtain⟨h1,h2,J⟩:=h;unfold putAt
  by_cases e:p.1=k
  .rw [aH e,aH (h1.symm.trans e)];exact⟨h1,h2,ry⟩
  .rw [aG e,aG (λz=>e (h1.trans z))];exact⟨h1,h2,J⟩
theorem NT.put{kvs:NKv}{xs:List (PyData×Addr×Value)}(r:NT kvs xs)(k:PyData)(ry:RelV y u):NT (W7 kvs k b y) (storedH xs k b u):=by
 have e:(YM kvs k).isSome=(atKey xs k).isSome:=by rw [(r.val k).isSome_eq,Option.isSome_map]
 unfold W7 storedH;rw [e]
 by_cases q:(atKey xs k).isSome=true
 .rw [aH q,aH q];exact r.repl k ry
 .rw [aG q,aG q];exact Paired.snoc r ⟨rfl,rfl,ry⟩
theorem Vz(kvs:NKv)(d:PyData)(b:Addr)(v:V):(W7 kvs d b v).length<=kvs.length+1:=by
 unfold W7;split
 .rw [aE];lia
 .rw [bH];exact aZ _
def Xl(K:Fg)(H:Hp)(kvs:NKv):Prop:=∀p∈kvs,RdV K H (.ref p.2.1) p.1/\nk 6 p.1
section
variable{pins:List (10:)}{r:Value}{d:PyData}{kvs:NKv}{E:Value->Shared->Prop}
theorem Jm(I:Inv X pins σ H s)(hb:RdV X.K H (.ref b) d)(hk:nk 6 d):(ZS X.prog X.w).is s.heap d b:=by
 obtain⟨G,q⟩:=hb.reads I (u:=.ref b) rfl;exact⟨⟨G,q⟩,hk⟩
theorem YS(I:Inv X pins σ H s)(e:H a=some (NdO X.prog X.w a kvs))(hk:Xl X.K H kvs):kvs.length<=sizeLine/\(a==sysModules)=false/\∃xs,NT kvs xs/\s.heap.DictOfH (ZS X.prog X.w) a xs:=by
 obtain⟨⟨z,y,xs,J,o,es,ep,h1,h2,Y,L,M⟩,G⟩:=(show ObjOk X.prog X.w H s.heap a (NdO X.prog X.w a kvs)from I.hok a _ e);refine⟨z,y,xs,J,o,es,ep,h1,h2,Y,L,?_,M⟩;clear L M e z G
 induction J with
 | nil=>intro x hx;exact nomatch hx
 | @cons p q ps qs U t Z=>
  intro x hx;rcases aM.mp hx with e | hx
  .subst e;obtain⟨g1,g2⟩:=hk p aQ;rw [<-U.1,<-U.2.1];exact Jm I g1 g2
  .exact Z (λp hp=>hk p (aV _ hp)) x hx
theorem M4(hu:A.units+9<cLine)(I:Inv X pins σ H s)(e:H a=some (NdO X.prog X.w a kvs))(hk:Xl X.K H kvs)(hb:RdV X.K H (.ref b) d)(hd:nk 6 d)(l:YM kvs d=some v)(h:∀w' s',Inv X pins σ H s'->RelV v w'->Q w' s'):
 wpAny (6:) A (getItem (.ref a) (.ref b)) Q E s:=by
 obtain⟨z,Y,xs,G,M⟩:=YS I e hk;obtain⟨w',U,J⟩:=RelO.some_of (v:=v) (o:=(atKey xs d).map (·.2)) (by rw [<-l];exact G.val d);obtain⟨p,hp,L⟩:=cZ.mp U;refine wpAny_getItem_heap (knd:=ZS X.prog X.w) (show A.in1.units+8<cLine by show A.units+1+8<cLine;lia) (Jm I hb hd) M hp ?_;rw [L];exact h w' _ (I.tok _) J
theorem Rl(hu:A.units+9<cLine)(I:Inv X pins σ H s)(e:H a=some (NdO X.prog X.w a kvs))(hk:Xl X.K H kvs)(hb:RdV X.K H (.ref b) d)(hd:nk 6 d)(h:∀s',Inv X pins σ H s'->Q (.bool (!(YM kvs d).isSome)) s'):
 wpAny (6:) A (compareOp .NotIn (.ref b) (.ref a)) Q E s:=by
 obtain⟨z,J,xs,G,L⟩:=YS I e hk;refine wpAny_notIn_heap (knd:=ZS X.prog X.w) (show A.in1.units+8<cLine by show A.units+1+8<cLine;lia) (Jm I hb hd) J L ?_;have q:=(G.val d).isSome_eq;rw [Option.isSome_map]at q;rw [<-q];exact h _ (I.tok _)
theorem Mv{Q:Unit->Shared->Prop}(hu:A.units+9<cLine)(I:Inv X pins σ H s)(e:H a=some (NdO X.prog X.w a kvs))(hk:Xl X.K H kvs)(hb:RdV X.K H (.ref b) d)(hd:nk 6 d)(hl:kvs.length<sizeLine)(rv:RelV v r)(h:∀s',Inv X pins σ (upd H a (NdO X.prog X.w a (W7 kvs d b v))) s'->Q () s'):
 wpAny (6:) A (setItem (.ref a) (.ref b) r) Q E s:=by
 obtain⟨z,M,xs,G,U⟩:=YS I e hk;have hz:xs.length<=sizeLine:=by rw [<-eh G];exact z
 refine wpAny_setItem_heap (hsz:=hz) (knd:=ZS X.prog X.w) (show A.in1.units+8<cLine by show A.units+1+8<cLine;lia) (Jm I hb hd) U λh' J Y=>h _ ?_;obtain⟨q,es,ep,L,h2,Z,h4,_,h5⟩:=J;refine Jf I (by rw [e];exact cQ) Y ⟨q,L⟩ (SX ⟨?_,M,_,G.put d rv,q,es,ep,L,h2,Z,h4,h5⟩);have:=Vz kvs d b v;lia
end
def Bk(P:Program)(w:World)(K:Fg)(td ty:TE):TE:=λσ H Q=>td σ H λx H1=>ty σ H1 λy H2=>∃a b kvs d v,x=.ref a/\y=.ref b/\H2 a=some (NdO P w a kvs)/\Xl K H2 kvs/\RdV K H2 (.ref b) d/\nk 6 d/\YM kvs d=some v/\Q v H2
def Sy(P:Program)(w:World)(K:Fg)(ty td:TE):TE:=λσ H Q=>ty σ H λy H1=>td σ H1 λx H2=>∃a b kvs d,x=.ref a/\y=.ref b/\H2 a=some (NdO P w a kvs)/\Xl K H2 kvs/\RdV K H2 (.ref b) d/\nk 6 d/\Q (.bl (!(YM kvs d).isSome)) H2
def Bp(P:Program)(w:World)(K:Fg)(td ty tv:TE):TS:=λD σ H=>tv σ H λv H1=>td σ H1 λx H2=>ty σ H2 λy H3=>∃a b kvs d,x=.ref a/\y=.ref b/\H3 a=some (NdO P w a kvs)/\Xl K H3 kvs/\RdV K H3 (.ref b) d/\nk 6 d/\kvs.length<sizeLine/\D.nx σ (upd H3 a (NdO P w a (W7 kvs d b v)))
def CI(P:Program)(w:World):TE:=λ_ H Q=>∀p,H p=none->Q (.ref p) (upd H p (NdO P w p []))
section
variable{o i:Expr}{td ty:TE}
theorem SN(hu:X.A.units+9<cLine)(ho:PE X o td)(hi:PE X i ty)(hs:BB i):PE X (.Subscript o i pos) (Bk X.prog X.w X.K td ty):=by
 intro pins s σ H Q I h;refine P1 PySem.F.slot_dict_getitem.lookup hs (thn (ho pins s σ H _ I h) λu M ⟨x,H1,U,Y,Z⟩=>thn (hi pins M σ H1 _ U Z) λiv s2 ⟨y,H2,G,ry,a,b,kvs,d,v,ex,ey,e,J,hb,hd,l,q2⟩=>?_);subst ex ey;obtain rfl:u=Value.ref a:=Y;obtain rfl:iv=Value.ref b:=ry;obtain⟨_,_,xs,_,dd⟩:=YS G e J;exact⟨dd.typeIs,M4 hu G e J hb hd l λw' s3 I3 L=>⟨v,H2,I3,L,q2⟩⟩
theorem M7(hu:X.A.units+9<cLine)(hi:PE X i ty)(ho:PE X o td):PC X .NotIn i o (Sy X.prog X.w X.K ty td):=by
 intro pins s σ H Q I h;refine thn (hi pins s σ H _ I h) λG J ⟨y,H1,L,M,U⟩=>thn (ho pins J σ H1 _ L U) λu s2 ⟨x,H2,Y,Z,a,b,kvs,d,ex,ey,e,hk,hb,hd,q2⟩=>?_;subst ex ey;obtain rfl:u=Value.ref a:=Z;obtain rfl:G=Value.ref b:=M;exact Rl hu Y e hk hb hd λs3 I3=>⟨.bl _,H2,I3,rfl,q2⟩
theorem Rt(hu:X.A.units+9<cLine)(ho:PE X o td)(hi:PE X i ty)(hv:PE X value tv)(hs:swapsWith value (some (.Subscript o i pos')) pos.line X.env=pure false):
 PS X (.Assign [.Subscript o i pos'] value pos) (Bp X.prog X.w X.K td ty tv):=by
 intro pins s σ H D I h;refine wpAny_Assign_Subscript (thn (hv pins s σ H _ I h) λr G ⟨v,H1,J,L,M⟩=>thn (ho pins G σ H1 _ J M) λu U ⟨x,H2,Y,Z,q2⟩=>thn (hi pins U σ H2 _ Y q2) λiv s3 ⟨y,H3,I3,ry,a,b,kvs,d,ex,ey,e,hk,hb,hd,hl,q3⟩=>?_) hs;subst ex ey;obtain rfl:u=Value.ref a:=Z;obtain rfl:iv=Value.ref b:=ry;exact Mv hu I3 e hk hb hd hl L λs4 I4=>⟨σ,_,I4,q3⟩
theorem Ss:PE X (.Dict [] [] pos) (CI X.prog X.w):=λpins s σ H Q I h=>
 wpAny_Dict_empty ⟨.ref s.heap.objs.size,_,I.laid (a:=s.heap.objs.size) (o:=NdO X.prog X.w s.heap.objs.size []) (t':=s.toks) (λ_ _ q=>aN _ q) (4:) (SX ⟨bN _,dZ.mpr (aW (bD I.big)),[],.nil,_,#[],0,bE _ rfl,⟨rfl,rfl,rfl⟩,rfl,rfl,fh⟩),rfl,h _ (I.hok.fresh (4:))⟩
end
namespace LD
theorem call_lenN:Q6 X (.builtin "len") (λxs H Q=>∃(d:Addr)(kvs:NKv),xs=[.ref d]/\H d=some (NdO X.prog X.w d kvs)/\Xl X.K H kvs/\Q (.int (kvs.length:Int)) H):=by
 intro pins s σ H xs us Q I M h;obtain⟨d,kvs,rfl,U,Y,q⟩:=h;obtain⟨u,rfl,Z⟩:=LO M;cases Z;obtain⟨z,lo,ys,J,hD⟩:=YS I U Y;have L:=eh J;obtain⟨o,ents,ep,g1,g2,g3,g4,g5,g6⟩:=hD;have G:ents.size=kvs.length:=by rw [Xr g4,aE,L]
 have hl:=UJ;exact Xm lo ⟨o,g1,g2,g3⟩ (by rw [G];lia) ⟨.int (kvs.length:Int),H,(I.tok _).tok _,⟨s.toks+1,by rw [G]⟩,q⟩
end LD
end L2
namespace L2
namespace LD
open PySem PySem.Spec PyProof.Rows PySem.W
theorem call_listN(hc:X.calm=true):Q6 X (.type "list") (λxs H Q=>∃(d:Addr)(kvs:NKv),xs=[.ref d]/\H d=some (NdO X.prog X.w d kvs)/\Xl X.K H kvs/\∀p,H p=none->Q (.ref p) (upd H p (.lst (kvs.map λt=>V.ref t.2.1)))):=by
 intro pins s σ H xs us Q I r h;obtain⟨d,kvs,rfl,U,Y,q⟩:=h;cases r with
 | cons r rr=>
  cases rr;obtain rfl:_=Value.ref d:=r;obtain⟨z,lo,ys,J,hD⟩:=YS I U Y;have M:=eh J;obtain⟨o,ents,ep,g1,g2,g3,Z,g5,g6⟩:=hD;have aa:ents.size=ys.length:=by rw [Xr Z,aE]
  have L:ents.toList.map (·.key)=kvs.map λt=>Value.ref t.2.1:=by
   rw [Z,bY];clear Z g5 g6 aa M z U q Y
   induction J with
   | nil=>rfl
   | @cons p y ps ys h t ih=>
    rw [aR,aR,ih,h.2.1]
    rfl
  refine PySem.W.kdl_call (JY (ents:=ents) (ep:=ep) lo) (I.ok.hd hc) ⟨o,g1,g2,g3⟩ (5:) λh1 tk acc c' keep new its=>?_;have e:acc.toList=ents.toList.map (·.key):=by
   refine gR λj=>?_;rw [aJ,fW,fW]
   by_cases hj:j<ents.size
   .have G:j<acc.size:=by rw [its.1];exact hj
    obtain⟨t,L,e2⟩:=its.2 j _ (eA G);rw [eA G,L,e2];rfl
   .have G:¬j<acc.size:=by rw [its.1];exact hj
    rw [eD (eR.mp G),eD (eR.mp hj)];rfl
  have ab:H s.heap.objs.size=none:=I.hok.fresh (4:);refine⟨.ref s.heap.objs.size,_,I.laid (t':=tk) (o:=.lst (kvs.map λt=>V.ref t.2.1)) keep (4:) ?_,rfl,q _ ab⟩;refine⟨by rw [aE];lia,acc.toList,c',?_,by rw [Array.toArray_toList];exact new⟩;rw [e,L];clear L Y q J M z U
  induction kvs with
  | nil=>exact .nil
  | cons t r ih=>exact .cons rfl ih
end LD
end L2
namespace K41
open PySem L2 TM TT ST
abbrev R5:Stmt:=top 8
abbrev Sl:Stmt:=top 9
abbrev sWM:Stmt:=top 12
abbrev PN(p:List Nat):List V:=p.map λ(i:Nat)=>V.int (i:Int)
def PrV(K:Fg)(H:Hp)(a:Addr)(q:Ky):Prop:=∃c,SqT K H a [.int q.1,.ref c]/\SqT K H c (PN q.2)
theorem PrV.mono{K:Fg}(k:∀a xs,SqT K H a xs->SqT K H' a xs)(h:PrV K H a q):PrV K H' a q:=by
 obtain⟨c,h1,h2⟩:=h;exact⟨c,k _ _ h1,k _ _ h2⟩
mutual
inductive TxV(K:Fg)(H:Hp):V->TX->Prop where
 | call {a p:Addr} {q:Ky} {b:Int}:SqT K H a [.str ZB,.ref p,.int b]->PrV K H p q->TxV K H (.ref a) (.node (.call q b) 0 [])
 | put {a b:Addr} {vs:List V} {ts:List TX} {n:Str} {k:Bool} {ad:Int}:SqT K H a [.str PUT,.str n,.bl k,.int ad,.ref b]->SqT K H b vs->TxAll K H vs ts->vs.length<=1000->TxV K H (.ref a) (.node (.put n k ad) 0 ts)
inductive TxAll(K:Fg)(H:Hp):List V->List TX->Prop where
 | nil:TxAll K H [] []
 | cons {v:V} {vs:List V} {t:TX} {ts:List TX}:TxV K H v t->TxAll K H vs ts->TxAll K H (v::vs) (t::ts)
end
mutual
theorem TxV.mono{K:Fg}{H H':Hp}(k:∀a xs,SqT K H a xs->SqT K H' a xs):∀{v:V}{t:TX},TxV K H v t->TxV K H' v t
 | _,_,.call h1 h2=>.call (k _ _ h1) (h2.mono k)
 | _,_,.put h1 h2 G J=>.put (k _ _ h1) (k _ _ h2) (TxAll.mono k G) J
theorem TxAll.mono{K:Fg}{H H':Hp}(k:∀a xs,SqT K H a xs->SqT K H' a xs):∀{vs:List V}{ts:List TX},TxAll K H vs ts->TxAll K H' vs ts
 | _,_,.nil=>.nil
 | _,_,.cons h t=>.cons (TxV.mono k h) (TxAll.mono k t)
end
theorem TxAll.append{K:Fg}:∀{vs ws:List V}{ts us:List TX},TxAll K H vs ts->TxAll K H ws us->TxAll K H (vs++ws) (ts++us)
 | _,_,_,_,.nil,h=>h
 | _,_,_,_,.cons a t,h=>.cons a (TxAll.append t h)
theorem TxAll.length{K:Fg}:∀{vs:List V}{ts:List TX},TxAll K H vs ts->vs.length=ts.length
 | _,_,.nil=>rfl
 | _,_,.cons _ t=>by rw [bK,bK,TxAll.length t]
theorem TxAll.get{K:Fg}:∀{vs:List V}{ts:List TX}{i:Nat}{t:TX},TxAll K H vs ts->ts[i]?=some t->∃v,vs[i]?=some v/\TxV K H v t
 | _,_,_,_,.nil,e=>by simp at e
 | _,_,0,_,.cons h _,e=>by simp at e;subst e;exact⟨_,rfl,h⟩
 | _,_,i+1,t,.cons _ r,e=>by
  obtain⟨v,h1,h2⟩:=TxAll.get (i:=i) (t:=t) r (by simpa using e);exact⟨v,by simpa using h1,h2⟩
theorem Jk{K:Fg}{t:TX}(h:TxV K H v t):(∃a p q b,v=.ref a/\t=.node (.call q b) 0 []/\SqT K H a [.str ZB,.ref p,.int b]/\PrV K H p q) \/
 ∃a b vs n k ad,v=.ref a/\t=.node (.put n k ad) 0 t.bs/\SqT K H a [.str PUT,.str n,.bl k,.int ad,.ref b]/\SqT K H b vs/\TxAll K H vs t.bs/\vs.length<=1000:=by
 cases h with
 | call h1 h2=>exact .inl ⟨_,_,_,_,rfl,rfl,h1,h2⟩
 | put h1 h2 G J=>exact .inr ⟨_,_,_,_,_,_,rfl,rfl,h1,h2,G,J⟩
theorem XC(ts:List TX)(c:TX):QU (ts++[c])=QU ts++clX c:=by
 induction ts with
 | nil=>simp [QU]
 | cons t r G=>rw [fb,QU,QU,G,e_]
mutual
theorem XX:∀t:TX,(clX t).length<=sz t
 | .node (.call q b) _ bs=>by rw [clX,sz];simp
 | .node (.put n k a) _ bs=>by rw [clX,sz];have:=JK bs;lia
theorem JK:∀ts:List TX,(QU ts).length<=szs ts
 | []=>by rw [QU,szs];exact aZ _
 | t::r=>by rw [QU,szs,bH];have:=XX t;have:=JK r;lia
end
inductive SumL(K:Fg)(p:Addr)(H:Hp)(Q:VK):Prop where
 | s (ns:List Int) (h:SqL K H p (ns.map V.int)) (k:Q (.int ns.sum) H):SumL K p H Q
def Pz(K:Fg)(vs:List V)(H:Hp)(Q:VK):Prop:=match vs with
 | [.ref p]=>SumL K p H Q
 | _=>False
theorem MI(X:Cx)(hc:X.calm=true):Q6 X (.builtin "sum") (Pz X.K):=by
 intro pins s σ H xs G Q I r h;unfold Pz at h;split at h
 .cases h with
  | s J L k=>exact M5 hc pins s σ H _ G Q I r ⟨_,J,rfl,L,k⟩
 .exact h.elim
theorem DH{K:Fg}{k:Nat}(c:G3.Cxt X P w K mg base k){id:String}(hc:∀X:Cx,X.calm=true->Q6 X (.builtin id) (r X.K))(hm:mg x=none)(hv:bootBuiltins x=some (.builtin id))(hn:x≠"__name__":=by decide):G3.CallOk X x (λ_ vs H Q=>r K vs H Q):=by
 obtain⟨rfl,rfl,rfl,rfl,rfl,J,G⟩:=c;exact .blt (hc X G) hm hv hn
def BI(K:Fg):G3.Mr:=⟨tyV K "list",G6⟩
theorem Oy(X:Cx):G3.MethOk X "extend" (BI X.K):=.bm cR gW gX UD
theorem at0(x:V)(r:List V):atI (x::r) 0=some x:=Qq (j:=0) rfl
def Zz(K:Fg):Sp:=λvs H Q _=>∃(a:Addr)(s:Str)(r:List V),vs=[.ref a]/\SqT K H a (.str s::r)/\Q (.bl (decide (s=ZB))) H
def C1:List G3.S:=[.ret (.cmp .Eq (.ix (.v 0) (.k (.int 0))) (.k (.str "call")))]
def Br(K:Fg):G3.En:=⟨K,[],[],[],[]⟩
def Gq(K:Fg):Sp:=λvs H Q _=>∃(a l:Addr)(ws:List V)(z n k ad y:V),vs=[.ref a,.ref l]/\SqT K H a [z,n,k,ad,y]/\SqL K H l ws/\
 ∀(p b:Addr)(H':Hp),Same H H'->SqT K H' p [.str PUT,n,k,ad,.ref b]->SqT K H' b ws->Q (.ref p) H'
def cWP:List G3.S:=[.ret (.tup [.k (.str "put"),.ix (.v 0) (.k (.int 1)),.ix (.v 0) (.k (.int 2)),.ix (.v 0) (.k (.int 3)),.call 0 [.v 1]])]
def nWP(K:Fg):G3.En:=⟨K,[λ_ vs H Q=>G3.rTupOf K vs H Q],[],[],[]⟩
def Gy(K:Fg)(n:Nat):Sp:=λvs H Q _=>∃(v:V)(t:TX),vs=[v]/\TxV K H v t/\lv t<=n/\∀(H':Hp),Same H H'->Q (.int (sz t:Int)) H'
def cSz:List G3.S:=[.ite (.call 0 [.v 0]) [.ret (.k (.int 1))] [],.ret (.bin .Add (.k (.int 1)) (.call 1 [.comp 2 (.ix (.v 0) (.k (.int 4))) [] (.call 2 [.v 0])]))]
def nSz(K:Fg)(n:Nat):G3.En:=⟨K,[λ_ vs H Q=>Zz K vs H Q E0,λ_ vs H Q=>Pz K vs H Q,λ_ vs H Q=>Gy K n vs H Q E0],[],[],[]⟩
abbrev TsT:=Addr×Addr×Ky×Int
abbrev RfX(ts:List TsT):List V:=ts.map λt=>V.ref t.1
def TsX(K:Fg)(H:Hp)(ts:List TsT):Prop:=∀t∈ts,SqT K H t.1 [.ref t.2.1,.int t.2.2.2]/\PrV K H t.2.1 t.2.2.1
theorem TsX.mono{K:Fg}{ts:List TsT}(h:TsX K H ts)(k:∀a xs,SqT K H a xs->SqT K H' a xs):TsX K H' ts:=λt G=>⟨k _ _ (h t G).1,(h t G).2.mono k⟩
def VW(K:Fg)(n:Nat):Sp:=λvs H Q _=>∃(v:V)(t:TX),vs=[v]/\TxV K H v t/\lv t<=n/\sz t<=1000/\
 ∀(l:Addr)(H':Hp)(ts:List TsT),Same H H'->H l=none->H' l=some (.lst (RfX ts))->TsX K H' ts->ts.map (·.2.2)=clX t->Q (.ref l) H'
def cCX:List G3.S:=[.ite (.call 0 [.v 0]) [.ret (.lst [.tup [.ix (.v 0) (.k (.int 1)),.ix (.v 0) (.k (.int 2))]])] [],.set 1 (.lst []),.forT 2 (.ix (.v 0) (.k (.int 4))) [.ex (.meth 0 (.v 1) [.call 1 [.v 2]])],.ret (.v 1)]
def nCX(K:Fg)(n:Nat):G3.En:=⟨K,[λ_ vs H Q=>Zz K vs H Q E0,λ_ vs H Q=>VW K n vs H Q E0],[BI K],[],[]⟩
section
variable{K:Fg}
theorem OR:FnScope ["term"] ["term"] (defScope Mn):=(0:)
theorem Al(F:Fun K "is_call" "is_call" Mn f fd)(G:Gm mg):FnOk P w K mg base CX0 1 f fd ["term"] (Zz K):=by
 refine G3.Fun.okC F OR (Br K) C1 (λX c=>⟨.nil,.nil,.nil⟩) (7:) (λH vs Q E h=>?_) G.rng
 .obtain⟨a,s,r,rfl,_⟩:=h
  rfl
 obtain⟨a,s,r,rfl,h1,q⟩:=h;exact .t _ _ h1 (at0 _ _) q
theorem CT:FnScope ["term","parts"] ["term","parts"] (defScope sWP):=(0:)
theorem BK(F:Fun K "with_parts" "with_parts" sWP f fd)(G:Gm mg):FnOk P w K mg base CX0 1 f fd ["term","parts"] (Gq K):=by
 refine G3.Fun.okC F CT (nWP K) cWP (λX c=>⟨.cons (c.ty (λ_=>G3.call_tupOf) G.tup cS) .nil,.nil,.nil⟩) (7:) (λH vs Q E h=>?_) G.rng
 .obtain⟨a,l,J,z,n,k,M,y,rfl,_⟩:=h
  rfl
 obtain⟨a,l,J,z,n,k,M,y,rfl,h1,h2,q⟩:=h;exact .t _ _ h1 rfl<| .t _ _ h1 rfl<| .t _ _ h1 rfl<| .l J h2 λb X1 k1 U=>⟨λp Y L Z _=>q p b Y (k1.trans L) Z (L.seqT U)⟩
theorem Dg:FnScope ["term"] ["term"] (defScope R5):=(0:)
theorem CB(F:Fun K "term_size" "term_size" R5 f fd)(G:Gm mg)(RC:Fn P w K mg base 1 "is_call" ["term"] (Zz K))(R:Fn P w K mg base (n+1) "term_size" ["term"] (Gy K n)):FnOk P w K mg base CX0 (n+2) f fd ["term"] (Gy K (n+1)):=by
 refine G3.Fun.okC F Dg (nSz K n) cSz (λX c=>⟨.cons (c.fn RC (5:)) (.cons (DH c MI G.sum PyProof.Rows.boot_sum) (.cons (c.fn R (4:)) .nil)),.nil,.nil⟩) (7:) (λH vs Q E h=>?_) G.rng
 .obtain⟨v,t,rfl,_⟩:=h
  rfl
 obtain⟨v,t,rfl,ht,L,q⟩:=h;rcases Jk ht with⟨a,p,k,b,rfl,rfl,h1,hp⟩ | ⟨a,b,bs,nm,k,ad,rfl,et,h1,h2,M,h4⟩
 .exact⟨a,ZB,_,rfl,h1,q H λ_ _ e=>e⟩
 refine⟨a,PUT,_,rfl,h1,?_⟩;have aa:=M.length;rw [Zl]at L;refine .t _ _ h1 rfl<| .t bs h2<| .s (λi ys H1=>ys=((t.bs.take i).map λu=>V.int (sz u:Int))) (λH1 g=>rfl) (λacc i ys l H1 H2 h _ _ _ k=>h) (5:) (λi ys H1 hi _ g h=>?_) λp ys H1 g hp h=>?_
 .have J:=aD (show i<t.bs.length by lia);obtain⟨U,Y,Z⟩:=M.get J;have ex:(bs[i]?).getD .non=U:=by rw [Y];rfl
  rw [ex];have:=Zt (aL J);refine⟨U,_,rfl,Z.mono λ_ _=>g.seqT,by lia,λH2 g2=>⟨g2,?_⟩⟩;rw [h,bF,J,aT];rfl
 rw [bR (5:)]at h;have es:(sz t:Int)=1+(t.bs.map λu=>(sz u:Int)).sum:=by
  rw [NU];have:∀l:List TX,((szs l:Nat):Int)=(l.map λu=>(sz u:Int)).sum:=λl=>by
   induction l with
   | nil=>rfl
   | cons x r ih=>simp only [szs,aR,List.sum_cons,<-ih];lia
  rw [<-this];lia
 refine .s (t.bs.map λu=>(sz u:Int)) (by rw [bY];rw [h]at hp;exact SqL.of hp) ?_;show Q (.int (1+_)) H1;rw [<-es];exact q H1 g
theorem RY{k:Nat}:FnOk P w K mg base CX0 k f fd ["term"] (Gy K 0):=by
 have G:∀vs H Q E,¬Gy K 0 vs H Q E:=λvs H Q E h=>by
  obtain⟨v,t,_,_,J,_⟩:=h;rw [Zl]at J;lia
 exact(14:)
theorem OQ(F:Fun K "term_size" "term_size" R5 f fd)(G:Gm mg)(RC:Fn P w K mg base 1 "is_call" ["term"] (Zz K))(hb:Binds K fd ["term"] [])(hm:mg "term_size"=some (.ref f)):∀n:Nat,FnOk P w K mg base CX0 (n+1) f fd ["term"] (Gy K n)
 | 0=>RY
 | n+1=>CB F G RC ⟨f,fd,OQ F G RC hb hm n,hb,F.kp,hm⟩
theorem Dm:FnScope ["term","told","part"] ["term"] (defScope sCO):=(0:)
theorem Cl(F:Fun K "calls_of" "calls_of" sCO f fd)(G:Gm mg)(RC:Fn P w K mg base 1 "is_call" ["term"] (Zz K))(R:Fn P w K mg base (n+1) "calls_of" ["term"] (VW K n)):FnOk P w K mg base CX0 (n+2) f fd ["term"] (VW K (n+1)):=by
 refine G3.Fun.okC F Dm (nCX K n) cCX (λX c=>⟨.cons (c.fn RC (5:)) (.cons (c.fn R (4:)) .nil),.cons (c.meth Oy) .nil,.nil⟩) (7:) (λH vs Q E h=>?_) G.rng
 .obtain⟨v,t,rfl,_⟩:=h
  rfl
 obtain⟨v,t,rfl,ht,ae,af,q⟩:=h;rcases Jk ht with⟨a,p,k,b,rfl,rfl,h1,hp⟩ | ⟨a,b,bs,nm,k,ad,rfl,et,h1,h2,h3,h4⟩
 .refine⟨a,ZB,_,rfl,h1,.t _ _ h1 rfl<| .t _ _ h1 rfl ⟨λp1 X1 k1 d1 _=>⟨λl X2 k2 d2 n2=>q l X2 [(p1,p,k,b)] (k1.trans k2) (k1.free n2) d2 (λx L=>?_) rfl⟩⟩⟩;rw [bM.mp L];exact⟨k2.seqT d1,hp.mono λ_ _=>(k1.trans k2).seqT⟩
 have ac:clX t=QU t.bs:=by
  have:=congrArg clX et;rw [this];simp [clX]
 refine⟨a,PUT,_,rfl,h1,?_⟩;have ak:=h3.length;rw [Zl]at ae;rw [NU]at af;rw [ac]at q;refine⟨λl H0 g0 e0 n0=>.t _ _ (g0.seqT h1) rfl<| .f bs (λi σ H'=>∃(J:List TsT)(c2:Option V),σ=[some (.ref a),some (.ref l),c2]/\Same H H'/\H' l=some (.lst (RfX J))/\TsX K H' J/\J.map (·.2.2)=QU (t.bs.take i)) ⟨[],none,rfl,g0,e0,λx L=>(nomatch L),by simp [QU]⟩ ?_ ?_ ?_⟩
 .rintro i σ H' _ ⟨J,c1,_,g,_⟩;exact g.seqT h2
 .rintro i x σ H' L ⟨J,c2,rfl,g,U,Y,M⟩;have hi:i<bs.length:=(aU.mp L).1;obtain⟨c,hc⟩: ∃c,t.bs[i]?=some c:=⟨_,aD (5:)⟩;obtain⟨cv,ag,ah⟩:=h3.get hc;obtain rfl:cv=x:=aI (ag.symm.trans L);have hm:=aL hc;have a1:=Zt hm;have a2:=PH hm;refine⟨G3.tyL U,cv,c,rfl,ah.mono λ_ _=>g.seqT,by lia,by lia,λlb Hb ab gb al ai aj Z=>?_⟩;have aa:=gb _ _ U;have tl:J.length<=szs t.bs:=by
   have e:=congrArg List.length M;rw [aE]at e;have h5:=JK (t.bs.take i);have am:=O1 t.bs i;lia
  have an:ab.length<=sz c:=by
   have e:=congrArg List.length Z;rw [aE]at e;have h5:=XX c;lia
  refine⟨l,lb,_,_,rfl,rfl,aa,ai,by rw [aE,aE];exact Z9 (5:),J++ab,_,rfl,λx u e=>?_,by rw [Qb];simp,λx L=>?_,?_⟩
  .rw [Qh (Qg e n0)];exact gb _ _ (g _ _ e)
  .rcases aY.mp L with z | z
   .exact((Y.mono λ_ _=>gb.seqT).mono λ_ _ h=>h.put aa) x z
   .exact(aj.mono λ_ _ h=>h.put aa) x z
  .rw [aT,M,Z,bF,hc];show _=(QU (t.bs.take i++[c]));rw [XC]
 .rintro σ H' ⟨J,c2,rfl,g,U,Y,M⟩;rw [bR (5:)]at M;exact q l H' J g n0 U Y M
theorem Sn{k:Nat}:FnOk P w K mg base CX0 k f fd ["term"] (VW K 0):=by
 have G:∀vs H Q E,¬VW K 0 vs H Q E:=λvs H Q E h=>by
  obtain⟨v,t,_,_,J,_⟩:=h;rw [Zl]at J;lia
 exact(14:)
theorem OK(F:Fun K "calls_of" "calls_of" sCO f fd)(G:Gm mg)(RC:Fn P w K mg base 1 "is_call" ["term"] (Zz K))(hb:Binds K fd ["term"] [])(hm:mg "calls_of"=some (.ref f)):∀n:Nat,FnOk P w K mg base CX0 (n+1) f fd ["term"] (VW K n)
 | 0=>Sn
 | n+1=>Cl F G RC ⟨f,fd,OK F G RC hb hm n,hb,F.kp,hm⟩
end
end K41
namespace L2
open PySem
section
variable{κ:Type} [DecidableEq κ]
theorem Pa{kvs:List (κ×V)}{k:κ}:(k,v)∈putK kvs k v:=by
 unfold putK;split
 .rename_i h;obtain⟨q,G,e⟩:=List.any_eq_true.mp h;refine aK.mpr ⟨q,G,?_⟩;have e:=bJ e;simp [e]
 .exact cB _ aQ
theorem GB{kvs:List (κ×V)}{k:κ}{q:κ×V}(h:q∈putK kvs k v):q∈kvs\/q=(k,v):=by
 unfold putK at h;split at h
 .obtain⟨r,G,e⟩:=aK.mp h;split at e
  .rename_i J
   right;rw [<-e,J]
  .left;rw [<-e];exact G
 .rcases aY.mp h with h | h
  .exact .inl h
  .exact .inr (by simpa using h)
theorem WY{kvs:List (κ×V)}{k:κ}{j:κ}(h:j∈kvs.map (·.1)):j∈(putK kvs k v).map (·.1):=by
 obtain⟨q,G,rfl⟩:=aK.mp h;unfold putK;split
 .refine aK.mpr ⟨_,aK.mpr ⟨q,G,rfl⟩,?_⟩;split<;>simp_all
 .exact aK.mpr ⟨q,cT _ G,rfl⟩
theorem Xz{kvs:List (κ×V)}{k:κ}(h:(kvs.map (·.1)).Nodup):((putK kvs k v).map (·.1)).Nodup:=by
 unfold putK;split
 .rw [bY];have e:(kvs.map ((λp:κ×V=>p.1)∘λq=>if q.1=k then(q.1,v)else q))=kvs.map (·.1):=by
   refine fZ λq _=>?_;show(if q.1=k then(q.1,v)else q).1=q.1;split<;>rfl
  first | exact e ▸ h | (refine cast ?_ h;congr 1;refine fZ λq _=>?_;simp only [Function.comp];split<;>simp_all)
 .rename_i J;rw [aT,fH];refine⟨h,by simp,λa L b M=>?_⟩;have G:b=k:=by simpa using M
  subst G;intro e;subst e;obtain⟨q,U,Y⟩:=aK.mp L;exact J (List.any_eq_true.mpr ⟨q,U,by simp [Y]⟩)
end
theorem UP{α:Type} [DecidableEq α]:∀{l r:List α},l.Nodup->(∀x∈l,x∈r)->l.length<=r.length
 | [],_,_,_=>bN _
 | x::l,r,hn,hs=>by
  rw [fg]at hn;have h1:=hs x aQ;have h2:l.length<=(r.erase x).length:=UP hn.2 λy G=>by
   have J:=hs y (aV _ G);have ne:y≠x:=λe=>hn.1 (by rw [<-e];exact G);exact(List.mem_erase_of_ne ne).mpr J
  rw [List.length_erase_of_mem h1]at h2;have:=List.length_pos_of_mem h1;simp only [bK];lia
end L2
namespace L2
open PySem TM ST
structure OneAt(K:Fg)(x:Str)(z:Str):Prop where
 ex:∃(a:Addr)(od:Option Addr)(t:Tok)(n:Nat)(sl:Array (Option Value)),PySem.W.nsIn K mainGlobals x=some (some (.ref a))/\K.lookup a=some ⟨.type "tuple",od,.seq #[.str z t] n,sl⟩
theorem OneAt.mk'{K:Fg}{z:Str}{t:Tok}{sl:Array (Option Value)}(h:PySem.W.nsIn K mainGlobals x=some (some (.ref a)))(l:K.lookup a=some ⟨.type "tuple",od,.seq #[.str z t] n,sl⟩):OneAt K x z:=⟨a,od,t,n,sl,h,l⟩
theorem OneAt.at{K:Fg}{x z:Str}{h:Heap}{mg:Str->Option Value}(O:OneAt K x z)(X:K.In h)(G:h.Ns mainGlobals mg):∃a,mg x=some (.ref a)/\∀H:Hp,SqT K H a [.str z]:=by
 obtain⟨a,J,t,n,sl,h1,h2⟩:=O.ex;exact⟨a,dC X G h1,λH=>.inr ⟨_,_,n,h2,rfl,rfl,(by show 1<=sizeLine;decide),.cons ⟨t,rfl⟩ .nil⟩⟩
end L2
namespace K41c
open K41
open PySem L2 TM TT ST K9 K11
theorem MT{ks:List KdT}{kd:KdT}(hn:(ks.map λk=>k.2.1).Nodup)(hk:kd∈ks):ks.find? (λk=>decide (k.2.1=kd.2.1))=some kd:=by
 induction ks with
 | nil=>cases hk
 | cons u r J=>
  rw [aR,fg]at hn;rcases aM.mp hk with e | h
  .rw [cI,e];simp
  .have G:u.2.1≠kd.2.1:=λz=>hn.1 (by rw [z];exact aK.mpr ⟨kd,h,rfl⟩);rw [cI,bV G];exact J hn.2 h
abbrev sIsO:Stmt:=top 2
abbrev sHead:Stmt:=top 3
abbrev sMet:Stmt:=top 4
abbrev Mn:Stmt:=top 7
abbrev sCO:Stmt:=top 10
abbrev sRowsOf:Stmt:=top 19
def isO:Stp->Bool
 | .op=>true
 | .put _ _ _=>false
def spIsO(K:Fg):Sp:=λvs H Q _=>∃(v:V)(s:Stp),vs=[v]/\SV K H v s/\Q (.bl (isO s)) H
def V5(K:Fg):Sp:=λvs H Q _=>∃(v:V)(n:Str)(m:Int)(ps:List Stp),vs=[v]/\SV K H v (.put n m ps)/\∀(p:Addr)(H':Hp),Same H H'->SqT K H' p [.str n,.int m,.int (ps.length:Int)]->Q (.ref p) H'
def Uj(K:Fg)(n:Nat):Sp:=λvs H Q _=>∃(v1 v2:V)(a b:Stp),vs=[v1,v2]/\SV K H v1 a/\SV K H v2 b/\SOk a/\SOk b/\sl a<=n/\∀(v:V)(H':Hp),Same H H'->SV K H' v (met a b)->Q v H'
abbrev PI'(p:List Int):List V:=p.map V.int
theorem ZZ{K:Fg}{t:Tm}(h:TmV K H v t):(∃a m b,v=.ref a/\t=Uh m b/\SqT K H a [.str ZB,.int m,.int b]) \/
 ∃a b vs n k ad,v=.ref a/\t=.node (.put n k ad) 0 t.bs/\SqT K H a [.str PUT,.str n,.bl k,.int ad,.ref b]/\SqT K H b vs/\TmAll K H vs t.bs/\vs.length<=1000:=by
 cases h with
 | call h=>exact .inl ⟨_,_,_,rfl,rfl,h⟩
 | put h1 h2 G J=>exact .inr ⟨_,_,_,_,_,_,rfl,rfl,h1,h2,G,J⟩
def WO(K:Fg):Sp:=λvs H Q _=>∃(v:V)(t:Tm),vs=[v]/\TmV K H v t/\Q (.bl (isC (lab t))) H
abbrev Rf(ts:List (Addr×List Int)):List V:=ts.map λt=>V.ref t.1
def TsAt(K:Fg)(H:Hp)(ts:List (Addr×List Int)):Prop:=∀t∈ts,SqT K H t.1 (PI' t.2)
theorem TsAt.mono{K:Fg}(h:TsAt K H ts)(k:∀a xs,SqT K H a xs->SqT K H' a xs):TsAt K H' ts:=λt G=>k _ _ (h t G)
theorem TsAt.app{K:Fg}{us:List (Addr×List Int)}(h:TsAt K H ts)(k:TsAt K H us):TsAt K H (ts++us):=λt G=>by
 rcases aY.mp G with z | z
 .exact h t z
 .exact k t z
def pr(c:Int×Int):List Int:=[c.1,c.2]
def L7(K:Fg)(n:Nat):Sp:=λvs H Q _=>∃(v:V)(t:Tm),vs=[v]/\TmV K H v t/\lv t<=n/\sz t<=1000/\
 ∀(l:Addr)(H':Hp)(ts:List (Addr×List Int)),Same H H'->H l=none->H' l=some (.lst (Rf ts))->TsAt K H' ts->ts.map (·.2)=(cls t).map pr->Q (.ref l) H'
def WG(K:Fg):Sp:=λvs H Q _=>∃(w:Addr)(kind:Str)(ks:List KdT),vs=[.ref w,.str kind]/\WoodAt K H w ks/\WoodOk ks/\∀(lr:Addr)(H':Hp),Same H H'->RowsL K H' lr (Qt ks kind)->Q (.ref lr) H'
section
variable{K:Fg}
theorem BP:FnScope ["stump"] ["stump"] (defScope sIsO):=(0:)
theorem ok_isO(F:Fun K "is_open" "is_open" sIsO f fd):FnOk P w K mg base CX0 1 f fd ["stump"] (spIsO K):=by
 refine F.ok BP (7:) (λJ A outer s H vs Q E L h=>?_)
 .obtain⟨v,t,rfl,_⟩:=h
  rfl
 obtain⟨v,t,rfl,G,q⟩:=h;refine⟨_,(Qi (Ql (ZI ZG (2:) Zi (Qx _)))),?_⟩;rcases Uu G with⟨a,rfl,rfl,h1⟩ | ⟨a,b,bs,n,m,ps,rfl,rfl,h1,h2,M⟩
 .refine⟨_,rfl,a,_,0,_,rfl,rfl,h1,rfl,rfl,?_⟩;have e:decide (V.str YY=V.str YY)=true:=bO rfl;show Q (.bl (decide (V.str YY=V.str YY))) H;rw [e];exact q
 .refine⟨_,rfl,a,_,0,_,rfl,rfl,h1,rfl,rfl,?_⟩;have e:decide (V.str W6=V.str YY)=false:=by decide+kernel
  show Q (.bl (decide (V.str W6=V.str YY))) H;rw [e];exact q
theorem Tn:FnScope ["stump"] ["stump"] (defScope sHead):=(0:)
theorem ok_head(F:Fun K "head" "head" sHead f fd)(G:Gm mg):FnOk P w K mg base CX0 1 f fd ["stump"] (V5 K):=by
 refine F.ok Tn (7:) (λM A outer s H vs Q E U h=>?_)
 .obtain⟨v,n,m,ps,rfl,_⟩:=h
  rfl
 obtain⟨v,n,m,ps,rfl,J,q⟩:=h;refine⟨_,(Qi (Ql (QB (Qa (2:) (Qa (2:) (Qa (Qn Qm rfl G.len bT (Qa (2:) Qc)) Qc)))))),?_⟩;cases J with
 | @put a b vs _ _ _ h1 h2 L=>
  refine⟨_,rfl,a,_,1,_,rfl,rfl,h1,rfl,_,rfl,a,_,2,_,rfl,rfl,h1,rfl,_,rfl,a,_,3,_,rfl,rfl,h1,rfl,b,vs,rfl,.inr h2,(by show 3<=sizeLine;decide),λp hp=>?_⟩;rw [L.length];exact q p _ (Qd hp _) (SqT.of Qb)
theorem Ct:FnScope ["one","other"] ["one","other"] (defScope sMet):=(0:)
theorem TW(F:Fun K "met" "met" sMet f fd)(G:Gm mg)(hO:mg "OPEN"=some (.ref oa))(hOA:∀H:Hp,SqT K H oa [.str YY])(RO:Fn P w K mg base 1 "is_open" ["stump"] (spIsO K))(RH:Fn P w K mg base 1 "head" ["stump"] (V5 K))(R:Fn P w K mg base (n+1) "met" ["one","other"] (Uj K n)):FnOk P w K mg base CX0 (n+2) f fd ["one","other"] (Uj K (n+1)):=by
 refine F.ok Ct (7:) (λar A outer s H vs Q E Z h=>?_)
 .obtain⟨v1,v2,a,b,rfl,_⟩:=h
  rfl
 obtain⟨v1,v2,sa,sb,rfl,ha,hb,aa,ab,ai,q⟩:=h;refine⟨_,(Qe (QK (PW.pt (pw_or (QF (Qp RO Z (Qa (pv 0) Qc) (dH 1 n))) (pw_or (QF (Qp RO Z (Qa (pv 1) Qc) (dH 1 n))) (pw_or1 (Qu X5 (Qp RH Z (Qa (pv 0) Qc) (dH 1 n)) (Qp RH Z (Qa (pv 1) Qc) (dH 1 n)) (Qx _)))))) (Qi (Ql (Uv (v:=.ref oa) rfl hO rfl))) Qs)
  (Qi (Ql (QB (Qa (Zi) (Qa (2:) (Qa (2:) (Qa (QO QV rfl G.tup cS (Qa (QM (CompG.many (xs:=["part","beside"]) (caps:=[]) (cap:=[]) (cs:=[]) rfl rfl (1:) (1:) (1:) (1:) (1:) (1:) rfl rfl rfl) rfl (Rk rfl G.zip (Qa (2:) (Qa (Qk Qj (pv 1) Qf (λ_ _=>rfl)) Qc))) (U7 (CompG.many (xs:=["part","beside"]) (caps:=[]) (cap:=[]) (cs:=[]) rfl rfl (1:) (1:) (1:) (1:) (1:) (1:) rfl rfl rfl) rfl) (λ_ _ _ _=>Ze) (λ_ _ _ _=>Qp R Z (Qa (pv 0) (Qa (pv 1) Qc)) (4:))) Qc)) Qc)))))))),?_⟩
 refine L2.let1 ?_
 intros
 refine⟨_,rfl,v1,sa,rfl,ha,_,rfl,?_⟩;rcases Uu ha with⟨a,rfl,rfl,h1⟩ | ⟨a,b,bs,nm,m,ps,rfl,rfl,h1,h2,h3⟩
 .refine Q4 (Q4 (q (.ref oa) H (Same.refl _) ?_));rw [UN];exact .op (hOA H)
 refine QS ⟨_,rfl,v2,sb,rfl,hb,_,rfl,?_⟩;rcases Uu hb with⟨a',rfl,rfl,k1⟩ | ⟨a',b',ag,ac,m',L,rfl,rfl,k1,k2,k3⟩
 .refine Q4 (Q4 (q (.ref oa) H (Same.refl _) ?_));rw [Z6];exact .op (hOA H)
 have l1:=h3.length;have l2:=k3.length;simp only [SOk]at aa ab;simp only [sl]at ai;refine QS ⟨_,rfl,_,nm,m,ps,rfl,ha,λp H1 g1 hp=>?_⟩;refine⟨_,rfl,_,ac,m',L,rfl,hb.mono λ_ _=>g1.seqT,λp2 H2 g2 aj=>?_⟩;have J:=g1.trans g2;obtain⟨ca,da⟩:=Pt aa.1 m ps.length;obtain⟨cb,db⟩:=Pt ab.1 m' L.length;refine⟨hd3 nm m ps.length,hd3 ac m' L.length,.tup (g2.seqT hp) (.cons (.str _) (.cons (.int _) (.cons (.int _) .nil))),.tup aj (.cons (.str _) (.cons (.int _) (.cons (.int _) .nil))),ca,cb,Z.fit (5:),_,rfl,?_⟩;rw [aH rfl,Rj];rw [Z4]at q
 by_cases hc:nm=ac/\m=m'/\ps.length=L.length
 .rw [bO hc];rw [aH hc]at q;refine QS ?_;refine⟨_,rfl,a,_,1,_,rfl,rfl,J.seqT h1,rfl,_,rfl,a,_,2,_,rfl,rfl,J.seqT h1,rfl,_,rfl,a,_,3,_,rfl,rfl,J.seqT h1,rfl,_,rfl,a',_,3,_,rfl,rfl,J.seqT k1,rfl,b,b',bs,ag,rfl,J.seqT h2,J.seqT k2,λacc ad=>?_⟩;refine SU (K:=K) (xs:=bs) (zs:=ag) (cs:=[]) (tt:=λ_ H Q=>Q true H) (te:=Ur (Uj K n) [] E0 (Q1 (ZL 0) (Q1 (ZL 1) YL))) (5:) (λi ys H'=>H' acc=some (.lst ys)/\Same H2 H'/\ys.length=i/\SAll K H' ys ((List.zipWith met ps L).take i))
   ⟨Qb,Qd ad _,rfl,.nil⟩ ?_ ?_ ?_
  .rintro i ys H' _ ⟨_,g,_⟩;exact⟨(J.trans g).seqT h2,(J.trans g).seqT k2⟩
  .rintro i u v pp ys H' hi hu hv ak ⟨ae,g,ah,U⟩;have Y:i<ps.length:=by lia
   have af:i<L.length:=by lia
   obtain⟨cv,al,am⟩:=h3.get (aD Y);obtain rfl:cv=u:=aI (al.symm.trans hu);obtain⟨dv,an,ao⟩:=k3.get (aD af);obtain rfl:dv=v:=aI (an.symm.trans hv);have gp:=Qd ak (.tup [cv,dv]);have gg:=J.trans (g.trans gp);have a1:=LZ (aO Y);refine Q4 ⟨_,rfl,_,rfl,cv,dv,ps[i],L[i],rfl,am.mono λ_ _=>gg.seqT,ao.mono λ_ _=>gg.seqT,(Yf ps).mp aa.2.2 _ (aO Y),(Yf L).mp ab.2.2 _ (aO af),by lia,λv4 H4 g4 ap=>?_⟩;have M:=g4 _ _ (gp _ _ ae);refine QA (ys:=ys) hi M (5:) ⟨Qb,λx u e=>?_,by simp [ah],?_⟩
   .rw [Qh (Qg e ad)];exact g4 _ _ (gp _ _ (g _ _ e))
   .rw [bF,fX,aD Y,aD af];exact SAll.append (U.mono λ_ _ h=>(g4.seqT (gp.seqT h)).put M) (.cons (ap.mono λ_ _ h=>h.put M) .nil)
  rintro ys H3 ⟨ae,g3,ah,U⟩;rw [bR (by rw [List.length_zipWith];lia)]at U;refine⟨acc,ys,rfl,.inl ⟨SqL.of ae,λt ht=>⟨(by show 4<=sizeLine;decide),λp3 aq=>?_⟩⟩⟩;have gA:=Qd ht (.tup ys);have gB:=Qd aq (.tup [.str W6,.str nm,.int m,.ref t]);refine q (.ref p3) _ (J.trans (g3.trans (gA.trans gB))) ?_;rw [Vp];exact .put (SqT.of Qb) (gB.seqT (SqT.of Qb)) (U.mono λ_ _=>(gA.trans gB).seqT)
 .rw [bV hc];rw [aG hc]at q;exact Q4 (q (.ref oa) _ J (.op (hOA _)))
theorem Op{k:Nat}:FnOk P w K mg base CX0 k f fd ["one","other"] (Uj K 0):=by
 have G:∀vs H Q E,¬Uj K 0 vs H Q E:=λvs H Q E h=>by
  obtain⟨L,M,a,b,_,_,_,_,_,U,_⟩:=h;have:=N5 a;lia
 exact⟨λvs H Q E h=>absurd h (G vs H Q E),λA outer s H J Y vs Q E _ _ _ _ h=>absurd h (G vs H Q E)⟩
theorem all_met(F:Fun K "met" "met" sMet f fd)(G:Gm mg)(hO:mg "OPEN"=some (.ref oa))(hOA:∀H:Hp,SqT K H oa [.str YY])(RO:Fn P w K mg base 1 "is_open" ["stump"] (spIsO K))(RH:Fn P w K mg base 1 "head" ["stump"] (V5 K))(hb:Binds K fd ["one","other"] [])(hm:mg "met"=some (.ref f)):∀n:Nat,FnOk P w K mg base CX0 (n+1) f fd ["one","other"] (Uj K n)
 | 0=>Op
 | n+1=>TW F G hO hOA RO RH ⟨f,fd,all_met F G hO hOA RO RH hb hm n,hb,F.kp,hm⟩
theorem OR:FnScope ["term"] ["term"] (defScope Mn):=(0:)
theorem ok_isC(F:Fun K "is_call" "is_call" Mn f fd):FnOk P w K mg base CX0 1 f fd ["term"] (WO K):=by
 refine F.ok OR (7:) (λL A outer s H vs Q E M h=>?_)
 .obtain⟨v,t,rfl,_⟩:=h
  rfl
 obtain⟨v,t,rfl,G,q⟩:=h;refine⟨_,(Qi (Ql (ZI ZG (2:) Zi (Qx _)))),?_⟩;rcases ZZ G with⟨a,m,b,rfl,rfl,h1⟩ | ⟨a,b,bs,n,k,U,rfl,J,h1,h2,Y,Z⟩
 .refine⟨_,rfl,a,_,0,_,rfl,rfl,h1,rfl,rfl,?_⟩;have e:decide (V.str ZB=V.str ZB)=true:=bO rfl;show Q (.bl (decide (V.str ZB=V.str ZB))) H;rw [e];exact q
 .refine⟨_,rfl,a,_,0,_,rfl,rfl,h1,rfl,rfl,?_⟩;have e:decide (V.str PUT=V.str ZB)=false:=by decide+kernel
  show Q (.bl (decide (V.str PUT=V.str ZB))) H;rw [J]at q;rw [e];exact q
theorem Tv:FnScope ["term","told","part"] ["term"] (defScope sCO):=(0:)
theorem BD(F:Fun K "calls_of" "calls_of" sCO f fd)(G:Gm mg)(RC:Fn P w K mg base 1 "is_call" ["term"] (WO K))(R:Fn P w K mg base (n+1) "calls_of" ["term"] (L7 K n)):FnOk P w K mg base CX0 (n+2) f fd ["term"] (L7 K (n+1)):=by
 refine F.ok Tv (7:) (λan A outer s H vs Q E hr h=>?_)
 .obtain⟨v,t,rfl,_⟩:=h
  rfl
 obtain⟨v,t,rfl,ht,af,ag,q⟩:=h;refine⟨_,(Qe (QK (QF (Qp RC hr (Qa (pv 0) Qc) (dH 1 n))) (Qi (Ql (Zm (Qa ((QB (Qa (2:) (Qa (2:) Qc)))) Qc)))) Qs)
  (Qe (Qv (i:=1) Tv.nd rfl (15:) (Zm Qc))
  (Qe (QJ bW rfl (Yu (2:)) (Qo (i:=2) Tv.nd rfl (15:))
   (Qi (Zb (YQ cR gW gX UD (pv 1) (Qa (Qp R hr (Qa (pv 2) Qc) (4:)) Qc)))))
  (Qi (Ql (pv 1)))))),?_⟩
 refine L2.let3 ?_
 intros
 refine⟨_,rfl,v,t,rfl,ht,_,rfl,?_⟩;rcases ZZ ht with⟨a,m,b,rfl,rfl,h1⟩ | ⟨a,b,bs,nm,k,ad,rfl,et,h1,h2,h3,h4⟩
 .refine Q4 ⟨_,rfl,a,_,1,_,rfl,rfl,h1,rfl,_,rfl,a,_,2,_,rfl,rfl,h1,rfl,(by show 2<=sizeLine;decide),λp hp=>⟨(by show 1<=sizeLine;decide),λl U=>?_⟩⟩;have g1:=Qd hp (.tup [.int m,.int b]);have g2:=Qd U (.lst [.ref p]);refine q l _ [(p,[m,b])] (g1.trans g2) (g1.free U) Qb (λx Y=>?_) rfl;have:x=(p,[m,b]):=by simpa using Y
  rw [this];exact g2.seqT (SqT.of Qb)
 have ae:cls t=Q7 t.bs:=by
  have:=congrArg cls et;rw [this];simp [cls,lcl]
 rw [et];refine QS ?_;have al:=h3.length;rw [Zl]at af;rw [NU]at ag;rw [ae]at q;refine⟨(by show 0<=sizeLine;decide),λl U=>?_⟩;have g0:=Qd U (.lst []);refine⟨_,rfl,a,_,4,_,rfl,rfl,g0.seqT h1,rfl,b,rfl,⟨_,g0.seqT h2⟩,?_⟩;refine Lb (K:=K) (xs:=bs) (λi σ H'=>∃(J:List (Addr×List Int))(c1:Option V),σ=[some (.ref a),some (.ref l),c1]/\Same H H'/\H' l=some (.lst (Rf J))/\TsAt K H' J/\J.map (·.2)=(Q7 (t.bs.take i)).map pr)
  ⟨[],none,rfl,g0,Qb,λx Y=>(nomatch Y),by simp [Q7]⟩ ?_ ?_ ?_
 .rintro i σ H' _ ⟨J,c1,_,g,_⟩;exact g.seqT h2
 .rintro i x σ H' Y ⟨J,c1,rfl,g,M,Z,L⟩;have hi:i<bs.length:=(aU.mp Y).1;obtain⟨c,hc⟩: ∃c,t.bs[i]?=some c:=⟨_,aD (5:)⟩;obtain⟨cv,ah,ai⟩:=h3.get hc;obtain rfl:cv=x:=aI (ah.symm.trans Y);have hm:=aL hc;have a1:=Zt hm;have a2:=PH hm;refine⟨_,rfl,.inl ⟨rfl,_,SqL.of M⟩,_,rfl,cv,c,rfl,ai.mono λ_ _=>g.seqT,by lia,by lia,λlb Hb ac gb am aj ak aa=>?_⟩;have ab:=gb _ _ M;have tl:J.length<=szs t.bs:=by
   have e:=congrArg List.length L;rw [aE,aE]at e;have h5:=JN (t.bs.take i);have ao:szs (t.bs.take i)<=szs t.bs:=by
    have e:=Jp (t.bs.take i++t.bs.drop i);rw [aT,List.sum_append,Jp,Jp,gM]at e;lia
   lia
  have ap:ac.length<=sz c:=by
   have e:=congrArg List.length aa;rw [aE,aE]at e;have h5:=GM c;lia
  refine⟨l,lb,_,_,rfl,rfl,ab,aj,?_,?_⟩
  .rw [aE,aE];exact Z9 (5:)
  refine⟨J++ac,_,rfl,λx u e=>?_,by rw [Qb];simp,?_,?_⟩
  .rw [Qh (Qg e U)];exact gb _ _ (g _ _ e)
  .exact(Z.mono λ_ _ h=>(gb.seqT h).put ab).app (ak.mono λ_ _ h=>h.put ab)
  .rw [aT,L,aa,bF,hc];show _=(Q7 (t.bs.take i++[c])).map pr;rw [Xv,aT]
 .rintro σ H' ⟨J,c1,rfl,g,M,Z,L⟩;rw [bR (5:)]at L;exact⟨_,rfl,q l H' J g U M Z L⟩
theorem Rb{k:Nat}:FnOk P w K mg base CX0 k f fd ["term"] (L7 K 0):=by
 have G:∀vs H Q E,¬L7 K 0 vs H Q E:=λvs H Q E h=>by
  obtain⟨v,t,_,_,J,_⟩:=h;rw [Zl]at J;lia
 exact(14:)
theorem all_co(F:Fun K "calls_of" "calls_of" sCO f fd)(G:Gm mg)(RC:Fn P w K mg base 1 "is_call" ["term"] (WO K))(hb:Binds K fd ["term"] [])(hm:mg "calls_of"=some (.ref f)):∀n:Nat,FnOk P w K mg base CX0 (n+1) f fd ["term"] (L7 K n)
 | 0=>Rb
 | n+1=>BD F G RC ⟨f,fd,all_co F G RC hb hm n,hb,F.kp,hm⟩
theorem PL:FnScope ["wood","kind"] ["wood","kind"] (defScope sRowsOf):=(0:)
theorem ok_rowsOf(F:Fun K "rows_of" "rows_of" sRowsOf f fd)(G:Gm mg):FnOk P w K mg base CX0 1 f fd ["wood","kind"] (WG K):=by
 refine F.ok PL (7:) (λab A outer s H vs Q E Z h=>?_)
 .obtain⟨w,J,ks,rfl,_⟩:=h
  rfl
 obtain⟨wd,J,ks,rfl,M,Y,q⟩:=h;refine⟨_,(Qi (Ql (NK (OX Z) (QO (Gu rfl) rfl G.dct PyProof.Rows.boot_dict (Qa (pv 0) Qc)) (pv 1) (Zm Qc) ⟨rfl,rfl,rfl,rfl⟩))),?_⟩;have aa:=Y.len;refine⟨_,rfl,wd,ks.map (λk=>(k.1,k.2.1,V.ref k.2.2.1)),rfl,(by rw [bY];exact M.1),λt U=>?_,(by rw [bY];exact Y.nd),(by rw [aE];lia),λd hd=>⟨d,rfl,.inl ⟨_,.inl Qb⟩,_,rfl,(by show 0<=sizeLine;decide),λp hp=>⟨_,DGet.k (k:=Sum.inr J) ((Qd hp _) _ _ Qb),?_⟩⟩⟩
 .obtain⟨k,hk,rfl⟩:=aK.mp U;exact(M.2 k hk).1
 .have g1:=Qd hd (.dK ((ks.map (λk=>(k.1,k.2.1,V.ref k.2.2.1))).map λt=>((Sum.inr t.2.1:Key),t.2.2)));have g2:=Qd hp (.lst []);have L:=g1.trans g2;have ev:UT ((ks.map (λk=>(k.1,k.2.1,V.ref k.2.2.1))).map λt=>((Sum.inr t.2.1:Key),t.2.2)) (Sum.inr J)=(ks.find? λk=>decide (k.2.1=J)).map λk=>V.ref k.2.2.1:=by
   rw [bY];exact Lv (λk:KdT=>k.2.1) (λk=>V.ref k.2.2.1) J ks
  rw [ev];unfold Qt at q;cases e:ks.find? λk=>decide (k.2.1=J)with
  | none=>
   rw [e]at q;exact q p _ L ⟨SqL.of Qb,λt U=>(nomatch U)⟩
  | some k=>
   rw [e]at q;exact q k.2.2.1 _ L ((M.2 k (gI e)).2.same L)
end
end K41c
namespace ST
open PySem TM TT
mutual
theorem Lc{cs:List (Int×Int)}{S:Int->Stp}{k:Nat}(hS:∀m,SOk (S m))(hk:∀m,sl (S m)<=k)(h1:1<=k):∀t:Tm,TDr cs t->SOk (rsT S t)/\sl (rsT S t)+1<=lv t+k
 | .node (.call m b) _ bs,_=>by simp only [rsT,lv];exact⟨hS m,by have:=hk m;lia⟩
 | .node (.put n kp a) _ bs,h=>by
  simp only [TDr]at h;obtain⟨i1,i2⟩:=NY hS hk h1 bs h.2.2;simp only [rsT,lv];cases kp with
  | true=>simp only [cD,SOk,sl];exact⟨trivial,by lia⟩
  | false=>
   simp only [cE,bU,SOk,sl,Uk];exact⟨⟨h.1,by have:=h.2.1;lia,i1⟩,by lia⟩
theorem NY{cs:List (Int×Int)}{S:Int->Stp}{k:Nat}(hS:∀m,SOk (S m))(hk:∀m,sl (S m)<=k)(h1:1<=k):∀bs:List Tm,Xh cs bs->Yi (ZU S bs)/\sls (ZU S bs)+1<=lvs bs+k
 | [],_=>by simp only [ZU,Yi,sls,lvs];exact⟨trivial,by lia⟩
 | b::r,h=>by
  simp only [Xh]at h;obtain⟨i1,i2⟩:=Lc hS hk h1 b h.1;obtain⟨i3,G⟩:=NY hS hk h1 r h.2;simp only [ZU,Yi,sls,lvs];exact⟨⟨i1,i3⟩,by lia⟩
end
def CallsIn(n:Nat)(t:Tm):Prop:=∀c∈cls t,0<=c.1/\c.1.toNat<n
theorem CallsIn.bs{n:Nat}{nm:Str}{k:Bool}{a mk:Int}{bs:List Tm}(h:CallsIn n (.node (.put nm k a) mk bs)):∀b∈bs,CallsIn n b:=λb hb c G=>by
 refine h c ?_;simp only [cls,lcl,dG];clear h
 induction bs with
 | nil=>cases hb
 | cons u r J=>
  simp only [Q7];rcases aM.mp hb with e | hb
  .rw [<-e];exact cT _ G
  .exact cB _ (J hb)
def Q3(rows:List L2.PNx)(ts:List Tm):List (Bool×Tm):=List.zipWith (λr t=>(r.2.2.2.isEmpty,t)) rows ts
end ST
namespace K41c
open K41
open PySem L2 TM TT ST K9 K11
abbrev sRS:Stmt:=top 26
abbrev sLS:Stmt:=top 25
def Xd(K:Fg)(n:Nat):Sp:=λvs H Q _=>∃(v:V)(ls:Addr)(us:List V)(S:List Stp)(t:Tm)(cs:List (Int×Int)),vs=[v,.ref ls]/\TmV K H v t/\TDr cs t/\lv t<=n/\SqL K H ls us/\SAll K H us S/\CallsIn S.length t/\
 ∀(v':V)(H':Hp),Same H H'->SV K H' v' (rsT (lookS S) t)->Q v' H'
def Rw(K:Fg):Sp:=λvs H Q _=>∃(wd lr:Addr)(ks:List KdT)(kd:KdT)(us:List V)(ts:List Tm),vs=[.ref wd,.str kd.2.1,.ref lr]/\WoodAt K H wd ks/\WoodOk ks/\kd∈ks/\SqL K H lr us/\TmAll K H us ts/\ts.length=kd.2.2.2.length/\(∃r∈kd.2.2.2,r.2.2.2=[])/\
 (∀(j:Nat)(r:PNx)(t:Tm),kd.2.2.2[j]?=some r->ts[j]?=some t->(∃cs,TDr cs t)/\lv t<=4/\(r.2.2.2=[]->cls t=[]))/\
 ∀(v':V)(H':Hp),Same H H'->SV K H' v' (Jb (Q3 kd.2.2.2 ts))->Q v' H'
section
variable{K:Fg}
theorem Dc:FnScope ["rule","stumps"] ["rule","stumps"] (defScope sRS):=(0:)
theorem A1(F:Fun K "rule_stump" "rule_stump" sRS f fd)(G:Gm mg)(hO:mg "OPEN"=some (.ref oa))(hOA:∀H:Hp,SqT K H oa [.str YY])(RC:Fn P w K mg base 1 "is_call" ["term"] (WO K))(R:Fn P w K mg base (n+1) "rule_stump" ["rule","stumps"] (Xd K n)):FnOk P w K mg base CX0 (n+2) f fd ["rule","stumps"] (Xd K (n+1)):=by
 refine F.ok Dc (7:) (λao A outer s H vs Q E hr h=>?_)
 .obtain⟨v,ls,us,S,t,cs,rfl,_⟩:=h
  rfl
 obtain⟨v,ls,us,S,t,cs,rfl,ht,aa,ag,ab,ac,M,q⟩:=h;refine⟨_,(Qe (QK (QF (Qp RC hr (Qa (pv 0) Qc) (dH 1 n))) (Qi (Ql (Qk QE (pv 1) (2:) (λ_ _=>rfl)))) Qs)
  (Qe (QK (QF (2:)) (Qi (Ql (Uv (v:=.ref oa) rfl hO rfl))) Qs)
  (Qi (Ql (QB (Qa (Zi) (Qa (2:) (Qa (2:) (Qa (QO QV rfl G.tup cS (Qa (QM (CompG.many (xs:=["part"]) (caps:=["stumps"]) (cap:=[1]) (cs:=[_]) rfl rfl (1:) (1:) (1:) (1:) (1:) (1:) rfl rfl rfl) rfl (Yu (2:)) (YR (CompG.many (xs:=["part"]) (caps:=["stumps"]) (cap:=[1]) (cs:=[_]) rfl rfl (1:) (1:) (1:) (1:) (1:) (1:) rfl rfl rfl)) (λ_ _ _ _=>Ze) (λ_ _ _ _=>Qp R hr (Qa (pv 0) (Qa (pv 1) Qc)) (4:))) Qc)) Qc))))))))),?_⟩
 refine L2.let2 ?_
 intros
 refine⟨_,rfl,v,t,rfl,ht,_,rfl,?_⟩;rcases tm_op ht with⟨a,m,b,rfl,rfl,h1⟩ | ⟨a,b,bs,nm,k,ad,ts,rfl,rfl,h1,h2,h3,h4⟩
 .obtain⟨ah,ae⟩:0<=m/\m.toNat<S.length:=M (m,b) (by simp [cls,lcl]);obtain⟨sv,ai,aj⟩:=ac.get (aD ae);refine Q4 ⟨_,rfl,_,rfl,a,_,1,_,rfl,rfl,h1,rfl,ls,us,m,sv,rfl,rfl,ab,Jq ah ai,q sv H (Same.refl _) ?_⟩;simp only [rsT,lookS];rw [aD ae];exact aj
 refine QS ⟨_,rfl,a,_,2,_,rfl,rfl,h1,rfl,_,rfl,?_⟩;simp only [rsT]at q;cases k with
 | true=>
  simp only [cD]at q;exact Q4 (q (.ref oa) H (Same.refl _) (.op (hOA H)))
 | false=>
  simp only [cE,bU]at q;refine QS ?_;have l3:=h3.length;simp only [TDr]at aa;simp only [lv]at ag;refine⟨_,rfl,a,_,1,_,rfl,rfl,h1,rfl,_,rfl,a,_,3,_,rfl,rfl,h1,rfl,_,rfl,a,_,4,_,rfl,rfl,h1,rfl,b,rfl,⟨_,h2⟩,λacc U=>?_⟩;refine Y7 (K:=K) (xs:=bs) (cs:=[some (.ref ls)]) (tt:=λ_ H Q=>Q true H) (te:=Ur (Xd K n) [] E0 (Q1 (ZL 0) (Q1 (ZL 1) YL))) (λi ys H'=>H' acc=some (.lst ys)/\Same H H'/\ys.length=i/\SAll K H' ys ((ts.take i).map (rsT (lookS S))))
   ⟨Qb,Qd U _,rfl,.nil⟩ ?_ ?_ ?_
  .rintro i ys H' _ ⟨_,g,_⟩;exact g.seqT h2
  .rintro i x ys H' hi hx ⟨Y,g,af,L⟩;have Z:i<ts.length:=by lia
   obtain⟨cv,ak,al⟩:=h3.get (aD Z);obtain rfl:cv=x:=aI (ak.symm.trans hx);have hm:=aO Z;have a1:=Zt hm;refine Q4 ⟨_,rfl,_,rfl,cv,ls,us,S,ts[i],cs,rfl,al.mono λ_ _=>g.seqT,(N7 _ ts).mp aa.2.2 _ hm,by lia,g.seq ab,ac.mono λ_ _=>g.seqT,M.bs _ hm,λv4 H4 g4 am=>?_⟩;have J:=g4 _ _ Y;refine QA (ys:=ys) hi J (5:) ⟨Qb,λb u e=>?_,by simp [af],?_⟩
   .rw [Qh (Qg e U)];exact g4 _ _ (g _ _ e)
   .rw [bF,aD Z,aT];exact SAll.append (L.mono λ_ _ h=>(g4.seqT h).put J) (.cons (am.mono λ_ _ h=>h.put J) .nil)
  rintro ys H3 ⟨Y,g3,af,L⟩;rw [bR (5:)]at L;refine⟨acc,ys,rfl,.inl ⟨SqL.of Y,λt ht=>⟨(by show 4<=sizeLine;decide),λp3 an=>?_⟩⟩⟩;have gA:=Qd ht (.tup ys);have gB:=Qd an (.tup [.str W6,.str nm,.int ad,.ref t]);refine q (.ref p3) _ (g3.trans (gA.trans gB)) ?_;rw [Ud];exact .put (SqT.of Qb) (gB.seqT (SqT.of Qb)) (L.mono λ_ _=>(gA.trans gB).seqT)
theorem SA{k:Nat}:FnOk P w K mg base CX0 k f fd ["rule","stumps"] (Xd K 0):=by
 have G:∀vs H Q E,¬Xd K 0 vs H Q E:=λvs H Q E h=>by
  obtain⟨v,U,J,S,t,cs,_,_,_,L,_⟩:=h;rw [Zl]at L;lia
 exact⟨λvs H Q E h=>absurd h (G vs H Q E),λA outer s H M J vs Q E _ _ _ _ h=>absurd h (G vs H Q E)⟩
theorem all_rs(F:Fun K "rule_stump" "rule_stump" sRS f fd)(G:Gm mg)(hO:mg "OPEN"=some (.ref oa))(hOA:∀H:Hp,SqT K H oa [.str YY])(RC:Fn P w K mg base 1 "is_call" ["term"] (WO K))(hb:Binds K fd ["rule","stumps"] [])(hm:mg "rule_stump"=some (.ref f)):∀n:Nat,FnOk P w K mg base CX0 (n+1) f fd ["rule","stumps"] (Xd K n)
 | 0=>SA
 | n+1=>A1 F G hO hOA RC ⟨f,fd,all_rs F G hO hOA RC hb hm n,hb,F.kp,hm⟩
end
abbrev sAR:Stmt:=top 23
theorem JU{ks:List KdT}{kd:KdT}(hn:(ks.map λk=>k.2.1).Nodup)(hk:kd∈ks):Qt ks kd.2.1=kd.2.2.2:=by
 unfold Qt;rw [MT hn hk]
 rfl
abbrev Bx(K:Fg):List V->Hp->VK->Prop:=λxs H Q=>∃p ys,xs=[.ref p]/\(SqL K H p ys\/SqT K H p ys)/\Q (.int (ys.length:Int)) H
theorem VM(l:List Stp)(x:Stp)(r:List Stp)(h:l=x::r):l.foldl met x=Vk l:=by
 subst h;show(x::r).foldl met x=r.foldl met x;rw [List.foldl_cons,Uo]
section
variable{K:Fg}
theorem Nd:FnScope ["wood","kind","rules","leaves","stump","other"] ["wood","kind","rules"] (defScope sLS):=(0:)
theorem ok_ls(F:Fun K "leaf_stump" "leaf_stump" sLS f fd)(G:Gm mg)(RO:Fn P w K mg base 1 "rows_of" ["wood","kind"] (WG K))(RS:Fn P w K mg base 5 "rule_stump" ["rule","stumps"] (Xd K 4))(RM:Fn P w K mg base 6 "met" ["one","other"] (Uj K 5)):FnOk P w K mg base CX0 7 f fd ["wood","kind","rules"] (Rw K):=by
 refine F.ok Nd (7:) (λbq A outer s H vs Q E hr h=>?_)
 .obtain⟨wd,lr,ks,J,us,M,rfl,_⟩:=h
  rfl
 obtain⟨wd,lr,ks,J,us,M,rfl,hw,ag,av,aw,ax,br,as,ah,q⟩:=h;refine⟨_,(Qe (Uq (i:=3) (CompG.many (xs:=["row","rule"]) (caps:=[]) (cap:=[]) (cs:=[]) rfl rfl (1:) (1:) (1:) (1:) (1:) (1:) rfl rfl rfl) rfl (Ov rfl G.zip (Qa (Qp RO hr (Qa (pv 0) (Qa (pv 1) Qc))) (Qa (pv 2) Qc))) (U7 (CompG.many (xs:=["row","rule"]) (caps:=[]) (cap:=[]) (cs:=[]) rfl rfl (1:) (1:) (1:) (1:) (1:) (1:) rfl rfl rfl) rfl) (λ_ _ _ _=>Xa (Qu ZG (Qn (r:=Bx K) Qm rfl G.len bT (Qa (Qk (r:=SD K) Qj (pv 0) Qf (λ_ _=>rfl)) Qc)) Qf (Qx _))) (λ_ _ _ _=>Qp RS hr (Qa (pv 1) (Qa (Zm Qc) Qc))) Nd.nd rfl rfl)
  (Qe (Qv (i:=4) Nd.nd rfl (15:) (Qk QE (pv 3) Qf (λ_ _=>rfl)))
  (Qe (QJ bW rfl (QH (pv 3)) (Qo (i:=5) Nd.nd rfl (15:)) (Qi (Qv (i:=4) Nd.nd rfl (15:) (Qp RM hr (Qa (pv 4) (Qa (pv 5) Qc))))))
  (Qi (Ql (pv 4)))))),?_⟩
 refine L2.let3 ?_
 intros
 have bt:=ax.length;have bo:J.2.2.2.length<=10:=(ag.rows J av).len;refine⟨_,rfl,_,rfl,wd,J.2.1,ks,rfl,hw,ag,λa9 H1 g1 aa=>⟨_,rfl,a9,lr,_,us,rfl,aa.1,g1.seq aw,λacc ai=>?_⟩⟩;rw [JU ag.nd av]at aa ⊢;have hz:(J.2.2.2.map λt=>V.ref t.1).length=us.length:=by rw [aE];lia
 refine AY (K:=K) (xs:=J.2.2.2.map λt=>V.ref t.1) (zs:=us) (cs:=[]) (te:=Ur (Xd K 4) [] E0 (Q1 (ZL 1) (Q1 (Bb YL) YL))) hz (λi ys H'=>H' acc=some (.lst ys)/\Same H1 H'/\ys.length<=i/\SAll K H' ys ((((Q3 J.2.2.2 M).take i).filter λr=>r.1).map λr=>rsT (λ_=>.op) r.2))
  ⟨Qb,Qd ai _,aZ _,.nil⟩ ?_ ?_ ?_
 .rintro i ys H' _ ⟨_,g,_⟩;exact⟨g.seq aa.1,g.seq (g1.seq aw)⟩
 .rintro i u v p ys H' hi hu hv hp ⟨ab,g,ba,U⟩;have Z:i<J.2.2.2.length:=by simpa using hi
  have aj:i<M.length:=by lia
  obtain rfl:u=.ref J.2.2.2[i].1:=by
   rw [aJ,aD Z]at hu;exact(aI hu).symm
  obtain⟨cv,ak,al⟩:=ax.get (aD aj);obtain rfl:cv=v:=aI (ak.symm.trans hv);have gp:=Qd hp (.tup [.ref J.2.2.2[i].1,cv]);have ac:=g.trans gp;have ay:=(aa.2 _ (aO Z));have az:(Q3 J.2.2.2 M)[i]?=some (J.2.2.2[i].2.2.2.isEmpty,M[i]):=by
   unfold Q3;rw [fX,aD Z,aD aj]
  obtain⟨⟨cs,am⟩,a0,bb⟩:=ah i _ _ (aD Z) (aD aj);refine⟨_,rfl,_,_,1,_,rfl,rfl,ac.seqT ay.1,rfl,_,_,rfl,.inr (ac.seqT ay.2),rfl,_,rfl,?_⟩;rw [aE,aE];have an:=gp _ _ ab
  by_cases Y:J.2.2.2[i].2.2.2=[]
  .have e:decide (V.int ((J.2.2.2[i].2.2.2.length:Nat):Int)=V.int 0)=true:=bO (by rw [Y];rfl);rw [e];refine Q4 ⟨_,rfl,(by show 0<=sizeLine;decide),λl0 bc=>?_⟩;have gl:=Qd bc (.lst []);have a3:=bb Y;refine⟨cv,l0,[],[],M[i],cs,rfl,al.mono λ_ _=>(g1.trans (ac.trans gl)).seqT,am,a0,SqL.of Qb,.nil,λc Y=>?_,λv4 H4 g4 a4=>?_⟩
   .rw [a3]at Y;cases Y
   have ad:=g4 _ _ (gl _ _ an);refine QA (ys:=ys) Z ad (5:) ⟨Qb,λb u e=>?_,by rw [bH,dE];lia,?_⟩
   .rw [Qh (Qg e ai)];exact g4 _ _ (gl _ _ (ac _ _ e))
   .rw [bF,az,List.filter_append,aT];have e2:J.2.2.2[i].2.2.2.isEmpty=true:=by rw [Y];rfl
    have e3:rsT (lookS []) M[i]=rsT (λ_=>.op) M[i]:=Ue _ λc Y=>by rw [a3]at Y;cases Y
    rw [e3]at a4;simp only [eY,List.filter_cons,e2,cD,List.filter_nil,aR,List.map_nil];exact SAll.append (U.mono λ_ _ h=>(g4.seqT (gl.seqT (gp.seqT h))).put ad) (.cons (a4.mono λ_ _ h=>h.put ad) .nil)
  .have bp:J.2.2.2[i].2.2.2.length≠0:=λz=>Y (fz.mp z);have e:decide (V.int ((J.2.2.2[i].2.2.2.length:Nat):Int)=V.int 0)=false:=bV λz=>by have:=V.int.inj z;lia
   rw [e];refine QS (ZQ Z (ys:=ys) ⟨an,ac,by lia,?_⟩);rw [bF,az,List.filter_append,aT];have e2:J.2.2.2[i].2.2.2.isEmpty=false:=by
    cases hh:J.2.2.2[i].2.2.2 with
    | nil=>exact absurd hh Y
    | cons _ _=>rfl
   simp only [eY,List.filter_cons,e2,cE,bU,List.filter_nil,List.map_nil,dO];exact U.mono λ_ _=>gp.seqT
 rintro ys H2 ⟨ab,g2,ba,U⟩;have bd:(Q3 J.2.2.2 M).length=J.2.2.2.length:=by unfold Q3;rw [List.length_zipWith];lia
 rw [aE,<-bd,dN]at U;have au:Jb (Q3 J.2.2.2 M)=Vk (((Q3 J.2.2.2 M).filter λr=>r.1).map λr=>rsT (λ_=>.op) r.2):=rfl;rw [au]at q;generalize hL:(((Q3 J.2.2.2 M).filter λr=>r.1).map λr=>rsT (λ_=>.op) r.2)=L at U q;have ao:∀y∈L,SOk y/\sl y<=4:=λy hy=>by
  rw [<-hL]at hy;obtain⟨r,ap,rfl⟩:=aK.mp hy;obtain⟨be,_⟩:=dB.mp ap;obtain⟨j,hj,ej⟩:=bZ be;have a5:j<J.2.2.2.length:=by lia
  have ae:j<M.length:=by lia
  obtain⟨⟨cs,am⟩,a0,_⟩:=ah j _ _ (aD a5) (aD ae);have e:r.2=M[j]:=by
   have:=aD hj;unfold Q3 at this;rw [fX,aD a5,aD ae]at this;have h2:=aI this;unfold Q3 at ej;rw [<-ej,<-h2]
  rw [e];obtain⟨a1,a2⟩:=Lc (S:=λ_=>Stp.op) (k:=1) (λ_=>by simp only [SOk]) (λ_=>by simp only [sl];lia) (4:) M[j] am;exact⟨a1,by lia⟩
 obtain⟨x0,r0,hx⟩: ∃x r,L=x::r:=by
  cases bf:L with
  | cons x r=>exact⟨x,r,rfl⟩
  | nil=>
   obtain⟨r,ap,er⟩:=as;obtain⟨j,hj,ej⟩:=bZ ap;have ae:j<M.length:=by lia
   have hm:(J.2.2.2[j].2.2.2.isEmpty,M[j])∈Q3 J.2.2.2 M:=by
    refine aL (i:=j) ?_;unfold Q3;rw [fX,aD hj,aD ae]
   have a6:rsT (λ_=>.op) M[j]∈L:=by
    rw [<-hL];exact aK.mpr ⟨_,dB.mpr ⟨hm,by show J.2.2.2[j].2.2.2.isEmpty=true;rw [ej,er];rfl⟩,rfl⟩
   rw [bf]at a6;cases a6
 have bu:=U.length;obtain⟨v0,bg,bh⟩:=U.get (i:=0) (t:=x0) (by rw [hx];rfl);refine⟨_,rfl,acc,ys,0,v0,rfl,rfl,SqL.of ab,Qq (j:=0) bg,?_⟩;refine⟨_,rfl,acc,rfl,⟨_,SqL.of ab⟩,?_⟩;have a7:=ao x0 (by rw [hx];exact aQ);refine Q2 (K:=K) (xs:=ys) (λi σ H'=>∃(sv:V)(c5:Option V),σ=[some (.ref wd),some (.str J.2.1),some (.ref lr),some (.ref acc),some sv,c5]/\Same H2 H'/\SV K H' sv ((L.take i).foldl met x0)/\SOk ((L.take i).foldl met x0)/\sl ((L.take i).foldl met x0)<=4)
  ⟨v0,none,rfl,Same.refl _,bh,a7.1,a7.2⟩ ?_ ?_ ?_
 .rintro i σ H' _ ⟨sv,c5,_,g,_⟩;exact SqL.of (g _ _ ab)
 .rintro i x σ H' a8 ⟨sv,c5,rfl,g,af,aq,bi⟩;have ar:i<L.length:=by
   have:=(aU.mp a8).1;lia
  obtain⟨cv,ak,al⟩:=U.get (aD ar);obtain rfl:cv=x:=aI (ak.symm.trans a8);have bj:=ao _ (aO ar);refine⟨_,rfl,_,rfl,sv,cv,_,L[i],rfl,af,al.mono λ_ _=>g.seqT,aq,bj.1,by lia,λv' H3 g3 bn=>?_⟩;obtain⟨o1,o2⟩:=Xc _ L[i] aq;refine⟨v',_,rfl,g.trans g3,?_⟩;rw [bF,aD ar,List.foldl_append];exact⟨bn,o1,by show sl (met _ _)<=4;lia⟩
 .rintro σ H' ⟨sv,c5,rfl,g,af,aq,bi⟩;rw [bR (5:),VM L x0 r0 hx]at af;exact⟨_,rfl,q sv H' (g1.trans (g2.trans g)) af⟩
end
end K41c
namespace ST
open PySem TM TT L2 K11
def nRl(ms:List MdT)(m:Nat):Nat:=((ms[m]?).map λx=>x.2.2.2.2.length).getD 0
def MX(ms:List MdT)(m:Nat):List (Int×Int):=(List.range (nRl ms m)).map λ(j:Nat)=>((m:Int),(j:Int))
def QT(ms:List MdT)(i:Nat):List (Int×Int):=(List.range i).flatMap (MX ms)
theorem XN(ms:List MdT)(i:Nat):QT ms (i+1)=QT ms i++MX ms i:=by
 unfold QT;rw [gD,List.flatMap_append];simp
theorem ZX{b:Nat}(h:∀m∈ms,m.2.2.2.2.length<=b):∀i,(QT ms i).length<=i*b
 | 0=>by simp [QT]
 | i+1=>by
  rw [XN,bH];have h1:=ZX h i;have h2:(MX ms i).length<=b:=by
   unfold MX nRl;rw [aE,eI];cases e:ms[i]? with
   | none=>simp
   | some m=>exact h m (aL e)
  rw [Nat.succ_mul];lia
theorem ZR{c:Int×Int}:c∈QT ms n↔ ∃m j:Nat,c=((m:Int),(j:Int))/\m<n/\j<nRl ms m:=by
 unfold QT MX;constructor
 .intro h;obtain⟨m,G,h⟩:=List.mem_flatMap.mp h;obtain⟨j,J,rfl⟩:=aK.mp h;exact⟨m,j,rfl,cN.mp G,cN.mp J⟩
 .rintro⟨m,j,rfl,G,J⟩;exact List.mem_flatMap.mpr ⟨m,cN.mpr G,aK.mpr ⟨j,cN.mpr J,rfl⟩⟩
end ST
namespace K41c
open K41
open PySem L2 TM TT ST K9 K11
def RQ(K:Fg):Sp:=λvs H Q _=>∃(lm:Addr)(ms:List MdT),vs=[.ref lm]/\ModesL K H lm ms/\ms.length<=4/\(∀m∈ms,m.2.2.2.2.length<=10)/\
 ∀(l:Addr)(H':Hp)(ts:List (Addr×List Int)),Same H H'->H l=none->H' l=some (.lst (Rf ts))->TsAt K H' ts->ts.map (·.2)=(QT ms ms.length).map pr->Q (.ref l) H'
section
variable{K:Fg}
theorem T3:FnScope ["modes","told","mode"] ["modes"] (defScope sAR):=(0:)
theorem ok_ar(F:Fun K "all_rules" "all_rules" sAR f fd)(G:Gm mg):FnOk P w K mg base CX0 1 f fd ["modes"] (RQ K):=by
 refine F.ok T3 (7:) (λam A outer s H vs Q E hr h=>?_)
 .obtain⟨lm,ms,rfl,_⟩:=h
  rfl
 obtain⟨lm,ms,rfl,ac,h4,aj,q⟩:=h;refine⟨_,(Qe (Qv (i:=1) T3.nd rfl (15:) (Zm Qc))
  (Qe (QJ bW rfl (Q5 rfl G.rng (Qa (Qn Qm rfl G.len bT (Qa (pv 0) Qc)) Qc)) (Qo (i:=2) T3.nd rfl (Or.inr rfl)) (Qi
   (Zb (YQ cR gW gX UD (pv 1) (Qa (QM (CompG.many (xs:=["number"]) (caps:=["mode"]) (cap:=[2]) (cs:=[_]) rfl rfl (1:) (1:) (1:) (1:) (1:) (1:) rfl rfl rfl) rfl (Q5 rfl G.rng (Qa (Qn Qm rfl G.len bT (Qa (Qk Qj (Qk QE (pv 0) (pv 2) (λ_ _=>rfl)) Qf (λ_ _=>rfl)) Qc)) Qc)) (YR (CompG.many (xs:=["number"]) (caps:=["mode"]) (cap:=[2]) (cs:=[_]) rfl rfl (1:) (1:) (1:) (1:) (1:) (1:) rfl rfl rfl)) (λ_ _ _ _=>Ze) (λ_ _ _ _=>(QB (Qa (pv 1) (Qa (pv 0) Qc))))) Qc)))))
  (Qi (Ql (pv 1))))),?_⟩
 refine L2.let2 ?_
 intros
 refine⟨(by show 0<=sizeLine;decide),λl hl=>?_⟩;have g0:=Qd hl (.lst []);have Z:(ms.map λm=>V.ref m.1).length=ms.length:=aE ..;refine⟨_,rfl,lm,_,rfl,.inl (g0.seq ac.1),_,rfl,(by rw [Z];show-(2^62:Int)<=((ms.length:Nat):Int);lia),(by rw [Z];show((ms.length:Nat):Int)<2^62;lia),?_⟩;refine Zq (lo:=0) (n:=(((ms.map λm=>V.ref m.1).length:Nat):Int).toNat) (λi σ H'=>∃(L:List (Addr×List Int))(c2:Option V),σ=[some (.ref lm),some (.ref l),c2]/\Same H H'/\H' l=some (.lst (Rf L))/\TsAt K H' L/\L.map (·.2)=(QT ms i).map pr)
  ⟨[],none,rfl,g0,Qb,λx hx=>(nomatch hx),rfl⟩ ?_ ?_
 .rintro i σ H' hi ⟨L,c2,rfl,g,aa,ad,M⟩;rw [Z]at hi;have ab:i<ms.length:=by lia
  have e0:(0:Int)+(i:Int)=(i:Int):=by lia
  rw [e0];have ae:=ac.2 _ (aO ab);have an:=aj _ (aO ab);have ao:=ae.2.2.length;have hn:nRl ms i=ms[i].2.2.2.2.length:=by unfold nRl;rw [aD ab];rfl
  have ak:(((ms[i].2.2.2.1.length:Nat):Int)).toNat=nRl ms i:=by rw [hn];lia
  refine⟨_,rfl,.inl ⟨rfl,_,SqL.of aa⟩,_,rfl,_,rfl,lm,_,(i:Int),.ref ms[i].1,rfl,rfl,g.seq ac.1,Qq (by rw [aJ,aD ab];rfl),ms[i].1,_,1,_,rfl,rfl,g.seqT ae.1,rfl,ms[i].2.2.1,_,rfl,.inl (g.seq ae.2.1),_,rfl,(by show-(2^62:Int)<=((ms[i].2.2.2.1.length:Nat):Int);lia),(by show((ms[i].2.2.2.1.length:Nat):Int)<2^62;lia),λacc af=>?_⟩;rw [ak];refine JQ (lo:=0) (n:=nRl ms i) (cs:=[some (.int (i:Int))]) (tt:=λ_ H Q=>Q true H) (te:=Rg (Q1 (ZL 1) (Q1 (ZL 0) YL))) (λj ys H2=>∃J:List (Addr×List Int),ys=Rf J/\H2 acc=some (.lst ys)/\Same H' H2/\TsAt K H2 J/\J.map (·.2)=((List.range j).map λ(k:Nat)=>[(i:Int),(k:Int)]))
   ⟨[],rfl,Qb,Qd af _,λx hx=>(nomatch hx),rfl⟩ ?_ ?_
  .rintro j ys H2 hj ⟨J,rfl,ag,g2,ah,U⟩;have e1:(0:Int)+(j:Int)=(j:Int):=by lia
   rw [e1];have al:J.length=j:=by have:=congrArg List.length U;simpa using this
   refine Q4 ⟨_,rfl,_,rfl,(by show 2<=sizeLine;decide),λp hp=>?_⟩;have gp:=Qd hp (.tup [.int (i:Int),.int (j:Int)]);have Y:=gp _ _ ag;refine QA (ys:=Rf J) hj Y (by rw [aE];lia) ⟨J++[(p,[(i:Int),(j:Int)])],by simp,by rw [Qb],λb u e=>?_,?_,?_⟩
   .rw [Qh (Qg e af)];exact gp _ _ (g2 _ _ e)
   .refine(ah.mono λ_ _ h=>(gp.seqT h).put Y).app λx hx=>?_;have:x=(p,[(i:Int),(j:Int)]):=by simpa using hx
    rw [this];exact(SqT.of Qb).put Y
   .rw [aT,U,gD,aT]
    rfl
  rintro ys H2 ⟨J,rfl,ag,g2,ah,U⟩;have ai:=g2 _ _ aa;have ap:L.length<=40:=by
   have e:=congrArg List.length M;rw [aE,aE]at e;have:=ZX aj i;lia
  have al:J.length<=10:=by
   have e:=congrArg List.length U;simp only [aE,eI]at e;lia
  refine⟨l,acc,_,_,rfl,rfl,ai,ag,?_,?_⟩
  .rw [aE,aE];exact Z9 (5:)
  refine⟨L++J,_,rfl,λx u e=>?_,by rw [Qb];simp,?_,?_⟩
  .rw [Qh (Qg e hl)];exact g2 _ _ (g _ _ e)
  .exact(ad.mono λ_ _ h=>(g2.seqT h).put ai).app (ah.mono λ_ _ h=>h.put ai)
  .rw [aT,M,U,XN,aT];unfold MX;rw [bY]
   rfl
 .rintro σ H' ⟨L,c2,rfl,g,aa,ad,M⟩;rw [Z]at M;exact⟨_,rfl,q l H' L g hl aa ad M⟩
end
end K41c
namespace ST
open PySem TM TT L2 K11
def kk(c:Int×Int):List Key:=[Sum.inl c.1,Sum.inl c.2]
theorem Tu{a b:Int×Int}(h:kk a=kk b):a=b:=by
 unfold kk at h;injection h with h1 h2;injection h2 with h2 _;exact Prod.ext (Sum.inl.inj h1) (Sum.inl.inj h2)
def Zx(ms:List MdT)(c:Int×Int):Option Tm:=(ms[c.1.toNat]?).bind λx=>x.2.2.2.2[c.2.toNat]?
def Z0(ms:List MdT)(c:Int×Int):List ((Int×Int)×Int):=match Zx ms c with
 | some t=>(cls t).map λx=>(c,x.1)
 | none=>[]
theorem Jr{c:Int×Int}(h:c∈QT ms ms.length):∃(m j:Nat)(x:MdT)(t:Tm),c=((m:Int),(j:Int))/\ms[m]?=some x/\x.2.2.2.2[j]?=some t/\Zx ms c=some t:=by
 obtain⟨m,j,rfl,J,G⟩:=ZR.mp h;unfold nRl at G;rw [aD J]at G;have G:j<ms[m].2.2.2.2.length:=G;refine⟨m,j,_,_,rfl,aD J,aD G,?_⟩;unfold Zx;simp only [aX];rw [aD J];show ms[m].2.2.2.2[j]?=_;rw [aD G]
abbrev DsT:=List (Addr×List (List Key×V))
structure CBs(H0 H:Hp)(l:Addr)(ms:List MdT)(ds:DsT)(done:List ((Int×Int)×Int)):Prop where
 same:Same H0 H
 lnew:H0 l=none
 li:H l=some (.lst (ds.map λd=>V.ref d.1))
 len:ds.length=ms.length
 fr:∀d∈ds,H0 d.1=none
 na:(ds.map (·.1)).Nodup
 dat:∀d∈ds,H d.1=some (.dT d.2)
 nd:∀d∈ds,(d.2.map (·.1)).Nodup
 kin:∀d∈ds,∀q∈d.2,(∃c∈QT ms ms.length,q.1=kk c)/\q.2=V.bl true
 all:∀p∈done,∀d,ds[p.2.toNat]?=some d->kk p.1∈d.2.map (·.1)
theorem CBs.on{ds:DsT}(h:CBs H0 H l ms ds done)(g:Same H H'):CBs H0 H' l ms ds done:=
 ⟨h.same.trans g,h.lnew,g _ _ h.li,h.len,h.fr,h.na,λd G=>g _ _ (h.dat d G),h.nd,h.kin,h.all⟩
theorem CBs.few{ds:DsT}(h:CBs H0 H l ms ds done){d:Addr×List (List Key×V)}(hd:d∈ds):d.2.length<=(QT ms ms.length).length:=by
 have h1:=UP (l:=d.2.map (·.1)) (r:=(QT ms ms.length).map kk) (h.nd d hd) λx G=>by
  obtain⟨q,J,rfl⟩:=aK.mp G;obtain⟨⟨c,L,e⟩,_⟩:=h.kin d hd q J;rw [e];exact aK.mpr ⟨c,L,rfl⟩
 simpa using h1
theorem CBs.put{ds:DsT}(h:CBs H0 H l ms ds done){d:Addr×List (List Key×V)}(hn:ds[n]?=some d){c:Int×Int}(hc:c∈QT ms ms.length):
 CBs H0 (upd H d.1 (.dT (putK d.2 (kk c) (.bl true)))) l ms (ds.set n (d.1,putK d.2 (kk c) (.bl true))) (done++[(c,(n:Int))]):=by
 have L:=aL hn;have M:n<ds.length:=(aU.mp hn).1;have U:∀{β:Type}(f:Addr->β),(ds.set n (d.1,putK d.2 (kk c) (.bl true))).map (λd=>f d.1)=ds.map λd=>f d.1:=λf=>by
  rw [List.map_set];have e:(ds.map λd=>f d.1)[n]?=some (f d.1):=by rw [aJ,hn];rfl
  exact gR λj=>by
   rw [gS];split
   .rename_i Y;subst Y;split
    .exact e.symm
    .rename_i aa;rw [aE]at aa;exact absurd M aa
   .rfl
 have mem:∀x∈ds.set n (d.1,putK d.2 (kk c) (.bl true)),x=(d.1,putK d.2 (kk c) (.bl true))\/x∈ds/\x.1≠d.1:=λx G=>by
  obtain⟨j,Y,e⟩:=bZ G;have J:=aD Y;rw [e,gS]at J;split at J
  .left
   first | exact(aI J).symm | (split at J;exact(aI J).symm;cases J)
  .rename_i ab;refine .inr ⟨aL J,λz=>ab ?_⟩;have ac:j<ds.length:=(aU.mp J).1;have a1:(ds.map (·.1))[n]?=some d.1:=by rw [aJ,hn];rfl
   have a2:(ds.map (·.1))[j]?=some d.1:=by rw [aJ,J];exact congrArg some z
   exact(List.getElem?_inj (by rw [aE];exact M) h.na).mp (a1.trans a2.symm)
 refine⟨λb u e=>?_,h.lnew,?_,by rw [List.length_set];exact h.len,λx G=>?_,?_,λx G=>?_,λx G=>?_,λx G=>?_,λp hp x G=>?_⟩
 .rw [Qh (Qg e (h.fr d L))];exact h.same _ _ e
 .rw [Qh (QN h.li (h.dat d L) (18:)),U V.ref];exact h.li
 .rcases mem x G with rfl | ⟨G,_⟩
  .exact h.fr d L
  .exact h.fr x G
 .have:=U (λa=>a);rw [this];exact h.na
 .rcases mem x G with rfl | ⟨G,ne⟩
  .exact Qb
  .rw [Qh ne];exact h.dat x G
 .rcases mem x G with rfl | ⟨G,ne⟩
  .exact Xz (h.nd d L)
  .exact h.nd x G
 .intro q Z;rcases mem x G with rfl | ⟨G,ne⟩
  .rcases GB Z with Z | rfl
   .exact h.kin d L q Z
   .exact⟨⟨c,hc,rfl⟩,rfl⟩
  .exact h.kin x G q Z
 .rw [gS]at G;rcases aY.mp hp with hp | hp
  .split at G
   .rename_i Y;have G:some (d.1,putK d.2 (kk c) (.bl true))=some x:=by
     first | exact G | (split at G;exact G;cases G)
    obtain rfl:=aI G;exact WY (h.all p hp d (by rw [<-Y];exact hn))
   .exact h.all p hp x G
  .obtain rfl:p=(c,(n:Int)):=by simpa using hp
   have e:n=(((c,(n:Int)):(Int×Int)×Int).2).toNat:=by simp
   rw [aH e]at G
   first | rw [aH M]at G | skip
   obtain rfl:=aI G;exact aK.mpr ⟨_,Pa,rfl⟩
end ST
namespace K41c
open K41
open PySem L2 TM TT ST K9 K11
abbrev sCB:Stmt:=top 24
structure MsOk(ms:List MdT):Prop where
 four:ms.length<=4
 ten:∀m∈ms,m.2.2.2.2.length<=10
 tm:∀m∈ms,∀t∈m.2.2.2.2,(∃cs,TDr cs t)/\lv t<=4/\sz t<=1000/\CallsIn ms.length t
def TK(K:Fg):Sp:=λvs H Q _=>∃(lm:Addr)(ms:List MdT),vs=[.ref lm]/\ModesL K H lm ms/\MsOk ms/\
 ∀(l:Addr)(H':Hp)(ds:DsT),CBs H H' l ms ds ((QT ms ms.length).flatMap (Z0 ms))->Q (.ref l) H'
section
variable{K:Fg}
theorem Mm:FnScope ["modes","told","mode","number","called","branch"] ["modes"] (defScope sCB):=(0:)
theorem ok_cb(F:Fun K "callers_by_modes" "callers_by_modes" sCB f fd)(G:Gm mg)(RA:Fn P w K mg base 1 "all_rules" ["modes"] (RQ K))(RC:Fn P w K mg base 5 "calls_of" ["term"] (L7 K 4)):FnOk P w K mg base CX0 6 f fd ["modes"] (TK K):=by
 refine F.ok Mm (7:) (λbt A outer s H vs Q E hr h=>?_)
 .obtain⟨lm,ms,rfl,_⟩:=h
  rfl
 obtain⟨lm,ms,rfl,aa,ok,q⟩:=h;refine⟨_,(Qe (Uq (i:=1) (CompG.many (xs:=["mode"]) (caps:=[]) (cap:=[]) (cs:=[]) rfl rfl (1:) (1:) (1:) (1:) (1:) (1:) rfl rfl rfl) rfl (QH (pv 0)) (YR (CompG.many (xs:=["mode"]) (caps:=[]) (cap:=[]) (cs:=[]) rfl rfl (1:) (1:) (1:) (1:) (1:) (1:) rfl rfl rfl)) (λ_ _ _ _=>Ze) (λ_ _ _ _=>W5) Mm.nd rfl rfl)
  (Qe (QJ bW rfl (QH (Qp RA hr (Qa (pv 0) Qc) (11:))) (Zd rfl (Qr (Qo (i:=2) Mm.nd rfl (15:)) (Qr (Qo (i:=3) Mm.nd rfl (15:)) QZ))) (Qi
   (QJ bW rfl (QH (Qp RC hr (Qa (Qk QE (Qk Qj (Qk QE (pv 0) (pv 2) (λ_ _=>rfl)) Qf (λ_ _=>rfl)) (pv 3) (λ_ _=>rfl)) Qc))) (Zd rfl (Qr (Qo (i:=4) Mm.nd rfl (15:)) (Qr (Qo (i:=5) Mm.nd rfl (15:)) QZ)))
    (Qi (Sr (OX hr) (Qk QE (pv 1) (pv 4) (λ_ _=>rfl)) (QB (Qa (pv 2) (Qa (pv 3) Qc))) ZE rfl)))))
  (Qi (Ql (pv 1))))),?_⟩
 refine L2.let2 ?_
 intros
 have bu:(ms.map λm=>V.ref m.1).length=ms.length:=aE ..;have h4:=ok.four;refine⟨_,rfl,lm,rfl,⟨_,aa.1⟩,λacc ab=>?_⟩;refine Ji (K:=K) (xs:=ms.map λm=>V.ref m.1) (cs:=[]) (tt:=λ_ H Q=>Q true H) (te:=Nj) (λi ys H'=>∃L:List Addr,ys=L.map V.ref/\L.length=i/\H' acc=some (.lst ys)/\Same H H'/\L.Nodup/\(∀a∈L,H a=none/\H' a=some (.dT [])))
  ⟨[],rfl,rfl,Qb,Qd ab _,fh,λa ha=>(nomatch ha)⟩ ?_ ?_ ?_
 .rintro i ys H' _ ⟨L,_,_,_,g,_⟩;exact g.seq aa.1
 .rintro i x ys H' hi hx ⟨L,rfl,ao,ai,g,aj,Y⟩;refine Q4 λp hp=>?_;have Z:=Qd hp (.dT []);have ak:=Z _ _ ai;refine QA (ys:=L.map V.ref) hi ak (by rw [aE];lia) ⟨L++[p],by simp,by simp [ao],Qb,λb u e=>?_,?_,λa ha=>?_⟩
  .rw [Qh (Qg e ab)];exact Z _ _ (g _ _ e)
  .rw [fH];refine⟨aj,by simp,λa ha b hb=>?_⟩;obtain rfl:b=p:=by simpa using hb
   exact λe=>by rw [e]at ha;have:=(Y _ ha).2;rw [hp]at this;cases this
  .have ap:∀b,upd H' p (.dT []) b=some (.dT [])->b≠acc:=λb hb=>QN hb ak (18:);rcases aY.mp ha with ha | ha
   .have h2:=Z _ _ (Y a ha).2;exact⟨(Y a ha).1,by rw [Qh (ap a h2)];exact h2⟩
   .obtain rfl:a=p:=by simpa using ha
    refine⟨?_,by rw [Qh (ap a Qb)];exact Qb⟩;exact g.free hp
 rintro ys H1 ⟨L,rfl,ao,ai,g1,aj,Y⟩;have c1:CBs H H1 acc ms (L.map λa=>(a,[])) []:=by
  have e:(L.map λa=>((a,[]):Addr×List (List Key×V))).map (·.1)=L:=by rw [bY];exact List.map_id _
  refine⟨g1,ab,?_,?_,λd hd=>?_,by rw [e];exact aj,λd hd=>?_,λd hd=>?_,λd hd=>?_,λp hp=>(nomatch hp)⟩
  .rw [bY];exact ai
  .rw [aE];lia
  all_goals obtain⟨a,ha,rfl⟩:=aK.mp hd
  .exact(Y a ha).1
  .exact(Y a ha).2
  .exact fh
  .exact λq hq=>(nomatch hq)
 refine⟨_,rfl,lm,ms,rfl,aa.same g1,ok.four,ok.ten,λlr H2 U g2 bp aq a7 ar=>⟨lr,rfl,⟨_,SqL.of aq⟩,?_⟩⟩;have hl:=congrArg List.length ar;rw [aE,aE]at hl;refine Q2 (K:=K) (xs:=Rf U) (λi σ H'=>∃(ds:DsT)(c2 c3 c4 c5:Option V),σ=[some (.ref lm),some (.ref acc),c2,c3,c4,c5]/\CBs H H' acc ms ds (((QT ms ms.length).take i).flatMap (Z0 ms))/\H' lr=some (.lst (Rf U))/\TsAt K H' U)
  ⟨_,none,none,none,none,rfl,c1.on g2,aq,a7⟩ ?_ ?_ ?_
 .rintro i σ H' _ ⟨ds,_,_,_,_,_,_,h,_⟩;exact SqL.of h
 .rintro i x σ H' hx ⟨ds,c2,c3,c4,c5,rfl,M,a4,al⟩;have hi:i<U.length:=by have:=(aU.mp hx).1;rwa [aE]at this
  obtain rfl:x=.ref U[i].1:=by
   rw [aJ,aD hi]at hx;exact(aI hx).symm
  have a8:i<(QT ms ms.length).length:=by lia
  obtain⟨c,ec⟩: ∃c,(QT ms ms.length)[i]?=some c:=⟨_,aD a8⟩;have au:=aL ec;have et:U[i].2=pr c:=by
   have e:=congrArg (λl=>l[i]?) ar;simp only [aJ,aD hi,ec]at e;exact aI e
  have a9:SqT K H' U[i].1 [.int c.1,.int c.2]:=by have:=al _ (aO hi);rw [et]at this;exact this
  obtain⟨m,j,md,t,rfl,av,aw,ba⟩:=Jr au;have ax:=aL av;have ac:=aa.2 md ax;have bb:=aL aw;obtain⟨_,bc,bd,a5⟩:=ok.tm md ax t bb;obtain⟨tv,be,a6⟩:=ac.2.2.get aw;have gs:=M.same;refine⟨U[i].1,_,rfl,a9,rfl,_,_,rfl,_,_,rfl,rfl,?_⟩;refine⟨_,rfl,_,rfl,lm,_,(m:Int),.ref md.1,rfl,rfl,gs.seq aa.1,Qq (by rw [aJ,av];rfl),md.1,_,1,_,rfl,rfl,gs.seqT ac.1,rfl,_,rfl,md.2.2.1,_,(j:Int),tv,rfl,rfl,gs.seq ac.2.1,Qq be,tv,t,rfl,a6.mono λ_ _=>gs.seqT,bc,bd,λlc H3 us g3 bq ay bf az=>⟨lc,rfl,⟨_,SqL.of ay⟩,?_⟩⟩;have bg:=congrArg List.length az;rw [aE,aE]at bg;have bh:Z0 ms ((m:Int),(j:Int))=(cls t).map λx=>(((m:Int),(j:Int)),x.1):=by unfold Z0;rw [ba]
  refine Q2 (K:=K) (xs:=Rf us) (λk σ J=>∃(ds:DsT)(c4 c5:Option V),σ=[some (.ref lm),some (.ref acc),some (.int (m:Int)),some (.int (j:Int)),c4,c5]/\CBs H J acc ms ds (((QT ms ms.length).take i).flatMap (Z0 ms)++((cls t).take k).map λx=>(((m:Int),(j:Int)),x.1))/\J lr=some (.lst (Rf U))/\TsAt K J U/\J lc=some (.lst (Rf us))/\TsAt K J us)
   ⟨ds,c4,c5,rfl,by simpa using M.on g3,g3 _ _ a4,al.mono λ_ _=>g3.seqT,ay,bf⟩ ?_ ?_ ?_
  .rintro k σ J _ ⟨ds,_,_,_,_,_,_,h,_⟩;exact SqL.of h
  .rintro k x σ J hx ⟨ds,c4,c5,rfl,M,ad,ae,am,af⟩;have hk:k<us.length:=by have:=(aU.mp hx).1;rwa [aE]at this
   obtain rfl:x=.ref us[k].1:=by
    rw [aJ,aD hk]at hx;exact(aI hx).symm
   obtain⟨b,eb⟩: ∃b,(cls t)[k]?=some b:=⟨_,aD (5:)⟩;have eu:us[k].2=pr b:=by
    have e:=congrArg (λl=>l[k]?) az;simp only [aJ,aD hk,eb]at e;exact aI e
   have bi:SqT K J us[k].1 [.int b.1,.int b.2]:=by have:=af _ (aO hk);rw [eu]at this;exact this
   obtain⟨a0,bj⟩:=a5 b (aL eb);have bn:b.1.toNat<ds.length:=by rw [M.len];exact bj
   obtain⟨d,ed⟩: ∃d,ds[b.1.toNat]?=some d:=⟨_,aD bn⟩;have a1:=aL ed;refine⟨us[k].1,_,rfl,bi,rfl,_,_,rfl,_,_,rfl,rfl,?_⟩;refine⟨_,rfl,_,rfl,acc,_,b.1,.ref d.1,rfl,rfl,SqL.of M.li,Jq a0 (by rw [aJ,ed];rfl),_,rfl,_,rfl,(by show 2<=sizeLine;decide),λp hp=>?_⟩;have Z:=Qd hp (.tup [.int (m:Int),.int (j:Int)]);have an:=M.on Z;have ag:=an.dat d a1;have few:=an.few a1;have br:=ZX ok.ten ms.length;refine⟨d.1,_,rfl,DPut.t (k:=kk ((m:Int),(j:Int))) ag Qb (by rw [QI];lia),?_⟩;have a3:=an.put ed au;have keep:∀(a:Addr)(xs:List V),upd J p (.tup [.int (m:Int),.int (j:Int)]) a=some (.lst xs)->upd (upd J p (.tup [.int (m:Int),.int (j:Int)])) d.1 (.dT (putK d.2 (kk ((m:Int),(j:Int))) (.bl true))) a=some (.lst xs):=λa xs h=>by
    rw [Qh (QN h ag (18:))];exact h
   have ah:∀(a:Addr)(xs:List V),SqT K (upd J p (.tup [.int (m:Int),.int (j:Int)])) a xs->SqT K (upd (upd J p (.tup [.int (m:Int),.int (j:Int)])) d.1 (.dT (putK d.2 (kk ((m:Int),(j:Int))) (.bl true)))) a xs:=λa xs h=>by
    rcases h with h | h
    .rcases h with h | ⟨o,h⟩
     .exact .inl (.inl (by rw [Qh (QN h ag (18:))];exact h))
     .exact .inl (.inr ⟨o,by rw [Qh (QN h ag (18:))];exact h⟩)
    .exact .inr h
   refine⟨ds.set b.1.toNat (d.1,putK d.2 (kk ((m:Int),(j:Int))) (.bl true)),_,_,rfl,?_,keep _ _ (Z _ _ ad),ae.mono λ_ _ h=>ah _ _ (Z.seqT h),keep _ _ (Z _ _ am),af.mono λ_ _ h=>ah _ _ (Z.seqT h)⟩;have e2:((b.1.toNat:Nat):Int)=b.1:=ef a0;rw [e2]at a3;rw [bF,eb,eY,aT,<-e_];exact a3
  .rintro σ J ⟨ds,c4,c5,rfl,M,ad,ae,am,af⟩;refine⟨ds,_,_,_,_,rfl,?_,ad,ae⟩;have bo:(cls t).take (Rf us).length=cls t:=bR (by rw [aE];lia);rw [bo]at M;rw [bF,ec,eY,List.flatMap_append];simp only [List.flatMap_cons,List.flatMap_nil,dO];rw [bh];exact M
 .rintro σ H' ⟨ds,c2,c3,c4,c5,rfl,M,_,_⟩;rw [bR (by rw [aE];lia)]at M;exact⟨_,rfl,q acc H' ds M⟩
end
end K41c
namespace L2
open PySem PySem.Spec PyProof.Rows PySem.W
section
variable{κ:Type} [DecidableEq κ]
def QY(ps more:List (κ×Addr×Value)):List (κ×Addr×Value):=more.foldl (λacc x=>storedH acc x.1 x.2.1 x.2.2) ps
theorem Wn(ps more:List (κ×Addr×Value))(i:Nat)(x:κ×Addr×Value)(h:more[i]?=some x):QY ps (more.take (i+1))=storedH (QY ps (more.take i)) x.1 x.2.1 x.2.2:=by
 unfold QY;rw [bF,h,List.foldl_append]
 rfl
theorem Vy(ps:List (κ×Addr×Value))(k:κ)(b:Addr)(v:Value):(storedH ps k b v).length<=ps.length+1:=by
 unfold storedH;split
 .rw [aE];lia
 .rw [bH,dE];exact aZ _
theorem U9:∀(more ps:List (κ×Addr×Value)),(QY ps more).length<=ps.length+more.length
 | [],ps=>by show ps.length<=ps.length+0;lia
 | x::r,ps=>by
  have h1:=U9 r (storedH ps x.1 x.2.1 x.2.2);have h2:=Vy ps x.1 x.2.1 x.2.2;show(QY (storedH ps x.1 x.2.1 x.2.2) r).length<=_;rw [bK];lia
theorem NA{ps:List (κ×Addr×Value)}{k:κ}(h:k∉ps.map (·.1)):atKey ps k=none:=by
 unfold atKey;rw [Option.map_eq_none_iff,List.find?_eq_none];intro x G e;exact h (aK.mpr ⟨x,G,bJ e⟩)
theorem U2:∀(more ps:List (κ×Addr×Value)),((ps++more).map (·.1)).Nodup->QY ps more=ps++more
 | [],ps,_=>(dO ps).symm
 | x::r,ps,h=>by
  have G:x.1∉ps.map (·.1):=λz=>by
   rw [aT,fH]at h;exact h.2.2 _ z _ (by rw [aR];exact aQ) rfl
  show QY (storedH ps x.1 x.2.1 x.2.2) r=_;rw [storedH_new (NA G)];have e:ps++x::r=(ps++[(x.1,x.2.1,x.2.2)])++r:=by simp
  rw [e]at h;rw [U2 r _ h,e]
end
section
variable{κ:Type} [DecidableEq κ]  {E:Value->Shared->Prop}
theorem JI{kd:HeapKind prog w κ}{ps:List (κ×Addr×Value)}{k:κ}{v:Value}{Q:Unit->Shared->Prop}(room:kd.room A)(isK:kd.is s.heap k b)(D:s.heap.DictOfH kd d ps)(small:ps.length<=sizeLine)
 (fin:∀h2,h2.DictOfH kd d (storedH ps k b v)->Heap.SameBut d s.heap h2->Q () { s with heap:=h2 }):wpAny (9:) A (dictSetHashed d (.ref b) (kd.hash k) v) Q E s:=by
 obtain⟨ob,ents,ep,L,ab,G,U,J,M⟩:=D;unfold dictSetHashed
 try with_reducible refine cF ?_
 refine aB (wpAny_dictFind_heap room isK L G U J M (λY=>?_) λj p Z=>?_)
 .have out:k∉ps.map (·.1):=not_mem_keys_of_get Y;have new:=storedH_new (atKey_none_of_get Y) b v;refine aB (eQ (wpAny_updateDictKeys (hz:=by have:=size_of_entries U;lia) L G ?_));refine fin _ ⟨_,_,ep+1,dX _ L (Obj.isFreed_of_dict (gQ G _)),ab.mapDictKeys _,gQ G _,?_,?_,?_⟩ (cU ..)
  .rw [new];simp [U,entryOfKey]
  .rw [new];intro y hy;rcases aY.mp hy with hy | hy
   .exact kd.keeps (J y hy) L G (cU ..)
   .obtain rfl:=bM.mp hy;exact kd.keeps isK L G (cU ..)
  .rw [new,aT,fH];refine⟨M,by simp,λy hy z hz=>?_⟩;obtain rfl:z=k:=by simpa using hz
   exact λq=>out (by rw [<-q];exact hy)
 .have aa:=storedH_old (atKey_of_get M Z) b v;refine aB (eQ (aB (wpAny_updateDict L G (wpAny_point ?_))));refine fin _ ⟨_,_,ep,dX _ L (Obj.isFreed_of_dict (Obj.data_mapDict G _)),ab.mapDict _,Obj.data_mapDict G _,?_,?_,?_⟩ (cU ..)
  .rw [aa];have z:=modify_map_putAt (entryOfKey kd) (λt:DictEntry=>{ t with val:=v }) k v (λ_ _=>rfl) M Z;rw [<-U]at z;obtain⟨l⟩:=ents
   simpa using z
  .rw [aa];intro y hy;obtain⟨z,hz,rfl⟩:=aK.mp hy;unfold putAt;split<;>exact kd.keeps (J z hz) L G (cU ..)
  .rw [aa,keys_map_putAt];exact M
theorem Wl{kn:KeyKind prog w κ}{o:Addr}{ps:List (List κ×Addr×Value)}{Q:Array DictEntry->Shared->Prop}(go:s.heap.get? o=some ob)(dat:ob.data=.dict ents ep)
 (eqs:ents.toList=ps.map (entryOfKey (tupleKind kn))) (isAll:∀x∈ps,(tupleKind kn).is s.heap x.1 x.2.1) (one:∀t∈ents,(ents.filter (·.hash==t.hash)).size<=1) (fin:Q ents s):
 wpAny (9:) A (Builtin.Dict.entriesForEmpty nm o) Q E s:=by
 unfold Builtin.Dict.entriesForEmpty;refine aB (c_ go dat ?_);refine aB ?_;rw [<-Array.forIn_toList];refine wpAny_forIn_list _ (λrest _ L=>L=s/\∀t∈rest,t∈ents) _ ?_ ?_ _ _ ⟨rfl,λt M=>gO.mp M⟩
 .rintro t rest u L ⟨rfl,mem⟩;have M:=mem t aQ;have U:=one t M;obtain⟨x,Y,rfl⟩:=aK.mp (eqs ▸ gO.mpr M);obtain⟨ok,its,n,g1,g2,_⟩:=isAll x Y;have Z:L.TypeIs (.ref x.2.1) "tuple":=⟨ok,g1,g2⟩;refine aB ?_;show wpAny _ _ (specialOf (.ref x.2.1) "__eq__">>=λr=>pure (r==some (.builtin "object.__eq__"))) _ _ _;refine aB (wpAny_specialOf Z F.slot_tuple_eq.lookup (aF ?_));have G:¬(ents.filter (λt=>t.hash==(entryOfKey (tupleKind kn) x).hash)).size>1:=by lia
  have J:L=L/\∀t∈rest,t∈ents:=⟨rfl,λt h=>mem t (aV _ h)⟩;split
  all_goals first | exact aF J | (rw [aG G];exact aF J) | (split;exact absurd (by assumption) G;exact aF J)
 .rintro u L ⟨rfl,_⟩;exact aF fin
theorem Nv{kn:KeyKind prog w κ}{ps:List (List κ×Addr×Value)}(eqs:ents.toList=ps.map (entryOfKey (tupleKind kn)))(nod:(ps.map (·.1)).Nodup)
 (apart:∀x∈ps,∀y∈ps,(tupleKind kn).hash x.1=(tupleKind kn).hash y.1->x.1=y.1):∀t∈ents,(ents.filter (·.hash==t.hash)).size<=1:=by
 intro t G;obtain⟨x,J,rfl⟩:=aK.mp (eqs ▸ gO.mpr G);have e:(ents.filter (·.hash==(entryOfKey (tupleKind kn) x).hash)).size=(ps.filter λy=>(tupleKind kn).hash y.1==(tupleKind kn).hash x.1).length:=by
  rw [<-eV,Array.toList_filter,eqs,List.filter_map,aE]
  rfl
 rw [e];have p:=UP (l:=(ps.filter λy=>(tupleKind kn).hash y.1==(tupleKind kn).hash x.1).map (·.1)) (r:=[x.1]) (nod.sublist (List.Sublist.map _ List.filter_sublist)) λz hz=>by
  obtain⟨y,L,rfl⟩:=aK.mp hz;obtain⟨h1,h2⟩:=dB.mp L;rw [apart y h1 x J (by simpa using h2)];exact aQ
 rw [aE]at p;exact p
theorem Xi{kn:KeyKind prog w κ}{o:Addr}{ps more:List (List κ×Addr×Value)}{Q:Unit->Shared->Prop}(ne:d≠o)(os:(o==sysModules)=false)(room:(tupleKind kn).room A)
 (D:s.heap.DictOfH (tupleKind kn) d ps) (M:s.heap.DictOfH (tupleKind kn) o more) (apart:∀x∈more,∀y∈more,(tupleKind kn).hash x.1=(tupleKind kn).hash y.1->x.1=y.1) (small:ps.length+more.length<=sizeLine)
 (fin:∀h2,h2.DictOfH (tupleKind kn) d (QY ps more)->Heap.SameBut d s.heap h2->Q () { s with heap:=h2 }):wpAny (9:) A (Builtin.Dict.mergeDict nm d o) Q E s:=by
 obtain⟨ob,ao,ai,gd,aj,J,ak,aq,ap⟩:=id D;obtain⟨oo,G,ar,go,as,L,U,aa,Z⟩:=id M;have sz:G.size=more.length:=size_of_entries U;have ae:(Heap.SameBut d s.heap s.heap):=Heap.SameBut.refl _ _;unfold Builtin.Dict.mergeDict;rw [aG (by simpa using ne)];unfold Builtin.Dict.showsAll;rw [aG (by rw [os];exact aS)];refine aB (aF ?_);refine aB (c_ go L ?_);have ab:wpAny (9:) A (do
  let ad <-dictEpoch o
  let l <-dictEntries o
  forIn [:l.size] PUnit.unit λi (_:PUnit)=>(do
   let l2 <-dictEntries o
   match l2[i]? with
    | some t=>do
     holding [t.key,t.val] (dictSetHashed d t.key t.hash t.val)
     let e2 <-dictEpoch o
     if(e2 !=ad)=true then do
         (unsupported (toString nm++toString ":source-changed-during-callback"):Sem PUnit)
         pure (ForInStep.yield PUnit.unit)
      else pure (ForInStep.yield PUnit.unit)
    | _=>do
     (unsupported "internal:dict-merge":Sem PUnit)
     pure (ForInStep.yield PUnit.unit):Sem (ForInStep PUnit))
  pure ()) Q E s:=by
  refine aB (eM go L (aB (c_ go L (aB ?_))));rw [Std.Legacy.Range.forIn_eq_forIn_range'];simp only [Std.Legacy.Range.size,Nat.sub_zero,Nat.add_sub_cancel,Nat.div_one];refine wpAny_forIn_list _ (λrest _ s2=>∃h2 i,s2={ s with heap:=h2 }/\rest=List.range' i (G.size-i)/\i<=G.size/\h2.DictOfH (tupleKind kn) d (QY ps (more.take i))/\h2.get? o=some oo/\Heap.SameBut d s.heap h2) _ ?_ ?_ _ _
   ⟨s.heap,0,rfl,by simp,bN _,by simpa [QY]using D,go,ae⟩
  .rintro y rest u s2 ⟨h2,i,rfl,Y,li,D2,ac,sb⟩;have lt:i<G.size:=by
    rcases Nat.lt_or_ge i G.size with z | z
    .exact z
    .rw [Nat.sub_eq_zero_of_le z]at Y;simp at Y
   obtain⟨rfl,al⟩:y=i/\rest=List.range' (i+1) (G.size-(i+1)):=by
    have q:G.size-i=(G.size-(i+1))+1:=by lia
    rw [q,List.range'_succ]at Y;exact⟨(List.cons.inj Y).1,(List.cons.inj Y).2⟩
   refine aB (c_ ac L ?_);obtain⟨x,ex⟩: ∃x,more[y]?=some x:=⟨_,aD (5:)⟩;rw [entry_at U y,ex];show wpAny _ _ (holding [Value.ref x.2.1,x.2.2] (dictSetHashed d (.ref x.2.1) ((tupleKind kn).hash x.1) x.2.2)>>=_) _ _ _;have few:(QY ps (more.take y)).length<=sizeLine:=by
    have q:=U9 (more.take y) ps;rw [cM]at q;lia
   have am:=(tupleKind kn).keeps (aa x (aL ex)) gd J sb;refine aB (cF (JI (s:={ s with heap:=h2 }) room am D2 few λh3 D3 af=>?_));have ag:h3.get? o=some oo:=(af.2 o (aW ne)).trans ac;refine aB (eM ag L ?_);rw [aG (17:)];exact aF ⟨h3,y+1,rfl,al,lt,by rw [Wn ps more y x ex];exact D3,ag,sb.trans af⟩
  .rintro u s2 ⟨h2,i,rfl,Y,li,D2,ac,sb⟩;have q:i=G.size:=by
    rcases Nat.lt_or_ge i G.size with z | z
    .have q:G.size-i=(G.size-(i+1))+1:=by lia
     rw [q,List.range'_succ]at Y;cases Y
    .exact Nat.le_antisymm li z
   rw [q,sz,dN]at D2;exact aF (fin h2 D2 sb)
 dsimp only;split
 .refine aB (c_ gd J ?_);split
  .rename_i an;have hp:ps=[]:=by
    have z:=size_of_entries ak;rw [Array.isEmpty_iff.mp an]at z;exact fz.mp z.symm
   subst hp;refine aB (Wl go L U aa (Nv U Z apart) ?_);have em:QY [] more=more:=U2 more [] Z;rw [em]at fin;split
   .refine aB (wpAny_updateDictKeysTo gd J (aF (fin _ ⟨_,_,ai+1,dX _ gd (Obj.isFreed_of_dict (gQ J _)),aj.mapDictKeys _,gQ J _,U,λx hx=>?_,Z⟩ (cU ..))) ?_)
    .exact(tupleKind kn).keeps (aa x hx) gd J (cU ..)
    .simp only [List.length_nil,fR]at small;lia
   .rename_i ah;have m0:more=[]:=by
     have z:G=#[]:=Array.isEmpty_iff.mp (by simpa using ah);rw [z]at sz;exact fz.mp sz.symm
    subst m0;exact aF (fin _ D ae)
  .exact ab
 .exact ab
end
section
variable{κ:Type} [DecidableEq κ]
theorem UR(kn:KeyKind prog w κ)(d o:Addr)(ne:d≠o)(os:(o==sysModules)=false):
 MeetsIn prog w (Builtin.«dict.update» ⟨[.ref d,.ref o],[]⟩) (λA R s=>(tupleKind kn).room A.in1/\∃ps more,s.heap.DictOfH (tupleKind kn) d ps/\s.heap.DictOfH (tupleKind kn) o more/\ps.length+more.length<=sizeLine/\
  (∀x∈more,∀y∈more,(tupleKind kn).hash x.1=(tupleKind kn).hash y.1->x.1=y.1)/\
  ∀h2,h2.DictOfH (tupleKind kn) d (QY ps more)->Heap.SameBut d s.heap h2->R (.ok (.ret .none)) { s with heap:=h2 }):=
 .of_wp λA R s ⟨room,ps,more,D,M,G,J,fin⟩=>by
  unfold Builtin.«dict.update»;refine aB ?_;unfold Builtin.Dict.selfAndRest;refine aB (gK D.typeIs (show wpAny _ _ (pure (d,[Value.ref o])) _ _ s from aF ?_));show wpAny _ _ (Builtin.Dict.updateFrom "dict.update" d (.ref o) [] .none) _ _ s;unfold Builtin.Dict.updateFrom;refine aB (fj M.typeIs ?_);rw [aG (11:)];refine aB ?_;unfold Builtin.Dict.merge;refine aB ?_;unfold Builtin.Dict.readDirectly;refine aB (fe M.typeIs isSubtype_dict_dict ?_);simp only [Bool.not_true,cE,bU];refine aB (wpAny_specialOf M.typeIs gq.lookup (aF ?_));simp only [beq_self_eq_true,cD];refine aB (aF (Xi ne os room D M J G λh2 L U=>?_));show wpAny _ _ (Builtin.Dict.addKeywords d []>>=_) _ _ _;exact aB (aF (aF ⟨.none,rfl,fin h2 L U⟩))
end
def Zw(kvs more:List (List Key×V)):List (List Key×V):=more.foldl (λacc q=>putK acc q.1 q.2) kvs
theorem YU:∀(more kvs:List (List Key×V)),(Zw kvs more).length<=kvs.length+more.length
 | [],kvs=>by show kvs.length<=kvs.length+0;lia
 | p::r,kvs=>by
  have h1:=YU r (putK kvs p.1 p.2);have h2:=Ye kvs p.1 p.2;show(Zw (putK kvs p.1 p.2) r).length<=_;rw [bK];lia
theorem KT.merge:∀{more:List (List Key×V)}{rs:List (List Key×Addr×Value)}{kvs:List (List Key×V)}{xs:List (List Key×Addr×Value)},KT H more rs->KT H kvs xs->KT H (Zw kvs more) (QY xs rs):=by
 intro more rs kvs xs r;unfold KT at r
 induction r generalizing kvs xs with
 | nil=>intro q;exact q
 | @cons p q ps qs h t G=>
  intro J;have e:KT H (putK kvs p.1 p.2) (storedH xs q.1 q.2.1 q.2.2):=by
   have z:=J.put p.1 h.2.1 h.2.2;rw [<-h.1];exact z
  exact G e
theorem KT.mem{xs:List (List Key×Addr×Value)}(r:KT H kvs xs):xs.map (·.1)=kvs.map (·.1):=by
 unfold KT at r
 induction r with
 | nil=>rfl
 | @cons p q ps qs h t G=>rw [aR,aR,G,h.1]
def NB(ks:List (List Key)):Prop:=∀(P:Program)(w:World),∀x∈ks,∀y∈ks,(tupleKind (Qw P w)).hash x=(tupleKind (Qw P w)).hash y->x=y
def Sc:V->List V->Hp->VK->Prop:=λx vs H Q=>∃(d o:Addr)(kvs more:List (List Key×V)),x=.ref d/\vs=[.ref o]/\d≠o/\H d=some (.dT kvs)/\H o=some (.dT more)/\kvs.length+more.length<=sizeLine/\NB (more.map (·.1))/\
 Q .non (upd H d (.dT (Zw kvs more)))
theorem ML(hu:X.A.units+1<cLine):MtR X "dict.update" Sc:=by
 intro pins s σ H x vs v us Q I rx rv h;obtain⟨d,o,kvs,G,rfl,rfl,ne,Z,ho,L,U,q⟩:=h;cases rx;obtain⟨u,rfl,ru⟩:=rv.one;cases ru;obtain⟨_,z1,xs,r1,D⟩:=Ld I.hok Z;obtain⟨_,z2,ys,Y,M⟩:=Ld I.hok ho;have l1:=eh r1;have l2:=eh Y;refine call_meetsIn PySem.F.slot_dict_update D.typeIs PySem.F.entry_dict_update (PySem.F.args_dict_update_2 _ _) (UR (Qw X.prog X.w) d o ne z2) ⟨tupleKind_room_in1 hu,xs,ys,D,M,by lia,λa ha b hb e=>?_,λh2 D2 sb=>?_⟩
 .refine U X.prog X.w _ ?_ _ ?_ e
  .rw [<-Y.mem];exact aK.mpr ⟨a,ha,rfl⟩
  .rw [<-Y.mem];exact aK.mpr ⟨b,hb,rfl⟩
 have J:(Zw kvs G).length<=sizeLine:=bX (YU G kvs) L;obtain⟨ob,es,ep,g1,g2,g3,g4,_,g5⟩:=D2;have new:ObjOk X.prog X.w (upd H d (.dT (Zw kvs G))) h2 d (.dT (Zw kvs G)):=by
  refine⟨J,z1,_,(Y.merge r1).keeps λc zs ec=>?_,ob,es,ep,g1,g2,g3,g4,g5⟩;rw [Qh (QN ec Z (λz=>nomatch z))];exact ec
 exact⟨.non,_,Jf I (by rw [Z];exact cQ) sb ⟨ob,g1⟩ new,rfl,q⟩
def DEnt(h:Heap)(d:Addr)(ents:Array DictEntry)(ep:Nat):Prop:=∃o,h.get? d=some o/\o.ExactDict/\o.data=.dict ents ep
section
variable{E:Value->Shared->Prop}
theorem DEnt.ty(x:DEnt s.heap d ents ep):s.TypeIs (.ref d) "dict":=by
 obtain⟨o,g,e,_⟩:=x;exact⟨o,g,e.1⟩
theorem DEnt.lt(x:DEnt h d ents ep):d<h.objs.size:=by
 obtain⟨o,g,_⟩:=x;exact aP g
theorem UB(lo:(d==sysModules)=false)(x:DEnt s.heap d ents ep)
 (fin:Q (.ref s.heap.objs.size) { s with heap:=s.heap.push { cls:=.type "dict_keyiterator",data:=.fields #[.ref d,.int 0 0,.int ents.size 0,.int ep 0] } }):wpAny (9:) A (pyIter (.ref d)) Q E s:=by
 have ty:=x.ty;obtain⟨o,g,ex,G⟩:=x;refine wpAny_pyIter_slot ty gq (dA gq ty F.entry_dict_iter ?_ (F.args_dict_iter_1 _));unfold Builtin.«dict.__iter__» Builtin.Dict.dictSlotNone;refine aB (aB (gK ty (show wpAny _ _ (pure (Value.ref d)) _ _ s from aF ?_)));show wpAny _ _ (Builtin.Dict.showsAll d>>=_) _ _ s;unfold Builtin.Dict.showsAll;rw [aG (by rw [lo];exact aS)];refine aB (aF (aB (c_ g G (aB (eM g G ?_)))));refine aB (cL (aF ⟨_,rfl,"dict_keyiterator",_,⟨_,bE _ rfl,rfl⟩,F.slot_dict_keyiterator_next.lookup,?_⟩))
 simpa [rawInt]using fin
theorem UG{t:DictEntry}{Q:Option Value->Shared->Prop}(hI:s.heap.IsKeyIter it d i ents.size ep)(x:DEnt s.heap d ents ep)(at_i:ents[i]?=some t)
 (fin:∀h2,h2.IsKeyIter it d (i+1) ents.size ep->Heap.SameBut it s.heap h2->Q (some t.key) { s with heap:=h2 }):wpAny (9:) A (pyNext (.ref it)) Q E s:=by
 obtain⟨oi,M,Z,G⟩:=id hI;obtain⟨od,Y,aa,J⟩:=id x;unfold pyNext;refine aB (8:);refine aB (aF (aB (aB ?_)))
 first | refine aB (en hI.typeIs (aF ?_)) | refine aB (eB hI.typeIs (aF ?_))
 refine aB (wpAny_fieldsOf M G ?_);have U:Builtin.Dict_items.ownsTuple "dict_keyiterator"=false:=by decide
 simp only [U,cE,bU];show wpAny _ _ (if(Value.ref d==Value.none)=true then _ else _) _ _ s;rw [aG (show ¬((Value.ref d==Value.none)=true)from aS)];refine aB (aF (aB (c_ Y J ?_)));rw [aG (17:)];refine aB (aF (aB (eM Y J ?_)));rw [aG (17:)];refine aF ?_;simp only [show ¬((i:Int)<0)from by lia,bU,aX,at_i];refine aB ?_
 first | refine aB (en hI.typeIs (aF ?_)) | refine aB (eB hI.typeIs (aF ?_))
 refine aB (gN hI.typeIs ?_);show wpAny _ _ (setField (.ref it) 1 (rawInt ((i:Int)+1))>>=_) _ _ s;refine aB (fN M G (17:) ?_);have L:(s.heap.update it (Obj.mapFields (·.setIfInBounds 1 (rawInt ((i:Int)+1))))).IsKeyIter it d (i+1) ents.size ep:=by
  refine⟨_,dX _ M (Obj.isFreed_of_fields (fF G _)),(Obj.cls_mapFields ..).trans Z,?_⟩;rw [fF G];simp [rawInt]
 refine aB (cF (aB (gN (s:={ s with heap:=s.heap.update it (Obj.mapFields (·.setIfInBounds 1 (rawInt ((i:Int)+1)))) }) L.typeIs ?_)));show wpAny _ _ (pure t.key) _ _ _;exact aF (aF ⟨_,rfl,aF (fin _ L (cU ..))⟩)
theorem JF{Q:Option Value->Shared->Prop}(hh:A.handled=none)(hI:s.heap.IsKeyIter it d ents.size ents.size ep)(x:DEnt s.heap d ents ep)(fin:∀h2,Heap.ExtBut it s.heap h2->Q none { s with heap:=h2 }):wpAny (9:) A (pyNext (.ref it)) Q E s:=by
 obtain⟨Z,L,ci,M⟩:=id hI;obtain⟨od,U,Y,G⟩:=id x;unfold pyNext;refine aB (8:);refine aB (aF (aB (aB ?_)))
 first | refine aB (en hI.typeIs (aF ?_)) | refine aB (eB hI.typeIs (aF ?_))
 refine aB (wpAny_fieldsOf L M ?_);have J:Builtin.Dict_items.ownsTuple "dict_keyiterator"=false:=by decide
 simp only [J,cE,bU];show wpAny _ _ (if(Value.ref d==Value.none)=true then _ else _) _ _ s;rw [aG (show ¬((Value.ref d==Value.none)=true)from aS)];refine aB (aF (aB (c_ U G ?_)));rw [aG (17:)];refine aB (aF (aB (eM U G ?_)));rw [aG (17:)];refine aF ?_;simp only [show ¬(((ents.size:Nat):Int)<0)from by lia,bU,aX,eD (4:)];refine aB ?_
 first | refine aB (en hI.typeIs (aF ?_)) | refine aB (eB hI.typeIs (aF ?_))
 show wpAny _ _ (setField (.ref it) 0 .none>>=_) _ _ s;refine aB (fN L M (17:) ?_);show wpAny _ _ (newExc (.type "StopIteration") []>>=_) _ _ _;refine aB ?_;simp only [newExc,newTuple];refine aB (cL ?_ (by size_fits));refine aB (m:=firstArgMember _ _) (wpAny_of_eq (a:=Value.none) (by first | rfl | (simp only [firstArgMember];rfl)) ?_);refine cL ?_ (by size_fits);simp only [raiseNew];refine aB (wpAny_handled ?_);rw [show A.in1.handled=none from hh];refine aB (aF (wpAny_throw ?_));refine aB (fe (T:="StopIteration") (b:=true) ⟨_,bE _ rfl,rfl⟩ isSubtype_stop ?_);exact aF (fin _ (((cU ..).extBut.push _).push _))
theorem Ux(hh:A.handled=none)(ne:d≠it):Walks prog w A it [it,d] [it] ents.size (λi v=>∃t,ents[i]?=some t/\v=t.key) (λi h=>h.IsKeyIter it d i ents.size ep/\DEnt h d ents ep) where
 sub:=λb G=>by simp at G;simp [G]
 frame:=λ_ h h2 st k=>by
  obtain⟨⟨M,Y,Z⟩,J,L,rd⟩:=st;exact⟨⟨M,k it (17:) M Y,Z⟩,J,k d (17:) J L,rd⟩
 item:=λi s Q E hi st fin=>by
  refine UG st.1 st.2 (eA hi) λh2 I2 U=>?_;obtain⟨J,L,rd⟩:=st.2;refine fin _ h2 s.toks ⟨_,eA hi,rfl⟩ ⟨I2,J,U.extBut d J ne L,rd⟩ λb o G e=>U.extBut b o (λz=>G (by simp [z])) e
 done:=λs Q E st fin=>JF hh st.1 st.2 λh2 he=>fin h2 s.toks λb o G e=>he b o (λz=>G (by simp [z])) e
 self:=λ_ _ _ _ st fin=>wpAny_pyIter_keyiter st.1 fin
theorem JY(lo:(d==sysModules)=false):KdlSrc prog w "dict" d d ents.size (λi v=>∃t,ents[i]?=some t/\v=t.key) (λh=>DEnt h d ents ep) where
 type:=λ_ x=>x.ty
 there:=λ_ x=>⟨x.lt,x.lt⟩
 keep:=λ_ _ x k=>by
  obtain⟨o,g,r⟩:=x;exact⟨o,k d (.inl rfl) o g,r⟩
 notList:=by decide
 notTuple:=by decide
 hint:=λ_ _ _ _ x q=>kdl_hint_dict x.ty q
 iter:=λ_ _ G x=>⟨_,_,(λ_ _ q=>UB lo x q),Ux G (bD x.lt),⟨⟨_,bE _ rfl,rfl,rfl⟩,by
  obtain⟨o,g,r⟩:=x;exact⟨o,aN _ g,r⟩⟩⟩
theorem WH(hh:A.handled=none)(lo:(d==sysModules)=false)(x:DEnt s.heap d ents ep)(h64:ents.size<64)
 (fin:∀(h1:Heap)(tk:Nat),(∀b o,s.heap.get? b=some o->h1.get? b=some o)->(h1.push (seqObj "list" (ents.toList.map (·.key)).toArray 0)).get? h1.objs.size=some (seqObj "list" (ents.toList.map (·.key)).toArray 0)->
  wpAny (9:) A.in1.in1 (Builtin.«list.sort» ⟨[.ref h1.objs.size],[]⟩) (λfn s2=>∃v,fn=.done (.ret v)/\Q (.ref h1.objs.size) s2) E { s with heap:=h1.push (seqObj "list" (ents.toList.map (·.key)).toArray 0),toks:=tk }):
 wpAny (9:) A (call (.builtin "sorted") [.ref d]) Q E s:=by
 refine Calls.call_function_entry kind_sorted plain_sorted entry_sorted (args_sorted1 _) ?_;unfold Builtin.«sorted»;refine aB (m:=checkCount "sorted" 1 1 _) (aF ?_);refine aB (kdu_collect (A:=A.in1) (JY lo) hh x (by rw [cO];lia) λh1 tk acc keep its=>?_);have e:acc.toList=ents.toList.map (·.key):=by
  refine gR λj=>?_;rw [aJ,fW,fW]
  by_cases J:j<ents.size
  .have G:j<acc.size:=by rw [its.1];exact J
   obtain⟨t,L,M⟩:=its.2 j _ (eA G);rw [eA G,L,M];rfl
  .have G:¬j<acc.size:=by rw [its.1];exact J
   rw [eD (eR.mp G),eD (eR.mp J)];rfl
 rw [e];refine aB (wpAny_newList ?_ (by rw [aE,eV,cO];lia));have new:(h1.push (seqObj "list" (ents.toList.map (·.key)).toArray 0)).get? h1.objs.size=some (seqObj "list" (ents.toList.map (·.key)).toArray 0):=bE _ rfl;refine aB (cF (dA slot_list_sort ⟨_,new,rfl⟩ entry_list_sort (dD (fin h1 tk keep new) (λfn s2 U=>?_) λ_ _ z=>z) (args_list_sort _)));obtain⟨v,rfl,q⟩:=U;exact⟨_,rfl,aF ⟨_,rfl,q⟩⟩
end
abbrev PII:=Addr×Int×Int
def PairZ(h:Heap)(t:PII):Prop:=∃(u v:Tok),h.IsTuple t.1 [Value.int t.2.1 u,Value.int t.2.2 v].toArray
theorem PairZ.keeps{t:PII}(k:∀b o,h.get? b=some o->h'.get? b=some o)(x:PairZ h t):PairZ h' t:=by
 obtain⟨u,v,z⟩:=x;exact⟨u,v,IsTuple.keeps k z⟩
theorem J0:∀{ts:List PII},(∀t∈ts,PairZ h t)->∃fs:List Value,KatTups h (ts.map λt=>Value.ref t.1) fs/\(∀v∈fs,∃x t,v=Value.int x t)/\fs.length=ts.length
 | [],_=>⟨[],KatTups.nil,λv G=>(nomatch G),rfl⟩
 | t::r,ht=>by
  obtain⟨u,v,⟨o,go,J,n,L⟩⟩:=ht t aQ;obtain⟨fs,h1,h2,M⟩:=J0 λx U=>ht x (aV _ U);refine⟨Value.int t.2.1 u::fs,KatTups.cons go J L rfl h1,λz hz=>?_,by simp [M]⟩;rcases aM.mp hz with rfl | hz
  .exact⟨_,_,rfl⟩
  .exact h2 z hz
section
variable{E:Value->Shared->Prop}
theorem O9{t u:PII}{C:Bool->Shared->Prop}(ht:PairZ s.heap t)(hu:PairZ s.heap u)(h:C (HT.lexLt [t.2.1,t.2.2] [u.2.1,u.2.2]) s):wpAny (9:) A (keyLt' (tuples' true) (.ref t.1) (.ref u.1)) C E s:=by
 obtain⟨L,a2,⟨ox,M,cx,nx,dx⟩⟩:=ht;obtain⟨U,b2,⟨oy,Y,cy,ny,Z⟩⟩:=hu;refine kat_lt M dx Y Z ?_;show KatLex prog w A true (decide (2<2)) C [(Value.int t.2.1 L,Value.int u.2.1 U),(Value.int t.2.2 a2,Value.int u.2.2 b2)] 0 s;refine kat_cons (wpAny_eqBool_int (kat_go (λe=>?_) λe=>?_))
 .have G:t.2.1=u.2.1:=by simpa using e
  rw [HT.lexLt_cons,aH G]at h;refine kat_yes (kat_cons (wpAny_eqBool_int (kat_go (λe=>?_) λe=>?_)))
  .have J:t.2.2=u.2.2:=by simpa using e
   rw [HT.lexLt_cons,aH J]at h;exact kat_yes (kat_nil h)
  .have J:¬t.2.2=u.2.2:=by simpa using e
   rw [HT.lexLt_cons,aG J]at h;exact kat_no (kat_one _ _ (wpAny_lt_int h))
 .have G:¬t.2.1=u.2.1:=by simpa using e
  rw [HT.lexLt_cons,aG G]at h;exact kat_no (oneLt_int h)
theorem VY{ts:List PII}{P:PySem.Fin->Shared->Prop}(ho:s.heap.get? a=some (seqObj "list" (ts.map λt=>Value.ref t.1).toArray n))(ht:∀t∈ts,PairZ s.heap t)
 (h64:ts.length<64) (h:∀out:List PII,out.Perm ts->P (.done (.ret .none)) { s with heap:=sortedHeap s.heap a (ts.map λt=>Value.ref t.1) (out.map λt=>Value.ref t.1).toArray }):
 wpAny (9:) A (Builtin.«list.sort» ⟨[.ref a],[]⟩) P E s:=by
 let d:PII:=(0,0,0)
 have J:∀i,i<ts.length->(ts.map λt=>Value.ref t.1).getD i Value.none=.ref (ts.getD i d).1:=λi hi=>by simp [eo,hi]
 have md:∀i,i<ts.length->ts.getD i d∈ts:=λi hi=>by simp [eo,hi]
 have L:∀(s':Shared),(∀b o,b≠a->s.heap.get? b=some o->s'.heap.get? b=some o)->∀t∈ts,PairZ s'.heap t:=λs' G t Y=>by
  obtain⟨u,v,⟨o,go,Z,gn,aa⟩⟩:=ht t Y;have ab:t.1≠a:=λz=>by
   rw [z,ho]at go;cases go;exact absurd (Value.type.inj Z) (11:)
  exact⟨u,v,⟨o,G _ _ ab go,Z,gn,aa⟩⟩
 have ek:(Value.type "int" !=Value.type "tuple")=true:=by decide+kernel
 refine WM lexOrd (λi=>[(ts.getD i d).2.1,(ts.getD i d).2.2]) (tuples' true) ho (by simpa using h64) (λs' Q' G h2 hq=>?_) (λs' i j C G hi M hC=>?_) λpp U o2=>?_
 .obtain⟨fs,f1,f2,f3⟩:=J0 (L s' G);refine kat_kind (T:=.type "int") f1 (by rw [f3];rw [aE]at h2;lia) (λv hv=>?_) (1:) (by rw [ek];exact hq);obtain⟨x,t,rfl⟩:=f2 v hv;exact .now
 .rw [aE]at hi M;rw [J i hi,J j M];exact O9 (L s' G _ (md i hi)) (L s' G _ (md j M)) hC
 .rw [aE]at U o2;have em:(pp.toList.map λi=>(ts.map λt=>Value.ref t.1).getD i Value.none)=(pp.toList.map λi=>ts.getD i d).map λt=>Value.ref t.1:=by
   rw [bY];refine fZ λi hi=>?_;exact J i (cN.mp (U.mem_iff.mp hi))
  rw [em];obtain⟨w1,_⟩:=LL (O:=lexOrd) (ts:=ts) (d:=d) (key:=λt=>[t.2.1,t.2.2]) U o2;exact h _ w1
end
theorem Xf(hc:X.calm=true):Q6 X (.builtin "sorted") (λxs H Q=>∃(d:Addr)(kvs:List (List Key×V))(cs:List (Int×Int)),xs=[.ref d]/\H d=some (.dT kvs)/\kvs.map (·.1)=cs.map (λc=>[Sum.inl c.1,Sum.inl c.2])/\cs.length<64/\
 ∀(out:List PII) p,(out.map (·.2)).Perm cs->(∀t∈out,H t.1=some (.tup [.int t.2.1,.int t.2.2]))->H p=none->Q (.ref p) (upd H p (.lst (out.map λt=>V.ref t.1)))):=by
 intro pins s σ H xs us Q I r h;obtain⟨d,kvs,cs,rfl,hd,M,ac,q⟩:=h;cases r with
 | cons r rr=>
  cases rr;obtain rfl:_=Value.ref d:=r;obtain⟨z,lo,ys,U,hD⟩:=Ld I.hok hd;have L:=U.mem;have ab:kvs.length=cs.length:=by have:=congrArg List.length M;simpa using this
  have ad:=eh U;obtain⟨o,ents,ep,g1,g2,g3,g4,g5,g6⟩:=hD;have ae:ents.size=ys.length:=size_of_entries g4;have af:∃G:List PII,ents.toList.map (·.key)=(G.map λt=>Value.ref t.1)/\G.map (·.2)=cs/\∀t∈G,H t.1=some (.tup [.int t.2.1,.int t.2.2]):=by
   rw [g4,bY];clear g4 g5 g6 ae ad z hd ab ac q
   induction U generalizing cs with
   | nil=>
    cases cs with
    | nil=>exact⟨[],rfl,rfl,λt ht=>(nomatch ht)⟩
    | cons _ _=>cases M
   | @cons p y ps ys h t ih=>
    cases cs with
    | nil=>cases M
    | cons c cs=>
     rw [aR,aR]at M;injection M with k1 k2;rw [aR,aR]at L;injection L with k3 k4;obtain⟨G,e1,Y,Z⟩:=ih cs k2 k4;refine⟨(y.2.1,c.1,c.2)::G,by rw [aR,aR,e1];rfl,by rw [aR,Y],λt ht=>?_⟩;rcases aM.mp ht with rfl | ht
     .have:=h.2.1;rw [k1]at this;exact this
     .exact Z t ht
  obtain⟨G,e1,Y,Z⟩:=af;have ah:G.length=cs.length:=by have:=congrArg List.length Y;simpa using this
  have hP:∀t∈G,PairZ s.heap t:=λt ht=>by
   obtain⟨its,r1,p1,_⟩:=I.tuple (SqT.of (K:=X.K) (Z t ht));obtain⟨u,v,rfl,ru,rv⟩:=r1.two;obtain⟨t1,rfl⟩:=(show ∃tk,u=Value.int _ tk from ru);obtain⟨t2,rfl⟩:=(show ∃tk,v=Value.int _ tk from rv);exact⟨t1,t2,p1⟩
  refine WH (I.ok.hd hc) lo ⟨o,g1,g2,g3⟩ (5:) λh1 tk keep new=>?_;rw [e1]at new ⊢;have I1:Inv X pins σ H { s with heap:=h1,toks:=tk }:=I.kept keep;refine VY new (λt ht=>(hP t ht).keeps λb o e=>aN _ (keep b o e)) (5:) λout J=>⟨_,rfl,?_⟩;have ag:H h1.objs.size=none:=I1.hok.fresh (4:);obtain⟨e,he⟩:=sortedHeap_at (vs:=G.map λt=>Value.ref t.1) (out:=(out.map λt=>Value.ref t.1).toArray) new;refine⟨.ref h1.objs.size,_,I1.laid (t':=tk) (o:=.lst (out.map λt=>V.ref t.1)) (λb o g=>?_) (4:) ?_,rfl,q out _ (by rw [<-Y];exact J.map _) (λt ht=>Z t (J.mem_iff.mp ht)) ag⟩
  .have aa:b<h1.objs.size:=aP g;exact(sortedHeap_old (bD aa) (by rw [size_push'];exact Nat.lt_succ_of_lt aa)).trans (aN _ g)
  .exact⟨by rw [aE,J.length_eq,cO];lia,_,e,Uz out,he⟩
end L2
namespace L2
open PySem
theorem Sv{c:TT}{tb:TS}{D:Ends}(J:Nat->St->Hp->Prop)(m0:Nat)(h0:J m0 σ H)
 (hs:∀m σ H,J m σ H->c σ H λb H1=>if b=true then tb { D with nx:=λσ' H'=>∃m'<m,J m' σ' H',ct:=λσ' H'=>∃m'<m,J m' σ' H',bk:=D.nx } σ H1 else D.nx σ H1)
 (mono:∀σ H Q Q',(∀b H1,Q b H1->Q' b H1)->c σ H Q->c σ H Q'):Oa c tb D σ H:=by
 refine⟨J,⟨m0,h0⟩,?_⟩;intro m σ H p;refine mono σ H _ _ (λb H1 q=>?_) (hs m σ H p);cases b with
 | true=>exact⟨_,λσ' H' ⟨m',l,G⟩=>⟨m',l,G⟩,q⟩
 | false=>exact q
end L2
namespace ST
open PySem TM TT L2 K11 K9
theorem ModesL.insX{K:Fg}{x:Addr}(i:InsAt H x)(g:SameX x H H')(h:ModesL K H lm ms):ModesL K H' lm ms:=
 ⟨i.seq g h.1,λm G=>⟨i.seqT g (h.2 m G).1,i.seq g (h.2 m G).2.1,(h.2 m G).2.2.mono λ_ _=>i.seqT g⟩⟩
def rlOf(ks:List KdT)(ms:List MdT):Rls:=ms.map λm=>Q3 (Qt ks m.2.1) m.2.2.2.2
theorem Oz{S T:List Stp}(hl:S.length=T.length)(h:∀m:Nat,lookS S (m:Int)=lookS T (m:Int)):S=T:=by
 refine gR λm=>?_;have e:=h m;unfold lookS at e;rw [aX]at e
 by_cases J:m<S.length
 .have G:m<T.length:=by lia
  rw [aD J,aD G]at e ⊢;exact congrArg some e
 .rw [dY (5:),dY (5:)]
structure RlAt(ms:List MdT)(rl:Rls):Prop where
 ok:JH rl
 len:rl.length=ms.length
 fwd:∀c∈QT ms ms.length,∀t,Zx ms c=some t->∃rs b,rl[c.1.toNat]?=some rs/\(b,t)∈rs
 bwd:∀(m:Nat) rs,rl[m]?=some rs->∀r∈rs,∃c∈QT ms ms.length,c.1=(m:Int)/\Zx ms c=some r.2
theorem UI{rl:Rls}{n m:Nat}{rs:List (Bool×Tm)}(h:rl[m]?=some rs):lookS (D rl (n+1)) (m:Int)=Uw (D rl n) rs:=by
 show lookS (rl.map (Uw (D rl n))) (m:Int)=_;rw [ZD,aX,h]
 rfl
theorem Vv{rl:Rls}(R:RlAt ms rl){c:Int×Int}{t:Tm}(hc:c∈QT ms ms.length)(ht:Zx ms c=some t):Bel (lookS (D rl (n+1)) c.1) (rsT (lookS (D rl n)) t):=by
 obtain⟨G,b,h1,h2⟩:=R.fwd c hc t ht;obtain⟨m,j,rfl,J,L⟩:=ZR.mp hc;rw [show((m:Int),(j:Int)).1.toNat=m from aX m]at h1;show Bel (lookS (D rl (n+1)) (m:Int)) _;rw [UI h1];exact Yr (aK.mpr ⟨_,h2,rfl⟩)
theorem L3{ms:List MdT}{rl:Rls}(R:RlAt ms rl){n:Nat}{T:List Stp}(hl:T.length=rl.length)(h2:∀m:Nat,Bel (lookS (D rl (n+1)) (m:Int)) (lookS T (m:Int)))
 (h3:∀c∈QT ms ms.length,∀t,Zx ms c=some t->Bel (lookS T c.1) (rsT (lookS (D rl n)) t)):T=D rl (n+1):=by
 refine Oz (by rw [hl,Uf]) λm=>?_
 by_cases G:m<rl.length
 .have J:=aD G;have up:Bel (lookS T (m:Int)) (Uw (D rl n) rl[m]):=by
   obtain⟨⟨r0,L,_⟩,_⟩:=R.ok rl[m] (aO G);refine J9 (λz=>?_) λy U=>?_
   .have:=congrArg List.length z;rw [aE]at this;have:=List.length_pos_of_mem L
    simp_all
   .obtain⟨r,M,rfl⟩:=aK.mp U;obtain⟨c,Y,e,Z⟩:=R.bwd m _ J r M;have:=h3 c Y r.2 Z;rw [e]at this;exact this
  rw [<-UI (n:=n) J]at up;exact Bel.anti up (h2 m)
 .have e1:lookS T (m:Int)=.op:=by unfold lookS;rw [aX,dY (5:)];rfl
  have e2:lookS (D rl (n+1)) (m:Int)=.op:=by unfold lookS;rw [aX,dY (by rw [Uf];lia)];rfl
  rw [e1,e2]
theorem Mu{rl:Rls}(R:RlAt ms rl)(h:∀c∈QT ms ms.length,∀t,Zx ms c=some t->Bel (lookS (D rl n) c.1) (rsT (lookS (D rl n)) t)):D rl (n+1)=D rl n:=
 (L3 R (T:=D rl n) (Uf _ _) (λm=>Xo R.ok n m) h).symm
end ST
namespace K41
open PySem L2 TM TT ST K9 K11
abbrev TN:Stmt:=top 18
abbrev PY:Stmt:=top 29
abbrev Nn:Stmt:=top 30
def dW(ks:List KdT):List (Str×List PNx):=ks.map λk=>(k.2.1,k.2.2.2)
theorem XS(kind:Str):∀ks:List KdT,Qt ks kind=(((dW ks).find? λk=>decide (k.1=kind)).map λk=>k.2).getD []
 | []=>rfl
 | k::r=>by
  have G:=XS kind r;unfold Qt at G ⊢;unfold dW at G ⊢;rw [aR,cI,cI]
  by_cases e:k.2.1=kind
  .rw [bO e];rfl
  .rw [bV e];exact G
theorem On{ks:List KdT}(h:dW ks'=dW ks)(kind:Str):Qt ks' kind=Qt ks kind:=by rw [XS,XS,h]
theorem WoodOk.dW{ks:List KdT}(h:dW ks'=dW ks)(o:WoodOk ks):WoodOk ks':=by
 have h1:(ks'.map λk=>k.2.1)=ks.map λk=>k.2.1:=by
  have:=congrArg (List.map Prod.fst) h;unfold K41.dW at this;rw [bY,bY]at this;exact this
 refine⟨by rw [h1];exact o.nd,?_,λk L=>?_⟩
 .have:=congrArg List.length h1;rw [aE,aE]at this;rw [this];exact o.len
 .have G:(k.2.1,k.2.2.2)∈K41.dW ks':=List.mem_map_of_mem L;rw [h]at G;obtain⟨M,J,e⟩:=aK.mp G;injection e with Y U;rw [<-U];exact o.rows M J
structure NewWd(K:Fg)(H H':Hp)(lw:Addr)(ks:List KdT):Prop where
 n0:H lw=none
 at0:H' lw=some (.lst (ks.map λk=>V.ref k.1))
 kd:∀k∈ks,SqT K H' k.1 [.str k.2.1,.ref k.2.2.1]/\H' k.2.2.1=some (.lst (k.2.2.2.map λt=>V.ref t.1))/\H k.2.2.1=none/\∀t∈k.2.2.2,RowAt K H' t
theorem NewWd.wood{K:Fg}{ks:List KdT}(h:NewWd K H H' lw ks):WoodAt K H' lw ks:=⟨SqL.of h.at0,λk G=>⟨(h.kd k G).1,SqL.of (h.kd k G).2.1,(h.kd k G).2.2.2⟩⟩
abbrev Sf(K:Fg):List V->Hp->VK->Prop:=λxs H Q=>∃p ys,xs=[.ref p]/\(SqL K H p ys\/SqT K H p ys)/\∀l,H l=none->Q (.ref l) (upd H l (.lst ys))
def PD(K:Fg):Sp:=λvs H Q _=>∃(w:Addr)(ks:List KdT),vs=[.ref w]/\WoodAt K H w ks/\ks.length<=100/\∀(lw:Addr)(H':Hp)(ks':List KdT),Same H H'->NewWd K H H' lw ks'->dW ks'=dW ks->Q (.ref lw) H'
def Yg(ps:List Ky)(p:Ky):List Ky:=if p∈ps then ps else ps++[p]
def QC(ps l:List Ky):List Ky:=l.foldl Yg ps
theorem YI(ps l r:List Ky):QC ps (l++r)=QC (QC ps l) r:=List.foldl_append ..
theorem No{ps:List Ky}{d e:Ky}:e∈Yg ps d↔e∈ps\/e=d:=by
 unfold Yg
 by_cases h:d∈ps
 .rw [aH h];exact⟨.inl,λz=>z.elim id λz=>by rw [z];exact h⟩
 .rw [aG h];simp
theorem Zf{e:Ky}:∀{l ps:List Ky},e∈QC ps l↔e∈ps\/e∈l
 | [],ps=>by simp [QC]
 | d::l,ps=>by
  show e∈QC (Yg ps d) l↔_;rw [Zf,No,aM,or_assoc]
theorem N8{ps:List Ky}{d:Ky}:ps.length<=(Yg ps d).length:=by
 unfold Yg
 by_cases e:d∈ps
 .rw [aH e];exact aZ _
 .rw [aG e,bH];lia
theorem UA:∀{l ps:List Ky},ps.length<=(QC ps l).length
 | [],ps=>aZ _
 | d::l,ps=>bX N8 (UA (l:=l) (ps:=Yg ps d))
theorem UE:∀{l ps:List Ky},∃r,QC ps l=ps++r
 | [],ps=>⟨[],by simp [QC]⟩
 | d::l,ps=>by
  obtain⟨r,e⟩:=UE (l:=l) (ps:=Yg ps d)
  by_cases h:d∈ps
  .have G:Yg ps d=ps:=aH h;rw [G]at e;exact⟨r,by show QC (Yg ps d) l=_;rw [G];exact e⟩
  .have G:Yg ps d=ps++[d]:=aG h;rw [G]at e;exact⟨d::r,by show QC (Yg ps d) l=_;rw [G,e,e_];rfl⟩
def nD(p:List Nat):List PyData:=p.map λ(i:Nat)=>PyData.int (i:Int)
def kD(q:Ky):PyData:=.tuple [.int q.1,.tuple (nD q.2)]
theorem NS:∀{p q:List Nat},nD p=nD q->p=q
 | [],[],_=>rfl
 | [],_::_,h=>by simp [nD]at h
 | _::_,[],h=>by simp [nD]at h
 | i::p,j::q,h=>by
  simp only [nD,aR,gw,PyData.int.injEq]at h;rw [NS (p:=p) (q:=q) h.2,show i=j by lia]
theorem Af{p:Ky}(h:kD p=kD q):p=q:=by
 simp only [kD,PyData.tuple.injEq,gw,PyData.int.injEq,and_true]at h;exact Prod.ext h.1 (NS h.2)
theorem Ly(q:Ky):nk 6 (kD q):=by
 refine .inr (.inr ⟨_,rfl,λe he=>?_⟩);rcases aM.mp he with rfl | he
 .exact .inl ⟨_,rfl⟩
 rw [bM.mp he];refine .inr (.inr ⟨_,rfl,λe he=>?_⟩);obtain⟨i,_,rfl⟩:=aK.mp he;exact .inl ⟨_,rfl⟩
theorem PrV.rd{K:Fg}(h:PrV K H a q):RdV K H (.ref a) (kD q):=by
 obtain⟨c,h1,h2⟩:=h;have:∀p:List Nat,RdAll K H (PN p) (nD p):=λp=>by
  induction p with
  | nil=>exact .nil
  | cons i r G=>exact .cons (.int _) G
 exact .tup h1 (.cons (.int _) (.cons (.tup h2 (this _)) .nil))
abbrev NL:=List (Ky×Addr)
abbrev kys(l:NL):List Ky:=l.map (·.1)
def Yd(l:NL):NKv:=l.zipIdx.map λz=>(kD z.1.1,z.1.2,V.int (z.2:Int))
theorem Yk(l:NL):(Yd l).length=l.length:=by unfold Yd;simp
theorem MN(l:NL)(z:Ky×Addr):Yd (l++[z])=Yd l++[(kD z.1,z.2,V.int (l.length:Int))]:=by
 unfold Yd;rw [List.zipIdx_append,aT];simp
def ixP(ps:List Ky)(p:Ky):Int:=(ps.idxOf p:Int)
theorem G7(p:Ky):∀(l:NL)(k:Nat),YM ((l.zipIdx k).map λz=>(kD z.1.1,z.1.2,V.int (z.2:Int))) (kD p)=if p∈kys l then some (.int (((kys l).idxOf p+k:Nat):Int))else none
 | [],k=>by simp [YM]
 | q::r,k=>by
  have J:=G7 p r (k+1);unfold YM at J ⊢;rw [List.zipIdx_cons,aR,cI]
  by_cases e:q.1=p
  .rw [bO (by show kD q.1=kD p;rw [e]),aH (by simp [e])];simp [List.idxOf_cons,e]
  .rw [bV (show ¬kD q.1=kD p from λz=>e (Af z))];have L:(q.1==p)=false:=by simpa using e
   refine J.trans ?_;have M:kys (q::r)=q.1::kys r:=rfl;rw [M]
   by_cases G:p∈kys r
   .rw [aH G,aH (aV _ G),List.idxOf_cons,L];simp only [cond_false]
    congr 3
    lia
   .rw [aG G,aG (λz=>by rcases aM.mp z with z | z;exact e z.symm;exact G z)]
theorem Gc(p:Ky)(l:NL):YM (Yd l) (kD p)=if p∈kys l then some (.int (ixP (kys l) p))else none:=G7 p l 0
structure NumD(P:Program)(w:World)(K:Fg)(H:Hp)(d:Addr)(l:NL):Prop where
 a:H d=some (NdO P w d (Yd l))
 k:∀z∈l,PrV K H z.2 z.1
theorem NumD.ks{P:Program}{w:World}{K:Fg}{H:Hp}{d:Addr}{l:NL}(h:NumD P w K H d l):Xl K H (Yd l):=λp hp=>by
 unfold Yd at hp;obtain⟨z,hz,rfl⟩:=aK.mp hp;have G:z.1∈l:=by
  obtain⟨_,_,e⟩:=List.mem_zipIdx hz;rw [e];exact aO _
 exact⟨(h.k z.1 G).rd,Ly _⟩
theorem NumD.mono{K:Fg}{l:NL}(h:NumD P w K H d l)(g:∀a xs,SqT K H a xs->SqT K H' a xs)(e:H' d=H d):NumD P w K H' d l:=⟨by rw [e];exact h.a,λz hz=>(h.k z hz).mono g⟩
theorem NumD.same{K:Fg}{l:NL}(h:NumD P w K H d l)(g:Same H H'):NumD P w K H' d l:=⟨g _ _ h.a,λz hz=>(h.k z hz).mono λ_ _=>g.seqT⟩
theorem Jg{K:Fg}{kvs:NKv}(h:H d=some (NdO P w d kvs))(g:SameX d H H'):∀a xs,SqT K H a xs->SqT K H' a xs:=λa xs q=>by
 rcases q with(q | ⟨o,q⟩) | q
 .exact .inl (.inl (g _ _ (QN q h (18:)) q))
 .exact .inl (.inr ⟨o,g _ _ (QN q h (18:)) q⟩)
 .exact .inr q
inductive GetN(P:Program)(w:World)(K:Fg)(a b:Addr)(H:Hp)(Q:VK):Prop where
 | g (l:NL) (q:Ky) (h:NumD P w K H a l) (hb:PrV K H b q) (hm:q∈kys l) (k:Q (.int (ixP (kys l) q)) H):GetN P w K a b H Q
def Ta(P:Program)(w:World)(K:Fg):List V->Hp->VK->Prop:=G3.on2 λx y H Q=>match x,y with
 | .ref a,.ref b=>GetN P w K a b H Q
 | _,_=>False
open G3 in
theorem MG{K:Fg}{k:Nat}(c:G3.Cxt X P w K mg base k):G3.NodeOk X G3.shIx (Ta P w K):=by
 obtain⟨rfl,rfl,rfl,rfl,rfl,J,Z⟩:=c;exact .plain λe es ts G h=>by
  unfold shIx at G;split at G
  .split at G
   .rename_i L;cases G;obtain⟨t,u,rfl,h1,h2⟩:=h.two;refine⟨Zc (SN (by have:=J.un;lia) (QX h1) (QX h2) (PR L)) λσ H Q q=>⟨_,q,λx H1 q=>⟨_,q,λy H2 q=>?_⟩⟩,rfl⟩;cases x with
    | ref d=>
     cases y with
     | ref b=>
      cases q with
      | g l q h M U Y=>exact⟨d,b,_,_,_,rfl,rfl,h.a,h.ks,M.rd,Ly _,by rw [Gc,aH U],Y⟩
     | _=>exact False.elim q
    | _=>cases y<;>exact False.elim q
   .cases G
  .cases G
theorem hu9{k:Nat}(hr:Room k A):A.units+9<cLine:=by have:=hr.un;lia
def Gb(K:Fg)(n:Nat):Sp:=λvs H Q _=>∃(v:V)(t:TX),vs=[v]/\TxV K H v t/\lv t<=n/\∀(H':Hp),Same H H'->Q (.int (lv t:Int)) H'
def Wm(P:Program)(w:World)(K:Fg)(n:Nat):Sp:=λvs H Q _=>∃(v:V)(d:Addr)(l:NL)(t:TX),vs=[v,.ref d]/\TxV K H v t/\lv t<=n/\NumD P w K H d l/\(∀c∈clX t,c.1∈kys l)/\∀(v':V)(H':Hp),Same H H'->TmV K H' v' (mpX (ixP (kys l)) t)->Q v' H'
def cWM:List G3.S:=[.ite (.call 0 [.v 0]) [.ret (.tup [.k (.str "call"),.nd 0 [.v 1,.ix (.v 0) (.k (.int 1))],.ix (.v 0) (.k (.int 2))])] [],.ret (.call 1 [.v 0,.comp 2 (.ix (.v 0) (.k (.int 4))) [1] (.call 2 [.v 0,.v 1])])]
def nWM(P:Program)(w:World)(K:Fg)(n:Nat):G3.En:=⟨K,[λ_ vs H Q=>Zz K vs H Q E0,λ_ vs H Q=>Gq K vs H Q E0,λ_ vs H Q=>Wm P w K n vs H Q E0],[],[Ta P w K],[]⟩
def Ba(P:Program)(w:World)(K:Fg)(n:Nat):Sp:=λvs H Q _=>∃(v:V)(d:Addr)(l:NL)(t:TX)(most:Nat),vs=[.ref d,v,.int (most:Int)]/\TxV K H v t/\lv t<=n/\sz t<=1000/\NumD P w K H d l/\most<=1000/\(QC (kys l) ((clX t).map (·.1))).length<=most/\
 ∀(l':NL)(H':Hp),SameX d H H'->NumD P w K H' d l'->kys l'=QC (kys l) ((clX t).map (·.1))->Q .non H'
def Ax(P:Program)(w:World)(K:Fg)(n:Nat):Sp:=λvs H Q _=>∃(mp lr d:Addr)(kind:Str)(ws:List V)(os:List TX)(l:NL),vs=[.ref mp,.ref d]/\SqT K H mp [.str kind,.ref lr]/\SqL K H lr ws/\TxAll K H ws os/\os.length<=100/\NumD P w K H d l/\(∀o∈os,lv o<=n/\∀c∈clX o,c.1∈kys l)/\
 ∀(p lq:Addr)(us:List V)(H':Hp),Same H H'->H' p=some (.tup [.str kind,.ref lq])->H lq=none->H' lq=some (.lst us)->TmAll K H' us (os.map (mpX (ixP (kys l))))->Q (.ref p) H'
def cNM:List G3.S:=[.ret (.tup [.ix (.v 0) (.k (.int 0)),.comp 1 (.ix (.v 0) (.k (.int 1))) [1] (.call 0 [.v 0,.v 1])])]
def nNM(P:Program)(w:World)(K:Fg)(n:Nat):G3.En:=⟨K,[λ_ vs H Q=>Wm P w K n vs H Q E0],[],[],[]⟩
section
variable{K:Fg}
theorem Ay:FnScope ["wood"] ["wood"] (defScope TN):=(0:)
theorem SK(F:Fun K "own_wood" "own_wood" TN f fd)(G:Gm mg):FnOk P w K mg base CX0 1 f fd ["wood"] (PD K):=by
 refine F.ok Ay (7:) (λac A outer s H vs Q E hr h=>?_)
 .obtain⟨wd,ks,rfl,_⟩:=h
  rfl
 obtain⟨wd,ks,rfl,hW,aa,q⟩:=h;refine⟨_,(Qi (Ql (QM (CompG.many (xs:=["kind","rows"]) (caps:=[]) (cap:=[]) (cs:=[]) rfl rfl (1:) (1:) (1:) (1:) (1:) (1:) rfl rfl rfl) rfl (QH (pv 0)) (U7 (CompG.many (xs:=["kind","rows"]) (caps:=[]) (cap:=[]) (cs:=[]) rfl rfl (1:) (1:) (1:) (1:) (1:) (1:) rfl rfl rfl) rfl) (λ_ _ _ _=>Ze) (λ_ _ _ _=>(QB (Qa (pv 0) (Qa (QO (r:=Sf K) ZC rfl G.lst eE (Qa (pv 1) Qc)) Qc))))))),?_⟩;refine⟨_,rfl,wd,rfl,⟨_,hW.1⟩,λacc Z=>?_⟩;refine YE (K:=K) (xs:=ks.map λt=>V.ref t.1) (cs:=[]) (tt:=λ_ H Q=>Q true H) (λj ys H'=>∃J:List KdT,ys=J.map (λk=>V.ref k.1)/\dW J=dW (ks.take j)/\H' acc=some (.lst ys)/\Same H H'/\∀k∈J,SqT K H' k.1 [.str k.2.1,.ref k.2.2.1]/\H' k.2.2.1=some (.lst (k.2.2.2.map λt=>V.ref t.1))/\H k.2.2.1=none/\k.2.2.1≠acc/\∀t∈k.2.2.2,RowAt K H' t)
  ⟨[],rfl,rfl,Qb,Qd Z _,λk hk=>(nomatch hk)⟩ ?_ ?_ ?_
 .rintro j ys H' _ ⟨_,_,_,_,g,_⟩;exact g.seq hW.1
 .rintro j x ys H' hj hx ⟨J,rfl,hd,hy,g,hA⟩;rw [aE]at hj;obtain rfl:x=.ref ks[j].1:=by
   rw [aJ,aD hj]at hx;exact(aI hx).symm
  obtain⟨k1,k2⟩:=hW.2 ks[j] (aO hj);refine⟨_,_,_,rfl,g.seqT k1,Q4 ⟨_,rfl,_,rfl,ks[j].2.2.1,_,rfl,.inl (g.seq k2.1),λM Y=>⟨(by show 2<=sizeLine;decide),λp hp=>?_⟩⟩⟩;have s1:=Qd Y (.lst (ks[j].2.2.2.map λt=>V.ref t.1));have b1:upd H' M (.lst (ks[j].2.2.2.map λt=>V.ref t.1)) M=some (.lst (ks[j].2.2.2.map λt=>V.ref t.1)):=Qb;generalize upd H' M (.lst (ks[j].2.2.2.map λt=>V.ref t.1))=X1 at s1 b1 hp ⊢;have s2:=Qd hp (.tup [.str ks[j].2.1,.ref M]);have b2:upd X1 p (.tup [.str ks[j].2.1,.ref M]) p=some (.tup [.str ks[j].2.1,.ref M]):=Qb;generalize upd X1 p (.tup [.str ks[j].2.1,.ref M])=X2 at s2 b2 ⊢;have L:=s1.trans s2;have ab:J.length=j:=by
   have:=congrArg List.length hd;unfold dW at this;rw [aE,aE,cM]at this;lia
  have nl:M≠acc:=λz=>by rw [z,hy]at Y;cases Y
  have nH:H M=none:=by
   cases e:H M with
   | none=>rfl
   | some u=>rw [g _ _ e]at Y;cases Y
  have U:=L _ _ hy;rw [aE];refine QA hj U (by rw [aE];lia) ⟨J++[(p,ks[j].2.1,M,ks[j].2.2.2)],by simp,?_,Qb,λb u e=>?_,λk hk=>?_⟩
  .unfold dW at hd ⊢;rw [aT,hd,bF,aD hj,eY,aT];rfl
  .rw [Qh (Qg e Z)];exact L _ _ (g _ _ e)
  .rcases aY.mp hk with hk | hk
   .obtain⟨a1,a2,a3,a4,a5⟩:=hA k hk;exact⟨(L.seqT a1).put U,by rw [Qh a4];exact L _ _ a2,a3,a4,λt ht=>⟨(L.seqT (a5 t ht).1).put U,(L.seqT (a5 t ht).2).put U⟩⟩
   .obtain rfl:=bM.mp hk;exact⟨(SqT.of b2).put U,by rw [Qh nl];exact s2 _ _ b1,nH,nl,λt ht=>⟨((g.trans L).seqT (k2.2 t ht).1).put U,((g.trans L).seqT (k2.2 t ht).2).put U⟩⟩
 .rintro ys H' ⟨J,rfl,hd,hy,g,hA⟩;rw [aE,dN]at hd;exact q acc H' J g ⟨Z,hy,λk hk=>⟨(hA k hk).1,(hA k hk).2.1,(hA k hk).2.2.1,(hA k hk).2.2.2.2⟩⟩ hd
theorem CO:FnScope ["term"] ["term"] (defScope Sl):=(0:)
theorem BY(F:Fun K "term_levels" "term_levels" Sl f fd)(G:Gm mg)(RC:Fn P w K mg base 1 "is_call" ["term"] (Zz K))(R:Fn P w K mg base (n+1) "term_levels" ["term"] (Gb K n)):FnOk P w K mg base CX0 (n+2) f fd ["term"] (Gb K (n+1)):=by
 refine F.ok CO (7:) (λai A outer s H vs Q E hr h=>?_)
 .obtain⟨v,t,rfl,_⟩:=h
  rfl
 obtain⟨v,t,rfl,ht,aa,q⟩:=h;refine⟨_,(Qe (QK (QF (Qp RC hr (Qa (pv 0) Qc) (dH 1 n))) (Qi (Ql Qf)) Qs)
  (Qi (Ql (QD ZO Qf (Mo (MJ rfl) rfl G.max PyProof.Rows.boot_max (Qa (QM (CompG.many (xs:=["part"]) (caps:=[]) (cap:=[]) (cs:=[]) rfl rfl (1:) (1:) (1:) (1:) (1:) (1:) rfl rfl rfl) rfl (Yu (2:)) (YR (CompG.many (xs:=["part"]) (caps:=[]) (cap:=[]) (cs:=[]) rfl rfl (1:) (1:) (1:) (1:) (1:) (1:) rfl rfl rfl)) (λ_ _ _ _=>Ze) (λ_ _ _ _=>Qp R hr (Qa (pv 0) Qc) (4:))) Qc) (Sj Qf Ah)))))),?_⟩
 refine L2.let1 ?_
 intros
 rcases Jk ht with⟨a,p,k,b,rfl,rfl,h1,hp⟩ | ⟨a,b,bs,nm,k,ad,rfl,et,h1,h2,h3,h4⟩
 .exact⟨_,rfl,a,ZB,_,rfl,h1,_,rfl,Sz rfl (q H λ_ _ e=>e)⟩
 refine⟨_,rfl,a,PUT,_,rfl,h1,_,rfl,JR (1:) ?_⟩;have ah:=h3.length;rw [Zl]at aa q;refine⟨_,rfl,a,_,4,_,rfl,rfl,h1,rfl,b,rfl,⟨_,h2⟩,λacc L=>?_⟩;refine Y7 (K:=K) (xs:=bs) (tt:=λ_ H Q=>Q true H) (te:=Ur (Gb K n) [] E0 (Q1 (ZL 0) YL)) (cs:=[]) (λi ys H'=>H' acc=some (.lst ys)/\Same H H'/\ys=((t.bs.take i).map λu=>(lv u:Int)).map V.int)
  ⟨Qb,Qd L _,rfl⟩ ?_ ?_ ?_
 .rintro i ys H' _ ⟨_,g,_⟩;exact g.seqT h2
 .rintro i x ys H' hi Y ⟨J,g,rfl⟩;obtain⟨c,Z⟩: ∃c,t.bs[i]?=some c:=⟨_,aD (5:)⟩;obtain⟨cv,ab,ac⟩:=h3.get Z;obtain rfl:cv=x:=aI (ab.symm.trans Y);have hm:=aL Z;have a1:=Zt hm;refine Q4 ⟨_,rfl,cv,c,rfl,ac.mono λ_ _=>g.seqT,by lia,λH4 g4=>?_⟩;refine QA hi (g4 _ _ J) (by rw [aE,aE,cM];lia) ⟨Qb,λx u e=>?_,?_⟩
  .rw [Qh (Qg e L)];exact g4 _ _ (g _ _ e)
  .rw [bF,Z];simp
 rintro ys H1 ⟨J,g,rfl⟩;have ae:t.bs.take bs.length=t.bs:=bR (5:);rw [ae]at J;refine⟨acc,_,_,rfl,rfl,SqL.of J,λe=>⟨_,_,rfl,rfl,?_⟩,λM hM af=>⟨_,_,rfl,rfl,?_⟩⟩
 .have:t.bs=[]:=by simpa using e
  have U:=q H1 g;rw [this]at U
  simpa [lvs]using U
 .obtain⟨u,hu,rfl⟩:=aK.mp hM;have ag:t.bs≠[]:=λz=>by rw [z]at hu;cases hu
  obtain⟨x,Y,ex⟩:=Ro ag;have h1:=af _ (aK.mpr ⟨x,Y,rfl⟩);have h2:=Zt hu;have e:lv u=lvs t.bs:=by lia
  have U:=q H1 g;rw [<-e]at U;exact U
theorem SS{k:Nat}:FnOk P w K mg base CX0 k f fd ["term"] (Gb K 0):=by
 have G:∀vs H Q E,¬Gb K 0 vs H Q E:=λvs H Q E h=>by
  obtain⟨v,t,_,_,J,_⟩:=h;rw [Zl]at J;lia
 exact(14:)
theorem Pc(F:Fun K "term_levels" "term_levels" Sl f fd)(G:Gm mg)(RC:Fn P w K mg base 1 "is_call" ["term"] (Zz K))(hb:Binds K fd ["term"] [])(hm:mg "term_levels"=some (.ref f)):∀n:Nat,FnOk P w K mg base CX0 (n+1) f fd ["term"] (Gb K n)
 | 0=>SS
 | n+1=>BY F G RC ⟨f,fd,Pc F G RC hb hm n,hb,F.kp,hm⟩
theorem DF:FnScope ["term","numbers"] ["term","numbers"] (defScope sWM):=(0:)
theorem Ci(F:Fun K "with_modes" "with_modes" sWM f fd)(G:Gm mg)(RC:Fn P w K mg base 1 "is_call" ["term"] (Zz K))(RW:Fn P w K mg base 1 "with_parts" ["term","parts"] (Gq K))(R:Fn P w K mg base (n+1) "with_modes" ["term","numbers"] (Wm P w K n)):FnOk P w K mg base CX0 (n+2) f fd ["term","numbers"] (Wm P w K (n+1)):=by
 refine G3.Fun.okC F DF (nWM P w K n) cWM (nk:=[G3.shIx]) (λX c=>⟨.cons (c.fn RC (5:)) (.cons (c.fn RW (5:)) (.cons (c.fn R (4:)) .nil)),.nil,.cons (MG c) .nil⟩) (7:) (λH vs Q E h=>?_) G.rng
 .obtain⟨v,d,l,t,rfl,_⟩:=h
  rfl
 obtain⟨v,d,l,t,rfl,ht,Z,hd,L,q⟩:=h;rcases Jk ht with⟨a,p,k,b,rfl,rfl,h1,hp⟩ | ⟨a,b,bs,nm,k,ad,rfl,et,h1,h2,h3,h4⟩
 .refine⟨a,ZB,_,rfl,h1,.t _ _ h1 rfl<| .g l k hd hp (L (k,b) (by simp [clX]))<| .t _ _ h1 rfl ⟨λp1 X1 k1 M _=>q _ X1 k1 ?_⟩⟩;simp only [mpX];exact .call M
 have U:clX t=QU t.bs:=by
  have:=congrArg clX et;rw [this];simp [clX]
 rw [U]at L;refine⟨a,PUT,_,rfl,h1,?_⟩;have af:=h3.length;rw [Zl]at Z;refine .t _ _ h1 rfl<| .t bs h2<| .s (λi ys H1=>ys.length=i/\TmAll K H1 ys ((t.bs.take i).map (mpX (ixP (kys l))))) (λH1 g=>⟨rfl,.nil⟩) (λacc i ys l H1 H2 h _ _ _ k=>⟨h.1,h.2.mono k⟩) (5:) (λi ys H1 hi _ g h=>?_) λp ys H1 g hp h=>?_
 .have Y:=aD (show i<t.bs.length by lia);obtain⟨cv,aa,ab⟩:=h3.get Y;have ex:(bs[i]?).getD .non=cv:=by rw [aa];rfl
  rw [ex];have hm:=aL Y;have:=Zt hm;refine⟨cv,d,l,_,rfl,ab.mono λ_ _=>g.seqT,by lia,hd.same g,λc ac=>L c (YH hm ac),λv' H2 g2 ae=>⟨g2,by simp [h.1],?_⟩⟩;rw [bF,Y,aT];exact TmAll.append (h.2.mono λ_ _=>g2.seqT) (.cons ae .nil)
 obtain⟨hl,J⟩:=h;rw [bR (5:)]at J;refine⟨a,p,ys,_,_,_,_,_,rfl,g.seqT h1,SqL.of hp,λp' b' H2 g2 M d2=>q _ H2 (g.trans g2) ?_⟩;rw [et,mpX,Yy];exact .put M d2 (J.mono λ_ _=>g2.seqT) (5:)
theorem R4{k:Nat}:FnOk P w K mg base CX0 k f fd ["term","numbers"] (Wm P w K 0):=by
 have G:∀vs H Q E,¬Wm P w K 0 vs H Q E:=λvs H Q E h=>by
  obtain⟨v,d,l,t,_,_,J,_⟩:=h;rw [Zl]at J;lia
 exact(14:)
theorem Oo(F:Fun K "with_modes" "with_modes" sWM f fd)(G:Gm mg)(RC:Fn P w K mg base 1 "is_call" ["term"] (Zz K))(RW:Fn P w K mg base 1 "with_parts" ["term","parts"] (Gq K))(hb:Binds K fd ["term","numbers"] [])(hm:mg "with_modes"=some (.ref f)):∀n:Nat,FnOk P w K mg base CX0 (n+1) f fd ["term","numbers"] (Wm P w K n)
 | 0=>R4
 | n+1=>Ci F G RC RW ⟨f,fd,Oo F G RC RW hb hm n,hb,F.kp,hm⟩
theorem Dr:FnScope ["mode","numbers"] ["mode","numbers"] (defScope Nn):=(0:)
theorem A8(F:Fun K "numbered_mode" "numbered_mode" Nn f fd)(G:Gm mg)(RM:Fn P w K mg base (n+1) "with_modes" ["term","numbers"] (Wm P w K n)):FnOk P w K mg base CX0 (n+2) f fd ["mode","numbers"] (Ax P w K n):=by
 refine G3.Fun.okC F Dr (nNM P w K n) cNM (λX c=>⟨.cons (c.fn RM (4:)) .nil,.nil,.nil⟩) (7:) (λH vs Q E h=>?_) G.rng
 .obtain⟨mp,lr,d,aa,ws,os,l,rfl,_⟩:=h
  rfl
 obtain⟨mp,lr,d,aa,ws,os,l,rfl,M,U,Y,ag,hd,ab,q⟩:=h;have af:=Y.length;refine .t _ _ M rfl<| .t _ _ M rfl<| .l ws U<| .m (λacc i ys H1=>Same H H1/\H1 acc=some (.lst ys)/\ys.length=i/\TmAll K H1 ys ((os.take i).map (mpX (ixP (kys l))))) (5:) (λacc H1 L g e=>⟨g,e,rfl,.nil⟩) (λacc i ys H1 h=>h.1.seq U) (λacc i ys H1 hi _ L ⟨g,e,Z,J⟩=>?_) λacc ys H1 L ⟨g,e,Z,J⟩=>?_
 .have hc:=aD (show i<os.length by lia);obtain⟨cv,ac,ad⟩:=Y.get hc;have ex:(ws[i]?).getD .non=cv:=by rw [ac];rfl
  rw [ex];obtain⟨o1,o2⟩:=ab _ (aL hc);refine⟨cv,d,l,_,rfl,ad.mono λ_ _=>g.seqT,o1,hd.same g,o2,λv' H2 g2 ae=>⟨g2 _ _ e,λb u eb=>?_,Qb,by simp [Z],?_⟩⟩
  .rw [Qh (Qg eb L)];exact g2 _ _ (g _ _ eb)
  rw [bF,hc,aT];exact TmAll.append (J.mono λ_ _ h=>(g2.seqT h).put (g2 _ _ e)) (.cons (ae.mono λ_ _ h=>h.put (g2 _ _ e)) .nil)
 rw [bR (5:)]at J;exact⟨λp X1 k1 d1 e1=>q p acc ys X1 (g.trans k1) e1 L (k1 _ _ e) (J.mono λ_ _=>k1.seqT)⟩
theorem Tp:FnScope ["numbers","term","most","mode","branch"] ["numbers","term","most"] (defScope PY):=(0:)
theorem A9(F:Fun K "number_calls" "number_calls" PY f fd)(G:Gm mg)(RC:Fn P w K mg base (n+1) "calls_of" ["term"] (VW K n)):FnOk P w K mg base CX0 (n+2) f fd ["numbers","term","most"] (Ba P w K n):=by
 refine F.ok Tp (7:) (λan A outer s H vs Q E hr h=>?_)
 .obtain⟨v,d,l,t,Y,rfl,_⟩:=h
  rfl
 obtain⟨v,d,l,t,Y,rfl,ht,af,ag,hd,am,U,q⟩:=h;refine⟨_,(Qe (QJ bW rfl (QH (Qp RC hr (Qa (pv 1) Qc) (4:))) (Zd rfl (Qr (Qo (i:=3) Tp.nd rfl (15:)) (Qr (Qo (i:=4) Tp.nd rfl (15:)) QZ)))
  (Qi (QK (AF (M7 (hu9 hr) (pv 3) (pv 0))) (Qi (Rt (hu9 hr) (pv 0) (pv 3) (Qn LD.call_lenN rfl G.len bT (Qa (pv 0) Qc)) rfl)) Qs)))
  (Qi (QK (Qu Lr (Qn LD.call_lenN rfl G.len bT (Qa (pv 0) Qc)) (pv 2) (Qx _)) UC Qs))),?_⟩
 refine L2.let1 ?_
 intros
 refine⟨_,rfl,v,t,rfl,ht,af,ag,λla H1 J g1 nl hl ah ai=>?_⟩;have ac:=hd.same g1;have aj:la≠d:=λz=>by rw [z,hd.a]at nl;cases nl
 have ak:(clX t).map (·.1)=J.map (·.2.2.1):=by rw [<-ai,bY];rfl
 rw [ak]at U q;refine⟨la,rfl,⟨_,SqL.of hl⟩,?_⟩;refine Q2 (K:=K) (xs:=RfX J) (λi σ H'=>∃(c3 c4:Option V)(M:NL),σ=[some (.ref d),some v,some (.int (Y:Int)),c3,c4]/\SameX d H1 H'/\NumD P w K H' d M/\kys M=QC (kys l) ((J.map (·.2.2.1)).take i))
  ⟨none,none,l,rfl,SameX.refl _ _,ac,rfl⟩ ?_ ?_ ?_
 .rintro i σ H' _ ⟨c3,c4,M,_,g,_⟩;exact SqL.of (g _ _ aj hl)
 .rintro i x σ H' hx ⟨c3,c4,M,rfl,g,L,ek⟩;have hi:i<J.length:=by
   have:=(aU.mp hx).1
   rwa [aE]at this
  obtain rfl:x=.ref J[i].1:=by
   rw [aJ,aD hi]at hx;exact(aI hx).symm
  obtain⟨t1,t2⟩:=(ah.mono (Jg ac.a g)) _ (aO hi);have al:(J.map (·.2.2.1))[i]?=some J[i].2.2.1:=by rw [aJ,aD hi];rfl
  have ab:QC (kys l) ((J.map (·.2.2.1)).take (i+1))=Yg (kys M) J[i].2.2.1:=by rw [bF,al,YI,<-ek];rfl
  have aa:(QC (kys l) ((J.map (·.2.2.1)).take (i+1))).length<=Y:=by
   have e:=YI (kys l) ((J.map (·.2.2.1)).take (i+1)) ((J.map (·.2.2.1)).drop (i+1));rw [gM]at e;rw [e]at U;exact bX UA U
  rw [ab]at aa ⊢;refine⟨J[i].1,_,rfl,t1,rfl,_,_,rfl,_,_,rfl,rfl,?_⟩;refine⟨_,rfl,_,rfl,d,J[i].2.1,_,_,rfl,rfl,L.a,L.ks,t2.rd,Ly _,_,rfl,?_⟩;rw [Gc]
  by_cases Z:J[i].2.2.1∈kys M
  .rw [aH Z];refine QS ⟨_,_,M,rfl,g,L,?_⟩;rw [show Yg (kys M) J[i].2.2.1=kys M from aH Z]
  .rw [aG Z];have ad:Yg (kys M) J[i].2.2.1=kys M++[J[i].2.2.1]:=aG Z;rw [ad]at aa ⊢;rw [bH,dE,aE]at aa;refine Q4 ⟨_,rfl,d,_,rfl,L.a,L.ks,_,rfl,_,rfl,d,J[i].2.1,_,_,rfl,rfl,L.a,L.ks,t2.rd,Ly _,by rw [Yk,QI];lia,?_⟩;have ae:W7 (Yd M) (kD J[i].2.2.1) J[i].2.1 (.int ((Yd M).length:Int))=Yd (M++[(J[i].2.2.1,J[i].2.1)]):=by
    unfold W7;rw [Gc,aG Z,aG (11:),MN,Yk]
   rw [ae];have kx:∀a xs,SqT K H' a xs->SqT K (upd H' d (NdO P w d (Yd (M++[(J[i].2.2.1,J[i].2.1)])))) a xs:=Jg L.a λb u nb e=>by rw [Qh nb];exact e
   refine⟨_,_,M++[(J[i].2.2.1,J[i].2.1)],rfl,λb u nb e=>by rw [Qh nb];exact g _ _ nb e,⟨Qb,λz hz=>?_⟩,by simp⟩;rcases aY.mp hz with hz | hz
   .exact(L.k z hz).mono kx
   .rw [bM.mp hz];exact t2.mono kx
 .rintro σ H' ⟨c3,c4,M,rfl,g,L,ek⟩;rw [bR (by rw [aE,aE];exact aZ _)]at ek;have ao:M.length<=Y:=by rw [<-ek,aE]at U;exact U
  refine⟨_,rfl,d,_,rfl,L.a,L.ks,_,rfl,_,_,rfl,rfl,_,rfl,JR (by rw [Yk];lia) ?_⟩;exact q M H' (λb u nb e=>g b u nb (g1 _ _ e)) L ek
end
end K41
namespace L2
open PySem PySem.Spec PyProof.Rows
def W1(h:Heap)(H:Hp)(l:List Addr):Heap:=PySem.W.hideAll h (trk h H++l)
theorem M8(h:Heap)(H:Hp)(l:List Addr):(W1 h H l).objs.size=h.objs.size:=PySem.W.hideAll_size _ _
theorem Vr{l:List Addr}{o:Obj}(e:h.get? b=some o)(n:H b=none)(m:b∉l):(W1 h H l).get? b=some o:=
 PySem.W.hideAll_get _ e λhm=>by
  rcases aY.mp hm with hm | hm
  .have q:(H b).isSome=true:=(dB.mp hm).2;rw [n]at q;simp at q
  .exact m hm
theorem XZ{l:List Addr}{o:Obj}(e:(W1 h H l).get? b=some o):h.get? b=some o/\H b=none/\b∉l:=by
 have G:h.get? b=some o:=PySem.W.of_hideAll (trk h H++l) e;have J:∀m:b∈trk h H++l,False:=λm=>by
  have z:(W1 h H l).get? b=none:=PySem.W.hideAll_none (trk h H++l) m;rw [z]at e;cases e
 refine⟨G,?_,λm=>J (cB _ m)⟩;cases q:H b with
 | none=>rfl
 | some x=>exact(J (cT _ (dB.mpr ⟨cN.mpr (aP G),by simp [q]⟩))).elim
def Sub(g h:Heap):Prop:=∀b o,g.get? b=some o->h.get? b=some o
theorem Mod.sub{K:Fg}{g:Heap}(s:Sub g h)(m:Mod K mg g):Mod K mg h:=
 ⟨m.kin.keeps s,m.glob.keeps s,let⟨G,J,q⟩:=m.blt;⟨G,J.keeps s,q⟩,m.nolimit.keeps s⟩
theorem G5{g:Heap}:∀{l:List Env},h.FunFrames base l->(∀b∈frs l,g.get? b=none)->h.FunFrames g l
 | [],_,_=>trivial
 | env::rest,hf,hn=>by
  obtain⟨h1,⟨L,o,G,Z,J,M⟩,r⟩:=hf;refine⟨h1,⟨L,o,G,hn L ?_,J,M⟩,G5 r λb U=>hn b ?_⟩
  .exact eG.mpr ⟨env,aQ,G⟩
  .obtain⟨e,Y,q⟩:=eG.mp U;exact eG.mpr ⟨e,aV _ Y,q⟩
theorem Env0.sub{K:Fg}(e:Env0 P w K mg base A outer s H):Sub base (W1 s.heap H (frs outer)):=λb o h=>
 Vr (e.bs b o h).1 (e.bs b o h).2 λm=>by
  have:=(e.funs.mem m).1;rw [h]at this;cases this
theorem Env0.big{K:Fg}(e:Env0 P w K mg base A outer s H):Env0 P w K mg (W1 s.heap H (frs outer)) A outer s H:=
 ⟨e.frames,e.mod.sub e.sub,λb o h=>⟨(XZ h).1,(XZ h).2.1⟩,Nat.le_of_eq (M8 _ _ _),G5 e.funs λb G=>by
  cases q:(W1 s.heap H (frs outer)).get? b with
  | none=>rfl
  | some o=>exact absurd G (XZ q).2.2,e.frf,e.hok,e.bare⟩
def Of(X:Cx)(σ:St)(g:Heap):Prop:=∀(i:Nat)(x:Str)(v:V),X.N[i]?=some x->σ[i]?=some (some v)->X.env.scope.names.lookup x=some .cell->∃c u,X.env.cells.lookup x=some c/\g.IsCell c (some u)/\RelV v u
section
variable{pins:List (10:)}
theorem Inv.cells(I:Inv X pins σ H s)(hfn:∀x,X.fn x=true):Of X σ (W1 s.heap H (frs X.stack)):=by
 intro i x v h1 h2 U;obtain⟨m,Y,hl⟩:=I.loc;obtain⟨u,rv,lk⟩:=hl i x v h1 h2 (.inr (.inl U));rcases lk with⟨k,_⟩ | ⟨_,c,J,ic⟩
 .have k':X.env.scope.names.lookup x=some .local:=k;rw [U]at k';cases k'
 refine⟨c,u,J,?_,rv⟩;obtain⟨o,L,r⟩:=ic;refine⟨o,Vr L (I.freeC x c J) (λm=>?_),r⟩;have G:=I.ok.cab x c (hfn x) J;have lt:∀b∈frs X.outer,b<X.s₀.heap.objs.size:=λb hb=>by
  obtain⟨_,o',Z,_⟩:=I.ok.funs.mem hb;exact aP Z
 rcases I.ok.stk with e | ⟨e,e2⟩
 .rw [e]at m;exact absurd (lt c m) (eR.mpr G)
 .rw [e]at m;rcases eG.mp m with⟨env,he,M⟩;rcases aM.mp he with rfl | he
  .rw [e2]at M;obtain rfl:=aI M;obtain⟨o2,es,ep,h5,h6,_⟩:=Y;rw [h5]at L;obtain rfl:=aI L;rw [h6]at r;cases r
  .exact absurd (lt c (eG.mpr ⟨env,he,M⟩)) (eR.mpr G)
end
abbrev UH(qual:Str)(e:Expr)(cl:List (Str×Addr))(pm:Value)(c:Addr)(ctv:Value):FuncData:=PySem.W.kla_fn "<lambda>" qual (R7 e) (LK e) (Qz e) cl pm (.ref c) ctv
structure LamAtC(H:Hp)(f:Addr)(e:Expr)(cl:List (Str×Addr)):Prop where
 ex:∃qual pm c ctv,H f=some (MR f (UH qual e cl pm c ctv))/\H c=some (Og c qual)
theorem LamAtC.same{cl:List (Str×Addr)}(g:Same H H')(h:LamAtC H f e cl):LamAtC H' f e cl:=by
 obtain⟨q,J,c,G,h1,h2⟩:=h.ex;exact⟨q,J,c,G,g _ _ h1,g _ _ h2⟩
def BV(T:Addr)(qual:Str)(e:Expr)(cl:List (Str×Addr)):TE:=λσ H Q=>TbS H T (VX e) qual/\∀f H',SameX T H H'->H f=none->LamAtC H' f e cl->TbS H' T (VX e) qual->Q (.ref f) H'
theorem Ri{cl:List (Str×Addr)}{a:Arguments}{b:Expr}{sc:Scope}{pos:Pos}{c T:Addr}(hcode:X.env.code=.ref c)(hC:PySem.W.codeHdIn X.K c T=true)(hB:Wk X.mg X.base)(hcl:closureFor sc X.env=pure cl:=by rfl)(hdef:defaultsOf a X.env=([],[]):=by rfl):
 PE X (.Lambda a b sc pos) (BV T (X.env.qual++"<lambda>") (.Lambda a b sc pos) cl):=by
 intro pins s σ H Q I h;obtain⟨ht,q⟩:=h;obtain⟨av,hT⟩:=ht.at;obtain⟨bm,ob,b1,b2,b3,b4,b5,b6,b7⟩:=hB;have al:bm≠T:=λz=>by have:=(I.bs _ _ b4).2;rw [z,hT]at this;cases this
 have hg:s.heap.Ns mainGlobals X.mg:=I.mod.glob.keeps I.bk;have am:mainGlobals≠T:=λz=>by
  obtain⟨o,es,ep,e,_⟩:=I.mod.glob;have:=(I.bs _ _ e).2;rw [z,hT]at this;cases this
 have hb:s.heap.BuiltinsAt X.mg T:=⟨bm,ob,b1,b2,b3,al,I.bk _ _ b4,b5,b6,b7⟩;have af:PySem.W.CodeHd s.heap c T:=PySem.W.codeHd_of_K I.kIn hC;have an:X.env.locals≠T:=λz=>by have:=I.free;rw [z,hT]at this;cases this
 refine PySem.W.kla_eval hdef ?_;rcases ht with U | ⟨G,U,ag⟩
 .have hP:s.heap.get? T=some (PySem.W.tabObj #[]):=I.hok T _ U;refine PySem.W.kla_makeFunction (mg:=X.mg) hcl I.ok.glob hg hcode af hP trivial rfl am hb λG Y h' tk hx aa ac ad ao=>?_;obtain⟨qual,M⟩: ∃qual,qual=X.env.qual++"<lambda>":=⟨_,rfl⟩;rw [<-M]at ad ⊢;have ah:H G=none:=I.hok.fresh aa;have Z:H h'.objs.size=none:=I.hok.fresh (cX (Nat.lt_of_le_of_lt aa ac));have ap:T≠G:=Qg U ah;have aq:T≠h'.objs.size:=Qg U Z;have ar:G≠h'.objs.size:=bD ac;obtain⟨fd,ai⟩: ∃fd:FuncData,fd=UH qual (.Lambda a b sc pos) cl ((X.mg "__name__").getD .none) G Y:=⟨_,rfl⟩;have as:PySem.W.kla_obj "<lambda>" qual a b sc cl ((X.mg "__name__").getD .none) G Y={ cls:=.type "function",data:=.func fd }:=by rw [ai];rfl
  rw [as];obtain⟨ps,aj⟩: ∃ps:Array Value,ps=#[rawInt pos.line,rawInt pos.col,.ref G]:=⟨_,rfl⟩;have ae:h'.get? T=some { cls:=.none,data:=.fields ps }:=by rw [aj];exact ao
  obtain⟨H',ab⟩: ∃H':Hp,H'=upd (upd (upd H T (.tbl ps)) G (Og G qual)) h'.objs.size (MR h'.objs.size fd):=⟨_,rfl⟩;have eF:H' h'.objs.size=some (MR h'.objs.size fd):=by rw [ab];exact Qb
  have eC:H' G=some (Og G qual):=by rw [ab,Qh ar];exact Qb
  have eT:H' T=some (.tbl ps):=by rw [ab,Qh aq,Qh ap];exact Qb
  have eO:∀x,x≠T->x≠G->x≠h'.objs.size->H' x=H x:=λx n1 n2 n3=>by rw [ab,Qh n3,Qh n2,Qh n1]
  have eK:∀x u,H x=some u->x≠T->H' x=some u:=λx u e n1=>by rw [eO x n1 (Qg e ah) (Qg e Z)];exact e
  have L:∀x o,h'.get? x=some o->(h'.push { cls:=.type "function",data:=.func fd }).get? x=some o:=λx o e=>aN _ e;have J:Inv X pins σ H' { s with heap:=h'.push { cls:=.type "function",data:=.func fd },toks:=tk }:=by
   refine I.step (g':=s.gens) (d':=s.drawn) (ch:=[]) (λ_ z=>nomatch z) (λx o _ _ _ e n=>?_) (λx o _ _ _ e n=>?_) (λx o _ e n=>?_) (λx o _ e=>?_) (λx xs e=>?_) (λx o u e=>?_) (λx qs e=>?_) (λm hn=>?_) (λx o e=>?_) I.bare
   .exact L _ _ (hx _ _ (λz=>by rw [z,hT]at n;cases n) e)
   .exact⟨o.slots,L _ _ (hx _ _ (λz=>by rw [z,hT]at n;cases n) e)⟩
   .have lx:=aP e;rw [eO x (λz=>by rw [z,hT]at n;cases n) (bD (cC lx aa)) (bD (Nat.lt_trans (cC lx aa) ac))];exact n
   .by_cases z:x=T
    .exact⟨_,L _ _ (z ▸ ae)⟩
    .exact⟨o,L _ _ (hx _ _ z e)⟩
   .exact eK x _ e (QN e U (18:))
   .exact eK x _ e (QN e U (18:))
   .by_cases z:x=T
    .subst z;rw [U]at e;cases e;exact⟨ps,by rw [eT];simp⟩
    .exact⟨#[],by rw [eK x _ e z];simp⟩
   .exact(hn.extBut hx an).push _
   .by_cases z1:x=h'.objs.size
    .subst z1;rw [eF]at e;cases e;exact GH (bE _ rfl)
    by_cases z2:x=G
    .subst z2;rw [eC]at e;cases e;refine SH ?_;obtain⟨c2,oc,vs,tq,z,au,r⟩:=ad;exact⟨c2,oc,vs,tq,z,L _ _ au,r⟩
    by_cases z3:x=T
    .subst z3;rw [eT]at e;cases e;exact L _ _ ae
    rw [eO x z3 z2 z1]at e;refine(I.hok x o e).stay (λy u hy r=>?_) (λy r=>?_) λy xs r=>?_
    .refine L _ _ (hx _ _ (λz=>?_) r);rcases hy with hy | hy
     .exact z3 (hy.symm.trans z)
     .rw [z,hT]at hy;cases hy
    .exact eK y _ r (QN r U (18:))
    .exact eK y _ r (QN r U (18:))
  refine⟨.ref h'.objs.size,H',J,rfl,q h'.objs.size H' (λx u n e=>eK x u e n) Z ⟨qual,_,G,Y,by rw [eF,ai],eC⟩ ?_⟩;refine .inr ⟨G,?_,by rw [<-M];exact eC⟩;rw [eT,aj];rfl
 .have hP:s.heap.get? T=some (PySem.W.tabObj #[rawInt pos.line,rawInt pos.col,.ref G]):=I.hok T _ U;have hf:codeAmong pos (#[rawInt pos.line,rawInt pos.col,Value.ref G]:Array Value).toList=some (.ref G):=by
   show(if((pos.line:Int)==(pos.line:Int)&&(pos.col:Int)==(pos.col:Int))=true then some (Value.ref G)else _)=_;simp
  refine PySem.W.kla_makeFunctionHit (mg:=X.mg) hcl I.ok.glob hg hcode af hP trivial hf hb λY h' tk hk ak=>?_;obtain⟨qual,M⟩: ∃qual,qual=X.env.qual++"<lambda>":=⟨_,rfl⟩;rw [<-M];have Z:H h'.objs.size=none:=I.hok.fresh ak;refine⟨.ref h'.objs.size,upd H h'.objs.size (MR h'.objs.size (UH qual (.Lambda a b sc pos) cl ((X.mg "__name__").getD .none) G Y)),I.laid (t':=tk) (λx o e=>aN _ (hk _ _ e)) ak (GH (bE _ rfl)),rfl,?_⟩;have g:=Qd Z (MR h'.objs.size (UH qual (.Lambda a b sc pos) cl ((X.mg "__name__").getD .none) G Y));refine q h'.objs.size _ (SameX.of g) Z ⟨qual,_,G,Y,Qb,g _ _ (by rw [M];exact ag)⟩ (.inr ⟨G,g _ _ U,g _ _ ag⟩)
abbrev L6(qual:Str)(scope:Scope)(cl:List (Str×Addr))(L f:Addr)(cd:Value):Env:=newEnv scope L mainGlobals cl (qual++Str.ofString ".<locals>.") (some f) cd none builtinsNs
def cxL(CX:CXT)(P:Program)(w:World)(K:Fg)(mg:Str->Option Value)(base:Heap)(N:List Str)(qual:Str)(scope:Scope)(cl:List (Str×Addr))(f:Addr)(cd:Value)(A:Around)(outer:List Env)(s:Shared)(H:Hp)(E:XK):Cx:=
 { prog:=P,w:=w,K:=K,mg:=mg,base:=base,A:=A.deeper (L6 qual scope cl s.heap.objs.size f cd),N:=N,s₀:=s,H₀:=H,env:=L6 qual scope cl s.heap.objs.size f cd,outer:=outer,stack:=L6 qual scope cl s.heap.objs.size f cd::outer,ex:=[],fn:=λ_=>false,calm:=true,pn:=[],xe:=λe s'=>wpAny (model P w) (A.deeper (L6 qual scope cl s.heap.objs.size f cd)) (leaving (L6 qual scope cl s.heap.objs.size f cd) e) (λ_ s''=>CX outer H s E e s'') (λe' s''=>CX outer H s E e' s'') s' }
structure ClAt(base:Heap)(N:List Str)(cl:List (Str×Addr))(vs:List V):Prop where
 len:vs.length=N.length
 val:∀(i:Nat)(x:Str)(v:V),N[i]?=some x->vs[i]?=some v->∃c u,cl.lookup x=some c/\base.IsCell c (some u)/\RelV v u
 cel:∀x c,cl.lookup x=some c->∃u,base.IsCell c u
 inj:∀x y c,cl.lookup x=some c->cl.lookup y=some c->x=y
theorem ClAt.two{x1 x2:Str}{c2:Addr}{v1 v2:V}{u1 u2:Value}(hx:x1≠x2)(hc:c1≠c2)(h1:base.IsCell c1 (some u1))(h2:base.IsCell c2 (some u2))(r1:RelV v1 u1)(r2:RelV v2 u2):ClAt base [x1,x2] [(x2,c2),(x1,c1)] [v1,v2]:=by
 have L:List.lookup x1 [(x2,c2),(x1,c1)]=some c1:=by
  rw [dF];have:(x1==x2)=false:=by simpa using hx
  rw [this];simp [List.lookup]
 have M:List.lookup x2 [(x2,c2),(x1,c1)]=some c2:=by simp [List.lookup]
 have any:∀x c,List.lookup x [(x2,c2),(x1,c1)]=some c->(x=x2/\c=c2)\/(x=x1/\c=c1):=λx c h=>by
  by_cases J:x=x2
  .subst J;rw [M]at h;exact .inl ⟨rfl,(aI h).symm⟩
  by_cases G:x=x1
  .subst G;rw [L]at h;exact .inr ⟨rfl,(aI h).symm⟩
  .have a:(x==x2)=false:=by simpa using J
   have b:(x==x1)=false:=by simpa using G
   simp [List.lookup,a,b]at h
 refine⟨rfl,λi x v G J=>?_,λx c h=>?_,λx y c a b=>?_⟩
 .match i,G,J with
  | 0,G,J=>cases G;cases J;exact⟨c1,u1,L,h1,r1⟩
  | 1,G,J=>cases G;cases J;exact⟨c2,u2,M,h2,r2⟩
  | i+2,G,J=>cases G
 .rcases any x c h with⟨_,rfl⟩ | ⟨_,rfl⟩
  .exact⟨_,h2⟩
  .exact⟨_,h1⟩
 .rcases any x c a with⟨rfl,rfl⟩ | ⟨rfl,rfl⟩<;>rcases any y c b with⟨rfl,e⟩ | ⟨rfl,e⟩
  .rfl
  .exact absurd e.symm hc
  .exact absurd e hc
  .rfl
theorem SF{k:Nat}{ds:List Value}{sp:Heap->Sp}{pins:List (10:)}{Q:VK}{vs:List V}(F:∀g:Heap,Sub X.base g->FnOk X.prog X.w X.K X.mg g CX0 k f fd ps (sp g))(hr:Room k X.A)(hb:Binds X.K fd ps ds)(hd:Vals dvs ds)(hfn:∀x,X.fn x=true)
 (I:Inv X pins σ H s) (r:Vals vs us) (h:∀g:Heap,Sub X.base g->Of X σ g->sp g (vs++dvs) H Q E0):wpAny (6:) X.A (call (.ref f) us) (EP X pins σ Q) X.xe s:=by
 have J:Vals (vs++dvs) (us++ds):=r.append hd;have h':=h _ I.env0.sub (I.cells hfn);have L:(us++ds).length=ps.length:=by rw [<-J.length];exact(F _ I.env0.sub).len _ _ _ _ h'
 refine wpAny_call (codeAny_mono ((F _ I.env0.sub).run X.A X.stack s H ⟨us,[]⟩ (us++ds) (vs++dvs) Q E0 hr I.env0.big (hb s us I.kIn L) J h') λr s' G=>?_);cases r with
 | error e=>exact G.elim
 | ok M=>
  cases M with
  | ret u=>exact I.after G
  | next=>exact False.elim G
  | brk=>exact False.elim G
  | cont=>exact False.elim G
def AH(P:Program)(w:World)(K:Fg)(mg:Str->Option Value)(base:Heap)(k:Nat)(e:Expr)(cl:List (Str×Addr))(sp:Sp):Prop:=
 ∀(f:Addr)(A:Around)(outer:List Env)(s:Shared)(H:Hp)(us:List Value)(vs:List V)(Q:VK)(E:XK),Room k A->Env0 P w K mg base A outer s H->LamAtC H f e cl->Vals vs us->sp vs H Q E->
  codeAny (model P w) A (.call (.ref f) ⟨us,[]⟩) (CR CX0 outer P w H s Q E) s
theorem Ny{P:Program}{w:World}{K:Fg}{mg:Str->Option Value}{base:Heap}{k:Nat}{e:Expr}{cl:List (Str×Addr)}{N:List Str}{vs:List V}{sp:Sp}{x:Str}(hk:(Qz e).kind=ScopeKind.function)(hco:(Qz e).isCoroutine=false)(hge:(Qz e).isGenerator=false)(hfree:∀y∈(Qz e).names,y.2≠NameKind.cell)
 (hloc:∀y,(Qz e).names.lookup y=some .local->y=x) (hx:(Qz e).names.lookup x=some .local) (hxN:x∉N)
 (hN:∀x,(Qz e).names.lookup x=some .free->∃c,cl.lookup x=some c) (hC:ClAt base N cl vs) (len:∀vs H Q E,sp vs H Q E->vs.length=1)
 (hbind:∀(qual:Str)(pm:Value)(c:Addr)(ctv u:Value),bindArgs (UH qual e cl pm c ctv) ⟨[u],[]⟩=pure [(x,u)])
 (hbody:∀(qual:Str)(f c:Addr)(A:Around)(outer:List Env)(s:Shared)(H:Hp)(v:V)(Q:VK)(E:XK),Room k (A.deeper (L6 qual (Qz e) cl s.heap.objs.size f (.ref c)))->sp [v] H Q E->
  ∃t,PE (cxL CX0 P w K mg base (x::N) qual (Qz e) cl f (.ref c) A outer s H E).nox (LK e) t/\t (some v::vs.map some) H Q):AH P w K mg base (k+1) e cl sp:=by
 intro f A outer s H us ws Q E hr G hL r Z;obtain⟨qual,pm,c,ctv,hf,hc⟩:=hL.ex;obtain⟨v,rfl⟩: ∃v,ws=[v]:=fU.mp (len _ _ _ _ Z);obtain⟨u,rfl,rv⟩:=r.one;have ab:s.heap.get? f=some { cls:=.type "function",data:=.func (UH qual e cl pm c ctv) }:=(G.hok f _ hf).1;have aa:s.heap.CodeRec (.ref c) qual:=(G.hok c _ hc).1;have ac:s.heap.NoLimit:=G.mod.nolimit.keeps λb o e=>(G.bs b o e).1;refine PySem.W.kla_callFunE hr.depth ab rfl hco hge rfl aa ?_;rw [hbind qual pm c ctv u];refine aF ?_;refine wpAny_newFunctionEnv hfree (λy hy=>by
  have ey:y=(x,u):=by simpa using hy
  rw [ey];exact hx) (λh1 ad ae=>?_) hk
 have keep:∀b o,s.heap.get? b=some o->h1.get? b=some o:=λb o e=>(ae.2 b (bD (aP e))).trans (aN _ e);refine⟨ac.keeps keep,PySem.W.kla_codeExpr ?_⟩;obtain⟨t,ht,hq⟩:=hbody qual f c A outer s H v Q E (hr.deeper _) Z;have M:∀{x:Str}{L:Addr}{u:Option Value},base.IsCell L u->h1.IsCell L u/\H L=none/\L<s.heap.objs.size:=λ{x L u} ⟨o,ho,r⟩=>⟨⟨o,keep _ _ (G.bs _ _ ho).1,r⟩,(G.bs _ _ ho).2,aP (G.bs _ _ ho).1⟩;have U:∀b:Addr,b∉(cxL CX0 P w K mg base (x::N) qual (Qz e) cl f (.ref c) A outer s H E).ex:=λb z=>absurd (show b∈([]:List Addr)from z) (17:);have I:Inv (cxL CX0 P w K mg base (x::N) qual (Qz e) cl f (.ref c) A outer s H E) [] (some v::vs.map some) H { s with heap:=h1,toks:=s.toks+1 }:=by
  refine⟨⟨G.mod,hk,rfl,rfl,aZ _,λy z L h1 h2=>hC.inj y z L h1 h2,λy hy=>?_,λy L h _=>?_,λ_=>hr.hd,Around.frames_deeper G.frames,.inr ⟨rfl,rfl⟩,λb z=>absurd z (U b),G.bs,G.bsz,λb _ _=>U b,λb z=>absurd z (U b),G.funs,G.frf⟩,rfl,G.bare,Un.kept keep,⟨_,ad,λi y Y h1 h2 h3=>?_⟩,λy L h=>?_,G.hok.fresh (4:),λy L h=>?_,λp hp=>absurd (show p∈([]:List (10:))from hp) (17:),G.hok.kept keep,?_⟩
  .have hy:(Qz e).names.lookup y=some .cell\/(Qz e).names.lookup y=some .free:=hy;rcases hy with hy | hy
   .exact absurd rfl (hfree _ (d_ hy))
   .exact hN y hy
  .cases h
  .cases i with
   | zero=>
    have h1:(x::N)[0]?=some y:=h1;have ey:x=y:=by simpa using h1
    have ev:v=Y:=by simpa using h2
    subst ey;rw [<-ev];exact⟨u,rv,.inl ⟨hx,by simp [List.lookup]⟩⟩
   | succ i=>
    have h1:(x::N)[i+1]?=some y:=h1;have h1:N[i]?=some y:=by simpa using h1
    have hv:vs[i]?=some Y:=by
     have h2:(vs.map some)[i]?=some (some Y):=by simpa using h2
     rw [aJ]at h2;cases q:vs[i]? with
     | none=>rw [q]at h2;cases h2
     | some a=>rw [q]at h2;cases h2;rfl
    obtain⟨L,u,e1,e2,e3⟩:=hC.val i y Y h1 hv;have h3:(Qz e).names.lookup y=some .local\/(Qz e).names.lookup y=some .cell\/(Qz e).names.lookup y=some .free:=h3;rcases h3 with k | k | k
    .exact absurd (aL h1) (by rw [hloc y k];exact hxN)
    .exact absurd rfl (hfree _ (d_ k))
    .exact⟨u,e3,.inr ⟨.inr k,L,e1,(M (x:=y) e2).1⟩⟩
  .obtain⟨u,hu⟩:=hC.cel y L h;exact⟨u,(M (x:=y) hu).1⟩
  .obtain⟨u,hu⟩:=hC.cel y L h;exact(M (x:=y) hu).2.1
  .rw [bK,aE,hC.len];rfl
 refine dD (ht.nox [] _ (some v::vs.map some) H _ I hq) (λu s' hs=>?_) λe s' hs=>hs;obtain⟨v,H',J,rv,q⟩:=hs;exact⟨v,H',J.os,J.bare,J.base,J.hok,rv,q⟩
def Ao(i:Nat)(e:Expr)(cl:List (Str×Addr))(sp:Sp)(t:TA):TE:=λσ H Q=>∃f,σ[i]?=some (some (.ref f))/\t σ H λvs H1=>LamAtC H1 f e cl/\sp vs H1 Q E0
theorem Nw{i:Nat}{x:Str}{e a:Expr}{cl:List (Str×Addr)}{as:List Expr}{t:TA}{sp:Sp}{k:Nat}{p pos:Pos}(C:AH X.prog X.w X.K X.mg X.base k e cl sp)(hr:Room k X.A)(ha:PA X (a::as) t)(hN:X.N[i]?=some x:=by rfl)(hv:Vis X.env.scope x:=by first | exact Or.inl rfl | exact Or.inr (15:) | exact Or.inr (Or.inr rfl))
 (hd:(x==("__debug__":Str))=false:=by decide) (hcd:(x==("__classdict__":Str))=false:=by decide) (he:starEach (a::as) X.env=(false,eval a X.env)::starEach as X.env:=by rfl) (hpl:(backTo pos (starEach as X.env)).any (·.1)=false:=by rfl):
 PE X (.Call (.Name x p) (a::as) [] pos) (Ao i e cl sp t):=by
 intro pins s σ H Q I h;obtain⟨f,hs,h⟩:=h;refine eX (thn (Gs (pos:=p) hN hv hd hcd pins s σ H (λv H1=>v=.ref f/\H1=H) I ⟨.ref f,hs,rfl,rfl⟩) λu M ⟨v,H1,I1,r1,ev,eH⟩=>?_);subst ev eH;obtain rfl:u=Value.ref f:=r1;have U:wpAny (6:) X.A (spliced (backTo pos (starEach (a::as) X.env))) (λvs Y=>(∃fd,Y.heap.get? f=some { cls:=.type "function",data:=.func fd })/\wpAny (6:) X.A (call (.ref f) ([]++vs)) (EP X pins σ Q) X.xe Y) X.xe M:=by
  refine thn (ha pos pins M σ H1 _ I1 h) λus s2 ⟨vs,H2,J,r2,Z,q2⟩=>⟨?_,?_⟩
  .obtain⟨qual,pm,c,aa,L,hc⟩:=Z.ex;exact⟨_,(J.hok f _ L).1⟩
  .refine wpAny_call (codeAny_mono (C f X.A X.stack s2 H2 us vs Q E0 hr J.env0 Z r2 q2) λr s' G=>?_);cases r with
   | error e=>exact G.elim
   | ok fl=>
    cases fl with
    | ret u=>exact J.after G
    | next=>exact False.elim G
    | brk=>exact False.elim G
    | cont=>exact False.elim G
 rw [he]at U ⊢;exact PySem.W.callWith_of (P:=λh=>∃fd,h.get? f=some { cls:=.type "function",data:=.func fd }) (by show((false||(backTo pos (starEach as X.env)).any (·.1))||false)=false;rw [hpl];rfl)
  (λh ⟨fd,L⟩=>⟨.frame,.inl rfl,(PySem.W.Looks.ld (part:=none) L).andThen .now⟩) (PySem.Calls.evalArgs_plain U)
def Ai(X:Cx)(sp:Heap->Sp)(t:TA):TE:=λσ H Q=>t σ H λvs H2=>∀g:Heap,Sub X.base g->Of X σ g->sp g (vs++[]) H2 Q E0
theorem Tl{p:Pos}{k:Nat}{sp:Heap->Sp}{t:TA}(F:∀g:Heap,Sub X.base g->FnOk X.prog X.w X.K X.mg g CX0 k f fd ps (sp g))(hr:Room k X.A)(hm:X.mg x=some (.ref f))(hk:PySem.W.keepIn X.K (.ref f)=true)(hb:Binds X.K fd ps [])(hfn:∀x,X.fn x=true)(ha:PA X (e::es) t)(hg:Gl X x:=by rfl)
 (hdb:(x==("__debug__":Str))=false:=by decide) (he:starEach (e::es) X.env=(false,eval e X.env)::starEach es X.env:=by rfl) (hpl:(backTo pos (starEach es X.env)).any (·.1)=false:=by rfl):
 PE X (.Call (.Name x p) (e::es) [] pos) (Ai X sp t):=by
 intro pins s σ H Q I h;refine eX (Jl I hg hm ?_ hdb);refine PySem.W.callWith_K (h₀:=X.base) I.ok.mod.kin hk (thn (ha pos pins s σ H _ I h) λJ L ⟨vs,H1,G,r,q⟩=>⟨G.kIn,?_⟩) he hpl;exact SF F hr hb .nil hfn G r q
end L2
namespace K3
end K3
namespace L2
open PySem PySem.Spec PyProof.Rows
section
variable{C:Addr}{k:Nat}{m:Str}{o:Expr}{t:TA}
end
end L2
namespace K3
open PySem L2
end K3
namespace L2
open PySem PySem.Spec PyProof.Rows
section
variable{C:Addr}{k:Nat}{m:Str}{o:Expr}{t:TA}
end
end L2
namespace K41
open PySem L2 TM TT ST K9 K11
abbrev MkP:=Ky->Str×List TX
def clL(os:List TX):List Ky:=(QU os).map (·.1)
def Yc(mk:MkP):Nat->Nat->List Ky->List Ky
 | 0,_,ps=>ps
 | F+1,m,ps=>match ps[m]? with
  | none=>ps
  | some p=>Yc mk F (m+1) (QC ps (clL (mk p).2))
theorem Yt(mk:MkP):∀{F m:Nat}{ps:List Ky},∃r,Yc mk F m ps=ps++r
 | 0,_,ps=>⟨[],by simp [Yc]⟩
 | F+1,m,ps=>by
  rw [Yc];cases ps[m]? with
  | none=>exact⟨[],by simp⟩
  | some p=>
   obtain⟨G,J⟩:=UE (ps:=ps) (l:=clL (mk p).2);obtain⟨L,M⟩:=Yt mk (F:=F) (m:=m+1) (ps:=QC ps (clL (mk p).2));exact⟨G++L,by show Yc mk F (m+1) _=_;rw [M,J,e_]⟩
def spL(K:Fg)(H0:Hp)(mk:MkP)(qs:List Ky):Sp:=λvs H Q _=>∃(pp:Addr)(pr:Ky),vs=[.ref pp]/\Same H0 H/\PrV K H pp pr/\pr∈qs/\
 ∀(p lr:Addr)(ws:List V)(H':Hp),Same H H'->H' p=some (.tup [.str (mk pr).1,.ref lr])->H lr=none->H' lr=some (.lst ws)->TxAll K H' ws (mk pr).2->Q (.ref p) H'
structure NewMo(K:Fg)(H H':Hp)(lm:Addr)(ms:List MdT):Prop where
 n0:H lm=none
 at0:H' lm=some (.lst (ms.map λm=>V.ref m.1))
 mo:∀m∈ms,SqT K H' m.1 [.str m.2.1,.ref m.2.2.1]/\H' m.2.2.1=some (.lst m.2.2.2.1)/\H m.2.2.1=none/\m.2.2.1≠lm/\TmAll K H' m.2.2.2.1 m.2.2.2.2
def dM(ms:List MdT):List (Str×List Tm):=ms.map λm=>(m.2.1,m.2.2.2.2)
def dQ(mk:MkP)(qs:List Ky):List (Str×List Tm):=qs.map λp=>((mk p).1,(mk p).2.map (mpX (ixP qs)))
def A0(P:Program)(w:World)(K:Fg)(mg:Str->Option Value)(base:Heap)(k n:Nat):Sp:=λvs H Q _=>∃(wd lf:Addr)(sv:V)(ks:List KdT)(t:TX)(e:Expr)(cl:List (Str×Addr))(mk:MkP)(most:Nat)(qs:List Ky),vs=[.ref wd,sv,.ref lf,.int (most:Int)]/\WoodAt K H wd ks/\ks.length<=100/\TxV K H sv t/\lv t<=n/\sz t<=1000/\LamAtC H lf e cl/\AH P w K mg base k e cl (spL K H mk qs)/\most<=200/\qs=Yc mk (most+1) 0 (QC [] ((clX t).map (·.1)))/\qs.length<=most/\(∀p∈qs,(mk p).2.length<=100/\∀o∈(mk p).2,lv o<=n/\sz o<=1000)/\
 ∀(r tu lw lm d:Addr)(sv':V)(ks':List KdT)(ms:List MdT)(H':Hp),Same H H'->SqT K H' r [.ref tu,.ref d]->SqT K H' tu [.ref lw,sv',.ref lm]->NewWd K H H' lw ks'->dW ks'=dW ks->TmV K H' sv' (mpX (ixP qs) t)->NewMo K H H' lm ms->dM ms=dQ mk qs->lw≠lm->(∀k∈ks',k.2.2.1≠lm/\∀m∈ms,k.2.2.1≠m.2.2.1)->(∀m∈ms,lw≠m.2.2.1)->(∀c∈clX t,c.1∈qs)->(∀p∈qs,∀c∈clL (mk p).2,c∈qs)->Q (.ref r) H'
theorem Same.none{H H':Hp}{b:Addr}(g:Same H H')(h:H' b=none):H b=none:=by
 cases e:H b with
 | none=>rfl
 | some u=>rw [g _ _ e]at h;cases h
theorem NewWd.ext{K:Fg}{H'':Hp}{ks:List KdT}(g0:Same H0 H)(g1:Same H' H'')(h:NewWd K H H' lw ks):NewWd K H0 H'' lw ks:=
 ⟨Same.none g0 h.n0,g1 _ _ h.at0,λk G=>⟨g1.seqT (h.kd k G).1,g1 _ _ (h.kd k G).2.1,Same.none g0 (h.kd k G).2.2.1,λt J=>((h.kd k G).2.2.2 t J).same g1⟩⟩
theorem Vu:∀l r:List TX,QU (l++r)=QU l++QU r
 | [],r=>by simp [QU]
 | t::l,r=>by rw [fb,QU,QU,Vu l r,e_]
theorem Nt(l:List TX)(o:TX):clL (l++[o])=clL l++(clX o).map (·.1):=by unfold clL;rw [XC,aT]
theorem T4(ps:List Ky)(l:List TX)(i:Nat):(QC ps (clL (l.take i))).length<=(QC ps (clL l)).length:=by
 have e:clL l=clL (l.take i)++clL (l.drop i):=by
  unfold clL;rw [<-aT,<-Vu,gM]
 rw [e,YI];exact UA
def MoP(K:Fg)(mk:MkP)(H:Hp)(lm:Addr)(ps:List Ky)(mos:List (Addr×Addr×List V)):Prop:=mos.length<=ps.length/\∀(i:Nat) m p,mos[i]?=some m->ps[i]?=some p->H m.1=some (.tup [.str (mk p).1,.ref m.2.1])/\H m.2.1=some (.lst m.2.2)/\m.2.1≠lm/\TxAll K H m.2.2 (mk p).2
abbrev Wv:Stmt:=top 28
abbrev asN:List Str:=["wood","start","mode_by","most","numbers","modes","mode","rule","turning"]
section
variable{K:Fg}
theorem Mt:FnScope asN ["wood","start","mode_by","most"] (defScope Wv):=(0:)
theorem Bc{k n:Nat}(F:Fun K "as_met" "as_met" Wv f fd)(G:Gm mg)(RN:Fn P w K mg base (n+2) "number_calls" ["numbers","term","most"] (Ba P w K n))(RW:Fn P w K mg base 1 "own_wood" ["wood"] (PD K))(RM:Fn P w K mg base (n+1) "with_modes" ["term","numbers"] (Wm P w K n))(RE:Fn P w K mg base (n+2) "numbered_mode" ["mode","numbers"] (Ax P w K n)):
 FnOk P w K mg base CX0 (n+k+3) f fd ["wood","start","mode_by","most"] (A0 P w K mg base k n):=by
 refine F.ok Mt (7:) (λc4 A outer s H vs Q E hr h=>?_)
 .obtain⟨wd,lf,sv,ks,t,e,cl,mk,J,qs,rfl,_⟩:=h
  rfl
 obtain⟨wd,lf,sv,ks,t,e,cl,mk,J,qs,rfl,hW,cb,bj,bn,cc,ce,hC,c3,bo,c5,bp,q⟩:=h;have cf:Room k _:=hr.mono (5:);have aj:Room (n+2) _:=hr.mono (5:);refine⟨_,(Qe (Qv (i:=4) Mt.nd rfl (Or.inr rfl) Ss)
  (Qe (Zb (Qp RN aj (Qa (pv 4) (Qa (pv 1) (Qa (pv 3) Qc))) (4:)))
  (Qe (Qv (i:=5) Mt.nd rfl (15:) (Zm Qc))
  (Qe (J5 bW (Qu Vf (Qn Qm rfl G.len bT (Qa (pv 5) Qc)) (Qn LD.call_lenN rfl G.len bT (Qa (pv 4) Qc)) (Qx _)) (Qe (Qv (i:=6) Mt.nd rfl (15:) (Nw (i:=2) hC cf (Qa (Qk QE (QO (LD.call_listN rfl) rfl G.lst eE (Qa (pv 4) Qc)) (Qn Qm rfl G.len bT (Qa (pv 5) Qc)) (λ_ _=>rfl)) Qc)))
  (Qe (QJ bW rfl (QH (Qk Qj (pv 6) Qf (λ_ _=>rfl))) (Qo (i:=7) Mt.nd rfl (15:)) (Qi (Zb (Qp RN aj (Qa (pv 4) (Qa (pv 7) (Qa (pv 3) Qc))) (4:)))))
  (Qi (Zb (YQ cR fu fw Zo (pv 5) (Qa (pv 6) Qc)))))))
  (Qe (Qv (i:=8) Mt.nd rfl (15:) (QB (Qa (Qp RW aj (Qa (pv 0) Qc) (5:)) (Qa (Qp RM aj (Qa (pv 1) (Qa (pv 4) Qc)) (5:)) (Qa (QM (CompG.many (xs:=["mode"]) (caps:=["numbers"]) (cap:=[4]) (cs:=[_]) rfl rfl (1:) (1:) (1:) (1:) (1:) (1:) rfl rfl rfl) rfl (QH (pv 5)) (YR (CompG.many (xs:=["mode"]) (caps:=["numbers"]) (cap:=[4]) (cs:=[_]) rfl rfl (1:) (1:) (1:) (1:) (1:) (1:) rfl rfl rfl)) (λ_ _ _ _=>Ze) (λ_ _ _ _=>Qp RE aj (Qa (pv 0) (Qa (pv 1) Qc)) (4:))) Qc)))))
  (Qi (Ql (QB (Qa (pv 8) (Qa (pv 4) Qc)))))))))),?_⟩
 refine L2.let5 ?_
 intros
 refine λd hd=>?_;have g1:=Qd hd (NdO P w d []);have cg:NumD P w K (upd H d (NdO P w d [])) d []:=⟨Qb,λz hz=>(nomatch hz)⟩;obtain⟨r0,ch⟩:=Yt mk (F:=J+1) (m:=0) (ps:=QC [] ((clX t).map (·.1)));have bi:(QC [] ((clX t).map (·.1))).length<=J:=by
  have:=congrArg List.length ch;rw [<-bo,bH]at this;lia
 refine⟨_,rfl,_,rfl,_,rfl,sv,d,[],t,J,rfl,bj.mono λ_ _=>g1.seqT,bn,cc,cg,by lia,bi,λl2 H2 g2 bq ci=>?_⟩;have s2:Same H H2:=λb u e=>g2 b u (Qg e hd) (g1 b u e);refine⟨(by show 0<=sizeLine;decide),λY ap=>?_⟩;have g3:=Qd ap (.lst []);have b7:H Y=none:=Same.none s2 ap;have br:Y≠d:=λz=>by rw [z,bq.a]at ap;cases ap
 refine Sv (λm σ H'=>∃(j:Nat)(l:NL)(ps:List Ky)(L:List (Addr×Addr×List V))(c6 c7:Option V),σ=[some (.ref wd),some sv,some (.ref lf),some (.int (J:Int)),some (.ref d),some (.ref Y),c6,c7,none]/\Same H H'/\NumD P w K H' d l/\kys l=ps/\H' Y=some (.lst (L.map λm=>V.ref m.1))/\L.length=j/\m+j=J+1/\Yc mk (J+1-j) j ps=qs/\MoP K mk H' Y ps L/\(∀c∈clX t,c.1∈ps)/\∀(i:Nat) p,i<j->ps[i]?=some p->∀c∈clL (mk p).2,c∈ps) (J+1)
  ⟨0,l2,_,[],none,none,rfl,s2.trans g3,bq.same g3,ci,Qb,rfl,rfl,bo.symm,⟨bN _,λi m p e=>by simp at e⟩,λc hc=>Zf.mpr (.inr (aK.mpr ⟨c,hc,rfl⟩)),λi p hi=>absurd hi (Nat.not_lt_zero _)⟩ ?_ ?_
 .rintro m σ H' ⟨j,l,ps,L,c6,c7,rfl,g,aa,ek,ad,hj,Z,M,az,a0,a1⟩;have c8:l.length=ps.length:=by rw [<-ek,aE]
  refine⟨_,rfl,Y,_,rfl,.inl (SqL.of ad),_,rfl,d,_,rfl,aa.a,aa.ks,_,_,rfl,rfl,_,rfl,MD (λc=>?_) (λc=>?_)⟩
  .have c':(((L.map λm=>V.ref m.1).length:Nat):Int)<(((Yd l).length:Nat):Int):=bJ c;rw [aE,Yk]at c';have a3:j<ps.length:=by lia
   refine⟨lf,rfl,_,rfl,d,_,rfl,aa.a,aa.ks,λla hl=>?_⟩;have gl:=Qd hl (.lst ((Yd l).map λt=>V.ref t.2.1));have a4:j<l.length:=by lia
   have cj:l[j].1=ps[j]:=by
    have:(kys l)[j]?=ps[j]?:=by rw [ek]
    rw [aJ,aD a4,aD a3]at this;exact aI this
   have bt:=aa.k _ (aO a4);rw [cj]at bt;have b8:((Yd l).map λt=>V.ref t.2.1)[j]?=some (.ref l[j].2):=by
    unfold Yd;rw [bY,aJ,List.getElem?_zipIdx,aD a4];rfl
   have a5:=aD a3;have hF:J+1-j=(J-j)+1:=by
    have h1:ps.length<=J:=by
     obtain⟨r,er⟩:=Yt mk (F:=J+1-j) (m:=j) (ps:=ps);rw [M]at er;have:=congrArg List.length er;rw [bH]at this;lia
    lia
   rw [hF,Yc,a5]at M;have M:Yc mk (J-j) (j+1) (QC ps (clL (mk ps[j]).2))=qs:=M;have b9:(QC ps (clL (mk ps[j]).2)).length<=J:=by
    obtain⟨r,er⟩:=Yt mk (F:=J-j) (m:=j+1) (ps:=QC ps (clL (mk ps[j]).2));rw [M]at er;have:=congrArg List.length er;rw [bH]at this;lia
   have a6:ps[j]∈qs:=by
    obtain⟨r,er⟩:=Yt mk (F:=J-j) (m:=j+1) (ps:=QC ps (clL (mk ps[j]).2));rw [M]at er;rw [er];exact cT _ (Zf.mpr (.inl (aO a3)))
   obtain⟨bu,a7⟩:=bp _ a6;refine⟨_,rfl,Y,_,rfl,.inl (SqL.of (gl _ _ ad)),la,_,_,.ref l[j].2,rfl,rfl,SqL.of Qb,(by rw [aE,hj];exact Qq b8),(ce.same g).same gl,l[j].2,ps[j],rfl,g.trans gl,bt.mono λ_ _=>gl.seqT,a6,λp lr ws H6 g6 hp a8 aq a9=>?_⟩;have ah:=gl.trans g6;have ai:=aa.same ah;have ca:=ah _ _ ad;have c9:=a9.length;have ba:lr≠Y:=λz=>by rw [z,gl _ _ ad]at a8;cases a8
   refine⟨_,rfl,p,_,1,_,rfl,rfl,SqT.of hp,rfl,lr,rfl,⟨_,SqL.of aq⟩,?_⟩;refine Q2 (K:=K) (xs:=ws) (λr σ ab=>∃(c7:Option V)(l':NL),σ=[some (.ref wd),some sv,some (.ref lf),some (.int (J:Int)),some (.ref d),some (.ref Y),some (.ref p),c7,none]/\SameX d H6 ab/\NumD P w K ab d l'/\kys l'=QC ps (clL ((mk ps[j]).2.take r)))
    ⟨c7,l,rfl,SameX.refl _ _,ai,ek⟩ ?_ ?_ ?_
   .rintro r σ ab _ ⟨c7,l',_,U,_⟩;exact SqL.of (U _ _ (QN aq ai.a (18:)) aq)
   .rintro r x σ ab hx ⟨c7,l',rfl,U,bb,ak⟩;have bc:r<(mk ps[j]).2.length:=by
     have:=(aU.mp hx).1;lia
    obtain⟨cv,ck,cm⟩:=a9.get (aD bc);obtain rfl:cv=x:=aI (ck.symm.trans hx);obtain⟨o1,o2⟩:=a7 _ (aO bc);have ar:QC (QC ps (clL ((mk ps[j]).2.take r))) ((clX (mk ps[j]).2[r]).map (·.1))=QC ps (clL ((mk ps[j]).2.take (r+1))):=by
     rw [<-YI,<-Nt,bF,aD bc];rfl
    refine⟨_,rfl,_,rfl,_,rfl,cv,d,l',(mk ps[j]).2[r],J,rfl,cm.mono (Jg ai.a U),o1,o2,bb,by lia,?_,λl8 H8 g8 cn bv=>?_⟩
    .rw [ak,ar];exact bX (T4 _ _ _) b9
    .rw [ak,ar]at bv;exact⟨_,l8,rfl,U.trans g8,cn,bv⟩
   .rintro σ ab ⟨c7,l7,rfl,U,bb,ak⟩;rw [bR (5:)]at ak;have ae:=U _ _ br ca;have bd:L.length<=200:=by lia
    refine⟨_,rfl,.inl ⟨rfl,_,SqL.of ae⟩,_,rfl,Y,_,_,rfl,rfl,ae,(by rw [aE,QI];lia),?_⟩;have kp:∀a xs,SqT K H6 a xs->SqT K (upd ab Y (.lst (L.map (λm=>V.ref m.1)++[.ref p]))) a xs:=λa xs h=>(Jg ai.a U a xs h).put ae;have kq:∀a xs,H6 a=some (.tup xs)->upd ab Y (.lst (L.map (λm=>V.ref m.1)++[.ref p])) a=some (.tup xs):=λa xs h=>by
     have h':=U _ _ (QN h ai.a (18:)) h;rw [Qh (QN h' ae (18:))];exact h'
    have ls:∀b ys,b≠Y->H6 b=some (.lst ys)->upd ab Y (.lst (L.map (λm=>V.ref m.1)++[.ref p])) b=some (.lst ys):=λb ys nb e=>by
     rw [Qh nb];exact U _ _ (QN e ai.a (18:)) e
    obtain⟨rr,bw⟩:=UE (ps:=ps) (l:=clL (mk ps[j]).2);have be:∀i:Nat,i<=j->(QC ps (clL (mk ps[j]).2))[i]?=ps[i]?:=λi hi=>by rw [bw,fT (5:)]
    refine⟨m-1,by lia,j+1,l7,QC ps (clL (mk ps[j]).2),L++[(p,lr,ws)],_,_,rfl,?_,?_,ak,by rw [Qb,aT];rfl,by rw [bH,hj];rfl,by lia,?_,⟨?_,?_⟩,λc hc=>Zf.mpr (.inl (a0 c hc)),?_⟩
    .intro b u e;rw [Qh (Qg e b7)];exact U _ _ (Qg e hd) ((g.trans ah) _ _ e)
    .exact bb.mono (λ_ _ h=>h.put ae) (Qh (aW br))
    .rw [show J+1-(j+1)=J-j by lia];exact M
    .rw [bH,bw,bH];simp only [dE];lia
    .intro i mo pr h1 h2;have da:i<j+1:=by
      have:=(aU.mp h1).1;rw [bH,hj]at this;exact this
     rw [be i (5:)]at h2;rcases Nat.lt_or_ge i j with z | z
     .rw [fT (5:)]at h1;obtain⟨b1,b2,b3,b4⟩:=az.2 i mo pr h1 h2;exact⟨kq _ _ (ah _ _ b1),ls _ _ b3 (ah _ _ b2),b3,b4.mono λa xs h=>kp a xs (ah.seqT h)⟩
     .obtain rfl:i=j:=by lia
      rw [fS (5:),show i-L.length=0 by lia]at h1;obtain rfl:(p,lr,ws)=mo:=by simpa using h1
      rw [a5]at h2;obtain rfl:=aI h2;exact⟨kq _ _ hp,ls _ _ ba aq,ba,a9.mono kp⟩
    .intro i pr hi h2 c hc;rw [be i (5:)]at h2;rcases Nat.lt_or_ge i j with z | z
     .exact Zf.mpr (.inl (a1 i pr z h2 c hc))
     .obtain rfl:i=j:=by lia
      rw [a5]at h2;obtain rfl:=aI h2;exact Zf.mpr (.inr hc)
  .have c':¬((((L.map λm=>V.ref m.1).length:Nat):Int)<(((Yd l).length:Nat):Int)):=λz=>c (bO z);rw [aE,Yk]at c';have co:ps.length<=j:=by lia
   have cp:ps[j]?=none:=dY co;have cq:ps=qs:=by
    cases hF:J+1-j with
    | zero=>rw [hF,Yc]at M;exact M
    | succ F=>rw [hF,Yc,cp]at M;exact M
   subst cq;have db:L.length=ps.length:=by have:=az.1;lia
   refine⟨_,rfl,wd,ks,rfl,hW.same g,cb,λlw H9 cr g9 as ct=>?_⟩;have cu:=aa.same g9;refine⟨_,rfl,_,rfl,sv,d,l,t,rfl,bj.mono λ_ _=>(g.trans g9).seqT,bn,cu,by rw [ek];exact a0,λbx bz au bf=>?_⟩;rw [ek]at bf;have al:=g9.trans au;have bg:=al _ _ ad;refine⟨_,rfl,Y,rfl,⟨_,SqL.of bg⟩,λacc af=>?_⟩;refine Ji (K:=K) (xs:=L.map λm=>V.ref m.1) (cs:=[some (.ref d)]) (tt:=λ_ H Q=>Q true H) (te:=Ur (Ax P w K n) [] E0 (Q1 (ZL 0) (Q1 (ZL 1) YL))) (λi ys H'=>∃ms:List MdT,ys=ms.map (λm=>V.ref m.1)/\H' acc=some (.lst ys)/\Same bz H'/\ms.length=i/\dM ms=(dQ mk ps).take i/\∀m∈ms,SqT K H' m.1 [.str m.2.1,.ref m.2.2.1]/\H' m.2.2.1=some (.lst m.2.2.2.1)/\bz m.2.2.1=none/\m.2.2.1≠acc/\TmAll K H' m.2.2.2.1 m.2.2.2.2)
    ⟨[],rfl,Qb,Qd af _,rfl,rfl,λm Z=>(nomatch Z)⟩ ?_ ?_ ?_
   .rintro i ys H' _ ⟨_,_,_,U,_⟩;exact SqL.of (U _ _ bg)
   .rintro i x ys H' hi hx ⟨ms,rfl,av,U,bd,aw,ac⟩;have b0:i<L.length:=by rwa [aE]at hi
    have ax:i<ps.length:=by lia
    obtain rfl:x=.ref L[i].1:=by
     rw [aJ,aD b0]at hx;exact(aI hx).symm
    obtain⟨b1,b2,b3,b4⟩:=az.2 i _ _ (aD b0) (aD ax);have ay:=al.trans U;obtain⟨bu,a7⟩:=bp _ (aO ax);refine Q4 ⟨_,rfl,_,rfl,L[i].1,L[i].2.1,d,(mk ps[i]).1,L[i].2.2,(mk ps[i]).2,l,rfl,SqT.of (ay _ _ b1),SqL.of (ay _ _ b2),b4.mono λ_ _=>ay.seqT,bu,aa.same ay,λo ho=>⟨(a7 o ho).1,λc hc=>?_⟩,λpp lq us dc am cw ao cx b5=>?_⟩
    .rw [ek];exact a1 i _ (5:) (aD ax) c.1 (aK.mpr ⟨c,YH ho hc,rfl⟩)
    rw [ek]at b5;have ag:=am _ _ av;have b6:lq≠acc:=λz=>by rw [z,av]at ao;cases ao
    refine QA (ys:=ms.map λm=>V.ref m.1) hi ag (by rw [aE];lia) ⟨ms++[(pp,(mk ps[i]).1,lq,us,(mk ps[i]).2.map (mpX (ixP ps)))],by simp,Qb,λz u e=>?_,by simp [bd],?_,λm Z=>?_⟩
    .rw [Qh (Qg e af)];exact am _ _ (U _ _ e)
    .have cy:(dQ mk ps)[i]?=some ((mk ps[i]).1,(mk ps[i]).2.map (mpX (ixP ps))):=by unfold dQ;rw [aJ,aD ax];rfl
     rw [bF,cy,<-aw];unfold dM;rw [aT];rfl
    .rcases aY.mp Z with z | z
     .obtain⟨d1,d2,d3,d4,d5⟩:=ac m z;exact⟨(am.seqT d1).put ag,by rw [Qh d4];exact am _ _ d2,d3,d4,d5.mono λ_ _ h=>(am.seqT h).put ag⟩
     .obtain rfl:=bM.mp z;exact⟨(SqT.of cw).put ag,by rw [Qh b6];exact cx,Same.none U ao,b6,b5.mono λ_ _ h=>h.put ag⟩
   rintro ys dd ⟨ms,rfl,av,U,bd,aw,ac⟩;rw [bR (by unfold dQ;rw [aE,aE];lia)]at aw;refine⟨(by show 3<=sizeLine;decide),λtu cz=>?_⟩;have k1:=Qd cz (.tup [.ref lw,bx,.ref acc]);refine⟨_,rfl,_,rfl,(by show 2<=sizeLine;decide),λr hr=>?_⟩;have k2:=Qd hr (.tup [.ref tu,.ref d]);have an:=k1.trans k2;have gA:=U.trans an;have c0:H acc=none:=Same.none (g.trans al) af;have bh:∀b u,H9 b=some u->b≠acc/\∀m∈ms,b≠m.2.2.1:=by
    intro b u e;refine⟨λz=>?_,λm Z z=>?_⟩
    .rw [z]at e;rw [au _ _ e]at af;cases af
    .have:=(ac m Z).2.2.1;rw [<-z,au _ _ e]at this;cases this
   exact q r tu lw acc d bx cr ms _ ((g.trans al).trans gA) (SqT.of Qb) (k2.seqT (SqT.of Qb)) (as.ext g (au.trans gA)) ct (bf.mono λ_ _=>gA.seqT) ⟨c0,an _ _ av,λm Z=>⟨an.seqT (ac m Z).1,an _ _ (ac m Z).2.1,Same.none (g.trans al) (ac m Z).2.2.1,(ac m Z).2.2.2.1,(ac m Z).2.2.2.2.mono λ_ _=>an.seqT⟩⟩ aw
    (bh _ _ as.at0).1 (λk hk=>bh _ _ (as.kd k hk).2.1) (bh _ _ as.at0).2 a0 (λp hp=>by
     obtain⟨i,hi,rfl⟩:=bZ hp;exact a1 i _ (5:) (aD hi))
 .intro σ H Q Q' Z h;obtain⟨v1,h1,x1,x2,h2,h3,v2,h4,x3,x4,h5,h6,c1,x5,x6,h7,h8,x7,h9,c2⟩:=h;exact⟨v1,h1,x1,x2,h2,h3,v2,h4,x3,x4,h5,h6,c1,x5,x6,h7,h8,x7,h9,Z _ _ c2⟩
end
end K41
variable{mk:K41.MkP}
namespace L2
open PySem PySem.Spec PyProof.Rows HT
section
variable{E:Value->Shared->Prop}
theorem Ui{t sl:Addr}{lo:Option Int}(ht:IsTup s.heap t items)(hs:s.heap.IsSliceOf sl vl vu .none)(pl:IsPart vl lo)(pu:IsPart vu hi)
 (hw:sIx items.size 0 lo=0/\sIx items.size items.size hi=items.size) (h:Q (.ref t) s):wpAny (9:) A (getItem (.ref t) (.ref sl)) Q E s:=by
 obtain⟨U,J,L,Y⟩:=id hs;have M:s.TypeIs (.ref sl) "slice":=⟨U,J,L⟩;unfold getItem
 try with_reducible refine cF ?_
 first | refine aB (aF ?_) | skip
 refine aB (wpAny_sequenceKey ht.typeIs (11:) ?_);refine aB (dU (name:=Str.ofString "__getitem__") ht.typeIs fo
  (dA fo ht.typeIs entry_tuple_getitem ?_ (args_tuple_getitem _ _)))
 show wpAny _ _ (Builtin.Tuple.tupleItemsOf (.ref t)>>=_) _ _ s;refine aB (tupleItemsOf_ ht ?_);refine aB (fj M ?_);rw [aH (11:)];refine aB (ZW hs pl pu ?_);have G:((((sIx items.size 0 lo:Nat):Int)==0&&(1:Int)==1&&(sIx items.size items.size hi-sIx items.size 0 lo)==items.size)=true):=by
  rw [hw.1,hw.2];simp
 show wpAny _ _ (if(((sIx items.size 0 lo:Nat):Int)==0&&(1:Int)==1&&(sIx items.size items.size hi-sIx items.size 0 lo)==items.size)=true then _ else _) _ _ s;rw [aH G]
 first
  | refine aB (m:=Builtin.Tuple.tupleIsExact _) (aB (fj ht.typeIs (aF ?_)))
  | refine aB (aB (m:=Builtin.Tuple.tupleIsExact _) (aB (fj ht.typeIs (aF ?_))))
 rw [aH (11:)];exact aB (eQ (aF ⟨_,rfl,aF h⟩))
end
def Dn(K:Fg):V->Option Int->Option Int->Hp->VK->Prop:=λx lo hi H Q=>∃a xs,x=.ref a/\SqT K H a xs/\∀p H',Same H H'->SqT K H' p (cutV xs lo hi)->Q (.ref p) H'
theorem SQ:SlR X (Dn X.K):=by
 intro pins s σ H x v vl vu lo hi sl Q I M U Y Z h;obtain⟨a,xs,rfl,J,q⟩:=h
 by_cases G:HT.sIx xs.length 0 lo=0/\HT.sIx xs.length xs.length hi=xs.length
 .cases M;obtain⟨its,r,ht,hz⟩:=I.tuple J;have L:its.toArray.size=xs.length:=by rw [a_];exact r.length.symm
  refine⟨"tuple",_,fo.lookup,ht.typeIs,?_⟩;refine Ui ht U Y Z (by rw [L];exact G) ⟨.ref a,H,I,rfl,q a H (Same.refl _) ?_⟩;have e:cutV xs lo hi=xs:=by
   unfold cutV;rw [G.1,G.2,List.drop_zero,Nat.sub_zero,dN]
  rw [e];exact J
 .exact AQ pins s σ H _ v vl vu lo hi sl Q I M U Y Z ⟨a,xs,rfl,J,G,λp hp=>q p _ (Qd hp _) (SqT.of Qb)⟩
end L2
namespace K41
open PySem L2 TM TT ST K9 K11
abbrev sSA:Stmt:=top 5
abbrev sDn:Stmt:=top 11
abbrev sEM:Stmt:=top 37
abbrev sET:Stmt:=top 38
abbrev sSI:Stmt:=top 39
abbrev sST:Stmt:=top 40
theorem TF(S:Int->Stp)(t:Tm):eU S (t,[])=some (sin S t):=by
 have:=ZN S t;unfold eT at this
 rwa [Gf,dJ]at this
theorem Td:∀{p:List Nat}{t u:Tm}{r:List Nat},dn t p=some (u,r)->CallsIn n t->CallsIn n u/\lv u<=lv t/\r.length<=p.length
 | [],t,u,r,h,G=>by
  rw [Gf]at h;obtain⟨rfl,rfl⟩:=Prod.mk.inj (aI h);exact⟨G,aZ _,aZ _⟩
 | i::p,.node (.call m b) z bs,u,r,h,G=>by
  simp only [dn]at h;obtain⟨rfl,rfl⟩:=Prod.mk.inj (aI h);exact⟨G,aZ _,aZ _⟩
 | i::p,.node (.put nm k a) z bs,u,r,h,G=>by
  simp only [dn]at h;obtain⟨t,L,M⟩:=b_.mp h;have J:=aL L;obtain⟨h1,h2,U⟩:=Td M (G.bs t J);have:=Zt J;refine⟨h1,?_,?_⟩
  .simp only [lv];lia
  .rw [bK];lia
def SC(K:Fg):Sp:=λvs H Q _=>∃(v:V)(cp:Addr)(s u:Stp)(p:List Nat),vs=[v,.ref cp]/\SV K H v s/\SqT K H cp (PN p)/\stA s p=some u/\∀v',SV K H v' u->Q v' H
def cSA:List G3.S:=[.set 2 (.v 0),.forT 3 (.v 1) [.set 2 (.ix (.ix (.v 2) (.k (.int 3))) (.v 3))],.ret (.v 2)]
def A7(K:Fg):Sp:=λvs H Q _=>∃(v:V)(cp:Addr)(t u:Tm)(p r:List Nat),vs=[v,.ref cp]/\TmV K H v t/\SqT K H cp (PN p)/\dn t p=some (u,r)/\
 ∀(a c:Addr)(v':V)(H':Hp),Same H H'->SqT K H' a [v',.ref c]->TmV K H' v' u->SqT K H' c (PN r)->Q (.ref a) H'
def WB(K:Fg)(n:Nat):Sp:=λvs H Q _=>∃(v:V)(m b:Int)(cp:Addr)(s:Stp)(p:List Nat),vs=[v,.int m,.ref cp,.int b]/\SV K H v s/\SOk s/\sl s<=n/\SqT K H cp (PN p)/\p.length+sl s<=1000/\
 ∀(v':V)(H':Hp),Same H H'->TxV K H' v' (stX m b p s)->Q v' H'
structure SsAt(K:Fg)(H:Hp)(ls:Addr)(us:List V)(S:List Stp):Prop where
 l:SqL K H ls us
 a:SAll K H us S
 o:∀s∈S,SOk s/\sl s<=4
theorem SsAt.same{K:Fg}{us:List V}{S:List Stp}(h:SsAt K H ls us S)(g:Same H H'):SsAt K H' ls us S:=⟨g.seq h.l,h.a.mono λ_ _=>g.seqT,h.o⟩
def V4(K:Fg)(n:Nat):Sp:=λvs H Q _=>∃(v:V)(cp ls:Addr)(t:Tm)(p:List Nat)(us:List V)(S:List Stp)(x:TX),vs=[v,.ref cp,.ref ls]/\TmV K H v t/\lv t<=n/\SqT K H cp (PN p)/\p.length<=100/\SsAt K H ls us S/\CallsIn S.length t/\eU (lookS S) (t,p)=some x/\
 ∀(v':V)(H':Hp),Same H H'->TxV K H' v' x->Q v' H'
def cSI:List G3.S:=[.ite (.call 0 [.v 0]) [.ret (.call 1 [.call 2 [.ix (.v 2) (.ix (.v 0) (.k (.int 1))),.v 1],.ix (.v 0) (.k (.int 1)),.v 1,.ix (.v 0) (.k (.int 2))])] [],.ret (.call 3 [.v 0,.comp 2 (.ix (.v 0) (.k (.int 4))) [2] (.call 4 [.v 0,.tup [],.v 1])])]
def nSI(K:Fg)(n:Nat):G3.En:=⟨K,[λ_ vs H Q=>Zz K vs H Q E0,λ_ vs H Q=>WB K 4 vs H Q E0,λ_ vs H Q=>SC K vs H Q E0,λ_ vs H Q=>Gq K vs H Q E0,λ_ vs H Q=>V4 K n vs H Q E0],[],[],[]⟩
def Sh(K:Fg):Sp:=λvs H Q _=>∃(v:V)(cp ls:Addr)(t:Tm)(p:List Nat)(us:List V)(S:List Stp)(x:TX),vs=[v,.ref cp,.ref ls]/\TmV K H v t/\lv t<=4/\SqT K H cp (PN p)/\p.length<=100/\SsAt K H ls us S/\CallsIn S.length t/\eT (lookS S) t p=some x/\sz x<=400/\lv x<=10/\
 ∀(v':V)(H':Hp),Same H H'->TxV K H' v' x->Q v' H'
def SM(S:List Stp)(p:List Nat)(ts:List Tm)(xs:List TX):Prop:=xs.length=ts.length/\∀(i:Nat) t x,ts[i]?=some t->xs[i]?=some x->lv t<=4/\CallsIn S.length t/\eT (lookS S) t p=some x/\sz x<=400/\lv x<=10
def Ce(K:Fg):Sp:=λvs H Q _=>∃(tu wd lm ls pp:Addr)(sv:V)(ks:List KdT)(st:Tm)(ms:List MdT)(us:List V)(S:List Stp)(m:Nat)(p:List Nat)(md:MdT)(xs:List TX),vs=[.ref tu,.ref ls,.ref pp]/\TurnD K H tu wd lm sv ks st ms/\SsAt K H ls us S/\PrV K H pp ((m:Int),p)/\p.length<=100/\ms[m]?=some md/\md.2.2.2.2.length<=100/\SM S p md.2.2.2.2 xs/\
 ∀(p' lr:Addr)(ws:List V)(H':Hp),Same H H'->H' p'=some (.tup [.str md.2.1,.ref lr])->H lr=none->H' lr=some (.lst ws)->TxAll K H' ws xs->Q (.ref p') H'
def cEM:List G3.S:=[.set 3 (.ix (.ix (.v 0) (.k (.int 2))) (.ix (.v 2) (.k (.int 0)))),.ret (.tup [.ix (.v 3) (.k (.int 0)),.comp 1 (.ix (.v 3) (.k (.int 1))) [2,1] (.call 0 [.v 0,.ix (.v 1) (.k (.int 1)),.v 2])])]
def nEM(K:Fg):G3.En:=⟨K,[λ_ vs H Q=>Sh K vs H Q E0],[],[],[]⟩
theorem SJ(p:List Nat)(i:Nat):(PN p).drop i=PN (p.drop i):=List.map_drop.symm
theorem Ni{p:List Nat}{x:V}(h:(PN p)[i]?=some x):∃k,p[i]?=some k/\x=.int (k:Int)/\p.drop i=k::p.drop (i+1):=by
 rw [aJ]at h;obtain⟨k,G,rfl⟩:=cZ.mp h;have hi:=(aU.mp G).1;refine⟨k,G,rfl,?_⟩;rw [List.drop_eq_getElem_cons hi];rw [aD hi]at G;rw [aI G]
section
variable{K:Fg}
theorem Df:FnScope ["stump","place","here","number"] ["stump","place"] (defScope sSA):=(0:)
theorem BJ(F:Fun K "stump_at" "stump_at" sSA f fd)(G:Gm mg):FnOk P w K mg base CX0 1 f fd ["stump","place"] (SC K):=by
 refine G3.Fun.okC F Df (Br K) cSA (λX c=>⟨.nil,.nil,.nil⟩) (7:) (λH vs Q E h=>?_) G.rng
 .obtain⟨v,M,s,u,p,rfl,_⟩:=h
  rfl
 obtain⟨v,M,s,u,p,rfl,hs,hp,hu,q⟩:=h;refine .f (PN p) (λi σ H'=>∃(y:V)(L:Option V)(z:Stp),σ=[some v,some (.ref M),some y,L]/\H'=H/\SV K H y z/\stA z (p.drop i)=some u) ⟨v,none,s,rfl,rfl,hs,hu⟩ ?_ ?_ ?_
 .rintro i σ H' _ ⟨_,_,_,_,rfl,_⟩;exact hp
 .rintro i x σ H' hx ⟨y,L,z,rfl,rfl,hz,J⟩;obtain⟨k,hk,rfl,ed⟩:=Ni hx;rw [ed]at J;rcases Uu hz with⟨a,rfl,rfl,h1⟩ | ⟨a,b,bs,nm,m,ps,rfl,rfl,h1,h2,h3⟩
  .simp [stA]at J
  simp only [stA]at J;obtain⟨w',hw,J⟩:=b_.mp J;obtain⟨U,Y,Z⟩:=h3.get hw;exact .t _ _ h1 rfl<| .t _ U h2 (Qq Y) ⟨U,_,w',rfl,rfl,Z,J⟩
 .rintro σ H' ⟨y,L,z,rfl,rfl,hz,J⟩;rw [gJ (by rw [aE];exact aZ _),Zj]at J;rw [<-aI J]at q;exact q y hz
theorem N6:FnScope ["term","place","here","gone","number"] ["term","place"] (defScope sDn):=(0:)
theorem A3(F:Fun K "down_to" "down_to" sDn f fd)(G:Gm mg)(RC:Fn P w K mg base 1 "is_call" ["term"] (Zz K)):FnOk P w K mg base CX0 2 f fd ["term","place"] (A7 K):=by
 refine F.ok N6 (7:) (λag A outer s H vs Q E hr h=>?_)
 .obtain⟨v,U,t,u,p,r,rfl,_⟩:=h
  rfl
 obtain⟨v,U,t,u,p,r,rfl,ht,hp,hu,q⟩:=h;refine⟨_,(Qe (Qv (i:=2) N6.nd rfl (15:) (pv 0))
  (Qe (QJ bW rfl (GU rfl G.enu (Qa (pv 1) Qc)) (Zd rfl (Qr (Qo (i:=3) N6.nd rfl (15:)) (Qr (Qo (i:=4) N6.nd rfl (15:)) QZ))) (Qe (QK (QF (Qp RC hr (Qa (pv 2) Qc) (4:))) (Qi (Ql (QB (Qa (pv 2) (Qa (J7 SQ (pv 1) (Wq (pv 3)) X8) Qc))))) Qs)
  (Qi (Qv (i:=2) N6.nd rfl (15:) (Qk Qj (Qk Qj (pv 2) Qf (λ_ _=>rfl)) (pv 4) (λ_ _=>rfl))))))
  (Qi (Ql (QB (Qa (pv 2) (Qa (QB Qc) Qc))))))),?_⟩
 refine L2.let2 ?_
 intros
 refine⟨_,rfl,_,rfl,U,_,rfl,hp,?_⟩;refine WC (xs:=PN p) (λi σ H'=>∃(y:V)(Z c4:Option V)(z:Tm),σ=[some v,some (.ref U),some y,Z,c4]/\Same H H'/\TmV K H' y z/\dn z (p.drop i)=some (u,r)) ⟨v,none,none,t,rfl,λ_ _ e=>e,ht,hu⟩ ?_ ?_ ?_
 .rintro i σ H' _ ⟨_,_,_,_,_,g,_⟩;exact g.seqT hp
 .rintro i x pa σ H' hx aa ⟨y,Z,c4,z,rfl,g,hz,J⟩;obtain⟨k,hk,rfl,ed⟩:=Ni hx;have gp:=Qd aa (.tup [.int (i:Int),.int (k:Int)]);refine⟨pa,_,rfl,SqT.of Qb,rfl,_,_,rfl,_,_,rfl,rfl,?_⟩;have L:TmV K _ y z:=hz.mono λ_ _=>gp.seqT;have Y:=g.trans gp;generalize upd H' pa (.tup [.int (i:Int),.int (k:Int)])=H1 at gp L Y ⊢;rcases ZZ L with⟨a,m,b,rfl,rfl,h1⟩ | ⟨a,b,bs,nm,kk,ad,rfl,et,h1,h2,h3,h4⟩
  .rw [ed]at J;simp only [Uh,dn]at J;obtain⟨rfl,rfl⟩:=Prod.mk.inj (aI J);refine⟨_,rfl,a,ZB,_,rfl,h1,_,rfl,Sz rfl ⟨_,rfl,_,rfl,_,rfl,_,rfl,U,PN p,rfl,Y.seqT hp,λp1 H2 g2 d2=>⟨(by show 2<=sizeLine;decide),λpr M=>?_⟩⟩⟩;rw [LI,SJ,ed]at d2;have k1:=Qd M (.tup [.ref a,.ref p1]);exact q pr p1 _ _ (Y.trans (g2.trans k1)) (SqT.of Qb) (L.mono λ_ _=>(g2.trans k1).seqT) (k1.seqT d2)
  .refine⟨_,rfl,a,PUT,_,rfl,h1,_,rfl,JR (1:) ?_⟩;rw [ed,et]at J;simp only [dn]at J;obtain⟨t',ab,J⟩:=b_.mp J;obtain⟨cv,ac,ae⟩:=h3.get ab;exact⟨_,rfl,a,_,4,_,rfl,rfl,h1,rfl,_,rfl,b,_,_,cv,rfl,rfl,h2,Qq ac,cv,_,_,t',rfl,Y,ae,J⟩
 .rintro σ H' ⟨y,Z,c4,z,rfl,g,hz,J⟩;rw [gJ (by rw [aE];exact aZ _),Gf]at J;obtain⟨rfl,rfl⟩:=Prod.mk.inj (aI J);refine⟨_,rfl,(by show 0<=sizeLine;decide),λp0 af=>⟨(by show 2<=sizeLine;decide),λpr M=>?_⟩⟩;have k0:=Qd af (.tup []);have k1:=Qd M (.tup [y,.ref p0]);exact q pr p0 _ _ (g.trans (k0.trans k1)) (SqT.of Qb) (hz.mono λ_ _=>(k0.trans k1).seqT) (k1.seqT (SqT.of Qb))
theorem So:FnScope ["stump","mode","place","branch","parts","number","part"] ["stump","mode","place","branch"] (defScope sST):=(0:)
theorem A5(F:Fun K "stump_term" "stump_term" sST f fd)(G:Gm mg)(RO:Fn P w K mg base 1 "is_open" ["stump"] (K41c.spIsO K))(R:Fn P w K mg base (n+1) "stump_term" ["stump","mode","place","branch"] (WB K n)):FnOk P w K mg base CX0 (n+2) f fd ["stump","mode","place","branch"] (WB K (n+1)):=by
 refine F.ok So (7:) (λas A outer s H vs Q E hr h=>?_)
 .obtain⟨v,m,b,L,s,p,rfl,_⟩:=h
  rfl
 obtain⟨v,m,br,L,st,p,rfl,hs,M,ag,hp,ah,q⟩:=h;refine⟨_,(Qe (QK (QF (Qp RO hr (Qa (pv 0) Qc) (dH 1 n))) (Qi (Ql (QB (Qa (Zi) (Qa ((QB (Qa (pv 1) (Qa (pv 2) Qc)))) (Qa (pv 3) Qc)))))) Qs)
  (Qe (Qv (i:=4) So.nd rfl (15:) (Zm Qc))
  (Qe (QJ bW rfl (GU rfl G.enu (Qa (2:) Qc)) (Zd rfl (Qr (Qo (i:=5) So.nd rfl (15:)) (Qr (Qo (i:=6) So.nd rfl (15:)) QZ)))
   (Qi (Zb (YQ cR fu fw Zo (pv 4) (Qa (Qp R hr (Qa (pv 6) (Qa (pv 1) (Qa (QD GV (pv 2) (QB (Qa (pv 5) Qc))) (Qa (pv 3) Qc)))) (4:)) Qc)))))
  (Qi (Ql (QB (Qa (Zi) (Qa (2:) (Qa (ZE) (Qa (2:) (Qa (QO QV rfl G.tup cS (Qa (pv 4) Qc)) Qc))))))))))),?_⟩
 refine L2.let3 ?_
 intros
 refine⟨_,rfl,v,st,rfl,hs,_,rfl,?_⟩;rcases Uu hs with⟨a,rfl,rfl,h1⟩ | ⟨a,b,bs,nm,mk,ps,rfl,rfl,h1,h2,h3⟩
 .refine Q4 ⟨_,rfl,_,rfl,(by show 2<=sizeLine;decide),λp0 ai=>⟨_,rfl,(by show 3<=sizeLine;decide),λp1 aj=>?_⟩⟩;have g0:=Qd ai (.tup [.int m,.ref L]);have g1:=Qd aj (.tup [.str ZB,.ref p0,.int br]);exact q _ _ (g0.trans g1) (.call (SqT.of Qb) ⟨L,g1.seqT (SqT.of Qb),(g0.trans g1).seqT hp⟩)
 have ar:=h3.length;simp only [SOk]at M;simp only [sl]at ag ah;refine QS ⟨(by show 0<=sizeLine;decide),λl hl=>?_⟩;have U:=Qd hl (.lst []);refine⟨_,rfl,a,_,3,_,rfl,rfl,U.seqT h1,rfl,b,bs,rfl,U.seqT h2,?_⟩;refine WC (xs:=bs) (λi σ H'=>∃(ys:List V)(c5 c6:Option V),σ=[some (.ref a),some (.int m),some (.ref L),some (.int br),some (.ref l),c5,c6]/\Same H H'/\H' l=some (.lst ys)/\ys.length=i/\TxAll K H' ys ((Zy m br p 0 ps).take i))
  ⟨[],none,none,rfl,U,Qb,rfl,.nil⟩ ?_ ?_ ?_
 .rintro i σ H' _ ⟨ys,c1,c2,_,g,_⟩;exact g.seqT h2
 .rintro i v pa σ H' hv ak ⟨ys,c1,c2,rfl,g,Y,ac,J⟩;have hi:i<bs.length:=(aU.mp hv).1;have ad:i<ps.length:=by lia
  have ae:=aD ad;obtain⟨cv,al,am⟩:=h3.get ae;obtain rfl:cv=v:=aI (al.symm.trans hv);have hm:=aO ad;have a1:=LZ hm;have an:=(Yf ps).mp M.2.2 _ hm;have gp:=Qd ak (.tup [.int (i:Int),cv]);refine⟨pa,_,rfl,SqT.of Qb,rfl,_,_,rfl,_,_,rfl,rfl,?_⟩;have Z:=gp _ _ Y;have gg:=g.trans gp;have aa:TxAll K _ ys _:=J.mono λ_ _=>gp.seqT;generalize upd H' pa (.tup [.int (i:Int),cv])=H1 at gp Z gg aa ⊢;refine⟨_,rfl,.inl ⟨rfl,_,SqL.of Z⟩,_,rfl,_,rfl,_,rfl,_,rfl,(by show 1<=sizeLine;decide),λp2 ao=>?_⟩;have g2:=Qd ao (.tup [.int (i:Int)]);refine⟨L,p2,PN p,[.int (i:Int)],rfl,rfl,(gg.trans g2).seqT hp,SqT.of Qb,by rw [aE];exact Z9 (by simp only [dE];lia),λp3 H3 g3 af=>?_⟩;have ep:PN p++[V.int (i:Int)]=PN (p++[i]):=by simp
  rw [ep]at af;have gh:=gg.trans (g2.trans g3);refine⟨_,rfl,cv,m,br,p3,ps[i],p++[i],rfl,am.mono λ_ _=>gh.seqT,an,by lia,af,by rw [bH,dE];lia,λv' H4 g4 ap=>?_⟩;have ab:=(g2.trans (g3.trans g4)) _ _ Z;refine⟨l,ys,_,rfl,rfl,ab,by rw [QI];lia,ys++[v'],_,_,rfl,λx u e=>?_,Qb,by simp [ac],?_⟩
  .rw [Qh (Qg e hl)];exact(gh.trans g4) _ _ e
  .rw [bF,JL,ae,fR];exact TxAll.append (aa.mono λ_ _ h=>((g2.trans (g3.trans g4)).seqT h).put ab) (.cons (ap.mono λ_ _ h=>h.put ab) .nil)
 .rintro σ H' ⟨ys,c1,c2,rfl,g,Y,ac,J⟩;rw [bR (by rw [Wx];lia)]at J;refine⟨_,rfl,a,_,1,_,rfl,rfl,g.seqT h1,rfl,_,rfl,a,_,2,_,rfl,rfl,g.seqT h1,rfl,_,rfl,l,ys,rfl,.inl ⟨SqL.of Y,λt ht=>⟨(by show 5<=sizeLine;decide),λpr aq=>?_⟩⟩⟩;have g1:=Qd ht (.tup ys);have g2:=Qd aq (.tup [.str PUT,.str nm,.bl false,.int mk,.ref t]);refine q (.ref pr) _ (g.trans (g1.trans g2)) ?_;simp only [stX];exact .put (SqT.of Qb) (g2.seqT (SqT.of Qb)) (J.mono λ_ _=>(g1.trans g2).seqT) (by have:=M.2.1;lia)
theorem Sx{k:Nat}:FnOk P w K mg base CX0 k f fd ["stump","mode","place","branch"] (WB K 0):=by
 have G:∀vs H Q E,¬WB K 0 vs H Q E:=λvs H Q E h=>by
  obtain⟨v,m,b,L,s,p,_,_,_,M,_⟩:=h;have:=N5 s;lia
 exact⟨λvs H Q E h=>absurd h (G vs H Q E),λA outer s H J U vs Q E _ _ _ _ h=>absurd h (G vs H Q E)⟩
theorem Oe(F:Fun K "stump_term" "stump_term" sST f fd)(G:Gm mg)(RO:Fn P w K mg base 1 "is_open" ["stump"] (K41c.spIsO K))(hb:Binds K fd ["stump","mode","place","branch"] [])(hm:mg "stump_term"=some (.ref f)):∀n:Nat,FnOk P w K mg base CX0 (n+1) f fd ["stump","mode","place","branch"] (WB K n)
 | 0=>Sx
 | n+1=>A5 F G RO ⟨f,fd,Oe F G RO hb hm n,hb,F.kp,hm⟩
theorem C9:FnScope ["term","place","stumps"] ["term","place","stumps"] (defScope sSI):=(0:)
theorem Bn(F:Fun K "stumps_in" "stumps_in" sSI f fd)(G:Gm mg)(RC:Fn P w K mg base 1 "is_call" ["term"] (Zz K))(RT:Fn P w K mg base 5 "stump_term" ["stump","mode","place","branch"] (WB K 4))(RA:Fn P w K mg base 1 "stump_at" ["stump","place"] (SC K))(RW:Fn P w K mg base 1 "with_parts" ["term","parts"] (Gq K))(R:Fn P w K mg base (n+5) "stumps_in" ["term","place","stumps"] (V4 K n)):FnOk P w K mg base CX0 (n+6) f fd ["term","place","stumps"] (V4 K (n+1)):=by
 refine G3.Fun.okC F C9 (nSI K n) cSI (λX c=>⟨.cons (c.fn RC (5:)) (.cons (c.fn RT (5:)) (.cons (c.fn RA (5:)) (.cons (c.fn RW (5:)) (.cons (c.fn R (4:)) .nil)))),.nil,.nil⟩) (7:) (λH vs Q E h=>?_) G.rng
 .obtain⟨v,cp,ls,t,p,us,S,x,rfl,_⟩:=h
  rfl
 obtain⟨v,cp,ls,t,p,us,S,x,rfl,ht,aa,hp,ah,Y,J,L,q⟩:=h;rcases ZZ ht with⟨a,m,b,rfl,rfl,h1⟩ | ⟨a,b,bs,nm,k,ad,rfl,et,h1,h2,h3,h4⟩
 .simp only [Uh,eU]at L;obtain⟨s,hs,rfl⟩:=cZ.mp L;obtain⟨m0,m1⟩:=J (m,b) (by simp [Uh,cls,lcl]);have m1:m.toNat<S.length:=m1;have m0:0<=m:=m0;have es:S[m.toNat]?=some (lookS S m):=by
   unfold lookS;rw [aD m1];rfl
  obtain⟨sv,ab,ac⟩:=Y.a.get es;obtain⟨o1,o2⟩:=Y.o _ (aL es);have z1:=V2 hs;have ok:SOk s:=by
   have:∀(p:List Nat)(a b:Stp),SOk a->stA a p=some b->SOk b:=λp=>by
    induction p with
    | nil=>intro a b h e;rw [Zj]at e;rw [<-aI e];exact h
    | cons i r ih=>
     intro a b h e;cases a with
     | op=>simp [stA]at e
     | put n m ps=>
      simp only [stA]at e;obtain⟨c,J,e⟩:=b_.mp e;simp only [SOk]at h;exact ih c b ((Yf ps).mp h.2.2 c (aL J)) e
   exact this p _ _ o1 hs
  refine⟨a,ZB,_,rfl,h1,.t _ _ h1 rfl<| .l _ sv Y.l (by rw [<-ef m0];exact Qq ab) ⟨sv,cp,_,s,p,rfl,ac,hp,hs,λv' M=>.t _ _ h1 rfl<| .t _ _ h1 rfl ⟨v',m,b,cp,s,p,rfl,M,ok,by lia,hp,by lia,q⟩⟩⟩
 refine⟨a,PUT,_,rfl,h1,?_⟩;have ag:=h3.length;rw [Zl]at aa;rw [et]at J L;simp only [eU]at L;refine .t _ _ h1 rfl<| .t bs h2<| .s (λi ys H1=>ys.length=i/\TxAll K H1 ys ((t.bs.take i).map (sin (lookS S)))) (λH1 g=>⟨rfl,.nil⟩) (λacc i ys l H1 H2 h _ _ _ k=>⟨h.1,h.2.mono k⟩) (5:) (λi ys H1 hi _ g h=>?_) λp ys H1 g hp h=>?_
 .have U:=aD (show i<t.bs.length by lia);obtain⟨cv,ae,af⟩:=h3.get U;have ex:(bs[i]?).getD .non=cv:=by rw [ae];rfl
  rw [ex];have hm:=aL U;have:=Zt hm;refine⟨λp1 H2 g2 d2 _=>⟨cv,p1,ls,_,[],us,S,_,rfl,af.mono λ_ _=>(g.trans g2).seqT,by lia,d2,by decide,Y.same (g.trans g2),J.bs _ hm,TF _ _,λv' H3 g3 M=>⟨g2.trans g3,by simp [h.1],?_⟩⟩⟩;rw [bF,U,aT];exact TxAll.append (h.2.mono λ_ _=>(g2.trans g3).seqT) (.cons M .nil)
 obtain⟨hl,Z⟩:=h;rw [bR (5:)]at Z;refine⟨a,p,ys,_,_,_,_,_,rfl,g.seqT h1,SqL.of hp,λp' b' H2 g2 d1 d2=>q _ H2 (g.trans g2) ?_⟩;rw [<-aI L];simp only [sin];rw [YC];exact .put d1 d2 (Z.mono λ_ _=>g2.seqT) (5:)
theorem Rh{k:Nat}:FnOk P w K mg base CX0 k f fd ["term","place","stumps"] (V4 K 0):=by
 have G:∀vs H Q E,¬V4 K 0 vs H Q E:=λvs H Q E h=>by
  obtain⟨v,U,Y,t,p,J,S,x,_,_,L,_⟩:=h;rw [Zl]at L;lia
 exact⟨λvs H Q E h=>absurd h (G vs H Q E),λA outer s H M J vs Q E _ _ _ _ h=>absurd h (G vs H Q E)⟩
theorem N3(F:Fun K "stumps_in" "stumps_in" sSI f fd)(G:Gm mg)(RC:Fn P w K mg base 1 "is_call" ["term"] (Zz K))(RT:Fn P w K mg base 5 "stump_term" ["stump","mode","place","branch"] (WB K 4))(RA:Fn P w K mg base 1 "stump_at" ["stump","place"] (SC K))(RW:Fn P w K mg base 1 "with_parts" ["term","parts"] (Gq K))(hb:Binds K fd ["term","place","stumps"] [])(hm:mg "stumps_in"=some (.ref f)):∀n:Nat,FnOk P w K mg base CX0 (n+5) f fd ["term","place","stumps"] (V4 K n)
 | 0=>Rh
 | n+1=>Bn F G RC RT RA RW ⟨f,fd,N3 F G RC RT RA RW hb hm n,hb,F.kp,hm⟩
theorem AW:FnScope ["term","place","stumps","found","told"] ["term","place","stumps"] (defScope sET):=(0:)
theorem Cj(F:Fun K "early_term" "early_term" sET f fd){ts tl:Tok}(hS4:mg "MOST_SIZE"=some (.int 400 ts))(hL6:mg "MOST_LEVELS"=some (.int 60 tl))(RD:Fn P w K mg base 2 "down_to" ["term","place"] (A7 K))(RI:Fn P w K mg base 9 "stumps_in" ["term","place","stumps"] (V4 K 4))(RZ:Fn P w K mg base 11 "term_size" ["term"] (Gy K 10))(RL:Fn P w K mg base 11 "term_levels" ["term"] (Gb K 10)):FnOk P w K mg base CX0 12 f fd ["term","place","stumps"] (Sh K):=by
 refine F.ok AW (7:) (λaf A outer s H vs Q E J h=>?_)
 .obtain⟨v,Y,Z,t,p,us,S,x,rfl,_⟩:=h
  rfl
 obtain⟨v,Y,Z,t,p,us,S,x,rfl,ht,ag,hp,ah,hS,hc,L,hz,hl,q⟩:=h;have aa:Room 2 _:=J.mono (11:);have ab:Room 9 _:=J.mono (11:);refine⟨_,(Qe (Qv (i:=3) AW.nd rfl (15:) (Qp RD aa (Qa (pv 0) (Qa (pv 1) Qc))))
  (Qe (Qv (i:=4) AW.nd rfl (15:) (Qp RI ab (Qa (Qk Qj (pv 3) Qf (λ_ _=>rfl)) (Qa (Qk Qj (pv 3) Qf (λ_ _=>rfl)) (Qa (pv 2) Qc)))))
  (Qe (QK (Qu Lr (Qp RZ J (Qa (pv 4) Qc)) (Uv (v:=.int 400) rfl hS4 ⟨_,rfl⟩) (Qx _)) UC Qs)
  (Qe (QK (Qu Lr (Qp RL J (Qa (pv 4) Qc)) (Uv (v:=.int 60) rfl hL6 ⟨_,rfl⟩) (Qx _)) UC Qs)
  (Qi (Ql (pv 4))))))),?_⟩
 refine L2.let4 ?_
 intros
 unfold eT at L;obtain⟨⟨u,r⟩,hd,L⟩:=b_.mp L;obtain⟨ac,ai,aj⟩:=Td hd hc;refine⟨_,rfl,_,rfl,v,Y,t,u,p,r,rfl,ht,hp,hd,λa c v' H1 g1 d1 ad ae=>?_⟩;refine⟨_,rfl,a,_,0,_,rfl,rfl,d1,rfl,_,rfl,a,_,1,_,rfl,rfl,d1,rfl,_,rfl,v',c,Z,u,r,us,S,x,rfl,ad,by lia,ae,by lia,hS.same g1,ac,L,λM H2 g2 G=>?_⟩;refine⟨_,rfl,M,x,rfl,G,hl,λH3 U=>⟨_,_,rfl,rfl,_,rfl,JR (5:) ?_⟩⟩;refine⟨_,rfl,M,x,rfl,G.mono λ_ _=>U.seqT,hl,λH4 g4=>⟨_,_,rfl,rfl,_,rfl,JR (5:) ?_⟩⟩;exact⟨_,rfl,q M H4 (g1.trans (g2.trans (U.trans g4))) (G.mono λ_ _=>(U.trans g4).seqT)⟩
theorem C6:FnScope ["turning","stumps","pair","mode"] ["turning","stumps","pair"] (defScope sEM):=(0:)
theorem Bj(F:Fun K "early_mode" "early_mode" sEM f fd)(G:Gm mg)(RT:Fn P w K mg base 12 "early_term" ["term","place","stumps"] (Sh K)):FnOk P w K mg base CX0 13 f fd ["turning","stumps","pair"] (Ce K):=by
 refine G3.Fun.okC F C6 (nEM K) cEM (λX c=>⟨.cons (c.fn RT (4:)) .nil,.nil,.nil⟩) (7:) (λH vs Q E h=>?_) G.rng
 .obtain⟨tu,wd,lm,ls,pp,sv,ks,st,ms,us,S,m,p,md,xs,rfl,_⟩:=h
  rfl
 obtain⟨tu,wd,lm,ls,pp,sv,ks,st,ms,us,S,m,p,md,xs,rfl,Y,hS,⟨c,M,aa⟩,ab,hm,ag,hE,q⟩:=h;obtain⟨Z,d2,d3⟩:=Y.m.2 md (aL hm);have af:=d3.length;refine .t _ _ Y.tu rfl<| .t _ _ M rfl<| .l _ (.ref md.1) Y.m.1 (Qq (by rw [aJ,hm];rfl))<| .t _ _ Z rfl<| .t _ _ Z rfl<| .l _ d2<| .m (λacc i ys H1=>Same H H1/\H1 acc=some (.lst ys)/\ys.length=i/\TxAll K H1 ys (xs.take i)) (5:) (λacc H1 L g e=>⟨g,e,rfl,.nil⟩) (λacc i ys H1 h=>h.1.seq d2) (λacc i ys H1 hi _ L ⟨g,e,U,J⟩=>?_) λacc ys H1 L ⟨g,e,U,J⟩=>?_
 .have hc:=aD (show i<md.2.2.2.2.length by lia);have hx:=aD (show i<xs.length by have:=hE.1;lia);obtain⟨cv,ac,ad⟩:=d3.get hc;have ex:(md.2.2.2.1[i]?).getD .non=cv:=by rw [ac];rfl
  rw [ex];obtain⟨e1,e2,e3,e4,e5⟩:=hE.2 i _ _ hc hx;refine .t _ _ (g.seqT M) rfl ⟨cv,c,ls,_,p,us,S,_,rfl,ad.mono λ_ _=>g.seqT,e1,g.seqT aa,ab,hS.same g,e2,e3,e4,e5,λv' H2 g2 ae=>⟨g2 _ _ e,λb u eb=>?_,Qb,by simp [U],?_⟩⟩
  .rw [Qh (Qg eb L)];exact g2 _ _ (g _ _ eb)
  rw [bF,hx];exact TxAll.append (J.mono λ_ _ h=>(g2.seqT h).put (g2 _ _ e)) (.cons (ae.mono λ_ _ h=>h.put (g2 _ _ e)) .nil)
 rw [bR (by have:=hE.1;lia)]at J;exact⟨λp' X1 k1 Z e1=>q p' acc ys X1 (g.trans k1) e1 L (k1 _ _ e) (J.mono λ_ _=>k1.seqT)⟩
end
end K41
namespace ST
open PySem TM TT L2 K11 K9
theorem LQ{k:Nat}:∀(l:List Stp)(x:Stp),SOk x/\sl x<=k->SOk (l.foldl met x)/\sl (l.foldl met x)<=k
 | [],x,h=>h
 | y::r,x,h=>by
  obtain⟨G,J⟩:=Xc x y h.1;exact LQ r (met x y) ⟨G,by lia⟩
theorem Su{k:Nat}{l:List Stp}(hne:l≠[])(h:∀y∈l,SOk y/\sl y<=k):SOk (Vk l)/\sl (Vk l)<=k:=by
 cases l with
 | nil=>exact absurd rfl hne
 | cons x r=>exact LQ r x (h x aQ)
theorem Ua{S:List Stp}{m:Nat}{s:Stp}(h:S[m]?=some s):lookS S (m:Int)=s:=by
 unfold lookS;rw [aX,h];rfl
theorem AO{rl:Rls}(ok:JH rl){k:Nat}(h:∀s∈D rl 0,SOk s/\sl s<=k):∀n,∀s∈D rl n,SOk s/\sl s<=k
 | 0=>h
 | n+1=>λs U=>by
  obtain⟨m,J,e⟩:=bZ U;have Y:=Ua ((aD J).trans (congrArg some e));have G:m<(D rl n).length:=by rw [Uf]at J ⊢;exact J
  have Z:=Ua (aD G);have b:=Xo ok n (m:Int);rw [Y,Z]at b;obtain⟨i1,i2⟩:=AO ok h n _ (aO G);obtain⟨L,M⟩:=Xc (D rl n)[m] s i1;rw [ZH]at L M;have b':met s (D rl n)[m]=s:=b;rw [b']at L M;exact⟨L,by lia⟩
theorem WoodAt.insX{K:Fg}{x:Addr}{ks:List KdT}(i:InsAt H x)(g:SameX x H H')(h:WoodAt K H wd ks):WoodAt K H' wd ks:=
 ⟨i.seq g h.1,λk G=>⟨i.seqT g (h.2 k G).1,i.seq g (h.2 k G).2.1,λt J=>⟨i.seqT g ((h.2 k G).2.2 t J).1,i.seqT g ((h.2 k G).2.2 t J).2⟩⟩⟩
end ST
namespace K41c
open K41
open PySem L2 TM TT ST K9 K11
abbrev WR:Stmt:=inClass (top 22) 0
abbrev Us:Stmt:=inClass (top 22) 1
abbrev Vb:Stmt:=inClass (top 22) 2
structure TuOk(ks:List KdT)(ms:List MdT):Prop where
 wo:WoodOk ks
 mo:MsOk ms
 kd:∀m∈ms,∃kd∈ks,kd.2.1=m.2.1/\m.2.2.2.2.length=kd.2.2.2.length/\(∃r∈kd.2.2.2,r.2.2.2=[])/\∀(j:Nat)(r:PNx)(t:Tm),kd.2.2.2[j]?=some r->m.2.2.2.2[j]?=some t->r.2.2.2=[]->cls t=[]
theorem TuOk.rows{ks:List KdT}(T:TuOk ks ms){m:MdT}(hm:m∈ms):(Qt ks m.2.1).length=m.2.2.2.2.length/\(∃r∈Qt ks m.2.1,r.2.2.2=[])/\∀(j:Nat)(r:PNx)(t:Tm),(Qt ks m.2.1)[j]?=some r->m.2.2.2.2[j]?=some t->r.2.2.2=[]->cls t=[]:=by
 obtain⟨G,J,e,L,M,U⟩:=T.kd m hm;have Y:Qt ks m.2.1=G.2.2.2:=by rw [<-e];exact JU T.wo.nd J
 rw [Y];exact⟨L.symm,M,U⟩
theorem rls_at{rows:List PNx}{ts:List Tm}(hl:rows.length=ts.length){b:Bool}{t:Tm}:(Q3 rows ts)[j]?=some (b,t)↔ts[j]?=some t/\∃r,rows[j]?=some r/\b=r.2.2.2.isEmpty:=by
 unfold Q3;rw [fX]
 by_cases J:j<ts.length
 .have G:j<rows.length:=by lia
  rw [aD J,aD G];simp only [Option.some.injEq,Prod.mk.injEq,exists_eq_left'];constructor
  .rintro⟨rfl,rfl⟩;exact⟨rfl,rfl⟩
  .rintro⟨rfl,rfl⟩;exact⟨rfl,rfl⟩
 .rw [dY (by lia:ts.length<=j),dY (by lia:rows.length<=j)];simp
theorem TuOk.rl{ks:List KdT}(T:TuOk ks ms):RlAt ms (rlOf ks ms):=by
 refine⟨λZ aa=>?_,by unfold rlOf;rw [aE],λc hc t ht=>?_,λm Z J r Y=>?_⟩
 .obtain⟨m,J,rfl⟩:=aK.mp aa;obtain⟨L,⟨r,Y,hb⟩,hf⟩:=T.rows J;constructor
  .obtain⟨j,M,e⟩:=bZ Y;have ab:j<m.2.2.2.2.length:=by lia
   refine⟨(r.2.2.2.isEmpty,m.2.2.2.2[j]),aL ((rls_at L).mpr ⟨aD ab,r,by rw [<-e];exact aD M,rfl⟩),?_⟩;show r.2.2.2.isEmpty=true;rw [hb];rfl
  .rintro⟨b,t⟩ ac ad;obtain⟨j,M,e⟩:=bZ ac;obtain⟨h1,r',h2,h3⟩:=(rls_at L).mp ((aD M).trans (congrArg some e));refine hf j r' t h2 h1 ?_;have h4:b=true:=ad;rw [h3]at h4;exact List.isEmpty_iff.mp h4
 .obtain⟨m,j,x,t',rfl,G,U,ae⟩:=Jr hc;rw [ae]at ht;obtain rfl:=aI ht;obtain⟨L,_,_⟩:=T.rows (aL G);have M:j<(Qt ks x.2.1).length:=by rw [L];exact(aU.mp U).1
  refine⟨Q3 (Qt ks x.2.1) x.2.2.2.2,_,?_,aL ((rls_at L).mpr ⟨U,_,aD M,rfl⟩)⟩;show(rlOf ks ms)[((m:Int)).toNat]?=_;unfold rlOf;rw [aX,aJ,G];rfl
 .unfold rlOf at J;rw [aJ]at J;cases G:ms[m]? with
  | none=>rw [G]at J;cases J
  | some x=>
   rw [G]at J;obtain rfl:Q3 (Qt ks x.2.1) x.2.2.2.2=Z:=aI J;obtain⟨L,_,_⟩:=T.rows (aL G);obtain⟨j,M,e⟩:=bZ Y;obtain⟨b,t⟩:=r;obtain⟨h1,_⟩:=(rls_at L).mp ((aD M).trans (congrArg some e));have af:m<ms.length:=(aU.mp G).1;have ag:j<nRl ms m:=by unfold nRl;rw [G];exact(aU.mp h1).1
   refine⟨((m:Int),(j:Int)),ZR.mpr ⟨m,j,rfl,af,ag⟩,rfl,?_⟩;unfold Zx;simp only [aX];rw [G];exact h1
structure DsAt(H:Hp)(l:Addr)(ms:List MdT)(ds:DsT):Prop where
 li:H l=some (.lst (ds.map λd=>V.ref d.1))
 len:ds.length=ms.length
 dat:∀d∈ds,H d.1=some (.dT d.2)
 nd:∀d∈ds,(d.2.map (·.1)).Nodup
 kin:∀d∈ds,∀q∈d.2,(∃c∈QT ms ms.length,q.1=kk c)/\q.2=V.bl true
 all:∀c∈QT ms ms.length,∀t,Zx ms c=some t->∀y∈cls t,∀d,ds[y.1.toNat]?=some d->kk c∈d.2.map (·.1)
theorem CBs.ds{ds:DsT}(h:CBs H0 H l ms ds ((QT ms ms.length).flatMap (Z0 ms))):DsAt H l ms ds:=
 ⟨h.li,h.len,h.dat,h.nd,h.kin,λc G t J y L d M=>h.all (c,y.1) (List.mem_flatMap.mpr ⟨c,G,by unfold Z0;rw [J];exact aK.mpr ⟨y,L,rfl⟩⟩) d M⟩
theorem DsAt.insX{x:Addr}{ds:DsT}(i:InsAt H x)(g:SameX x H H')(h:DsAt H l ms ds):DsAt H' l ms ds:=
 ⟨i.lst g h.li,h.len,λd G=>i.dT g (h.dat d G),h.nd,h.kin,h.all⟩
def Yp(lm lc ls lw:Addr):List (Str×V):=[("modes",.ref lm),("callers",.ref lc),("stumps",.ref ls),("waiting",.ref lw)]
structure StgAt(K:Fg)(C:Addr)(H:Hp)(x lm:Addr)(ms:List MdT)(rl:Rls)(n:Nat)(ls:Addr)(us:List V)(W:List (Int×Int))(lc lw:Addr):Prop where
 ob:∃(dx:Addr)(ds:DsT)(ts:List (Addr×List Int)),H x=some (.ins C dx (Yp lm lc ls lw))/\DsAt H lc ms ds/\H lw=some (.lst (Rf ts))/\TsAt K H ts/\ts.map (·.2)=W.map pr
 mo:ModesL K H lm ms
 sl:H ls=some (.lst us)
 sa:SAll K H us (D rl n)
 so:∀s∈D rl n,SOk s/\ST.sl s<=4
 win:∀c∈W,c∈QT ms ms.length
 few:W.length<=40
 wout:∀c∈QT ms ms.length,c∉W->∀t,Zx ms c=some t->Bel (lookS (D rl n) c.1) (rsT (lookS (D rl n)) t)
structure StgT(K:Fg)(mg:Str->Option Value)(C:Addr):Prop where
 cl:Cls K C
 nM:NoAttr K C "modes"
 nC:NoAttr K C "callers"
 nS:NoAttr K C "stumps"
 nW:NoAttr K C "waiting"
 mgC:mg "Stages"=some (.ref C)
def Vx(K:Fg)(C:Addr):Sp:=λvs H Q _=>∃(x lm ls:Addr)(ms:List MdT)(rl:Rls)(n:Nat)(us:List V)(W:List (Int×Int))(lc lw:Addr),vs=[.ref x]/\StgAt K C H x lm ms rl n ls us W lc lw/\Q (.bl (decide (W.length=0))) H
def Nk(K:Fg)(C:Addr):Sp:=λvs H Q _=>∃(x dx tu wd lm:Addr)(sv:V)(ks:List KdT)(st:Tm)(ms:List MdT),vs=[.ref x,.ref tu]/\H x=some (.ins C dx [])/\TurnD K H tu wd lm sv ks st ms/\TuOk ks ms/\
 ∀(H':Hp)(ls lc lw:Addr)(us:List V),SameX x H H'->H ls=none->StgAt K C H' x lm ms (rlOf ks ms) 0 ls us (QT ms ms.length) lc lw->Q .non H'
section
variable{K:Fg}{C:Addr}
theorem Dj:FnScope ["self"] ["self"] (defScope Us):=(0:)
theorem BW(F:Fun K "is_last" "Stages.is_last" Us f fd)(G:Gm mg)(T:StgT K mg C):FnOk P w K mg base CX0 1 f fd ["self"] (Vx K C):=by
 refine F.ok Dj (7:) (λaa A outer s H vs Q E hr h=>?_)
 .obtain⟨x,Y,Z,ms,rl,n,us,W,lc,L,rfl,_⟩:=h
  rfl
 obtain⟨x,Y,Z,ms,rl,n,us,W,lc,L,rfl,S,q⟩:=h;obtain⟨dx,ds,M,hx,_,hw,_,ew⟩:=S.ob;refine⟨_,(Qi (Ql (ZI ZG (Qn Qm rfl G.len bT (Qa (Yj (pv 0) rfl) Qc)) Qf (Qx _)))),?_⟩;refine⟨_,rfl,x,C,dx,_,_,rfl,hx,T.cl,T.nW,rfl,L,_,rfl,.inl (SqL.of hw),rfl,?_⟩;have U:=congrArg List.length ew;rw [aE,aE]at U;have e:decide (V.int (((Rf M).length:Nat):Int)=V.int 0)=decide (W.length=0):=by
  rw [aE]
  by_cases J:W.length=0
  .rw [bO J,bO (by rw [U,J];rfl)]
  .rw [bV J,bV λz=>J (by have:=V.int.inj z;lia)]
 show Q (.bl (decide (V.int (((Rf M).length:Nat):Int)=V.int 0))) H;rw [e];exact q
end
def fl1(lm:Addr):List (Str×V):=[("modes",.ref lm)]
def fl2(lm lc:Addr):List (Str×V):=[("modes",.ref lm),("callers",.ref lc)]
def fl3(lm lc ls:Addr):List (Str×V):=[("modes",.ref lm),("callers",.ref lc),("stumps",.ref ls)]
theorem ZF{f g:Str}{r:List (Str×V)}(h:¬g=f):ZA f v ((g,y)::r)=(g,y)::ZA f v r:=by
 show(if g=f then _ else _)=_;rw [aG h]
theorem f1(lm:Addr):ZA "modes" (.ref lm) []=fl1 lm:=rfl
theorem f2(lm lc:Addr):ZA "callers" (.ref lc) (fl1 lm)=fl2 lm lc:=by
 unfold fl1;rw [ZF (1:)];rfl
theorem f3(lm lc ls:Addr):ZA "stumps" (.ref ls) (fl2 lm lc)=fl3 lm lc ls:=by
 unfold fl2;rw [ZF (1:),ZF (1:)];rfl
theorem f4(lm lc ls lw:Addr):ZA "waiting" (.ref lw) (fl3 lm lc ls)=Yp lm lc ls lw:=by
 unfold fl3;rw [ZF (1:),ZF (1:),ZF (1:)];rfl
theorem leaf_ok{ks:List KdT}(T:TuOk ks ms):∀s∈D (rlOf ks ms) 0,SOk s/\ST.sl s<=4:=λs hs=>by
 obtain⟨rs,G,rfl⟩:=aK.mp (show s∈(rlOf ks ms).map Jb from hs);obtain⟨⟨J,L,M⟩,aa⟩:=T.rl.ok rs G;obtain⟨m,U,rfl⟩:=aK.mp G;refine Su (λz=>?_) λy hy=>?_
 .have h1:rsT (λ_=>.op) J.2∈(((Q3 (Qt ks m.2.1) m.2.2.2.2).filter λr=>r.1).map λr=>rsT (λ_=>.op) r.2):=aK.mpr ⟨J,dB.mpr ⟨L,M⟩,rfl⟩;rw [z]at h1;cases h1
 .obtain⟨r,hr,rfl⟩:=aK.mp hy;obtain⟨Y,_⟩:=dB.mp hr;obtain⟨j,hj,e⟩:=bZ Y;obtain⟨b,t⟩:=r;obtain⟨h1,_⟩:=(rls_at (T.rows U).1).mp ((aD hj).trans (congrArg some e));obtain⟨⟨cs,Z⟩,ab,_,_⟩:=T.mo.tm m U t (aL h1);obtain⟨a1,a2⟩:=Lc (S:=λ_=>Stp.op) (k:=1) (λ_=>by simp only [SOk]) (λ_=>by simp only [ST.sl];lia) (4:) t Z;exact⟨a1,by show ST.sl (rsT _ t)<=4;lia⟩
section
variable{K:Fg}{C:Addr}
theorem Aq:FnScope ["self","turning"] ["self","turning"] (defScope WR):=(0:)
theorem Rx(F:Fun K "__init__" "Stages.__init__" WR f fd)(G:Gm mg)(T:StgT K mg C)(RC:Fn P w K mg base 6 "callers_by_modes" ["modes"] (TK K))(RL:Fn P w K mg base 7 "leaf_stump" ["wood","kind","rules"] (Rw K))(RA:Fn P w K mg base 1 "all_rules" ["modes"] (RQ K)):FnOk P w K mg base CX0 8 f fd ["self","turning"] (Nk K C):=by
 refine F.ok Aq (7:) (λa5 A outer s H vs Q E hr h=>?_)
 .obtain⟨x,dx,Y,wd,J,sv,ks,st,ms,rfl,_⟩:=h
  rfl
 obtain⟨x,dx,Y,wd,J,sv,ks,st,ms,rfl,hx,U,ok,q⟩:=h;refine⟨_,(Qe (UO (pv 0) (Qk Qj (pv 1) Qf (λ_ _=>rfl)) rfl)
  (Qe (UO (pv 0) (Qp RC hr (Qa (Qk Qj (pv 1) Qf (λ_ _=>rfl)) Qc)) rfl)
  (Qe (UO (pv 0) (QM (CompG.many (xs:=["kind","rules"]) (caps:=["turning"]) (cap:=[1]) (cs:=[_]) rfl rfl (1:) (1:) (1:) (1:) (1:) (1:) rfl rfl rfl) rfl (QH (Qk Qj (pv 1) Qf (λ_ _=>rfl))) (U7 (CompG.many (xs:=["kind","rules"]) (caps:=["turning"]) (cap:=[1]) (cs:=[_]) rfl rfl (1:) (1:) (1:) (1:) (1:) (1:) rfl rfl rfl) rfl) (λ_ _ _ _=>Ze) (λ_ _ _ _=>Qp RL hr (Qa (Qk (r:=SD K) Qj (pv 2) Qf (λ_ _=>rfl)) (Qa (pv 0) (Qa (pv 1) Qc))))) rfl)
  (Qi (UO (pv 0) (Qp RA hr (Qa (Qk Qj (pv 1) Qf (λ_ _=>rfl)) Qc)) rfl))))),?_⟩
 refine L2.let3 ?_
 intros
 have i0:InsAt H x:=⟨_,_,_,hx⟩;refine⟨_,rfl,Y,_,2,_,rfl,rfl,U.tu,rfl,_,rfl,x,C,dx,_,rfl,hx,T.cl,T.nM,(by show 0<1000;decide),?_⟩;rw [f1];have g1:SameX x H (upd H x (.ins C dx (fl1 J))):=SameX.upd;generalize au:upd H x (.ins C dx (fl1 J))=H1 at g1 ⊢;have ad:H1 x=some (.ins C dx (fl1 J)):=by rw [<-au];exact Qb
 have i1:InsAt H1 x:=⟨_,_,_,ad⟩;refine⟨_,rfl,Y,_,2,_,rfl,rfl,i0.seqT g1 U.tu,rfl,J,ms,rfl,ModesL.insX i0 g1 U.m,ok.mo,λM H2 ds cb=>⟨_,rfl,x,C,dx,_,rfl,cb.same _ _ ad,T.cl,T.nC,(by show 1<1000;decide),?_⟩⟩;rw [f2];have g2:SameX x H H2:=g1.trans (SameX.of cb.same);have d2:=CBs.ds cb;have av:=cb.same _ _ ad;have i2:InsAt H2 x:=⟨_,_,_,av⟩;have ae:SameX x H2 (upd H2 x (.ins C dx (fl2 J M))):=SameX.upd;generalize aw:upd H2 x (.ins C dx (fl2 J M))=H3 at ae ⊢;have af:H3 x=some (.ins C dx (fl2 J M)):=by rw [<-aw];exact Qb
 have i3:InsAt H3 x:=⟨_,_,_,af⟩;have g3:SameX x H H3:=g2.trans ae;have d3:=DsAt.insX i2 ae d2;have ag:=ModesL.insX i0 g3 U.m;have ax:=WoodAt.insX i0 g3 U.w;have ap:=i0.seqT g3 U.tu;have ay:(ms.map λm=>V.ref m.1).length=ms.length:=aE ..;have h4:=ok.mo.four;refine⟨_,rfl,Y,_,2,_,rfl,rfl,ap,rfl,J,rfl,⟨_,ag.1⟩,λacc L=>?_⟩;refine YE (K:=K) (xs:=ms.map λm=>V.ref m.1) (cs:=[some (.ref Y)]) (tt:=λ_ H Q=>Q true H) (te:=Ur (Rw K) [] E0 (Q1 (tOp (SD K) (ZL 2) (tC (.int 0))) (Q1 (ZL 0) (Q1 (ZL 1) YL)))) (λi ys H'=>H' acc=some (.lst ys)/\Same H3 H'/\ys.length=i/\SAll K H' ys (((rlOf ks ms).take i).map Jb))
  ⟨Qb,Qd L _,rfl,by simp;exact .nil⟩ ?_ ?_ ?_
 .rintro i ys H' _ ⟨_,g,_⟩;exact g.seq ag.1
 .rintro i y ys H' hi hy ⟨ah,g,aq,ab⟩;have ai:i<ms.length:=by rw [ay]at hi;exact hi
  obtain rfl:y=.ref ms[i].1:=by
   rw [aJ,aD ai]at hy;exact(aI hy).symm
  have aj:=aO ai;have ak:=ag.2 _ aj;obtain⟨kd,hk,ek,hl,hb,hf⟩:=ok.kd _ aj;refine⟨ms[i].1,_,_,rfl,g.seqT ak.1,Q4 ⟨_,rfl,Y,_,0,_,rfl,rfl,g.seqT ap,rfl,_,rfl,_,rfl,wd,ms[i].2.2.1,ks,kd,ms[i].2.2.2.1,ms[i].2.2.2.2,by rw [ek];rfl,ax.same g,ok.wo,hk,g.seq ak.2.1,ak.2.2.mono λ_ _=>g.seqT,hl,hb,λj r t hr ht=>?_,λv4 H4 Z az=>?_⟩⟩
  .obtain⟨h1,h2,_,_⟩:=ok.mo.tm _ aj t (aL ht);exact⟨h1,h2,hf j r t hr ht⟩
  have aa:=Z _ _ ah;refine QA (ys:=ys) hi aa (5:) ⟨Qb,λb u e=>?_,by simp [aq],?_⟩
  .rw [Qh (Qg e L)];exact Z _ _ (g _ _ e)
  .have er:Qt ks ms[i].2.1=kd.2.2.2:=by rw [<-ek];exact JU ok.wo.nd hk
   have e5:(rlOf ks ms)[i]?=some (Q3 kd.2.2.2 ms[i].2.2.2.2):=by unfold rlOf;rw [aJ,aD ai,<-er];rfl
   rw [bF,e5,aT];exact SAll.append (ab.mono λ_ _ h=>(Z.seqT h).put aa) (.cons (az.mono λ_ _ h=>h.put aa) .nil)
 rintro ys H4 ⟨ah,Z,aq,ab⟩;have e6:(rlOf ks ms).take (ms.map λm=>V.ref m.1).length=rlOf ks ms:=bR (by unfold rlOf;rw [aE,aE];exact aZ _);rw [e6]at ab;have ar:=Z _ _ af;have i4:InsAt H4 x:=⟨_,_,_,ar⟩;refine⟨_,rfl,x,C,dx,_,rfl,ar,T.cl,T.nS,(by show 2<1000;decide),?_⟩;rw [f3];have al:SameX x H4 (upd H4 x (.ins C dx (fl3 J M acc))):=SameX.upd;generalize a0:upd H4 x (.ins C dx (fl3 J M acc))=H5 at al ⊢;have am:H5 x=some (.ins C dx (fl3 J M acc)):=by rw [<-a0];exact Qb
 have i5:InsAt H5 x:=⟨_,_,_,am⟩;have g5:SameX x H H5:=g3.trans ((SameX.of Z).trans al);refine⟨_,rfl,Y,_,2,_,rfl,rfl,i0.seqT g5 U.tu,rfl,J,ms,rfl,ModesL.insX i0 g5 U.m,ok.mo.four,ok.mo.ten,λlw H6 ts g6 _ a1 a3 a4=>⟨_,rfl,x,C,dx,_,rfl,g6 _ _ am,T.cl,T.nW,(by show 3<1000;decide),?_⟩⟩;rw [f4];have i6:InsAt H6 x:=⟨_,_,_,g6 _ _ am⟩;have ac:SameX x H6 (upd H6 x (.ins C dx (Yp J M acc lw))):=SameX.upd;have an:SameX x H4 (upd H6 x (.ins C dx (Yp J M acc lw))):=al.trans ((SameX.of g6).trans ac);have g7:SameX x H (upd H6 x (.ins C dx (Yp J M acc lw))):=g5.trans ((SameX.of g6).trans ac);have few:=ZX ok.mo.ten ms.length;have ao:H acc=none:=by
  cases e:H acc with
  | none=>rfl
  | some o=>
   by_cases as:acc=x
   .rw [as,af]at L;cases L
   .rw [g3 _ _ as e]at L;cases L
 refine q _ acc M lw ys g7 ao ⟨⟨dx,ds,ts,Qb,DsAt.insX i4 an (DsAt.insX i3 (SameX.of Z) d3),i6.lst ac a1,a3.mono λ_ _=>i6.seqT ac,a4⟩,ModesL.insX i0 g7 U.m,i4.lst an ah,ab.mono λ_ _=>i4.seqT an,leaf_ok ok,λc hc=>hc,by lia,λc hc hn=>absurd hc hn⟩
end
end K41c
namespace ST
open PySem L2 K11
def hz(a:Nat):Int:=reduceHash (Builtin.Tuple.tupleHashOf [hashInt ((a/10:Nat):Int),hashInt ((a%10:Nat):Int)])
def hzs:List Int:=[-8458139203682520985,-1950498447580522560,7204814214171964562,-4734289103435588629,1773351652666409796,-3119722376306286570,-1010439003188656273,-5903513032161352639,604127723940645786,-4288946305032050580,-5164621852614943976,8389048192121911274,-3550055125485641917,-1440771752368011620,-6333845781340707986,173794974761290439,-4719279054211405927,-2609995681093775630,3897645075008222795,-995428953964473571,4685526799349444076,6794810172467074373,1901736143494378007,8409376899596376432,3516302870623680066,-8422800446983873125,-6313517073866242828,7240152970870612422,-4698950346736940769,8854719697999914481,2248468952609198383,8756109708711196808,3863035679738500442,5972319052856130739,1079245023883434373,7586885779985432798,-4352217537622120393,4803095124130366729,-7136008193477186462,6417661851259668788]
theorem P5:(List.range 40).map hz=hzs:=by decide+kernel
theorem NG:((List.range 40).map hz).Nodup:=by
 rw [P5]
 decide+kernel
theorem Am{a b:Nat}(ha:a<40)(hb:b<40)(h:hz a=hz b):a=b:=by
 have h1:((List.range 40).map hz)[a]?=some (hz a):=by rw [aJ,f7 ha];rfl
 have h2:((List.range 40).map hz)[b]?=some (hz b):=by rw [aJ,f7 hb];rfl
 exact(List.getElem?_inj (by simpa using ha) NG).mp (by rw [h1,h2,h])
theorem GE(P:Program)(w:World)(m j:Nat)(hm:m<4)(hj:j<10):(tupleKind (Qw P w)).hash (kk ((m:Int),(j:Int)))=hz (m*10+j):=by
 unfold hz;rw [show(m*10+j)/10=m by lia,show(m*10+j)%10=j by lia]
 rfl
theorem Ot(h4:ms.length<=4)(h10:∀m∈ms,m.2.2.2.2.length<=10){ks:List (List Key)}(h:∀k∈ks,∃c∈QT ms ms.length,k=kk c):NB ks:=by
 intro P w x Z y hy e;have get:∀k∈ks,∃m j:Nat,m<4/\j<10/\k=kk ((m:Int),(j:Int)):=λk hk=>by
  obtain⟨c,hc,rfl⟩:=h k hk;obtain⟨m,j,rfl,J,G⟩:=ZR.mp hc;refine⟨m,j,by lia,?_,rfl⟩;unfold nRl at G;rw [aD J]at G;exact cC G (h10 _ (aO J))
 obtain⟨m,j,J,G,rfl⟩:=get x Z;obtain⟨L,M,U,Y,rfl⟩:=get y hy;rw [GE P w m j J G,GE P w L M U Y]at e;have:=Am (5:) (5:) e;have e1:m=L:=by lia
 have e2:j=M:=by lia
 rw [e1,e2]
end ST
namespace L2
open PySem PySem.Spec PyProof.Rows
def ItL(K:Fg)(a:Addr):It:=
 ⟨λi H=>∃xs x,SqL K H a xs/\xs[i]?=some x,λi H x H'=>∃p v,H p=none/\x=.ref p/\H'=upd H p (.tup [.int (i:Int),v])/\∀xs,SqL K H a xs->xs[i]?=some v,λi H=>∃xs,SqL K H a xs/\xs.length<=i⟩
theorem VH{K:Fg}(a e it:Addr)(hei:e≠it):
 Turn P w K (.Tuple elts k1 pos) (ItL K a) [e,it] e (λi h=>(∃old,IsEnum h e it (i:Nat) old)/\h.IsListIter it a i) where
 mem:=by simp
 obj:=λi h st c G=>by
  obtain⟨⟨old,J⟩,hi⟩:=st;simp only [aM,bS,bQ]at G;rcases G with rfl | rfl
  .exact⟨_,J,λv z=>by have z':Data.fields _=Data.cell v:=z;cases z'⟩
  .obtain⟨o,g,c,d⟩:=hi;exact⟨o,g,λv z=>by rw [d]at z;cases z⟩
 keep:=λi h h' st k=>by
  obtain⟨⟨old,J⟩,hi⟩:=st;exact⟨⟨old,k e (17:) _ J⟩,hi.at λo g=>k it (17:) o g⟩
 item:=by
  intro X hP hw hK G i pins s σ H E I U st hg;subst hP hw hK;obtain⟨⟨old,J⟩,hi⟩:=st;obtain⟨xs,x,Y,hx⟩:=hg;obtain⟨its,rv,p,hz⟩:=I.list Y;obtain⟨u,hu,ru⟩:=rv.get hx;have pt:s.heap.IsList a its.toArray:=p.isList;obtain⟨oa,Z,ca,na,da⟩:=id pt;have ab:a≠e:=λz=>by
   subst z;have hE:s.heap.get? a=some _:=J;rw [hE]at Z;cases Z;exact absurd (Value.type.inj ca) (11:)
  have ac:a≠it:=λz=>by
   subst z;obtain⟨o,g,c,d⟩:=hi;rw [g]at Z;cases Z;rw [c]at ca;exact absurd (Value.type.inj ca) (11:)
  have ad:i<its.toArray.size:=by
   have:=(aU.mp hu).1
   simpa using this
  refine wpAny_pyNext_enum_itemD (Draws.list (prog:=X.prog) (w:=X.w) (A:=X.A.in1) (I.ok.hd G) it a ac its.toArray) J ⟨hi,pt⟩ ad hei (by simp only [aM,bS,bQ,not_or];exact⟨hei,aW ab⟩) λy h' tk hy ho ae ht ao hk=>?_;have af:y=u:=by
   have:its.toArray[i]?=some u:=by simpa using hu
   exact aI (hy.symm.trans this)
  subst af;refine⟨.ref s.heap.objs.size,rfl,wpAny_letOwnedTupleGo_enum (s:={ s with heap:=h',toks:=tk+1 }) ho λag aa M=>?_⟩;have lt:∀{c o},s.heap.get? c=some o->c≠s.heap.objs.size:=λg=>bD (aP g);have ah:s.heap.objs.size≠e:=aW (lt J);have ai:∀c∈[e,it],Y0 X pins H c:=U;have I2:Inv X pins σ (upd H s.heap.objs.size (.tup [.int (i:Int),x])) { s with heap:=ag,toks:=tk+1 }:=by
   refine I.turnedNew (ch:=[e,it]) (λc o G g=>?_) ai (4:) ⟨by show 2<=sizeLine;decide,[.int (i:Int) tk,y],.cons ⟨tk,rfl⟩ (.cons ru .nil),⟨_,(M.2 _ ah).trans ht,rfl,_,rfl⟩⟩;simp only [aM,bS,bQ,not_or]at G;exact(M.2 c G.1).trans (hk c o G.1 G.2 g)
  have aj:∀c∈[e,it],upd H s.heap.objs.size (.tup [.int (i:Int),x]) c=none:=λc G=>by
   have:c≠s.heap.objs.size:=by
    have L:=G;simp only [aM,bS,bQ]at L;rcases L with rfl | rfl
    .exact lt J
    .obtain⟨o,g,_⟩:=hi;exact lt g
   rw [Qh this];exact(U c G).1
  exact⟨.ref s.heap.objs.size,_,I2,rfl,⟨s.heap.objs.size,x,I.fresh,rfl,rfl,λys ak=>by rw [I.list_inj ak Y];exact hx⟩,⟨⟨_,aa⟩,ae.1.extBut M.extBut (aW hei)⟩,aj⟩
 done:=by
  intro X hP hw hK G i pins s σ H E I U st hg;subst hP hw hK;obtain⟨⟨old,J⟩,hi⟩:=st;obtain⟨xs,Y,hx⟩:=hg;obtain⟨its,rv,p,hz⟩:=I.list Y;have pt:s.heap.IsList a its.toArray:=p.isList;have an:=rv.length;have hn:its.toArray.size<=i:=by simp;lia
  have hT:s.TypeIs (.ref e) "enumerate":=⟨_,J,rfl⟩;unfold pyNext;refine aB (wpAny_attempt (dU (name:=Str.ofString "__next__") hT gL (dA gL hT F.entry_enumerate_next ?_ (F.args_enumerate_next_1 _))));show wpAny _ _ (field (.ref e) 2>>=_) _ _ _;refine aB (cG J rfl (x:=.ref it) rfl ?_);refine aB (wpAny_nextOf_list_end (A:=X.A.in1) (I.ok.hd G) hi pt (eD hn) λh' y al hy=>?_);obtain⟨o,ho,am⟩:=hy;refine aB (fe (T:="StopIteration") (b:=true) ⟨o,ho,am⟩ isSubtype_stop ?_);refine aF ⟨rfl,I.turnedL (t':=s.toks) (ch:=[e,it]) (λc u L g=>al c u (λz=>L (by rw [z];simp)) g) U⟩
 self:=λ_ _ _ _ _ st h=>wpAny_pyIter_enum st.1.choose_spec h
def AD(K:Fg)(ta:TA):TI:=λσ H R=>ta σ H λvs H1=>∃a xs,vs=[.ref a]/\SqL K H1 a xs/\R (ItL K a) H1
theorem Pu{ta:TA}{p:Pos}(hg:Gl X "enumerate")(hm:X.mg "enumerate"=none)(ha:PA X [e1] ta)(hb:bootBuiltins "enumerate"=some (.type "enumerate"):=by decide+kernel)(hs:starEach [e1] X.env=[(false,eval e1 X.env)]:=by rfl):
 PI X (.Tuple elts k1 tpos) (.Call (.Name "enumerate" p) [e1] [] pos) (AD X.K ta):=by
 intro pins s σ H R I h;refine Call_ (Z2 I hg hm hb (fq (thn (ha pos pins s σ H _ I h) λus G ⟨vs,H1,J,Y,Z⟩=>?_) hs rfl));obtain⟨a,xs,e,hq,q⟩:=Z;subst e;cases Y with
 | cons r rr=>
  cases rr;obtain rfl:_=Value.ref a:=r;obtain⟨its,rv,pt,_⟩:=J.list hq;refine call_enumerate_list (show G.heap.IsList a its.toArray from pt.isList) λh' M hi aa hk=>?_;refine wpAny_pyIter_enum M ?_;have I2:Inv X pins σ H1 { G with heap:=h' }:=J.kept (t':=G.toks) hk;refine⟨G.heap.objs.size+1,[G.heap.objs.size+1,G.heap.objs.size],_,_,H1,rfl,I2,VH a (G.heap.objs.size+1) G.heap.objs.size (nne (5:)),⟨⟨_,M⟩,hi⟩,λc U=>?_,q⟩;have L:@LE.le Nat _ G.heap.objs.size c:=by
   simp only [aM,bS,bQ]at U;rcases U with rfl | rfl<;>lia
  exact J.fpOk L (J.hok.fresh L)
theorem MA{K:Fg}{a:Addr}{xs:List V}{g:TG}{tb:TS}{D:Ends}{σ:St}{H:Hp}(Pv:Nat->St->Hp->Prop)(h0:Pv 0 σ H)(hl:∀i σ H,i<=xs.length->Pv i σ H->SqL K H a xs)
 (hs:∀i v p σ H,xs[i]?=some v->H p=none->Pv i σ H->g (.ref p) σ (upd H p (.tup [.int (i:Int),v])) λσ2 H2=>tb { D with nx:=Pv (i+1),ct:=Pv (i+1),bk:=D.nx } σ2 H2) (hd:∀σ H,Pv xs.length σ H->D.nx σ H):
 ∃W:Nat->Nat->St->Hp->Prop,(∃m,W 0 m σ H)/\∀i m σ H,W i m σ H->
  ((ItL K a).stop i H/\D.nx σ H)\/((ItL K a).go i H/\∃N:St->Hp->Prop,(∀σ' H',N σ' H'->∃m',m'<m/\W (i+1) m' σ' H')/\∀x H',(ItL K a).yld i H x H'->g x σ H' λσ2 H2=>tb { D with nx:=N,ct:=N,bk:=D.nx } σ2 H2):=by
 refine⟨λi m σ H=>m=xs.length-i/\i<=xs.length/\Pv i σ H,⟨xs.length-0,rfl,bN _,h0⟩,?_⟩;rintro i m σ H ⟨rfl,hi,p⟩;have G:=hl i σ H hi p
 by_cases h:i<xs.length
 .refine .inr ⟨⟨xs,xs[i],G,aD h⟩,Pv (i+1),λσ' H' J=>⟨xs.length-(i+1),by lia,rfl,h,J⟩,?_⟩;rintro x H' ⟨J,v,hp,rfl,rfl,L⟩;exact hs i v J σ H (L xs G) hp p
 .have e:i=xs.length:=by lia
  subst e;exact .inl ⟨⟨xs,G,aZ _⟩,hd σ H p⟩
end L2
namespace ST
open PySem TM TT L2 K11 K9
mutual
theorem VT:∀a b:Stp,PyData.eqv (sd a) (sd b)=true↔a=b
 | .op,.op=>by simp [sd,PyData.eqv,PyData.eqvAll]
 | .op,.put _ _ _=>by simp [sd,PyData.eqv,PyData.eqvAll]
 | .put _ _ _,.op=>by simp [sd,PyData.eqv,PyData.eqvAll]
 | .put n m ps,.put J L qs=>by
  have G:=LM ps qs;simp only [sd,PyData.eqv,PyData.eqvAll,Bool.and_true,bC,fm,G,Stp.put.injEq,true_and]
theorem LM:∀a b:List Stp,PyData.eqvAll (sds a) (sds b)=true↔a=b
 | [],[]=>by simp [sds,PyData.eqvAll]
 | [],_::_=>by simp [sds,PyData.eqvAll]
 | _::_,[]=>by simp [sds,PyData.eqvAll]
 | p::r,q::t=>by
  have h1:=VT p q;have h2:=LM r t;simp only [sds,PyData.eqvAll,bC,h1,h2,gw]
end
theorem AG{a b:Stp}(h:a=b):PyData.eqv (sd a) (sd b)=true:=(VT a b).mpr h
theorem Bm{a b:Stp}(h:a≠b):PyData.eqv (sd a) (sd b)=false:=by
 cases e:PyData.eqv (sd a) (sd b)with
 | true=>exact absurd ((VT a b).mp e) h
 | false=>rfl
theorem YV:∀(more kvs:List (List Key×V))(k:List Key),k∈kvs.map (·.1)\/k∈more.map (·.1)->k∈(Zw kvs more).map (·.1)
 | [],kvs,k,h=>h.elim id λz=>(nomatch z)
 | q::r,kvs,k,h=>by
  show k∈(Zw (putK kvs q.1 q.2) r).map (·.1);refine YV r _ k ?_;rcases h with h | h
  .exact .inl (WY h)
  .rw [aR]at h;rcases aM.mp h with rfl | h
   .exact .inl (aK.mpr ⟨_,Pa,rfl⟩)
   .exact .inr h
theorem Xp:∀(more kvs:List (List Key×V))(q:List Key×V),q∈Zw kvs more->q∈kvs\/q∈more
 | [],kvs,q,h=>.inl h
 | p::r,kvs,q,h=>by
  rcases Xp r (putK kvs p.1 p.2) q h with h | h
  .rcases GB h with h | h
   .exact .inl h
   .exact .inr (by rw [h];exact aQ)
  .exact .inr (aV _ h)
theorem UY:∀(more kvs:List (List Key×V)),(kvs.map (·.1)).Nodup->((Zw kvs more).map (·.1)).Nodup
 | [],_,h=>h
 | p::r,kvs,h=>UY r (putK kvs p.1 p.2) (Xz h)
theorem WI:∀{l:List (List Key)},(∀k∈l,∃c∈QT ms ms.length,k=kk c)->∃cs:List (Int×Int),l=cs.map kk/\∀c∈cs,c∈QT ms ms.length
 | [],_=>⟨[],rfl,λc G=>(nomatch G)⟩
 | k::r,h=>by
  obtain⟨c,G,rfl⟩:=h k aQ;obtain⟨cs,rfl,h2⟩:=WI λx hx=>h x (aV _ hx);refine⟨c::cs,rfl,λx hx=>?_⟩;rcases aM.mp hx with rfl | hx
  .exact G
  .exact h2 x hx
theorem JV{S:List Stp}{m k:Nat}{s:Stp}(h:m<S.length):lookS (S.set m s) (k:Int)=if k=m then s else lookS S (k:Int):=by
 unfold lookS;rw [aX,gS]
 by_cases e:k=m
 .subst e;rw [aH rfl,aH rfl,aH h];rfl
 .rw [aG e,aG (aW e)]
theorem SAll.setAt{K:Fg}:∀{vs:List V}{ts:List Stp}(m:Nat){v:V}{s:Stp},SAll K H vs ts->SV K H v s->SAll K H (vs.set m v) (ts.set m s)
 | _,_,_,_,_,.nil,_=>.nil
 | _,_,0,_,_,.cons _ t,h=>.cons h t
 | _,_,m+1,_,_,.cons a t,h=>.cons a (SAll.setAt m t h)
end ST
namespace K41c
open K41
open PySem L2 TM TT ST K9 K11
theorem g1(lm lc ls lw l:Addr):ZA "stumps" (.ref l) (Yp lm lc ls lw)=Yp lm lc l lw:=by
 unfold Yp;rw [ZF (1:),ZF (1:)];show _::_::(if _ then _ else _)=_;rw [aH rfl]
theorem g2(lm lc ls lw l:Addr):ZA "waiting" (.ref l) (Yp lm lc ls lw)=Yp lm lc ls l:=by
 unfold Yp;rw [ZF (1:),ZF (1:),ZF (1:)];show _::_::_::(if _ then _ else _)=_;rw [aH rfl]
def A6(K:Fg)(C:Addr):Sp:=λvs H Q _=>∃(x lm ls:Addr)(ms:List MdT)(rl:Rls)(n:Nat)(us:List V)(W:List (Int×Int))(lc lw:Addr),vs=[.ref x]/\StgAt K C H x lm ms rl n ls us W lc lw/\RlAt ms rl/\MsOk ms/\
 ∀(H':Hp)(ls' lw':Addr)(us':List V)(W':List (Int×Int)),SameX x H H'->H ls'=none->H lw'=none->StgAt K C H' x lm ms rl (n+1) ls' us' W' lc lw'->(D rl (n+1)=D rl n->W'=[])->Q .non H'
section
variable{K:Fg}{C:Addr}
theorem VE:FnScope ["self","stumps","mode","number","callers","stump"] ["self"] (defScope Vb):=(0:)
theorem B7(F:Fun K "go_on" "Stages.go_on" Vb f fd)(G:Gm mg)(T:StgT K mg C)(RM:Fn P w K mg base 6 "met" ["one","other"] (Uj K 5))(RR:Fn P w K mg base 5 "rule_stump" ["rule","stumps"] (Xd K 4)):FnOk P w K mg base CX0 7 f fd ["self"] (A6 K C):=by
 refine F.ok VE (7:) (λcv A outer s H vs Q E hr h=>?_)
 .obtain⟨x,lm,ls,ms,rl,n,us,W,lc,lw,rfl,_⟩:=h
  rfl
 obtain⟨x,lm,ls,ms,rl,n,us,W,lc,lw,rfl,S,R,ok,q⟩:=h;obtain⟨dx,ds,ts,hx,L,hw,b0,ew⟩:=S.ob;refine⟨_,(Qe (Qv (i:=1) VE.nd rfl (15:) (QO ZC rfl G.lst eE (Qa (Yj (pv 0) rfl) Qc)))
  (Qe (QJ bW rfl (QH (Yj (pv 0) rfl)) (Zd rfl (Qr (Qo (i:=2) VE.nd rfl (15:)) (Qr (Qo (i:=3) VE.nd rfl (15:)) QZ))) (Qi
   (X9 (Qp RM hr (Qa (Qk QE (pv 1) (pv 2) (λ_ _=>rfl)) (Qa (Qp RR hr (Qa (Qk QE (Qk Qj (Qk QE (Yj (pv 0) rfl) (pv 2) (λ_ _=>rfl)) Qf (λ_ _=>rfl)) (pv 3) (λ_ _=>rfl)) (Qa (Yj (pv 0) rfl) Qc)) (11:)) Qc))) (TV (pv 1) (pv 2) ND))))
  (Qe (Qv (i:=4) VE.nd rfl (15:) W5)
  (Qe (QJ bW rfl (Pu rfl G.enu (Qa (pv 1) Qc)) (Zd rfl (Qr (Qo (i:=2) VE.nd rfl (15:)) (Qr (Qo (i:=5) VE.nd rfl (15:)) QZ))) (Qi
   (QK (Qu X5 (pv 5) (Qk QE (Yj (pv 0) rfl) (pv 2) (λ_ _=>rfl)) (Qx _)) (Qi (Zb (YQ PySem.F.plainAttrs_dict PySem.F.slot_dict_update PySem.F.type_dict_update (ML (OX hr)) (pv 4) (Qa (Qk QE (Yj (pv 0) rfl) (pv 2) (λ_ _=>rfl)) Qc)))) Qs)))
  (Qe (UO (pv 0) (pv 1) rfl)
  (Qi (UO (pv 0) (Qn (Xf rfl) rfl G.srt PyProof.Rows.boot_sorted (Qa (pv 4) Qc)) rfl))))))),?_⟩
 refine L2.let5 ?_
 intros
 have Dl:=Uf rl n;have cw:=S.sa.length;have bg:∀m,SOk (lookS (D rl n) m)/\ST.sl (lookS (D rl n) m)<=4:=λm=>by
  unfold lookS;cases e:(D rl n)[m.toNat]? with
  | none=>simp only [Option.getD_none,SOk,ST.sl];exact⟨trivial,by lia⟩
  | some s=>exact S.so s (aL e)
 refine⟨_,rfl,x,C,dx,_,_,rfl,hx,T.cl,T.nS,rfl,ls,us,rfl,.inl (SqL.of S.sl),λl hl=>?_⟩;have g0:=Qd hl (.lst us);refine⟨_,rfl,x,C,dx,_,_,rfl,g0 _ _ hx,T.cl,T.nW,rfl,lw,rfl,⟨_,SqL.of (g0 _ _ hw)⟩,?_⟩;have b3:=congrArg List.length ew;rw [aE,aE]at b3;refine Q2 (K:=K) (xs:=Rf ts) (λi σ H'=>∃(vs:List V)(TT:List Stp)(c2 c3:Option V),σ=[some (.ref x),some (.ref l),c2,c3,none,none]/\Same H H'/\H' l=some (.lst vs)/\SAll K H' vs TT/\TT.length=rl.length/\(∀s∈TT,SOk s/\ST.sl s<=4)/\
  (∀m:Nat,Bel (lookS TT (m:Int)) (lookS (D rl n) (m:Int)))/\(∀m:Nat,Bel (lookS (D rl (n+1)) (m:Int)) (lookS TT (m:Int)))/\∀c∈W.take i,∀t,Zx ms c=some t->Bel (lookS TT c.1) (rsT (lookS (D rl n)) t))
  ⟨us,D rl n,none,none,rfl,g0,Qb,S.sa.mono λ_ _=>g0.seqT,Dl,S.so,λm=>Bel.refl _,λm=>Xo R.ok n m,λc M=>by simp at M⟩ ?_ ?_ ?_
 .rintro i σ H' _ ⟨vs,TT,c2,c3,_,g,_⟩;exact SqL.of (g _ _ hw)
 .rintro i y σ H' Z ⟨vs,TT,c2,c3,rfl,g,bh,aa,au,ac,av,aw,ai⟩;have hi:i<ts.length:=by have:=(aU.mp Z).1;rwa [aE]at this
  obtain rfl:y=.ref ts[i].1:=by
   rw [aJ,aD hi]at Z;exact(aI Z).symm
  obtain⟨c,ec⟩: ∃c,W[i]?=some c:=⟨_,aD (5:)⟩;have et:ts[i].2=pr c:=by
   have e:=congrArg (λl=>l[i]?) ew;simp only [aJ,aD hi,ec]at e;exact aI e
  have b4:SqT K H' ts[i].1 [.int c.1,.int c.2]:=by have:=g.seqT (b0 _ (aO hi));rw [et]at this;exact this
  have a0:=S.win c (aL ec);obtain⟨m,j,md,t,rfl,aj,ax,ak⟩:=Jr a0;have bi:=aL aj;have ao:=S.mo.2 md bi;obtain⟨⟨cs,bj⟩,b5,_,ap⟩:=ok.tm md bi t (aL ax);obtain⟨tv,b6,bv⟩:=ao.2.2.get ax;have b7:m<ms.length:=(aU.mp aj).1;have ad:m<TT.length:=by rw [au,R.len];exact b7
  obtain⟨sv,a3,a4⟩:=aa.get (aD ad);have bn:=aa.length;obtain⟨o1,o2⟩:=Lc (S:=lookS (D rl n)) (k:=4) (λm=>(bg m).1) (λm=>(bg m).2) (5:) t bj;have a5:=ac _ (aO ad);refine⟨ts[i].1,_,rfl,b4,rfl,_,_,rfl,_,_,rfl,rfl,?_⟩;refine⟨_,rfl,_,rfl,l,vs,(m:Int),sv,rfl,rfl,SqL.of bh,Qq a3,_,rfl,x,C,dx,_,_,rfl,g _ _ hx,T.cl,T.nM,rfl,_,rfl,lm,_,(m:Int),.ref md.1,rfl,rfl,g.seq S.mo.1,Qq (by rw [aJ,aj];rfl),md.1,_,1,_,rfl,rfl,g.seqT ao.1,rfl,_,rfl,md.2.2.1,_,(j:Int),tv,rfl,rfl,g.seq ao.2.1,Qq b6,_,rfl,x,C,dx,_,_,rfl,g _ _ hx,T.cl,T.nS,rfl,tv,ls,us,D rl n,t,cs,rfl,bv.mono λ_ _=>g.seqT,bj,b5,SqL.of (g _ _ S.sl),S.sa.mono λ_ _=>g.seqT,(by rw [Dl,R.len];exact ap),λv1 H1 g1 b8=>⟨sv,v1,TT[m],_,rfl,a4.mono λ_ _=>g1.seqT,b8,a5.1,o1,by lia,λv2 H2 g2 b9=>?_⟩⟩;have a6:=g1.trans g2;have a7:=a6 _ _ bh;refine⟨_,rfl,_,rfl,l,vs,(m:Int),m,rfl,rfl,a7,Re (5:),?_⟩;have eT:lookS TT (m:Int)=TT[m]:=Ua (aD ad);obtain⟨p1,p2⟩:=Xc TT[m] (rsT (lookS (D rl n)) t) a5.1;refine⟨_,TT.set m (met TT[m] (rsT (lookS (D rl n)) t)),_,_,rfl,λb u e=>?_,Qb,?_,by rw [List.length_set];exact au,λz hz=>?_,λk=>?_,λk=>?_,λc' ay t' al=>?_⟩
  .rw [Qh (Qg e hl)];exact a6 _ _ (g _ _ e)
  .exact SAll.setAt m (aa.mono λ_ _ h=>(a6.seqT h).put a7) (b9.mono λ_ _ h=>h.put a7)
  .rcases List.mem_or_eq_of_mem_set hz with hz | rfl
   .exact ac z hz
   .exact⟨p1,by lia⟩
  .rw [JV ad]
   by_cases e:k=m
   .subst e;rw [aH rfl];have:=av k;rw [eT]at this;exact(G1 _ _).trans this
   .rw [aG e];exact av k
  .rw [JV ad]
   by_cases e:k=m
   .subst e;rw [aH rfl];have h1:=aw k;rw [eT]at h1;exact GG h1 (Vv R a0 ak)
   .rw [aG e];exact aw k
  .rw [bF,ec,eY]at ay;have ca:c'∈QT ms ms.length:=by
    rcases aY.mp ay with z | z
    .exact S.win c' (List.mem_of_mem_take z)
    .obtain rfl:=bM.mp z;exact a0
   obtain⟨m',j',rfl,_,_⟩:=ZR.mp ca;show Bel (lookS (TT.set m _) (m':Int)) _;rw [JV ad]
   by_cases e:m'=m
   .subst e;rw [aH rfl];rcases aY.mp ay with z | z
    .have:=ai _ z t' al;have e5:lookS TT ((m':Int),(j':Int)).1=TT[m']:=eT;rw [e5]at this;exact(G1 _ _).trans this
    .have ez:=bM.mp z;rw [ez]at al;rw [ak]at al;obtain rfl:=aI al;exact Ti _ _
   .rw [aG e];rcases aY.mp ay with z | z
    .exact ai _ z t' al
    .have ez:=bM.mp z;exact absurd (Int.ofNat.inj (congrArg Prod.fst ez)) e
 rintro σ H1 ⟨vs,TT,c2,c3,rfl,k1,a8,aa,au,ac,av,aw,ai⟩;have eW:W.take (Rf ts).length=W:=bR (by rw [aE];lia);rw [eW]at ai;have eN:TT=D rl (n+1):=L3 R au aw λc M t ht=>by
  by_cases bo:c∈W
  .exact ai c bo t ht
  .obtain⟨m,j,rfl,_,_⟩:=ZR.mp M;exact(av m).trans (S.wout _ M bo t ht)
 subst eN;intro d hd;have a9:=Qd hd (.dT []);have k2:=k1.trans a9;have bn:=aa.length;have cb:=Uf rl (n+1);refine⟨_,rfl,l,vs,rfl,SqL.of (a9 _ _ a8),?_⟩;refine MA (K:=K) (a:=l) (xs:=vs) (λi σ H'=>∃(kvs:List (List Key×V))(c2 c5:Option V),σ=[some (.ref x),some (.ref l),c2,c3,some (.ref d),c5]/\Same H1 H'/\H' d=some (.dT kvs)/\(kvs.map (·.1)).Nodup/\(∀p∈kvs,∃c∈QT ms ms.length,p.1=kk c)/\
  (∀k<i,lookS (D rl (n+1)) (k:Int)≠lookS (D rl n) (k:Int)->∀J,ds[k]?=some J->∀z∈J.2.map (·.1),z∈kvs.map (·.1))/\(D rl (n+1)=D rl n->kvs=[]))
  ⟨[],c2,none,rfl,a9,Qb,fh,λp hp=>(nomatch hp),λk hk=>absurd hk (Nat.not_lt_zero _),λ_=>rfl⟩ ?_ ?_ ?_
 .rintro i σ H' _ ⟨kvs,c2,c5,_,g,_⟩;exact SqL.of (g _ _ a8)
 .rintro i v p σ H' hv hp ⟨kvs,c2,c5,rfl,g,cc,am,ab,ag,ba⟩;have hi:i<vs.length:=(aU.mp hv).1;have az:i<(D rl (n+1)).length:=by lia
  have aq:i<(D rl n).length:=by lia
  have gp:=Qd hp (.tup [.int (i:Int),v]);obtain⟨sv,a3,a4⟩:=aa.get (aD az);obtain rfl:sv=v:=aI (a3.symm.trans hv);obtain⟨ov,ce,cf⟩:=S.sa.get (aD aq);have gg:=k1.trans (g.trans gp);have e1:lookS (D rl (n+1)) (i:Int)=(D rl (n+1))[i]:=Ua (aD az);have e0:lookS (D rl n) (i:Int)=(D rl n)[i]:=Ua (aD aq);obtain⟨a1,a2⟩:=Nl _ (ac _ (aO az)).1;obtain⟨b1,b2⟩:=Nl _ (S.so _ (aO aq)).1;have cx:=(ac _ (aO az)).2;refine⟨p,_,rfl,SqT.of Qb,rfl,_,_,rfl,_,_,rfl,rfl,?_⟩;refine⟨_,rfl,_,rfl,x,C,dx,_,_,rfl,gg _ _ hx,T.cl,T.nS,rfl,_,rfl,ls,us,(i:Int),ov,rfl,rfl,SqL.of (gg _ _ S.sl),Qq ce,sd (D rl (n+1))[i],sd (D rl n)[i],(a4.mono λ_ _=>(g.trans gp).seqT).rd,(cf.mono λ_ _=>gg.seqT).rd,a1,b1,hr.fit (5:),_,rfl,?_⟩;rw [aH rfl];have bb:=gp _ _ cc;rcases Classical.em ((D rl (n+1))[i]=(D rl n)[i])with hne | hne
  .rw [AG hne];refine QS ⟨kvs,_,_,rfl,g.trans gp,bb,am,ab,λk hk an=>?_,ba⟩
   by_cases e:k=i
   .subst e;rw [e1,e0]at an;exact absurd hne an
   .exact ag k (5:) an
  .rw [Bm hne];have bw:i<ds.length:=by rw [L.len,<-R.len];lia
   obtain⟨J,ae⟩: ∃J,ds[i]?=some J:=⟨_,aD bw⟩;have Y:=aL ae;have cg:=gg _ _ (L.dat J Y);have ch:d≠J.1:=λz=>by
    have h1:=(k1 _ _ (L.dat J Y));rw [<-z,hd]at h1;cases h1
   have bx:=ZX ok.ten ms.length;have few:∀kv:List (List Key×V),(kv.map (·.1)).Nodup->(∀p∈kv,∃c∈QT ms ms.length,p.1=kk c)->kv.length<=(QT ms ms.length).length:=λkv h1 h2=>by
    have z:=UP (l:=kv.map (·.1)) (r:=(QT ms ms.length).map kk) h1 λy Z=>by
     obtain⟨q',U,rfl⟩:=aK.mp Z;obtain⟨c,M,e⟩:=h2 q' U;rw [e];exact aK.mpr ⟨c,M,rfl⟩
    simpa using z
   have f1:=few kvs am ab;have f2:=few J.2 (L.nd J Y) λq' U=>(L.kin J Y q' U).1;have bz:=ok.four;refine Q4 ⟨_,rfl,.inr (.inr (.inl ⟨rfl,.inr ⟨_,bb⟩⟩)),_,rfl,x,C,dx,_,_,rfl,gg _ _ hx,T.cl,T.nC,rfl,_,rfl,lc,_,(i:Int),.ref J.1,rfl,rfl,SqL.of (gg _ _ L.li),Qq (by rw [aJ,ae];rfl),d,J.1,kvs,J.2,rfl,rfl,ch,bb,cg,by rw [QI];lia,Ot ok.four ok.ten λz hz=>?_,?_⟩
   .obtain⟨q',U,rfl⟩:=aK.mp hz;exact(L.kin J Y q' U).1
   .refine⟨Zw kvs J.2,_,_,rfl,λb u e=>?_,Qb,UY _ _ am,λq' U=>?_,λk hk an ci ar z hz=>?_,λhD=>?_⟩
    .rw [Qh (Qg e hd)];exact gp _ _ (g _ _ e)
    .rcases Xp _ _ q' U with z | z
     .exact ab q' z
     .exact(L.kin J Y q' z).1
    .by_cases e:k=i
     .subst e;rw [ae]at ar;obtain rfl:=aI ar;exact YV _ _ z (.inr hz)
     .exact YV _ _ z (.inl (ag k (5:) an ci ar z hz))
    .exact absurd (by simp only [hD]) hne
 rintro σ H3 ⟨kvs,cy,c5,rfl,g3,hd3,am,ab,ag,ba⟩;have bc:=k1.trans g3;have bp:=bc _ _ hx;refine⟨_,rfl,_,rfl,x,C,dx,_,rfl,bp,T.cl,T.nS,(by show 4<1000;decide),?_⟩;rw [K41c.g1];have i3:InsAt H3 x:=⟨_,_,_,bp⟩;have g4:SameX x H3 (upd H3 x (.ins C dx (Yp lm lc l lw))):=SameX.upd;generalize cj:upd H3 x (.ins C dx (Yp lm lc l lw))=H4 at g4 ⊢;have bd:H4 x=some (.ins C dx (Yp lm lc l lw)):=by rw [<-cj];exact Qb
 have i4:InsAt H4 x:=⟨_,_,_,bd⟩;obtain⟨cs,af,bq⟩:=WI (l:=kvs.map (·.1)) λk hk=>by
  obtain⟨q',U,rfl⟩:=aK.mp hk;exact ab q' U
 have bx:=ZX ok.ten ms.length;have bz:=ok.four;have cu:cs.length<=(QT ms ms.length).length:=by
  have z:=UP (l:=kvs.map (·.1)) (r:=(QT ms ms.length).map kk) am λy Z=>by
   rw [af]at Z;obtain⟨c,M,rfl⟩:=aK.mp Z;exact aK.mpr ⟨c,bq c M,rfl⟩
  rw [af]at z
  simpa using z
 refine⟨_,rfl,d,kvs,cs,rfl,i3.dT g4 hd3,af,by lia,λout p ah ck hp=>⟨_,rfl,x,C,dx,_,rfl,(Qd hp _) _ _ bd,T.cl,T.nW,(by show 4<1000;decide),?_⟩⟩;rw [K41c.g2];have cm:=Qd hp (.lst (out.map λt=>V.ref t.1));have g5:SameX x H4 (upd (upd H4 p (.lst (out.map λt=>V.ref t.1))) x (.ins C dx (Yp lm lc l p))):=(SameX.of cm).trans SameX.upd;have br:=g4.trans g5;have as:SameX x H (upd (upd H4 p (.lst (out.map λt=>V.ref t.1))) x (.ins C dx (Yp lm lc l p))):=(SameX.of bc).trans br;have i0:InsAt H x:=⟨_,_,_,hx⟩;have i1:InsAt H1 x:=⟨_,_,_,k1 _ _ hx⟩;have bt:SameX x H1 (upd (upd H4 p (.lst (out.map λt=>V.ref t.1))) x (.ins C dx (Yp lm lc l p))):=(SameX.of g3).trans br;have bu:p≠x:=λz=>by rw [z,bd]at hp;cases hp
 have be:out.length=cs.length:=by have:=ah.length_eq;rwa [aE]at this
 have cn:H p=none:=by
  cases e:H p with
  | none=>rfl
  | some o=>rw [((SameX.of bc).trans g4) _ _ bu e]at hp;cases hp
 refine q _ l p vs (out.map (·.2)) as hl cn ⟨⟨dx,ds,out.map λt=>(t.1,[t.2.1,t.2.2]),Qb,DsAt.insX i0 as L,?_,λt ht=>?_,?_⟩,ModesL.insX i0 as S.mo,i1.lst bt a8,aa.mono λ_ _=>i1.seqT bt,ac,λc M=>?_,by rw [aE];lia,λc M co t ht=>?_⟩ λhD=>?_
 .have e:Rf (out.map λt=>(t.1,[t.2.1,t.2.2]))=out.map λt=>V.ref t.1:=by
   show(out.map _).map _=_;rw [bY];rfl
  rw [Qh bu,Qb,e]
 .obtain⟨u,hu,rfl⟩:=aK.mp ht;have h1:=ck u hu;exact i4.seqT g5 (SqT.of h1)
 .rw [bY,bY];rfl
 .exact bq c (ah.mem_iff.mp M)
 .have bf:∀y∈cls t,lookS (D rl (n+1)) y.1=lookS (D rl n) y.1:=λy Z=>by
   apply Classical.byContradiction;intro hne;obtain⟨m,j,md,t',rfl,aj,ax,ak⟩:=Jr M;rw [ak]at ht;obtain rfl:=aI ht;obtain⟨_,_,_,ap⟩:=ok.tm md (aL aj) t' (aL ax);obtain⟨y0,yl⟩:=ap y Z;have ey:y.1=((y.1.toNat:Nat):Int):=(ef y0).symm;have cp:y.1.toNat<ds.length:=by rw [L.len];exact yl
   obtain⟨J,ae⟩: ∃J,ds[y.1.toNat]?=some J:=⟨_,aD cp⟩;have h1:=L.all _ M t' ak y Z J ae;have cq:y.1.toNat<vs.length:=by rw [bn,cb,R.len];exact yl
   have h2:=ag y.1.toNat cq (by rw [<-ey];exact hne) J ae _ h1;rw [af]at h2;obtain⟨c2,cr,e2⟩:=aK.mp h2;exact co (ah.mem_iff.mpr (by rw [<-Tu e2];exact cr))
  rw [Ue t bf];exact Vv R M ht
 .have h0:=ba hD;rw [h0]at af;have ct:cs=[]:=by
   cases cs with
   | nil=>rfl
   | cons _ _=>cases af
  rw [ct]at be;rw [fz.mp be];rfl
end
abbrev sCommons:Stmt:=top 21
structure StgM(P:Program)(w:World)(K:Fg)(mg:Str->Option Value)(base:Heap)(C:Addr):Prop where
 t:StgT K mg C
 mi:∃f fd,Mk K C f/\FnOk P w K mg base CX0 8 f fd ["self","turning"] (Nk K C)/\Binds K fd ["self","turning"] []
 il:∃f fd,Meth K C "is_last" f/\FnOk P w K mg base CX0 1 f fd ["self"] (Vx K C)/\Binds K fd ["self"] []
 go:∃f fd,Meth K C "go_on" f/\FnOk P w K mg base CX0 7 f fd ["self"] (A6 K C)/\Binds K fd ["self"] []
def far(rl:Rls)(n:Nat)(W:List (Int×Int)):Nat:=2*tsz (D rl n)+(if W=[]then 0 else 1)
theorem O4{rl:Rls}(ok:JH rl){W W':List (Int×Int)}(hW:W≠[])(h:D rl (n+1)=D rl n->W'=[]):far rl (n+1) W'<far rl n W:=by
 obtain⟨h1,h2⟩:=To ok n;unfold far;rw [aG hW];rcases Classical.em (D rl (n+1)=D rl n)with e | e
 .rw [aH (h e),e];lia
 .have:=h2 e;split<;>lia
theorem MU{K:Fg}{C:Addr}{x:Addr}{rl:Rls}{us:List V}{lc:Addr}(R:RlAt ms rl)(S:StgAt K C H x lm ms rl n ls us [] lc lw):D rl (n+1)=D rl n:=
 Mu R λc G t J=>S.wout c G (λz=>nomatch z) t J
def spCm(K:Fg):Sp:=λvs H Q _=>∃(tu wd lm:Addr)(sv:V)(ks:List KdT)(st:Tm)(ms:List MdT),vs=[.ref tu]/\TurnD K H tu wd lm sv ks st ms/\TuOk ks ms/\
 ∀(ls:Addr)(us:List V)(n:Nat)(H':Hp),Same H H'->H ls=none->H' ls=some (.lst us)->SAll K H' us (D (rlOf ks ms) n)->D (rlOf ks ms) (n+1)=D (rlOf ks ms) n->Q (.ref ls) H'
section
variable{K:Fg}{C:Addr}
theorem Co:FnScope ["turning","stages"] ["turning"] (defScope sCommons):=(0:)
theorem ok_cm(F:Fun K "commons" "commons" sCommons f fd)(G:Gm mg)(M:StgM P w K mg base C):FnOk P w K mg base CX0 10 f fd ["turning"] (spCm K):=by
 obtain⟨fI,al,ab,FI,bI⟩:=M.mi;obtain⟨fL,am,mL,FL,bL⟩:=M.il;obtain⟨fG,an,mG,FG,bG⟩:=M.go;have T:=M.t;refine F.ok Co (7:) (λao A outer s H vs Q E hr h=>?_)
 .obtain⟨tu,wd,Z,sv,ks,st,ms,rfl,_⟩:=h
  rfl
 obtain⟨tu,wd,Z,sv,ks,st,ms,rfl,hT,ok,q⟩:=h;have ac:Room 1 _:=hr.mono (11:);have ad:Room 7 _:=hr.mono (11:);refine⟨_,(Qe (Qv (i:=1) Co.nd rfl (15:) (P9 ab FI hr rfl T.mgC bI .nil L0 (Qa (pv 0) Qc)))
  (Qe (J5 bW (QW (QF (Vo (pv 1) T.cl mL FL ac bL .nil L0))) (Qi (Zb (Vo (pv 1) T.cl mG FG ad bG .nil L0))))
  (Qi (Ql (Yj (pv 1) rfl))))),?_⟩
 refine L2.let2 ?_
 intros
 refine⟨_,rfl,λx dx nx ae ne=>?_⟩;have s0:Same H (upd (upd H dx (.own x)) x (.ins C dx [])):=λb o e=>by
  rw [Qh (Qg e nx),Qh (Qg e ae)];exact e
 refine⟨x,dx,tu,wd,Z,sv,ks,st,ms,rfl,Qb,hT.same s0,ok,λH1 J L Y U gx af S=>⟨rfl,?_⟩⟩;have s1:Same H H1:=λb o e=>gx b o (Qg e nx) (s0 b o e);have aa:H J=none:=s0.free af;refine⟨λm σ H'=>∃(n:Nat)(J:Addr)(U:List V)(W:List (Int×Int))(L Y:Addr),σ=[some (.ref tu),some (.ref x)]/\Same H H'/\H J=none/\StgAt K C H' x Z ms (rlOf ks ms) n J U W L Y/\m=far (rlOf ks ms) n W,⟨_,0,J,U,_,L,Y,rfl,s1,aa,S,rfl⟩,?_⟩;rintro m σ H' ⟨n,J,U,W,L,Y,rfl,g,hl,S,rfl⟩;obtain⟨dx,ds,ts,hx,_⟩:=S.ob;refine⟨_,rfl,x,dx,_,rfl,hx,rfl,x,Z,J,ms,_,n,U,W,L,Y,rfl,S,_,rfl,?_⟩;rcases Classical.em (W.length=0)with h0 | h0
 .rw [bO h0];obtain rfl:W=[]:=fz.mp h0;refine QS ⟨_,rfl,x,C,dx,_,_,rfl,hx,T.cl,T.nS,rfl,?_⟩;exact q J U n H' g hl S.sl S.sa (MU ok.rl S)
 .rw [bV h0];have hW:W≠[]:=λz=>h0 (by rw [z];rfl);refine Q4 ⟨λag H'=>∃m',m'<far (rlOf ks ms) n W/\∃(n:Nat)(J:Addr)(U:List V)(W:List (Int×Int))(L Y:Addr),ag=[some (.ref tu),some (.ref x)]/\Same H H'/\H J=none/\StgAt K C H' x Z ms (rlOf ks ms) n J U W L Y/\m'=far (rlOf ks ms) n W,λag H' z=>z,?_⟩;refine⟨_,rfl,x,dx,_,rfl,hx,rfl,x,Z,J,ms,_,n,U,W,L,Y,rfl,S,ok.rl,ok.mo,λH2 ah ai aj W' g2 ak _ S' hw=>?_⟩;exact⟨_,O4 ok.rl.ok hW hw,n+1,ah,aj,W',L,ai,rfl,λb o e=>g2 b o (Qg e nx) (g _ _ e),g.free ak,S',rfl⟩
end
end K41c
namespace K41
open PySem L2 TM TT ST K9 K11
abbrev sEB:Stmt:=top 36
abbrev sEa:Stmt:=top 35
abbrev eL:Expr:=Bu (CD sEB) 2
abbrev qL:Str:=(PyProof.Rows.envOfC "early_by" (defScope sEB) 0 0 .none).qual++"<lambda>"
abbrev pL:Pos:=VX eL
structure KeepS(K:Fg)(H H':Hp):Prop where
 t:∀a xs,SqT K H a xs->SqT K H' a xs
 l:∀a xs,SqL K H a xs->SqL K H' a xs
theorem KeepS.tb{K:Fg}{T:Addr}{ps:Array Value}(h:H T=some (.tbl ps))(g:SameX T H H'):KeepS K H H':=by
 constructor
 .intro a xs q;rcases q with(q | ⟨o,q⟩) | q
  .exact .inl (.inl (g _ _ (QN q h (18:)) q))
  .exact .inl (.inr ⟨o,g _ _ (QN q h (18:)) q⟩)
  .exact .inr q
 .intro a xs q;rcases q with(q | ⟨o,q⟩) | q
  .exact .inl (.inl (g _ _ (QN q h (18:)) q))
  .exact .inl (.inr ⟨o,g _ _ (QN q h (18:)) q⟩)
  .exact .inr q
theorem WoodAt.keep{K:Fg}{ks:List KdT}(g:KeepS K H H')(h:WoodAt K H wd ks):WoodAt K H' wd ks:=⟨g.l _ _ h.1,λk G=>⟨g.t _ _ (h.2 k G).1,g.l _ _ (h.2 k G).2.1,λt J=>⟨g.t _ _ ((h.2 k G).2.2 t J).1,g.t _ _ ((h.2 k G).2.2 t J).2⟩⟩⟩
theorem TurnD.keep{K:Fg}{ks:List KdT}{t0:Tm}(g:KeepS K H H')(h:TurnD K H tu wd lm sv ks t0 ms):TurnD K H' tu wd lm sv ks t0 ms:=
 ⟨g.t _ _ h.tu,WoodAt.keep g h.w,h.s.mono g.t,g.l _ _ h.m.1,λm G=>⟨g.t _ _ (h.m.2 m G).1,g.l _ _ (h.m.2 m G).2.1,(h.m.2 m G).2.2.mono g.t⟩⟩
structure Eb(S:List Stp)(st:Tm)(ms:List MdT)(x0:TX)(mk:MkP)(qs:List Ky):Prop where
 st:lv st<=4/\CallsIn S.length st/\eT (lookS S) st []=some x0/\sz x0<=400/\lv x0<=10
 eqq:qs=Yc mk 201 0 (QC [] ((clX x0).map (·.1)))
 ln:qs.length<=200
 mo:∀q∈qs,∃(m:Nat)(p:List Nat)(md:MdT),q=((m:Int),p)/\p.length<=100/\ms[m]?=some md/\(mk q).1=md.2.1/\md.2.2.2.2.length<=100/\SM S p md.2.2.2.2 (mk q).2
def BX(K:Fg)(T:Addr)(H:Hp)(ks:List KdT)(x0:TX)(mk:MkP)(qs:List Ky)(tu:Addr)(H':Hp):Prop:=∃(wd lm:Addr)(sv:V)(ks':List KdT)(ms':List MdT),SameX T H H'/\TbS H' T pL qL/\TurnD K H' tu wd lm sv ks' (mpX (ixP qs) x0) ms'/\dW ks'=dW ks/\dM ms'=dQ mk qs/\(∀c∈clX x0,c.1∈qs)/\∀q∈qs,∀c∈clL (mk q).2,c∈qs
def AX(K:Fg)(T:Addr):Sp:=λvs H Q _=>∃(tu wd lm ls:Addr)(sv:V)(ks:List KdT)(st:Tm)(ms:List MdT)(us:List V)(S:List Stp)(x0:TX)(mk:MkP)(qs:List Ky),vs=[.ref tu,.ref ls]/\TbS H T pL qL/\TurnD K H tu wd lm sv ks st ms/\ks.length<=100/\SsAt K H ls us S/\Eb S st ms x0 mk qs/\
 ∀(r tu' d:Addr)(H':Hp),SqT K H' r [.ref tu',.ref d]->BX K T H ks x0 mk qs tu' H'->Q (.ref r) H'
def Li(K:Fg)(T:Addr):Sp:=λvs H Q _=>∃(tu wd lm:Addr)(sv:V)(ks:List KdT)(st:Tm)(ms:List MdT),vs=[.ref tu]/\TbS H T pL qL/\TurnD K H tu wd lm sv ks st ms/\ks.length<=100/\K41c.TuOk ks ms/\
 (∀n,D (rlOf ks ms) (n+1)=D (rlOf ks ms) n->(∀s∈D (rlOf ks ms) n,SOk s/\sl s<=4)/\∃x0 mk qs,Eb (D (rlOf ks ms) n) st ms x0 mk qs/\∀(tu':Addr)(H':Hp),BX K T H ks x0 mk qs tu' H'->Q (.ref tu') H')
section
variable{K:Fg}{T:Addr}
theorem Bs:FnScope ["turning","stumps","start"] ["turning","stumps"] (defScope sEB):=(0:)
theorem OA:∀y∈(Qz eL).names,y.2≠NameKind.cell:=by decide+kernel
theorem Rv:∀y∈(Qz eL).names,y.2=NameKind.local->y.1=Str.ofString "pair":=by decide+kernel
theorem RG:∀y∈(Qz eL).names,y.2=NameKind.free->y.1=Str.ofString "turning" \/y.1=Str.ofString "stumps":=by decide+kernel
theorem B8:Str.ofString "turning"≠Str.ofString "stumps":=by decide+kernel
theorem A2{fA:Addr}{fdA:FuncData}(F:Fun K "early_by" "early_by" sEB f fd)(hn:PySem.W.nsIn K mainGlobals "early_by"=some (some (.ref f)))(hTb:PySem.W.tabIn K "early_by"=some (c,T))(hC:PySem.W.codeHdIn K c T=true)(hB:Wk mg base)
 (RT:Fn P w K mg base 12 "early_term" ["term","place","stumps"] (Sh K)) {t200:Tok} (h200:mg "MOST_MODES"=some (.int 200 t200))
 (FA:∀g:Heap,FnOk P w K mg g CX0 (10+14+3) fA fdA ["wood","start","mode_by","most"] (A0 P w K mg g 14 10)) (hmA:mg "as_met"=some (.ref fA)) (hkA:PySem.W.keepIn K (.ref fA)=true) (bA:Binds K fdA ["wood","start","mode_by","most"] [])
 (RB:∀g:Heap,Fn P w K mg g 13 "early_mode" ["turning","stumps","pair"] (Ce K)):FnOk P w K mg base CX0 40 f fd ["turning","stumps"] (AX K T):=by
 refine Fun.okC F hn hTb Bs (7:) (λA outer s H vs Q E hr h=>?_)
 .obtain⟨G,wd,lm,J,sv,ks,st,ms,Z,S,x0,mk,qs,rfl,_⟩:=h
  rfl
 obtain⟨G,wd,lm,J,sv,ks,st,ms,Z,S,x0,mk,qs,rfl,tb,hT,ah,hS,hE,q⟩:=h;have ai:Room 12 _:=hr.mono (11:);have aj:Room (10+14+3) _:=hr.mono (11:);refine⟨_,(Qe (Qv (i:=2) Bs.nd rfl (15:) (Qp RT ai (Qa (2:) (Qa (QB Qc) (Qa (pv 1) Qc)))))
  (Qi (Ql (Tl (λg _=>FA g) aj hmA hkA bA (λ_=>rfl) (Qa (2:) (Qa (pv 2) (Qa (Ri (c:=c) (T:=T) rfl hC hB) (Qa (Uv (v:=.int 200) rfl h200 ⟨_,rfl⟩) Qc)))))))),?_⟩
 refine L2.let1 ?_
 intros
 obtain⟨s1,s2,s3,s4,s5⟩:=hE.st;refine⟨_,rfl,G,_,1,_,rfl,rfl,hT.tu,rfl,(by show 0<=sizeLine;decide),λp0 ak=>?_⟩;have g0:=Qd ak (.tup []);refine⟨_,rfl,sv,p0,J,st,[],Z,S,x0,rfl,hT.s.mono λ_ _=>g0.seqT,s1,SqT.of Qb,by decide,hS.same g0,s2,s3,s4,s5,λv H7 g7 al=>?_⟩;have U:Same H H7:=g0.trans g7;have aa:=tb.same U;obtain⟨a9,af⟩:=aa.at;have ab:=hT.same U;refine⟨_,rfl,G,_,0,_,rfl,rfl,ab.tu,rfl,_,rfl,aa,λL H8 x8 ba am an g hs hc=>?_⟩;have kS:=KeepS.tb (K:=K) af x8;have ac:=TurnD.keep kS ab;have ao:SsAt K H8 J Z S:=⟨kS.l _ _ (U.seq hS.l),(hS.a.mono λ_ _=>U.seqT).mono kS.t,hS.o⟩;obtain⟨c1,u1,e1,i1,v1⟩:=hc 0 "turning" (.ref G) rfl rfl rfl;obtain⟨c2,u2,e2,i2,v2⟩:=hc 1 "stumps" (.ref J) rfl rfl rfl;refine⟨wd,L,v,ks,x0,eL,_,mk,200,qs,rfl,ac.w,ah,al.mono kS.t,s5,by lia,am,?_,by decide,hE.eqq,hE.ln,λp hp=>?_,λr ap lw aq d ar as ms' H9 g9 au av aw ax ag M ay m1 m2 m3 m4 m5=>?_⟩
 .obtain rfl:s.heap.objs.size+1=c1:=aI e1;obtain rfl:s.heap.objs.size+1+1=c2:=aI e2;have Y:=ClAt.two (aW B8) (Nat.ne_of_gt (Nat.lt_succ_self _)) i2 i1 v2 v1;refine Ny (k:=13) (x:=Str.ofString "pair") (N:=["stumps","turning"]) (vs:=[.ref J,.ref G]) rfl rfl rfl OA (λy hy=>Rv _ (d_ hy) rfl) (1:) (1:) (λx hx=>?_) Y (7:) (λ_ _ _ _ _=>rfl) (λa8 f' c' A' az s' H' v' Q' E' a0 h'=>?_)
  .rcases RG _ (d_ hx) rfl with z | z
   .have z':x=Str.ofString "turning":=z;rw [z'];obtain⟨c0,u0,e0,_⟩:=Y.val 1 (Str.ofString "turning") (.ref G) rfl rfl;exact⟨c0,e0⟩
   .have z':x=Str.ofString "stumps":=z;rw [z'];obtain⟨c0,u0,e0,_⟩:=Y.val 0 (Str.ofString "stumps") (.ref J) rfl rfl;exact⟨c0,e0⟩
  .obtain⟨pp,pr,rfl,_⟩:=h
   rfl
  .obtain⟨pp,pr,ev,gH,ad,a1,q'⟩:=h';obtain rfl:v'=.ref pp:=by injection ev
   obtain⟨m,pl,md,ei,a3,a4,a5,ae,a6⟩:=hE.mo pr a1;refine⟨_,Qp (RB g) a0 (Qa (pv 2) (Qa (pv 1) (Qa (pv 0) Qc))) (4:),?_⟩;rw [ei]at ad;rw [a5]at q';exact⟨_,rfl,_,rfl,_,rfl,G,wd,lm,J,pp,sv,ks,st,ms,Z,S,m,pl,md,(mk pr).2,rfl,ac.same gH,ao.same gH,ad,a3,a4,ae,a6,q'⟩
 .obtain⟨m,pl,md,rfl,_,_,_,ae,bb,a7⟩:=hE.mo p hp;refine⟨by lia,λo ho=>?_⟩;obtain⟨j,hj,ej⟩:=bZ ho;obtain⟨_,_,_,z1,z2⟩:=a7 j _ _ (aD (show j<md.2.2.2.2.length by lia)) (aD hj);rw [ej]at z1 z2;exact⟨z2,by lia⟩
 .exact q r ap d H9 au ⟨lw,aq,ar,as,ms',λb u nb e=>g9 _ _ (x8 b u nb (U _ _ e)),an.same g9,⟨av,aw.wood,ag,SqL.of M.at0,λm hm=>⟨(M.mo m hm).1,SqL.of (M.mo m hm).2.1,(M.mo m hm).2.2.2.2⟩⟩,ax,ay,m4,m5⟩
theorem Dp:FnScope ["turning"] ["turning"] (defScope sEa):=(0:)
theorem CG(F:Fun K "early" "early" sEa f fd)(RC:Fn P w K mg base 10 "commons" ["turning"] (K41c.spCm K))(RB:Fn P w K mg base 40 "early_by" ["turning","stumps"] (AX K T)):FnOk P w K mg base CX0 41 f fd ["turning"] (Li K T):=by
 refine F.ok Dp (7:) (λai A outer s H vs Q E Y h=>?_)
 .obtain⟨G,J,L,M,ks,st,ms,rfl,_⟩:=h
  rfl
 obtain⟨G,J,L,M,ks,st,ms,rfl,tb,Z,hk,hO,q⟩:=h;have U:Room 10 _:=Y.mono (11:);refine⟨_,(Qi (Ql (Qk Qj (Qp RB Y (Qa (pv 0) (Qa (Qp RC U (Qa (pv 0) Qc)) Qc))) Qf (λ_ _=>rfl)))),?_⟩;refine⟨_,rfl,_,rfl,G,J,L,M,ks,st,ms,rfl,Z,hO,λls us n H1 g1 aj aa hS hD=>?_⟩;obtain⟨o,x0,mk,qs,hE,q'⟩:=q n hD;refine⟨G,J,L,ls,M,ks,st,ms,us,_,x0,mk,qs,rfl,tb.same g1,Z.same g1,hk,⟨SqL.of aa,hS,o⟩,hE,λr ab d H2 ac ad=>⟨r,_,0,_,rfl,rfl,ac,rfl,q' ab H2 ?_⟩⟩;obtain⟨ae,af,ag,ah,ms',a1,a2⟩:=ad;exact⟨ae,af,ag,ah,ms',λb u nb e=>a1 b u nb (g1 _ _ e),a2⟩
end
end K41
namespace K41
open K51
open PySem L2 TM TT K9 K11 ST
def pnL(c k:Int):List Nat:=(List.range (1+c%8).toNat).map λ(j:Nat)=>YO (c/((j:Int)+64)+(j:Int)*(j:Int)+if(j:Int)=c/8%(1+c%8)then k else 0)
theorem AV(c k:Int):∀x∈pnL c k,x<128:=by
 intro x G;obtain⟨j,_,rfl⟩:=aK.mp G;exact O5 _
theorem R9{c k k':Int}(h0:0<=k)(h1:k<26)(h0':0<=k')(h1':k'<26)(e:pnL c k=pnL c k'):k=k':=by
 unfold pnL at e;have L:0<=c%8:=cK _ (11:);have M:0<=c/8%(1+c%8):=cK _ (5:);have U:c/8%(1+c%8)<1+c%8:=cV _ (5:);have G:(c/8%(1+c%8)).toNat<(1+c%8).toNat:=by lia
 have g:=congrArg (λl:List Nat=>l[(c/8%(1+c%8)).toNat]?) e;simp only [aJ,f7 G,Option.map_some,Option.some.injEq]at g;have J:(((c/8%(1+c%8)).toNat:Nat):Int)=c/8%(1+c%8):=by lia
 rw [J,aH rfl,aH rfl]at g;have:=Mj g;generalize c/(c/8%(1+c%8)+64)+c/8%(1+c%8)*(c/8%(1+c%8))=z at this;lia
abbrev pn(c k:Int):Str:=S (pnL c k)
theorem Wz(c k:Int):PyData.strOk (pn c k)=true:=Nm.of (AV c k)
theorem Oc{c k k':Int}(h0:0<=k)(h1:k<26)(h0':0<=k')(h1':k'<26)(e:pn c k=pn c k'):k=k':=R9 h0 h1 h0' h1' (Be e)
abbrev pns(c:Int)(n:Nat):List Str:=(List.range n).map λ(i:Nat)=>pn c (i:Int)
def JZ(K:Fg):Sp:=λvs H Q _=>∃(a:Addr)(ns:List Int)(k:Nat),vs=[.ref a,.int k]/\SqL K H a (ns.map V.int)/\Q (.int ((ns[k]?).getD 0)) H
def Yx:Sp:=λvs H Q _=>∃(c:Int)(n:Nat),vs=[.int c,.int (n:Int)]/\n<=100/\∀(l:Addr)(xs:List Int)(H':Hp),Same H H'->H l=none->H' l=some (.lst (xs.map V.int))->xs.length=n->(∀x∈xs,0<=x)->Q (.ref l) H'
def Y8:Sp:=λvs H Q _=>∃(c:Int)(n:Nat),vs=[.int c,.int (n:Int)]/\n<=100/\∀(l:Addr)(H':Hp),Same H H'->H l=none->H' l=some (.lst ((pns c n).map V.str))->Q (.ref l) H'
section
variable{K:Fg}
theorem AS:FnScope ["_law_script","_law_k"] ["_law_script","_law_k"] (defScope Pd):=(0:)
theorem Rs(F:Fun K "_law_cell_at" "_law_cell_at" Pd f fd)(G:Gm mg):FnOk P w K mg base CX0 1 f fd ["_law_script","_law_k"] (JZ K):=by
 refine F.ok AS (7:) (λY A outer s H vs Q E Z h=>?_)
 .obtain⟨a,J,k,rfl,_⟩:=h
  rfl
 obtain⟨a,J,k,rfl,M,q⟩:=h;refine⟨_,Qe (QK (Qu Vf (pv 1) (Qn Qm rfl G.len bT (Qa (pv 0) Qc)) (Qx _)) (Qi (Ql (Qk QE (pv 0) (pv 1) (λ_ _=>rfl)))) Qs)
  (Qi (Ql Qf)),?_⟩
 refine⟨_,rfl,_,rfl,a,_,rfl,.inl M,_,_,rfl,rfl,_,rfl,MD (λc=>?_) (λc=>?_)⟩
 .have L:(k:Int)<(((J.map V.int).length:Nat):Int):=bJ c;rw [aE]at L;have U:k<J.length:=by lia
  rw [aD U]at q;exact⟨_,rfl,_,rfl,a,_,k,.int J[k],rfl,rfl,M,Qq (by rw [aJ,aD U];rfl),q⟩
 .have L:¬(k:Int)<(((J.map V.int).length:Nat):Int):=λz=>c (bO z);rw [aE]at L;rw [dY (5:)]at q;exact q
theorem Ys:FnScope ["_law_cell","_law_count","_law_found","_law_x","_law_k"] ["_law_cell","_law_count"] (defScope Wb):=(0:)
theorem MS(F:Fun K "_law_stream" "_law_stream" Wb f fd)(G:Gm mg):FnOk P w K mg base CX0 1 f fd ["_law_cell","_law_count"] Yx:=by
 refine F.ok Ys (7:) (λaa A outer s H vs Q E hr h=>?_)
 .obtain⟨c,n,rfl,_⟩:=h
  rfl
 obtain⟨c,n,rfl,hn,q⟩:=h;refine⟨_,(Qe (Qv (i:=2) Ys.nd rfl (15:) (Zm Qc))
  (Qe (Qv (i:=3) Ys.nd rfl (15:) (QD ZO (QD ZP (pv 0) Qf) Qf))
  (Qe (QJ bW rfl (Q5 rfl G.rng (Qa (pv 1) Qc)) (Qo (i:=4) Ys.nd rfl (15:)) (Qe (Qv (i:=3) Ys.nd rfl (15:) (QD ZP (QD ZO (QD ZO (QD ZO (QD UV (pv 3) (pv 3)) (QD UV Qf (pv 3))) (QD UV Qf (pv 4))) Qf) Qf))
  (Qi (Zb (YQ cR fu fw Zo (pv 2) (Qa (QD Z7 (pv 3) Qf) Qc))))))
  (Qi (Ql (pv 2)))))),?_⟩
 refine L2.let3 ?_
 intros
 refine⟨(by show 0<=sizeLine;decide),λl Y=>?_⟩;have g0:=Qd Y (.lst []);refine⟨_,rfl,_,_,rfl,rfl,(by show(0:Int)<2147483629;decide),_,_,rfl,rfl,?_⟩;have m0:0<=c%2147483629:=cK _ (11:);have m1:c%2147483629<2147483629:=cV _ (11:);refine⟨_,rfl,_,rfl,(by show-(2^62:Int)<=(n:Int);lia),(by show(n:Int)<2^62;lia),?_⟩;refine Zq (lo:=0) (n:=(n:Int).toNat) (λi σ H'=>∃(x:Int)(xs:List Int)(Z:Option V),σ=[some (.int c),some (.int (n:Int)),some (.ref l),some (.int x),Z]/\0<=x/\x<3000000000/\Same H H'/\H' l=some (.lst (xs.map V.int))/\xs.length=i/\∀y∈xs,0<=y)
  ⟨_,[],none,rfl,(by show(0:Int)<=c%2147483629+7;lia),(by show c%2147483629+7<3000000000;lia),g0,Qb,rfl,λy L=>(nomatch L)⟩ ?_ ?_
 .rintro i σ H' hi ⟨x,xs,Z,rfl,x0,x1,g,J,M,U⟩;rw [aX]at hi;refine⟨_,rfl,_,rfl,_,_,rfl,rfl,.inl ⟨(by show-(2^64:Int)<x;lia),(by show x<2^64;lia)⟩,_,rfl,_,_,rfl,rfl,.inl ⟨by decide,by decide⟩,_,_,rfl,rfl,_,rfl,_,_,rfl,rfl,.inl ⟨by decide,by decide⟩,_,_,rfl,rfl,_,_,rfl,rfl,_,_,rfl,rfl,(by show(0:Int)<2147483629;decide),?_⟩;refine⟨_,rfl,.inl ⟨rfl,_,SqL.of J⟩,_,rfl,_,_,rfl,rfl,⟨by decide,by decide⟩,l,_,_,rfl,rfl,J,by rw [aE,QI];lia,?_⟩;generalize L:(x*x+69069*x+5*(0+(i:Int))+1)%2147483629=y;have y0:0<=y:=by rw [<-L];exact cK _ (11:)
  have y1:y<2147483629:=by rw [<-L];exact cV _ (11:)
  refine⟨y,xs++[y/16],some (.int (0+(i:Int))),?_,y0,by lia,λb u e=>?_,?_,by simp [M],λz hz=>?_⟩
  .rw [<-L];rfl
  .rw [Qh (Qg e Y)];exact g _ _ e
  .have ab:(λi j:Int=>V.int (i/j)) y 16=V.int (y/16):=rfl;rw [Qb,aT,<-L];rfl
  .rcases aY.mp hz with h | h
   .exact U z h
   .obtain rfl:z=y/16:=by simpa using h
    lia
 .rintro σ H' ⟨x,xs,Z,rfl,_,_,g,J,M,U⟩;exact⟨_,rfl,q l xs H' g Y J (by rw [M,aX]) U⟩
theorem Zn:FnScope ["_law_cell","_law_count","_law_letters","_law_long","_law_spot","_law_found","_law_k","_law_name","_law_j","_law_step"] ["_law_cell","_law_count"] (defScope VZ):=(0:)
theorem OY(F:Fun K "_law_names" "_law_names" VZ f fd)(G:Gm mg):FnOk P w K mg base CX0 1 f fd ["_law_cell","_law_count"] Y8:=by
 refine F.ok Zn (7:) (λae A outer s H vs Q E hr h=>?_)
 .obtain⟨c,n,rfl,_⟩:=h
  rfl
 obtain⟨c,n,rfl,hn,q⟩:=h;refine⟨_,(Qe (Qv (i:=2) Zn.nd rfl (15:) Zi)
  (Qe (Qv (i:=3) Zn.nd rfl (15:) (QD ZO Qf (QD ZP (pv 0) Qf)))
  (Qe (Qv (i:=4) Zn.nd rfl (15:) (QD ZP (QD Z7 (pv 0) Qf) (pv 3)))
  (Qe (Qv (i:=5) Zn.nd rfl (15:) (Zm Qc))
  (Qe (QJ bW rfl (Q5 rfl G.rng (Qa (pv 1) Qc)) (Qo (i:=6) Zn.nd rfl (15:)) (Qe (Qv (i:=7) Zn.nd rfl (15:) Zi)
  (Qe (QJ bW rfl (Q5 rfl G.rng (Qa (pv 3) Qc)) (Qo (i:=8) Zn.nd rfl (15:)) (Qe (Qv (i:=9) Zn.nd rfl (15:) (QD ZO (QD Z7 (pv 0) (QD ZO (pv 8) Qf)) (QD UV (pv 8) (pv 8))))
  (Qe (Ya (QK (Qu ZG (pv 8) (pv 4) (Qx _)) (Qi (Qv (i:=9) Zn.nd rfl (15:) (QD ZO (pv 9) (pv 6)))) Qs))
  (Qi (Qv (i:=7) Zn.nd rfl (15:) (QD VN (pv 7) (Qk Ar (pv 2) (QD ZP (pv 9) Qf) (λ_ _=>rfl))))))))
  (Qi (Zb (YQ cR fu fw Zo (pv 5) (Qa (pv 7) Qc)))))))
  (Qi (Ql (pv 5)))))))),?_⟩
 refine L2.let5 ?_
 intros
 have aa:VI.length<=sizeLine:=by rw [Pr,Ng];exact Z9 (11:)
 have h0:0<=c%8:=cK c (11:);have h8:c%8<8:=cV c (11:);refine⟨_,rfl,_,_,rfl,rfl,(by show(0:Int)<8;decide),_,_,rfl,rfl,?_⟩;refine⟨_,rfl,_,_,rfl,rfl,⟨by decide,by decide⟩,_,rfl,_,_,rfl,rfl,(by show(0:Int)<1+c%8;lia),?_⟩;refine⟨(by show 0<=sizeLine;decide),λl L=>?_⟩;have g0:=Qd L (.lst []);refine⟨_,rfl,_,rfl,(by show-(2^62:Int)<=(n:Int);lia),(by show(n:Int)<2^62;lia),?_⟩;refine Zq (lo:=0) (n:=(n:Int).toNat) (λi σ H'=>∃(M U Y Z:Option V),σ=[some (.int c),some (.int (n:Int)),some (.str VI),some (.int (1+c%8)),some (.int (c/8%(1+c%8))),some (.ref l),M,U,Y,Z]/\Same H H'/\H' l=some (.lst ((pns c i).map V.str)))
  ⟨none,none,none,none,rfl,g0,Qb⟩ ?_ ?_
 .rintro k σ H' hk ⟨M,U,Y,Z,rfl,g,J⟩;rw [aX]at hk;refine⟨_,rfl,_,rfl,(by show-(2^62:Int)<=1+c%8;lia),(by show(1+c%8:Int)<2^62;lia),?_⟩;refine Zq (lo:=0) (n:=(1+c%8).toNat) (λi σ H2=>∃(k1 k2:Option V),σ=[some (.int c),some (.int (n:Int)),some (.str VI),some (.int (1+c%8)),some (.int (c/8%(1+c%8))),some (.ref l),some (.int (0+(k:Int))),some (.str (S ((List.range i).map λ(j:Nat)=>YO (c/((j:Int)+64)+(j:Int)*(j:Int)+if(j:Int)=c/8%(1+c%8)then(k:Int)else 0)))),k1,k2]/\H2=H')
   ⟨_,_,by simp only [List.range_zero,List.map_nil];rw [<-RX];rfl,rfl⟩ ?_ ?_
  .rintro i σ H2 hi ⟨k1,k2,rfl,rfl⟩;have e0:(0:Int)+(i:Int)=(i:Int):=by lia
   have af:i<8:=by lia
   refine⟨_,rfl,_,rfl,_,_,rfl,rfl,_,_,rfl,rfl,⟨(by show(0:Int)<0+(i:Int)+64;lia),(by show(0+(i:Int)+64:Int)<1073741824;lia)⟩,_,rfl,_,rfl,_,_,rfl,rfl,.inl ⟨(by show-(2^64:Int)<0+(i:Int);lia),(by show(0+(i:Int):Int)<2^64;lia)⟩,_,_,rfl,rfl,?_⟩;refine⟨λab H3=>∃st:Int,st=c/((i:Int)+64)+(i:Int)*(i:Int)+(if(i:Int)=c/8%(1+c%8)then(k:Int)else 0)/\ab=[some (.int c),some (.int (n:Int)),some (.str VI),some (.int (1+c%8)),some (.int (c/8%(1+c%8))),some (.ref l),some (.int (0+(k:Int))),some (.str (S ((List.range i).map λ(j:Nat)=>YO (c/((j:Int)+64)+(j:Int)*(j:Int)+if(j:Int)=c/8%(1+c%8)then(k:Int)else 0)))),some (.int (0+(i:Int))),some (.int st)]/\H3=H2,?_,?_⟩
   .refine⟨_,rfl,_,rfl,rfl,_,rfl,MD (λhd=>?_) (λhd=>?_)⟩
    .have ac:(0:Int)+(i:Int)=c/8%(1+c%8):=V.int.inj (bJ hd);refine⟨_,rfl,_,rfl,_,_,rfl,rfl,_,?_,rfl,rfl⟩;show c/(0+(i:Int)+64)+(0+(i:Int))*(0+(i:Int))+(0+(k:Int))=_;rw [aH (5:),e0,eP]
    .have ac:¬(0:Int)+(i:Int)=c/8%(1+c%8):=λz=>of_decide_eq_false (Bool.eq_false_iff.mpr hd) (congrArg V.int z);refine⟨_,?_,rfl,rfl⟩;show c/(0+(i:Int)+64)+(0+(i:Int))*(0+(i:Int))=_;rw [aG (5:),Int.add_zero,e0]
   rintro ab H3 ⟨st,ad,rfl,rfl⟩;refine⟨_,rfl,_,rfl,_,rfl,_,_,rfl,rfl,(by show(0:Int)<26;decide),_,_,YO st,rfl,rfl,aa,SI _,_,_,rfl,rfl,?_,?_⟩
   .rw [Tc,Ng,Ng,aE,eI];exact Z9 (by simp only [dE];lia)
   .refine⟨some (.int (0+(i:Int))),some (.int st),?_,rfl⟩;rw [Tc,BZ,gD,aT,ad];rfl
  .rintro σ H2 ⟨k1,k2,rfl,rfl⟩;refine⟨_,rfl,.inl ⟨rfl,_,SqL.of J⟩,_,rfl,l,_,_,rfl,rfl,J,by rw [aE,aE,eI,QI];lia,?_⟩;refine⟨_,_,_,_,rfl,λb u e=>?_,?_⟩
   .rw [Qh (Qg e L)];exact g _ _ e
   .show _=some (HO.lst (((List.range (k+1)).map λ(i:Nat)=>pn c (i:Int)).map V.str));rw [Qb,gD,aT,aT];rfl
 .rintro σ H' ⟨M,U,Y,Z,rfl,g,J⟩;rw [aX]at J;exact⟨_,rfl,q l H' g L J⟩
end
def Yo(K:Fg):Sp:=λvs H Q _=>∃(wd:Addr)(ks:List KdT)(kd:KdT),vs=[.ref wd,.str kd.2.1]/\WoodAt K H wd ks/\(ks.map λk=>k.2.1).Nodup/\kd∈ks/\Q (.ref kd.2.2.1) H
def V1(kn bs:List Str)(ts:List Tm):Prop:=∀t∈ts,∃k j:Nat,t=Uh (k:Int) (j:Int)/\∃z,kn[k]?=some z/\bs[j]?=some z
def We(K:Fg):Sp:=λvs H Q _=>∃(bv lk:Addr)(bs kn:List Str),vs=[.ref bv,.ref lk]/\SqT K H bv (bs.map V.str)/\SqL K H lk (kn.map V.str)/\bs.length<=4/\kn.length<=4/\
 ∀(l:Addr)(ws:List V)(ts:List Tm)(H':Hp),Same H H'->H l=none->H' l=some (.lst ws)->TmAll K H' ws ts->V1 kn bs ts->ts.length<=16->Q (.ref l) H'
theorem ZT{ks:List KdT}(h:(ks.map λk=>k.2.1).Nodup){a b:KdT}(ha:a∈ks)(hb:b∈ks)(e:a.2.1=b.2.1):a=b:=by
 induction ks with
 | nil=>cases ha
 | cons u r L=>
  rw [aR,fg]at h;rcases aM.mp ha with J | h1
  .rcases aM.mp hb with G | h2
   .rw [J,G]
   .exact absurd (aK.mpr ⟨b,h2,by rw [<-e,J]⟩) h.1
  .rcases aM.mp hb with G | h2
   .exact absurd (aK.mpr ⟨a,h1,by rw [e,G]⟩) h.1
   .exact L h.2 h1 h2
section
variable{K:Fg}
theorem VL:FnScope ["_law_wood_here","_law_kind","_law_told","_law_rows_here"] ["_law_wood_here","_law_kind"] (defScope OI):=(0:)
theorem SL(F:Fun K "_law_rows" "_law_rows" OI f fd):FnOk P w K mg base CX0 1 f fd ["_law_wood_here","_law_kind"] (Yo K):=by
 refine F.ok VL (7:) (λab A outer s H vs Q E hr h=>?_)
 .obtain⟨Y,ks,G,rfl,_⟩:=h
  rfl
 obtain⟨Y,ks,G,rfl,Z,hn,hk,q⟩:=h;refine⟨_,(Qe (QJ bW rfl (QH (pv 0)) (Zd rfl (Qr (Qo (i:=2) VL.nd rfl (15:)) (Qr (Qo (i:=3) VL.nd rfl (15:)) QZ))) (Qi (QK (Qu ZG (pv 2) (pv 1) (Qx _)) (Qi (Ql (pv 3))) Qs)))
  (Qi (Ql (Zm Qc)))),?_⟩
 refine L2.let1 ?_
 intros
 refine⟨_,rfl,Y,rfl,⟨_,Z.1⟩,?_⟩;refine Q2 (K:=K) (xs:=ks.map λk=>V.ref k.1) (λi σ H'=>∃c2 c3:Option V,σ=[some (.ref Y),some (.str G.2.1),c2,c3]/\H'=H/\∀(j:Nat)(k:KdT),j<i->ks[j]?=some k->k.2.1≠G.2.1) ⟨none,none,rfl,rfl,λj k h=>absurd h (Nat.not_lt_zero _)⟩ ?_ ?_ ?_
 .rintro i σ H' _ ⟨_,_,_,rfl,_⟩;exact Z.1
 .rintro i x σ H' hx ⟨c2,c3,rfl,rfl,J⟩;have L:i<ks.length:=by have:=(aU.mp hx).1;simpa using this
  obtain rfl:x=.ref ks[i].1:=by
   rw [aJ,aD L]at hx;exact(aI hx).symm
  have hm:=aO L;refine⟨ks[i].1,_,rfl,(Z.2 _ hm).1,rfl,_,_,rfl,_,_,rfl,rfl,_,rfl,_,rfl,rfl,_,rfl,?_⟩
  by_cases U:ks[i].2.1=G.2.1
  .have e:decide (V.str ks[i].2.1=V.str G.2.1)=true:=bO (by rw [U]);rw [e];have ek:=ZT hn hm hk U;refine Q4 ⟨_,rfl,?_⟩;rw [ek];exact q
  .have e:decide (V.str ks[i].2.1=V.str G.2.1)=false:=bV λz=>U (V.str.inj z);rw [e];refine QS ⟨_,_,rfl,rfl,λj k hj M=>?_⟩
   by_cases aa:j<i
   .exact J j k aa M
   .obtain rfl:j=i:=by lia
    rw [aD L]at M;rw [<-aI M];exact U
 .rintro σ H' ⟨c2,c3,rfl,rfl,J⟩;obtain⟨j,hj,e⟩:=bZ hk;exact absurd rfl (J j G (by rw [aE];exact hj) ((aD hj).trans (congrArg some e)))
theorem Jn:FnScope ["_law_branches","_law_kinds","_law_found","_law_j","_law_k"] ["_law_branches","_law_kinds"] (defScope V7):=(0:)
theorem OP(F:Fun K "_law_calls" "_law_calls" V7 f fd)(G:Gm mg):FnOk P w K mg base CX0 1 f fd ["_law_branches","_law_kinds"] (We K):=by
 refine F.ok Jn (7:) (λah A outer s H vs Q E hr h=>?_)
 .obtain⟨bv,lk,bs,Z,rfl,_⟩:=h
  rfl
 obtain⟨bv,lk,bs,Z,rfl,hb,hk,ai,aj,q⟩:=h;refine⟨_,(Qe (Qv (i:=2) Jn.nd rfl (15:) (Zm Qc))
  (Qe (QJ bW rfl (Q5 rfl G.rng (Qa (Qn Qm rfl G.len bT (Qa (pv 0) Qc)) Qc)) (Qo (i:=3) Jn.nd rfl (15:)) (Qi
   (QJ bW rfl (Q5 rfl G.rng (Qa (Qn Qm rfl G.len bT (Qa (pv 1) Qc)) Qc)) (Qo (i:=4) Jn.nd rfl (15:)) (Qi
    (QK (Qu ZG (Qk QE (pv 1) (pv 4) (λ_ _=>rfl)) (Qk Qj (pv 0) (pv 3) (λ_ _=>rfl)) (Qx _)) (Qi (Zb (YQ cR fu fw Zo (pv 2) (Qa ((QB (Qa (Zi) (Qa (pv 4) (Qa (pv 3) Qc))))) Qc)))) Qs)))))
  (Qi (Ql (pv 2))))),?_⟩
 refine L2.let2 ?_
 intros
 refine⟨(by show 0<=sizeLine;decide),λl hl=>?_⟩;have g0:=Qd hl (.lst []);have ad:(bs.map V.str).length=bs.length:=aE ..;have ae:(Z.map V.str).length=Z.length:=aE ..;refine⟨_,rfl,bv,_,rfl,.inr (g0.seqT hb),?_⟩;rw [ad];refine⟨_,rfl,(by show-(2^62:Int)<=(bs.length:Int);lia),(by show(bs.length:Int)<2^62;lia),?_⟩;refine Zq (lo:=0) (n:=(bs.length:Int).toNat) (λj σ H'=>∃(L:List V)(J:List Tm)(c3 c4:Option V),σ=[some (.ref bv),some (.ref lk),some (.ref l),c3,c4]/\Same H H'/\H' l=some (.lst L)/\TmAll K H' L J/\V1 Z bs J/\J.length<=4*j)
  ⟨[],[],none,none,rfl,g0,Qb,.nil,λt ht=>(nomatch ht),aZ _⟩ ?_ ?_
 .rintro j σ H' hj ⟨L,J,c3,c4,rfl,g,M,U,Y,aa⟩;rw [aX]at hj;refine⟨_,rfl,lk,_,rfl,.inl (g.seq hk),?_⟩;rw [ae];refine⟨_,rfl,(by show-(2^62:Int)<=(Z.length:Int);lia),(by show(Z.length:Int)<2^62;lia),?_⟩;refine Zq (lo:=0) (n:=(Z.length:Int).toNat) (λk σ H'=>∃(L:List V)(J:List Tm)(c4:Option V),σ=[some (.ref bv),some (.ref lk),some (.ref l),some (.int (0+(j:Int))),c4]/\Same H H'/\H' l=some (.lst L)/\TmAll K H' L J/\V1 Z bs J/\J.length<=4*j+k)
   ⟨L,J,c4,rfl,g,M,U,Y,by lia⟩ ?_ ?_
  .clear M U Y aa g L J c3 c4;rintro k σ H1 ab ⟨L,J,c4,rfl,g,M,U,Y,aa⟩;rw [aX]at ab;have ag:=U.length;have a1:atI (Z.map V.str) (0+(k:Int))=some (.str Z[k]):=by rw [eP];exact Qq (by rw [aJ,aD ab];rfl)
   have a2:atI (bs.map V.str) (0+(j:Int))=some (.str bs[j]):=by rw [eP];exact Qq (by rw [aJ,aD hj];rfl)
   refine⟨_,rfl,_,rfl,lk,_,_,_,rfl,rfl,g.seq hk,a1,_,rfl,_,rfl,bv,_,_,_,rfl,rfl,g.seqT hb,a2,rfl,_,rfl,MD (λhc=>?_) (λ_=>?_)⟩
   .refine⟨_,rfl,.inl ⟨rfl,_,SqL.of M⟩,_,rfl,_,rfl,(by show 3<=sizeLine;decide),λp hp=>?_⟩;have gp:=Qd hp (.tup [.str ZB,.int (0+(k:Int)),.int (0+(j:Int))]);have ac:=gp _ _ M;refine⟨l,L,_,rfl,rfl,ac,by rw [QI];lia,?_⟩;refine⟨L++[.ref p],J++[Uh (0+(k:Int)) (0+(j:Int))],_,rfl,λb u e=>?_,Qb,?_,λt ht=>?_,by rw [bH,dE];lia⟩
    .rw [Qh (Qg e hl)];exact gp _ _ (g _ _ e)
    .exact TmAll.append (U.mono λ_ _ h=>(gp.seqT h).put ac) (.cons (.call (SqT.put (SqT.of Qb) ac)) .nil)
    .rcases aY.mp ht with z | z
     .exact Y t z
     .obtain rfl:t=Uh (0+(k:Int)) (0+(j:Int)):=by simpa using z
      have af:Z[k]=bs[j]:=V.str.inj (bJ hc);exact⟨k,j,by rw [eP,eP],Z[k],aD ab,by rw [af];exact aD hj⟩
   .exact⟨L,J,_,rfl,g,M,U,Y,by lia⟩
  .rintro σ H1 ⟨L,J,c4,rfl,g,M,U,Y,aa⟩;rw [aX]at aa;exact⟨L,J,_,_,rfl,g,M,U,Y,by lia⟩
 .rintro σ H' ⟨L,J,c3,c4,rfl,g,M,U,Y,aa⟩;rw [aX]at aa;exact⟨_,rfl,q l L J H' g hl M U Y (5:)⟩
end
def YX:Nat->Nat
 | 0=>1
 | 1=>2
 | _=>7
abbrev NI(ns:List Int):List V:=ns.map V.int
def Pn(n:Nat):Int->Int->Prop:=λa _=>0<=a/\a<(n:Int)
def Yq(K:Fg)(n:Nat):Sp:=λvs H Q _=>∃(d lc ln:Addr)(far:Int)(dp:Nat)(xs:List Int)(ws:List V)(ts:List Tm)(nn:List Str)(p:Int->Int->Prop),vs=[.ref d,.ref lc,.ref ln,.int far,.int (dp:Int)]/\H d=some (.lst (NI xs))/\YX dp<=xs.length/\SqL K H lc ws/\TmAll K H ws ts/\(∀t∈ts,∃m b,t=Uh m b/\p m b)/\ts.length<=16/\lc≠d/\SqL K H ln (nn.map V.str)/\5<=nn.length/\(∀x∈nn,PyData.strOk x=true)/\ln≠d/\dp<n/\dp<=2/\
 ∀(v:V)(H':Hp)(t:Tm)(xs':List Int),SameD d H H'->H' d=some (.lst (NI xs'))->xs.length<=xs'.length+YX dp->TmV K H' v t->TPr p t->Lz (dp+1) t->Q v H'
def U6(K:Fg)(n:Nat):Sp:=λvs H Q _=>∃(v:V)(t:Tm)(p:Int->Int->Prop),vs=[v]/\TmV K H v t/\TPr p t/\lv t<=n/\∀(v':V)(H':Hp)(t':Tm),Same H H'->TmV K H' v' t'->TPr p t'->lv t'<=lv t/\sz t'<=sz t->kp t'=false->Q v' H'
theorem Ve(ts:List Tm):PyData.eqv (.list (tmds ts)) (.list [])=ts.isEmpty:=by
 cases ts<;>simp [tmds,PyData.eqv,PyData.eqvAll]
theorem YD{xs:List V}{k:Int}(hk:k=(xs.length:Int))(h:0<xs.length)(n:Int):∃v∈xs,atI xs (n%k)=some v:=by
 subst hk;have J:0<=n%(xs.length:Int):=cK _ (5:);have M:n%(xs.length:Int)<(xs.length:Int):=cV _ (5:);obtain⟨y,L⟩: ∃y:Nat,n%(xs.length:Int)=(y:Int):=⟨_,(ef J).symm⟩;have G:y<xs.length:=by lia
 rw [L];exact⟨xs[y],aO G,Qq (aD G)⟩
theorem Vd{xs:List Int}(h:0<xs.length):∃y:Int,(NI xs)[(NI xs).length-1]?=some (.int y):=by
 have G:xs.length-1<xs.length:=by lia
 exact⟨xs[xs.length-1],by rw [aE,aJ,aD G];rfl⟩
theorem S9(xs:List Int):(NI xs).dropLast=NI xs.dropLast:=by
 show(xs.map V.int).dropLast=xs.dropLast.map V.int;rw [List.map_dropLast]
def Vj(K:Fg):List V->Hp->VK->Prop:=G3.on1 λx H Q=>tyV K "list" x H/\Cr x [] H Q
theorem Na{K:Fg}{xs:List Int}{Q:VK}(h:H l=some (.lst (NI xs)))(h0:0<xs.length)(k:∀(y:Int)(H':Hp),SameD l H H'->H' l=some (.lst (NI xs.dropLast))->(∀b,H' b=none->H b=none)->Q (.int y) H'):Vj K [.ref l] H Q:=by
 obtain⟨y,J⟩:=Vd h0;refine⟨G3.tyL h,l,_,_,rfl,rfl,h,J,k y _ (λb u G e=>by rw [Qh G];exact e) (by rw [Qb,S9]) λb G=>?_⟩
 by_cases z:b=l
 .rw [z,Qb]at G;cases G
 .rw [Qh z]at G;exact G
theorem Oh{K:Fg}{i j:Int}{H:Hp}{Q:VK}(h:0<j)(k:Q (.int (i%j)) H):G3.rB K .Mod (.int i) (.int j) H Q:=G3.modI h k
def S2:List G3.S:=[.set 5 (.nd 0 [.v 0]),.ite (.an (.nd 1 [.v 1,.lst []]) (.cmp .Lt (.bin .Mod (.v 5) (.k (.int 5))) (.bin .Sub (.k (.int 4)) (.v 4)))) [.ret (.ix (.v 1) (.bin .Mod (.bin .FloorDiv (.v 5) (.k (.int 5))) (.call 0 [.v 1])))] [],.cut (.set 6 (.ix (.lst [.k (.int 0),.bin .Sub (.bin .Mod (.bin .FloorDiv (.v 5) (.k (.int 20))) (.k (.int 7))) (.k (.int 3)),.v 3,.bin .Sub (.k (.int 0)) (.v 3)]) (.bin .Mod (.bin .FloorDiv (.v 5) (.k (.int 140))) (.k (.int 4))))),.set 7 (.lst []),.cut (.ite (.cmp .Gt (.v 4) (.k (.int 0))) [.setC 7 (.comp 0 (.bin .Mod (.bin .FloorDiv (.v 5) (.k (.int 560))) (.bin .Mult (.k (.int 2)) (.v 4))) [1,4,3,2,0] (.call 1 [.v 5,.v 1,.v 4,.v 3,.bin .Sub (.v 2) (.k (.int 1))]))] []),.ret (.tup [.k (.str "put"),.ix (.v 2) (.bin .Add (.k (.int 3)) (.bin .Mod (.bin .FloorDiv (.v 5) (.k (.int 2240))) (.k (.int 2)))),.cmp .Eq (.bin .Mod (.bin .FloorDiv (.v 5) (.k (.int 4480))) (.k (.int 4))) (.k (.int 0)),.v 6,.call 2 [.v 7]])]
def S3(K:Fg)(n:Nat):G3.En:=⟨K,[λ_ vs H Q=>G3.rLen K vs H Q,λ_ vs H Q=>Yq K n vs H Q E0,λ_ vs H Q=>G3.rTupOf K vs H Q],[],[Vj K,G3.on2 (G3.EqD K true)],[]⟩
section
variable{K:Fg}
theorem AC:FnScope ["_law_xs","_law_calls_here","_law_names_here","_law_far","_law_deep","_law_x","_law_add","_law_parts"] ["_law_xs","_law_calls_here","_law_names_here","_law_far","_law_deep"] (defScope G2):=(0:)
theorem Sk(F:Fun K "_law_term" "_law_term" G2 f fd)(G:Gm mg)(R:Fn P w K mg base (n+1) "_law_term" ["_law_xs","_law_calls_here","_law_names_here","_law_far","_law_deep"] (Yq K n)):FnOk P w K mg base CX0 (n+2) f fd ["_law_xs","_law_calls_here","_law_names_here","_law_far","_law_deep"] (Yq K (n+1)):=by
 refine G3.Fun.okC F AC (S3 K n) S2 (nk:=[G3.shM0 "pop",G3.shCmp .NotEq]) (λX c=>⟨.cons (c.blt G3.call_len G.len bT) (.cons (c.fn R (4:)) (.cons (c.ty (r:=G3.rTupOf) (λX=>G3.call_tupOf) G.tup cS) .nil)),.nil,.cons (c.node (r:=Vj) λX=>.m0 cR PySem.F.slot_list_pop PySem.F.type_list_pop V6) (.cons c.neD .nil)⟩) (7:) (λH vs Q E h=>?_) G.rng
 .obtain⟨d,lc,ln,far,J,xs,ws,ts,nn,pN,rfl,_⟩:=h
  rfl
 obtain⟨d,lc,ln,far,J,xs,ws,ts,nn,pN,rfl,hd,bz,av,ai,aj,bb,ac,aw,bh,ax,ad,b3,ak,q⟩:=h;have b4:1<=YX J:=by
  match J,ak with
  | 0,_=>decide
  | 1,_=>decide
  | 2,_=>decide
 have ay:Dk H d:=⟨xs,hd⟩;refine Na hd (5:) λx H1 g1 az _=>?_;have bi:xs.dropLast.length+1=xs.length:=by rw [fC];lia
 generalize xs.dropLast=Y at az bi;have ae:=g1.seqL ac av;have al:=ai.mono λ_ _=>g1.seqT ay;have a0:=ai.length;refine⟨λp H2 ge ep _=>?_⟩;have bj:(PyData.list (tmds ts)).canLay0=true:=by
  simp only [PyData.canLay0];exact(LU ts λt ht=>by obtain⟨k,j,rfl,_⟩:=aj t ht;exact L2.leaf_ok _ _ 0 []).1
 refine .e (.list (tmds ts)) (.list []) (.lst (ge.seq ae) (al.mono λ_ _=>ge.seqT).rd) (.lst (SqL.of ep) .nil) bj (11:) (bX (f_ _ _) (by simp [PyData.depth,PyData.depthAll])) ?_;rw [aH rfl,Ve];have a1:SameD d H H2:=g1.trans (SameD.of ge);have am:=ge _ _ az;have ag:G3.ES (S3 K n) (S2.drop 2) { nx:=λ_ H'=>Q .non H',rt:=Q } [some (.ref d),some (.ref lc),some (.ref ln),some (.int far),some (.int (J:Int)),some (.int x),none,none] H2:=by
  refine .c (λbc H'=>∃M:Int,bc=[some (.ref d),some (.ref lc),some (.ref ln),some (.int far),some (.int (J:Int)),some (.int x),some (.int M),none]/\Same H2 H') ?_ ?_
  .refine⟨λl X e dl _=>?_⟩;obtain⟨y,hy,ab⟩:=YD (xs:=[.int 0,.int (x/20%7-3),.int far,.int (0-far)]) (k:=4) rfl (by show 0<4;decide) (x/140);obtain⟨M,rfl⟩: ∃M:Int,y=.int M:=by
    simp only [aM,bS,bQ]at hy;rcases hy with rfl | rfl | rfl | rfl<;>exact⟨_,rfl⟩
   exact .l _ _ (SqL.of dl) ab ⟨M,rfl,e⟩
  rintro _ H3 ⟨M,rfl,g3⟩;refine⟨λlp H4 g4 bd b5=>?_⟩;have an:=g4 _ _ (g3 _ _ am);have a3:SameD d H H4:=a1.trans (SameD.of (g3.trans g4));refine .c (λbc H'=>∃(l:Addr)(us:List V)(ps:List Tm)(L:List Int),bc=[some (.ref d),some (.ref lc),some (.ref ln),some (.int far),some (.int (J:Int)),some (.int x),some (.int M),some (.ref l)]/\SameD d H4 H'/\H' d=some (.lst (NI L))/\Y.length+1<=L.length+YX J/\H' l=some (.lst us)/\TmAll K H' us ps/\ps.length<=2*J-1/\∀t∈ps,TPr pN t/\Lz J t) ?_ ?_
  .refine G3.iteI (λhc=>?_) λ_=>⟨lp,[],[],Y,rfl,SameD.refl _ _,an,by lia,bd,.nil,by simp,λt ht=>(nomatch ht)⟩;have ao:(0:Int)<2*(J:Int):=by lia
   have k0:0<=x/560%(2*(J:Int)):=cK _ (5:);have k1:x/560%(2*(J:Int))<2*(J:Int):=cV _ ao;have be:Dk H4 d:=⟨Y,an⟩;obtain⟨e,he⟩: ∃e,J=e+1:=⟨J-1,by lia⟩;have bn:YX J=1+(2*J-1)*YX e:=by
    match J,e,he,ak with
    | 1,0,_,_=>decide
    | 2,1,_,_=>decide
   have b0:1<=YX e:=by
    match e,(show e<=1 by lia)with
    | 0,_=>decide
    | 1,_=>decide
   have bo:(x/560%(2*(J:Int))).toNat<=2*J-1:=by lia
   refine⟨.inl ⟨by decide,by decide⟩,Oh ao ⟨⟨by lia,by lia⟩,.m (λacc i ys H'=>∃(ps:List Tm)(L:List Int),H' acc=some (.lst ys)/\SameD d H4 H'/\H' d=some (.lst (NI L))/\Y.length<=L.length+i*YX e/\TmAll K H' ys ps/\ps.length=i/\∀t∈ps,TPr pN t/\Lz J t) (5:) (λacc H' aa g ea=>⟨[],Y,ea,SameD.of g,g _ _ an,by lia,.nil,rfl,λt ht=>(nomatch ht)⟩) (λ_ _ _ _ _=>trivial) ?_ ?_⟩⟩
   .rintro acc i ys H' hi _ aa ⟨ps,L,ap,g,ah,bp,Z,a4,U⟩;have a5:=be.ne aa;have bq:i+1<=2*J-1:=by lia
    have bf:(i+1)*YX e<=(2*J-1)*YX e:=fE _ bq;have hs:(i+1)*YX e=i*YX e+YX e:=Nat.succ_mul _ _;have aq:SameD d H H':=a3.trans g;refine⟨d,lc,ln,far,e,L,ws,ts,nn,pN,by rw [show(J:Int)-1=(e:Int)by lia],ah,by lia,aq.seqL ac av,ai.mono λ_ _=>aq.seqT ay,aj,bb,ac,aq.seqL ad aw,bh,ax,ad,by lia,by lia,λv5 H5 t5 br g5 ar bt bu bv as=>?_⟩;have af:=g5 _ _ a5 ap;have bg:Dk H' d:=⟨L,ah⟩;refine⟨af,ps++[t5],br,Qb,(g.trans g5).put aa,by rw [Qh (aW a5)];exact ar,by lia,?_,by simp [a4],λt ht=>?_⟩
    .exact TmAll.append (Z.mono λ_ _ h=>(g5.seqT bg h).put af) (.cons (bu.mono λ_ _ h=>h.put af) .nil)
    .rcases aY.mp ht with z | z
     .exact U t z
     .obtain rfl:=bM.mp z;exact⟨bv,by rw [he];exact as⟩
   rintro acc ys H' aa ⟨ps,L,ap,g,ah,bp,Z,a4,U⟩;have bf:(x/560%(2*(J:Int))).toNat*YX e<=(2*J-1)*YX e:=fE _ bo;exact⟨acc,ys,ps,L,rfl,g,ah,by lia,ap,Z,by lia,U⟩
  rintro _ H5 ⟨l,us,ps,L,rfl,g5,ar,bt,as,Z,bw,U⟩;have b1:=Z.length;have a6:SameD d H H5:=a3.trans g5;have y0:0<=x/2240%2:=cK _ (11:);have y1:x/2240%2<2:=cV _ (11:);have a7:(3+x/2240%2).toNat<nn.length:=by lia
  have ab:atI (nn.map V.str) (3+x/2240%2)=some (.str nn[(3+x/2240%2).toNat]):=Jq (5:) (by rw [aJ,aD a7];rfl);refine .l _ _ (a6.seqL ad aw) ab (.l us (SqL.of as) λpt X1 ga da=>⟨λpp X2 gb db _=>?_⟩);have au:=ga.trans gb;refine q (.ref pp) _ (.node (.put nn[(3+x/2240%2).toNat] (decide (x/4480%4=0)) M) 0 ps) L (a6.trans (SameD.of au)) (au _ _ ar) (5:) (.put db (gb.seqT da) (Z.mono λ_ _=>au.seqT) (5:)) ?_ ?_
  .simp only [TPr];exact⟨ax _ (aO a7),by lia,(TPrs_iff _ ps).mpr λb hb=>(U b hb).1⟩
  .refine⟨?_,?_⟩
   .simp only [lv];have:=G0 λb hb=>(U b hb).2.1;lia
   .simp only [sz];have h1:=LS λb hb=>(U b hb).2.2;have h2:ps.length*zb J<=(2*J-1)*zb J:=fE _ bw;have h3:1+(2*J-1)*zb J<=zb (J+1):=by
     match J,ak with
     | 0,_=>decide
     | 1,_=>decide
     | 2,_=>decide
    lia
 cases ts with
 | nil=>exact ag
 | cons t0 tr=>
  refine G3.iteI (λ_=>?_) λ_=>ag;refine .l _ (ge.seq ae) (Oh (by rw [a0];show(0:Int)<((tr.length+1:Nat):Int);lia) ?_);obtain⟨y,hy,ab⟩:=YD (xs:=ws) (k:=(ws.length:Int)) rfl (by rw [a0,bK];lia) (x/5);refine .l _ _ (ge.seq ae) ab ?_;obtain⟨i,hi,ei⟩:=bZ hy;have a8:i<(t0::tr).length:=by lia
  obtain⟨cv,a9,ba⟩:=al.get (aD a8);have bx:cv=y:=by rw [aD hi,ei]at a9;exact(aI a9).symm
  rw [bx]at ba;obtain⟨k,j,ek,hk⟩:=aj _ (aO a8);refine q y H2 (t0::tr)[i] Y a1 am (5:) (ba.mono λ_ _=>ge.seqT) ?_ ?_
  .rw [ek];simp only [Uh,TPr];exact⟨hk,trivial⟩
  .rw [ek];refine⟨by simp only [Uh,lv,lvs];lia,?_⟩;simp only [Uh,sz,szs];exact Tq J
theorem My{k:Nat}:FnOk P w K mg base CX0 k f fd ["_law_xs","_law_calls_here","_law_names_here","_law_far","_law_deep"] (Yq K 0):=by
 have G:∀vs H Q E,¬Yq K 0 vs H Q E:=λvs H Q E h=>by
  obtain⟨d,L,M,far,U,xs,Y,Z,nn,pN,_,_,_,_,_,_,_,_,_,_,_,_,h0,_⟩:=h;lia
 exact⟨λvs H Q E h=>absurd h (G vs H Q E),λA outer s H J us vs Q E _ _ _ _ h=>absurd h (G vs H Q E)⟩
theorem WS(F:Fun K "_law_term" "_law_term" G2 f fd)(G:Gm mg)(hb:Binds K fd ["_law_xs","_law_calls_here","_law_names_here","_law_far","_law_deep"] [])(hm:mg "_law_term"=some (.ref f)):∀n:Nat,FnOk P w K mg base CX0 (n+1) f fd ["_law_xs","_law_calls_here","_law_names_here","_law_far","_law_deep"] (Yq K n)
 | 0=>My
 | n+1=>Sk F G ⟨f,fd,WS F G hb hm n,hb,F.kp,hm⟩
end
end K41
namespace K41
open K51
open PySem L2 TM TT ST K9 K11
section
variable{K:Fg}
theorem Cm:FnScope ["_law_term_here"] ["_law_term_here"] (defScope P8):=(0:)
theorem T9(F:Fun K "_law_unkept" "_law_unkept" P8 f fd)(G:Gm mg)(R:Fn P w K mg base n "_law_unkept" ["_law_term_here"] (U6 K n)):FnOk P w K mg base CX0 (n+1) f fd ["_law_term_here"] (U6 K (n+1)):=by
 refine F.ok Cm (7:) (λas A outer s H vs Q E hr h=>?_)
 .obtain⟨v,t,p,rfl,_⟩:=h
  rfl
 obtain⟨v,t,ae,rfl,ht,Y,aj,q⟩:=h;refine⟨_,(Qe (QK (Qu ZG (2:) Zi (Qx _)) (Qi (Ql (pv 0))) Qs)
  (Qi (Ql (QB (Qa (Zi) (Qa (2:) (Qa (ZE) (Qa (2:) (Qa (QO QV rfl G.tup cS (Qa (QM (CompG.many (xs:=["_law_part"]) (caps:=[]) (cap:=[]) (cs:=[]) rfl rfl (1:) (1:) (1:) (1:) (1:) (1:) rfl rfl rfl) rfl (Yu (2:)) (YR (CompG.many (xs:=["_law_part"]) (caps:=[]) (cap:=[]) (cs:=[]) rfl rfl (1:) (1:) (1:) (1:) (1:) (1:) rfl rfl rfl)) (λ_ _ _ _=>Ze) (λ_ _ _ _=>Qp R hr (Qa (pv 0) Qc) (4:))) Qc)) Qc))))))))),?_⟩
 refine L2.let1 ?_
 intros
 have ak:¬V.str PUT=V.str ZB:=by decide+kernel
 rcases tm_op ht with⟨a,m,b,rfl,rfl,h1⟩ | ⟨a,b,bs,nm,k,ad,Z,rfl,rfl,h1,h2,h3,h4⟩
 .exact⟨_,rfl,a,_,0,_,rfl,rfl,h1,rfl,rfl,_,rfl,Sz rfl ⟨_,rfl,q _ H _ (Same.refl _) ht Y ⟨aZ _,aZ _⟩ (by simp [kp,kpl,kps])⟩⟩
 refine⟨_,rfl,a,_,0,_,rfl,rfl,h1,rfl,rfl,_,rfl,JR ak ?_⟩;have l3:=h3.length;simp only [TPr]at Y;simp only [lv]at aj q;refine⟨_,rfl,a,_,1,_,rfl,rfl,h1,rfl,_,rfl,a,_,3,_,rfl,rfl,h1,rfl,_,rfl,a,_,4,_,rfl,rfl,h1,rfl,b,rfl,⟨_,h2⟩,λacc aa=>?_⟩;refine Y7 (K:=K) (xs:=bs) (cs:=[]) (tt:=λ_ H Q=>Q true H) (te:=Ur (U6 K n) [] E0 (Q1 (ZL 0) YL)) (λi ys H'=>∃J:List Tm,H' acc=some (.lst ys)/\Same H H'/\TmAll K H' ys J/\J.length=i/\szs J<=szs (Z.take i)/\∀u∈J,TPr ae u/\lv u<=lvs Z/\kp u=false)
  ⟨[],Qb,Qd aa _,.nil,rfl,by simp [szs],λt ht=>(nomatch ht)⟩ ?_ ?_ ?_
 .rintro i ys H' _ ⟨J,_,g,_⟩;exact g.seqT h2
 .rintro i x ys H' hi hx ⟨J,ab,g,L,af,ag,M⟩;have ac:i<Z.length:=by lia
  have ai:=L.length;obtain⟨cv,al,am⟩:=h3.get (aD ac);obtain rfl:cv=x:=aI (al.symm.trans hx);have hm:=aO ac;have a1:=Zt hm;refine Q4 ⟨_,rfl,cv,Z[i],ae,rfl,am.mono λ_ _=>g.seqT,(TPrs_iff _ Z).mp Y.2.2 _ hm,by lia,λv4 H4 t4 g4 an ao ⟨au,av⟩ ap=>?_⟩;have U:=g4 _ _ ab;refine QA (ys:=ys) hi U (5:) ⟨J++[t4],Qb,λx u e=>by rw [Qh (Qg e aa)];exact g4 _ _ (g _ _ e),?_,by simp [af],?_,λu hu=>?_⟩
  rotate_left
  .rw [Jo,bF,aD ac,Jo];simp only [eY,szs];lia
  rotate_left
  .exact TmAll.append (L.mono λ_ _ h=>(g4.seqT h).put U) (.cons (an.mono λ_ _ h=>h.put U) .nil)
  .rcases aY.mp hu with z | z
   .exact M u z
   .have:u=t4:=by simpa using z
    rw [this];exact⟨ao,by lia,ap⟩
 rintro ys H4 ⟨J,ab,g4,L,af,ag,M⟩;have ai:=L.length;refine⟨acc,ys,rfl,.inl ⟨SqL.of ab,λpt aq=>⟨(by show 5<=sizeLine;decide),λpp ar=>?_⟩⟩⟩;have ga:=Qd aq (.tup ys);have gb:=Qd ar (.tup [.str PUT,.str nm,.bl false,.int ad,.ref pt]);have ah:=ga.trans gb;refine q (.ref pp) _ (.node (.put nm false ad) 0 J) (g4.trans ah) (.put (SqT.of Qb) (gb.seqT (SqT.of Qb)) (L.mono λ_ _=>ah.seqT) (5:)) ?_ ?_ ?_
 .simp only [TPr];exact⟨Y.1,by lia,(TPrs_iff _ J).mpr λb hb=>(M b hb).1⟩
 .rw [bR (5:)]at ag;simp only [lv,sz];have:=G0 λb hb=>(M b hb).2.1;lia
 .simp only [kp,kpl,Bool.false_or];rw [GZ];cases e:(J.map kp).any id with
  | false=>rfl
  | true=>
   rw [List.any_map,List.any_eq_true]at e;obtain⟨u,hu,e2⟩:=e;have e3:kp u=true:=e2;rw [(M u hu).2.2]at e3;cases e3
theorem PU{k:Nat}:FnOk P w K mg base CX0 k f fd ["_law_term_here"] (U6 K 0):=by
 have G:∀vs H Q E,¬U6 K 0 vs H Q E:=λvs H Q E h=>by
  obtain⟨v,t,p,_,_,_,J,_⟩:=h;rw [Zl]at J;lia
 exact(14:)
theorem Lo(F:Fun K "_law_unkept" "_law_unkept" P8 f fd)(G:Gm mg)(hb:Binds K fd ["_law_term_here"] [])(hm:mg "_law_unkept"=some (.ref f)):∀n:Nat,FnOk P w K mg base CX0 n f fd ["_law_term_here"] (U6 K n)
 | 0=>PU
 | n+1=>T9 F G ⟨f,fd,Lo F G hb hm n,hb,F.kp,hm⟩
end
def L4(K:Fg):Sp:=λvs H Q _=>∃(tu wd lm:Addr)(sv:V)(ks:List KdT)(st:Tm)(ms:List MdT),vs=[.ref tu]/\TurnD K H tu wd lm sv ks st ms/\WoodOk ks/\ms.length<=10/\
 ∀(tu' wd' lm':Addr)(hs:List KdT)(ms':List MdT)(H':Hp),Same H H'->TurnD K H' tu' wd' lm' sv hs st ms'->hs.map Z1=ks.map Z1->ms'.map MdT.md=ms.map MdT.md->Q (.ref tu') H'
abbrev Wp(K:Fg):List V->Hp->VK->Prop:=λxs H Q=>∃p ys,xs=[.ref p]/\(SqL K H p ys\/SqT K H p ys)/\∀l,H l=none->Q (.ref l) (upd H l (.lst ys))
section
variable{K:Fg}
theorem GD:FnScope ["_law_turning_here","_law_wood_here"] ["_law_turning_here"] (defScope Ga):=(0:)
theorem OE(F:Fun K "_law_again" "_law_again" Ga f fd)(G:Gm mg):FnOk P w K mg base CX0 1 f fd ["_law_turning_here"] (L4 K):=by
 refine F.ok GD (7:) (λau A outer s H vs Q E hr h=>?_)
 .obtain⟨tu,wd,lm,sv,ks,st,ms,rfl,_⟩:=h
  rfl
 obtain⟨tu,wd,lm,sv,ks,st,ms,rfl,hT,hO,as,q⟩:=h;refine⟨_,(Qe (Uq (i:=1) (CompG.many (xs:=["_law_kind","_law_rows_here"]) (caps:=[]) (cap:=[]) (cs:=[]) rfl rfl (1:) (1:) (1:) (1:) (1:) (1:) rfl rfl rfl) rfl (QH (2:)) (U7 (CompG.many (xs:=["_law_kind","_law_rows_here"]) (caps:=[]) (cap:=[]) (cs:=[]) rfl rfl (1:) (1:) (1:) (1:) (1:) (1:) rfl rfl rfl) rfl) (λ_ _ _ _=>Ze) (λ_ _ _ _=>(QB (Qa (pv 0) (Qa (QO (r:=Wp K) ZC rfl G.lst eE (Qa (pv 1) Qc)) Qc)))) GD.nd rfl rfl)
  (Qi (Ql (QB (Qa (pv 1) (Qa (2:) (Qa (QM (CompG.many (xs:=["_law_kind","_law_rules"]) (caps:=[]) (cap:=[]) (cs:=[]) rfl rfl (1:) (1:) (1:) (1:) (1:) (1:) rfl rfl rfl) rfl (QH (2:)) (U7 (CompG.many (xs:=["_law_kind","_law_rules"]) (caps:=[]) (cap:=[]) (cs:=[]) rfl rfl (1:) (1:) (1:) (1:) (1:) (1:) rfl rfl rfl) rfl) (λ_ _ _ _=>Ze) (λ_ _ _ _=>(QB (Qa (pv 0) (Qa (QO (r:=Wp K) ZC rfl G.lst eE (Qa (pv 1) Qc)) Qc))))) Qc))))))),?_⟩
 refine L2.let1 ?_
 intros
 refine⟨_,rfl,tu,_,0,_,rfl,rfl,hT.tu,rfl,wd,rfl,⟨_,hT.w.1⟩,λlx al=>?_⟩;refine YE (K:=K) (xs:=ks.map λk=>V.ref k.1) (cs:=[]) (tt:=λ_ H Q=>Q true H) (te:=Rg (Q1 (ZL 0) (Q1 (tCB (Wp K) (Q1 (ZL 1) YL)) YL))) (λj ys H'=>∃M:List KdT,ys=M.map (λk=>V.ref k.1)/\M.map Z1=(ks.take j).map Z1/\(∀k∈M,SqT K H' k.1 [.str k.2.1,.ref k.2.2.1]/\(H' k.2.2.1=some (.lst (k.2.2.2.map λt=>V.ref t.1))/\k.2.2.1≠lx)/\∀t∈k.2.2.2,RowAt K H' t)/\H' lx=some (.lst ys)/\Same H H')
  ⟨[],rfl,rfl,λk hk=>(nomatch hk),Qb,Qd al _⟩ ?_ ?_ ?_
 .rintro j ys H' _ ⟨M,_,_,_,_,g⟩;exact(hT.w.same g).1
 .rintro j x ys H' hj hx ⟨M,rfl,U,ad,af,g⟩;have Y:j<ks.length:=by simpa using hj
  obtain rfl:x=.ref ks[j].1:=by
   rw [aJ,aD Y]at hx;exact(aI hx).symm
  obtain⟨ah,ai⟩:=(hT.w.same g).2 _ (aO Y);have ao:M.length=j:=by
   have:=congrArg List.length U;rw [aE,aE,cM]at this;lia
  have av:=hO.len;refine⟨ks[j].1,_,_,rfl,ah,Q4 ⟨_,rfl,_,rfl,ks[j].2.2.1,_,rfl,.inl ai.1,λl2 Z=>⟨(by show 2<=sizeLine;decide),λp2 aj=>?_⟩⟩⟩;have e1:=Qd Z (.lst (ks[j].2.2.2.map λt=>V.ref t.1));have e2:=Qd aj (.tup [.str ks[j].2.1,.ref l2]);have J:=e1.trans e2;have L:=J _ _ af;have aa:l2≠lx:=λz=>by rw [z,af]at Z;cases Z
  refine QA (ys:=M.map λk=>V.ref k.1) hj L (by rw [aE];lia) ⟨M++[(p2,ks[j].2.1,l2,ks[j].2.2.2)],by simp,?_,λk hk=>?_,Qb,λx u e=>by rw [Qh (Qg e al)];exact J _ _ (g _ _ e)⟩
  .rw [aT,U,bF,aD Y,aT]
   rfl
  .rcases aY.mp hk with z | z
   .obtain⟨a1,⟨a2,a3⟩,a4⟩:=ad k z;exact⟨(J.seqT a1).put L,⟨by rw [Qh a3];exact J _ _ a2,a3⟩,λt ht=>⟨(J.seqT (a4 t ht).1).put L,(J.seqT (a4 t ht).2).put L⟩⟩
   .have:k=(p2,ks[j].2.1,l2,ks[j].2.2.2):=by simpa using z
    rw [this];refine⟨SqT.put (SqT.of Qb) L,⟨by rw [Qh aa];exact e2 _ _ Qb,aa⟩,λt ht=>⟨(J.seqT (ai.2 t ht).1).put L,(J.seqT (ai.2 t ht).2).put L⟩⟩
 rintro ys H1 ⟨M,rfl,U,ad,af,g1⟩;rw [aE,dN]at U;have ap:WoodAt K H1 lx M:=⟨SqL.of af,λk hk=>by
  obtain⟨a1,⟨a2,_⟩,a4⟩:=ad k hk;exact⟨a1,SqL.of a2,a4⟩⟩
 have ac:=hT.same g1;refine⟨_,rfl,_,rfl,tu,_,1,_,rfl,rfl,ac.tu,rfl,_,rfl,tu,_,2,_,rfl,rfl,ac.tu,rfl,lm,rfl,⟨_,ac.m.1⟩,λly am=>?_⟩;refine YE (K:=K) (xs:=ms.map λk=>V.ref k.1) (cs:=[]) (tt:=λ_ H Q=>Q true H) (te:=Rg (Q1 (ZL 0) (Q1 (tCB (Wp K) (Q1 (ZL 1) YL)) YL))) (λj ys H'=>∃ns:List MdT,ys=ns.map (λk=>V.ref k.1)/\ns.map MdT.md=(ms.take j).map MdT.md/\(∀m∈ns,SqT K H' m.1 [.str m.2.1,.ref m.2.2.1]/\(H' m.2.2.1=some (.lst m.2.2.2.1)/\m.2.2.1≠ly)/\TmAll K H' m.2.2.2.1 m.2.2.2.2)/\H' ly=some (.lst ys)/\Same H1 H')
  ⟨[],rfl,rfl,λk hk=>(nomatch hk),Qb,Qd am _⟩ ?_ ?_ ?_
 .rintro j ys H' _ ⟨M,_,_,_,_,g⟩;exact(ac.m.same g).1
 .rintro j x ys H' hj hx ⟨ns,rfl,ae,ad,ag,g⟩;have Y:j<ms.length:=by simpa using hj
  obtain rfl:x=.ref ms[j].1:=by
   rw [aJ,aD Y]at hx;exact(aI hx).symm
  obtain⟨ah,aq,ar⟩:=(ac.m.same g).2 _ (aO Y);have ao:ns.length=j:=by
   have:=congrArg List.length ae;rw [aE,aE,cM]at this;lia
  refine⟨ms[j].1,_,_,rfl,ah,Q4 ⟨_,rfl,_,rfl,ms[j].2.2.1,_,rfl,.inl aq,λl2 Z=>⟨(by show 2<=sizeLine;decide),λp2 aj=>?_⟩⟩⟩;have e1:=Qd Z (.lst ms[j].2.2.2.1);have e2:=Qd aj (.tup [.str ms[j].2.1,.ref l2]);have J:=e1.trans e2;have ab:=J _ _ ag;have aa:l2≠ly:=λz=>by rw [z,ag]at Z;cases Z
  refine QA (ys:=ns.map λk=>V.ref k.1) hj ab (by rw [aE];lia) ⟨ns++[(p2,ms[j].2.1,l2,ms[j].2.2.2.1,ms[j].2.2.2.2)],by simp,?_,λk hk=>?_,Qb,λx u e=>by rw [Qh (Qg e am)];exact J _ _ (g _ _ e)⟩
  .rw [aT,ae,bF,aD Y,aT]
   rfl
  .rcases aY.mp hk with z | z
   .obtain⟨a1,⟨a2,a3⟩,a4⟩:=ad k z;exact⟨(J.seqT a1).put ab,⟨by rw [Qh a3];exact J _ _ a2,a3⟩,a4.mono λ_ _ h=>(J.seqT h).put ab⟩
   .have:k=(p2,ms[j].2.1,l2,ms[j].2.2.2.1,ms[j].2.2.2.2):=by simpa using z
    rw [this];exact⟨SqT.put (SqT.of Qb) ab,⟨by rw [Qh aa];exact e2 _ _ Qb,aa⟩,ar.mono λ_ _ h=>(J.seqT h).put ab⟩
 rintro ys H2 ⟨ns,rfl,ae,an,ag,g2⟩;rw [aE,dN]at ae;refine⟨(by show 3<=sizeLine;decide),λp hp=>?_⟩;have k3:=Qd hp (.tup [.ref lx,sv,.ref ly]);have ak:=g2.trans k3;exact q p lx ly M ns _ (g1.trans ak) ⟨SqT.of Qb,ap.same ak,ac.s.mono λ_ _=>ak.seqT,⟨SqL.of (k3 _ _ ag),λm hm=>by
  obtain⟨a1,⟨a2,_⟩,a4⟩:=an m hm;exact⟨k3.seqT a1,SqL.of (k3 _ _ a2),a4.mono λ_ _=>k3.seqT⟩⟩⟩ U ae
end
def Kx(kn:List Str)(rs:List PNx):Prop:=(∀r∈rs,∀x∈r.2.2.2,x∈kn)/\∃r∈rs,r.2.2.2=[]
abbrev OkN(kn:List Str)(x:Str):Prop:=PyData.strOk x=true/\x∈kn
structure WD(ks:List KdT):Prop where
 ok:WoodOk ks
 pos:0<ks.length
 three:ks.length<=3
 nm:∀k∈ks,PyData.strOk k.2.1=true
 rws:∀k∈ks,0<k.2.2.2.length/\k.2.2.2.length<=3
 kx:∀k∈ks,Kx (ks.map λk=>k.2.1) k.2.2.2
def Pp(K:Fg):Sp:=λvs H Q _=>∃(a:Addr)(ns:List Int),vs=[.ref a]/\SqL K H a (ns.map V.int)/\∀(wd:Addr)(ks:List KdT)(H':Hp),Same H H'->WoodAt K H' wd ks->WD ks->Q (.ref wd) H'
def CM(K:Fg)(H:Hp)(d lw:Addr)(k:KdT):Prop:=SqT K H k.1 [.str k.2.1,.ref k.2.2.1]/\H k.2.2.1=some (.lst (k.2.2.2.map λt=>V.ref t.1))/\k.2.2.1≠d/\k.2.2.1≠lw/\∀t∈k.2.2.2,RowAt K H t
def rix(first:Int)(q:Nat):Int:=match q with
 | 0=>3+first
 | q+1=>3+(first+(q:Int)+1)%6
theorem Gp(h0:0<=first)(h1:first<6)(q:Nat):0<=rix first q/\rix first q<9:=by
 cases q with
 | zero=>simp only [rix];lia
 | succ q=>simp only [rix];lia
theorem Rq(h0:0<=first)(h1:first<6){p q:Nat}(hp:p<3)(hq:q<3)(e:rix first p=rix first q):p=q:=by
 match p,q,hp,hq with
 | 0,0,_,_=>rfl
 | 0,1,_,_=>simp only [rix]at e;lia
 | 0,2,_,_=>simp only [rix]at e;lia
 | 1,0,_,_=>simp only [rix]at e;lia
 | 1,1,_,_=>rfl
 | 1,2,_,_=>simp only [rix]at e;lia
 | 2,0,_,_=>simp only [rix]at e;lia
 | 2,1,_,_=>simp only [rix]at e;lia
 | 2,2,_,_=>rfl
def Pq(c first:Int)(kn:List Str)(rs:List PNx):Prop:=rs.map (λr=>r.2.1)=(List.range rs.length).map (λ(q:Nat)=>pn c (rix first q))/\(∀r∈rs,(∀x∈r.2.2.2,OkN kn x)/\r.2.2.2.length<=3)/\∃r∈rs,r.2.2.2=[]
theorem Vm{c:Int}{out:List PNx}(h:Pq c first kn rs)(h0:0<=first)(h1:first<6)(hl:rs.length<=3)(hp:out.Perm rs):RowsOk out:=by
 have nd:(rs.map λr=>r.2.1).Nodup:=by
  rw [h.1,gG,List.pairwise_map];refine List.Pairwise.imp_of_mem (λ{i j} hi L J e=>J ?_) (gG.mp List.nodup_range);have Y:=cN.mp hi;have Z:=cN.mp L;have a:=Gp h0 h1 i;have b:=Gp h0 h1 j;exact Rq h0 h1 (5:) (5:) (Oc a.1 (5:) b.1 (5:) e)
 have M:=hp.length_eq;refine⟨(hp.map _).nodup_iff.mpr nd,by lia,λr G=>?_,λr G x U=>((h.2.1 r (hp.mem_iff.mp G)).1 x U).1,λr G=>bX (h.2.1 r (hp.mem_iff.mp G)).2 (11:)⟩;have:r.2.1∈rs.map λr=>r.2.1:=aK.mpr ⟨r,hp.mem_iff.mp G,rfl⟩;rw [h.1]at this;obtain⟨q,_,e⟩:=aK.mp this;rw [<-e];exact Wz _ _
theorem Pb{c:Int}{out:List PNx}(h:Pq c first kn rs)(hp:out.Perm rs):Kx kn out:=⟨λr G x J=>((h.2.1 r (hp.mem_iff.mp G)).1 x J).2,by obtain⟨r,h1,h2⟩:=h.2.2;exact⟨r,hp.mem_iff.mpr h1,h2⟩⟩
theorem N9{c first:Int}(h0:0<=first)(h1:first<6)(q:Nat):atI ((pns c 9).map V.str) (rix first q)=some (.str (pn c (rix first q))):=by
 obtain⟨a,b⟩:=Gp h0 h1 q;have e:((rix first q).toNat:Int)=rix first q:=by lia
 refine Jq a ?_;rw [aJ,aJ,f7 (5:)];show some (V.str (pn c (((rix first q).toNat:Nat):Int)))=_;rw [e]
theorem R0{t:TS}{nx:L2.St->Hp->Prop}{bk ct:L2.St->Hp->Prop}{σ:L2.St}(h:∀K:L2.St->Hp->Prop,(∀σ' H',nx σ' H'->K σ' H')->t ⟨K,rt,bk,ct⟩ σ H):AA t ⟨nx,rt,bk,ct⟩ σ H:=⟨nx,h nx (λ_ _ z=>z),λ_ _ z=>z⟩
theorem CW{t:TS}{nx:L2.St->Hp->Prop}{bk ct:L2.St->Hp->Prop}{σ:L2.St}(R:L2.St->Hp->Prop)(h:t ⟨R,rt,bk,ct⟩ σ H)(k:∀σ' H',R σ' H'->nx σ' H'):AA t ⟨nx,rt,bk,ct⟩ σ H:=⟨R,h,k⟩
def XV(K:Fg):List V->Hp->VK->Prop:=G3.on2 λx y H Q=>G3.asI y λi=>Bz K x none (some i) H Q
def Th(K:Fg)(xs:List V)(H:Hp)(Q:VK):Prop:=∃(l:Addr)(ts:List PNx),xs=[.ref l]/\SqL K H l (ts.map λt=>V.ref t.1)/\(∀t∈ts,SqT K H t.1 [.str t.2.1,.ref t.2.2.1]/\SqT K H t.2.2.1 (t.2.2.2.map V.str)/\∀x∈t.2.2.2,PyData.strOk x=true)/\(ts.map λt=>t.2.1).Nodup/\ts.length<64/\
 ∀(out:List PNx) p,out.Perm ts->(out.Pairwise λx y=>¬y.2.1.cps.toList<x.2.1.cps.toList)->H p=none->Q (.ref p) (upd H p (.lst (out.map λt=>V.ref t.1)))
theorem Du{X:Cx}{P:Program}{w:World}{K:Fg}{mg:Str->Option Value}{base:Heap}{k:Nat}(c:G3.Cxt X P w K mg base k){x:Str}{id:String}{r:Fg->List V->Hp->VK->Prop}(hc:∀X:Cx,Room k X.A->Q6 X (.builtin id) (r X.K))(hm:mg x=none)(hv:bootBuiltins x=some (.builtin id))(hn:x≠"__name__":=by decide):G3.CallOk X x (λ_ vs H Q=>r K vs H Q):=by
 obtain⟨rfl,rfl,rfl,rfl,rfl,G,J⟩:=c;exact .blt (hc X G) hm hv hn
structure WdS(c:Int)(kn:List Str)(ln d lk:Addr)(H:Hp)(xs:List Int):Prop where
 ln:H ln=some (.lst ((pns c 9).map V.str))
 lk:H lk=some (.lst (kn.map V.str))
 d:H d=some (.lst (NI xs))
theorem WdS.go{c:Int}{xs ys:List Int}(h:WdS c kn ln d lk H xs)(g:SameD d H H')(h1:d≠ln)(h2:d≠lk)(e:H' d=some (.lst (NI ys))):WdS c kn ln d lk H' ys:=⟨g _ _ (aW h1) h.ln,g _ _ (aW h2) h.lk,e⟩
theorem WdS.same{c:Int}{xs:List Int}(h:WdS c kn ln d lk H xs)(g:Same H H'):WdS c kn ln d lk H' xs:=⟨g _ _ h.ln,g _ _ h.lk,g _ _ h.d⟩
theorem WdS.put{c:Int}{x:Addr}{xs:List Int}(h:WdS c kn ln d lk H xs)(h0:x≠ln)(h1:x≠lk)(h2:x≠d):WdS c kn ln d lk (upd H x o) xs:=⟨by rw [Qh (aW h0)];exact h.ln,by rw [Qh (aW h1)];exact h.lk,by rw [Qh (aW h2)];exact h.d⟩
def DB:List G3.S:=[.set 9 (.lst []),.forR 10 (.bin .Mod (.nd 1 [.v 2]) (.k (.int 4))) [.ex (.meth 0 (.v 9) [.ix (.v 3) (.bin .Mod (.nd 1 [.v 2]) (.call 3 [.v 3]))])],.ex (.meth 0 (.v 7) [.tup [.ix (.v 1) (.bin .Add (.k (.int 3)) (.bin .Mod (.bin .Add (.bin .Add (.v 6) (.v 8)) (.k (.int 1))) (.k (.int 6)))),.call 4 [.v 9]]])]
def BF:List G3.S:=[.cut (.set 1 (.call 0 [.call 1 [.v 0,.k (.int 0)],.k (.int 9)])),.cut (.set 2 (.call 2 [.call 1 [.v 0,.k (.int 1)],.k (.int 32)])),.cut (.set 3 (.nd 0 [.v 1,.bin .Add (.k (.int 1)) (.bin .Mod (.ix (.v 2) (.k (.int 0))) (.k (.int 3)))])),.set 4 (.lst []),.forL 5 (.v 3) [.set 6 (.bin .Mod (.nd 1 [.v 2]) (.k (.int 6))),.set 7 (.lst [.tup [.ix (.v 1) (.bin .Add (.k (.int 3)) (.v 6)),.tup []]]),.forR 8 (.ix (.lst [.k (.int 2),.k (.int 1),.k (.int 2),.k (.int 0)]) (.bin .Mod (.nd 1 [.v 2]) (.k (.int 4)))) DB,.ex (.meth 0 (.v 4) [.tup [.v 5,.call 5 [.v 7]]])],.ret (.v 4)]
def SZ(K:Fg):G3.En:=⟨K,[λ_ vs H Q=>Y8 vs H Q E0,λ_ vs H Q=>JZ K vs H Q E0,λ_ vs H Q=>Yx vs H Q E0,λ_ vs H Q=>G3.rLen K vs H Q,λ_ vs H Q=>G3.rTupOf K vs H Q,λ_ vs H Q=>Th K vs H Q],[G3.mApp K],[XV K,Vj K],[]⟩
section
variable{K:Fg}
theorem TZ:FnScope ["_law_script","_law_names_here","_law_xs","_law_kinds","_law_wood_here","_law_kind","_law_first","_law_rows_here","_law_k","_law_branches","_law_j"] ["_law_script"] (defScope OO):=(0:)
theorem Rp(F:Fun K "_law_wood" "_law_wood" OO f fd)(G:Gm mg)(RC:Fn P w K mg base 1 "_law_cell_at" ["_law_script","_law_k"] (JZ K))(RS:Fn P w K mg base 1 "_law_stream" ["_law_cell","_law_count"] Yx)(RN:Fn P w K mg base 1 "_law_names" ["_law_cell","_law_count"] Y8):FnOk P w K mg base CX0 2 f fd ["_law_script"] (Pp K):=by
 refine G3.Fun.okC F TZ (SZ K) BF (nk:=[G3.shSlTo,G3.shM0 "pop"]) (λX c=>⟨.cons (c.fn RN) (.cons (c.fn RC) (.cons (c.fn RS) (.cons (c.blt G3.call_len G.len bT) (.cons (c.ty (r:=G3.rTupOf) (λX=>G3.call_tupOf) G.tup cS) (.cons (Du c (r:=Th) (λX hr=>Wj (hr.fit (11:))) G.srt PyProof.Rows.boot_sorted) .nil))))),.cons (c.meth G3.m_append) .nil,.cons (c.node (r:=XV) λX=>.slTo Wc) (.cons (c.node (r:=Vj) λX=>.m0 cR PySem.F.slot_list_pop PySem.F.type_list_pop V6) .nil)⟩) (7:) (λH vs Q E h=>?_) G.rng
 .obtain⟨a,ns,rfl,_⟩:=h
  rfl
 obtain⟨a,ns,rfl,hS,q⟩:=h;refine .c (λσ H1=>∃(M:Addr)(c:Int),σ=[some (.ref a),some (.ref M),none,none,none,none,none,none,none,none,none]/\Same H H1/\H1 M=some (.lst ((pns c 9).map V.str))) ⟨a,ns,0,rfl,hS,_,9,rfl,by decide,λM H1 g1 _ ak=>⟨M,_,rfl,g1,ak⟩⟩ ?_;rintro _ H1 ⟨M,c,rfl,g1,ak⟩;refine .c (λσ H2=>∃(d:Addr)(xs:List Int),σ=[some (.ref a),some (.ref M),some (.ref d),none,none,none,none,none,none,none,none]/\Same H1 H2/\H1 d=none/\H2 d=some (.lst (NI xs))/\xs.length=32) ⟨a,ns,1,rfl,g1.seq hS,_,32,rfl,by decide,λd xs H2 g2 an hd bg _=>⟨d,xs,rfl,g2,an,hd,bg⟩⟩ ?_;rintro _ H2 ⟨d,xs,rfl,g2,an,hd,bg⟩;have bh:=g1.trans g2;have ca:H d=none:=g1.free an;have ax:d≠M:=λz=>by rw [z,ak]at an;cases an
 refine .c (λσ H3=>∃(Z:Addr)(J:List Str),σ=[some (.ref a),some (.ref M),some (.ref d),some (.ref Z),none,none,none,none,none,none,none]/\Same H2 H3/\H2 Z=none/\H3 Z=some (.lst (J.map V.str))/\0<J.length/\J.length<=3/\J.Nodup/\∀x∈J,PyData.strOk x=true) ?_ ?_
 .refine .l _ _ (SqL.of hd) (Qq (j:=0) (by rw [aJ,aD (by lia:0<xs.length)];rfl)) ?_;generalize xs[0]=x0;have z0:0<=x0%3:=cK _ (11:);have z1:x0%3<3:=cV _ (11:);obtain⟨m,hm⟩: ∃m:Nat,1+x0%3=(m:Int):=⟨(1+x0%3).toNat,by lia⟩;refine⟨M,_,rfl,SqL.of (g2 _ _ ak),λZ ao=>?_⟩;have bv:cutV ((pns c 9).map V.str) none (some (1+x0%3))=((pns c 9).take m).map V.str:=by rw [hm,Tk,List.map_take]
  refine⟨Z,(pns c 9).take m,rfl,Qd ao _,ao,by rw [<-bv];exact Qb,?_,?_,?_,λx hx=>?_⟩
  .rw [cM,aE,eI];lia
  .rw [cM,aE,eI];lia
  .refine List.Nodup.sublist (List.take_sublist _ _) ?_;rw [gG,List.pairwise_map];refine List.Pairwise.imp_of_mem (λ{i j} hi hj cb e=>cb ?_) (gG.mp List.nodup_range);have cj:=cN.mp hi;have ck:=cN.mp hj;have:=Oc (c:=c) (k:=(i:Int)) (k':=(j:Int)) (5:) (5:) (5:) (5:) e;lia
  .obtain⟨i,_,rfl⟩:=aK.mp (List.mem_of_mem_take hx);exact Wz _ _
 rintro _ H3 ⟨Z,J,rfl,g3,ao,a0,k0,k3,bw,a7⟩;have ay:d≠Z:=λz=>by rw [<-z,hd]at ao;cases ao
 refine⟨λlw H4 g4 bx ae=>?_⟩;have bi:d≠lw:=λz=>by rw [<-z,g3 _ _ hd]at ae;cases ae
 have bz:lw≠M:=λz=>by rw [z,g3 _ _ (g2 _ _ ak)]at ae;cases ae
 have b3:lw≠Z:=λz=>by rw [z,a0]at ae;cases ae
 have b4:H lw=none:=(bh.trans g3).free ae;have a8:(J.map V.str).length=J.length:=aE ..;have s4:WdS c J M d Z H4 xs:=WdS.same ⟨g3 _ _ (g2 _ _ ak),a0,g3 _ _ hd⟩ g4;refine .f (J.map V.str) (λi σ H'=>∃(ks:List KdT)(af:List Int)(c5 c6 c7 c8 c9 U:Option V),σ=[some (.ref a),some (.ref M),some (.ref d),some (.ref Z),some (.ref lw),c5,c6,c7,c8,c9,U]/\Same H H'/\WdS c J M d Z H' af/\32<=af.length+10*i/\H' lw=some (.lst (ks.map λk=>V.ref k.1))/\ks.map (λk=>k.2.1)=J.take i/\∀k∈ks,CM K H' d lw k/\RowsOk k.2.2.2/\(0<k.2.2.2.length/\k.2.2.2.length<=3)/\Kx J k.2.2.2)
  ⟨[],xs,_,_,_,_,_,_,rfl,bh.trans (g3.trans g4),s4,by lia,bx,rfl,λk hk=>(nomatch hk)⟩ ?_ ?_ ?_
 .rintro i σ H' _ ⟨_,_,_,_,_,_,_,_,_,_,s,_⟩;exact SqL.of s.lk
 .rintro i x σ H5 hx ⟨ks,af,c5,c6,c7,c8,c9,U,rfl,g5,s5,cm,b5,ab,al⟩;have bj:i<J.length:=by have:=(aU.mp hx).1;simpa using this
  obtain rfl:x=.str J[i]:=by
   rw [aJ,aD bj]at hx;exact(aI hx).symm
  refine Na s5.d (5:) λx1 H6 g6 a9 n6=>?_;have s6:=s5.go g6 ax ay a9;have l6:af.dropLast.length+1=af.length:=by rw [fC];lia
  generalize af.dropLast=x6 at s6 l6 a9;have f0:0<=x1%6:=cK _ (11:);have f1:x1%6<6:=cV _ (11:);show G3.ES (SZ K) _ _ [_,_,_,_,_,_,some (.int (x1%6)),_,_,_,_] _;generalize x1%6=first at f0 f1;refine .l _ _ (SqL.of s6.ln) (N9 (c:=c) f0 f1 0) ⟨λpe X1 e1 d1 _=>⟨λpr X2 e2 d2 _=>⟨λlr H7 e3 b6 ba=>?_⟩⟩⟩;have bb:=e1.trans e2;have bc:=bb.trans e3;have s7:=s6.same bc;have ap:lr≠d:=λz=>by rw [z,bb _ _ a9]at ba;cases ba
  have ag:H5 lr=none:=n6 _ (bb.free ba);have g7:SameD d H5 H7:=g6.trans (SameD.of bc);have bd:RowAt K H7 (pr,pn c (rix first 0),pe,[]):=⟨e3.seqT d2,(e2.trans e3).seqT d1⟩;refine⟨λp4 X4 e4 d4 n4=>?_⟩;refine Na (e4 _ _ s7.d) (5:) λx2 H8 g8 bn n8=>?_;have s8:=(s7.same e4).go g8 ax ay bn;have l8:x6.dropLast.length+1=x6.length:=by rw [fC];lia
  generalize x6.dropLast=x8 at s8 l8 bn;have cc:p4≠d:=λz=>by rw [z,s7.d]at n4;cases n4
  obtain⟨y,hy,aq⟩:=YD (xs:=[V.int 2,V.int 1,V.int 2,V.int 0]) (k:=4) rfl (11:) x2;obtain⟨cnt,rfl,cn⟩: ∃cnt:Nat,y=.int (cnt:Int)/\cnt<=2:=by
   simp only [aM,bS,bQ]at hy;rcases hy with rfl | rfl | rfl | rfl
   .exact⟨2,rfl,by decide⟩
   .exact⟨1,rfl,by decide⟩
   .exact⟨2,rfl,by decide⟩
   .exact⟨0,rfl,by decide⟩
  have ce:SameD d H5 H8:=(g7.trans (SameD.of e4)).trans g8;have be:Dk H5 d:=⟨_,s5.d⟩;have bo:Dk X4 d:=⟨_,e4 _ _ s7.d⟩;refine .l _ _ (SqL.of (g8 _ _ cc d4)) aq ⟨⟨by lia,by lia⟩,.f (λr σ Hk=>∃(rs:List PNx)(xk:List Int)(c8 c9 U:Option V),σ=[some (.ref a),some (.ref M),some (.ref d),some (.ref Z),some (.ref lw),some (.str J[i]),some (.int first),some (.ref lr),c8,c9,U]/\SameD d H5 Hk/\WdS c J M d Z Hk xk/\30<=xk.length+10*i+4*r/\Hk lr=some (.lst (rs.map λt=>V.ref t.1))/\rs.length=r+1/\Pq c first J rs/\∀t∈rs,RowAt K Hk t)
   ⟨[(pr,pn c (rix first 0),pe,[])],x8,_,_,_,rfl,ce,s8,by lia,g8 _ _ ap (e4 _ _ b6),rfl,⟨rfl,λt Y=>?_,_,bM.mpr rfl,rfl⟩,λt Y=>?_⟩ ?_ ?_⟩
  .obtain rfl:=bM.mp Y;exact⟨λx hx=>(nomatch hx),by simp⟩
  .obtain rfl:=bM.mp Y;exact⟨g8.seqT bo (e4.seqT bd.1),g8.seqT bo (e4.seqT bd.2)⟩
  .rintro r σ Hk hr ⟨rs,xk,c8,c9,U,rfl,gk,sk,bp,ar,az,ac,ah⟩;rw [aX]at hr;refine⟨λlb Xb eb b7 ai=>?_⟩;have as:lb≠d:=λz=>by rw [z,sk.d]at ai;cases ai
   have sb:=sk.same eb;refine Na sb.d (5:) λx3 Hb gb cf nb=>?_;have b0:0<=x3%4:=cK _ (11:);have b1:x3%4<4:=cV _ (11:);have bq:Dk Hk d:=⟨_,sk.d⟩;refine⟨⟨by lia,by lia⟩,.f (λj σ Hj=>∃(bs:List Str)(xj:List Int)(U:Option V),σ=[some (.ref a),some (.ref M),some (.ref d),some (.ref Z),some (.ref lw),some (.str J[i]),some (.int first),some (.ref lr),some (.int (r:Int)),some (.ref lb),U]/\SameD d Hk Hj/\WdS c J M d Z Hj xj/\29<=xj.length+10*i+4*r+j/\Hj lb=some (.lst (bs.map V.str))/\bs.length=j/\∀x∈bs,OkN J x)
    ⟨[],xk.dropLast,_,rfl,(SameD.of eb).trans gb,sb.go gb ax ay cf,by rw [fC];lia,gb _ _ as b7,rfl,λx hx=>(nomatch hx)⟩ ?_ ?_⟩
   .rintro j σ Hj hj ⟨bs,xj,U,rfl,gj,sj,cg,am,br,au⟩;refine⟨G3.tyL am,Na sj.d (5:) λx4 Hp gp ch np=>?_⟩;have sp:=sj.go gp ax ay ch;refine .l _ (SqL.of sp.lk) (Oh (j:=((J.map V.str).length:Int)) (by rw [a8];lia) ?_);obtain⟨y,hy,aq⟩:=YD (xs:=J.map V.str) (k:=((J.map V.str).length:Int)) rfl (by rw [a8];lia) x4;obtain⟨z,hz,rfl⟩:=aK.mp hy;have b8:=gp _ _ as am;refine .l _ _ (SqL.of sp.lk) aq ⟨lb,_,_,rfl,rfl,b8,by rw [aE,QI];lia,bs++[z],xj.dropLast,_,rfl,λb u hb e=>?_,sp.put ?_ ?_ as,by rw [fC];lia,by rw [Qb,aT];rfl,by simp [br],λx hx=>?_⟩
    .rw [Qh (Qg e ai)];exact gp _ _ hb (gj _ _ hb e)
    .exact λz=>by rw [z,sk.ln]at ai;cases ai
    .exact λz=>by rw [z,sk.lk]at ai;cases ai
    .rcases aY.mp hx with h | h
     .exact au x h
     .obtain rfl:=bM.mp h;exact⟨a7 x hz,hz⟩
   .rintro σ Hj ⟨bs,xj,U,rfl,gj,sj,cg,am,br,au⟩;have bf:Hj lr=some (.lst (rs.map λt=>V.ref t.1)):=gj _ _ ap ar;refine⟨G3.tyL bf,.l _ _ (SqL.of sj.ln) (N9 (c:=c) f0 f1 (r+1))<| .l _ (SqL.of am) λpt Xt et dt=>⟨λpq Xq eq dq _=>?_⟩⟩;have L:=et.trans eq;have aj:=L _ _ bf;refine⟨lr,_,_,rfl,rfl,aj,by rw [aE,QI];lia,rs++[(pq,pn c (rix first (r+1)),pt,bs)],xj,_,_,_,rfl,λb u hb e=>?_,(sj.same L).put ?_ ?_ ap,by lia,by rw [Qb,aT];rfl,by simp [az],⟨?_,λt Y=>?_,?_⟩,λt Y=>?_⟩
    .rw [Qh (Qg e ag)];exact L _ _ (gj _ _ hb (gk _ _ hb e))
    .exact λz=>by rw [z,s5.ln]at ag;cases ag
    .exact λz=>by rw [z,s5.lk]at ag;cases ag
    .rw [aT,ac.1,bH,dE,gD,aT,az];rfl
    .rcases aY.mp Y with h | h
     .exact ac.2.1 t h
     .obtain rfl:=bM.mp h;exact⟨au,by show bs.length<=3;lia⟩
    .obtain⟨r0,h1,h2⟩:=ac.2.2;exact⟨r0,cT _ h1,h2⟩
    .rcases aY.mp Y with h | h
     .obtain⟨r1,r2⟩:=ah t h;exact⟨(L.seqT (gj.seqT bq r1)).put aj,(L.seqT (gj.seqT bq r2)).put aj⟩
     .obtain rfl:=bM.mp h;exact⟨SqT.put dq aj,SqT.put (eq.seqT dt) aj⟩
  .rintro σ Hk ⟨rs,xk,c8,c9,U,rfl,gk,sk,bp,ar,az,ac,ah⟩;rw [aX]at az bp;have av:=gk _ _ (aW bi) b5;have bt:rs.length<=3:=by lia
   have ro:=Vm ac f0 f1 bt (List.Perm.refl rs);refine⟨G3.tyL av,lr,rs,rfl,SqL.of ar,λt Y=>⟨(ah t Y).1,(ah t Y).2,λx hx=>((ac.2.1 t Y).1 x hx).1⟩,ro.nd,by lia,λout p ad _ hp=>⟨λpk Xk e8 dk _=>?_⟩⟩;have e7:=Qd hp (.lst (out.map λt=>V.ref t.1));have L:=e7.trans e8;have aa:=L _ _ av;have aw:=congrArg List.length ab;rw [aE,cM]at aw;have ci:p≠d:=λz=>by rw [z,sk.d]at hp;cases hp
   have bu:p≠lw:=λz=>by rw [z,av]at hp;cases hp
   refine⟨lw,_,_,rfl,rfl,aa,by rw [aE,QI];lia,ks++[(pk,J[i],p,out)],xk,_,_,_,_,_,_,rfl,λb u e=>?_,(sk.same L).put bz b3 (aW bi),by lia,by rw [Qb,aT];rfl,?_,λk hk=>?_⟩
   .rw [Qh (Qg e b4)];exact L _ _ (gk _ _ (Qg e ca) (g5 _ _ e))
   .rw [aT,ab,bF,aD bj];rfl
   .rcases aY.mp hk with h | h
    .obtain⟨⟨a1,a2,a3,a4,a5⟩,a6⟩:=al k h;refine⟨⟨(L.seqT (gk.seqT be a1)).put aa,?_,a3,a4,λt Y=>⟨(L.seqT (gk.seqT be (a5 t Y).1)).put aa,(L.seqT (gk.seqT be (a5 t Y).2)).put aa⟩⟩,a6⟩;rw [Qh a4];exact L _ _ (gk _ _ a3 a2)
    .obtain rfl:=bM.mp h;have co:=ad.length_eq;refine⟨⟨SqT.put dk aa,?_,ci,bu,λt Y=>?_⟩,Vm ac f0 f1 bt ad,⟨by show 0<out.length;lia,by show out.length<=3;lia⟩,Pb ac ad⟩
     .show(upd _ lw _) p=_;rw [Qh bu];exact e8 _ _ Qb
     .obtain⟨r1,r2⟩:=ah t (ad.mem_iff.mp Y);exact⟨(L.seqT r1).put aa,(L.seqT r2).put aa⟩
 .rintro σ H' ⟨ks,af,c5,c6,c7,c8,c9,U,rfl,g,s,_,b9,ab,al⟩;rw [a8,dN]at ab;have aw:=congrArg List.length ab;rw [aE]at aw;refine q lw ks H' g ⟨SqL.of b9,λk hk=>?_⟩ ⟨⟨by rw [ab];exact bw,by lia,λk hk=>(al k hk).2.1⟩,by lia,by lia,λk hk=>?_,λk hk=>(al k hk).2.2.1,λk hk=>by rw [ab];exact(al k hk).2.2.2⟩
  .obtain⟨⟨a1,a2,a3,a4,a5⟩,_⟩:=al k hk;exact⟨a1,SqL.of a2,a5⟩
  .exact a7 _ (by rw [<-ab];exact aK.mpr ⟨k,hk,rfl⟩)
end
def Fc(kn bs:List Str):Int->Int->Prop:=λa b=>∃(k j:Nat)(z:Str),a=(k:Int)/\b=(j:Int)/\kn[k]?=some z/\bs[j]?=some z
theorem Fc.pn{bs:List Str}{a b:Int}(h:Fc kn bs a b):Pn kn.length a b:=by
 obtain⟨k,j,z,rfl,rfl,h1,_⟩:=h;have:=(aU.mp h1).1;exact⟨by lia,by lia⟩
def RF(kn:List Str)(rs:List PNx)(ts:List Tm)(L:Nat):Prop:=(∀t∈ts,TPr (Pn kn.length) t/\Lz L t)/\∀(j:Nat)(r:PNx)(t:Tm),rs[j]?=some r->ts[j]?=some t->TPr (Fc kn r.2.2.2) t
theorem RF.nil:RF kn rs [] L:=⟨λt G=>(nomatch G),λj r t _ h=>(nomatch h)⟩
theorem RF.snoc{ts:List Tm}{r:PNx}{t:Tm}(h:RF kn rs ts L)(hl:ts.length=i)(hr:rs[i]?=some r)(ht:TPr (Fc kn r.2.2.2) t)(hv:Lz L t):RF kn rs (ts++[t]) L:=by
 refine⟨λu J=>?_,λj M u a b=>?_⟩
 .rcases aY.mp J with q | q
  .exact h.1 u q
  .rw [bM.mp q];exact⟨ht.mono λa b k=>k.pn,hv⟩
 .by_cases U:j<ts.length
  .rw [fT U]at b;exact h.2 j M u a b
  .have G:j=i:=by
    have:=(aU.mp b).1;rw [bH]at this;have h1:[t].length=1:=rfl;lia
   subst G;rw [fS (5:),hl,Nat.sub_self]at b;cases b;rw [hr]at a;cases a;exact ht
structure T51(ks:List KdT)(st:Tm)(ms:List MdT):Prop where
 pos:0<ms.length
 three:ms.length<=3
 sc:∀k0,ks[0]?=some k0->TPr (λa _=>0<=a/\a<(ms.length:Int)/\∃m,ms[a.toNat]?=some m/\m.2.1=k0.2.1) st
 sl:Lz 3 st/\kp st=false
 sf:∀k0,ks[0]?=some k0->TPr (Fc (ms.map λm=>m.2.1) [k0.2.1]) st
 ft:∀m∈ms,∃kd∈ks,kd.2.1=m.2.1/\∀(j:Nat)(r:PNx)(t:Tm),kd.2.2.2[j]?=some r->m.2.2.2.2[j]?=some t->TPr (Fc (ms.map λm=>m.2.1) r.2.2.2) t
 md:∀m∈ms,∃kd∈ks,kd.2.1=m.2.1/\m.2.2.2.2.length=kd.2.2.2.length/\∀t∈m.2.2.2.2,TPr (Pn ms.length) t/\Lz 4 t
def N4(K:Fg):Sp:=λvs H Q _=>∃(a:Addr)(ns:List Int)(wd:Addr)(ks:List KdT),vs=[.ref a,.ref wd]/\SqL K H a (ns.map V.int)/\WoodAt K H wd ks/\WD ks/\
 ∀(tu lm:Addr)(sv:V)(st:Tm)(ms:List MdT)(H':Hp),Same H H'->TurnD K H' tu wd lm sv ks st ms->T51 ks st ms->Q (.ref tu) H'
def CV(K:Fg)(H:Hp)(lm:Addr)(m:MdT):Prop:=SqT K H m.1 [.str m.2.1,.ref m.2.2.1]/\H m.2.2.1=some (.lst m.2.2.2.1)/\m.2.2.1≠lm/\TmAll K H m.2.2.2.1 m.2.2.2.2
theorem GN(c:Int)(n:Nat):∀x∈pns c n,PyData.strOk x=true:=λx G=>by
 obtain⟨i,_,rfl⟩:=aK.mp G;exact Wz _ _
theorem Zs(g:Same H H1)(h:H d=none)(k:SameD d H1 H2):Same H H2:=λb u e=>k b u (Qg e h) (g b u e)
def Cg:List G3.S:=[.set 11 (.call 0 [.call 1 [.v 0,.bin .Add (.bin .Add (.k (.int 4)) (.bin .Mult (.k (.int 3)) (.v 7))) (.call 3 [.v 8])],.k (.int 8)]),.ex (.meth 0 (.v 8) [.call 4 [.v 11,.call 5 [.v 10,.v 5],.v 2,.v 4,.k (.int 2)]])]
def BR:List G3.S:=[.cut (.set 2 (.call 2 [.call 1 [.v 0,.k (.int 0)],.k (.int 9)])),.cut (.set 3 (.call 0 [.call 1 [.v 0,.k (.int 2)],.k (.int 8)])),.cut (.set 4 (.bin .Mod (.call 1 [.v 0,.k (.int 3)]) (.nd 0 [.k (.int 10),.k (.int 59)]))),.cut (.set 5 (.nd 2 [.lst [.ix (.ix (.v 1) (.k (.int 0))) (.k (.int 0))],.comp 1 (.nd 1 [.v 3,.bin .Mod (.ix (.v 3) (.k (.int 7))) (.k (.int 3))]) [1] (.ix (.ix (.v 1) (.bin .Mod (.v 0) (.call 3 [.v 1]))) (.k (.int 0)))])),.set 6 (.lst []),.forR 7 (.call 3 [.v 5]) [.set 8 (.lst []),.forU [9,10] (.call 6 [.v 1,.ix (.v 5) (.v 7)]) Cg,.cut (.ite (.cmp .Eq (.bin .Mod (.ix (.v 3) (.bin .Add (.k (.int 3)) (.v 7))) (.k (.int 3))) (.k (.int 0))) [.set 12 (.tup [.k (.str "put"),.ix (.v 2) (.k (.int 3)),.k (.bl false),.k (.int 0),.tup []]),.setC 8 (.comp 1 (.v 8) [4,12,2] (.tup [.k (.str "put"),.ix (.v 3) (.k (.int 4)),.k (.bl false),.v 1,.tup [.v 0,.v 2]]))] []),.ex (.meth 0 (.v 6) [.tup [.ix (.v 5) (.v 7),.v 8]])],.cut (.set 11 (.call 0 [.call 1 [.v 0,.k (.int 13)],.k (.int 8)])),.set 13 (.call 4 [.v 11,.call 5 [.tup [.ix (.ix (.v 1) (.k (.int 0))) (.k (.int 0))],.v 5],.v 2,.v 4,.k (.int 2)]),.ret (.tup [.v 1,.call 7 [.v 13],.v 6])]
def A4(K:Fg):G3.En:=⟨K,[λ_ vs H Q=>Yx vs H Q E0,λ_ vs H Q=>JZ K vs H Q E0,λ_ vs H Q=>Y8 vs H Q E0,λ_ vs H Q=>G3.rLen K vs H Q,λ_ vs H Q=>Yq K 3 vs H Q E0,λ_ vs H Q=>We K vs H Q E0,λ_ vs H Q=>Yo K vs H Q E0,λ_ vs H Q=>U6 K 4 vs H Q E0],[G3.mApp K],[G3.on2 (rI TC λi j=>.int (i^j.toNat)),XV K,G3.on2 (O0 K)],[]⟩
theorem atN(c:Int){i:Nat}(hi:i<9):atI ((pns c 9).map V.str) (i:Int)=some (.str (pn c (i:Int))):=Qq (by rw [aJ,aJ,f7 hi];rfl)
section
variable{K:Fg}
theorem TQ:FnScope ["_law_script","_law_wood_here","_law_names_here","_law_xs","_law_far","_law_kinds","_law_modes","_law_k","_law_rules","_law_name","_law_branches","_law_ys","_law_leaf","_law_start"] ["_law_script","_law_wood_here"] (defScope NZ):=(0:)
theorem R1(F:Fun K "_law_turning" "_law_turning" NZ f fd)(G:Gm mg)(RC:Fn P w K mg base 1 "_law_cell_at" ["_law_script","_law_k"] (JZ K))(RS:Fn P w K mg base 1 "_law_stream" ["_law_cell","_law_count"] Yx)(RN:Fn P w K mg base 1 "_law_names" ["_law_cell","_law_count"] Y8)
 (RR:Fn P w K mg base 1 "_law_rows" ["_law_wood_here","_law_kind"] (Yo K)) (RL:Fn P w K mg base 1 "_law_calls" ["_law_branches","_law_kinds"] (We K)) (RT:Fn P w K mg base 4 "_law_term" ["_law_xs","_law_calls_here","_law_names_here","_law_far","_law_deep"] (Yq K 3)) (RU:Fn P w K mg base 4 "_law_unkept" ["_law_term_here"] (U6 K 4)):FnOk P w K mg base CX0 5 f fd ["_law_script","_law_wood_here"] (N4 K):=by
 refine G3.Fun.okC F TQ (A4 K) BR (nk:=[G3.shBin .Pow,G3.shSlTo,G3.shBin .Add]) (λX c=>⟨.cons (c.fn RS) (.cons (c.fn RC) (.cons (c.fn RN) (.cons (c.blt G3.call_len G.len bT) (.cons (c.fn RT) (.cons (c.fn RL) (.cons (c.fn RR) (.cons (c.fn RU) .nil))))))),.cons (c.meth G3.m_append) .nil,.cons (c.node (r:=λ_=>G3.on2 (rI TC λi j=>.int (i^j.toNat))) λX=>.bin VF) (.cons (c.node (r:=XV) λX=>.slTo Wc) (.cons (c.node (r:=λK=>G3.on2 (O0 K)) λX=>.bin P7) .nil))⟩) (7:) (λH vs Q E h=>?_) G.rng
 .obtain⟨a,ns,wd,ks,rfl,_⟩:=h
  rfl
 obtain⟨a,ns,wd,ks,rfl,hS,hw,hW,q⟩:=h;refine .c (λσ H1=>∃(Y:Addr)(c:Int),σ=[some (.ref a),some (.ref wd),some (.ref Y),none,none,none,none,none,none,none,none,none,none,none]/\Same H H1/\H1 Y=some (.lst ((pns c 9).map V.str))) ⟨a,ns,0,rfl,hS,_,9,rfl,by decide,λY H1 g1 _ bj=>⟨Y,_,rfl,g1,bj⟩⟩ ?_;rintro _ H1 ⟨Y,c,rfl,g1,bj⟩;refine .c (λσ H2=>∃(d:Addr)(xs:List Int),σ=[some (.ref a),some (.ref wd),some (.ref Y),some (.ref d),none,none,none,none,none,none,none,none,none,none]/\Same H1 H2/\H2 d=some (.lst (xs.map V.int))/\xs.length=8) ⟨a,ns,2,rfl,g1.seq hS,_,8,rfl,by decide,λd xs H2 g2 _ hd cm _=>⟨d,xs,rfl,g2,hd,cm⟩⟩ ?_;rintro _ H2 ⟨d,xs,rfl,g2,hd,cm⟩;have bn:=g1.trans g2;refine .c (λσ H'=>∃far:Int,σ=[some (.ref a),some (.ref wd),some (.ref Y),some (.ref d),some (.int far),none,none,none,none,none,none,none,none,none]/\H2=H') ⟨a,ns,3,rfl,bn.seq hS,10,59,rfl,rfl,⟨by decide,by decide,by decide⟩,Oh (11:) ⟨_,rfl,rfl⟩⟩ ?_;rintro _ _ ⟨far,rfl,rfl⟩;have kpos:=hW.pos;have bo:=aO kpos;have bp:atI (ks.map λk=>V.ref k.1) 0=some (.ref ks[0].1):=Qq (j:=0) (by rw [aJ,aD kpos];rfl);refine .c (λσ H'=>∃(lk:Addr)(M:List Str),σ=[some (.ref a),some (.ref wd),some (.ref Y),some (.ref d),some (.int far),some (.ref lk),none,none,none,none,none,none,none,none]/\Same H2 H'/\H' lk=some (.lst (M.map V.str))/\M.length<=3/\0<M.length/\∀z∈M,∃J∈ks,J.2.1=z) ?_ ?_
 .have bq:=hw.same bn;refine .l _ _ bq.1 bp (.t _ _ (bq.2 _ bo).1 rfl ⟨λl1 X1 Z d1 _=>?_⟩);have h7:7<xs.length:=by lia
  refine .l _ _ (SqL.of (Z _ _ hd)) (Qq (j:=7) (by rw [aJ,aD h7];rfl)) ?_;generalize xs[7]=x7;have z0:0<=x7%3:=cK _ (11:);have z1:x7%3<3:=cV _ (11:);obtain⟨m,hm⟩: ∃m:Nat,x7%3=(m:Int):=⟨(x7%3).toNat,by lia⟩;have c0:cutV (xs.map V.int) none (some (x7%3))=(xs.take m).map V.int:=by rw [hm,Tk,List.map_take]
  refine⟨d,_,rfl,SqL.of (Z _ _ hd),λls dd=>?_⟩;have br:=Qd dd (.lst (cutV (xs.map V.int) none (some (x7%3))));have bt:(upd X1 ls (.lst (cutV (xs.map V.int) none (some (x7%3))))) ls=some (.lst ((xs.take m).map V.int)):=by rw [Qb,c0]
  generalize upd X1 ls (.lst (cutV (xs.map V.int) none (some (x7%3))))=Hs at br bt;have cn:=Z.trans br;have aq:((xs.take m).map V.int).length<=2:=by rw [aE,cM];lia
  refine .l _ (SqL.of bt) (.s (λi ys H'=>∃zs:List Str,ys=zs.map V.str/\zs.length=i/\∀z∈zs,∃J∈ks,J.2.1=z) (λH' _=>⟨[],rfl,rfl,λz hz=>(nomatch hz)⟩) (λ_ _ _ _ _ _ h _ _ _ _=>h) (5:) ?_ ?_)
  .rintro i ys H' hi _ g ⟨zs,rfl,co,hz⟩;have bu:=bq.same (cn.trans g);obtain⟨n,hn⟩: ∃n:Int,(((xs.take m).map V.int)[i]?).getD .non=.int n:=by
    rw [aD hi,List.getElem_map];exact⟨_,rfl⟩
   rw [hn];refine .l _ bu.1 (Oh (by rw [aE];lia) ?_);obtain⟨y,hy,c1⟩:=YD (xs:=ks.map λk=>V.ref k.1) (k:=((ks.map λk=>V.ref k.1).length:Int)) rfl (by rw [aE];exact kpos) n;obtain⟨J,L,rfl⟩:=aK.mp hy;refine .l _ _ bu.1 c1 (.t _ _ (bu.2 J L).1 rfl ⟨λ_ _ e=>e,zs++[J.2.1],by simp,by simp [co],λz bv=>?_⟩);rcases aY.mp bv with h | h
   .exact hz z h
   .rw [bM.mp h];exact⟨J,L,rfl⟩
  .rintro acc _ H3 g3 aw ⟨zs,rfl,co,hz⟩;refine⟨l1,acc,_,_,rfl,rfl,SqL.of (g3 _ _ (br _ _ d1)),SqL.of aw,(by rw [aE,dE];exact Z9 (5:)),λlk de=>⟨lk,ks[0].2.1::zs,rfl,cn.trans (g3.trans (Qd de _)),Qb,by rw [bK];lia,by rw [bK];lia,λz bv=>?_⟩⟩;rcases aM.mp bv with h | h
   .exact⟨ks[0],bo,h.symm⟩
   .exact hz z h
 rintro _ H4 ⟨lk,M,rfl,bw,ah,dy,dz,c2⟩;have bx:=bn.trans bw;have ai:=(g2.trans bw) _ _ bj;have df:=bw _ _ hd;have bf:=hw.same bx;have cp:=bx.seq hS;have bg:(M.map V.str).length=M.length:=aE ..;refine⟨λlm H5 cq c3 dg=>?_⟩;refine .l _ (SqL.of (cq _ _ ah)) ⟨⟨by rw [bg];lia,by rw [bg];lia⟩,.f (λk σ H'=>∃(ms:List MdT)(c7 c8 c9 ab ad ax:Option V),σ=[some (.ref a),some (.ref wd),some (.ref Y),some (.ref d),some (.int far),some (.ref lk),some (.ref lm),c7,c8,c9,ab,ad,ax,none]/\Same H4 H'/\H' lm=some (.lst (ms.map λm=>V.ref m.1))/\ms.map (λm=>m.2.1)=M.take k/\∀m∈ms,CV K H' lm m/\∃J∈ks,J.2.1=m.2.1/\m.2.2.2.2.length=J.2.2.2.length/\RF M J.2.2.2 m.2.2.2.2 4)
  ⟨[],_,_,_,_,_,_,rfl,cq,c3,rfl,λm hm=>(nomatch hm)⟩ ?_ ?_⟩
 .rintro k σ H' hk ⟨ms,c7,c8,c9,ab,ad,ax,rfl,g,aj,ae,ay⟩;rw [bg,aX]at hk;obtain⟨J,L,cr⟩:=c2 _ (aO hk);have bz:atI (M.map V.str) (k:Int)=some (.str J.2.1):=Qq (by rw [aJ,aD hk,cr];rfl);refine⟨λlr H6 ct c4 b0=>?_⟩;have gr:=g.trans ct;refine .l _ _ (SqL.of (gr _ _ ah)) bz ⟨wd,ks,J,rfl,bf.same gr,hW.ok.nd,L,?_⟩;have d4:=(hW.rws J L).2;have dh:=(hW.ok.rows J L);refine .f (J.2.2.2.map λt=>V.ref t.1) (λi σ Hi=>∃(us:List V)(ts:List Tm)(c9 ab ad:Option V),σ=[some (.ref a),some (.ref wd),some (.ref Y),some (.ref d),some (.int far),some (.ref lk),some (.ref lm),some (.int (k:Int)),some (.ref lr),c9,ab,ad,ax,none]/\Same H' Hi/\Hi lr=some (.lst us)/\TmAll K Hi us ts/\ts.length=i/\RF M J.2.2.2 ts 3)
   ⟨[],[],_,_,_,rfl,ct,c4,.nil,rfl,RF.nil⟩ ?_ ?_ ?_
  .rintro i σ Hi _ ⟨_,_,_,_,_,_,gi,_⟩;exact((bf.same (g.trans gi)).2 J L).2.1
  .rintro i x σ Hi hx ⟨us,ts,c9,ab,ad,rfl,gi,aa,ar,az,af⟩;have ak:i<J.2.2.2.length:=by have:=(aU.mp hx).1;simpa using this
   obtain rfl:x=.ref J.2.2.2[i].1:=by
    rw [aJ,aD ak]at hx;exact(aI hx).symm
   have al:=g.trans gi;have cu:=((bf.same al).2 J L).2.2 _ (aO ak);have c5:=ar.length;refine⟨J.2.2.2[i].1,_,rfl,cu.1,.inl ⟨by decide,by decide⟩,.l _ (SqL.of aa) ⟨a,ns,4+3*k+us.length,by rw [show(4+3*(k:Int)+(us.length:Int))=((4+3*k+us.length:Nat):Int)by lia],al.seq cp,_,8,rfl,by decide,λly ag Hy gy U am a0 _=>?_⟩⟩;have as:=al.trans gy;refine⟨G3.tyL (gy _ _ aa),J.2.2.2[i].2.2.1,lk,J.2.2.2[i].2.2.2,M,rfl,gy.seqT cu.2,SqL.of (as _ _ ah),dh.kl _ (aO ak),by lia,λlc ws tc Hc gc an b1 b3 b4 a9=>?_⟩;have ba:lc≠ly:=λz=>by rw [z,am]at an;cases an
   have bb:Y≠ly:=λz=>by rw [<-z,al _ _ ai]at U;cases U
   refine⟨ly,lc,Y,far,2,ag,ws,tc,pns c 9,Fc M J.2.2.2[i].2.2.2,rfl,gc _ _ am,by rw [a0];decide,SqL.of b1,b3,λt ht=>?_,a9,ba,SqL.of ((as.trans gc) _ _ ai),by simp,GN c 9,bb,by decide,by decide,λv5 H5 t5 di g5 dj _ b5 b6 a6=>?_⟩
   .obtain⟨k2,j2,e,z,Z,e2⟩:=b4 t ht;exact⟨_,_,e,k2,j2,z,rfl,rfl,Z,e2⟩
   have b7:Same Hi H5:=Zs (gy.trans gc) U g5;have bc:=b7 _ _ aa;refine⟨lr,us,_,rfl,rfl,bc,by rw [QI];lia,us++[v5],ts++[t5],_,_,_,rfl,λb u e=>?_,Qb,?_,by simp [az],af.snoc az (aD ak) b6 a6⟩
   .rw [Qh (Qg e b0)];exact b7 _ _ (gi _ _ e)
   .exact TmAll.append (ar.mono λ_ _ h=>(b7.seqT h).put bc) (.cons (b5.mono λ_ _ h=>h.put bc) .nil)
  rintro σ Hi ⟨us,ts,c9,ab,ad,rfl,gi,aa,ar,az,af⟩;rw [aE]at az;have al:=g.trans gi;have c5:=ar.length;refine .c (λd3 H6=>∃(l:Addr)(bh:List V)(a7:List Tm)(b8:Option V),d3=[some (.ref a),some (.ref wd),some (.ref Y),some (.ref d),some (.int far),some (.ref lk),some (.ref lm),some (.int (k:Int)),some (.ref l),c9,ab,ad,b8,none]/\Same H' H6/\H6 l=some (.lst bh)/\l≠lm/\TmAll K H6 bh a7/\a7.length=J.2.2.2.length/\RF M J.2.2.2 a7 4) ?_ ?_
  .have dk:3+k<xs.length:=by lia
   have cj:lr≠lm:=λz=>by rw [z,aj]at b0;cases b0
   refine .l _ _ (SqL.of (al _ _ df)) (show atI (xs.map V.int) (3+(k:Int))=some (.int xs[3+k])from by rw [show(3+(k:Int))=((3+k:Nat):Int)by lia];exact Qq (by rw [aJ,aD dk];rfl)) ?_;refine G3.iteI (λ_=>?_) λ_=>⟨lr,us,ts,_,rfl,gi,aa,cj,ar,az,λt ht=>⟨(af.1 t ht).1,by have:=(af.1 t ht).2.1;lia,by have:sz t<=7:=(af.1 t ht).2.2;show sz t<=9;lia⟩,af.2⟩;have b9:=al _ _ ai;refine .l _ _ (SqL.of b9) (atN c (i:=3) (11:)) ⟨λp0 X0 Z d0 _=>⟨λpl Hl e2 dl _=>?_⟩⟩;have au:=Z.trans e2;have ck:TmV K Hl (.ref pl) (.node (.put (pn c 3) false 0) 0 []):=.put dl (e2.seqT d0) .nil (17:);refine .l us (SqL.of (au _ _ aa)) (.m (λacc i ys Hj=>∃ps:List Tm,Hj acc=some (.lst ys)/\Same Hl Hj/\TmAll K Hj ys ps/\ps.length=i/\RF M J.2.2.2 ps 4) (5:) (λ_ _ _ g ea=>⟨[],ea,g,.nil,rfl,RF.nil⟩) (λ_ _ _ _ ⟨_,_,gj,_⟩=>SqL.of (gj _ _ (au _ _ aa))) ?_ ?_)
   .rintro acc i ys Hj hi _ av ⟨ps,aw,gj,ca,bd,be⟩;have cb:i<ts.length:=by lia
    obtain⟨cv,dp,dq⟩:=ar.get (aD cb);have ex:(us[i]?).getD .non=cv:=by rw [dp];rfl
    rw [ex];obtain⟨o1,o2⟩:=af.1 _ (aO cb);have ak:i<J.2.2.2.length:=by lia
    have o3:=af.2 i _ _ (aD ak) (aD cb);refine .l _ _ (SqL.of (gj _ _ (au _ _ b9))) (atN c (i:=4) (11:)) ⟨λp1 X1 e3 d1 _=>⟨λp2 X2 e4 d2 _=>?_⟩⟩;have cc:=e3.trans e4;have ac:=cc _ _ aw;have ce:=gj.trans cc;refine⟨ac,ps++[.node (.put (pn c 4) false far) 0 [ts[i],.node (.put (pn c 3) false 0) 0 []]],Qb,λb u e=>?_,?_,by simp [bd],be.snoc bd (aD ak) ?_ ?_⟩
    .rw [Qh (Qg e av)];exact ce _ _ e
    .exact TmAll.append (ca.mono λ_ _ h=>(cc.seqT h).put ac) (.cons (.put (SqT.put d2 ac) (SqT.put (e4.seqT d1) ac) (.cons (dq.mono λ_ _ h=>(ce.seqT (au.seqT h)).put ac) (.cons (ck.mono λ_ _ h=>(ce.seqT h).put ac) .nil)) (17:)) .nil)
    .simp only [TPr,TPrs];exact⟨Wz _ _,by simp,o3,⟨Wz _ _,by simp,trivial⟩,trivial⟩
    .refine⟨by have:=o2.1;simp only [lv,lvs];lia,?_⟩;have:sz ts[i]<=7:=o2.2;show _<=9;simp only [sz,szs];lia
   rintro acc ys Hj av ⟨ps,aw,gj,ca,bd,be⟩;exact⟨acc,ys,ps,_,rfl,gi.trans (au.trans gj),aw,(λz=>by rw [z,au _ _ (gi _ _ aj)]at av;cases av),ca,by lia,be⟩
  rintro _ H6 ⟨l,bh,a7,b8,rfl,g6,bi,cf,c6,da,dc⟩;have cw:=g.trans g6;have cg:=g6 _ _ aj;refine⟨G3.tyL cg,.l _ _ (SqL.of (cw _ _ ah)) bz ⟨λpm X7 e7 dm _=>?_⟩⟩;have ao:=e7 _ _ cg;have aq:=congrArg List.length ae;rw [aE,cM]at aq;refine⟨lm,_,_,rfl,rfl,ao,by rw [aE,QI];lia,ms++[(pm,J.2.1,l,bh,a7)],_,_,_,_,_,_,rfl,λb u e=>?_,by rw [Qb,aT];rfl,?_,λm hm=>?_⟩
  .rw [Qh (Qg e dg)];exact e7 _ _ (cw _ _ e)
  .rw [aT,ae,bF,aD hk,<-cr];rfl
  .rcases aY.mp hm with h | h
   .obtain⟨⟨a1,a2,a3,a4⟩,a5⟩:=ay m h;have ch:=g6.trans e7;exact⟨⟨(ch.seqT a1).put ao,by rw [Qh a3];exact ch _ _ a2,a3,a4.mono λ_ _ h=>(ch.seqT h).put ao⟩,a5⟩
   .obtain rfl:=bM.mp h;refine⟨⟨SqT.put dm ao,?_,cf,c6.mono λ_ _ h=>(e7.seqT h).put ao⟩,J,L,rfl,da,dc⟩;show(upd _ lm _) l=_;rw [Qh cf];exact e7 _ _ bi
 rintro σ H' ⟨ms,c7,c8,c9,ab,ad,ax,rfl,g,aj,ae,ay⟩;rw [bg,aX,dN]at ae;have aq:=congrArg List.length ae;rw [aE]at aq;refine .c (λσ Hy=>∃(ly:Addr)(ag:List Int),σ=[some (.ref a),some (.ref wd),some (.ref Y),some (.ref d),some (.int far),some (.ref lk),some (.ref lm),c7,c8,c9,ab,some (.ref ly),ax,none]/\Same H' Hy/\H' ly=none/\Hy ly=some (.lst (NI ag))/\ag.length=8) ⟨a,ns,13,rfl,g.seq cp,_,8,rfl,by decide,λly ag Hy gy U am a0 _=>⟨ly,ag,rfl,gy,U,am,a0⟩⟩ ?_;rintro _ Hy ⟨ly,ag,rfl,gy,U,am,a0⟩;have as:=g.trans gy;have cx:=bf.same as;refine .l _ _ cx.1 bp (.t _ _ (cx.2 _ bo).1 rfl ⟨λpb Xb e9 db _=>⟨pb,lk,[ks[0].2.1],M,rfl,db,SqL.of (e9 _ _ (as _ _ ah)),by simp,by lia,λlc ws tc Hc gc an b1 b3 b4 a9=>?_⟩⟩);have ci:=e9.trans gc;have ba:lc≠ly:=λz=>by rw [z,e9 _ _ am]at an;cases an
 have bb:Y≠ly:=λz=>by rw [<-z,g _ _ ai]at U;cases U
 refine⟨ly,lc,Y,far,2,ag,ws,tc,pns c 9,λa b=>(0<=a/\a<(M.length:Int)/\M[a.toNat]?=some ks[0].2.1)/\Fc M [ks[0].2.1] a b,rfl,ci _ _ am,by rw [a0];decide,SqL.of b1,b3,λt ht=>?_,a9,ba,SqL.of (ci _ _ (as _ _ ai)),by simp,GN c 9,bb,by decide,by decide,λv5 H5 t5 di g5 dj _ b5 b6 a6=>?_⟩
 .obtain⟨k2,j2,e,z,Z,e2⟩:=b4 t ht;have h2:=(aU.mp Z).1;have h4:z=ks[0].2.1:=bM.mp (aL e2);exact⟨_,_,e,⟨by lia,by lia,by rw [aX,Z,h4]⟩,k2,j2,z,rfl,rfl,Z,e2⟩
 have du:Same H' H5:=Zs (gy.trans ci) U g5;refine⟨v5,t5,_,rfl,b5,b6,by have:=a6.1;lia,λv6 H6 t6 g6 dv cy bi dw=>⟨λtu d5 cz dt _=>?_⟩⟩;have a8:=du.trans (g6.trans cz);have gT:=bx.trans (g.trans a8);refine q tu lm v6 t6 ms _ gT ⟨dt,hw.same gT,dv.mono λ_ _=>cz.seqT,SqL.of (a8 _ _ aj),λm hm=>?_⟩ ⟨by lia,by lia,λk0 ap=>?_,⟨⟨by have:=bi.1;have:=a6.1;lia,bX bi.2 a6.2⟩,dw⟩,λk0 ap=>?_,λm hm=>?_,λm hm=>?_⟩
 .obtain⟨⟨a1,a2,a3,a4⟩,_⟩:=ay m hm;exact⟨a8.seqT a1,SqL.of (a8 _ _ a2),a4.mono λ_ _=>a8.seqT⟩
 .rw [aD kpos]at ap;obtain rfl:=aI ap;refine cy.mono λa b h=>⟨h.1.1,by rw [aq];exact h.1.2.1,?_⟩;have h3:=h.1.2.2;rw [<-ae,aJ]at h3;cases em:ms[a.toNat]? with
  | none=>rw [em]at h3;cases h3
  | some m=>rw [em]at h3;exact⟨m,rfl,aI h3⟩
 .rw [aD kpos]at ap;obtain rfl:=aI ap;rw [ae];exact cy.mono λa b h=>h.2
 .obtain⟨_,J,L,Z,e2,e3⟩:=ay m hm;rw [ae];exact⟨J,L,Z,e3.2⟩
 .obtain⟨_,J,L,Z,e2,e3⟩:=ay m hm;exact⟨J,L,Z,e2,λt ht=>by rw [aq];exact e3.1 t ht⟩
end
end K41
namespace K51
open PySem TM TT L2 K9 K11 ST
def FcM(kn bs:List Str):Int->Int->Prop:=λa b=>∃(k j:Nat)(z:Str),a=(k:Int)/\b=(j:Int)/\kn[k]?=some z/\bs[j]?=some z
theorem Ww:∀{bs:List (Tree Str)}{ks:List Str}{j:Nat}{z:Str},Y2 rw bs ks->ks[j]?=some z->∃T,bs[j]?=some T/\OfK rw T z
 | [],ks,j,z,h,e=>by simp only [Y2]at h;rw [h]at e;cases e
 | b::r,ks,0,z,h,e=>by
  simp only [Y2]at h;obtain⟨k,G,rfl,h1,h2⟩:=h;cases e;exact⟨b,rfl,h1⟩
 | b::r,ks,j+1,z,h,e=>by
  simp only [Y2]at h;obtain⟨k,G,rfl,h1,h2⟩:=h;exact Ww (bs:=r) (j:=j) h2 e
mutual
theorem VO{rl:Int->Str->Option Tm}{kn ks:List Str}{mark:Int}{bs:List (Tree Str)}(hc:∀a b,FcM kn ks a b->∃(n:Str)(mm:Int)(cs:List (Tree Str))(r:Tm)(o:Tree Str),bs[b.toNat]?=some (.node n mm cs)/\rl a n=some r/\Mk rl r mm cs o):∀{t:Tm},TPr (FcM kn ks) t->∃o,Mk rl t mark bs o
 | .node (.call m b) z qs,h=>by
  simp only [TPr]at h;obtain⟨n,mm,cs,r,o,h1,h2,G⟩:=hc m b h.1;exact⟨o,.call h1 h2 G⟩
 | .node (.put n k a) z ps,h=>by
  simp only [TPr]at h;obtain⟨J,h1,h2⟩:=LF hc h.2.2;exact⟨_,.put h1 h2⟩
theorem LF{rl:Int->Str->Option Tm}{kn ks:List Str}{mark:Int}{bs:List (Tree Str)}(hc:∀a b,FcM kn ks a b->∃(n:Str)(mm:Int)(cs:List (Tree Str))(r:Tm)(o:Tree Str),bs[b.toNat]?=some (.node n mm cs)/\rl a n=some r/\Mk rl r mm cs o):∀{ps:List Tm},TPrs (FcM kn ks) ps->∃os:List (Tree Str),os.length=ps.length/\∀(i:Nat)(p:Tm)(o:Tree Str),ps[i]?=some p->os[i]?=some o->Mk rl p mark bs o
 | [],_=>⟨[],rfl,λi p o h=>(nomatch h)⟩
 | p::r,h=>by
  simp only [TPrs]at h;obtain⟨o,h1⟩:=VO hc h.1;obtain⟨os,h2,G⟩:=LF hc h.2;refine⟨o::os,by simp [h2],λi q u a b=>?_⟩;cases i with
  | zero=>cases a;cases b;exact h1
  | succ i=>exact G i q u a b
end
theorem LR{ks:List KdT}(hn:∀kind,((Qt ks kind).map λr=>r.2.1).Nodup)(hl:∀m∈ms,m.2.2.2.2.length=(Qt ks m.2.1).length)(hf:∀m∈ms,∀(j:Nat)(r:PNx)(t:Tm),(Qt ks m.2.1)[j]?=some r->m.2.2.2.2[j]?=some t->TPr (FcM (ms.map λm=>m.2.1) r.2.2.2) t):∀(l:Nat)(T:Tree Str)(kind:Str),lv T<=l->OfK (Qt ks) T kind->∀(k:Nat)(md:MdT),ms[k]?=some md->md.2.1=kind->∃(r:Tm)(o:Tree Str),rlOf ks ms (k:Int) (match T with | .node n _ _=>n)=some r/\Mk (rlOf ks ms) r (match T with | .node _ m _=>m) T.bs o
 | 0,T,_,h,_,_,_,_,_=>by rw [Zl]at h;lia
 | l+1,.node n mk bs,kind,h,hO,k,md,hk,ek=>by
  simp only [OfK]at hO;obtain⟨r,hr,rfl,aa⟩:=hO;subst ek;obtain⟨j,J,Y⟩:=bZ hr;have L:=aL hk;have M:j<md.2.2.2.2.length:=by rw [hl md L];exact J
  have ab:(Qt ks md.2.1).findIdx? (λx=>decide (x.2.1=r.2.1))=some j:=by
   rw [gE];refine⟨J,by rw [Y];exact bO rfl,λi hi=>?_⟩;simp only [eJ];intro e;have h1:((Qt ks md.2.1).map λr=>r.2.1)[i]?=((Qt ks md.2.1).map λr=>r.2.1)[j]?:=by
    rw [aJ,aJ,aD (show i<(Qt ks md.2.1).length by lia),aD J,Y];exact congrArg some e
   have:=(List.getElem?_inj (by rw [aE];lia) (hn md.2.1)).mp h1;lia
  have ac:rlOf ks ms (k:Int) r.2.1=some md.2.2.2.2[j]:=by
   unfold rlOf;rw [aX,hk];show((Qt ks md.2.1).findIdx? _).bind _=_;rw [ab];exact aD M
  have ht:=hf md L j r md.2.2.2.2[j] (by rw [aD J,Y]) (aD M);obtain⟨o,ho⟩:=VO (rl:=rlOf ks ms) (mark:=mk) (bs:=bs) (λa b ad=>by
   obtain⟨k2,j2,z,rfl,rfl,G,e2⟩:=ad;obtain⟨T2,f1,f2⟩:=Ww aa e2;rw [aJ]at G;cases Z:ms[k2]? with
   | none=>rw [Z]at G;cases G
   | some U=>
    rw [Z]at G;have G:U.2.1=z:=aI G;rw [Zl]at h;have ae:=Zt (aL f1);have hb:lvs (Tree.bs (.node r.2.1 mk bs))=lvs bs:=rfl;obtain⟨r2,o2,g1,g2⟩:=LR hn hl hf l T2 z (5:) f2 k2 U Z G;obtain⟨n2,m2,b2⟩:=T2;exact⟨n2,m2,b2,r2,o2,by rw [aX];exact f1,g1,g2⟩) ht
  exact⟨_,o,ac,ho⟩
end K51
namespace K41
open K51
open PySem L2 TM TT ST K9 K11
theorem Ym{ks:List KdT}(h:(ks.map λk=>k.2.1).Nodup){kd:KdT}(hk:kd∈ks):Qt ks kd.2.1=kd.2.2.2:=by
 unfold Qt;have J:ks.find? (λk=>decide (k.2.1=kd.2.1))=some kd:=by
  cases G:ks.find? (λk=>decide (k.2.1=kd.2.1))with
  | none=>exact absurd (List.find?_eq_none.mp G kd hk) (17:)
  | some U=>
   have L:=gI G;have M:=List.find?_some G;rw [ZT h L hk (bJ M)]
 rw [J];rfl
theorem X6{d:Nat}:∀{ts:List (Tree Str)},(∀t∈ts,lv t<=d)->lvs ts<=d
 | [],_=>by simp [lvs]
 | t::r,h=>by
  have h1:=h t aQ;have h2:=X6 (ts:=r) λu G=>h u (aV _ G);simp only [lvs];lia
abbrev kns(ms:List MdT):List Str:=ms.map λm=>m.2.1
structure FtM(ks:List KdT)(kn:List Str)(m:MdT):Prop where
 l:m.2.2.2.2.length=(Qt ks m.2.1).length
 k:∃kd∈ks,kd.2.1=m.2.1
 r:∀(j:Nat)(r:PNx)(t:Tm),(Qt ks m.2.1)[j]?=some r->m.2.2.2.2[j]?=some t->TPr (Fc kn r.2.2.2) t
structure Fits(ks:List KdT)(st:Tm)(ms:List MdT):Prop where
 s:∀k0,ks[0]?=some k0->TPr (Fc (kns ms) [k0.2.1]) st
 m:∀m∈ms,FtM ks (kns ms) m
theorem T51.fits{ks:List KdT}{st:Tm}(hW:WD ks)(h:T51 ks st ms):Fits ks st ms:=⟨h.sf,λm L=>by
 obtain⟨M,a,b,c⟩:=h.ft m L;obtain⟨G,U,Y,Z,_⟩:=h.md m L;have e:G=M:=ZT hW.ok.nd U a (by rw [b,Y]);subst e;have J:=Ym hW.ok.nd a;rw [b]at J;exact⟨by rw [J];exact Z,⟨G,a,b⟩,λj r t h1 h2=>c j r t (by rw [J]at h1;exact h1) h2⟩⟩
theorem G8{k:Nat}{z:Str}(h:(kns ms)[k]?=some z):∃m,ms[k]?=some m/\m.2.1=z:=by
 rw [aJ]at h;cases e:ms[k]? with
 | none=>rw [e]at h;cases h
 | some m=>rw [e]at h;exact⟨m,rfl,aI h⟩
end K41
namespace K41c
open K41
open PySem L2 TM TT ST K9 K11
theorem tu_copy{ks:List KdT}(e1:hs.map Z1=ks.map Z1)(e2:ms'.map MdT.md=ms.map MdT.md)(h:TuOk ks ms):TuOk hs ms':=by
 have Z:ms'.length=ms.length:=by have:=congrArg List.length e2;simpa using this
 have aa:hs.length=ks.length:=by have:=congrArg List.length e1;simpa using this
 have gm:∀G∈ms',∃m∈ms,m.2.1=G.2.1/\m.2.2.2.2=G.2.2.2.2:=λG J=>by
  have z:G.md∈ms.map MdT.md:=by rw [<-e2];exact aK.mpr ⟨G,J,rfl⟩
  obtain⟨m,M,e⟩:=aK.mp z;have f1:=congrArg Prod.fst e;have f2:=congrArg Prod.snd e;exact⟨m,M,f1,f2⟩
 have gk:∀k'∈hs,∃k∈ks,k.2.1=k'.2.1/\k.2.2.2=k'.2.2.2:=λk' L=>by
  have z:Z1 k'∈ks.map Z1:=by rw [<-e1];exact aK.mpr ⟨k',L,rfl⟩
  obtain⟨k,U,e⟩:=aK.mp z;have f1:=congrArg Prod.fst e;have f2:=congrArg Prod.snd e;exact⟨k,U,f1,f2⟩
 have ab:∀k∈ks,∃k'∈hs,k'.2.1=k.2.1/\k'.2.2.2=k.2.2.2:=λk U=>by
  have z:Z1 k∈hs.map Z1:=by rw [e1];exact aK.mpr ⟨k,U,rfl⟩
  obtain⟨k',L,e⟩:=aK.mp z;have f1:=congrArg Prod.fst e;have f2:=congrArg Prod.snd e;exact⟨k',L,f1,f2⟩
 refine⟨⟨?_,by rw [aa];exact h.wo.len,λk' L=>?_⟩,⟨by rw [Z];exact h.mo.four,λG J=>?_,λG J t Y=>?_⟩,λG J=>?_⟩
 .have z:(hs.map λk=>k.2.1)=ks.map λk=>k.2.1:=by
   have:=congrArg (λl=>l.map Prod.fst) e1;simp only [bY]at this;exact this
  rw [z];exact h.wo.nd
 .obtain⟨k,U,_,e⟩:=gk k' L;rw [<-e];exact h.wo.rows k U
 .obtain⟨m,M,_,e⟩:=gm G J;rw [<-e];exact h.mo.ten m M
 .obtain⟨m,M,_,e⟩:=gm G J;rw [<-e]at Y;rw [Z];exact h.mo.tm m M t Y
 .obtain⟨m,M,e3,e4⟩:=gm G J;obtain⟨kd,U,h1,h2,h3,h4⟩:=h.kd m M;obtain⟨k',L,e5,e6⟩:=ab kd U;refine⟨k',L,by rw [e5,h1,e3],by rw [e6,<-e4];exact h2,by rw [e6];exact h3,λj r t hr Y=>?_⟩;rw [e6]at hr;rw [<-e4]at Y;exact h4 j r t hr Y
end K41c
namespace K41
open PySem L2 TM TT ST K9 K11
mutual
theorem TPr.cl{p:Int->Int->Prop}:∀{t:Tm},K51.TPr p t->CPr p t
 | .node (.call m b) z bs,h,c,G=>by
  simp only [K51.TPr]at h;obtain⟨h1,rfl⟩:=h;simp only [cls,lcl,Q7,dO,bM]at G;rw [G];exact h1
 | .node (.put n k a) z bs,h,c,G=>by
  simp only [K51.TPr]at h;simp only [cls,lcl,dG]at G;exact TPrs.cl h.2.2 c G
theorem TPrs.cl{p:Int->Int->Prop}:∀{ts:List Tm},K51.TPrs p ts->∀c∈Q7 ts,p c.1 c.2
 | [],_,c,hc=>by simp [Q7]at hc
 | t::r,h,c,hc=>by
  simp only [K51.TPrs]at h;simp only [Q7,aY]at hc;rcases hc with hc | hc
  .exact TPr.cl h.1 c hc
  .exact TPrs.cl h.2 c hc
end
mutual
theorem TPr.dr{p:Int->Int->Prop}{cs:List (Int×Int)}:∀{t:Tm},K51.TPr p t->(∀c∈cls t,c∈cs)->TDr cs t
 | .node (.call m b) z bs,h,G=>by
  simp only [TDr];exact G (m,b) (by simp [cls,lcl])
 | .node (.put n k a) z bs,h,G=>by
  simp only [K51.TPr]at h;simp only [TDr];exact⟨h.1,h.2.1,TPrs.dr h.2.2 λc J=>G c (by simp only [cls,lcl,dG];exact J)⟩
theorem TPrs.dr{p:Int->Int->Prop}{cs:List (Int×Int)}:∀{ts:List Tm},K51.TPrs p ts->(∀c∈Q7 ts,c∈cs)->Xh cs ts
 | [],_,_=>by simp only [Xh]
 | t::r,h,hc=>by
  simp only [K51.TPrs]at h;simp only [Xh];exact⟨TPr.dr h.1 λc G=>hc c (by simp only [Q7];exact cT _ G),TPrs.dr h.2 λc G=>hc c (by simp only [Q7];exact cB _ G)⟩
end
theorem SE{t:Tm}(h:K51.TPr (Fc kn []) t):cls t=[]:=by
 cases e:cls t with
 | nil=>rfl
 | cons c r=>
  obtain⟨k,j,z,_,_,_,h2⟩:=TPr.cl h c (by rw [e];exact aQ);cases h2
theorem CH{ks:List KdT}{st:Tm}(hW:WD ks)(h:T51 ks st ms):K41c.TuOk ks ms:=by
 refine⟨hW.ok,⟨by have:=h.three;lia,λm G=>?_,λm G t U=>?_⟩,λm G=>?_⟩
 .obtain⟨M,J,_,e,_⟩:=h.md m G;have:=hW.rws M J;lia
 .obtain⟨M,J,_,e,Y⟩:=h.md m G;obtain⟨h4,h5⟩:=Y t U;have:sz t<=9:=h5.2;refine⟨⟨cls t,TPr.dr h4 λc Z=>Z⟩,h5.1,by lia,λc Z=>?_⟩;obtain⟨c0,c1⟩:=TPr.cl h4 c Z;exact⟨c0,by lia⟩
 .obtain⟨M,J,e,Y⟩:=h.ft m G;obtain⟨L,aa,e',hl,_⟩:=h.md m G;have:L=M:=ZT hW.ok.nd aa J (by rw [e,e']);subst this;refine⟨L,J,e,hl,(hW.kx L J).2,λj r t hr U hb=>?_⟩;have:=Y j r t hr U;rw [hb]at this;exact SE this
theorem GP:∀{p:List Nat}{s u:Stp},stA s p=some u->p.length+ST.sl u<=ST.sl s
 | [],s,u,h=>by
  rw [Zj]at h;rw [aI h];simp
 | i::p,.op,u,h=>by simp [stA]at h
 | i::p,.put n m ps,u,h=>by
  simp only [stA]at h;obtain⟨x,G,J⟩:=b_.mp h;have h1:=GP J;have h2:=LZ (aL G);simp only [bK,ST.sl];lia
theorem GX{m b:Int}:∀{q:List Nat}{s:Stp}{p:List Nat},stA s q=some .op->((m,p++q),b)∈clX (stX m b p s)
 | [],s,p,h=>by
  rw [Zj]at h;rw [aI h,dO];simp [stX,clX]
 | i::q,.op,p,h=>by simp [stA]at h
 | i::q,.put n a ps,p,h=>by
  simp only [stA]at h;obtain⟨x,G,J⟩:=b_.mp h;simp only [stX,clX];have h1:=GX (m:=m) (b:=b) (p:=p++[i]) J;refine YH (t:=stX m b (p++[i]) x) (aL (i:=i) ?_) (by rw [e_]at h1;exact h1);rw [JL,G,fR];rfl
theorem R8{ps:List Ky}{d:Ky}(h:ps.Nodup):(Yg ps d).Nodup:=by
 unfold Yg
 by_cases e:d∈ps
 .rw [aH e];exact h
 .rw [aG e];rw [fH];refine⟨h,by simp,λa G b J=>?_⟩;rw [bM.mp J];exact λz=>e (z ▸ G)
theorem JD:∀{l ps:List Ky},ps.Nodup->(QC ps l).Nodup
 | [],ps,h=>h
 | d::l,ps,h=>JD (l:=l) (R8 h)
theorem LJ:∀{F m:Nat}{ps:List Ky},ps.Nodup->(Yc mk F m ps).Nodup
 | 0,_,_,h=>h
 | F+1,m,ps,h=>by
  rw [Yc];cases ps[m]? with
  | none=>exact h
  | some p=>exact LJ (JD h)
theorem Wy{G:Ky->Prop}(hc:∀q,G q->∀c∈clL (mk q).2,G c):∀{F m:Nat}{ps:List Ky},(∀q∈ps,G q)->∀q∈Yc mk F m ps,G q
 | 0,_,_,h=>h
 | F+1,m,ps,h=>by
  rw [Yc];cases e:ps[m]? with
  | none=>exact h
  | some p=>
   refine Wy hc λq J=>?_;rcases Zf.mp J with z | z
   .exact h q z
   .exact hc p (h p (aL e)) q z
structure Hy(ds:List Md)(S:List Stp):Prop where
 len:S.length=ds.length
 three:ds.length<=3
 bel:∀(m:Nat) d r,ds[m]?=some d->r∈d.2->Bel (lookS S (m:Int)) (rsT (lookS S) r)
 big:∀m,ssz (lookS S m)<=18/\ST.sl (lookS S m)<=4
 ru:∀d∈ds,d.2.length<=100/\∀r∈d.2,Lz 4 r/\CallsIn ds.length r
def mkE(ds:List Md)(S:List Stp):MkP:=λq=>match ds[q.1.toNat]? with
 | some d=>(d.1,d.2.map λr=>(eT (lookS S) r q.2).getD (.node (.call q 0) 0 []))
 | none=>("",[])
structure Gd(ds:List Md)(S:List Stp)(q:Ky):Prop where
 m0:0<=q.1
 d:∃d,ds[q.1.toNat]?=some d
 o:stA (lookS S q.1) q.2=some .op
section
variable{ds:List Md}{S:List Stp}
theorem Gd.rule(y:Hy ds S){q:Ky}(g:Gd ds S q){d:Md}(hd:ds[q.1.toNat]?=some d){r:Tm}(hr:r∈d.2):∃x,eT (lookS S) r q.2=some x:=by
 have G:=y.bel _ d r hd hr;rw [ef g.m0]at G;obtain⟨u,J⟩:=Pw G g.o;exact SY J
theorem Tg(y:Hy ds S){t:Tm}(hc:CallsIn ds.length t){x:TX}{p:List Nat}(hx:eT (lookS S) t p=some x):∀c∈clX x,Gd ds S c.1:=λc G=>by
 obtain⟨h1,h2⟩:=Nh hx c G;obtain⟨J,L⟩:=hc _ h1;exact⟨J,⟨_,aD L⟩,h2⟩
theorem Gd.next(y:Hy ds S)(g:Gd ds S q):∀c∈clL (mkE ds S q).2,Gd ds S c:=λc M=>by
 obtain⟨d,L⟩:=g.d;unfold clL at M;obtain⟨Y,G,rfl⟩:=aK.mp M;unfold mkE at G;rw [L]at G;obtain⟨x,Z,J⟩:=Vi G;obtain⟨r,U,rfl⟩:=aK.mp Z;obtain⟨x,ex⟩:=g.rule y L U;rw [ex]at J;exact Tg y (((y.ru d (aL L)).2 r U).2) ex Y J
theorem Au(y:Hy ds S)(hn:qs.Nodup)(h:∀q∈qs,Gd ds S q):qs.length<=54:=by
 have h1:qs.length<=((List.range ds.length).flatMap λ(m:Nat)=>(clX (stX (m:Int) 0 [] (lookS S (m:Int)))).map (·.1)).length:=UP hn λq J=>by
  obtain⟨m0,⟨d,L⟩,o⟩:=h q J;have M:=(aU.mp L).1;refine List.mem_flatMap.mpr ⟨q.1.toNat,cN.mpr M,aK.mpr ⟨(q,0),?_,rfl⟩⟩;have h2:=GX (m:=q.1) (b:=0) (p:=[]) o;rw [ef m0];exact h2
 have h2:∀l:List Nat,(l.flatMap λ(m:Nat)=>(clX (stX (m:Int) 0 [] (lookS S (m:Int)))).map (·.1)).length<=l.length*18:=λl=>by
  induction l with
  | nil=>simp
  | cons a r U=>
   rw [List.flatMap_cons,bH,aE,bK,Nat.succ_mul];have G:=XX (stX (a:Int) 0 [] (lookS S (a:Int)));have Y:=(Wr (a:Int) 0 (lookS S (a:Int)) []).1;have Z:=(y.big (a:Int)).1;lia
 have G:=h2 (List.range ds.length);rw [eI]at G;have:=y.three;lia
theorem NO(y:Hy ds S)(g:Gd ds S q){d:Md}(hd:ds[q.1.toNat]?=some d):(mkE ds S q).1=d.1/\SM S q.2 d.2 (mkE ds S q).2:=by
 have e:mkE ds S q=(d.1,d.2.map λr=>(eT (lookS S) r q.2).getD (.node (.call q 0) 0 [])):=by unfold mkE;rw [hd]
 rw [e];refine⟨rfl,by simp,λi t x J G=>?_⟩;have L:=aL J;obtain⟨h1,h2⟩:=(y.ru d (aL hd)).2 t L;obtain⟨M,ex⟩:=g.rule y hd L;rw [aJ,J]at G;have G:(eT (lookS S) t q.2).getD (.node (.call q 0) 0 [])=x:=aI G;rw [ex]at G;have G:M=x:=G;subst G;have Z:=WJ (A:=18) (B:=4) y.big (11:) (11:) ex;have U:sz t<=9:=h1.2;have h5:sz t*18<=9*18:=fE _ U;have Y:=h1.1;exact⟨Y,by rw [y.len];exact h2,ex,by lia,by lia⟩
theorem Ca(y:Hy ds S){st:Tm}(hs:Lz 3 st)(hc:CallsIn ds.length st)(hm:ms.map MdT.md=ds):∃qs,Eb S st ms (sin (lookS S) st) (mkE ds S) qs/\∀q∈qs,Gd ds S q:=by
 have J:=ZN (lookS S) st;have g0:∀q∈QC [] ((clX (sin (lookS S) st)).map (·.1)),Gd ds S q:=λq L=>by
  rcases Zf.mp L with z | z
  .cases z
  .obtain⟨c,Y,rfl⟩:=aK.mp z;exact Tg y hc J c Y
 have M:∀q∈Yc (mkE ds S) 201 0 (QC [] ((clX (sin (lookS S) st)).map (·.1))),Gd ds S q:=Wy (λq g=>g.next y) g0;have hn:(Yc (mkE ds S) 201 0 (QC [] ((clX (sin (lookS S) st)).map (·.1)))).Nodup:=LJ (JD fh);have h3:=WJ (A:=18) (B:=4) y.big (11:) (11:) J;have h4:sz st<=7:=hs.2;have h5:sz st*18<=7*18:=fE _ h4;have h6:=hs.1;refine⟨_,⟨⟨by lia,by rw [y.len];exact hc,J,by lia,by lia⟩,rfl,by have:=Au y hn M;lia,λq L=>?_⟩,M⟩;have g:=M q L;obtain⟨d,U⟩:=g.d;have G:=U;rw [<-hm,aJ]at G;obtain⟨md,Z,rfl⟩:=cZ.mp G;obtain⟨a1,a2⟩:=NO y g U;have hl:=GP g.o;have hb:=(y.big q.1).2;exact⟨q.1.toNat,q.2,md,by rw [ef g.m0],by lia,Z,a1,(y.ru _ (aL U)).1,a2⟩
end
theorem OL{rl:Rls}(ok:JH rl)(m:Int):∀n,Bel (lookS (D rl n) m) (lookS (D rl 0) m)
 | 0=>Bel.refl _
 | n+1=>(Xo ok n m).trans (OL ok m n)
mutual
theorem Nc:∀t:Tm,ssz (rsT (λ_=>Stp.op) t)<=2*sz t
 | .node (.call m b) _ bs=>by simp only [rsT,ssz,sz];lia
 | .node (.put n k a) _ bs=>by
  simp only [rsT,sz];have:=Lf bs;cases k with
  | true=>simp only [cD,ssz];lia
  | false=>simp only [cE,bU,ssz];lia
theorem Lf:∀ts:List Tm,ZM (ZU (λ_=>Stp.op) ts)<=2*szs ts
 | []=>by simp only [ZU,ZM,szs];lia
 | t::r=>by
  simp only [ZU,ZM,szs];have:=Nc t;have:=Lf r;lia
end
theorem BQ(T:K41c.TuOk hs ms)(h3:ms.length<=3)(hz:∀m∈ms,∀t∈m.2.2.2.2,Lz 4 t)(hD:D (rlOf hs ms) (n+1)=D (rlOf hs ms) n):Hy (ms.map MdT.md) (D (rlOf hs ms) n):=by
 have Y:(D (rlOf hs ms) n).length=ms.length:=by rw [Uf];unfold rlOf;rw [aE]
 have Z:∀(m:Nat) md,ms[m]?=some md->(rlOf hs ms)[m]?=some (Q3 (Qt hs md.2.1) md.2.2.2.2):=λm md e=>by unfold rlOf;rw [aJ,e];rfl
 refine⟨by rw [Y,aE],by rw [aE];exact h3,λm d r L M=>?_,λm=>?_,λd L=>?_⟩
 .rw [aJ]at L;obtain⟨md,G,rfl⟩:=cZ.mp L;obtain⟨j,hj,ej⟩:=bZ (show r∈md.2.2.2.2 from M);have hl:=(T.rows (aL G)).1;have hb:=UI (n:=n) (Z m md G);rw [hD]at hb;rw [hb];have aa:j<(Qt hs md.2.1).length:=by lia
  have:=(K41c.rls_at hl (j:=j) (b:=(Qt hs md.2.1)[j].2.2.2.isEmpty) (t:=r)).mpr ⟨by rw [aD hj,ej],_,aD aa,rfl⟩;exact Yr (aK.mpr ⟨_,aL this,rfl⟩)
 .by_cases hm:m.toNat<ms.length
  .have G:=aD hm;have J:=aO hm;generalize ms[m.toNat]=md at G J;obtain⟨⟨r0,U,ab⟩,_⟩:=T.rl.ok _ (aL (Z _ md G));have b0:=OL T.rl.ok m n;have e0:lookS (D (rlOf hs ms) 0) m=Jb (Q3 (Qt hs md.2.1) md.2.2.2.2):=by
    simp only [D];rw [ZD,Z _ md G];rfl
   rw [e0]at b0;have b1:Bel (Jb (Q3 (Qt hs md.2.1) md.2.2.2.2)) (rsT (λ_=>Stp.op) r0.2):=Yr (aK.mpr ⟨r0,dB.mpr ⟨U,ab⟩,rfl⟩);have s1:=(LY (b0.trans b1)).1;obtain⟨j,hj,ej⟩:=bZ U;obtain⟨b,t⟩:=r0;obtain⟨g1,_⟩:=(K41c.rls_at (T.rows J).1).mp ((aD hj).trans (congrArg some ej));have z1:sz t<=9:=(hz md J t (aL g1)).2;have s2:=Nc t;refine⟨by have ac:ssz (lookS (D (rlOf hs ms) n) m)<=ssz (rsT (λ_=>Stp.op) t):=s1;lia,?_⟩;have es:(D (rlOf hs ms) n)[m.toNat]?=some (lookS (D (rlOf hs ms) n) m):=by
    unfold lookS;rw [aD (by rw [Y];exact hm)];rfl
   exact(AO T.rl.ok (K41c.leaf_ok T) n _ (aL es)).2
  .have:lookS (D (rlOf hs ms) n) m=.op:=by
    unfold lookS;rw [dY (by rw [Y];lia)];rfl
   rw [this];simp only [ssz,ST.sl];lia
 .obtain⟨md,G,rfl⟩:=aK.mp L;refine⟨by have:=T.mo.ten md G;show md.2.2.2.2.length<=100;lia,λr M=>⟨hz md G r M,?_⟩⟩;rw [aE];exact(T.mo.tm md G r M).2.2.2
end K41
namespace K41
open K51
open PySem L2 TM TT ST K9 K11
theorem XG{t:Tree Str}{k:Str}(h2:OfK rw t k):∀{bs:List (Tree Str)}{ks:List Str},Y2 rw bs ks->Y2 rw (bs++[t]) (ks++[k])
 | [],ks,h=>by
  simp only [Y2]at h;rw [h];simp only [dG,Y2];exact⟨k,[],rfl,h2,rfl⟩
 | b::r,ks,h=>by
  simp only [Y2]at h;obtain⟨k',G,rfl,J,L⟩:=h;simp only [fb,Y2];exact⟨k',G++[k],rfl,J,XG h2 L⟩
theorem rdI{K:Fg}:∀ns:List Int,RdAll K H (NI ns) (ns.map PyData.int)
 | []=>.nil
 | _::r=>.cons (.int _) (rdI r)
theorem Bh:∀ns:List Int,PyData.canLayAll0 (ns.map PyData.int)=true
 | []=>by simp [PyData.canLayAll0]
 | _::r=>by simp [PyData.canLayAll0,PyData.canLay0,Bh r]
theorem rdS{K:Fg}:∀ns:List Str,RdAll K H (ns.map V.str) (ns.map PyData.str)
 | []=>.nil
 | _::r=>.cons (.str _) (rdS r)
theorem Cp:∀ns:List Str,(∀x∈ns,PyData.strOk x=true)->PyData.canLayAll0 (ns.map PyData.str)=true
 | [],_=>by simp [PyData.canLayAll0]
 | x::r,h=>by
  have h1:=h x aQ;have h2:=Cp r λy G=>h y (aV _ G);simp only [aR,PyData.canLayAll0,PyData.canLay0,h1,h2,cJ]
theorem C4(ns:List Str):PyData.eqv (.tuple (ns.map PyData.str)) (.tuple [])=ns.isEmpty:=by
 cases ns<;>simp [PyData.eqv,PyData.eqvAll]
def Wo(K:Fg)(n:Nat):Sp:=λvs H Q _=>∃(H0:Hp)(wd d:Addr)(ks:List KdT)(kd:KdT)(dp:Nat)(xs:List Int),vs=[.ref wd,.str kd.2.1,.ref d,.int (dp:Int)]/\WoodAt K H0 wd ks/\WD ks/\kd∈ks/\H0 d=none/\Same H0 H/\H d=some (.lst (NI xs))/\dp<n/\dp<=3/\
 ∀(v:V)(T:Tree Str)(xs':List Int)(H':Hp),SameD d H H'->H' d=some (.lst (NI xs'))->TrV K H' v T->OfK (Qt ks) T kd.2.1->lv T<=dp+1->Q v H'
def C2(kd:KdT)(i:Nat)(rs:List PNx):Prop:=(∀r∈rs,r∈kd.2.2.2/\r.2.2.2=[])/\((∃r∈kd.2.2.2.take i,r.2.2.2=[])->rs≠[])/\rs.length<=i
section
variable{K:Fg}
theorem Y5:FnScope ["_law_wood_here","_law_kind","_law_cells","_law_deep","_law_rows_here","_law_x","_law_name","_law_branches","_law_mark"] ["_law_wood_here","_law_kind","_law_cells","_law_deep"] (defScope WA):=(0:)
theorem Sd(F:Fun K "_law_tree" "_law_tree" WA f fd)(G:Gm mg)(RR:Fn P w K mg base 1 "_law_rows" ["_law_wood_here","_law_kind"] (Yo K))(R:Fn P w K mg base (n+1) "_law_tree" ["_law_wood_here","_law_kind","_law_cells","_law_deep"] (Wo K n)):FnOk P w K mg base CX0 (n+2) f fd ["_law_wood_here","_law_kind","_law_cells","_law_deep"] (Wo K (n+1)):=by
 refine F.ok Y5 (7:) (λa4 A outer s H vs Q E hr h=>?_)
 .obtain⟨H0,wd,d,ks,J,dp,xs,rfl,_⟩:=h
  rfl
 obtain⟨H0,wd,d,ks,J,dp,xs,rfl,af,hW,M,ag,g0,hd,bn,hd3,q⟩:=h;refine⟨_,(Qe (Qv (i:=4) Y5.nd rfl (15:) (Qp RR hr (Qa (pv 0) (Qa (pv 1) Qc)) (5:)))
  (Qe (QK (T6 (PW.pt (pw_or (Qu ZG (pv 3) Qf (Qx _)) (pw_or1 (Qu Wu (pv 2) (Zm Qc) (Qx _)))))) (Qi (Ql (QB (Qa (Qk QE (QM (CompG.many (xs:=["_law_name","_law_branches"]) (caps:=[]) (cap:=[]) (cs:=[]) rfl rfl (1:) (1:) (1:) (1:) (1:) (1:) rfl rfl rfl) rfl (QH (pv 4)) (U7 (CompG.many (xs:=["_law_name","_law_branches"]) (caps:=[]) (cap:=[]) (cs:=[]) rfl rfl (1:) (1:) (1:) (1:) (1:) (1:) rfl rfl rfl) rfl) (λ_ _ _ _=>Xa (Qu (r:=AK K (A.deeper (PyProof.Rows.envOfC "_law_tree" (defScope WA) s.heap.objs.size f a4)) false) Wu (pv 1) (QB Qc) (Qx _))) (λ_ _ _ _=>pv 0)) Qf (λ_ _=>rfl)) (Qa (Qf) (Qa (QB Qc) Qc)))))) Qs)
  (Qe (Qv (i:=5) Y5.nd rfl (15:) (Pe cR PySem.F.slot_list_pop PySem.F.type_list_pop V6 (pv 2)))
  (Qe (X9 (Qk QE (pv 4) (QD ZP (pv 5) (Qn Qm rfl G.len bT (Qa (pv 4) Qc))) (λ_ _=>rfl)) (Zd rfl (Qr (Qo (i:=6) Y5.nd rfl (15:)) (Qr (Qo (i:=7) Y5.nd rfl (15:)) QZ))))
  (Qe (Qv (i:=8) Y5.nd rfl (15:) (QD XY (QD ZP (QD Z7 (pv 5) Qf) Qf) Qf))
  (Qe (Ya (QK (Qu ZG (QD ZP (QD Z7 (pv 5) Qf) Qf) Qf (Qx _)) (Qi (Qv (i:=8) Y5.nd rfl (15:) (QD XY (QD ZP (QD Z7 (pv 5) Qf) (QD UV Qf (QD VF Qf Qf))) (QD VF Qf Qf)))) Qs))
  (Qi (Ql (QB (Qa (pv 6) (Qa (pv 8) (Qa (QO QV rfl G.tup cS (Qa (QM (CompG.many (xs:=["_law_other"]) (caps:=["_law_cells","_law_deep","_law_wood_here"]) (cap:=[2,3,0]) (cs:=[_,_,_]) rfl rfl (1:) (1:) (1:) (1:) (1:) (1:) rfl rfl rfl) rfl (Yu (pv 7)) (YR (CompG.many (xs:=["_law_other"]) (caps:=["_law_cells","_law_deep","_law_wood_here"]) (cap:=[2,3,0]) (cs:=[_,_,_]) rfl rfl (1:) (1:) (1:) (1:) (1:) (1:) rfl rfl rfl)) (λ_ _ _ _=>Ze) (λ_ _ _ _=>Qp R hr (Qa (pv 3) (Qa (pv 0) (Qa (pv 1) (Qa (QD XY (pv 2) Qf) Qc)))) (4:))) Qc)) Qc)))))))))))),?_⟩
 refine L2.let6 ?_
 intros
 have hw:=af.same g0;have er:=Ym hW.ok.nd M;have ro:=hW.ok.rows J M;refine⟨_,rfl,_,rfl,wd,ks,J,rfl,hw,hW.ok.nd,M,?_⟩;obtain⟨w1,w2⟩:=hw.2 J M;refine⟨λb H'=>Same H H'/\(b=false->dp≠0/\xs≠[]),?_,?_⟩
 .refine⟨_,rfl,rfl,_,rfl,MD (λhc=>?_) (λhc=>?_)⟩
  .exact⟨Same.refl _,λz=>by cases z⟩
  have as:dp≠0:=λz=>by
   subst z;exact absurd hc (11:)
  refine⟨_,rfl,(by show 0<=sizeLine;decide),λp hp=>?_⟩;have ge:=Qd hp (.lst []);refine⟨.list (xs.map PyData.int),.list [],.lst (SqL.of (ge _ _ hd)) (rdI xs),.lst (SqL.of Qb) .nil,by simp only [PyData.canLay0];exact Bh xs,by decide,hr.fit (bX (f_ _ _) (by simp [PyData.depth,PyData.depthAll])),_,rfl,ge,λz=>⟨as,λe=>?_⟩⟩;rw [e]at z;exact absurd z (11:)
 rintro b H1 ⟨g1,hb⟩;cases b with
 | true=>
  refine Q4 ?_;have bo:=w2.1;refine⟨_,rfl,J.2.2.1,rfl,⟨_,g1.seq w2.1⟩,λacc L=>?_⟩;refine YE (K:=K) (xs:=J.2.2.2.map λt=>V.ref t.1) (cs:=[]) (λi ys H'=>∃rs:List PNx,ys=rs.map (λr=>V.str r.2.1)/\C2 J i rs/\H' acc=some (.lst ys)/\Same H1 H')
   ⟨[],rfl,⟨λr hr=>(nomatch hr),λ⟨r,h,_⟩=>by simp at h,aZ _⟩,Qb,Qd L _⟩ ?_ ?_ ?_
  .rintro i ys H' _ ⟨_,_,_,_,g⟩;exact(g1.trans g).seq w2.1
  .rintro i x ys H' hi hx ⟨rs,rfl,hB,Y,g⟩;have ah:i<J.2.2.2.length:=by simpa using hi
   obtain rfl:x=.ref J.2.2.2[i].1:=by
    rw [aJ,aD ah]at hx;exact(aI hx).symm
   have U:=aO ah;obtain⟨r1,r2⟩:=(w2.2 _ U).same (g1.trans g);refine⟨J.2.2.2[i].1,_,_,rfl,r1,?_⟩;refine⟨_,rfl,(by show 0<=sizeLine;decide),λpe ai=>?_⟩;have ge:=Qd ai (.tup []);have aj:=ge _ _ Y;have bj:rs.length<=10:=by have:=hB.2.2;have:=ro.len;lia
   refine⟨.tuple (J.2.2.2[i].2.2.2.map PyData.str),.tuple [],.tup (ge.seqT r2) (rdS _),.tup (SqT.of Qb) .nil,by simp only [PyData.canLay0];exact Cp _ (ro.kn _ U),by decide,hr.fit (bX (f_ _ _) (by simp [PyData.depth,PyData.depthAll])),_,rfl,?_⟩;rw [aG (11:),C4];have a5:J.2.2.2.take (i+1)=J.2.2.2.take i++[J.2.2.2[i]]:=by rw [bF,aD ah];rfl
   by_cases ac:J.2.2.2[i].2.2.2=[]
   .rw [ac];refine Q4 ⟨_,rfl,?_⟩;refine QA hi aj (by rw [aE];lia) ⟨rs++[J.2.2.2[i]],by simp,⟨λr a6=>?_,λ_ z=>by simp at z,by have:=hB.2.2;simp;lia⟩,Qb,λb u e=>by rw [Qh (Qg e L)];exact ge _ _ (g _ _ e)⟩;rcases aY.mp a6 with z | z
    .exact hB.1 r z
    .rw [bM.mp z];exact⟨U,ac⟩
   .have:(J.2.2.2[i].2.2.2).isEmpty=false:=by
     cases e:J.2.2.2[i].2.2.2 with
     | nil=>exact absurd e ac
     | cons _ _=>rfl
    rw [this];refine QS (ZQ hi ⟨rs,rfl,⟨hB.1,λ⟨r,h1,h2⟩=>?_,by have:=hB.2.2;lia⟩,aj,g.trans ge⟩);rw [a5]at h1;rcases aY.mp h1 with z | z
    .exact hB.2.1 ⟨r,z,h2⟩
    .rw [bM.mp z]at h2;exact absurd h2 ac
  rintro ys H2 ⟨rs,rfl,hB,Y,g2⟩;rw [aE,]at hB;obtain⟨rl,a7,a8⟩:=(hW.kx J M).2;obtain⟨r0,rr,au⟩: ∃r0 rr,rs=r0::rr:=by
   cases rs with
   | nil=>exact absurd rfl (hB.2.1 ⟨rl,by rw [dN];exact a7,a8⟩)
   | cons a b=>exact⟨a,b,rfl⟩
  obtain⟨a9,ba⟩:=hB.1 r0 (by rw [au];exact aQ);refine⟨acc,_,0,.str r0.2.1,rfl,rfl,SqL.of Y,(by rw [au];exact Qq (j:=0) rfl),(by show 0<=sizeLine;decide),λpe ai=>⟨(by show 3<=sizeLine;decide),λpr ak=>?_⟩⟩;have e1:=Qd ai (.tup []);have e2:=Qd ak (.tup [.str r0.2.1,.int 0,.ref pe]);have g3:=(g1.trans g2).trans (e1.trans e2);refine q _ (.node r0.2.1 0 []) xs _ (SameD.of g3) (g3 _ _ hd) (.mk (SqT.of Qb) (e2.seqT (SqT.of Qb)) .nil (17:)) ?_ (by simp [lv,lvs]);simp only [OfK];refine⟨r0,by rw [er];exact a9,rfl,?_⟩;rw [ba];simp only [Y2]
 | false=>
  obtain⟨as,bb⟩:=hb rfl;refine QS ?_;have av:=g1 _ _ hd;obtain⟨x,hx⟩:=Vd (xs:=xs) (by cases xs with | nil=>exact absurd rfl bb | cons _ _=>simp);refine⟨_,rfl,.inl ⟨rfl,_,SqL.of av⟩,d,_,_,rfl,rfl,av,hx,?_⟩;rw [S9];have bp:Dk H d:=⟨xs,hd⟩;have g2:SameD d H (upd H1 d (.lst (NI xs.dropLast))):=λb u hb e=>by rw [Qh hb];exact g1 _ _ e
  have ad:(upd H1 d (.lst (NI xs.dropLast))) d=some (.lst (NI xs.dropLast)):=Qb;generalize upd H1 d (.lst (NI xs.dropLast))=H2 at g2 ad ⊢;generalize xs.dropLast=aw at ad;have ax:=Zs g0 ag g2;obtain⟨w1,w2⟩:=(af.same ax).2 J M;have bq:=(hW.rws J M).1;have a0:(J.2.2.2.map λt=>V.ref t.1).length=J.2.2.2.length:=aE ..;obtain⟨y,hy,a1⟩:=YD (xs:=J.2.2.2.map λt=>V.ref t.1) (k:=((J.2.2.2.map λt=>V.ref t.1).length:Int)) rfl (5:) x;obtain⟨r,U,rfl⟩:=aK.mp hy;obtain⟨r1,r2⟩:=w2.2 r U;refine⟨_,rfl,_,rfl,_,rfl,J.2.2.1,_,rfl,.inl w2.1,_,_,rfl,rfl,(by rw [a0];lia),J.2.2.1,_,_,_,rfl,rfl,w2.1,a1,r.1,_,rfl,r1,rfl,_,_,rfl,_,_,rfl,rfl,?_⟩;refine⟨_,rfl,_,_,rfl,rfl,⟨by decide,by decide⟩,_,_,rfl,rfl,(by show(0:Int)<7;decide),_,_,rfl,rfl,?_⟩;refine CW (λbc H'=>∃mk:Int,bc=[some (.ref wd),some (.str J.2.1),some (.ref d),some (.int (dp:Int)),some (.ref J.2.2.1),some (.int x),some (.str r.2.1),some (.ref r.2.2.1),some (.int mk)]/\H'=H2) ?_ ?_
  .refine⟨_,rfl,_,_,rfl,rfl,⟨by decide,by decide⟩,_,_,rfl,rfl,(by show(0:Int)<2;decide),rfl,_,rfl,MD (λhc=>?_) (λhc=>?_)⟩
   .exact⟨_,rfl,_,_,rfl,rfl,⟨by decide,by decide⟩,_,_,rfl,rfl,⟨by decide,by decide,by decide⟩,_,_,rfl,rfl,.inl ⟨by decide,by decide⟩,_,_,rfl,rfl,(by show(0:Int)<2*10^58;decide),_,_,rfl,rfl,⟨by decide,by decide,by decide⟩,_,_,rfl,rfl,_,rfl,rfl⟩
   .exact⟨_,rfl,rfl⟩
  rintro bc H' ⟨mk,rfl,rfl⟩;refine⟨_,rfl,_,rfl,_,rfl,r.2.2.1,rfl,⟨_,r2⟩,λacc L=>?_⟩;have al:Dk H' d:=⟨aw,ad⟩;have am:=al.ne L;obtain⟨e,he⟩: ∃e,dp=e+1:=⟨dp-1,by lia⟩;have br:=ro.kl r U;refine Y7 (K:=K) (xs:=r.2.2.2.map V.str) (cs:=[some (.ref d),some (.int (dp:Int)),some (.ref wd)]) (tt:=λ_ H Q=>Q true H) (λi ys H3=>∃(ts:List (Tree Str))(Z:List Int),H3 acc=some (.lst ys)/\SameD d H' H3/\H3 d=some (.lst (NI Z))/\TrAll K H3 ys ts/\Y2 (Qt ks) ts (r.2.2.2.take i)/\ys.length=i/\∀t∈ts,lv t<=dp)
   ⟨[],aw,Qb,SameD.new L,by rw [Qh (aW am)];exact ad,.nil,by simp [Y2],rfl,λt ht=>(nomatch ht)⟩ ?_ ?_ ?_
  .rintro i ys H3 _ ⟨ts,Z,_,g,_⟩;exact g.seqT al r2
  .rintro i y ys H3 hi ay ⟨ts,Z,Y,g,ae,an,aa,ao,ap⟩;have aq:i<r.2.2.2.length:=by simpa using hi
   obtain rfl:y=.str r.2.2.2[i]:=by
    rw [aJ,aD aq]at ay;exact(aI ay).symm
   obtain⟨kb,bd,az⟩: ∃kb∈ks,kb.2.1=r.2.2.2[i]:=aK.mp ((hW.kx J M).1 r U _ (aO aq));refine Q4 ⟨_,rfl,_,rfl,_,rfl,_,rfl,_,_,rfl,rfl,H0,wd,d,ks,kb,e,Z,?_,af,hW,bd,ag,Zs ax ag g,ae,by lia,by lia,λv5 T5 be H5 g5 bf bg bh bt=>?_⟩
   .have e1:(dp:Int)-1=(e:Int):=by lia
    show _=[V.ref wd,.str kb.2.1,.ref d,.int (e:Int)];rw [<-e1,az];rfl
   have ab:=g5 _ _ am Y;have a3:Dk H3 d:=⟨Z,ae⟩;refine QA (ys:=ys) hi ab (5:) ⟨ts++[T5],be,Qb,(g.trans g5).put L,by rw [Qh (aW am)];exact bf,?_,?_,by simp [ao],λt ht=>?_⟩
   .exact TrAll.append (an.mono λ_ _ h=>(g5.seqT a3 h).put ab) (.cons (bg.mono λ_ _ h=>h.put ab) .nil)
   .rw [bF,aD aq];exact XG (by rw [<-az];exact bh) aa
   .rcases aY.mp ht with z | z
    .exact ap t z
    .rw [bM.mp z];lia
  rintro ys H3 ⟨ts,Z,Y,g,ae,an,aa,ao,ap⟩;rw [aE]at aa ao;rw [dN]at aa;refine⟨acc,_,rfl,.inl ⟨SqL.of Y,λpt bi=>⟨(by show 3<=sizeLine;decide),λpr ak=>?_⟩⟩⟩;have e1:=Qd bi (.tup ys);have e2:=Qd ak (.tup [.str r.2.1,.int mk,.ref pt]);have ar:=e1.trans e2;refine q _ (.node r.2.1 mk ts) Z _ (g2.trans (g.trans (SameD.of ar))) (ar _ _ ae) (.mk (SqT.of Qb) (e2.seqT (SqT.of Qb)) (an.mono λ_ _=>ar.seqT) (5:)) ?_ ?_
  .simp only [OfK];exact⟨r,by rw [er];exact U,rfl,aa⟩
  .have:=X6 ap;simp only [lv];lia
theorem Va(F:Fun K "_law_tree" "_law_tree" WA f fd)(G:Gm mg)(RR:Fn P w K mg base 1 "_law_rows" ["_law_wood_here","_law_kind"] (Yo K))(b:Binds K fd ["_law_wood_here","_law_kind","_law_cells","_law_deep"] [])(hm:mg "_law_tree"=some (.ref f)):∀n:Nat,FnOk P w K mg base CX0 (n+1) f fd ["_law_wood_here","_law_kind","_law_cells","_law_deep"] (Wo K n)
 | 0=>⟨λvs H Q E h=>by obtain⟨J,L,d,ks,M,U,xs,rfl,_⟩:=h;rfl,λA outer s H Y Z vs Q E _ _ _ _ h=>by obtain⟨J,L,d,ks,M,U,xs,_,_,_,_,_,_,_,h,_⟩:=h;lia⟩
 | n+1=>Sd F G RR ⟨f,fd,Va F G RR b hm n,b,F.kp,hm⟩
end
end K41
namespace L2
open PySem PySem.Spec PyProof.Rows
def eqS(k:Str):Value->Bool
 | .str a _=>(a.cps.toList==k.cps.toList)
 | _=>false
theorem N2:∀{its:List Value},Vals (ns.map V.str) its->∀(i:Nat)(v:Value),its[i]?=some v->∃(a:Str)(t:Tok),ns[i]?=some a/\v=.str a t:=by
 induction ns with
 | nil=>intro its h i v e;cases h;simp at e
 | cons a r G=>
  intro its h i v e;cases h with
  | @cons _ u _ Y h1 h2=>
   obtain⟨t,rfl⟩:=(show ∃t,u=Value.str a t from h1);cases i with
   | zero=>
    have:Value.str a t=v:=by simpa using e
    exact⟨a,t,rfl,this.symm⟩
   | succ i=>
    obtain⟨J,L,M,U⟩:=G h2 i v (by simpa using e);exact⟨J,L,by simpa using M,U⟩
theorem Mz:MtM X "list.index" (λx vs H Q=>∃(l:Addr)(ns:List Str)(k:Str)(j:Nat),x=.ref l/\vs=[.str k]/\H l=some (.lst (ns.map V.str))/\ns.length<=1000/\ns[j]?=some k/\(∀i,i<j->ns[i]?≠some k)/\Q (.int (j:Int)) H):=by
 intro pins s σ H x vs v us Q I rx rv h;obtain⟨l,ns,k,j,rfl,rfl,hH,hz,M,U,q⟩:=h;cases rx;obtain⟨u,rfl,ru⟩:=rv.one;obtain⟨t,rfl⟩:=(show ∃t,u=Value.str k t from ru);obtain⟨z,its,n,r,hl,e⟩:=I.lstM hH;rw [aE]at hl;have J:j<its.length:=by have:=(aU.mp M).1;lia
 have get:∀(i:Nat)(h:i<its.length),∃(a:Str)(t:Tok),ns[i]?=some a/\its[i]=.str a t:=λi h=>N2 r i its[i] (aD h);refine call_meets F.slot_list_index ⟨_,e,rfl⟩ F.entry_list_index (F.args_list_index_2 _ _) (MeetsSeq.list_index l its.toArray n (.str k t) (eqS k) (λy hy=>?_) j (by simpa using J) (5:) ?_ (λi hi Y=>?_)) ⟨e,?_⟩
 .have Z:y∈its:=by simpa using hy
  obtain⟨i,hi,rfl⟩:=List.mem_iff_getElem.mp Z;obtain⟨a,L,_,G⟩:=get i hi;rw [G];exact SeqRoads2.EqGives.str a k L t
 .obtain⟨a,L,h1,G⟩:=get j J;have:a=k:=aI (h1.symm.trans M);simp [List.getElem_toArray,G,eqS,this]
 .have aa:i<its.length:=by simpa using hi
  obtain⟨a,L,h1,G⟩:=get i aa;have:a≠k:=λz=>U i Y (by rw [h1,z]);have h5:(a.cps.toList==k.cps.toList)=false:=by
   rw [dZ];intro z;apply this;obtain⟨a⟩:=a;obtain⟨k⟩:=k;exact congrArg Str.mk (Array.toList_inj.mp z)
  simp only [List.getElem_toArray,G,eqS,h5]
 .exact⟨.int j,H,I.tok _,⟨_,rfl⟩,q⟩
end L2
namespace K41
open K51
open PySem L2 TM TT ST K9 K11
def nam:Tree Str->Str
 | .node n _ _=>n
def mrk:Tree Str->Int
 | .node _ m _=>m
def NN(m b:Int):Prop:=0<=m/\0<=b
def Rn(ks:List KdT)(ms:List MdT):Prop:=∀m n r,rlOf ks ms m n=some r->CPr NN r/\lv r<=8
def U1(K:Fg)(n:Nat):Sp:=λvs H Q _=>∃(tu wd lm bv:Addr)(sv tv:V)(ks:List KdT)(st t:Tm)(ms:List MdT)(mark:Int)(bvs:List V)(bs:List (Tree Str))(o:Tree Str),vs=[.ref tu,tv,.int mark,.ref bv]/\TurnD K H tu wd lm sv ks st ms/\WoodOk ks/\TmV K H tv t/\SqT K H bv bvs/\TrAll K H bvs bs/\K51.Mk (rlOf ks ms) t mark bs o/\CPr NN t/\Rn ks ms/\lv t+10*lvs bs<=n/\
 ∀(v:V)(H':Hp),Same H H'->TrV K H' v o->Q v H'
def SG(K:Fg)(n:Nat):Sp:=λvs H Q _=>∃(tu wd lm:Addr)(sv v:V)(ks:List KdT)(st r:Tm)(ms:List MdT)(m:Int)(T o:Tree Str),vs=[.ref tu,.int m,v]/\TurnD K H tu wd lm sv ks st ms/\WoodOk ks/\TrV K H v T/\0<=m/\rlOf ks ms m (nam T)=some r/\K51.Mk (rlOf ks ms) r (mrk T) T.bs o/\Rn ks ms/\9+10*lvs T.bs<=n/\
 ∀(v:V)(H':Hp),Same H H'->TrV K H' v o->Q v H'
def Db:List G3.S:=[.ite (.cmp .Eq (.ix (.v 1) (.k (.int 0))) (.k (.str "call"))) [.ret (.call 0 [.v 0,.ix (.v 1) (.k (.int 1)),.ix (.v 3) (.ix (.v 1) (.k (.int 2)))])] [],.set 4 (.ix (.v 1) (.k (.int 3))),.cut (.ite (.ix (.v 1) (.k (.int 2))) [.set 4 (.bin .Add (.v 4) (.v 2))] []),.ret (.tup [.ix (.v 1) (.k (.int 1)),.v 4,.call 1 [.comp 2 (.ix (.v 1) (.k (.int 4))) [3,2,0] (.call 2 [.v 3,.v 0,.v 2,.v 1])]])]
def CL(K:Fg)(n:Nat):G3.En:=⟨K,[λ_ vs H Q=>SG K n vs H Q E0,λ_ vs H Q=>G3.rTupOf K vs H Q,λ_ vs H Q=>U1 K n vs H Q E0],[],[],[]⟩
theorem trO{K:Fg}{T:Tree Str}(h:TrV K H v T):∃a b vs,v=.ref a/\SqT K H a [.str (nam T),.int (mrk T),.ref b]/\SqT K H b vs/\TrAll K H vs T.bs/\vs.length<=1000:=by
 cases h with
 | mk h1 h2 G J=>exact⟨_,_,_,rfl,h1,h2,G,J⟩
section
variable{K:Fg}
theorem BM:FnScope ["_law_turning_here","_law_term_here","_law_mark","_law_branches","_law_add"] ["_law_turning_here","_law_term_here","_law_mark","_law_branches"] (defScope Nr):=(0:)
theorem AR(F:Fun K "_law_put" "_law_put" Nr f fd)(G:Gm mg)(RB:Fn P w K mg base (n+3) "_law_by" ["_law_turning_here","_law_mode","_law_tree_here"] (SG K n))(RP:Fn P w K mg base (n+3) "_law_put" ["_law_turning_here","_law_term_here","_law_mark","_law_branches"] (U1 K n)):FnOk P w K mg base CX0 (n+4) f fd ["_law_turning_here","_law_term_here","_law_mark","_law_branches"] (U1 K (n+1)):=by
 refine G3.Fun.okC F BM (CL K n) Db (λX c=>⟨.cons (c.fn RB (4:)) (.cons (c.ty (λ_=>G3.call_tupOf) G.tup cS) (.cons (c.fn RP (4:)) .nil)),.nil,.nil⟩) (7:) (λH vs Q E h=>?_) G.rng
 .obtain⟨tu,wd,lm,bv,sv,tv,ks,st,t,ms,J,aa,bs,o,rfl,_⟩:=h
  rfl
 obtain⟨tu,wd,lm,bv,sv,tv,ks,st,t,ms,J,aa,bs,o,rfl,hT,hO,ag,ab,ac,M,L,hR,hn,q⟩:=h;rcases ZZ ag with⟨ta,m,br,rfl,rfl,h1⟩ | ⟨ta,tb,ad,tn,tk,ae,rfl,ah,h1,h2,h3,h4⟩
 .cases M with
  | @call _ _ _ _ _ _ nm mm cs r _ e1 e2 h3=>
   have L:NN m br:=L (m,br) (by simp [Uh,cls,lcl]);obtain⟨U,Y,Z⟩:=ac.get e1;have ai:=Zt (aL e1);have h4:lv (Tree.node nm mm cs)=1+lvs cs:=by simp only [lv]
   exact .t _ _ h1 rfl<| .t _ _ h1 rfl<| .t _ _ h1 rfl<| .t _ U ab (by rw [<-ef L.2];exact Qq Y) ⟨tu,wd,lm,sv,U,ks,st,r,ms,m,.node nm mm cs,o,rfl,hT,hO,Z,L.1,e2,h3,hR,(by show 9+10*lvs cs<=n;lia),q⟩
 rw [ah]at M L hn;cases M with
 | @put _ _ _ _ _ _ _ us an M=>
  have aj:=L.bs;have am:=h3.length;refine .t _ _ h1 rfl<| .t _ _ h1 rfl<| .c (λak H'=>ak=[some (.ref tu),some (.ref ta),some (.int J),some (.ref bv),some (.int (if tk=true then ae+J else ae))]/\H'=H) ?_ ?_
  .refine .t _ _ h1 rfl ?_;cases tk with
   | true=>exact⟨rfl,rfl⟩
   | false=>exact⟨rfl,rfl⟩
  rintro ak H' ⟨rfl,rfl⟩;refine .t _ _ h1 rfl<| .t _ _ h1 rfl<| .t ad h2<| .s (λi ys H1=>ys.length=i/\TrAll K H1 ys (us.take i)) (λH1 g=>⟨rfl,.nil⟩) (λacc i ys l H1 H2 h _ _ _ k=>⟨h.1,h.2.mono k⟩) (5:) (λi ys H1 hi _ g h=>?_) λp ys H1 g hp h=>?_
  .have hc:=aD (show i<t.bs.length by lia);have ho:=aD (show i<us.length by lia);obtain⟨U,Y,Z⟩:=h3.get hc;have ex:(ad[i]?).getD .non=U:=by rw [Y];rfl
   rw [ex];have ai:=Zt (aL hc);refine⟨tu,wd,lm,bv,sv,U,ks,st,_,ms,J,aa,bs,us[i],rfl,hT.same g,hO,Z.mono λ_ _=>g.seqT,g.seqT ab,ac.mono λ_ _=>g.seqT,M i _ _ hc ho,aj _ (aL hc),hR,?_,λv' H4 g4 al=>⟨g4,by simp [h.1],?_⟩⟩
   .simp only [lv]at hn;lia
   rw [bF,ho];exact TrAll.append (h.2.mono λ_ _=>g4.seqT) (.cons al .nil)
  obtain⟨hl,af⟩:=h;rw [bR (5:)]at af;exact .l ys (SqL.of hp) λpt H2 g2 d2=>⟨λpr H3 g3 d3 _=>q _ H3 (g.trans (g2.trans g3)) (.mk d3 (g3.seqT d2) (af.mono λ_ _=>(g2.trans g3).seqT) (5:))⟩
theorem SB:FnScope ["_law_turning_here","_law_mode","_law_tree_here","_law_kind","_law_rules","_law_names_here"] ["_law_turning_here","_law_mode","_law_tree_here"] (defScope sBy):=(0:)
theorem Bq(F:Fun K "_law_by" "_law_by" sBy f fd)(G:Gm mg)(RR:Fn P w K mg base 1 "_law_rows" ["_law_wood_here","_law_kind"] (Yo K))(RP:Fn P w K mg base (n+3) "_law_put" ["_law_turning_here","_law_term_here","_law_mark","_law_branches"] (U1 K n)):FnOk P w K mg base CX0 (n+4) f fd ["_law_turning_here","_law_mode","_law_tree_here"] (SG K (n+1)):=by
 refine F.ok SB (7:) (λar A outer s H vs Q E hr h=>?_)
 .obtain⟨tu,wd,lm,sv,v,ks,st,r,ms,m,T,o,rfl,_⟩:=h
  rfl
 obtain⟨tu,wd,lm,sv,v,ks,st,r,ms,m,T,o,rfl,U,hO,hv,af,L,hM,hR,hn,q⟩:=h;obtain⟨a,b,vs,rfl,h1,h2,h3,h4⟩:=trO hv;obtain⟨ag,as⟩:=hR _ _ _ L;unfold K51.rlOf at L;cases hm:ms[m.toNat]? with
 | none=>rw [hm]at L;cases L
 | some md=>
 rw [hm]at L;cases hj:(Qt ks md.2.1).findIdx? λr=>decide (r.2.1=nam T)with
 | none=>simp only [dJ,hj]at L;cases L
 | some j=>
 simp only [dJ,hj]at L;obtain⟨Y,ah,ai⟩:=gE.mp hj;obtain⟨J,Z,ek⟩: ∃J∈ks,J.2.1=md.2.1:=by
  unfold Qt at Y;cases e:ks.find? λk=>decide (k.2.1=md.2.1)with
  | none=>rw [e]at Y;simp at Y
  | some J=>exact⟨J,gI e,by have:=List.find?_some e;exact bJ this⟩
 have er:=Ym hO.nd Z;rw [ek]at er;refine⟨_,(Qe (X9 (Qk QE (2:) (pv 1) (λ_ _=>rfl)) (Zd rfl (Qr (Qo (i:=3) SB.nd rfl (15:)) (Qr (Qo (i:=4) SB.nd rfl (15:)) QZ))))
  (Qe (Uq (i:=5) (CompG.many (xs:=["_law_name","_law_branches"]) (caps:=[]) (cap:=[]) (cs:=[]) rfl rfl (1:) (1:) (1:) (1:) (1:) (1:) rfl rfl rfl) rfl (QH (Qp RR hr (Qa (2:) (Qa (pv 3) Qc)) (5:))) (U7 (CompG.many (xs:=["_law_name","_law_branches"]) (caps:=[]) (cap:=[]) (cs:=[]) rfl rfl (1:) (1:) (1:) (1:) (1:) (1:) rfl rfl rfl) rfl) (λ_ _ _ _=>Ze) (λ_ _ _ _=>pv 0) SB.nd rfl rfl)
  (Qi (Ql (Qp RP hr (Qa (pv 0) (Qa (Qk QE (pv 4) (YQ cR PySem.F.slot_list_index PySem.F.type_list_index Mz (pv 5) (Qa (Qk Qj (pv 2) Qf (λ_ _=>rfl)) Qc)) (λ_ _=>rfl)) (Qa (Qk Qj (pv 2) Qf (λ_ _=>rfl)) (Qa (Qk Qj (pv 2) Qf (λ_ _=>rfl)) Qc)))) (4:)))))),?_⟩
 refine L2.let2 ?_
 intros
 have ad:=aL hm;obtain⟨d1,d2,d3⟩:=U.m.2 md ad;have ae:atI (ms.map λm=>V.ref m.1) m=some (.ref md.1):=by
  rw [<-ef af];exact Qq (by rw [aJ,hm];rfl)
 refine⟨_,rfl,tu,_,2,_,rfl,rfl,U.tu,rfl,_,rfl,lm,_,_,_,rfl,rfl,U.m.1,ae,md.1,_,rfl,d1,rfl,_,_,rfl,_,_,rfl,rfl,?_⟩;obtain⟨w1,w2⟩:=U.w.2 J Z;refine⟨_,rfl,tu,_,0,_,rfl,rfl,U.tu,rfl,_,rfl,wd,ks,J,by rw [ek];rfl,U.w,hO.nd,Z,J.2.2.1,rfl,⟨_,w2.1⟩,λacc aa=>?_⟩;have ro:=hO.rows J Z;refine YE (K:=K) (xs:=J.2.2.2.map λt=>V.ref t.1) (cs:=[]) (tt:=λ_ H Q=>Q true H) (te:=ZL 0) (λi ys H'=>ys=((J.2.2.2.map λr=>r.2.1).take i).map V.str/\H' acc=some (.lst ys)/\Same H H') ⟨rfl,Qb,Qd aa _⟩ ?_ ?_ ?_
 .rintro i ys H' _ ⟨_,_,g⟩;exact g.seq w2.1
 .rintro i x ys H' hi hx ⟨rfl,aj,g⟩;have ab:i<J.2.2.2.length:=by simpa using hi
  obtain rfl:x=.ref J.2.2.2[i].1:=by
   rw [aJ,aD ab]at hx;exact(aI hx).symm
  obtain⟨r1,r2⟩:=(w2.2 _ (aO ab)).same g;have:=ro.len;refine⟨J.2.2.2[i].1,_,_,rfl,r1,Q4 ⟨_,rfl,?_⟩⟩;refine QA hi aj (by rw [aE,cM,aE];lia) ⟨?_,Qb,λb u e=>by rw [Qh (Qg e aa)];exact g _ _ e⟩;rw [bF,aJ,aD ab,aT];rfl
 rintro ys H2 ⟨rfl,M,g2⟩;have ak:(J.2.2.2.map λr=>r.2.1).take (J.2.2.2.map λt=>V.ref t.1).length=J.2.2.2.map λr=>r.2.1:=bR (by rw [aE,aE];exact aZ _);rw [ak]at M;have al:=U.same g2;have ac:=g2.seqT h1;have am:(J.2.2.2.map λr=>r.2.1)[j]?=some (nam T):=by
  rw [<-er,aJ,aD Y];exact congrArg some (bJ ah)
 have an:∀i,i<j->(J.2.2.2.map λr=>r.2.1)[i]?≠some (nam T):=λi hi e=>by
  have h5:=ai i hi;rw [<-er,aJ,aD (show i<(Qt ks md.2.1).length by lia)]at e;exact h5 (bO (aI e))
 obtain⟨rv,ao,ap⟩:=d3.get L;have:=ro.len;refine⟨_,rfl,_,rfl,_,rfl,.inl ⟨rfl,_,SqL.of M⟩,_,rfl,a,_,0,_,rfl,rfl,ac,rfl,acc,_,_,j,rfl,rfl,M,by rw [aE];lia,am,an,md.2.2.1,_,_,rv,rfl,rfl,g2.seq d2,Qq ao,_,rfl,a,_,1,_,rfl,rfl,ac,rfl,_,rfl,a,_,2,_,rfl,rfl,ac,rfl,?_⟩;exact⟨tu,wd,lm,b,sv,rv,ks,st,r,ms,mrk T,vs,T.bs,o,rfl,al,hO,ap.mono λ_ _=>g2.seqT,g2.seqT h2,h3.mono λ_ _=>g2.seqT,hM,ag,hR,by lia,λv' H' g aq=>q v' H' (g2.trans g) aq⟩
theorem LP{fP fB:Addr}{fdP fdB:FuncData}(FP:Fun K "_law_put" "_law_put" Nr fP fdP)(FB:Fun K "_law_by" "_law_by" sBy fB fdB)(G:Gm mg)(RR:Fn P w K mg base 1 "_law_rows" ["_law_wood_here","_law_kind"] (Yo K))(bP:Binds K fdP ["_law_turning_here","_law_term_here","_law_mark","_law_branches"] [])(bB:Binds K fdB ["_law_turning_here","_law_mode","_law_tree_here"] [])(hP:mg "_law_put"=some (.ref fP))(hB:mg "_law_by"=some (.ref fB)):∀n:Nat,FnOk P w K mg base CX0 (n+3) fP fdP ["_law_turning_here","_law_term_here","_law_mark","_law_branches"] (U1 K n)/\FnOk P w K mg base CX0 (n+3) fB fdB ["_law_turning_here","_law_mode","_law_tree_here"] (SG K n)
 | 0=>⟨⟨λvs H Q E h=>by obtain⟨J,L,M,bv,U,tv,ks,st,t,ms,Y,aa,bs,o,rfl,_⟩:=h;rfl,λA outer s H Z us vs Q E _ _ _ _ h=>by obtain⟨J,L,M,bv,U,tv,ks,st,t,ms,Y,aa,bs,o,_,_,_,_,_,_,_,_,_,h,_⟩:=h;rw [Zl]at h;lia⟩,⟨λvs H Q E h=>by obtain⟨J,L,M,U,v,ks,st,r,ms,m,T,o,rfl,_⟩:=h;rfl,λA outer s H Z us vs Q E _ _ _ _ h=>by obtain⟨J,L,M,U,v,ks,st,r,ms,m,T,o,_,_,_,_,_,_,_,_,h,_⟩:=h;lia⟩⟩
 | n+1=>by
  obtain⟨h1,h2⟩:=LP FP FB G RR bP bB hP hB n;exact⟨AR FP G ⟨fB,fdB,h2,bB,FB.kp,hB⟩ ⟨fP,fdP,h1,bP,FP.kp,hP⟩,Bq FB G RR ⟨fP,fdP,h1,bP,FP.kp,hP⟩⟩
def Tf(K:Fg):Sp:=λvs H Q _=>∃(tu wd lm:Addr)(sv v:V)(ks:List KdT)(st:Tm)(ms:List MdT)(T o:Tree Str),vs=[.ref tu,v]/\TurnD K H tu wd lm sv ks st ms/\WoodOk ks/\TrV K H v T/\lv T<=4/\lv st<=8/\CPr NN st/\K51.Mk (rlOf ks ms) st 0 [T] o/\Rn ks ms/\
 ∀(v:V)(H':Hp),Same H H'->TrV K H' v o->Q v H'
def Dy:List G3.S:=[.ret (.call 0 [.v 0,.ix (.v 0) (.k (.int 1)),.k (.int 0),.tup [.v 1]])]
def Di(K:Fg):G3.En:=⟨K,[λ_ vs H Q=>U1 K 48 vs H Q E0],[],[],[]⟩
theorem BU:FnScope ["_law_turning_here","_law_tree_here"] ["_law_turning_here","_law_tree_here"] (defScope Av):=(0:)
theorem TB(F:Fun K "_law_outcome" "_law_outcome" Av f fd)(G:Gm mg)(RP:Fn P w K mg base 51 "_law_put" ["_law_turning_here","_law_term_here","_law_mark","_law_branches"] (U1 K 48)):FnOk P w K mg base CX0 52 f fd ["_law_turning_here","_law_tree_here"] (Tf K):=by
 refine G3.Fun.okC F BU (Di K) Dy (λX c=>⟨.cons (c.fn RP (4:)) .nil,.nil,.nil⟩) (7:) (λH vs Q E h=>?_) G.rng
 .obtain⟨M,U,Y,J,v,ks,st,ms,T,o,rfl,_⟩:=h
  rfl
 obtain⟨M,U,Y,J,v,ks,st,ms,T,o,rfl,L,hO,hv,hl,hs,hN,hM,hR,q⟩:=h;refine .t _ _ L.tu rfl ⟨λp H1 g d _=>⟨M,U,Y,p,J,J,ks,st,st,ms,0,[v],[T],o,rfl,L.same g,hO,L.s.mono λ_ _=>g.seqT,d,.cons (hv.mono λ_ _=>g.seqT) .nil,hM,hN,hR,?_,λv' H' g' Z=>q v' H' (g.trans g') Z⟩⟩;simp only [lvs];lia
end
mutual
noncomputable def NmT(N:Nat):Tree Str->Prop
 | .node n _ bs=>PyData.strOk n=true/\bs.length<=N/\Go N bs
noncomputable def Go(N:Nat):List (Tree Str)->Prop
 | []=>True
 | b::r=>NmT N b/\Go N r
end
theorem W9{N:Nat}:∀{bs:List (Tree Str)},Go N bs↔ ∀b∈bs,NmT N b
 | []=>by simp [Go]
 | b::r=>by simp only [Go,W9 (bs:=r),aM,gf]
theorem CA{rl:Int->Str->Option Tm}{p:Int->Int->Prop}(hr:∀m n r,rl m n=some r->TPr p r/\lv r<=L){t:Tm}{bs:List (Tree Str)}{o:Tree Str}(h:Mk rl t mark bs o):TPr p t->NmT 3 o/\lv o<=lv t+L*lvs bs:=by
 induction h with
 | @call m b z qs mark bs n mm cs r o e1 e2 _ J=>
  intro M;obtain⟨h1,h2⟩:=hr _ _ _ e2;obtain⟨i1,i2⟩:=J h1;refine⟨i1,?_⟩;have U:=Zt (aL e1);have Y:lv (Tree.node n mm cs)=1+lvs cs:=by simp only [lv]
  have h5:L*(1+lvs cs)<=L*lvs bs:=Nat.mul_le_mul_left _ (5:);rw [Nat.mul_add]at h5;lia
 | @put n k a z ps mark bs Z hl _ J=>
  intro M;simp only [TPr]at M;obtain⟨h1,h2,U⟩:=M;have Y:=(TPrs_iff p ps).mp U;have key:∀o∈Z,NmT 3 o/\lv o<=lvs ps+L*lvs bs:=λo G=>by
   obtain⟨i,hi,rfl⟩:=bZ G;have hp:i<ps.length:=by lia
   obtain⟨q1,q2⟩:=J i _ _ (aD hp) (aD hi) (Y _ (aO hp));have:=Zt (aO hp);exact⟨q1,by lia⟩
  refine⟨?_,?_⟩
  .simp only [NmT];exact⟨h1,by lia,W9.mpr λo G=>(key o G).1⟩
  .simp only [lv];have:lvs Z<=lvs ps+L*lvs bs:=X6 λo G=>(key o G).2;lia
theorem NQ{ks:List KdT}{st:Tm}(hW:WD ks)(hF:Fits ks st ms)(hk:ks[0]?=some k0){T:Tree Str}(hT:OfK (Qt ks) T k0.2.1):∃o,Mk (rlOf ks ms) st 0 [T] o:=by
 refine VO (kn:=kns ms) (ks:=[k0.2.1]) (λa b M=>?_) (hF.s k0 hk);obtain⟨k,j,z,rfl,rfl,U,G⟩:=M;obtain⟨md,f1,f2⟩:=G8 U
 match j,G with
 | 0,G=>
  have hz:k0.2.1=z:=aI G;obtain⟨r,o,g1,g2⟩:=LR (λJ=>(NC hW.ok J).nd) (λm L=>(hF.m m L).l) (λm L j r t h1 h2=>(hF.m m L).r j r t h1 h2) (lv T) T k0.2.1 (4:) hT k md f1 (by rw [f2,hz]);obtain⟨n,m,b⟩:=T;exact⟨n,m,b,r,o,rfl,g1,g2⟩
 | n+1,G=>simp at G
theorem Fc.nn{bs:List Str}{a b:Int}(h:Fc kn bs a b):NN a b:=by
 obtain⟨k,j,z,rfl,rfl,_⟩:=h;exact⟨by lia,by lia⟩
mutual
theorem OJ{N:Nat}:∀{t:Tree Str},NmT N t->(td t).canLay0=true/\(td t).depth<=2*lv t
 | .node n m bs,h=>by
  simp only [NmT]at h;obtain⟨h1,h2⟩:=G4 h.2.2;constructor
  .simp only [td,PyData.canLay0,PyData.canLayAll0,h.1,h1,cJ]
  .simp only [td,PyData.depth,PyData.depthAll,lv];lia
theorem G4{N:Nat}:∀{bs:List (Tree Str)},Go N bs->PyData.canLayAll0 (tds bs)=true/\PyData.depthAll (tds bs)<=2*lvs bs
 | [],_=>by simp [tds,PyData.canLayAll0,PyData.depthAll]
 | b::r,h=>by
  simp only [Go]at h;obtain⟨h1,h2⟩:=OJ h.1;obtain⟨G,J⟩:=G4 h.2;constructor
  .simp only [tds,PyData.canLayAll0,h1,G,cJ]
  .simp only [tds,PyData.depthAll,lvs];lia
end
end K41
namespace L2
open PySem PySem.Spec PyProof.Rows
theorem Zp:Q6 X (.builtin "isinstance") (λxs H Q=>∃(a:Addr)(ys:List V),(xs=[.ref a,.ty "list"]/\SqL X.K H a ys\/xs=[.ref a,.ty "tuple"]/\SqT X.K H a ys)/\Q (.bl true) H):=by
 intro pins s σ H xs U Q I r h;obtain⟨a,ys,h,q⟩:=h;rcases h with⟨rfl,G⟩ | ⟨rfl,G⟩
 .obtain⟨u,c,rfl,J,L⟩:=Pf r;cases (show u=Value.ref a from J);cases (show c=Value.type "list" from L);obtain⟨its,_,M,_⟩:=I.list G;obtain⟨o,h1,h2,_⟩:=M.isList;exact cW (b:=true) PySem.W.kitx_list I.kIn ⟨o,h1,h2⟩ rfl (λz=>nomatch z) λtk=>⟨.bl true,H,I.tok tk,rfl,q⟩
 .obtain⟨u,c,rfl,J,L⟩:=Pf r;cases (show u=Value.ref a from J);cases (show c=Value.type "tuple" from L);obtain⟨its,_,M,_⟩:=I.tuple G;obtain⟨o,h1,h2,_⟩:=M;exact cW (b:=true) PySem.W.kitx_tuple I.kIn ⟨o,h1,h2⟩ rfl (λz=>nomatch z) λtk=>⟨.bl true,H,I.tok tk,rfl,q⟩
end L2
namespace K41
open K51
open PySem L2 TM TT ST K9 K11
def Ak:Sp:=λvs H Q _=>∃i:Int,vs=[.int i]/\Q (.bl true) H
def UM(K:Fg)(n:Nat):Sp:=λvs H Q _=>∃(v:V)(bv lm:Addr)(t:Tm)(bs:List Str)(ms:List MdT),vs=[v,.ref bv,.ref lm]/\TmV K H v t/\lv t<=n/\SqT K H bv (bs.map V.str)/\ModesL K H lm ms/\CPr (Fc (kns ms) bs) t/\∀H',Same H H'->Q (.bl true) H'
structure FtC(ks:List KdT)(st:Tm)(ms:List MdT):Prop where
 s:∀k0,ks[0]?=some k0->CPr (Fc (kns ms) [k0.2.1]) st
 l:lv st<=8
 m:∀m∈ms,∃kd∈ks,kd.2.1=m.2.1/\m.2.2.2.2.length=kd.2.2.2.length/\(PyData.list (tmds m.2.2.2.2)).canLay0=true/\∀(j:Nat)(r:PNx)(t:Tm),kd.2.2.2[j]?=some r->m.2.2.2.2[j]?=some t->lv t<=8/\CPr (Fc (kns ms) r.2.2.2) t
 n:ms.length<=200
def Yz(ks:List KdT):PyData:=.list ((ks.map Z1).map YF)
theorem LG{K:Fg}{ks:List KdT}(h:WoodAt K H wd ks):RdV K H (.ref wd) (Yz ks):=.lst h.1 (WE h.2)
theorem OS{ks:List KdT}(h:WD ks):(Yz ks).canLay0=true:=by
 unfold Yz;simp only [PyData.canLay0];exact Xn h.nm h.ok.rows
def Oq(K:Fg):Sp:=λvs H Q _=>∃(tu wd lm wh:Addr)(sv:V)(ks' ks:List KdT)(st:Tm)(ms:List MdT),vs=[.ref tu,.ref wh]/\TurnD K H tu wd lm sv ks' st ms/\WoodAt K H wh ks/\WD ks/\ks'.map Z1=ks.map Z1/\FtC ks st ms/\∀H',Same H H'->Q (.bl true) H'
section
variable{K:Fg}
theorem CS:FnScope ["_law_found"] ["_law_found"] (defScope sWh):=(0:)
theorem CC(F:Fun K "_law_is_whole" "_law_is_whole" sWh f fd)(G:Gm mg):FnOk P w K mg base CX0 1 f fd ["_law_found"] Ak:=by
 refine F.ok CS (7:) (λJ A outer s H vs Q E L h=>?_)
 .obtain⟨i,rfl,_⟩:=h
  rfl
 obtain⟨i,rfl,q⟩:=h;refine⟨_,(Qi (Ql (O6 (Qn Zv rfl G.isi cY (Qa (pv 0) (Qa (Za (v:=.ty "int") rfl G.int PyProof.Rows.boot_int rfl) Qc))) (Ps (NM (Qn Zv rfl G.isi cY (Qa (pv 0) (Qa (Za (v:=.ty "bool") rfl G.boo PyProof.Rows.boot_bool rfl) Qc)))))))),?_⟩;exact⟨_,rfl,_,"int",_,true,rfl,.int _,rfl,_,rfl,Q4 ⟨_,rfl,_,"bool",_,false,rfl,.int _,rfl,_,rfl,q⟩⟩
theorem Cb:FnScope ["_law_found","_law_branches","_law_modes"] ["_law_found","_law_branches","_law_modes"] (defScope P3):=(0:)
theorem Az(F:Fun K "_law_is_term" "_law_is_term" P3 f fd)(G:Gm mg)(RH:Fn P w K mg base 1 "_law_is_whole" ["_law_found"] Ak)(R:Fn P w K mg base (n+1) "_law_is_term" ["_law_found","_law_branches","_law_modes"] (UM K n)):FnOk P w K mg base CX0 (n+2) f fd ["_law_found","_law_branches","_law_modes"] (UM K (n+1)):=by
 refine F.ok Cb (7:) (λak A outer s H vs Q E hr h=>?_)
 .obtain⟨v,M,U,t,bs,ms,rfl,_⟩:=h
  rfl
 obtain⟨v,M,U,t,bs,ms,rfl,ht,ag,ab,ac,hc,q⟩:=h;refine⟨_,(Qe (QK (PW.pt (pw_or (QW (QF (Qn Zp rfl G.isi cY (Qa (pv 0) (Qa (Za (v:=.ty "tuple") rfl G.tup cS rfl) Qc))))) (pw_or (Qu XR (Qn Qm rfl G.len bT (Qa (pv 0) Qc)) (QB (Qa (Qf) (Qa (Qf) Qc))) rfl) (pw_or1 (QW (QF (Qn Zv rfl G.isi cY (Qa (2:) (Qa (Za (v:=.ty "str") rfl G.str PyProof.Rows.boot_str rfl) Qc))))))))) (Qi (Ql ZE)) Qs)
  (Qe (QK (Qu ZG (Qn Qm rfl G.len bT (Qa (pv 0) Qc)) Qf (Qx _)) (Qe (QK (PW.pt (pw_or (Qu JT (2:) Zi (Qx _)) (pw_or (QW (QF (Qp RH hr (Qa (2:) Qc) (dH 1 n)))) (pw_or1 (QW (QF (Qp RH hr (Qa (2:) Qc) (dH 1 n)))))))) (Qi (Ql ZE)) Qs)
  (Qe (QK (PW.pt (pw_or (Qu Vf (2:) Qf (Qx _)) (pw_or (Qu Ob (2:) (Qn Qm rfl G.len bT (Qa (pv 2) Qc)) (Qx _)) (pw_or (Qu Vf (2:) Qf (Qx _)) (pw_or1 (Qu Ob (2:) (Qn Qm rfl G.len bT (Qa (pv 1) Qc)) (Qx _))))))) (Qi (Ql ZE)) Qs)
  (Qi (Ql (ZI ZG (Qk Qj (Qk QE (pv 2) (2:) (λ_ _=>rfl)) Qf (λ_ _=>rfl)) (Qk Qj (pv 1) (2:) (λ_ _=>rfl)) (Qx _)))))) Qs)
  (Qe (QK (PW.pt (pw_or (Qu JT (2:) Zi (Qx _)) (pw_or (QW (QF (Qn Zv rfl G.isi cY (Qa (2:) (Qa (Za (v:=.ty "str") rfl G.str PyProof.Rows.boot_str rfl) Qc))))) (pw_or1 (QW (QF (Qn Zv rfl G.isi cY (Qa (2:) (Qa (Za (v:=.ty "bool") rfl G.boo PyProof.Rows.boot_bool rfl) Qc))))))))) (Qi (Ql ZE)) Qs)
  (Qe (QK (PW.pt (pw_or (QW (QF (Qp RH hr (Qa (2:) Qc) (dH 1 n)))) (pw_or1 (QW (QF (Qn Zp rfl G.isi cY (Qa (2:) (Qa (Za (v:=.ty "tuple") rfl G.tup cS rfl) Qc)))))))) (Qi (Ql ZE)) Qs)
  (Qi (Ql (ZI ZG (Qn Qm rfl G.len bT (Qa (QM (CompG.many (xs:=["_law_part"]) (caps:=["_law_branches","_law_modes"]) (cap:=[1,2]) (cs:=[_,_]) rfl rfl (1:) (1:) (1:) (1:) (1:) (1:) rfl rfl rfl) rfl (Yu (2:)) (YR (CompG.many (xs:=["_law_part"]) (caps:=["_law_branches","_law_modes"]) (cap:=[1,2]) (cs:=[_,_]) rfl rfl (1:) (1:) (1:) (1:) (1:) (1:) rfl rfl rfl)) (λ_ _ _ _=>Xa (QW (QF (Qp R hr (Qa (pv 0) (Qa (pv 1) (Qa (pv 2) Qc))) (4:))))) (λ_ _ _ _=>pv 0)) Qc)) Qf (Qx _)))))))),?_⟩
 refine L2.let4 ?_
 intros
 rcases ZZ ht with⟨a,m,b,rfl,rfl,h1⟩ | ⟨a,b,vs,nm,k,ad,rfl,et,h1,h2,h3,h4⟩
 .obtain⟨mi,bi,z,em,eb,e1,e2⟩:=hc (m,b) (by simp [Uh,cls,lcl]);have em:m=(mi:Int):=em;have eb:b=(bi:Int):=eb;subst em eb;obtain⟨md,f1,f2⟩:=G8 e1;have al:=(aU.mp f1).1;have am:=(aU.mp e2).1;refine⟨_,rfl,a,_,.inr ⟨rfl,h1⟩,_,rfl,QS ⟨_,rfl,a,_,rfl,.inr h1,(by show 2<=sizeLine;decide),λp hp=>?_⟩⟩;have g1:=Qd hp (.tup [.int 3,.int 5]);have J:=g1.seqT h1;have L:=ac.same g1;have Y:=g1.seqT ab;have d1:=(L.2 md (aL f1)).1;refine⟨p,_,rfl,.inr (SqT.of Qb),rfl,rfl,_,rfl,QS ⟨_,rfl,a,_,0,_,rfl,rfl,J,rfl,_,"str",_,true,rfl,.str _,rfl,_,rfl,QS ?_⟩⟩;refine⟨_,rfl,a,_,rfl,.inr J,rfl,_,rfl,Sz rfl ?_⟩;refine⟨_,rfl,a,_,0,_,rfl,rfl,J,rfl,rfl,_,rfl,WN rfl ⟨_,rfl,a,_,1,_,rfl,rfl,J,rfl,_,rfl,_,rfl,QS ⟨_,rfl,a,_,2,_,rfl,rfl,J,rfl,_,rfl,_,rfl,QS ?_⟩⟩⟩;refine⟨_,rfl,a,_,1,_,rfl,rfl,J,rfl,_,_,rfl,rfl,_,rfl,JR (5:) ⟨_,rfl,a,_,1,_,rfl,rfl,J,rfl,_,rfl,U,_,rfl,.inl L.1,_,_,rfl,rfl,_,rfl,JR (by rw [aE];lia) ⟨_,rfl,a,_,2,_,rfl,rfl,J,rfl,_,_,rfl,rfl,_,rfl,JR (5:) ⟨_,rfl,a,_,2,_,rfl,rfl,J,rfl,_,rfl,M,_,rfl,.inr Y,_,_,rfl,rfl,_,rfl,JR (by rw [aE];lia) ?_⟩⟩⟩⟩;refine⟨_,rfl,_,rfl,a,_,1,_,rfl,rfl,J,rfl,U,_,_,.ref md.1,rfl,rfl,L.1,Qq (by rw [aJ,f1];rfl),md.1,_,0,_,rfl,rfl,d1,rfl,_,rfl,_,rfl,a,_,2,_,rfl,rfl,J,rfl,M,_,_,.str z,rfl,rfl,Y,Qq (by rw [aJ,e2];rfl),rfl,?_⟩;rw [f2];have e:decide (V.str z=V.str z)=true:=bO rfl;show Q (.bl (decide (V.str z=V.str z))) _;rw [e];exact q _ g1
 have aj:=h3.length;rw [Zl]at ag;rw [et]at hc;refine⟨_,rfl,a,_,.inr ⟨rfl,h1⟩,_,rfl,QS ⟨_,rfl,a,_,rfl,.inr h1,(by show 2<=sizeLine;decide),λp hp=>?_⟩⟩;have g1:=Qd hp (.tup [.int 3,.int 5]);have J:=g1.seqT h1;have ae:=g1.seqT h2;refine⟨p,_,rfl,.inr (SqT.of Qb),rfl,rfl,_,rfl,QS ⟨_,rfl,a,_,0,_,rfl,rfl,J,rfl,_,"str",_,true,rfl,.str _,rfl,_,rfl,QS ?_⟩⟩;refine⟨_,rfl,a,_,rfl,.inr J,rfl,_,rfl,JR (λz=>by injection z with z;exact absurd z (by show ¬((5:Nat):Int)=3;decide)) ?_⟩;refine⟨_,rfl,a,_,0,_,rfl,rfl,J,rfl,rfl,_,rfl,WN rfl ⟨_,rfl,a,_,1,_,rfl,rfl,J,rfl,_,"str",_,true,rfl,.str _,rfl,_,rfl,QS ⟨_,rfl,a,_,2,_,rfl,rfl,J,rfl,_,"bool",_,true,rfl,.bl _,rfl,_,rfl,QS ?_⟩⟩⟩;refine⟨_,rfl,a,_,3,_,rfl,rfl,J,rfl,ad,rfl,_,rfl,QS ⟨_,rfl,a,_,4,_,rfl,rfl,J,rfl,b,_,.inr ⟨rfl,ae⟩,_,rfl,QS ?_⟩⟩;refine⟨_,rfl,a,_,4,_,rfl,rfl,J,rfl,b,rfl,⟨_,ae⟩,λacc af=>?_⟩;refine Y7 (K:=K) (xs:=vs) (cs:=[some (.ref M),some (.ref U)]) (λi ys H'=>ys=[]/\H' acc=some (.lst ys)/\Same H H') ⟨rfl,Qb,g1.trans (Qd af _)⟩ ?_ ?_ ?_
 .rintro i ys H' _ ⟨_,_,g⟩;exact g.seqT h2
 .rintro i x ys H' hi hx ⟨rfl,Z,g⟩;have aa:i<t.bs.length:=by lia
  obtain⟨cv,ah,ai⟩:=h3.get (aD aa);obtain rfl:cv=x:=aI (ah.symm.trans hx);have a1:=Zt (aO aa);refine⟨_,rfl,_,rfl,_,rfl,cv,M,U,t.bs[i],bs,ms,rfl,ai.mono λ_ _=>g.seqT,by lia,g.seqT ab,ac.same g,hc.bs _ (aO aa),λH4 g4=>⟨_,rfl,QS (ZQ hi ⟨rfl,g4 _ _ Z,g.trans g4⟩)⟩⟩
 rintro ys H2 ⟨rfl,Z,g⟩;exact⟨acc,_,rfl,.inl (SqL.of Z),rfl,q H2 g⟩
theorem Od{k:Nat}:FnOk P w K mg base CX0 k f fd ["_law_found","_law_branches","_law_modes"] (UM K 0):=by
 have G:∀vs H Q E,¬UM K 0 vs H Q E:=λvs H Q E h=>by
  obtain⟨v,M,U,t,bs,ms,_,_,J,_⟩:=h;rw [Zl]at J;lia
 exact⟨λvs H Q E h=>absurd h (G vs H Q E),λA outer s H L Y vs Q E _ _ _ _ h=>absurd h (G vs H Q E)⟩
theorem LA(F:Fun K "_law_is_term" "_law_is_term" P3 f fd)(G:Gm mg)(RH:Fn P w K mg base 1 "_law_is_whole" ["_law_found"] Ak)(hb:Binds K fd ["_law_found","_law_branches","_law_modes"] [])(hm:mg "_law_is_term"=some (.ref f)):∀n:Nat,FnOk P w K mg base CX0 (n+1) f fd ["_law_found","_law_branches","_law_modes"] (UM K n)
 | 0=>Od
 | n+1=>Az F G RH ⟨f,fd,LA F G RH hb hm n,hb,F.kp,hm⟩
end
end K41
namespace K41
open PySem L2 TM TT ST K9 K11
mutual
theorem NE{g:Ky->Int}{c:Int×Int}:∀{x:TX},c∈cls (mpX g x)->∃c'∈clX x,c=(g c'.1,c'.2)
 | .node (.call q b) _ _,h=>by
  simp only [mpX,cls,lcl,Q7,dO,bM]at h;exact⟨(q,b),by simp [clX],h⟩
 | .node (.put n k a) _ bs,h=>by
  simp only [mpX,cls,lcl,dG]at h;simp only [clX];exact GR h
theorem GR{g:Ky->Int}{c:Int×Int}:∀{xs:List TX},c∈Q7 (Yb g xs)->∃c'∈QU xs,c=(g c'.1,c'.2)
 | [],h=>by simp [Yb,Q7]at h
 | x::r,h=>by
  simp only [Yb,Q7,aY]at h;rcases h with h | h
  .obtain⟨c',h1,h2⟩:=NE h;exact⟨c',by rw [QU];exact cT _ h1,h2⟩
  .obtain⟨c',h1,h2⟩:=GR h;exact⟨c',by rw [QU];exact cB _ h1,h2⟩
end
mutual
theorem Gv(g:Ky->Int):∀x:TX,lv (mpX g x)<=lv x
 | .node (.call q b) _ _=>by simp only [mpX,lv,lvs];lia
 | .node (.put n k a) _ bs=>by simp only [mpX,lv];have:=Lq g bs;lia
theorem Lq(g:Ky->Int):∀xs:List TX,lvs (Yb g xs)<=lvs xs
 | []=>by simp only [Yb,lvs];lia
 | x::r=>by simp only [Yb,lvs];have:=Gv g x;have:=Lq g r;lia
end
mutual
noncomputable def NX:TX->Prop
 | .node (.call _ _) _ _=>True
 | .node (.put n _ _) _ bs=>PyData.strOk n=true/\NXs bs
noncomputable def NXs:List TX->Prop
 | []=>True
 | x::r=>NX x/\NXs r
end
mutual
theorem Ry(g:Ky->Int):∀{x:TX},NX x->(tmd (mpX g x)).canLay0=true
 | .node (.call q b) _ _,_=>by simp only [mpX,tmd,tdl,PyData.canLay0,PyData.canLayAll0,W2,cJ]
 | .node (.put n k a) _ bs,h=>by
  simp only [NX]at h;have:=JX g h.2;simp only [mpX,tmd,tdl,PyData.canLay0,PyData.canLayAll0,SR,h.1,this,cJ]
theorem JX(g:Ky->Int):∀{xs:List TX},NXs xs->PyData.canLayAll0 (tmds (Yb g xs))=true
 | [],_=>by simp [Yb,tmds,PyData.canLayAll0]
 | x::r,h=>by
  simp only [NXs]at h;simp only [Yb,tmds,PyData.canLayAll0,Ry g h.1,JX g h.2,cJ]
end
theorem Ln:∀{xs:List TX},NXs xs↔ ∀x∈xs,NX x
 | []=>by simp [NXs]
 | x::r=>by simp only [NXs,Ln (xs:=r),aM,gf]
mutual
theorem VV{m b:Int}:∀{s:Stp}{p:List Nat},SOk s->NX (stX m b p s)
 | .op,p,_=>by simp only [stX,NX]
 | .put n a ps,p,h=>by
  simp only [SOk]at h;simp only [stX,NX];exact⟨h.1,GL h.2.2⟩
theorem GL{m b:Int}:∀{ps:List Stp}{p:List Nat}{i:Nat},Yi ps->NXs (Zy m b p i ps)
 | [],_,_,_=>by simp only [Zy,NXs]
 | s::r,p,i,h=>by
  simp only [Yi]at h;simp only [Zy,NXs];exact⟨VV h.1,GL h.2⟩
end
theorem Po:∀{p:List Nat}{s u:Stp},SOk s->stA s p=some u->SOk u
 | [],s,u,h,e=>by
  rw [Zj]at e;rw [<-aI e];exact h
 | i::p,.op,u,h,e=>by simp [stA]at e
 | i::p,.put n m ps,u,h,e=>by
  simp only [stA]at e;obtain⟨c,G,e⟩:=b_.mp e;simp only [SOk]at h;exact Po ((Yf ps).mp h.2.2 c (aL G)) e
mutual
theorem NR{S:Int->Stp}(hS:∀m,SOk (S m)){p:Int->Int->Prop}:∀{t:Tm},K51.TPr p t->NX (sin S t)
 | .node (.call m b) _ _,_=>by simp only [sin];exact VV (hS m)
 | .node (.put n k a) _ bs,h=>by
  simp only [K51.TPr]at h;simp only [sin,NX];exact⟨h.1,LW hS h.2.2⟩
theorem LW{S:Int->Stp}(hS:∀m,SOk (S m)){p:Int->Int->Prop}:∀{ts:List Tm},K51.TPrs p ts->NXs (Y4 S ts)
 | [],_=>by simp only [Y4,NXs]
 | t::r,h=>by
  simp only [K51.TPrs]at h;simp only [Y4,NXs];exact⟨NR hS h.1,LW hS h.2⟩
end
theorem S8{S:Int->Stp}(hS:∀m,SOk (S m)){pr:Int->Int->Prop}:∀{p:List Nat}{t:Tm}{x:TX},K51.TPr pr t->eT S t p=some x->NX x
 | [],t,x,G,h=>by
  rw [ZN]at h;rw [<-aI h];exact NR hS G
 | i::p,.node (.call m b) z bs,x,G,h=>by
  rw [Ug]at h;obtain⟨s,L,rfl⟩:=cZ.mp h;exact VV (Po (hS m) L)
 | i::p,.node (.put n k a) z bs,x,G,h=>by
  rw [J6]at h;obtain⟨t,J,M⟩:=b_.mp h;simp only [K51.TPr]at G;exact S8 hS ((K51.TPrs_iff pr bs).mp G.2.2 t (aL J)) M
structure Res(S:List Stp)(st:Tm)(ms:List MdT)(qs:List Ky)(ms':List MdT):Prop where
 y:Hy (ms.map MdT.md) S
 o:∀m,SOk (lookS S m)
 n:qs.length<=200
 m:dM ms'=dQ (mkE (ms.map MdT.md) S) qs
 g:∀q∈qs,Gd (ms.map MdT.md) S q
 s:∀c∈clX (sin (lookS S) st),c.1∈qs
 c:∀q∈qs,∀c∈clL (mkE (ms.map MdT.md) S q).2,c∈qs
section
variable{S:List Stp}{st:Tm}
theorem Res.at(R:Res S st ms qs ms'){k:Nat}{q:Ky}(h:qs[k]?=some q):∃md md',ms[q.1.toNat]?=some md/\ms'[k]?=some md'/\md'.2.1=md.2.1/\md'.2.2.2.2=(mkE (ms.map MdT.md) S q).2.map (mpX (ixP qs))/\SM S q.2 md.2.2.2.2 (mkE (ms.map MdT.md) S q).2:=by
 have g:=R.g q (aL h);obtain⟨d,L⟩:=g.d;have G:=L;rw [aJ]at G;obtain⟨md,M,rfl⟩:=cZ.mp G;obtain⟨U,a2⟩:=NO R.y g L;have e:(dM ms')[k]?=some ((mkE (ms.map MdT.md) S q).1,(mkE (ms.map MdT.md) S q).2.map (mpX (ixP qs))):=by
  rw [R.m];unfold dQ;rw [aJ,h];rfl
 unfold dM at e;rw [aJ]at e;obtain⟨md',J,Y⟩:=cZ.mp e;injection Y with Z e4;exact⟨md,md',M,J,by rw [Z,U];rfl,e4,a2⟩
theorem Res.len(R:Res S st ms qs ms'):ms'.length=qs.length:=by
 have:=congrArg List.length R.m;unfold dM dQ at this
 rwa [aE,aE]at this
theorem OT(h:q∈qs):qs[(ixP qs q).toNat]?=some q:=by
 unfold ixP;rw [aX,aD (List.idxOf_lt_length_of_mem h),List.getElem_idxOf]
theorem Res.fc(R:Res S st ms qs ms'){bs:List Str}(hq:q∈qs){b:Int}(h:Fc (kns ms) bs q.1 b):Fc (kns ms') bs (ixP qs q) b:=by
 obtain⟨k,j,z,J,L,G,M⟩:=h;obtain⟨md,Y,h1,h2,U,_⟩:=R.at (OT hq);refine⟨(ixP qs q).toNat,j,z,?_,L,?_,M⟩
 .unfold ixP;rw [aX]
 .rw [J,aX]at h1;rw [aJ,h1]at G;rw [aJ,h2];exact congrArg some (U.trans (aI G))
theorem Res.cpr(R:Res S st ms qs ms'){bs:List Str}{t:Tm}(ht:K51.TPr (Fc (kns ms) bs) t){p:List Nat}{x:TX}(hx:eT (lookS S) t p=some x)(hc:∀c∈clX x,c.1∈qs):CPr (Fc (kns ms') bs) (mpX (ixP qs) x):=λc G=>by
 obtain⟨J,h1,rfl⟩:=NE G;exact R.fc (hc J h1) (TPr.cl ht _ (Nh hx J h1).1)
theorem Res.ft(R:Res S st ms qs ms'){ks:List KdT}(hW:WD ks)(hT:T51 ks st ms):FtC ks (mpX (ixP qs) (sin (lookS S) st)) ms':=by
 have e0:=ZN (lookS S) st;refine⟨λk0 L=>R.cpr (hT.sf k0 L) e0 R.s,?_,λm' ad=>?_,by rw [R.len];exact R.n⟩
 .have h1:=(WJ (A:=18) (B:=4) R.y.big (11:) (11:) e0).2;have h2:=Gv (ixP qs) (sin (lookS S) st);have:=hT.sl.1.1;lia
 .obtain⟨k,L,ek⟩:=bZ ad;have U:k<qs.length:=by rw [<-R.len];exact L
  have hq:=aD U;have Y:=aO U;generalize qs[k]=q at hq Y;obtain⟨md,af,h1,h2,h3,h4,h5,h6⟩:=R.at hq;rw [aD L,ek]at h2;obtain rfl:=aI h2;have Z:=aL h1;obtain⟨kd,aa,e1,hf⟩:=hT.ft md Z;obtain⟨ab,ac,ae,hl,hz⟩:=hT.md md Z;obtain rfl:ab=kd:=ZT hW.ok.nd ac aa (by rw [e1,ae]);refine⟨ab,aa,by rw [h3,e1],by rw [h4,aE,h5,hl],?_,λj r t hr ht=>?_⟩
  .rw [h4,<-Yy];simp only [PyData.canLay0];refine JX _ (Ln.mpr λx J=>?_);obtain⟨i,hi,ei⟩:=bZ J;have G:i<md.2.2.2.2.length:=by lia
   obtain⟨_,_,M,_⟩:=h6 i _ _ (aD G) ((aD hi).trans (congrArg some ei));exact S8 R.o (hz _ (aO G)).1 M
  .rw [h4,aJ]at ht;obtain⟨x,J,rfl⟩:=cZ.mp ht;have hi:=(aU.mp J).1;have G:j<md.2.2.2.2.length:=by lia
   have et:=aD G;obtain⟨q1,_,M,_,q5⟩:=h6 j _ _ et J;have h7:=(WJ (A:=18) (B:=4) R.y.big (11:) (11:) M).2;have h8:=Gv (ixP qs) x;refine⟨by lia,R.cpr (hf j r _ hr et) M λc hc=>R.c q Y _ ?_⟩;unfold clL;exact aK.mpr ⟨c,YH (aL J) hc,rfl⟩
theorem Res.out(R:Res S st ms qs ms'){ks ks':List KdT}(hr:∀kind,Qt ks' kind=Qt ks kind){T o:Tree Str}(h:K51.Mk (K51.rlOf ks ms) st 0 [T] o):K51.Mk (K51.rlOf ks' ms') (mpX (ixP qs) (sin (lookS S) st)) 0 [T] o:=by
 have key:∀m n r,K51.rlOf ks ms m n=some r->∃md j,ms[m.toNat]?=some md/\((Qt ks md.2.1).findIdx? λr=>decide (r.2.1=n))=some j/\md.2.2.2.2[j]?=some r:=λm n r e=>by
  unfold K51.rlOf at e;obtain⟨md,U,e⟩:=b_.mp e;obtain⟨j,hj,e⟩:=b_.mp e;exact⟨md,j,U,hj,e⟩
 have Y:∀m n r,K51.rlOf ks ms m n=some r->Bel (lookS S m) (rsT (lookS S) r):=λm n r e=>by
  obtain⟨md,j,h1,h2,G⟩:=key m n r e;have:=R.y.bel m.toNat md.md r (by rw [aJ,h1];rfl) (aL G);have e2:lookS S (m.toNat:Int)=lookS S m:=by unfold lookS;rw [aX]
  rwa [e2]at this
 obtain⟨o',h1,h2⟩:=Bw (rl':=K51.rlOf ks' ms') (g:=ixP qs) (qs:=qs) Y (λm p n r x L e hx=>by
  obtain⟨md,j,h1,h2,G⟩:=key m n r e;obtain⟨aa,M,f1,f2,f3,f4,f5,f6⟩:=R.at (OT L);rw [h1]at f1;obtain rfl:=aI f1;have ab:=(aU.mp G).1;have J:j<(mkE (ms.map MdT.md) S (m,p)).2.length:=by lia
  obtain⟨_,_,q3,_⟩:=f6 j _ _ G (aD J);have ex:=hx.symm.trans q3;have ex:=aI ex;refine⟨?_,λc Z=>R.c _ L _ ?_⟩
  .unfold K51.rlOf;rw [f2];show((Qt ks' M.2.1).findIdx? _).bind _=_;rw [hr,f3,h2];show M.2.2.2.2[j]?=_;rw [f4,aJ,aD J,<-ex];rfl
  .unfold clL;rw [ex]at Z;exact aK.mpr ⟨c,YH (aO J) Z,rfl⟩) (λm p n r L e=>by
  obtain⟨md,j,h1,h2,G⟩:=key m n r e;exact(R.g _ L).rule R.y (by rw [aJ,h1];rfl) (aL G)) h (ZN _ st) R.s
 rw [Ub]at h1;cases h1;exact h2
end
theorem BE{ks:List KdT}{st:Tm}(hW:WD ks)(hr:∀kind,Qt ks' kind=Qt ks kind)(h:FtC ks st ms):Rn ks' ms:=λm n r e=>by
 unfold K51.rlOf at e;obtain⟨md,J,e⟩:=b_.mp e;obtain⟨j,M,e⟩:=b_.mp e;obtain⟨kd,L,U,_,_,Y⟩:=h.m md (aL J);obtain⟨G,_,_⟩:=gE.mp M;have Z:=Ym hW.ok.nd L;rw [hr,<-U,Z]at G;obtain⟨f1,f2⟩:=Y j _ r (aD G) e;exact⟨λc hc=>(f2 c hc).nn,f1⟩
theorem TH{ks:List KdT}{st:Tm}(hW:WD ks)(h:T51 ks st ms):∀m n r,K51.rlOf ks ms m n=some r->K51.TPr NN r/\lv r<=4:=λm n r e=>by
 unfold K51.rlOf at e;obtain⟨md,J,e⟩:=b_.mp e;obtain⟨j,U,e⟩:=b_.mp e;have L:=aL J;obtain⟨kd,M,Y,Z⟩:=h.ft md L;obtain⟨_,_,_,_,hz⟩:=h.md md L;obtain⟨G,_,_⟩:=gE.mp U;have er:=Ym hW.ok.nd M;rw [<-Y,er]at G;exact⟨(Z j _ r (aD G) e).mono λa b k=>k.nn,(hz r (aL e)).2.1⟩
theorem Se{ks:List KdT}{st:Tm}(hW:WD ks)(h:T51 ks st ms)(hk:ks[0]?=some k0){T:Tree Str}(hT:OfK (Qt ks) T k0.2.1)(hT4:lv T<=4):CPr NN st/\Rn ks ms/\∃o,K51.Mk (K51.rlOf ks ms) st 0 [T] o/\(K9.td o).canLay0=true/\(K9.td o).depth<=60:=by
 have G:=TH hW h;have J:K51.TPr NN st:=(h.sf k0 hk).mono λa b k=>k.nn;obtain⟨o,L⟩:=NQ hW (T51.fits hW h) hk hT;obtain⟨h1,h2⟩:=CA G L J;obtain⟨M,U⟩:=OJ h1;have:=h.sl.1.1;refine⟨TPr.cl J,λm n r e=>⟨TPr.cl (G m n r e).1,by have:=(G m n r e).2;lia⟩,o,L,M,?_⟩;simp only [lvs]at h2;lia
end K41
namespace K41
open K51
open PySem L2 TM TT ST K9 K11
theorem OC{K:Fg}{m:MdT}(h:MdAt K H m):SqT K H m.1 [.str m.2.1,.ref m.2.2.1]/\SqL K H m.2.2.1 m.2.2.2.1/\TmAll K H m.2.2.2.1 m.2.2.2.2:=h
section
variable{K:Fg}
theorem UU:FnScope ["_law_found","_law_wood_here","_law_mode","_law_kind","_law_rules","_law_row","_law_rule"] ["_law_found","_law_wood_here"] (defScope PJ):=(0:)
theorem Ru(F:Fun K "_law_is_turning" "_law_is_turning" PJ f fd)(G:Gm mg)(RR:Fn P w K mg base 1 "_law_rows" ["_law_wood_here","_law_kind"] (Yo K))(RT:Fn P w K mg base 9 "_law_is_term" ["_law_found","_law_branches","_law_modes"] (UM K 8)):FnOk P w K mg base CX0 10 f fd ["_law_found","_law_wood_here"] (Oq K):=by
 refine F.ok UU (7:) (λax A outer s H vs Q E hr h=>?_)
 .obtain⟨J,wd,lm,wh,sv,al,ks,st,ms,rfl,_⟩:=h
  rfl
 obtain⟨J,wd,lm,wh,sv,al,ks,st,ms,rfl,M,hw,hW,ek,hF,q⟩:=h;refine⟨_,(Qe (QK (PW.pt (pw_or (QW (QF (Qn Zp rfl G.isi cY (Qa (pv 0) (Qa (Za (v:=.ty "tuple") rfl G.tup cS rfl) Qc))))) (pw_or (Qu JT (Qn Qm rfl G.len bT (Qa (pv 0) Qc)) Qf (Qx _)) (pw_or (QW (QF (Qn Zp rfl G.isi cY (Qa (2:) (Qa (Za (v:=.ty "list") rfl G.lst eE rfl) Qc))))) (pw_or1 (Qu X5 (2:) (pv 1) (Qx _))))))) (Qi (Ql ZE)) Qs)
  (Qe (QK (QW (QF (Qn Zp rfl G.isi cY (Qa (2:) (Qa (Za (v:=.ty "list") rfl G.lst eE rfl) Qc))))) (Qi (Ql ZE)) Qs)
  (Qe (Ya (QJ bW rfl (QH (2:)) (Qo (i:=2) UU.nd rfl (15:)) (Qe (QK (PW.pt (pw_or (QW (QF (Qn Zp rfl G.isi cY (Qa (pv 2) (Qa (Za (v:=.ty "tuple") rfl G.tup cS rfl) Qc))))) (pw_or (Qu JT (Qn Qm rfl G.len bT (Qa (pv 2) Qc)) Qf (Qx _)) (pw_or1 (QW (QF (Qn Zp rfl G.isi cY (Qa (Qk Qj (pv 2) Qf (λ_ _=>rfl)) (Qa (Za (v:=.ty "list") rfl G.lst eE rfl) Qc))))))))) (Qi (Ql ZE)) Qs)
  (Qi (QK (PW.pt (pw_or (Qu JT (Qn Qm rfl G.len bT (Qa (Qp RR hr (Qa (pv 1) (Qa (Qk Qj (pv 2) Qf (λ_ _=>rfl)) Qc)) (11:)) Qc)) (Qn Qm rfl G.len bT (Qa (Qk Qj (pv 2) Qf (λ_ _=>rfl)) Qc)) (Qx _)) (pw_or1 (Qu Wu (Qk Qj (pv 2) Qf (λ_ _=>rfl)) (Zm Qc) (Qx _))))) (Qi (Ql ZE)) Qs)))))
  (Qe (Ya (QJ bW rfl (QH (2:)) (Zd rfl (Qr (Qo (i:=3) UU.nd rfl (15:)) (Qr (Qo (i:=4) UU.nd rfl (15:)) QZ)))
   (Qi (QJ bW rfl (Ov rfl G.zip (Qa (Qp RR hr (Qa (pv 1) (Qa (pv 3) Qc)) (11:)) (Qa (pv 4) Qc))) (Zd rfl (Qr (Qo (i:=5) UU.nd rfl (15:)) (Qr (Qo (i:=6) UU.nd rfl (15:)) QZ)))
    (Qi (QK (QW (QF (Qp RT hr (Qa (pv 6) (Qa (Qk Qj (pv 5) Qf (λ_ _=>rfl)) (Qa (2:) Qc)))))) (Qi (Ql ZE)) Qs))))))
  (Qi (Ql (Qp RT hr (Qa (2:) (Qa ((QB (Qa (Qk Qj (Qk QE (pv 1) Qf (λ_ _=>rfl)) Qf (λ_ _=>rfl)) Qc))) (Qa (2:) Qc)))))))))),?_⟩
 refine L2.let4 ?_
 intros
 have ed:Yz al=Yz ks:=by unfold Yz;rw [ek]
 have am:=LG M.w;rw [ed]at am;have ad:=OS hW;have ay:(Yz ks).depth<=10:=by
  have:=Ja (ks.map Z1);show PyData.depthAll _+1<=10;lia
 refine⟨_,rfl,J,_,.inr ⟨rfl,M.tu⟩,_,rfl,QS ⟨_,rfl,J,_,rfl,.inr M.tu,rfl,_,rfl,WN rfl ⟨_,rfl,J,_,0,_,rfl,rfl,M.tu,rfl,wd,_,.inl ⟨rfl,M.w.1⟩,_,rfl,QS ⟨_,rfl,J,_,0,_,rfl,rfl,M.tu,rfl,_,rfl,Yz ks,Yz ks,am,LG hw,ad,ad,hr.fit (by have:=Nat.min_le_left (Yz ks).depth (Yz ks).depth;lia),_,rfl,?_⟩⟩⟩⟩;rw [aH rfl,Yw _ ad];refine QS ⟨_,rfl,J,_,2,_,rfl,rfl,M.tu,rfl,lm,_,.inl ⟨rfl,M.m.1⟩,_,rfl,QS ?_⟩;refine⟨λag H'=>∃c2:Option V,ag=[some (.ref J),some (.ref wh),c2,none,none,none,none]/\Same H H',?_,?_⟩
 .refine⟨_,rfl,J,_,2,_,rfl,rfl,M.tu,rfl,lm,rfl,⟨_,M.m.1⟩,?_⟩;refine Q2 (K:=K) (xs:=ms.map λm=>V.ref m.1) (λi σ H'=>∃c2:Option V,σ=[some (.ref J),some (.ref wh),c2,none,none,none,none]/\Same H H') ⟨none,rfl,λ_ _ e=>e⟩ ?_ ?_ ?_
  .rintro i σ H' _ ⟨_,_,g⟩;exact g.seq M.m.1
  .rintro i x σ H' hx ⟨c2,rfl,g⟩;have ac:i<ms.length:=by have:=(aU.mp hx).1;simpa using this
   have Z:=aO ac;obtain rfl:x=.ref ms[i].1:=by
    rw [aJ,aD ac]at hx;exact(aI hx).symm
   generalize ms[i]=md at Z;obtain⟨d1,d2,d3⟩:=OC ((M.m.2 md Z).same g);obtain⟨L,ab,ah,hl,an,ao⟩:=hF.m md Z;have ar:=d3.length;have az:=(hW.rws L ab).1;have w1:=((hw.same g).2 L ab).2.1;refine⟨_,rfl,md.1,_,.inr ⟨rfl,d1⟩,_,rfl,QS ⟨_,rfl,md.1,_,rfl,.inr d1,rfl,_,rfl,WN rfl ⟨_,rfl,md.1,_,1,_,rfl,rfl,d1,rfl,md.2.2.1,_,.inl ⟨rfl,d2⟩,_,rfl,QS ?_⟩⟩⟩;refine⟨_,rfl,_,rfl,md.1,_,0,_,rfl,rfl,d1,rfl,wh,ks,L,by rw [ah];rfl,hw.same g,hW.ok.nd,ab,L.2.2.1,_,rfl,.inl w1,_,rfl,md.1,_,1,_,rfl,rfl,d1,rfl,md.2.2.1,_,rfl,.inl d2,rfl,_,rfl,WN (congrArg (λn:Nat=>V.int (n:Int)) (by rw [aE];lia)) ?_⟩;refine⟨_,rfl,md.1,_,1,_,rfl,rfl,d1,rfl,(by show 0<=sizeLine;decide),λpe as=>?_⟩;have ge:=Qd as (.lst []);refine⟨.list (tmds md.2.2.2.2),.list [],.lst (ge.seq d2) (d3.mono λ_ _=>ge.seqT).rd,.lst (SqL.of Qb) .nil,an,by decide,hr.fit (bX (f_ _ _) (by simp [PyData.depth,PyData.depthAll])),_,rfl,?_⟩;have ee:PyData.eqv (.list (tmds md.2.2.2.2)) (.list [])=false:=by
    rw [Ve];cases e:md.2.2.2.2 with
    | nil=>rw [e]at hl;simp at hl;lia
    | cons _ _=>rfl
   rw [aG (11:),ee];exact QS ⟨_,rfl,g.trans ge⟩
  .rintro σ H' ⟨c2,rfl,g⟩;exact⟨c2,rfl,g⟩
 rintro ag H1 ⟨c2,rfl,g1⟩;have aa:=M.same g1;have ai:=hw.same g1;refine⟨λag H'=>∃c3 c4 U Y:Option V,ag=[some (.ref J),some (.ref wh),c2,c3,c4,U,Y]/\Same H1 H',?_,?_⟩
 .refine⟨_,rfl,J,_,2,_,rfl,rfl,aa.tu,rfl,lm,rfl,⟨_,aa.m.1⟩,?_⟩;refine Q2 (K:=K) (xs:=ms.map λm=>V.ref m.1) (λi σ H'=>∃c3 c4 U Y:Option V,σ=[some (.ref J),some (.ref wh),c2,c3,c4,U,Y]/\Same H1 H') ⟨_,_,_,_,rfl,λ_ _ e=>e⟩ ?_ ?_ ?_
  .rintro i σ H' _ ⟨_,_,_,_,_,g⟩;exact g.seq aa.m.1
  .rintro i x σ H' hx ⟨c3,c4,U,Y,rfl,g⟩;have ac:i<ms.length:=by have:=(aU.mp hx).1;simpa using this
   have Z:=aO ac;obtain rfl:x=.ref ms[i].1:=by
    rw [aJ,aD ac]at hx;exact(aI hx).symm
   generalize ms[i]=md at Z;obtain⟨d1,d2,d3⟩:=OC ((aa.m.2 md Z).same g);obtain⟨L,ab,ah,hl,an,ao⟩:=hF.m md Z;have ar:=d3.length;obtain⟨w1,w2⟩:=((ai.same g).2 L ab).2;refine⟨md.1,_,rfl,d1,rfl,_,_,rfl,_,_,rfl,rfl,?_⟩;refine⟨_,rfl,_,rfl,wh,ks,L,by rw [ah];rfl,ai.same g,hW.ok.nd,ab,_,rfl,L.2.2.1,md.2.2.1,_,_,rfl,w1,d2,?_⟩;refine RJ (K:=K) (xs:=L.2.2.2.map λt=>V.ref t.1) (ys:=md.2.2.2.1) (by rw [aE];lia) (λj σ ae=>∃U Y:Option V,σ=[some (.ref J),some (.ref wh),c2,some (.str md.2.1),some (.ref md.2.2.1),U,Y]/\Same H' ae) ⟨_,_,rfl,λ_ _ e=>e⟩ ?_ ?_ ?_
   .rintro j σ ae _ ⟨_,_,_,gx⟩;exact⟨gx.seq w1,gx.seq d2⟩
   .rintro j u v p σ ae hu hv hp ⟨U,Y,rfl,gx⟩;have aj:j<L.2.2.2.length:=by have:=(aU.mp hu).1;simpa using this
    have ap:j<md.2.2.2.2.length:=by lia
    obtain rfl:u=.ref L.2.2.2[j].1:=by
     rw [aJ,aD aj]at hu;exact(aI hu).symm
    obtain⟨cv,au,av⟩:=d3.get (aD ap);obtain rfl:cv=v:=aI (au.symm.trans hv);have gp:=Qd hp (.tup [.ref L.2.2.2[j].1,cv]);have gg:=gx.trans gp;obtain⟨r1,r2⟩:=(w2 _ (aO aj)).same gg;obtain⟨u1,u2⟩:=ao j _ _ (aD aj) (aD ap);refine⟨p,_,rfl,SqT.of Qb,rfl,_,_,rfl,_,_,rfl,rfl,?_⟩;exact⟨_,rfl,_,rfl,L.2.2.2[j].1,_,1,_,rfl,rfl,r1,rfl,_,rfl,J,_,2,_,rfl,rfl,(g.trans gg).seqT aa.tu,rfl,cv,L.2.2.2[j].2.2.1,lm,_,L.2.2.2[j].2.2.2,ms,rfl,av.mono λ_ _=>gg.seqT,u1,r2,aa.m.same (g.trans gg),u2,λH4 g4=>⟨_,rfl,QS ⟨_,_,rfl,gg.trans g4⟩⟩⟩
   .rintro σ ae ⟨U,Y,rfl,gx⟩;exact⟨_,_,U,Y,rfl,g.trans gx⟩
  .rintro σ H' ⟨c3,c4,U,Y,rfl,g⟩;exact⟨c3,c4,U,Y,rfl,g⟩
 rintro ag H2 ⟨c3,c4,U,Y,rfl,g2⟩;have af:=aa.same g2;have aq:=ai.same g2;obtain⟨k0,ak⟩: ∃k0,ks[0]?=some k0:=⟨_,aD hW.pos⟩;refine⟨_,rfl,J,_,1,_,rfl,rfl,af.tu,rfl,_,rfl,wh,_,0,.ref k0.1,rfl,rfl,aq.1,Qq (j:=0) (by rw [aJ,ak];rfl),k0.1,_,0,_,rfl,rfl,(aq.2 k0 (aL ak)).1,rfl,(by show 1<=sizeLine;decide),λpb aw=>?_⟩;have g3:=Qd aw (.tup [.str k0.2.1]);exact⟨_,rfl,J,_,2,_,rfl,rfl,g3.seqT af.tu,rfl,sv,pb,lm,st,[k0.2.1],ms,rfl,af.s.mono λ_ _=>g3.seqT,hF.l,SqT.of Qb,af.m.same g3,hF.s k0 ak,λH4 g4=>q H4 (g1.trans (g2.trans (g3.trans g4)))⟩
end
end K41
namespace K41
open PySem L2 TM TT ST K9 K11
def GW(K:Fg)(T:Addr):Sp:=λvs H Q _=>∃(a:Addr)(ns:List Int),vs=[.ref a]/\SqL K H a (ns.map V.int)/\ns.length<=63/\H T=some (.tbl #[])/\∀H',Q (.bl true) H'
theorem N1{S:List Stp}(h:∀s∈S,SOk s/\ST.sl s<=4)(m:Int):SOk (lookS S m):=by
 unfold lookS;cases e:S[m.toNat]? with
 | none=>simp only [Option.getD_none,SOk]
 | some s=>exact(h s (aL e)).1
section
variable{K:Fg}{T:Addr}
theorem VA:FnScope ["_law_script","_law_wood_here","_law_turning_here","_law_tree_here","_law_found"] ["_law_script"] (defScope Gj):=(0:)
theorem AE(F:Fun K "law" "law" Gj f fd)(RW:Fn P w K mg base 2 "_law_wood" ["_law_script"] (Pp K))(RTu:Fn P w K mg base 5 "_law_turning" ["_law_script","_law_wood_here"] (N4 K))(RT:Fn P w K mg base 5 "_law_tree" ["_law_wood_here","_law_kind","_law_cells","_law_deep"] (Wo K 4))(RA:Fn P w K mg base 1 "_law_again" ["_law_turning_here"] (L4 K))(RE:Fn P w K mg base 41 "early" ["turning"] (Li K T))(RI:Fn P w K mg base 10 "_law_is_turning" ["_law_found","_law_wood_here"] (Oq K))(RU:Fn P w K mg base 52 "_law_outcome" ["_law_turning_here","_law_tree_here"] (Tf K)):FnOk P w K mg base CX0 53 f fd ["_law_script"] (GW K T):=by
 refine F.ok VA (7:) (λba A outer s H vs Q E L h=>?_)
 .obtain⟨a,ns,rfl,_⟩:=h
  rfl
 obtain⟨a,ns,rfl,hS,bb,aw,q⟩:=h;refine⟨_,(Qe (Ya (Qv (i:=1) VA.nd rfl (15:) (Qp RW L (Qa (pv 0) Qc))))
  (Qe (Ya (Qv (i:=2) VA.nd rfl (15:) (Qp RTu L (Qa (pv 0) (Qa (pv 1) Qc)))))
  (Qe (Ya (Qv (i:=3) VA.nd rfl (15:) (Qp RT L (Qa (pv 1) (Qa (Qk Qj (Qk QE (pv 1) Qf (λ_ _=>rfl)) Qf (λ_ _=>rfl)) (Qa (J7 Wc (pv 0) (Wq Qf) X8) (Qa (Qf) Qc)))))))
  (Qe (Ya (Qv (i:=4) VA.nd rfl (15:) (Qp RE L (Qa (Qp RA L (Qa (pv 2) Qc)) Qc))))
  (Qe (QK (QW (QF (Qp RI L (Qa (pv 4) (Qa (pv 1) Qc))))) (Qi (Ql ZE)) Qs)
  (Qi (Ql (ZI Wu (Qp RU L (Qa (pv 4) (Qa (pv 3) Qc))) (Qp RU L (Qa (pv 2) (Qa (pv 3) Qc))) (Qx _))))))))),?_⟩
 refine L2.let5 ?_
 intros
 refine R0 λKK G=>?_;refine⟨_,rfl,a,ns,rfl,hS,λwd ks H1 g1 hw J=>?_⟩;refine G _ _ ?_;clear G KK;refine R0 λKK G=>?_;refine⟨_,rfl,_,rfl,a,ns,wd,ks,rfl,g1.seq hS,hw,J,λt2 ak s2 U Y H2 g2 al Z=>?_⟩;refine G _ _ ?_;clear G KK;refine R0 λKK G=>?_;have kpos:=J.pos;have am:=aO J.pos;have k0:=aD J.pos;have ac:=al.w;have au:atI (ks.map λk=>V.ref k.1) 0=some (.ref ks[0].1):=Qq (j:=0) (by rw [aJ,k0];rfl);refine⟨_,rfl,_,rfl,wd,_,0,_,rfl,rfl,ac.1,au,ks[0].1,_,0,_,rfl,rfl,(ac.2 _ am).1,rfl,_,rfl,_,rfl,a,_,rfl,(g1.trans g2).seq hS,λld aa=>?_⟩;have ad:cutV (ns.map V.int) (some 14) none=NI (ns.drop 14):=by rw [show(14:Int)=((14:Nat):Int)from rfl,LI,<-List.map_drop]
 rw [ad];have gl:=Qd aa (.lst (NI (ns.drop 14)));refine⟨H2,wd,ld,ks,ks[0],3,ns.drop 14,rfl,ac,J,am,aa,gl,Qb,by decide,by decide,λtv Tr bc H3 an _ ax ay ae=>?_⟩;have g3:Same H2 H3:=Zs gl aa an;refine G _ _ ?_;clear G KK an gl ad aa;refine R0 λKK G=>?_;have ao:=al.same g3;have d3:=Z.three;refine⟨_,rfl,t2,wd,ak,s2,ks,U,Y,rfl,ao,J.ok,by lia,λtA wA lA kA mA H4 g4 az af ab=>?_⟩;have tb:TbS H4 T pL qL:=.inl (g4 _ _ (g3 _ _ (g2 _ _ (g1 _ _ aw))));have TU:=K41c.tu_copy af ab (CH J Z);have a0:mA.length=Y.length:=by have:=congrArg List.length ab;simpa using this
 have lK:kA.length=ks.length:=by have:=congrArg List.length af;simpa using this
 have hz:∀m∈mA,∀t∈m.2.2.2.2,Lz 4 t:=λm hm t ht=>by
  have z:m.md∈Y.map MdT.md:=by rw [<-ab];exact aK.mpr ⟨m,hm,rfl⟩
  obtain⟨m',a1,e⟩:=aK.mp z;have e2:m'.2.2.2.2=m.2.2.2.2:=congrArg (λx:Md=>x.2) e;obtain⟨_,_,_,_,hz⟩:=Z.md m' a1;exact(hz t (by rw [e2];exact ht)).2
 have a3:CallsIn (mA.map MdT.md).length U:=λc hc=>by
  obtain⟨c1,c2,_⟩:=TPr.cl (Z.sc _ k0) c hc;rw [aE,a0];exact⟨c1,by lia⟩
 refine⟨tA,wA,lA,s2,kA,U,mA,rfl,tb,az,by have:=J.three;lia,TU,λn a4=>?_⟩;have hy:=BQ TU (5:) hz a4;have ho:=AO TU.rl.ok (K41c.leaf_ok TU) n;obtain⟨qs,hE,hG⟩:=Ca hy Z.sl.1 a3 rfl;refine⟨ho,_,_,qs,hE,λtE H5 hO=>?_⟩;refine G _ _ ?_;clear G KK;obtain⟨wE,lE,sE,kE,mE,x5,_,ag,a5,ap,a6,aq⟩:=hO;have bd:Same H H4:=g1.trans (g2.trans (g3.trans g4));obtain⟨be,av⟩:=tb.at;have kS:KeepS K H4 H5:=KeepS.tb av x5;rw [ab]at hy ap hG aq;have R:Res (D (rlOf kA mA) n) U Y qs mE:=⟨hy,λm=>N1 ho m,hE.ln,ap,hG,a6,aq⟩;have hF:=R.ft J Z;have ah:kE.map Z1=ks.map Z1:=a5.trans af;have ai:∀M,Qt kE M=Qt ks M:=λM=>On ah M;have a9:=ag;have ar:=TurnD.keep kS (ao.same g4);have aj:TrV K H5 tv Tr:=(ax.mono λ_ _=>g4.seqT).mono kS.t;obtain⟨n1,r1,o,m1,c1,p1⟩:=Se J Z k0 ay ae;refine⟨_,rfl,_,rfl,tE,wE,lE,wd,sE,kE,ks,_,mE,rfl,ag,ar.w,J,ah,hF,λH6 g6=>⟨_,rfl,QS ?_⟩⟩;refine⟨_,rfl,_,rfl,tE,wE,lE,sE,tv,kE,_,mE,Tr,o,rfl,ag.same g6,WoodOk.dW ah J.ok,aj.mono λ_ _=>g6.seqT,ae,hF.l,λc hc=>(hF.s _ k0 c hc).nn,R.out ai m1,BE J ai hF,λv1 H7 g7 a7=>?_⟩;have as:=g6.trans g7;have:=Z.sl.1.1;refine⟨_,rfl,_,rfl,t2,wd,ak,s2,tv,ks,U,Y,Tr,o,rfl,ar.same as,J.ok,aj.mono λ_ _=>as.seqT,ae,by lia,n1,m1,r1,λv2 H8 g8 a8=>?_⟩;refine⟨td o,td o,K9.TrV.rd (a7.mono λ_ _=>g8.seqT),K9.TrV.rd a8,c1,c1,L.fit (5:),?_⟩;rw [aG (11:),Yw _ c1];exact q _
end
end K41
namespace L2
theorem ln1{α:Type}{us:List α}(h:us.length=1):∃a,us=[a]:=fU.mp h
theorem ln2{α:Type}{us:List α}(h:us.length=2):∃a b,us=[a,b]:=by
 match us,h with
 | [a,b],_=>exact⟨a,b,rfl⟩
theorem ln3{α:Type}{us:List α}(h:us.length=3):∃a b c,us=[a,b,c]:=by
 match us,h with
 | [a,b,c],_=>exact⟨a,b,c,rfl⟩
theorem ln4{α:Type}{us:List α}(h:us.length=4):∃a b c d,us=[a,b,c,d]:=by
 match us,h with
 | [a,b,c,d],_=>exact⟨a,b,c,d,rfl⟩
end L2
namespace L2
open PySem
structure MethAt(K:Fg)(C:Addr)(m qual:Str)(st:Stmt):Prop where
 ex:∃(f:Addr)(oc:Value)(od:Option Addr)(kV doc pm:Value)(an:Option Addr)(cdv ct:Value)(osl:Array (Option Value)),
  PySem.W.findIn K (.ref C) m=some (some (.ref f))/\PySem.W.isFn K (.ref f)=true/\K.lookup f=some ⟨oc,od,.func (PySem.W.fnOf m qual (defArgs st) (defBody st) (defScope st) .none kV doc pm an cdv ct),osl⟩/\PySem.W.codeIn K cdv qual=true/\PySem.W.keepIn K (.ref f)=true
theorem MethAt.mk'{K:Fg}{C:Addr}{m:Str}{st:Stmt}{kV:Value}
 (a:PySem.W.findIn K (.ref C) m=some (some (.ref f))) (i:PySem.W.isFn K (.ref f)=true) (l:K.lookup f=some ⟨oc,od,.func (PySem.W.fnOf m qual (defArgs st) (defBody st) (defScope st) .none kV doc pm an cdv ct),osl⟩) (c:PySem.W.codeIn K cdv qual=true) (k:PySem.W.keepIn K (.ref f)=true):MethAt K C m qual st:=
 ⟨f,oc,od,kV,doc,pm,an,cdv,ct,osl,a,i,l,c,k⟩
end L2
namespace K41c
open PySem L2 K41
structure StgK(K:Fg):Prop where
 ex:∃C:Addr,PySem.W.nsIn K mainGlobals "Stages"=some (some (.ref C))/\Cls K C/\NoAttr K C "modes"/\ NoAttr K C "callers"/\ NoAttr K C "stumps"/\ NoAttr K C "waiting"/\ PySem.W.makesIn K C=true/\PySem.W.keepIn K (.ref C)=true/\
  MethAt K C "__init__" "Stages.__init__" WR/\MethAt K C "is_last" "Stages.is_last" Us/\MethAt K C "go_on" "Stages.go_on" Vb
theorem StgK.mk'{K:Fg}{C:Addr}(aC:PySem.W.nsIn K mainGlobals "Stages"=some (some (.ref C)))(pg:PySem.W.plainGet K C Str.empty=true)(hd:PySem.W.hasDictIn K C=true)(po:PySem.W.plainOver K C=true)
 (sa:PySem.W.findIn K (.ref C) "__setattr__"=some (some (.builtin "object.__setattr__"))) (n1:PySem.W.findIn K (.ref C) "modes"=some none) (n2:PySem.W.findIn K (.ref C) "callers"=some none) (n3:PySem.W.findIn K (.ref C) "stumps"=some none) (n4:PySem.W.findIn K (.ref C) "waiting"=some none)
 (mk:PySem.W.makesIn K C=true) (kc:PySem.W.keepIn K (.ref C)=true) (m1:MethAt K C "__init__" "Stages.__init__" WR) (m2:MethAt K C "is_last" "Stages.is_last" Us) (m3:MethAt K C "go_on" "Stages.go_on" Vb):StgK K:=
 ⟨C,aC,⟨pg,hd,po,sa⟩,n1,n2,n3,n4,mk,kc,m1,m2,m3⟩
theorem StgK.m{P:Program}{w:World}{K:Fg}{mg:Str->Option Value}{base h:Heap}(S:StgK K)(X:K.In h)(N:h.Ns mainGlobals mg)(G:Gm mg)(RC:Fn P w K mg base 6 "callers_by_modes" ["modes"] (TK K))(RL:Fn P w K mg base 7 "leaf_stump" ["wood","kind","rules"] (Rw K))
 (RA:Fn P w K mg base 1 "all_rules" ["modes"] (RQ K)) (RM:Fn P w K mg base 6 "met" ["one","other"] (Uj K 5)) (RR:Fn P w K mg base 5 "rule_stump" ["rule","stumps"] (Xd K 4)):∃C,StgM P w K mg base C:=by
 obtain⟨C,aC,cl,n1,n2,n3,n4,mk,kc,m1,m2,m3⟩:=S.ex;have T:StgT K mg C:=⟨cl,n1,n2,n3,n4,dC X N aC⟩;obtain⟨f1,aj,ak,al,aa,am,an,ab,ao,ac,L,i1,l1,c1,k1⟩:=m1.ex;obtain⟨f2,ap,aq,ar,ad,as,au,ae,av,af,a2,i2,l2,c2,M⟩:=m2.ex;obtain⟨f3,aw,ax,ay,ag,az,a0,ah,a4,ai,a3,i3,l3,c3,U⟩:=m3.ex;have Y:=Z5 (st:=WR) l1 c1 k1;have Z:=Z5 (st:=Us) l2 c2 M;have F3:=Z5 (st:=Vb) l3 c3 U;have b1:Binds K _ ["self","turning"] []:=Y.binds λ_ _ _ _ _ _ us J=>by obtain⟨L,a2,rfl⟩:=ln2 J;rfl
 have b2:Binds K _ ["self"] []:=Z.binds λ_ _ _ _ _ _ us J=>by obtain⟨L,rfl⟩:=ln1 J;rfl
 have b3:Binds K _ ["self"] []:=F3.binds λ_ _ _ _ _ _ us J=>by obtain⟨L,rfl⟩:=ln1 J;rfl
 exact⟨C,T,⟨f1,_,⟨mk,L,i1,kc⟩,Rx Y G T RC RL RA,b1⟩,⟨f2,_,⟨a2,i2,M⟩,BW Z G T,b2⟩,⟨f3,_,⟨a3,i3,U⟩,B7 F3 G T RM RR,b3⟩⟩
end K41c
namespace L2
open PySem PySem.Spec PyProof.Rows
structure Cc(P:Program)(w:World)(K:Fg)(mg:Str->Option Value)(base h:Heap):Prop where
 x:K.In h
 n:h.Ns mainGlobals mg
section
variable{K:Fg}{k:Nat}{p1 p2 p3 p4 p5 p6:Str}{st:Stmt}
abbrev FOk(P:Program)(w:World)(K:Fg)(mg:Str->Option Value)(base:Heap)(k:Nat)(x:Str)(st:Stmt)(sp:Sp)(ps:List Str):Prop:=∀(f:Addr)(fd:FuncData),Fun K x x st f fd->Binds K fd ps []->mg x=some (.ref f)->FnOk P w K mg base CX0 k f fd ps sp
abbrev BOk(x:Str)(st:Stmt)(ps:List Str)(us:List Value):Prop:=∀(kV doc pm:Value)(an:Option Addr)(cdv ct:Value),bindArgs (PySem.W.fnOf x x (defArgs st) (defBody st) (defScope st) .none kV doc pm an cdv ct) ⟨us,[]⟩=pure (ps.zip us)
theorem DefAt.fr(D:DefAt K x st)(C:Cc P w K mg base h)(ok:FOk P w K mg base k x st sp ps)(hb:∀us:List Value,us.length=ps.length->BOk x st ps us):Fn P w K mg base k x ps sp:=by
 obtain⟨f,U,Y,kV,J,Z,an,L,ct,M,a,l,c,kp⟩:=D.ex;have F:=Z5 (st:=st) l c kp;have b:=F.binds (ps:=ps) λ_ _ _ _ _ _ us G=>hb us G _ _ _ _ _ _;have m:=dC C.x C.n a;exact⟨f,_,ok f _ F b m,b,kp,m⟩
theorem DefAt.f1(D:DefAt K x st)(C:Cc P w K mg base h)(ok:FOk P w K mg base k x st sp [p1])(hb:∀a,BOk x st [p1] [a]:=by intros;exact λ_ _ _ _ _ _=>rfl):Fn P w K mg base k x [p1] sp:=D.fr C ok λG h=>match G,h with | [a],_=>hb a
theorem DefAt.f2(D:DefAt K x st)(C:Cc P w K mg base h)(ok:FOk P w K mg base k x st sp [p1,p2])(hb:∀a b,BOk x st [p1,p2] [a,b]:=by intros;exact λ_ _ _ _ _ _=>rfl):Fn P w K mg base k x [p1,p2] sp:=D.fr C ok λG h=>match G,h with | [a,b],_=>hb a b
theorem DefAt.f3(D:DefAt K x st)(C:Cc P w K mg base h)(ok:FOk P w K mg base k x st sp [p1,p2,p3])(hb:∀a b c,BOk x st [p1,p2,p3] [a,b,c]:=by intros;exact λ_ _ _ _ _ _=>rfl):Fn P w K mg base k x [p1,p2,p3] sp:=D.fr C ok λG h=>match G,h with | [a,b,c],_=>hb a b c
theorem DefAt.f4(D:DefAt K x st)(C:Cc P w K mg base h)(ok:FOk P w K mg base k x st sp [p1,p2,p3,p4])(hb:∀a b c d,BOk x st [p1,p2,p3,p4] [a,b,c,d]:=by intros;exact λ_ _ _ _ _ _=>rfl):Fn P w K mg base k x [p1,p2,p3,p4] sp:=D.fr C ok λG h=>match G,h with | [a,b,c,d],_=>hb a b c d
theorem DefAt.f5(D:DefAt K x st)(C:Cc P w K mg base h)(ok:FOk P w K mg base k x st sp [p1,p2,p3,p4,p5])(hb:∀a b c d e,BOk x st [p1,p2,p3,p4,p5] [a,b,c,d,e]:=by intros;exact λ_ _ _ _ _ _=>rfl):Fn P w K mg base k x [p1,p2,p3,p4,p5] sp:=D.fr C ok λG h=>match G,h with | [a,b,c,d,e],_=>hb a b c d e
end
end L2
namespace K41
open PySem L2
theorem all_mk{l:PySem.W.OpenLaw}{K:Fg}(X:K.In h)(N:h.Ns mainGlobals mg)(hfa:mg "law"=some (.ref fa))
 (d1:DefAt K "is_open" K41c.sIsO) (d2:DefAt K "head" K41c.sHead) (d3:DefAt K "met" K41c.sMet) (d4:DefAt K "stump_at" sSA) (d5:DefAt K "is_call" Mn) (d6:DefAt K "term_size" R5) (d7:DefAt K "term_levels" Sl) (d8:DefAt K "calls_of" sCO) (d9:DefAt K "down_to" sDn) (d10:DefAt K "with_modes" sWM) (d11:DefAt K "with_parts" sWP) (d12:DefAt K "own_wood" TN) (d13:DefAt K "rows_of" K41c.sRowsOf) (d14:DefAt K "commons" K41c.sCommons) (d15:DefAt K "all_rules" K41c.sAR) (d16:DefAt K "callers_by_modes" K41c.sCB) (d17:DefAt K "leaf_stump" K41c.sLS) (d18:DefAt K "rule_stump" K41c.sRS) (d19:DefAt K "as_met" Wv) (d20:DefAt K "number_calls" PY) (d21:DefAt K "numbered_mode" Nn) (d22:DefAt K "early" sEa) (d23:DefAt K "early_by" sEB) (d24:DefAt K "early_mode" sEM) (d25:DefAt K "early_term" sET) (d26:DefAt K "stumps_in" sSI) (d27:DefAt K "stump_term" sST) (d28:DefAt K "_law_cell_at" Pd) (d29:DefAt K "_law_stream" Wb) (d30:DefAt K "_law_names" VZ) (d31:DefAt K "_law_wood" OO) (d32:DefAt K "_law_rows" OI) (d33:DefAt K "_law_calls" V7) (d34:DefAt K "_law_term" G2) (d35:DefAt K "_law_unkept" P8) (d36:DefAt K "_law_turning" NZ) (d37:DefAt K "_law_again" Ga) (d38:DefAt K "_law_is_whole" sWh) (d39:DefAt K "_law_is_term" P3) (d40:DefAt K "_law_is_turning" PJ) (d41:DefAt K "_law_tree" WA) (d42:DefAt K "_law_put" Nr) (d43:DefAt K "_law_by" sBy) (d44:DefAt K "_law_outcome" Av) (d45:DefAt K "law" Gj)
 (z1:PySem.W.nsIn K mainGlobals "len"=some none) (z2:PySem.W.nsIn K mainGlobals "isinstance"=some none) (z3:PySem.W.nsIn K mainGlobals "bool"=some none) (z4:PySem.W.nsIn K mainGlobals "int"=some none) (z5:PySem.W.nsIn K mainGlobals "str"=some none) (z6:PySem.W.nsIn K mainGlobals "tuple"=some none) (z7:PySem.W.nsIn K mainGlobals "list"=some none) (z8:PySem.W.nsIn K mainGlobals "range"=some none) (z9:PySem.W.nsIn K mainGlobals "sum"=some none) (z10:PySem.W.nsIn K mainGlobals "max"=some none) (z11:PySem.W.nsIn K mainGlobals "sorted"=some none) (z12:PySem.W.nsIn K mainGlobals "zip"=some none) (z13:PySem.W.nsIn K mainGlobals "all"=some none) (z14:PySem.W.nsIn K mainGlobals "any"=some none) (z15:PySem.W.nsIn K mainGlobals "enumerate"=some none) (z16:PySem.W.nsIn K mainGlobals "dict"=some none)  (o1:OneAt K "OPEN" YY) (ht1:PySem.W.tabIn K "early_by"=some (c1,T1)) (hh1:PySem.W.codeHdIn K c1 T1=true)  {tA tB tC:Tok} (gA:PySem.W.nsIn K mainGlobals "MOST_SIZE"=some (some (.int 400 tA))) (gB:PySem.W.nsIn K mainGlobals "MOST_LEVELS"=some (some (.int 60 tB))) (gC:PySem.W.nsIn K mainGlobals "MOST_MODES"=some (some (.int 200 tC))) (s1:K41c.StgK K):
 ∃fd:FuncData,(∀(s:Shared)(v:Value),BindsTo s fd ⟨[v],[]⟩ [("_law_script",v)])/\∀base:Heap,K.In base->base.Ns mainGlobals mg->Wk mg base->FnOk l.prog w K mg base CX0 53 fa fd ["_law_script"] (GW K T1):=by
 have G:Gm mg:=⟨cH X N z1,cH X N z2,cH X N z3,cH X N z4,cH X N z5,cH X N z6,cH X N z7,cH X N z8,cH X N z9,cH X N z10,cH X N z11,cH X N z12,cH X N z13,cH X N z14,cH X N z15,cH X N z16⟩;have J:∀g:Heap,Cc l.prog w K mg g h:=λ_=>⟨X,N⟩;obtain⟨f,oc,od,kV,Y,pm,an,Z,ct,ab,a,lk,c,kp⟩:=d45.ex;have e:=hfa.symm.trans (dC X N a);cases e;have F:=Z5 (st:=Gj) lk c kp;refine⟨PySem.W.fnOf "law" "law" (defArgs Gj) (defBody Gj) (defScope Gj) .none kV Y pm an Z ct,λs v=>.of_eq rfl,λbase _ _ hB=>?_⟩;obtain⟨b0,ac,aa⟩:=o1.at X N;have rO:=d1.f1 (J base) λf fd F _ _=>K41c.ok_isO F;have rH:=d2.f1 (J base) λf fd F _ _=>K41c.ok_head F G;have rM:=d3.f2 (k:=6) (J base) λf fd F L a=>K41c.all_met F G ac aa rO rH L a 5;have ad:=d5.f1 (J base) λf fd F _ _=>K41c.ok_isC F;have al:=d8.f1 (k:=5) (J base) λf fd F L a=>K41c.all_co F G ad L a 4;have am:=d13.f2 (J base) λf fd F _ _=>K41c.ok_rowsOf F G;have ae:=d18.f2 (k:=5) (J base) λf fd F L a=>K41c.all_rs F G ac aa ad L a 4;have ao:=d17.f3 (J base) λf fd F _ _=>K41c.ok_ls F G am ae rM;have af:=d15.f1 (J base) λf fd F _ _=>K41c.ok_ar F G;have ap:=d16.f1 (J base) λf fd F _ _=>K41c.ok_cb F G af al;have aq:mg "MOST_SIZE"=some (.int 400 tA):=dC X N gA;have ar:mg "MOST_LEVELS"=some (.int 60 tB):=dC X N gB;have as:mg "MOST_MODES"=some (.int 200 tC):=dC X N gC;obtain⟨C,MC⟩:=s1.m (P:=l.prog) (w:=w) (base:=base) X N G ap ao af rM ae;have M:=λg:Heap=>d5.f1 (J g) λf fd F _ _=>Al F G;have ag:=λg:Heap=>d11.f2 (J g) λf fd F _ _=>BK F G;have au:=λg:Heap=>d6.f1 (k:=11) (J g) λf fd F L a=>OQ F G (M g) L a 10;have av:=λg:Heap=>d7.f1 (k:=11) (J g) λf fd F L a=>Pc F G (M g) L a 10;have aw:=λg:Heap=>d8.f1 (k:=11) (J g) λf fd F L a=>OK F G (M g) L a 10;have ah:=λg:Heap=>d10.f2 (k:=11) (J g) λf fd F L a=>Oo F G (M g) (ag g) L a 10;have ax:=λg:Heap=>d12.f1 (J g) λf fd F _ _=>SK F G;have ay:=λg:Heap=>d20.f3 (J g) λf fd F _ _=>A9 F G (aw g);have az:=λg:Heap=>d21.f2 (J g) λf fd F _ _=>A8 F G (ah g);have a0:=λg:Heap=>d1.f1 (J g) λf fd F _ _=>K41c.ok_isO F;have a5:=λg:Heap=>d4.f2 (J g) λf fd F _ _=>BJ F G;have a6:=λg:Heap=>d9.f2 (J g) λf fd F _ _=>A3 F G (M g);have a7:=λg:Heap=>d27.f4 (k:=5) (J g) λf fd F L a=>Oe F G (a0 g) L a 4;have a8:=λg:Heap=>d26.f3 (k:=9) (J g) λf fd F L a=>N3 F G (M g) (a7 g) (a5 g) (ag g) L a 4;have ai:=λg:Heap=>d25.f3 (J g) λf fd F _ _=>Cj F aq ar (a6 g) (a8 g) (au g) (av g);have a9:=λg:Heap=>d24.f3 (J g) λf fd F _ _=>Bj F G (ai g);obtain⟨fA,b1,b3,b4,bt,b5,b6,bu,b7,bv,aA,ba,cA,aj⟩:=d19.ex;have ak:=Z5 (st:=Wv) ba cA aj;have bb:=dC X N aA;have bA:Binds K _ ["wood","start","mode_by","most"] []:=ak.binds (λ_ _ _ _ _ _ us U=>by obtain⟨a1,a2,a3,a4,rfl⟩:=ln4 U;rfl);have FA:=λg:Heap=>Bc (P:=l.prog) (w:=w) (mg:=mg) (base:=g) (k:=14) (n:=10) ak G (ay g) (ax g) (ah g) (az g);have bc:=d14.f1 (J base) λf fd F _ _=>K41c.ok_cm F G MC;have bd:Fn l.prog w K mg base 40 "early_by" ["turning","stumps"] (AX K T1):=by
  obtain⟨f,oc,od,kV,Y,pm,an,Z,ct,ab,a,lk,c,kp⟩:=d23.ex;have F:=Z5 (st:=sEB) lk c kp;have L:Binds K _ ["turning","stumps"] []:=F.binds λ_ _ _ _ _ _ us U=>by obtain⟨a1,a2,rfl⟩:=ln2 U;rfl
  exact⟨f,_,A2 F a ht1 hh1 hB (ai base) as FA bb aj bA a9,L,kp,dC X N a⟩
 have be:=d22.f1 (J base) λf fd F _ _=>CG F bc bd;have rC:=d28.f2 (J base) λf fd F _ _=>Rs F G;have rS:=d29.f2 (J base) λf fd F _ _=>MS F G;have rN:=d30.f2 (J base) λf fd F _ _=>OY F G;have rW:=d31.f1 (J base) λf fd F _ _=>Rp F G rC rS rN;have rR:=d32.f2 (J base) λf fd F _ _=>SL F;have rL:=d33.f2 (J base) λf fd F _ _=>OP F G;have rT:=d34.f5 (k:=4) (J base) λf fd F L a=>WS F G L a 3;have rU:=d35.f1 (k:=4) (J base) λf fd F L a=>Lo F G L a 4;have bf:=d36.f2 (J base) λf fd F _ _=>R1 F G rC rS rN rR rL rT rU;have rA:=d37.f1 (J base) λf fd F _ _=>OE F G;have bg:=d38.f1 (J base) λf fd F _ _=>CC F G;have bh:=d39.f3 (k:=9) (J base) λf fd F L a=>LA F G bg L a 8;have bi:=d40.f2 (J base) λf fd F _ _=>Ru F G rR bh;have bj:=d41.f4 (k:=5) (J base) λf fd F L a=>Va F G rR L a 4;have bn:Fn l.prog w K mg base 51 "_law_put" ["_law_turning_here","_law_term_here","_law_mark","_law_branches"] (U1 K 48):=by
  obtain⟨f,oc,od,kV,Y,pm,an,Z,ct,ab,a,lk,c,kp⟩:=d42.ex;have F:=Z5 (st:=Nr) lk c kp;have L:Binds K _ ["_law_turning_here","_law_term_here","_law_mark","_law_branches"] []:=F.binds λ_ _ _ _ _ _ us U=>by obtain⟨a1,a2,a3,a4,rfl⟩:=ln4 U;rfl
  obtain⟨f2,b8,b9,ca,bw,cb,cc,bx,ce,bz,a2,bo,c2,bp⟩:=d43.ex;have F2:=Z5 (st:=sBy) bo c2 bp;have bq:Binds K _ ["_law_turning_here","_law_mode","_law_tree_here"] []:=F2.binds λ_ _ _ _ _ _ us U=>by obtain⟨a1,a2,a3,rfl⟩:=ln3 U;rfl
  exact⟨f,_,(LP F F2 G rR L bq (dC X N a) (dC X N a2) 48).1,L,kp,dC X N a⟩
 have br:=d44.f2 (J base) λf fd F _ _=>TB F G bn;exact AE F rW bf bj rA be bi br
theorem walk{l:PySem.W.OpenLaw}{q:Program}{d:DefRec}{K:Params->Fg}(hn:l.most=some 63)(hdf:d.params.defaults=[])
 (hY:∀(w:World)(h:Heap),YP w h->(K w.params).In h) (tb1:∀w:World,TabAt q (K w.params) "early_by" c1 T1)
 (F:∀(w:World)(mg:Str->Option Value)(fa:Addr)(h:Heap),(K w.params).In h->h.Ns mainGlobals mg->mg d.name=some (.ref fa)->
  ∃fd:FuncData,(∀(s:Shared)(u:Value),BindsTo s fd ⟨[u],[]⟩ [("_law_script",u)])/\∀base:Heap,(K w.params).In base->base.Ns mainGlobals mg->Wk mg base->FnOk l.prog w (K w.params) mg base CX0 53 fa fd ["_law_script"] (GW (K w.params) T1)):
 PySem.W.WalkO q loose XP YP l.row.toRowW d [] (λf vs=>PySem.call f vs):=
 L2.walk_ofT (n:=63) (k:=53) (x:="_law_script") (tabs:=[("early_by",c1,T1)]) (sp:=λw=>GW (K w.params) T1) hn (11:) hdf ⟨rfl,by decide,by decide⟩ hY (λw p hp=>by
  simp only [aM,List.not_mem_nil,bQ]at hp;rcases hp with rfl
  .exact tb1 w) F (λ_ _ a G J L M=>⟨a,G,rfl,L,J,M ("early_by",c1,T1) (17:),λ_=>rfl⟩)
end K41
section
open PySem
def K41.vS(x:String)(n:Nat):Value:=.str (hJ x) n
def K41.mN:Value:=.str (hJ "law_turnery_k41_early_makes_the_same") 498
def K41.vR(a:Nat):Value:=.ref a
def K41.vI(i:Int)(n:Nat):Value:=.int i n
def K41.hE(P:Params)(x:String)(n:Nat)(v:Value):DictEntry:=⟨PyData.keyHash P (hJ x),.str (hJ x) n,v⟩
def K41.vN:Value:=.none
def K41.vF:Value:=.type "function"
def K41.vT:Value:=.bool true
def K41.i0:Value:=.int 0 0
def K41.i3:Value:=.int 3 0
def K41.i1:Value:=.int 181 0
def K41.cP(k:Nat):Value:=.str (hJ "/claim/cut.py") k
def K41.oT(x:Array Value):Obj:=Obj.mk (Value.type "tuple") none (Data.seq x) #[]
def K41.oC(x:Array Value):Obj:=Obj.mk (Value.type "code") none (Data.fields x) #[]
def K41.oD(n q:String)(a:Nat)(b c:Int)(d e:Nat):Obj:=oC #[vS n a,vS q (a+1),cP (a+2),vI b 0,vI c 0,i0,i0,i3,vR d,vT,i1,vR (d+1),vN,vR (d+2),vR (d+3),vR (d+4),vI (Int.ofNat e) 0,vI b 0,cP (e+1)]
def K41.oZ(n q:String)(a:Nat)(b c:Int)(d e f:Nat):Obj:=oC #[vS n a,vS q (a+1),cP (a+2),vI b 0,vI c 0,i0,i0,i3,vR d,vT,i1,vR (d+1),vN,vN,vN,vR f,vI (Int.ofNat e) 0,vI b 0,cP (e+1)]
def K41.oF(c:Value)(x y:String)(s:Stmt)(k:Nat)(pm cd:Value):Obj:=Obj.mk c none (Data.func (FuncData.mk (hJ x) (hJ y) (L2.defArgs s) (.stmts (L2.defBody s)) (L2.defScope s) k [] Value.none Value.none Value.none pm none cd Value.none 0)) #[]
open K41
def K41.oE:Obj:={ cls:=vN,data:=Data.fields #[] }
def K41.o1(n:String)(a:Nat)(b c:Int)(d e:Nat):gY->gZ:=λ_=>oD n n a b c d e
def K41.o2(n:String)(a:Nat)(b c:Int)(d e f:Nat):gY->gZ:=λ_=>oZ n n a b c d e f
def K41.oL(n:String)(i:Nat)(m:Value)(j:Nat):gY->gZ:=λ_=>oF vF n n (top i) 3 m (vR j)
def K41.oN(n:String)(i:Nat):gY->gZ:=λ_=>oF vN n n (top i) 0 vN vN
def K41.l3(P:gY):List DictEntry:=[hE P "__doc__" 166 vN,hE P "__package__" 167 vN,hE P "__loader__" 168 (Value.builtin "__main__.__loader__#opaque"),hE P "__spec__" 169 vN,hE P "__annotations__" 170 (vR 6),hE P "__builtins__" 171 (vR 4),hE P "__file__" 173 (cP 172),hE P "__cached__" 174 vN,hE P "OPEN" 190 (vR 15),hE P "is_open" 197 (vR 22),hE P "head" 204 (vR 29),hE P "met" 210 (vR 34),hE P "stump_at" 220 (vR 41),hE P "is_call" 229 (vR 48),hE P "term_size" 235 (vR 53),hE P "term_levels" 241 (vR 58),hE P "calls_of" 250 (vR 65),hE P "down_to" 261 (vR 72),hE P "with_modes" 267 (vR 77),hE P "with_parts" 275 (vR 84),hE P "TurnError" 295 (vR 94),hE P "TooGreat" 311 (vR 107),hE P "own_wood" 319 (vR 114),hE P "rows_of" 327 (vR 121),hE P "commons" 337 (vR 128),hE P "Stages" 386 (vR 157),hE P "all_rules" 392 (vR 166),hE P "callers_by_modes" 398 (vR 171),hE P "leaf_stump" 404 (vR 176),hE P "rule_stump" 410 (vR 181),hE P "as_met" 418 (vR 186),hE P "number_calls" 429 (vR 193),hE P "numbered_mode" 435 (vR 198),hE P "MOST_MODES" 439 (vI 200 438),hE P "MOST_SIZE" 441 (vI 400 440),hE P "MOST_LEVELS" 443 (vI 60 442),hE P "early" 450 (vR 205),hE P "early_by" 461 (vR 212),hE P "early_mode" 467 (vR 217),hE P "early_term" 478 (vR 224),hE P "stumps_in" 484 (vR 229),hE P "stump_term" 497 (vR 236),hE P "_law_cell_at" 507 (vR 243),hE P "_law_stream" 518 (vR 250),hE P "_law_names" 534 (vR 257),hE P "_law_wood" 551 (vR 264),hE P "_law_rows" 561 (vR 271),hE P "_law_calls" 572 (vR 278),hE P "_law_term" 578 (vR 283),hE P "_law_unkept" 584 (vR 288),hE P "_law_turning" 590 (vR 293),hE P "_law_again" 596 (vR 298),hE P "_law_is_whole" 603 (vR 305),hE P "_law_is_term" 609 (vR 310),hE P "_law_is_turning" 622 (vR 317),hE P "_law_tree" 628 (vR 322),hE P "_law_put" 634 (vR 327),hE P "_law_by" 640 (vR 332),hE P "_law_outcome" 648 (vR 339),hE P "law" 659 (vR 346)]
def K41.x3(P:gY):gZ:=Obj.mk (Value.type "dict") none (Data.dict (hE P "__name__" 165 mN::l3 P).toArray 61) #[]
def K41.x21:=o1 "is_open" 191 3 1 16 195
def K41.x22:=oL "is_open" 2 (vS "turnery.stumps" 187) 21
def K41.x28:=o1 "head" 198 5 1 23 202
def K41.x29:=oL "head" 3 (vS "turnery.stumps" 187) 28
def K41.x33:=o2 "met" 205 7 2 30 208 32
def K41.x34:=oL "met" 4 (vS "turnery.stumps" 187) 33
def K41.x37(P:gY):gZ:=oT #[vS "stump" 214,vS "place" 215,vS "here" 216,vS "number" 217]
def K41.x40:=o1 "stump_at" 211 11 2 35 218
def K41.x41:=oL "stump_at" 5 (vS "turnery.stumps" 187) 40
def K41.x47:=o1 "is_call" 223 17 1 42 227
def K41.x48:=oL "is_call" 7 (vS "turnery.terms" 221) 47
def K41.x52:=o2 "term_size" 230 19 1 49 233 51
def K41.x53:=oL "term_size" 8 (vS "turnery.terms" 221) 52
def K41.x57:=o2 "term_levels" 236 23 1 54 239 56
def K41.x58:=oL "term_levels" 9 (vS "turnery.terms" 221) 57
def K41.x61(P:gY):gZ:=oT #[vS "term" 245,vS "told" 246,vS "part" 247]
def K41.x64:=o1 "calls_of" 242 27 1 59 248
def K41.x65:=oL "calls_of" 10 (vS "turnery.terms" 221) 64
def K41.x68(P:gY):gZ:=oT #[vS "term" 254,vS "place" 255,vS "here" 256,vS "gone" 257,vS "number" 258]
def K41.x71:=o1 "down_to" 251 34 2 66 259
def K41.x72:=oL "down_to" 11 (vS "turnery.terms" 221) 71
def K41.x76:=o2 "with_modes" 262 41 2 73 265 75
def K41.x77:=oL "with_modes" 12 (vS "turnery.terms" 221) 76
def K41.x83:=o1 "with_parts" 268 45 2 78 273
def K41.x84:=oL "with_parts" 13 (vS "turnery.terms" 221) 83
def K41.x93(P:gY):gZ:=Obj.mk (Value.type "dict") none (Data.dict #[hE P "__module__" 285 (vS "turnery.errors" 276),hE P "__firstlineno__" 289 (vI 48 288),hE P "__static_attributes__" 290 (vR 92),hE P "__weakref__" 292 (vR 95),hE P "__doc__" 293 vN] 3) #[]
def K41.x94(P:gY):gZ:=Obj.mk (Value.type "type") none (Data.cls (ClassData.mk (hJ "TurnError") [Value.type "ValueError"] [vR 94,Value.type "ValueError",Value.type "Exception",Value.type "BaseException",Value.type "object"] 93 (hJ "TurnError") true [] [vR 107] false none false)) #[some (vR 85),none,some (vS "TurnError" 278),some (vS "TurnError" 286),some (Value.builtin "ValueError.__new__"),some (Value.bool true)]
def K41.x95(P:gY):gZ:=Obj.mk (Value.type "getset_descriptor") none (Data.fields #[vS "__weakref__" 291,vR 94,Value.builtin "ExceptionGroup.__weakref__",vN]) #[]
def K41.x106(P:gY):gZ:=Obj.mk (Value.type "dict") none (Data.dict #[hE P "__module__" 303 (vS "turnery.errors" 276),hE P "__firstlineno__" 307 (vI 50 306),hE P "__static_attributes__" 308 (vR 105),hE P "__doc__" 309 vN] 2) #[]
def K41.x107(P:gY):gZ:=Obj.mk (Value.type "type") none (Data.cls (ClassData.mk (hJ "TooGreat") [vR 94] [vR 107,vR 94,Value.type "ValueError",Value.type "Exception",Value.type "BaseException",Value.type "object"] 106 (hJ "TooGreat") true [] [] false none false)) #[some (vR 98),none,some (vS "TooGreat" 296),some (vS "TooGreat" 304),some (Value.builtin "ValueError.__new__"),some (Value.bool true)]
def K41.x113:=o2 "own_wood" 314 53 1 110 317 112
def K41.x114:=oL "own_wood" 18 (vS "turnery.woods" 312) 113
def K41.x120:=o1 "rows_of" 320 55 2 115 325
def K41.x121:=oL "rows_of" 19 (vS "turnery.woods" 312) 120
def K41.x127:=o1 "commons" 330 58 1 122 335
def K41.x128:=oL "commons" 21 (19:) 127
def K41.x139(P:gY):gZ:=oZ "__init__" "Stages.__init__" 350 65 2 136 353 138
def K41.x140(P:gY):gZ:=oF vF "__init__" "Stages.__init__" (L2.inClass (top 22) 0) 3 (19:) (vR 139)
def K41.x146(P:gY):gZ:=oD "is_last" "Stages.is_last" 356 71 1 141 360
def K41.x147(P:gY):gZ:=oF vF "is_last" "Stages.is_last" (L2.inClass (top 22) 1) 3 (19:) (vR 146)
def K41.x150(P:gY):gZ:=oT #[vS "self" 366,vS "stumps" 367,vS "mode" 368,vS "number" 369,vS "callers" 370,vS "stump" 371]
def K41.x153(P:gY):gZ:=oD "go_on" "Stages.go_on" 363 74 1 148 372
def K41.x154(P:gY):gZ:=oF vF "go_on" "Stages.go_on" (L2.inClass (top 22) 2) 3 (19:) (vR 153)
def K41.x155(P:gY):gZ:=oT #[vS "callers" 375,vS "modes" 376,vS "stumps" 377,vS "waiting" 378]
def K41.x156(P:gY):gZ:=Obj.mk (Value.type "dict") none (Data.dict #[hE P "__module__" 345 (19:),hE P "__firstlineno__" 349 (vI 63 348),hE P "__init__" 355 (vR 140),hE P "is_last" 362 (vR 147),hE P "go_on" 374 (vR 154),hE P "__static_attributes__" 379 (vR 155),hE P "__dict__" 381 (vR 158),hE P "__weakref__" 383 (vR 159),hE P "__doc__" 384 vN] 4) #[]
def K41.x157(P:gY):gZ:=Obj.mk (Value.type "type") none (Data.cls (ClassData.mk (hJ "Stages") [Value.type "object"] [vR 157,Value.type "object"] 156 (hJ "Stages") true [] [] false none false)) #[none,none,some (vS "Stages" 338),some (vS "Stages" 346),some (Value.builtin "object.__new__"),some (Value.bool true)]
def K41.x158(P:gY):gZ:=Obj.mk (Value.type "getset_descriptor") none (Data.fields #[vS "__dict__" 380,vR 157,Value.builtin "function.__dict__",Value.builtin "function.__dict__#set"]) #[]
def K41.x159(P:gY):gZ:=Obj.mk (Value.type "getset_descriptor") none (Data.fields #[vS "__weakref__" 382,vR 157,Value.builtin "ExceptionGroup.__weakref__",vN]) #[]
def K41.x165:=o2 "all_rules" 387 84 1 162 390 164
def K41.x166:=oL "all_rules" 23 (19:) 165
def K41.x170:=o2 "callers_by_modes" 393 89 1 167 396 169
def K41.x171:=oL "callers_by_modes" 24 (19:) 170
def K41.x175:=o2 "leaf_stump" 399 95 3 172 402 174
def K41.x176:=oL "leaf_stump" 25 (19:) 175
def K41.x180:=o2 "rule_stump" 405 101 2 177 408 179
def K41.x181:=oL "rule_stump" 26 (19:) 180
def K41.x185:=o2 "as_met" 413 108 4 182 416 184
def K41.x186:=oL "as_met" 28 (vS "turnery.numbering" 411) 185
def K41.x189(P:gY):gZ:=oT #[vS "numbers" 422,vS "term" 423,vS "most" 424,vS "mode" 425,vS "branch" 426]
def K41.x192:=o1 "number_calls" 419 119 3 187 427
def K41.x193:=oL "number_calls" 29 (vS "turnery.numbering" 411) 192
def K41.x197:=o2 "numbered_mode" 430 125 2 194 433 196
def K41.x198:=oL "numbered_mode" 30 (vS "turnery.numbering" 411) 197
def K41.x204:=o1 "early" 444 131 1 199 448
def K41.x205:=oL "early" 35 (vS "turnery.early" 436) 204
def K41.x208(P:gY):gZ:=oT #[vS "turning" 454,vS "stumps" 455,vS "start" 456]
def K41.x211:=o1 "early_by" 451 133 2 206 459
def K41.x212:=oL "early_by" 36 (vS "turnery.early" 436) 211
def K41.x216:=o2 "early_mode" 462 136 3 213 465 215
def K41.x217:=oL "early_mode" 37 (vS "turnery.early" 436) 216
def K41.x220(P:gY):gZ:=oT #[vS "term" 471,vS "place" 472,vS "stumps" 473,vS "found" 474,vS "told" 475]
def K41.x223:=o1 "early_term" 468 139 3 218 476
def K41.x224:=oL "early_term" 38 (vS "turnery.early" 436) 223
def K41.x228:=o2 "stumps_in" 479 147 3 225 482 227
def K41.x229:=oL "stumps_in" 39 (vS "turnery.early" 436) 228
def K41.x232(P:gY):gZ:=oT #[vS "stump" 488,vS "mode" 489,vS "place" 490,vS "branch" 491,vS "parts" 492,vS "number" 493,vS "part" 494]
def K41.x235:=o1 "stump_term" 485 151 4 230 495
def K41.x236:=oL "stump_term" 40 (vS "turnery.early" 436) 235
def K41.x239(P:gY):gZ:=oT #[vS "_law_script" 503,vS "_law_k" 504]
def K41.x242:=o1 "_law_cell_at" 500 159 2 237 505
def K41.x243:=oL "_law_cell_at" 42 mN 242
def K41.x246(P:gY):gZ:=oT #[vS "_law_cell" 511,vS "_law_count" 512,vS "_law_found" 513,vS "_law_x" 514,vS "_law_k" 515]
def K41.x249:=o1 "_law_stream" 508 163 2 244 516
def K41.x250:=oL "_law_stream" 43 mN 249
def K41.x253(P:gY):gZ:=oT #[vS "_law_cell" 522,vS "_law_count" 523,vS "_law_letters" 524,vS "_law_long" 525,vS "_law_spot" 526,vS "_law_found" 527,vS "_law_k" 528,vS "_law_name" 529,vS "_law_j" 530,vS "_law_step" 531]
def K41.x256:=o1 "_law_names" 519 170 2 251 532
def K41.x257:=oL "_law_names" 44 mN 256
def K41.x260(P:gY):gZ:=oT #[vS "_law_script" 538,vS "_law_names_here" 539,vS "_law_xs" 540,vS "_law_kinds" 541,vS "_law_wood_here" 542,vS "_law_kind" 543,vS "_law_first" 544,vS "_law_rows_here" 545,vS "_law_k" 546,vS "_law_branches" 547,vS "_law_j" 548]
def K41.x263:=o1 "_law_wood" 535 184 1 258 549
def K41.x264:=oL "_law_wood" 45 mN 263
def K41.x267(P:gY):gZ:=oT #[vS "_law_wood_here" 555,vS "_law_kind" 556,vS "_law_told" 557,vS "_law_rows_here" 558]
def K41.x270:=o1 "_law_rows" 552 199 2 265 559
def K41.x271:=oL "_law_rows" 46 mN 270
def K41.x274(P:gY):gZ:=oT #[vS "_law_branches" 565,vS "_law_kinds" 566,vS "_law_found" 567,vS "_law_j" 568,vS "_law_k" 569]
def K41.x277:=o1 "_law_calls" 562 204 2 272 570
def K41.x278:=oL "_law_calls" 47 mN 277
def K41.x282:=o2 "_law_term" 573 211 5 279 576 281
def K41.x283:=oL "_law_term" 48 mN 282
def K41.x287:=o2 "_law_unkept" 579 220 1 284 582 286
def K41.x288:=oL "_law_unkept" 49 mN 287
def K41.x292:=o2 "_law_turning" 585 224 2 289 588 291
def K41.x293:=oL "_law_turning" 50 mN 292
def K41.x297:=o2 "_law_again" 591 242 1 294 594 296
def K41.x298:=oL "_law_again" 51 mN 297
def K41.x304:=o1 "_law_is_whole" 597 245 1 299 601
def K41.x305:=oL "_law_is_whole" 52 mN 304
def K41.x309:=o2 "_law_is_term" 604 247 3 306 607 308
def K41.x310:=oL "_law_is_term" 53 mN 309
def K41.x313(P:gY):gZ:=oT #[vS "_law_found" 613,vS "_law_wood_here" 614,vS "_law_mode" 615,vS "_law_kind" 616,vS "_law_rules" 617,vS "_law_row" 618,vS "_law_rule" 619]
def K41.x316:=o1 "_law_is_turning" 610 261 2 311 620
def K41.x317:=oL "_law_is_turning" 54 mN 316
def K41.x321:=o2 "_law_tree" 623 276 4 318 626 320
def K41.x322:=oL "_law_tree" 55 mN 321
def K41.x326:=o2 "_law_put" 629 286 4 323 632 325
def K41.x327:=oL "_law_put" 56 mN 326
def K41.x331:=o2 "_law_by" 635 293 3 328 638 330
def K41.x332:=oL "_law_by" 57 mN 331
def K41.x335(P:gY):gZ:=oT #[vS "_law_turning_here" 644,vS "_law_tree_here" 645]
def K41.x338:=o1 "_law_outcome" 641 297 2 333 646
def K41.x339:=oL "_law_outcome" 58 mN 338
def K41.x342(P:gY):gZ:=oT #[vS "_law_script" 652,vS "_law_wood_here" 653,vS "_law_turning_here" 654,vS "_law_tree_here" 655,vS "_law_found" 656]
def K41.x345:=o1 "law" 649 299 1 340 657
def K41.x346:=oL "law" 59 mN 345
def K41.hp:Params->Fg:=λP=>[(2,Obj.mk vN none (Data.dict #[]) #[]),(3,x3 P),(15,oT #[vS "open" 189]),(16,oT #[]),(18,oT #[vS "stump" 194]),(19,oT #[]),(21,x21 P),(22,x22 P),(23,oT #[]),(25,oT #[vS "stump" 201]),(26,oT #[]),(28,x28 P),(29,x29 P),(30,oT #[]),(33,x33 P),(34,x34 P),(35,oT #[]),(37,x37 P),(38,oT #[]),(40,x40 P),(41,x41 P),(42,oT #[]),(44,oT #[vS "term" 226]),(45,oT #[]),(47,x47 P),(48,x48 P),(49,oT #[]),(52,x52 P),(53,x53 P),(54,oT #[]),(57,x57 P),(58,x58 P),(59,oT #[]),(61,x61 P),(62,oT #[]),(64,x64 P),(65,x65 P),(66,oT #[]),(68,x68 P),(69,oT #[]),(71,x71 P),(72,x72 P),(73,oT #[]),(76,x76 P),(77,x77 P),(78,oT #[]),(80,oT #[vS "term" 271,vS "parts" 272]),(81,oT #[]),(83,x83 P),(84,x84 P),(85,oT #[Value.type "ValueError"]),(92,oT #[]),(93,x93 P),(94,x94 P),(95,x95 P),(98,oT #[vR 94]),(105,oT #[]),(106,x106 P),(107,x107 P),(110,oT #[]),(113,x113 P),(114,x114 P),(115,oT #[]),(117,oT #[vS "wood" 323,vS "kind" 324]),(118,oT #[]),(120,x120 P),(121,x121 P),(122,oT #[]),(124,oT #[vS "turning" 333,vS "stages" 334]),(125,oT #[]),(127,x127 P),(128,x128 P),(136,oT #[]),(139,x139 P),(140,x140 P),(141,oT #[]),(143,oT #[vS "self" 359]),(144,oT #[]),(146,x146 P),(147,x147 P),(148,oT #[]),(150,x150 P),(151,oT #[]),(153,x153 P),(154,x154 P),(155,x155 P),(156,x156 P),(157,x157 P),(158,x158 P),(159,x159 P),(162,oT #[]),(165,x165 P),(166,x166 P),(167,oT #[]),(170,x170 P),(171,x171 P),(172,oT #[]),(175,x175 P),(176,x176 P),(177,oT #[]),(180,x180 P),(181,x181 P),(182,oT #[]),(185,x185 P),(186,x186 P),(187,oT #[]),(189,x189 P),(190,oT #[]),(192,x192 P),(193,x193 P),(194,oT #[]),(197,x197 P),(198,x198 P),(199,oT #[]),(201,oT #[vS "turning" 447]),(202,oT #[]),(204,x204 P),(205,x205 P),(206,oT #[]),(208,x208 P),(209,oT #[vS "turning" 457,vS "stumps" 458]),(211,x211 P),(212,x212 P),(213,oT #[]),(216,x216 P),(217,x217 P),(218,oT #[]),(220,x220 P),(221,oT #[]),(223,x223 P),(224,x224 P),(225,oT #[]),(228,x228 P),(229,x229 P),(230,oT #[]),(232,x232 P),(233,oT #[]),(235,x235 P),(236,x236 P),(237,oT #[]),(239,x239 P),(240,oT #[]),(242,x242 P),(243,x243 P),(244,oT #[]),(246,x246 P),(247,oT #[]),(249,x249 P),(250,x250 P),(251,oT #[]),(253,x253 P),(254,oT #[]),(256,x256 P),(257,x257 P),(258,oT #[]),(260,x260 P),(261,oT #[]),(263,x263 P),(264,x264 P),(265,oT #[]),(267,x267 P),(268,oT #[]),(270,x270 P),(271,x271 P),(272,oT #[]),(274,x274 P),(275,oT #[]),(277,x277 P),(278,x278 P),(279,oT #[]),(282,x282 P),(283,x283 P),(284,oT #[]),(287,x287 P),(288,x288 P),(289,oT #[]),(292,x292 P),(293,x293 P),(294,oT #[]),(297,x297 P),(298,x298 P),(299,oT #[]),(301,oT #[vS "_law_found" 600]),(302,oT #[]),(304,x304 P),(305,x305 P),(306,oT #[]),(309,x309 P),(310,x310 P),(311,oT #[]),(313,x313 P),(314,oT #[]),(316,x316 P),(317,x317 P),(318,oT #[]),(321,x321 P),(322,x322 P),(323,oT #[]),(326,x326 P),(327,x327 P),(328,oT #[]),(331,x331 P),(332,x332 P),(333,oT #[]),(335,x335 P),(336,oT #[]),(338,x338 P),(339,x339 P),(340,oT #[]),(342,x342 P),(343,oT #[]),(345,x345 P),(346,x346 P)]
end
def PySem.W.Fast.tw10725316160706393507:PySem.Params->Fg:=K41.hp
def PySem.W.Fast.te10725316160706393507:=@rfl _ PySem.W.Fast.tw10725316160706393507
namespace PySem.W.Fast
open PySem K41
def tw4382954531531510622:=x339
def te4382954531531510622:=@rfl _ tw4382954531531510622
def tw16761260630772953158:=oN "rows_of" 19
def te16761260630772953158:=@rfl _ tw16761260630772953158
def tw1171064867619785739:=oN "with_parts" 13
def te1171064867619785739:=@rfl _ tw1171064867619785739
def tw1289217286798707986:=x271
def te1289217286798707986:=@rfl _ tw1289217286798707986
def tw2066006402899095397:gY->gZ:=λP=>oF vN "go_on" "Stages.go_on" (L2.inClass (top 22) 2) 0 vN vN
def te2066006402899095397:=@rfl _ tw2066006402899095397
def tw14861815396550539085:=oN "met" 4
def te14861815396550539085:=@rfl _ tw14861815396550539085
def tw12585756847481453855:=oN "_law_names" 44
def te12585756847481453855:=@rfl _ tw12585756847481453855
def tw14315673267110119293:=oN "early_by" 36
def te14315673267110119293:=@rfl _ tw14315673267110119293
def tw12437802161771939257:=oN "leaf_stump" 25
def te12437802161771939257:=@rfl _ tw12437802161771939257
def tw7659434332167829505:=x217
def te7659434332167829505:=@rfl _ tw7659434332167829505
def tw1671464132704327534:=x250
def te1671464132704327534:=@rfl _ tw1671464132704327534
def tw16172389669790892136:=oN "_law_stream" 43
def te16172389669790892136:=@rfl _ tw16172389669790892136
def tw10750126786702080506:=oN "_law_is_whole" 52
def te10750126786702080506:=@rfl _ tw10750126786702080506
def tw302689898183975241:=x332
def te302689898183975241:=@rfl _ tw302689898183975241
def tw12317310102182432079:=x77
def te12317310102182432079:=@rfl _ tw12317310102182432079
def tw11549711634888128508:=x186
def te11549711634888128508:=@rfl _ tw11549711634888128508
def tw9429391355682186465:=x114
def te9429391355682186465:=@rfl _ tw9429391355682186465
def tw9764770384087668081:=x198
def te9764770384087668081:=@rfl _ tw9764770384087668081
def tw10570881658778319555:=x229
def te10570881658778319555:=@rfl _ tw10570881658778319555
def tw12148277075518033207:=x84
def te12148277075518033207:=@rfl _ tw12148277075518033207
def tw14468229282997643079:gY->gZ:=λP=>oF vN "is_last" "Stages.is_last" (L2.inClass (top 22) 1) 0 vN vN
def te14468229282997643079:=@rfl _ tw14468229282997643079
def tw14493753872110883191:=x236
def te14493753872110883191:=@rfl _ tw14493753872110883191
def tw7226579669314815674:=x243
def te7226579669314815674:=@rfl _ tw7226579669314815674
def tw5241770069350314375:=oN "_law_put" 56
def te5241770069350314375:=@rfl _ tw5241770069350314375
def tw7881928155432505155:=x154
def te7881928155432505155:=@rfl _ tw7881928155432505155
def tw3949303430489998475:=x48
def te3949303430489998475:=@rfl _ tw3949303430489998475
def tw5859246837145787789:=x65
def te5859246837145787789:=@rfl _ tw5859246837145787789
def tw6866738066391576837:=x322
def te6866738066391576837:=@rfl _ tw6866738066391576837
def tw6867752898772915303:=oN "early" 35
def te6867752898772915303:=@rfl _ tw6867752898772915303
def tw18428984064313250606:=x72
def te18428984064313250606:=@rfl _ tw18428984064313250606
def tw9764585736613932051:=oN "_law_unkept" 49
def te9764585736613932051:=@rfl _ tw9764585736613932051
def tw9172132381666251881:=oN "head" 3
def te9172132381666251881:=@rfl _ tw9172132381666251881
def tw467885688732566812:=x298
def te467885688732566812:=@rfl _ tw467885688732566812
def tw11767845826960045237:=x41
def te11767845826960045237:=@rfl _ tw11767845826960045237
def tw3785539200228876429:=x224
def te3785539200228876429:=@rfl _ tw3785539200228876429
def tw11168046978755453522:=x29
def te11168046978755453522:=@rfl _ tw11168046978755453522
def tw16252288386975457950:=oN "commons" 21
def te16252288386975457950:=@rfl _ tw16252288386975457950
def tw5428343770654792426:=oN "_law_is_turning" 54
def te5428343770654792426:=@rfl _ tw5428343770654792426
def tw132166809420868224:=oN "law" 59
def te132166809420868224:=@rfl _ tw132166809420868224
def tw9203742028108669854:=x176
def te9203742028108669854:=@rfl _ tw9203742028108669854
def tw18222488506548805876:=x257
def te18222488506548805876:=@rfl _ tw18222488506548805876
def tw2022962885614048768:=x278
def te2022962885614048768:=@rfl _ tw2022962885614048768
def tw17293133331786887941:=oN "term_levels" 9
def te17293133331786887941:=@rfl _ tw17293133331786887941
def tw6092563916654668124:=oN "is_open" 2
def te6092563916654668124:=@rfl _ tw6092563916654668124
def tw9234725673003514171:=oN "own_wood" 18
def te9234725673003514171:=@rfl _ tw9234725673003514171
def tw1291828913514183493:=oN "with_modes" 12
def te1291828913514183493:=@rfl _ tw1291828913514183493
def tw8820103900748318554:=oN "early_mode" 37
def te8820103900748318554:=@rfl _ tw8820103900748318554
def tw571911927616646590:=oN "_law_again" 51
def te571911927616646590:=@rfl _ tw571911927616646590
def tw8432193662439873324:=x171
def te8432193662439873324:=@rfl _ tw8432193662439873324
def tw10347856316345826772:=oN "number_calls" 29
def te10347856316345826772:=@rfl _ tw10347856316345826772
def tw11842551018267705960:=oN "_law_rows" 46
def te11842551018267705960:=@rfl _ tw11842551018267705960
def tw744590856767211187:=oN "calls_of" 10
def te744590856767211187:=@rfl _ tw744590856767211187
def tw5495187076724997351:=oN "stumps_in" 39
def te5495187076724997351:=@rfl _ tw5495187076724997351
def tw9985517081399548558:=oN "numbered_mode" 30
def te9985517081399548558:=@rfl _ tw9985517081399548558
def tw1747178077910401184:=oN "_law_cell_at" 42
def te1747178077910401184:=@rfl _ tw1747178077910401184
def tw18369578157862249339:=oN "_law_wood" 45
def te18369578157862249339:=@rfl _ tw18369578157862249339
def tw4056817212511930998:=x264
def te4056817212511930998:=@rfl _ tw4056817212511930998
def tw6339919997715268236:=x288
def te6339919997715268236:=@rfl _ tw6339919997715268236
def tw16240256732604723491:=x22
def te16240256732604723491:=@rfl _ tw16240256732604723491
def tw9599795575423109259:=oN "_law_outcome" 58
def te9599795575423109259:=@rfl _ tw9599795575423109259
def tw5060174248098363661:=oN "all_rules" 23
def te5060174248098363661:=@rfl _ tw5060174248098363661
def tw9564828109312225458:=x293
def te9564828109312225458:=@rfl _ tw9564828109312225458
def tw5107694460248507270:=oN "term_size" 8
def te5107694460248507270:=@rfl _ tw5107694460248507270
def tw5934544281033681156:=oN "_law_term" 48
def te5934544281033681156:=@rfl _ tw5934544281033681156
def tw12029633343988518678:=x327
def te12029633343988518678:=@rfl _ tw12029633343988518678
def tw11220778898022643224:=x166
def te11220778898022643224:=@rfl _ tw11220778898022643224
def tw15192675626255391792:=oN "is_call" 7
def te15192675626255391792:=@rfl _ tw15192675626255391792
def tw951520807918358160:=oN "_law_tree" 55
def te951520807918358160:=@rfl _ tw951520807918358160
def tw7360020143299935279:=x317
def te7360020143299935279:=@rfl _ tw7360020143299935279
def tw3754166886599124858:=x147
def te3754166886599124858:=@rfl _ tw3754166886599124858
def tw7214075106311540459:=x212
def te7214075106311540459:=@rfl _ tw7214075106311540459
def tw1623328107710342400:=oN "stump_at" 5
def te1623328107710342400:=@rfl _ tw1623328107710342400
def tw2537559976626472915:=oN "down_to" 11
def te2537559976626472915:=@rfl _ tw2537559976626472915
def tw11323149770486599465:=x181
def te11323149770486599465:=@rfl _ tw11323149770486599465
def tw15741867627307987834:=oN "as_met" 28
def te15741867627307987834:=@rfl _ tw15741867627307987834
def tw3794397049567806842:=oN "_law_turning" 50
def te3794397049567806842:=@rfl _ tw3794397049567806842
def tw14220371218014613833:=oN "rule_stump" 26
def te14220371218014613833:=@rfl _ tw14220371218014613833
def tw1327544838348833319:=x34
def te1327544838348833319:=@rfl _ tw1327544838348833319
def tw4446141212288554612:=x193
def te4446141212288554612:=@rfl _ tw4446141212288554612
def tw12474111656203738718:=x310
def te12474111656203738718:=@rfl _ tw12474111656203738718
def tw12006261801502931780:=oN "stump_term" 40
def te12006261801502931780:=@rfl _ tw12006261801502931780
def tw2766108114288833343:=x305
def te2766108114288833343:=@rfl _ tw2766108114288833343
def tw9265314683494423017:=oN "early_term" 38
def te9265314683494423017:=@rfl _ tw9265314683494423017
def tw3519899364694057224:gY->gZ:=λP=>oF vN "__init__" "Stages.__init__" (L2.inClass (top 22) 0) 0 vN vN
def te3519899364694057224:=@rfl _ tw3519899364694057224
def tw11268697225075833690:=oN "_law_by" 57
def te11268697225075833690:=@rfl _ tw11268697225075833690
def tw1412834642473100355:=oN "callers_by_modes" 24
def te1412834642473100355:=@rfl _ tw1412834642473100355
def tw15898517436975254071:=x121
def te15898517436975254071:=@rfl _ tw15898517436975254071
def tw71009856267789745:=x205
def te71009856267789745:=@rfl _ tw71009856267789745
def tw13341459620900539778:=x346
def te13341459620900539778:=@rfl _ tw13341459620900539778
def tw2862857808464207122:=x128
def te2862857808464207122:=@rfl _ tw2862857808464207122
def tw10080984646122163254:=x58
def te10080984646122163254:=@rfl _ tw10080984646122163254
def tw11799773701037538225:=x140
def te11799773701037538225:=@rfl _ tw11799773701037538225
def tw11485330051352628876:=oN "_law_is_term" 53
def te11485330051352628876:=@rfl _ tw11485330051352628876
def tw4666838082766378863:=oN "_law_calls" 47
def te4666838082766378863:=@rfl _ tw4666838082766378863
def tw1034476251205549937:=x283
def te1034476251205549937:=@rfl _ tw1034476251205549937
def tw6015184396993396672:=x53
def te6015184396993396672:=@rfl _ tw6015184396993396672
end PySem.W.Fast
def PySem.W.Fast.tw7190087519901839306:PySem.Program:=PySem.Challenge.pw_turnery_k41_early_makes_the_same
def PySem.W.Fast.te7190087519901839306:=@rfl _ PySem.W.Fast.tw7190087519901839306
def PySem.W.Fast.tw9269164155752312926:PySem.Program:={ PySem.Challenge.pw_turnery_k41_early_makes_the_same with main:={ PySem.Challenge.pw_turnery_k41_early_makes_the_same.main with body:=[K41.top 1,K41.top 2,K41.top 3,K41.top 4,K41.top 5,K41.top 7,K41.top 8,K41.top 9,K41.top 10,K41.top 11,K41.top 12,K41.top 13,K41.top 15,K41.top 16,K41.top 18,K41.top 19,K41.top 21,K41.top 22,K41.top 23,K41.top 24,K41.top 25,K41.top 26,K41.top 28,K41.top 29,K41.top 30,K41.top 32,K41.top 33,K41.top 34,K41.top 35,K41.top 36,K41.top 37,K41.top 38,K41.top 39,K41.top 40,K41.top 42,K41.top 43,K41.top 44,K41.top 45,K41.top 46,K41.top 47,K41.top 48,K41.top 49,K41.top 50,K41.top 51,K41.top 52,K41.top 53,K41.top 54,K41.top 55,K41.top 56,K41.top 57,K41.top 58,K41.top 59] } }
def PySem.W.Fast.te9269164155752312926:=@rfl _ PySem.W.Fast.tw9269164155752312926
def PySem.W.Fast.tw14094655886275038906:List PySem.Stmt:=(hV.drop 0).take 15
def PySem.W.Fast.te14094655886275038906:=@rfl _ PySem.W.Fast.tw14094655886275038906
def PySem.W.Fast.tw8510782749135813146:List PySem.Stmt:=(hV.drop 15).take 2
def PySem.W.Fast.te8510782749135813146:=@rfl _ PySem.W.Fast.tw8510782749135813146
def PySem.W.Fast.tw9095954532289374083:List PySem.Stmt:=(hV.drop 17).take 6
def PySem.W.Fast.te9095954532289374083:=@rfl _ PySem.W.Fast.tw9095954532289374083
def PySem.W.Fast.tw16473893471746287727:List PySem.Stmt:=(hV.drop 23).take 17
def PySem.W.Fast.te16473893471746287727:=@rfl _ PySem.W.Fast.tw16473893471746287727
def PySem.W.Fast.tw8176951122499627263:List PySem.Stmt:=(hV.drop 40).take 13
def PySem.W.Fast.te8176951122499627263:=@rfl _ PySem.W.Fast.tw8176951122499627263
def PySem.W.Fast.tw3111867883720624333:List PySem.Stmt:=(hV.drop 53).take 7
def PySem.W.Fast.te3111867883720624333:=@rfl _ PySem.W.Fast.tw3111867883720624333
section
open PySem
open K41
def K41.x11(P:gY):gZ:={ cls:=Value.type "tuple",data:=Data.seq #[] }
def K41.l12:List Value:=[vI 3 0,vI 0 0,vR 21,vI 5 0,vI 0 0,vR 28,vI 7 0,vI 0 0,vR 33,vI 11 0,vI 0 0,vR 40,vI 17 0,vI 0 0,vR 47,vI 19 0,vI 0 0,vR 52,vI 23 0,vI 0 0,vR 57,vI 27 0,vI 0 0,vR 64,vI 34 0,vI 0 0,vR 71,vI 41 0,vI 0 0,vR 76,vI 45 0,vI 0 0,vR 83,vI 48 0,vI 0 0,vR 90,vI 50 0,vI 0 0,vR 103,vI 53 0,vI 0 0,vR 113,vI 55 0,vI 0 0,vR 120,vI 58 0,vI 0 0,vR 127,vI 63 0,vI 0 0,vR 134,vI 84 0,vI 0 0,vR 165,vI 89 0,vI 0 0,vR 170,vI 95 0,vI 0 0,vR 175,vI 101 0,vI 0 0,vR 180,vI 108 0,vI 0 0,vR 185,vI 119 0,vI 0 0,vR 192,vI 125 0,vI 0 0,vR 197,vI 131 0,vI 0 0,vR 204,vI 133 0,vI 0 0,vR 211,vI 136 0,vI 0 0,vR 216,vI 139 0,vI 0 0,vR 223,vI 147 0,vI 0 0,vR 228,vI 151 0,vI 0 0,vR 235,vI 159 0,vI 0 0,vR 242,vI 163 0,vI 0 0,vR 249,vI 170 0,vI 0 0,vR 256,vI 184 0,vI 0 0,vR 263,vI 199 0,vI 0 0,vR 270,vI 204 0,vI 0 0,vR 277,vI 211 0,vI 0 0,vR 282,vI 220 0,vI 0 0,vR 287,vI 224 0,vI 0 0,vR 292,vI 242 0,vI 0 0,vR 297,vI 245 0,vI 0 0,vR 304,vI 247 0,vI 0 0,vR 309,vI 261 0,vI 0 0,vR 316,vI 276 0,vI 0 0,vR 321,vI 286 0,vI 0 0,vR 326,vI 293 0,vI 0 0,vR 331,vI 297 0,vI 0 0,vR 338,vI 299 0,vI 0 0,vR 345]
def K41.x12(P:gY):gZ:={ cls:=vN,data:=Data.fields l12.toArray }
def K41.x13(P:gY):gZ:={ cls:=Value.type "code",data:=Data.fields #[vS "<module>" 182,vS "<module>" 183,vS "/claim/cut.py" 184,vI 1 0,vI 0 0,vI 0 0,vI 0 0,vI 0 0,vR 11,Value.bool false,vI 181 0,vR 12,vN,vN,vN,vN,vI 185 0,vI 1 0,vS "/claim/cut.py" 186] }
def K41.x14(P:gY):gZ:={ cls:=Value.type "frame",slots:=#[some (vR 13),some (vR 3),some (vR 3),none,some (vS "__main__" 164),none,some (vR 0)] }
def K41.x20:=W.Fast.tw6092563916654668124
def K41.x27:=W.Fast.tw9172132381666251881
def K41.x32:=W.Fast.tw14861815396550539085
def K41.x39:=W.Fast.tw1623328107710342400
def K41.x46:=W.Fast.tw15192675626255391792
def K41.x51:=W.Fast.tw5107694460248507270
def K41.x56:=W.Fast.tw17293133331786887941
def K41.x63:=W.Fast.tw744590856767211187
def K41.x70:=W.Fast.tw2537559976626472915
def K41.x75:=W.Fast.tw1291828913514183493
def K41.x82:=W.Fast.tw1171064867619785739
def K41.x86(P:gY):gZ:={ cls:=Value.type "builtin_function_or_method",data:=Data.fields #[Value.builtin "type.__prepare__",Value.type "type"] }
def K41.x87(P:gY):gZ:={ cls:=Value.type "dict",data:=Data.dict #[hE P "__module__" 285 (vS "turnery.errors" 276),hE P "__qualname__" 287 (vS "TurnError" 286),hE P "__firstlineno__" 289 (vI 48 288),hE P "__static_attributes__" 290 (vR 92)] 4 }
def K41.x88(P:gY):gZ:={ cls:=Value.type "tuple",data:=Data.seq #[] }
def K41.x90(P:gY):gZ:={ cls:=Value.type "code",data:=Data.fields #[vS "TurnError" 280,vS "TurnError" 281,vS "/claim/cut.py" 282,vI 48 0,vI 0 0,vI 0 0,vI 0 0,vI 0 0,vR 88,Value.bool false,vI 181 0,vR 89,vN,vN,vN,vN,vI 283 0,vI 48 0,vS "/claim/cut.py" 284] }
def K41.x91(P:gY):gZ:={ cls:=Value.type "frame",slots:=#[some (vR 90),some (vR 3),some (vR 87),none,some (vS "turnery.errors" 276),none,some (vR 0)] }
def K41.x96(P:gY):gZ:={ cls:=Value.type "super",data:=Data.fields #[vR 94,vR 94,vR 94] }
def K41.x97(P:gY):gZ:={ cls:=Value.type "builtin_function_or_method",data:=Data.fields #[Value.builtin "object.__init_subclass__",vR 94] }
def K41.x99(P:gY):gZ:={ cls:=Value.type "builtin_function_or_method",data:=Data.fields #[Value.builtin "type.__prepare__",Value.type "type"] }
def K41.x100(P:gY):gZ:={ cls:=Value.type "dict",data:=Data.dict #[hE P "__module__" 303 (vS "turnery.errors" 276),hE P "__qualname__" 305 (vS "TooGreat" 304),hE P "__firstlineno__" 307 (vI 50 306),hE P "__static_attributes__" 308 (vR 105)] 4 }
def K41.x101(P:gY):gZ:={ cls:=Value.type "tuple",data:=Data.seq #[] }
def K41.x103(P:gY):gZ:={ cls:=Value.type "code",data:=Data.fields #[vS "TooGreat" 298,vS "TooGreat" 299,vS "/claim/cut.py" 300,vI 50 0,vI 0 0,vI 0 0,vI 0 0,vI 0 0,vR 101,Value.bool false,vI 181 0,vR 102,vN,vN,vN,vN,vI 301 0,vI 50 0,vS "/claim/cut.py" 302] }
def K41.x104(P:gY):gZ:={ cls:=Value.type "frame",slots:=#[some (vR 103),some (vR 3),some (vR 100),none,some (vS "turnery.errors" 276),none,some (vR 0)] }
def K41.x108(P:gY):gZ:={ cls:=Value.type "super",data:=Data.fields #[vR 107,vR 107,vR 107] }
def K41.x109(P:gY):gZ:={ cls:=Value.type "builtin_function_or_method",data:=Data.fields #[Value.builtin "object.__init_subclass__",vR 107] }
def K41.x112:=W.Fast.tw9234725673003514171
def K41.x119:=W.Fast.tw16761260630772953158
def K41.x126:=W.Fast.tw16252288386975457950
def K41.x129(P:gY):gZ:={ cls:=Value.type "tuple",data:=Data.seq #[] }
def K41.x130(P:gY):gZ:={ cls:=Value.type "builtin_function_or_method",data:=Data.fields #[Value.builtin "type.__prepare__",Value.type "type"] }
def K41.x131(P:gY):gZ:={ cls:=Value.type "dict",data:=Data.dict #[hE P "__module__" 345 (19:),hE P "__qualname__" 347 (vS "Stages" 346),hE P "__firstlineno__" 349 (vI 63 348),hE P "__init__" 355 (vR 140),hE P "is_last" 362 (vR 147),hE P "go_on" 374 (vR 154),hE P "__static_attributes__" 379 (vR 155)] 7 }
def K41.x132(P:gY):gZ:={ cls:=Value.type "tuple",data:=Data.seq #[] }
def K41.x133(P:gY):gZ:={ cls:=vN,data:=Data.fields #[vI 65 0,vI 4 0,vR 139,vI 71 0,vI 4 0,vR 146,vI 74 0,vI 4 0,vR 153] }
def K41.x134(P:gY):gZ:={ cls:=Value.type "code",data:=Data.fields #[vS "Stages" 340,vS "Stages" 341,vS "/claim/cut.py" 342,vI 63 0,vI 0 0,vI 0 0,vI 0 0,vI 0 0,vR 132,Value.bool false,vI 181 0,vR 133,vN,vN,vN,vN,vI 343 0,vI 63 0,vS "/claim/cut.py" 344] }
def K41.x135(P:gY):gZ:={ cls:=Value.type "frame",slots:=#[some (vR 134),some (vR 3),some (vR 131),none,some (19:),none,some (vR 0)] }
def K41.x138:=W.Fast.tw3519899364694057224
def K41.x145:=W.Fast.tw14468229282997643079
def K41.x152:=W.Fast.tw2066006402899095397
def K41.x160(P:gY):gZ:={ cls:=Value.type "super",data:=Data.fields #[vR 157,vR 157,vR 157] }
def K41.x161(P:gY):gZ:={ cls:=Value.type "builtin_function_or_method",data:=Data.fields #[Value.builtin "object.__init_subclass__",vR 157] }
def K41.x164:=W.Fast.tw5060174248098363661
def K41.x169:=W.Fast.tw1412834642473100355
def K41.x174:=W.Fast.tw12437802161771939257
def K41.x179:=W.Fast.tw14220371218014613833
def K41.x184:=W.Fast.tw15741867627307987834
def K41.x191:=W.Fast.tw10347856316345826772
def K41.x196:=W.Fast.tw9985517081399548558
def K41.x203:=W.Fast.tw6867752898772915303
def K41.x210:=W.Fast.tw14315673267110119293
def K41.x215:=W.Fast.tw8820103900748318554
def K41.x222:=W.Fast.tw9265314683494423017
def K41.x227:=W.Fast.tw5495187076724997351
def K41.x234:=W.Fast.tw12006261801502931780
def K41.x241:=W.Fast.tw1747178077910401184
def K41.x248:=W.Fast.tw16172389669790892136
def K41.x255:=W.Fast.tw12585756847481453855
def K41.x262:=W.Fast.tw18369578157862249339
def K41.x269:=W.Fast.tw11842551018267705960
def K41.x276:=W.Fast.tw4666838082766378863
def K41.x281:=W.Fast.tw5934544281033681156
def K41.x286:=W.Fast.tw9764585736613932051
def K41.x291:=W.Fast.tw3794397049567806842
def K41.x296:=W.Fast.tw571911927616646590
def K41.x303:=W.Fast.tw10750126786702080506
def K41.x308:=W.Fast.tw11485330051352628876
def K41.x315:=W.Fast.tw5428343770654792426
def K41.x320:=W.Fast.tw951520807918358160
def K41.x325:=W.Fast.tw5241770069350314375
def K41.x330:=W.Fast.tw11268697225075833690
def K41.x337:=W.Fast.tw9599795575423109259
def K41.x344:=W.Fast.tw132166809420868224
def PySem.W.Fast.tw1338642357019416743:Params->Heap:=λP=>{ objs:=⟨[W.boot_o_0 P,W.boot_o_1 P,Obj.mk vN none (Data.dict #[]) #[],x3 P,W.boot_o_4 P,W.boot_o_5 P,W.boot_o_6 P,W.boot_o_7 P,W.boot_o_8 P,W.boot_o_9 P,W.boot_o_10 P,x11 P,x12 P,x13 P,x14 P,oT #[vS "open" 189],oT #[],oE,oT #[vS "stump" 194],oT #[],x20 P,x21 P,x22 P,oT #[],oE,oT #[vS "stump" 201],oT #[],x27 P,x28 P,x29 P,oT #[],oE,x32 P,x33 P,x34 P,oT #[],oE,x37 P,oT #[],x39 P,x40 P,x41 P,oT #[],oE,oT #[vS "term" 226],oT #[],x46 P,x47 P,x48 P,oT #[],oE,x51 P,x52 P,x53 P,oT #[],oE,x56 P,x57 P,x58 P,oT #[],oE,x61 P,oT #[],x63 P,x64 P,x65 P,oT #[],oE,x68 P,oT #[],x70 P,x71 P,x72 P,oT #[],oE,x75 P,x76 P,x77 P,oT #[],oE,oT #[vS "term" 271,vS "parts" 272],oT #[],x82 P,x83 P,x84 P,oT #[Value.type "ValueError"],x86 P,x87 P,x88 P,oE,x90 P,x91 P,oT #[],x93 P,x94 P,x95 P,x96 P,x97 P,oT #[vR 94],x99 P,x100 P,x101 P,oE,x103 P,x104 P,oT #[],x106 P,x107 P,x108 P,x109 P,oT #[],oE,x112 P,x113 P,x114 P,oT #[],oE,oT #[vS "wood" 323,vS "kind" 324],oT #[],x119 P,x120 P,x121 P,oT #[],oE,oT #[vS "turning" 333,vS "stages" 334],oT #[],x126 P,x127 P,x128 P,x129 P,x130 P,x131 P,x132 P,x133 P,x134 P,x135 P,oT #[],oE,x138 P,x139 P,x140 P,oT #[],oE,oT #[vS "self" 359],oT #[],x145 P,x146 P,x147 P,oT #[],oE,x150 P,oT #[],x152 P,x153 P,x154 P,x155 P,x156 P,x157 P,x158 P,x159 P,x160 P,x161 P,oT #[],oE,x164 P,x165 P,x166 P,oT #[],oE,x169 P,x170 P,x171 P,oT #[],oE,x174 P,x175 P,x176 P,oT #[],oE,x179 P,x180 P,x181 P,oT #[],oE,x184 P,x185 P,x186 P,oT #[],oE,x189 P,oT #[],x191 P,x192 P,x193 P,oT #[],oE,x196 P,x197 P,x198 P,oT #[],oE,oT #[vS "turning" 447],oT #[],x203 P,x204 P,x205 P,oT #[],oE,x208 P,oT #[vS "turning" 457,vS "stumps" 458],x210 P,x211 P,x212 P,oT #[],oE,x215 P,x216 P,x217 P,oT #[],oE,x220 P,oT #[],x222 P,x223 P,x224 P,oT #[],oE,x227 P,x228 P,x229 P,oT #[],oE,x232 P,oT #[],x234 P,x235 P,x236 P,oT #[],oE,x239 P,oT #[],x241 P,x242 P,x243 P,oT #[],oE,x246 P,oT #[],x248 P,x249 P,x250 P,oT #[],oE,x253 P,oT #[],x255 P,x256 P,x257 P,oT #[],oE,x260 P,oT #[],x262 P,x263 P,x264 P,oT #[],oE,x267 P,oT #[],x269 P,x270 P,x271 P,oT #[],oE,x274 P,oT #[],x276 P,x277 P,x278 P,oT #[],oE,x281 P,x282 P,x283 P,oT #[],oE,x286 P,x287 P,x288 P,oT #[],oE,x291 P,x292 P,x293 P,oT #[],oE,x296 P,x297 P,x298 P,oT #[],oE,oT #[vS "_law_found" 600],oT #[],x303 P,x304 P,x305 P,oT #[],oE,x308 P,x309 P,x310 P,oT #[],oE,x313 P,oT #[],x315 P,x316 P,x317 P,oT #[],oE,x320 P,x321 P,x322 P,oT #[],oE,x325 P,x326 P,x327 P,oT #[],oE,x330 P,x331 P,x332 P,oT #[],oE,x335 P,oT #[],x337 P,x338 P,x339 P,oT #[],oE,x342 P,oT #[],x344 P,x345 P,x346 P]⟩ }
def _root_.PySem.W.Fast.te1338642357019416743:=@rfl _ PySem.W.Fast.tw1338642357019416743
def K41.N:gY->W.BT:=λ_=>.nil
def K41.B(o:gY->gZ)(l r:gY->W.BT):gY->W.BT:=λP=>.node (o P) (l P) (r P)
def K41.zA(o:gY->gZ):=B o N N
def K41.zB(o l):=B o l N
def K41.zC:gY->gZ:=λ_=>oT #[vS "open" 189]
def K41.zD:gY->gZ:=λ_=>oE
def K41.zE:gY->gZ:=λ_=>oT #[vS "self" 359]
def K41.zF:gY->gZ:=λ_=>oT #[]
def K41.zG:gY->gZ:=λ_=>oT #[vS "turning" 457,vS "stumps" 458]
def K41.zH:gY->gZ:=λ_=>oT #[vS "stump" 201]
def K41.zI:gY->gZ:=λ_=>oT #[vS "turning" 447]
def K41.zJ:gY->gZ:=λ_=>oT #[Value.type "ValueError"]
def K41.zK:gY->gZ:=λ_=>oT #[vS "wood" 323,vS "kind" 324]
def K41.zL:gY->gZ:=λ_=>oT #[vS "_law_found" 600]
def K41.zM:gY->gZ:=λ_=>Obj.mk vN none (Data.dict #[]) #[]
def K41.zN:gY->gZ:=λ_=>oT #[vS "term" 271,vS "parts" 272]
def K41.zO:gY->gZ:=λ_=>oT #[vS "term" 226]
def K41.zP:gY->gZ:=λ_=>oT #[vS "turning" 333,vS "stages" 334]
def K41.zQ:gY->gZ:=λ_=>oT #[vS "stump" 194]
def K41.zR:gY->gZ:=λ_=>oT #[vR 94]
def PySem.W.Fast.tw12189821708702350190:=B W.boot_o_0 (B W.boot_o_1 (B x3 (B W.boot_o_7 (B zC (B zD (B x63 (zB x127 (zA x255)) (zB x191 (zA zD))) (B x95 (zB x159 (zA x287)) (zA x223))) (B x47 (B zD (zB zE (zA x271)) (zB zD (zA x335))) (B zD (zB x175 (zA x303)) (zA x239)))) (B zF (B x39 (B x71 (zB x135 (zA x263)) (zB zF (zA x327))) (B x103 (zB zF (zA zD)) (zA zD))) (B zD (B x87 (zB zF (zA zF)) (zB x215 (zA zF))) (B x119 (zB zD (zA zF)) (zA zF))))) (B x11 (B zF (B zF (B zD (zB x131 (zA zD)) (zB zD (zA zF))) (B x99 (zB zD (zA x291)) (zA x227))) (B x51 (B x83 (zB x147 (zA zF)) (zB x211 (zA x339))) (B zF (zB x179 (zA zD)) (zA x243)))) (B x27 (B zD (B x75 (zB x139 (zA x267)) (zB x203 (zA x331))) (B x107 (zB x171 (zA zF)) (zA x235))) (B zF (B x91 (zB x155 (zA x283)) (zA zD)) (B zD (zB zF (zA x315)) (zA zF)))))) (B W.boot_o_5 (B W.boot_o_9 (B zD (B x33 (B x65 (zB x129 (zA x257)) (zB x193 (zA x321))) (B x97 (zB x161 (zA zF)) (zA zF))) (B zF (B zF (zB x145 (zA zD)) (zB zG (zA x337))) (B x113 (zB zF (zA x305)) (zA x241)))) (B zH (B x41 (B zF (zB zD (zA zF)) (zB zI (zA zD))) (B zF (zB x169 (zA x297)) (zA zF))) (B x57 (B zD (zB x153 (zA x281)) (zB x217 (zA x345))) (B x121 (zB x185 (zA x313)) (zA x249))))) (B x13 (B x21 (B x37 (B zF (zB x133 (zA zF)) (zB x197 (zA x325))) (B x101 (zB x165 (zA x293)) (zA x229))) (B x53 (B zJ (zB zD (zA x277)) (zB zF (zA zD))) (B zK (zB x181 (zA x309)) (zA zD)))) (B x29 (B zF (B x77 (zB zF (zA x269)) (zB x205 (zA zF))) (B x109 (zB zD (zA zL)) (zA zF))) (B x61 (B x93 (zB x157 (zA zD)) (zA zF)) (B zF (zB x189 (zA x317)) (zA x253))))))) (B zM (B W.boot_o_4 (B W.boot_o_8 (B zF (B x32 (B x64 (zB x128 (zA x256)) (zB x192 (zA x320))) (B x96 (zB x160 (zA x288)) (zA x224))) (B x48 (B zN (zB zF (zA zF)) (zB x208 (zA zF))) (B x112 (zB x176 (zA x304)) (zA zF)))) (B zD (B x40 (B x72 (zB zF (zA x264)) (zB zD (zA zF))) (B x104 (zB zD (zA x296)) (zA x232))) (B x56 (B x88 (zB x152 (zA zD)) (zB x216 (zA x344))) (B x120 (zB x184 (zA zD)) (zA x248))))) (B x12 (B x20 (B zD (B x68 (zB x132 (zA x260)) (zB x196 (zA zD))) (B x100 (zB x164 (zA x292)) (zA x228))) (B x52 (B x84 (zB zF (zA x276)) (zB x212 (zA zF))) (B zD (zB x180 (zA x308)) (zA zF)))) (B x28 (B zO (B x76 (zB x140 (zA zF)) (zB x204 (zA x332))) (B x108 (zB zF (zA zD)) (zA x236))) (B zD (B zF (zB x156 (zA zF)) (zA x220)) (B zP (zB zD (zA x316)) (zA zD)))))) (B W.boot_o_6 (B W.boot_o_10 (B zQ (B x34 (B zF (zB x130 (zA zF)) (zB zF (zA x322))) (B zR (zB zF (zA zD)) (zA zD))) (B zD (B x82 (zB x146 (zA x274)) (zB x210 (zA x338))) (B x114 (zB zD (zA zF)) (zA x242)))) (B zF (B zF (B zD (zB x138 (zA zD)) (zB zF (zA x330))) (B x106 (zB x170 (zA x298)) (zA x234))) (B x58 (B x90 (zB x154 (zA x282)) (zB zF (zA x346))) (B zF (zB x186 (zA zF)) (zA x250))))) (B x14 (B x22 (B zF (B x70 (zB x134 (zA x262)) (zB x198 (zA x326))) (B zD (zB x166 (zA zF)) (zA zF))) (B zF (B x86 (zB x150 (zA x278)) (zB zD (zA x342))) (B zF (zB zF (zA x310)) (zA x246)))) (B zF (B x46 (B zF (zB zD (zA x270)) (zB zF (zA zD))) (B zF (zB x174 (zA zF)) (zA zD))) (B zF (B x94 (zB x158 (zA x286)) (zA x222)) (B x126 (zB zF (zA zF)) (zA zF)))))))
def _root_.PySem.W.Fast.te12189821708702350190:=@rfl _ PySem.W.Fast.tw12189821708702350190
def K41.y3_349(P:gY):gZ:={ cls:=Value.type "dict",data:=Data.dict (hE P "__name__" 165 mN::(l3 P).take 53).toArray 54 }
def K41.y12_349(P:gY):gZ:={ cls:=vN,data:=Data.fields (l12.take 123).toArray }
def PySem.W.Fast.tw2415014352516690044:=B W.boot_o_0 (B W.boot_o_1 (B y3_349 (B W.boot_o_7 (B zC (B zD (B x63 (zB x127 (zA x255)) (zA x191)) (B x95 (zB x159 (zA x287)) (zA x223))) (B x47 (B zD (zB zE (zA x271)) (zA zD)) (B zD (zB x175 (zA x303)) (zA x239)))) (B zF (B x39 (B x71 (zB x135 (zA x263)) (zA zF)) (B x103 (zB zF (zA zD)) (zA zD))) (B zD (B x87 (zB zF (zA zF)) (zA x215)) (B x119 (zA zD) (zA zF))))) (B x11 (B zF (B zF (B zD (zB x131 (zA zD)) (zA zD)) (B x99 (zB zD (zA x291)) (zA x227))) (B x51 (B x83 (zB x147 (zA zF)) (zA x211)) (B zF (zA x179) (zA x243)))) (B x27 (B zD (B x75 (zB x139 (zA x267)) (zA x203)) (B x107 (zB x171 (zA zF)) (zA x235))) (B zF (B x91 (zB x155 (zA x283)) (zA zD)) (B zD (zA zF) (zA zF)))))) (B W.boot_o_5 (B W.boot_o_9 (B zD (B x33 (B x65 (zB x129 (zA x257)) (zA x193)) (B x97 (zB x161 (zA zF)) (zA zF))) (B zF (B zF (zB x145 (zA zD)) (zA zG)) (B x113 (zB zF (zA x305)) (zA x241)))) (B zH (B x41 (B zF (zB zD (zA zF)) (zA zI)) (B zF (zB x169 (zA x297)) (zA zF))) (B x57 (B zD (zB x153 (zA x281)) (zA x217)) (B x121 (zA x185) (zA x249))))) (B x13 (B x21 (B x37 (B zF (zB x133 (zA zF)) (zA x197)) (B x101 (zB x165 (zA x293)) (zA x229))) (B x53 (B zJ (zB zD (zA x277)) (zA zF)) (B zK (zA x181) (zA zD)))) (B x29 (B zF (B x77 (zB zF (zA x269)) (zA x205)) (B x109 (zB zD (zA zL)) (zA zF))) (B x61 (B x93 (zB x157 (zA zD)) (zA zF)) (B zF (zA x189) (zA x253))))))) (B zM (B W.boot_o_4 (B W.boot_o_8 (B zF (B x32 (B x64 (zB x128 (zA x256)) (zA x192)) (B x96 (zB x160 (zA x288)) (zA x224))) (B x48 (B zN (zB zF (zA zF)) (zA x208)) (B x112 (zB x176 (zA x304)) (zA zF)))) (B zD (B x40 (B x72 (zB zF (zA x264)) (zA zD)) (B x104 (zB zD (zA x296)) (zA x232))) (B x56 (B x88 (zB x152 (zA zD)) (zA x216)) (B x120 (zA x184) (zA x248))))) (B y12_349 (B x20 (B zD (B x68 (zB x132 (zA x260)) (zA x196)) (B x100 (zB x164 (zA x292)) (zA x228))) (B x52 (B x84 (zB zF (zA x276)) (zA x212)) (B zD (zA x180) (zA zF)))) (B x28 (B zO (B x76 (zB x140 (zA zF)) (zA x204)) (B x108 (zB zF (zA zD)) (zA x236))) (B zD (B zF (zB x156 (zA zF)) (zA x220)) (B zP (zA zD) (zA zD)))))) (B W.boot_o_6 (B W.boot_o_10 (B zQ (B x34 (B zF (zB x130 (zA zF)) (zA zF)) (B zR (zB zF (zA zD)) (zA zD))) (B zD (B x82 (zB x146 (zA x274)) (zA x210)) (B x114 (zA zD) (zA x242)))) (B zF (B zF (B zD (zB x138 (zA zD)) (zA zF)) (B x106 (zB x170 (zA x298)) (zA x234))) (B x58 (B x90 (zB x154 (zA x282)) (zA zF)) (B zF (zA x186) (zA x250))))) (B x14 (B x22 (B zF (B x70 (zB x134 (zA x262)) (zA x198)) (B zD (zB x166 (zA zF)) (zA zF))) (B zF (B x86 (zB x150 (zA x278)) (zA zD)) (B zF (zA zF) (zA x246)))) (B zF (B x46 (B zF (zB zD (zA x270)) (zA zF)) (B zF (zB x174 (zA zF)) (zA zD))) (B zF (B x94 (zB x158 (zA x286)) (zA x222)) (B x126 (zA zF) (zA zF)))))))
def _root_.PySem.W.Fast.te2415014352516690044:=@rfl _ PySem.W.Fast.tw2415014352516690044
def K41.y3_271(P:gY):gZ:={ cls:=Value.type "dict",data:=Data.dict (hE P "__name__" 165 (vS "turnery.early" 436)::(l3 P).take 41).toArray 42 }
def K41.y12_271(P:gY):gZ:={ cls:=vN,data:=Data.fields (l12.take 87).toArray }
def PySem.W.Fast.tw10060795016923908421:=B W.boot_o_0 (B W.boot_o_1 (B y3_271 (B W.boot_o_7 (B zC (B zD (B x63 (zA x127) (zA x191)) (B x95 (zA x159) (zA x223))) (B x47 (B zD (zA zE) (zA zD)) (zB zD (zA x175)))) (B zF (B x39 (B x71 (zA x135) (zA zF)) (zB x103 (zA zF))) (B zD (B x87 (zA zF) (zA x215)) (zB x119 (zA zD))))) (B x11 (B zF (B zF (B zD (zA x131) (zA zD)) (B x99 (zA zD) (zA x227))) (B x51 (B x83 (zA x147) (zA x211)) (zB zF (zA x179)))) (B x27 (B zD (B x75 (zA x139) (zA x203)) (zB x107 (zA x171))) (B zF (B x91 (zA x155) (zA zD)) (zB zD (zA zF)))))) (B W.boot_o_5 (B W.boot_o_9 (B zD (B x33 (B x65 (zA x129) (zA x193)) (B x97 (zA x161) (zA zF))) (B zF (B zF (zA x145) (zA zG)) (zB x113 (zA zF)))) (B zH (B x41 (B zF (zA zD) (zA zI)) (zB zF (zA x169))) (B x57 (B zD (zA x153) (zA x217)) (zB x121 (zA x185))))) (B x13 (B x21 (B x37 (B zF (zA x133) (zA x197)) (B x101 (zA x165) (zA x229))) (B x53 (B zJ (zA zD) (zA zF)) (zB zK (zA x181)))) (B x29 (B zF (B x77 (zA zF) (zA x205)) (zB x109 (zA zD))) (B x61 (B x93 (zA x157) (zA zF)) (zB zF (zA x189))))))) (B zM (B W.boot_o_4 (B W.boot_o_8 (B zF (B x32 (B x64 (zA x128) (zA x192)) (B x96 (zA x160) (zA x224))) (B x48 (B zN (zA zF) (zA x208)) (zB x112 (zA x176)))) (B zD (B x40 (B x72 (zA zF) (zA zD)) (zB x104 (zA zD))) (B x56 (B x88 (zA x152) (zA x216)) (zB x120 (zA x184))))) (B y12_271 (B x20 (B zD (B x68 (zA x132) (zA x196)) (B x100 (zA x164) (zA x228))) (B x52 (B x84 (zA zF) (zA x212)) (zB zD (zA x180)))) (B x28 (B zO (B x76 (zA x140) (zA x204)) (zB x108 (zA zF))) (B zD (B zF (zA x156) (zA x220)) (zB zP (zA zD)))))) (B W.boot_o_6 (B W.boot_o_10 (B zQ (B x34 (B zF (zA x130) (zA zF)) (B zR (zA zF) (zA zD))) (B zD (B x82 (zA x146) (zA x210)) (zB x114 (zA zD)))) (B zF (B zF (B zD (zA x138) (zA zF)) (zB x106 (zA x170))) (B x58 (B x90 (zA x154) (zA zF)) (zB zF (zA x186))))) (B x14 (B x22 (B zF (B x70 (zA x134) (zA x198)) (zB zD (zA x166))) (B zF (B x86 (zA x150) (zA zD)) (zB zF (zA zF)))) (B zF (B x46 (B zF (zA zD) (zA zF)) (zB zF (zA x174))) (B zF (B x94 (zA x158) (zA x222)) (zB x126 (zA zF)))))))
def _root_.PySem.W.Fast.te10060795016923908421:=@rfl _ PySem.W.Fast.tw10060795016923908421
def K41.y3_201(P:gY):gZ:={ cls:=Value.type "dict",data:=Data.dict (hE P "__name__" 165 (19:)::(l3 P).take 26).toArray 27 }
def K41.y12_201(P:gY):gZ:={ cls:=vN,data:=Data.fields (l12.take 51).toArray }
def PySem.W.Fast.tw6671337617917965089:=B W.boot_o_0 (B W.boot_o_1 (B y3_201 (B W.boot_o_7 (B zC (B zD (zB x63 (zA x127)) (zB x95 (zA x159))) (B x47 (zB zD (zA zE)) (zA zD))) (B zF (B x39 (zB x71 (zA x135)) (zA x103)) (B zD (zB x87 (zA zF)) (zA x119)))) (B x11 (B zF (B zF (zB zD (zA x131)) (zA x99)) (B x51 (zB x83 (zA x147)) (zA zF))) (B x27 (B zD (zB x75 (zA x139)) (zA x107)) (B zF (zB x91 (zA x155)) (zA zD))))) (B W.boot_o_5 (B W.boot_o_9 (B zD (B x33 (zB x65 (zA x129)) (zB x97 (zA x161))) (B zF (zB zF (zA x145)) (zA x113))) (B zH (B x41 (zB zF (zA zD)) (zA zF)) (B x57 (zB zD (zA x153)) (zA x121)))) (B x13 (B x21 (B x37 (zB zF (zA x133)) (zA x101)) (B x53 (zB zJ (zA zD)) (zA zK))) (B x29 (B zF (zB x77 (zA zF)) (zA x109)) (B x61 (zB x93 (zA x157)) (zA zF)))))) (B zM (B W.boot_o_4 (B W.boot_o_8 (B zF (B x32 (zB x64 (zA x128)) (zB x96 (zA x160))) (B x48 (zB zN (zA zF)) (zA x112))) (B zD (B x40 (zB x72 (zA zF)) (zA x104)) (B x56 (zB x88 (zA x152)) (zA x120)))) (B y12_201 (B x20 (B zD (zB x68 (zA x132)) (zA x100)) (B x52 (zB x84 (zA zF)) (zA zD))) (B x28 (B zO (zB x76 (zA x140)) (zA x108)) (B zD (zB zF (zA x156)) (zA zP))))) (B W.boot_o_6 (B W.boot_o_10 (B zQ (B x34 (zB zF (zA x130)) (zA zR)) (B zD (zB x82 (zA x146)) (zA x114))) (B zF (B zF (zB zD (zA x138)) (zA x106)) (B x58 (zB x90 (zA x154)) (zA zF)))) (B x14 (B x22 (B zF (zB x70 (zA x134)) (zA zD)) (B zF (zB x86 (zA x150)) (zA zF))) (B zF (B x46 (zB zF (zA zD)) (zA zF)) (B zF (zB x94 (zA x158)) (zA x126))))))
def _root_.PySem.W.Fast.te6671337617917965089:=@rfl _ PySem.W.Fast.tw6671337617917965089
def K41.y3_147(P:gY):gZ:={ cls:=Value.type "dict",data:=Data.dict (hE P "__name__" 165 (vS "turnery.errors" 276)::(l3 P).take 22).toArray 23 }
def K41.y12_147(P:gY):gZ:={ cls:=vN,data:=Data.fields (l12.take 39).toArray }
def PySem.W.Fast.tw3848348724903267168:=B W.boot_o_0 (B W.boot_o_1 (B y3_147 (B W.boot_o_7 (B zC (B zD (zA x63) (zA x95)) (zB x47 (zA zD))) (B zF (B x39 (zA x71) (zA x103)) (zB zD (zA x87)))) (B x11 (B zF (B zF (zA zD) (zA x99)) (zB x51 (zA x83))) (B x27 (B zD (zA x75) (zA x107)) (zB zF (zA x91))))) (B W.boot_o_5 (B W.boot_o_9 (B zD (B x33 (zA x65) (zA x97)) (zB zF (zA zF))) (B zH (B x41 (zA zF) (zA zF)) (zB x57 (zA zD)))) (B x13 (B x21 (B x37 (zA zF) (zA x101)) (zB x53 (zA zJ))) (B x29 (B zF (zA x77) (zA x109)) (zB x61 (zA x93)))))) (B zM (B W.boot_o_4 (B W.boot_o_8 (B zF (B x32 (zA x64) (zA x96)) (zB x48 (zA zN))) (B zD (B x40 (zA x72) (zA x104)) (zB x56 (zA x88)))) (B y12_147 (B x20 (B zD (zA x68) (zA x100)) (zB x52 (zA x84))) (B x28 (B zO (zA x76) (zA x108)) (zB zD (zA zF))))) (B W.boot_o_6 (B W.boot_o_10 (B zQ (B x34 (zA zF) (zA zR)) (zB zD (zA x82))) (B zF (B zF (zA zD) (zA x106)) (zB x58 (zA x90)))) (B x14 (B x22 (B zF (zA x70) (zA zD)) (zB zF (zA x86))) (B zF (zB x46 (zA zF)) (zB zF (zA x94))))))
def _root_.PySem.W.Fast.te3848348724903267168:=@rfl _ PySem.W.Fast.tw3848348724903267168
end
open PySem PySem.W PyProof.Rows
set_option maxRecDepth 100000 in
set_option maxHeartbeats 0 in
theorem PySem.Challenge.cw_turnery_k41_early_makes_the_same_holds : PySem.Challenge.rw_turnery_k41_early_makes_the_same.Holds := by
 w_on;o_law;k_head;(case hw=>w_witness2)
 k_fill
 refine K41.walk (c1:=211) (T1:=207) (l:=PySem.Challenge.rw_turnery_k41_early_makes_the_same) rfl rfl (λw h Y=>PySem.W.km_in_of Y) ?tb1 ?F
 case tb1=>
  intro w;refine' L2.TabAt.mk ⟨_,?a⟩ ?b ?c ?d;(case a=>exact rfl);(case b|c|d=>kernel_rfl)
 case F=>
  intro w mg fa h KX G hmg;refine' K41.all_mk (c1:=211) (T1:=207) KX G hmg ?d1 ?d2 ?d3 ?d4 ?d5 ?d6 ?d7 ?d8 ?d9 ?d10 ?d11 ?d12 ?d13 ?d14 ?d15 ?d16 ?d17 ?d18 ?d19 ?d20 ?d21 ?d22 ?d23 ?d24 ?d25 ?d26 ?d27 ?d28 ?d29 ?d30 ?d31 ?d32 ?d33 ?d34 ?d35 ?d36 ?d37 ?d38 ?d39 ?d40 ?d41 ?d42 ?d43 ?d44 ?d45 ?z1 ?z2 ?z3 ?z4 ?z5 ?z6 ?z7 ?z8 ?z9 ?z10 ?z11 ?z12 ?z13 ?z14 ?z15 ?z16 ?o1 ?ht1 ?hh1 ?gA ?gB ?gC ?s1
  (case ht1|hh1=>kernel_rfl)
  (case d1|d2|d3|d4|d5|d6|d7|d8|d9|d10|d11|d12|d13|d14|d15|d16|d17|d18|d19|d20|d21|d22|d23|d24|d25|d26|d27|d28|d29|d30|d31|d32|d33|d34|d35|d36|d37|d38|d39|d40|d41|d42|d43|d44|d45=>refine' L2.DefAt.mk' ?a ?l ?c ?k;(case a|l|c|k=>k_is))
  (case z1|z2|z3|z4|z5|z6|z7|z8|z9|z10|z11|z12|z13|z14|z15|z16|gA|gB|gC=>k_is)
  case s1=>
   refine' K41c.StgK.mk' ?aC ?pg ?hd ?po ?sa ?n1 ?n2 ?n3 ?n4 ?mk ?kc ?m1 ?m2 ?m3
   (case aC|pg|hd|po|sa|n1|n2|n3|n4|mk|kc=>k_is)
   (case m1|m2|m3=>refine' L2.MethAt.mk' ?a ?i ?l ?c ?k;(case a|i|l|c|k=>k_is))
  (case o1=>refine' L2.OneAt.mk' ?a ?l;(case a|l=>k_is))
