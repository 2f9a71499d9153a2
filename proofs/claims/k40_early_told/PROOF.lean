import PyProof.Rows.All
import Wide.All
import OpenK.AllK
import Wide.FinOn
import Lean
import PyProof.EqAt
import PyProof.EqKinds
import PyProof.TupleCall
import KE.KSortTup
import KE.KRevIter
import KE.KLam
import KE.KNestM
import KE.KTryDeep
import KE.KTryOn
import OpenK.KOwn
import KE.KDictList
import PyProof.MeetsSeq
import PyProof.P3In
import PySem.Challenge.RW_turnery_k40_early_told
set_option hygiene false
set_option compiler.extract_closed false
local macro_rules|`((0:))=>`(⟨rfl,rfl,rfl,by decide +kernel,rfl,by decide +kernel,by decide +kernel⟩)
local macro_rules|`((1:))=>`((by decide +kernel))
local macro_rules|`((2:))=>`((Qk Qj (pv 0) Qh (fun _ _=>rfl)))
local macro_rules|`((4:))=>`((Nat.le_refl _))
local macro_rules|`((5:))=>`((by lia))
local macro_rules|`((6:))=>`((model X.prog X.w))
local macro_rules|`((7:))=>`((fun vs H Q E h=>?_))
local macro_rules|`((8:))=>`((wpAny_attempt (wpAny_callSpecial?_slot (name:=Str.ofString "__next__") hI.typeIs F.slot_dict_keyiterator_next (wpAny_call_entry F.slot_dict_keyiterator_next hI.typeIs F.entry_dict_keyiterator_next ?_ (F.args_dict_keyiterator_next_1 _)))))
local macro_rules|`((9:))=>`((model prog w))
local macro_rules|`((10:))=>`((Addr × Obj))
local macro_rules|`((11:))=>`(((s.heap.update a (Obj.mapSeq fun _=>(#[]:Array Value))).push (seqObj "tuple" vs.toArray 0)))
local macro_rules|`((12:))=>`((by decide))
local macro_rules|`((13:))=>`((QH X (xs ++ caps) scope cl s3.heap.objs.size fp s3 H3))
local macro_rules|`((14:))=>`((by intro z;cases z))
local macro_rules|`((16:))=>`((by simp))
local macro_rules|`((17:))=>`((by rw [List.length_map];lia))
local macro_rules|`((18:))=>`((Or.inl rfl))
local macro_rules|`((19:))=>`((vS "turnery.commons" 328))
local macro_rules|`((20:))=>`((s.heap.objs.size + 1))
local macro_rules|`((21:))=>`((wpAny_pure ?_))
local macro_rules|`((22:))=>`((QH X (xs ++ caps) scope cl C fp s₀ H₀))
local macro_rules|`((23:))=>`((List.mem_cons_of_mem _ G))
local macro_rules|`((24:))=>`((((sIx items.size 0 lo:Nat):Int) == 0 && (1:Int) == 1 && (sIx items.size items.size hi - sIx items.size 0 lo) == items.size))
set_option genSizeOf false
set_option bootstrap.genMatcherCode false
local macro_rules
 | `($m:declModifiers def $i:declId $s:optDeclSig $v:declVal)=>if m.raw.getArgs.all (·.isNone) then `(noncomputable def $i:declId $s:optDeclSig $v:declVal) else Lean.Macro.throwUnsupported
 | `($m:declModifiers abbrev $i:declId $s:optDeclSig $v:declVal)=>if m.raw.getArgs.all (·.isNone) then `(noncomputable abbrev $i:declId $s:optDeclSig $v:declVal) else Lean.Macro.throwUnsupported
abbrev gS:=PySem.Params
abbrev gU:=PySem.Obj
abbrev gW:=@PySem.Str.ofString
abbrev gX:=PySem.Challenge.pw_turnery_k40_early_told.main.body
abbrev aD:=@List.getElem?_eq_getElem
abbrev aB:=@PySem.wpAny_bind
abbrev aE:=@List.length_map
abbrev aI:=@Option.some.inj
abbrev aK:=@List.getElem?_map
abbrev aL:=@List.mem_of_getElem?
abbrev aN:=@PySem.Heap.get?_push_of_some
abbrev aH:=@PySem.wpAny_pure
abbrev aJ:=@List.mem_map
abbrev aU:=@List.getElem?_eq_some_iff
abbrev aR:=@List.mem_cons_self
abbrev aM:=@List.mem_cons
abbrev aQ:=@List.getElem_mem
abbrev aT:=@Bool.false_ne_true
abbrev aP:=@List.map_append
abbrev aF:=@if_neg
abbrev aG:=@if_pos
abbrev aO:=@PySem.Heap.lt_size
abbrev aW:=@List.length_append
abbrev aS:=@List.map_cons
abbrev bH:=@List.take_of_length_le
abbrev bD:=@PySem.Heap.get?_push_size
abbrev aZ:=@List.size_toArray
abbrev a_:=@Int.toNat_natCast
abbrev bB:=@List.take_add_one
abbrev aX:=@List.mem_append
abbrev bJ:=@List.mem_singleton
abbrev bR:=@List.mem_cons_of_mem
abbrev bF:=@List.length_cons
abbrev bM:=@of_decide_eq_true
abbrev bQ:=@List.mem_nil_iff
abbrev bN:=@decide_eq_false
abbrev bY:=@List.mem_append_right
abbrev bW:=@List.getElem_of_mem
abbrev bC:=@Nat.ne_of_lt
abbrev bK:=@decide_eq_true
abbrev aY:=@Nat.le_refl
abbrev bS:=@Bool.and_eq_true
abbrev bO:=@PySem.boot_len
abbrev cI:=@Option.bind_eq_some_iff
abbrev bV:=@PySem.PassesOwn.never
abbrev bZ:=@Nat.lt_of_lt_of_le
abbrev cZ:=@PyProof.Rows.boot_isinstance
abbrev bE:=@Nat.zero_le
abbrev cK:=@PyProof.Rows.boot_tuple
abbrev cL:=@Option.map_eq_some_iff
abbrev cS:=@PySem.F.plainAttrs_list
abbrev cM:=@List.length_singleton
abbrev bT:=@Nat.le_trans
abbrev cD:=@Bool.false_eq_true
abbrev cE:=@PySem.W.mg_none_of
abbrev aV:=@Ne.symm
abbrev cT:=@List.mem_append_left
abbrev bX:=@List.map_map
abbrev cU:=@PySem.Heap.SameBut.update
abbrev cG:=@List.find?_cons
abbrev cN:=@PySem.wpAny_newObj_type
abbrev cV:=@Int.emod_lt_of_pos
abbrev eg:=@PySem.wpAny_typeNameOfWhole_keyiter
abbrev cJ:=@Int.emod_nonneg
abbrev cB:=@PySem.wpAny_holding
abbrev bP:=@or_false
abbrev dJ:=@List.getElem?_eq_none
abbrev cW:=@List.length_take
abbrev eh:=@List.getD_eq_getElem?_getD
abbrev cH:=@Bool.and_self
abbrev dU:=@PySem.wpAny_callSpecial?_slot
abbrev c_:=@PySem.wpAny_dictEntries
abbrev en:=@Array.getElem?_eq_getElem
abbrev cO:=@List.mem_range
abbrev cX:=@PySem.W.kia_one
abbrev bU:=@if_false
abbrev dA:=@PySem.wpAny_call_entry
abbrev eo:=@PySem.wpAny_typeNameOf_keyiter
abbrev dX:=@PySem.Heap.get?_update_self
abbrev cC:=@PySem.wpAny_field
abbrev dE:=@List.append_assoc
abbrev fm:=@PyProof.Rows.slot_tuple_getitem
abbrev dB:=@List.mem_filter
abbrev dF:=@List.lookup_cons
abbrev eA:=@Array.getElem?_eq_none
abbrev eB:=@PyProof.Rows.boot_list
abbrev dY:=@PySem.mem_of_lookup
abbrev dG:=@List.append_nil
abbrev dH:=@Nat.le_add_left
abbrev fo:=@PyProof.Rows.callWith_type1
abbrev dN:=@List.take_length
abbrev cY:=@Nat.le_of_lt
abbrev cQ:=@PySem.sizeLine_eq
abbrev eR:=@PySem.Heap.get?_update_other
abbrev eD:=@beq_eq_false_iff_ne
abbrev eE:=@Int.toNat_of_nonneg
abbrev fq:=@List.getElem?_append_left
abbrev dO:=@List.nil_append
abbrev eG:=@List.mem_filterMap
abbrev fu:=@PySem.F.slot_list_append
abbrev fw:=@PySem.F.type_list_append
abbrev cR:=@True.intro
abbrev dP:=@PySem.wpAny_seqItems
abbrev fz:=@List.length_eq_zero_iff
abbrev eI:=@List.length_range
abbrev eS:=@Array.length_toList
abbrev dR:=@Nat.lt_irrefl
abbrev fT:=@List.getElem?_append_right
abbrev dZ:=@PySem.Heap.size_push
abbrev eV:=@PySem.wpAny_Call_Name_kw
abbrev b_:=@if_true
abbrev eX:=@Option.toList_some
abbrev dC:=@PySem.wpAny_mono
abbrev fD:=@List.length_dropLast
abbrev fF:=@PySem.lookup_relabel_local
abbrev fH:=@Nat.mul_le_mul_right
abbrev eJ:=@PySem.wpAny_dictEpoch
abbrev eY:=@PySem.wpAny_truthy_bool
abbrev d_:=@PySem.Paired.length
abbrev ef:=@PySem.W.mg_of
abbrev fJ:=@List.map_congr_left
abbrev eZ:=@PySem.wpAny_isInstance
abbrev e_:=@Option.bind_some
abbrev fU:=@List.drop_of_length_le
abbrev fV:=@List.length_eq_one_iff
abbrev fK:=@PySem.Obj.data_mapFields
abbrev fb:=@PySem.wpAny_passesOwn
abbrev fe:=@List.nodup_cons
abbrev fW:=@List.length_replicate
abbrev fX:=@Array.getElem?_toList
abbrev fY:=@List.take_append_drop
abbrev fZ:=@List.getElem?_zipWith
abbrev gE:=@PySem.F.slot_tuple_iterator_next
abbrev gF:=@List.nodup_iff_pairwise_ne
abbrev fM:=@List.nodup_append
abbrev fN:=@PySem.F.plain_max_loop
abbrev eM:=@Int.zero_add
abbrev f6:=@List.filterMap_cons
abbrev f7:=@List.getElem?_range
abbrev ff:=@List.all_cons
abbrev fg:=@List.any_cons
abbrev fO:=@PyProof.Rows.KeyOrd.kle_refl
abbrev f9:=@PySem.wpAny_setField_rec
abbrev fh:=@PySem.wpAny_typeOf
abbrev fP:=@PySem.wpAny_tryCatch
abbrev fQ:=@List.nodup_nil
abbrev gG:=@PySem.wpAny_notOrdered_dict
abbrev fi:=@Nat.zero_add
abbrev fR:=@PySem.wpAny_setField
abbrev gI:=@PySem.F.slot_enumerate_next
abbrev gJ:=@PySem.wpAny_isOneOf_keyiter
abbrev gK:=@Array.mem_toList_iff
abbrev gL:=@PySem.Around.under_plainId
abbrev eP:=@PySem.wpAny_rule
abbrev eQ:=@Nat.not_lt
abbrev f_:=@List.cons_append
abbrev gf:=@PySem.F.slot_dict_iter
abbrev gM:=@PySem.Obj.data_mapDictKeys
abbrev fS:=@PySem.plainId_quiet
abbrev fj:=@PySem.wpAny_letGo
abbrev gq:=@Bool.eq_iff_iff
abbrev gv:=@List.cons.injEq
abbrev gw:=@Option.map_some
abbrev gD:=@List.range_succ
abbrev gP:=@PySem.F.args_tuple_add_2
abbrev gQ:=@PySem.F.slot_list_extend
abbrev gR:=@PySem.F.type_list_extend
abbrev fk:=@beq_iff_eq
abbrev gN:=@List.ext_getElem?
abbrev gO:=@List.getElem?_set
abbrev Fg:=PySem.W.Frag
noncomputable section
set_option Elab.async false
set_option linter.all false
set_option maxRecDepth 100000
variable{us its its':List PySem.Value}{u cd doc pm cdv ct oc vl vu:PySem.Value}{a b it c f ti l dx T d acc zp tu j1 j2 t1 t2 lm wd fa lw oa c1 ls ln lk T1:PySem.Addr}{o e tg iter value e1 e2 elt el:PySem.Expr}{P prog:PySem.Program}{w:PySem.World}{h h' base:PySem.Heap}{ob:PySem.Obj}{s s':PySem.Shared}{g':Array PySem.GenState}{t' i j n k' k1 n1 n2 kd ep L:Nat}{d':PySem.Drawn}{ch fp:List PySem.Addr}{M:PySem.Model}{A:PySem.Around}{Q QQ:PySem.Value->PySem.Shared->Prop}{pos pos' tpos apos p2 cpos py px:PySem.Pos}{op:PySem.CmpOp}{es elts ifs:List PySem.Expr}{body:List PySem.Stmt}{R:PySem.Result->PySem.Shared->Prop}{hi:Option Int}{p:Array Nat}{mA mg:PySem.Str->Option PySem.Value}{name qual:PySem.Str}{pl:PySem.Sem Bool}{kw:List (PySem.Str×PySem.Value)}{env:PySem.Env}{outer:List PySem.Env}{fd:PySem.FuncData}{ps loose caps kn:List PySem.Str}{kws:List PySem.Keyword}{nm:String}{kindOf:PySem.Str->Option PySem.NameKind}{sc scope:PySem.Scope}{an od:Option PySem.Addr}{osl:Array (Option PySem.Value)}{items:Array PySem.Value}{XP:(PySem.Str->Option PySem.Value)->PySem.Heap->Prop}{YP:PySem.World->PySem.Heap->Prop}{cap:List Nat}{use:Option (PySem.Value->PySem.Sem Unit)}{O:PyProof.Rows.KeyOrd}{ki:Int->Int->Prop}{sh:PySem.Expr->Option (List PySem.Expr)}{ents:Array PySem.DictEntry}{done:List ((Int×Int)×Int)}{first:Int}
namespace L2
open PySem PySem.Spec PyProof.Rows
abbrev Key:=Sum Int Str
def XV:Key->Value->Bool
 | .inl k,v=>Value.isInt k v
 | .inr x,v=>Value.isStrOf x v
def Dj(w:World):Key->Int
 | .inl k=>hashInt k
 | .inr x=>hashStr w x
theorem QK:∀{k:Key}{v:Value},XV k v=true->(∃i t,k=Sum.inl i/\v=Value.int i t)\/(∃x t,k=Sum.inr x/\v=Value.str x t)
 | .inl i,v,h=>by
  obtain⟨t,e⟩:=Value.isInt_shape (k:=i) (v:=v) h;exact .inl ⟨i,t,rfl,e⟩
 | .inr x,v,h=>by
  obtain⟨t,e⟩:=Value.isStrOf_shape (x:=x) (v:=v) h;exact .inr ⟨x,t,rfl,e⟩
theorem LV(i:Int)(t:Tok):XV (.inl i) (.int i t)=true:=by simp [XV,Value.isInt]
theorem LP(x:Str)(t:Tok):XV (.inr x) (.str x t)=true:=by simp [XV,Value.isStrOf]
theorem S7(a b:Int):decide ((Sum.inl a:Key)=Sum.inl b)=(a==b):=by
 by_cases e:a=b
 .subst e;simp
 .have h:¬(Sum.inl a:Key)=Sum.inl b:=λq=>e (Sum.inl.inj q);rw [bN h];exact(eD.mpr e).symm
theorem TH(a b:Str):decide ((Sum.inr a:Key)=Sum.inr b)=decide (a=b):=by
 by_cases e:a=b
 .subst e;simp
 .have h:¬(Sum.inr a:Key)=Sum.inr b:=λq=>e (Sum.inr.inj q);rw [bN h,bN e]
theorem An(a:Int)(b:Str):decide ((Sum.inl a:Key)=Sum.inr b)=false:=bN (λq=>nomatch q)
theorem SQ(a:Str)(b:Int):decide ((Sum.inr a:Key)=Sum.inl b)=false:=bN (λq=>nomatch q)
def Qu(prog:Program)(w:World):PySem.KeyKind prog w Key where
 is:=XV
 hash:=Dj w
 inj:=λv a b ha hb=>by
  rcases QK ha with⟨i,t,rfl,rfl⟩ | ⟨x,t,rfl,rfl⟩
  .rcases QK hb with⟨j,u,rfl,e⟩ | ⟨y,u,rfl,e⟩
   .injection e with e1 _;rw [e1]
   .exact nomatch e
  .rcases QK hb with⟨j,u,rfl,e⟩ | ⟨y,u,rfl,e⟩
   .exact nomatch e
   .injection e with e1 _;rw [e1]
 byValue:=λk v h=>by
  rcases QK h with⟨i,t,rfl,rfl⟩ | ⟨x,t,rfl,rfl⟩<;>rfl
 pyHash:=λhv h=>by
  rcases QK hv with⟨i,t,rfl,rfl⟩ | ⟨x,t,rfl,rfl⟩
  .exact wpAny_pyHash_int h
  .exact wpAny_pyHash_str h
 eqBool:=λhu hv h=>by
  rcases QK hu with⟨i,t,rfl,rfl⟩ | ⟨x,t,rfl,rfl⟩
  .rcases QK hv with⟨j,u,rfl,rfl⟩ | ⟨y,u,rfl,rfl⟩
   .rw [S7]at h;exact wpAny_eqBool_int h
   .rw [An]at h;exact SeqAt.EqAt.int_str i t y u _ _ _ _ h
  .rcases QK hv with⟨j,u,rfl,rfl⟩ | ⟨y,u,rfl,rfl⟩
   .rw [SQ]at h;exact SeqAt.EqAt.str_int x t j u _ _ _ _ h
   .rw [TH]at h;exact wpAny_eqBool_str h
 «strs»:=λk x t v h=>by
  rcases QK h with⟨i,u,rfl,e⟩ | ⟨y,u,rfl,e⟩
  .exact nomatch e
  .injection e with e1 _;subst e1;cases v<;>rfl
theorem WE(prog:Program)(w:World)(i:Int)(t:Tok):(Qu prog w).is (.inl i) (.int i t)=true:=LV i t
theorem Vc(prog:Program)(w:World)(x:Str)(t:Tok):(Qu prog w).is (.inr x) (.str x t)=true:=LP x t
inductive V where
 | non | bl (b:Bool) | int (i:Int) | str (x:Str) | byt (b:Array UInt8) | flt (b:UInt64) | ref (a:Addr) | ty (n:String)
 deriving DecidableEq
def RelV:V->Value->Prop
 | .non,u=>u=Value.none
 | .bl b,u=>u=Value.bool b
 | .int i,u=>∃t,u=Value.int i t
 | .str x,u=>∃t,u=Value.str x t
 | .byt b,u=>∃t,u=Value.bytes b t
 | .flt b,u=>∃t,u=Value.float b t
 | .ref a,u=>u=Value.ref a
 | .ty n,u=>u=Value.type n
abbrev Vals:List V->List Value->Prop:=Paired RelV
theorem Vals.length{xs:List V}(r:Vals xs us):xs.length=us.length:=d_ r
theorem Vals.get:∀{xs:List V}{us:List Value}{i:Nat}{x:V},Vals xs us->xs[i]?=some x->∃u,us[i]?=some u/\RelV x u
 | _,_,_,_,.nil,e=>by simp at e
 | _,_,0,_,.cons r _,e=>by simp at e;subst e;exact⟨_,rfl,r⟩
 | _,_,i+1,x,.cons _ t,e=>by
  obtain⟨u,h1,h2⟩:=Vals.get (i:=i) (x:=x) t (by simpa using e);exact⟨u,by simpa using h1,h2⟩
theorem Vals.set{x:V}(r:RelV x u):∀{xs:List V}{us:List Value}(i:Nat),Vals xs us->Vals (xs.set i x) (us.set i u)
 | _,_,_,.nil=>.nil
 | _,_,0,.cons _ t=>.cons r t
 | _,_,i+1,.cons q t=>.cons q (Vals.set r i t)
theorem Vals.append:∀{xs ys:List V}{us ws:List Value},Vals xs us->Vals ys ws->Vals (xs++ys) (us++ws)
 | _,_,_,_,.nil,s=>s
 | _,_,_,_,.cons r t,s=>.cons r (Vals.append t s)
theorem Vals.take:∀{xs:List V}{us:List Value}(n:Nat),Vals xs us->Vals (xs.take n) (us.take n)
 | _,_,0,_=>.nil
 | _,_,_+1,.nil=>.nil
 | _,_,n+1,.cons r t=>.cons r (Vals.take n t)
theorem Vals.drop:∀{xs:List V}{us:List Value}(n:Nat),Vals xs us->Vals (xs.drop n) (us.drop n)
 | _,_,0,r=>r
 | _,_,_+1,.nil=>.nil
 | _,_,n+1,.cons _ t=>Vals.drop n t
def RelO:Option V->Option Value->Prop
 | some v,some u=>RelV v u
 | none,none=>True
 | _,_=>False
def KV{κ:Type}:List (κ×V)->List (κ×Value)->Prop:=Paired λ(p:κ×V)(q:κ×Value)=>p.1=q.1/\RelV p.2 q.2
def kV:Key->V
 | .inl i=>.int i
 | .inr x=>.str x
inductive HO where
 | lst (xs:List V)
 | tup (xs:List V)
 | dK (kvs:List (Key×V)) | dT (kvs:List (List Key×V))
 | set (S:Int->Bool) (n:Nat)
 | ins (C dx:Addr) (fs:List (Str×V))
 | own (x:Addr)
 | xd (fs:List (Str×V))
 | met (f x:Addr)
 | rng (lo hi:Int)
 | frz (o:Obj) (u:HO)
 | tbl (ps:Array Value)
 | ext (φ:Heap->Prop)
abbrev Hp:=Addr->Option HO
def upd(H:Hp)(a:Addr)(o:HO):Hp:=λb=>if b=a then some o else H b
theorem Qb{H:Hp}{o:HO}:upd H a o a=some o:=by unfold upd;rw [aG rfl]
theorem Qe{H:Hp}{o:HO}(h:b≠a):upd H a o b=H b:=by unfold upd;rw [aF h]
theorem QB{H:Hp}{o u:HO}(h:H a=some o)(h':H b=some u)(d:o≠u):a≠b:=by
 intro e;subst e;rw [h]at h';exact d (aI h')
theorem Qf{H:Hp}{o:HO}(h:H a=some o)(h':H b=none):a≠b:=by
 intro e;subst e;rw [h]at h';cases h'
section
variable(P:Program)(w:World)
def ObjOk(H:Hp)(h:Heap)(a:Addr):HO->Prop
 | .lst xs=>xs.length<=sizeLine/\∃(its:List Value)(n:Nat),Vals xs its/\h.get? a=some { cls:=.type "list",data:=.seq its.toArray n }
 | .tup xs=>xs.length<=sizeLine/\∃its:List Value,Vals xs its/\IsTup h a its.toArray
 | .dK kvs=>kvs.length<=sizeLine/\(a==sysModules)=false/\∃vs,KV kvs vs/\h.DictOf (Qu P w) a vs
 | .dT kvs=>kvs.length<=sizeLine/\(a==sysModules)=false/\∃xs:List (List Key×Addr×Value),
  Paired (λ(p:List Key×V)(q:List Key×Addr×Value)=>p.1=q.1/\H q.2.1=some (.tup (p.1.map kV))/\RelV p.2 q.2.2) kvs xs/\
  ∃o es ep,h.get? a=some o/\o.ExactDict/\o.data=.dict es ep/\es.toList=xs.map (entryOfKey (tupleKind (Qu P w)))/\(xs.map (·.1)).Nodup
 | .set S n=>h.SetOf (intKind P w) a S n
 | .ins C dx fs=>H dx=some (.own a)/\fs.length<=1000/\dx≠a/\h.get? a=some (PySem.W.instObj C dx)/\
  ∃mA,h.Ns1 dx mA/\(∀f,RelO (fs.lookup f) (mA f))/\PySem.Within mA (fs.map (·.1))
 | .own _=>∃o,h.get? a=some o
 | .xd fs=>∃mA,h.Ns1 a mA/\∀f,RelO (fs.lookup f) (mA f)
 | .rng lo hi=>∃t u v,h.get? a=some { cls:=.type "range",data:=.fields #[.int lo t,.int hi u,.int 1 v] }
 | .frz o u=>h.get? a=some o/\ObjOk H h a u
 | .tbl ps=>h.get? a=some { cls:=.none,data:=.fields ps }
 | .met f x=>h.get? a=some (PySem.W.methodObj (.ref f) (.ref x))
 | .ext φ=>φ h/\(∃o,h.get? a=some o)/\∀h1 h2:Heap,φ h1->(∀o,h1.get? a=some o->h2.get? a=some o)->φ h2
def HOk(H:Hp)(h:Heap):Prop:=∀a o,H a=some o->ObjOk P w H h a o
end
section
variable{H H':Hp}{o:HO}
theorem ObjOk.lt(x:ObjOk P w H h a o):a<h.objs.size:=by
 cases o with
 | lst xs=>obtain⟨_,_,_,_,e⟩:=x;exact aO e
 | tup xs=>obtain⟨_,_,_,p⟩:=x;exact p.lt
 | dK kvs=>obtain⟨_,_,_,_,o,_,_,e,_⟩:=x;exact aO e
 | dT kvs=>obtain⟨_,_,_,_,o,_,_,e,_⟩:=x;exact aO e
 | set S n=>obtain⟨o,_,_,_,e,_⟩:=x;exact aO e
 | ins C dx fs=>obtain⟨_,_,_,e,_⟩:=x;exact aO e
 | own y=>obtain⟨_,e⟩:=x;exact aO e
 | xd fs=>obtain⟨_,⟨_,_,_,e,_⟩,_⟩:=x;exact aO e
 | rng lo hi=>obtain⟨_,_,_,e⟩:=x;exact aO e
 | frz G u=>obtain⟨e,_⟩:=x;exact aO e
 | tbl ps=>exact aO (show h.get? a=some _ from x)
 | met f y=>exact aO (show h.get? a=some _ from x)
 | ext J=>obtain⟨_,⟨_,e⟩,_⟩:=x;exact aO e
theorem Paired.mapP{α β:Type}{F G:α->β->Prop}:∀{l₁:List α}{l₂:List β},Paired F l₁ l₂->(∀a b,F a b->G a b)->Paired G l₁ l₂
 | _,_,.nil,_=>.nil
 | _,_,.cons r t,f=>.cons (f _ _ r) (Paired.mapP t f)
theorem ObjOk.stay(x:ObjOk P w H h a o)(k:∀b u,(b=a\/H b=some (.own a))->h.get? b=some u->h'.get? b=some u)
 (ho:∀b,H b=some (.own a)->H' b=some (.own a)) (ht:∀b xs,H b=some (.tup xs)->H' b=some (.tup xs)):ObjOk P w H' h' a o:=by
 induction o with
 | lst xs=>obtain⟨z,its,n,r,e⟩:=x;exact⟨z,its,n,r,k _ _ (.inl rfl) e⟩
 | tup xs=>obtain⟨z,its,r,G,e,c⟩:=x;exact⟨z,its,r,G,k _ _ (.inl rfl) e,c⟩
 | dK kvs=>obtain⟨z,y,vs,r,G,es,ep,e,c⟩:=x;exact⟨z,y,vs,r,G,es,ep,k _ _ (.inl rfl) e,c⟩
 | dT kvs=>
  obtain⟨z,y,xs,r,G,es,ep,e,c⟩:=x;exact⟨z,y,xs,Paired.mapP r λp q z=>⟨z.1,ht _ _ z.2.1,z.2.2⟩,G,es,ep,k _ _ (.inl rfl) e,c⟩
 | set S n=>obtain⟨G,es,ep,t,e,c⟩:=x;exact⟨G,es,ep,t,k _ _ (.inl rfl) e,c⟩
 | ins C dx fs=>
  obtain⟨d,z,ne,e,mA,⟨J,es,ep,L,c⟩,r⟩:=x;exact⟨ho _ d,z,ne,k _ _ (.inl rfl) e,mA,⟨J,es,ep,k _ _ (.inr d) L,c⟩,r⟩
 | own y=>obtain⟨G,e⟩:=x;exact⟨G,k _ _ (.inl rfl) e⟩
 | xd fs=>obtain⟨mA,⟨J,es,ep,e,c⟩,r⟩:=x;exact⟨mA,⟨J,es,ep,k _ _ (.inl rfl) e,c⟩,r⟩
 | rng lo hi=>obtain⟨t,u,v,e⟩:=x;exact⟨t,u,v,k _ _ (.inl rfl) e⟩
 | frz G u M=>obtain⟨e,q⟩:=x;exact⟨k _ _ (.inl rfl) e,M q⟩
 | tbl ps=>
  have e:h.get? a=some { cls:=.none,data:=.fields ps }:=x;show h'.get? a=some { cls:=.none,data:=.fields ps };exact k a _ (.inl rfl) e
 | met f y=>
  have e:h.get? a=some (PySem.W.methodObj (.ref f) (.ref y)):=x;show h'.get? a=some (PySem.W.methodObj (.ref f) (.ref y));exact k a _ (.inl rfl) e
 | ext U=>obtain⟨p,⟨o,e⟩,st⟩:=x;exact⟨st _ _ p λo q=>k _ _ (.inl rfl) q,⟨o,k _ _ (.inl rfl) e⟩,st⟩
theorem HOk.lt(x:HOk P w H h)(e:H a=some o):a<h.objs.size:=(x a o e).lt
theorem HOk.fresh(x:HOk P w H h)(e:h.objs.size<=a):H a=none:=by
 cases q:H a with
 | none=>rfl
 | some u=>exact absurd (bZ (x.lt q) e) (dR _)
theorem HOk.kept(x:HOk P w H h)(k:∀b u,h.get? b=some u->h'.get? b=some u):HOk P w H h':=λa o e=>
 (x a o e).stay (λb u _ q=>k b u q) (λ_ q=>q) λ_ _ q=>q
theorem HOk.laid(x:HOk P w H h)(k:∀b u,h.get? b=some u->h'.get? b=some u)(hp:h.objs.size<=a)(new:ObjOk P w (upd H a o) h' a o):HOk P w (upd H a o) h':=λb u e=>by
 have G:=x.fresh hp
 by_cases J:b=a
 .subst J;rw [Qb]at e;cases e;exact new
 .rw [Qe J]at e;exact(x b u e).stay (λc v _ q=>k c v q) (λc q=>by rw [Qe (Qf q G)];exact q) λc xs q=>by rw [Qe (Qf q G)];exact q
end
def Rd(H:Hp)(a:Addr)(u:HO):Prop:=H a=some u\/∃o,H a=some (.frz o u)
theorem Rd.ok{H:Hp}{u:HO}(r:Rd H a u)(x:HOk P w H h):ObjOk P w H h a u:=by
 rcases r with r | ⟨o,r⟩
 .exact x a u r
 .obtain⟨_,q⟩:=x a _ r;exact q
def Mut:Option HO->Prop
 | some (.lst _)=>True
 | some (.dK _)=>True
 | some (.dT _)=>True
 | some (.set _ _)=>True
 | some (.ins _ _ _)=>True
 | some (.ext _)=>True
 | _=>False
section
variable{H:Hp}{x e:Addr}{o':HO}
theorem HOk.write(ok:HOk P w H h)(mu:Mut (H x))(he:e=x\/H e=some (.own x))(k:∀b u,b≠e->h.get? b=some u->h'.get? b=some u)(heo:∃u,h'.get? e=some u)
 (new:ObjOk P w (upd H x o') h' x o'):HOk P w (upd H x o') h':=λb u q=>by
 have J:∀c y,H c=some (.own y)->c≠x:=λc y r z=>by subst z;rw [r]at mu;exact mu
 have M:∀c xs,H c=some (.tup xs)->c≠x:=λc xs r z=>by subst z;rw [r]at mu;exact mu
 by_cases L:b=x
 .subst L;rw [Qb]at q;cases q;exact new
 .rw [Qe L]at q
  by_cases G:b=e
  .have U:H b=some (.own x):=by
    rcases he with z | z
    .exact absurd (G.trans z) L
    .rw [G];exact z
   rw [q]at U;cases U;obtain⟨v,Y⟩:=heo;exact⟨v,by rw [G];exact Y⟩
  .refine(ok b u q).stay (λc v hc r=>k c v ?_ r) (λc r=>by rw [Qe (J c b r)];exact r) λc xs r=>by rw [Qe (M c xs r)];exact r
   rcases hc with rfl | hc
   .exact G
   .rintro rfl;rcases he with z | z
    .exact J c b hc z
    .rw [hc]at z;cases z;exact L rfl
end
structure Un(fs ex:List Addr)(H H':Hp)(h h':Heap):Prop where
 keep:∀b o,h.get? b=some o->H b=none->b∉fs->b∉ex->h'.get? b=some o
 slot:∀b o,h.get? b=some o->H b=none->b∈fs->b∉ex->∃sl,h'.get? b=some { o with slots:=sl }
 free:∀b o,h.get? b=some o->H b=none->b∉ex->H' b=none
 there:∀b o,h.get? b=some o->b∉ex->∃o',h'.get? b=some o'
 tups:∀b xs,H b=some (.tup xs)->H' b=some (.tup xs)
 frzs:∀b o u,H b=some (.frz o u)->H' b=some (.frz o u)
 tbls:∀b ps,H b=some (.tbl ps)->∃more,H' b=some (.tbl (ps++more))
section
variable{fs fs' ex ex':List Addr}{H H1 H2:Hp}{h1 h2:Heap}{x e:Addr}{o:HO}
theorem Un.any(u:Un fs ex H H1 h h1)(q:h.get? b=some ob)(n:H b=none)(hx:b∉ex):∃sl,h1.get? b=some { ob with slots:=sl }:=by
 by_cases G:b∈fs
 .exact u.slot b ob q n G hx
 .exact⟨ob.slots,u.keep b ob q n G hx⟩
theorem Un.kept(k:∀b u,h.get? b=some u->h'.get? b=some u):Un fs ex H H h h':=
 ⟨λb G q _ _ _=>k b G q,λb G q _ _ _=>⟨G.slots,k b G q⟩,λ_ _ _ n _=>n,λb G q _=>⟨G,k b G q⟩,λ_ _ q=>q,λ_ _ _ q=>q,λ_ ps q=>⟨#[],by rw [q];simp⟩⟩
theorem Un.refl:Un fs ex H H h h:=Un.kept λ_ _ q=>q
theorem Un.laid(k:∀b u,h.get? b=some u->h'.get? b=some u)(hp:h.objs.size<=a)(hn:H a=none):Un fs ex H (upd H a o) h h' where
 keep:=λb u q _ _ _=>k b u q
 slot:=λb u q _ _ _=>⟨u.slots,k b u q⟩
 free:=λb u q n _=>by rw [Qe (bC (bZ (aO q) hp))];exact n
 there:=λb u q _=>⟨u,k b u q⟩
 tups:=λb xs q=>by rw [Qe (Qf q hn)];exact q
 frzs:=λb u xs q=>by rw [Qe (Qf q hn)];exact q
 tbls:=λb ps q=>⟨#[],by rw [Qe (Qf q hn),q];simp⟩
theorem Un.write(mu:Mut (H x))(he:e=x\/H e=some (.own x))(k:∀b u,b≠e->h.get? b=some u->h'.get? b=some u)(heo:∃u,h'.get? e=some u):Un fs ex H (upd H x o) h h':=by
 have L:∀b,H b=none->b≠x:=λb n z=>by subst z;rw [n]at mu;exact mu
 have M:∀b,H b=none->b≠e:=λb n z=>by
  subst z;rcases he with r | r
  .exact L b n r
  .rw [n]at r;cases r
 have J:∀b u,H b=some u->¬Mut (some u)->b≠x:=λb u q nm z=>by subst z;rw [q]at mu;exact nm mu
 refine⟨λb u q n _ _=>k b u (M b n) q,λb u q n _ _=>⟨u.slots,k b u (M b n) q⟩,λb u q n _=>by rw [Qe (L b n)];exact n,λb u q _=>?_,λb xs q=>by rw [Qe (J b _ q λz=>z)];exact q,λb u xs q=>by rw [Qe (J b _ q λz=>z)];exact q,λb ps q=>⟨#[],by rw [Qe (J b _ q λz=>z),q];simp⟩⟩
 by_cases G:b=e
 .subst G;exact heo
 .exact⟨u,k b u G q⟩
end
def trk(h:Heap)(H:Hp):List Addr:=(List.range h.objs.size).filter λa=>(H a).isSome
def Xm(h:Heap)(H:Hp):Heap:=PySem.W.hideAll h (trk h H)
theorem Mt(h:Heap)(H:Hp):(Xm h H).objs.size=h.objs.size:=PySem.W.hideAll_size _ _
theorem OQ{H:Hp}{o:Obj}(e:h.get? b=some o)(n:H b=none):(Xm h H).get? b=some o:=
 PySem.W.hideAll_get _ e λG=>by
  have q:(H b).isSome=true:=(dB.mp G).2;rw [n]at q;simp at q
theorem Rk{H:Hp}{o:Obj}(e:(Xm h H).get? b=some o):h.get? b=some o/\H b=none:=by
 have G:h.get? b=some o:=PySem.W.of_hideAll (trk h H) e;refine⟨G,?_⟩;cases q:H b with
 | none=>rfl
 | some x=>
  have J:b∈trk h H:=dB.mpr ⟨cO.mpr (aO G),by simp [q]⟩;have z:(Xm h H).get? b=none:=PySem.W.hideAll_none (trk h H) J;rw [z]at e;cases e
end L2
variable{xs ys dvs zs:List L2.V}{H H' H1 H2 H0 H'':L2.Hp}{v y sv:L2.V}{Pv:Nat->List L2.V->L2.Hp->Prop}{kvs:List (List L2.Key×L2.V)}{itm:Nat->L2.V}
namespace L2
open PySem PySem.Spec PyProof.Rows
structure Mod(K:Fg)(mg:Str->Option Value)(base:Heap):Prop where
 kin:K.In base
 glob:base.Ns mainGlobals mg
 blt:∃mb,base.Ns builtinsNs mb/\∀x:Str,x≠"__name__"->mb x=bootBuiltins x
 nolimit:base.NoLimit
structure Cx where
 prog:Program
 w:World
 K:Fg
 mg:Str->Option Value
 base:Heap
 A:Around
 N:List Str
 s₀:Shared
 H₀:Hp
 env:Env
 outer:List Env
 stack:List Env
 ex:List Addr
 fn:Str->Bool
 calm:Bool
 pn:List (10:)
 xe:Value->Shared->Prop
def frs(l:List Env):List Addr:=l.filterMap (·.frame)
abbrev Cx.fs(X:Cx):List Addr:=frs X.outer
def Vis(sc:Scope)(x:Str):Prop:=sc.names.lookup x=some .local\/sc.names.lookup x=some .cell\/sc.names.lookup x=some .free
def Loc(sc:Scope)(x:Str):Prop:=sc.names.lookup x=some .local\/sc.names.lookup x=some .cell
def Db(env:Env)(h:Heap)(m:Str->Option Value)(x:Str)(u:Value):Prop:=
 (env.kindOf x=some .local/\m x=some u)\/((env.kindOf x=some .cell\/env.kindOf x=some .free)/\∃c,env.cells.lookup x=some c/\h.IsCell c (some u))
structure Cx.Ok(X:Cx):Prop where
 mod:Mod X.K X.mg X.base
 kind:X.env.scope.kind=.function
 glob:X.env.globals=mainGlobals
 blt:X.env.builtins=builtinsNs
 above:X.s₀.heap.objs.size<=X.env.locals
 inj:∀x y c,X.env.cells.lookup x=some c->X.env.cells.lookup y=some c->x=y
 has:∀x,(X.env.kindOf x=some .cell\/X.env.kindOf x=some .free)->∃c,X.env.cells.lookup x=some c
 cab:∀x c,X.fn x=true->X.env.cells.lookup x=some c->X.s₀.heap.objs.size<=c
 hd:X.calm=true->X.A.handled=none
 frames:X.A.frames=some X.stack
 stk:X.stack=X.outer\/(X.stack=X.env::X.outer/\X.env.frame=some X.env.locals)
 exf:∀b∈X.ex,b≠X.env.locals/\∀x c,X.env.cells.lookup x=some c->c≠b
 bs:∀b o,X.base.get? b=some o->X.s₀.heap.get? b=some o/\X.H₀ b=none
 bsz:X.base.objs.size<=X.s₀.heap.objs.size
 noex:∀b o,X.base.get? b=some o->b∉X.ex
 exfs:∀b∈X.ex,b∉X.fs
 funs:X.s₀.heap.FunFrames X.base X.outer
 frf:∀b∈X.fs,X.H₀ b=none
structure Inv(X:Cx)(pins:List (10:))(σ:List (Option V))(H:Hp)(s:Shared):Prop where
 ok:X.Ok
 os:s.os=X.s₀.os
 bare:AllBare s.gens
 base:Un X.fs X.ex X.H₀ H X.s₀.heap s.heap
 loc:∃m,s.heap.Ns X.env.locals m/\∀(i:Nat)(x:Str)(v:V),X.N[i]?=some x->σ[i]?=some (some v)->Vis X.env.scope x->∃u,RelV v u/\Db X.env s.heap m x u
 cell:∀x c,X.env.cells.lookup x=some c->∃v,s.heap.IsCell c v
 free:H X.env.locals=none
 freeC:∀x c,X.env.cells.lookup x=some c->H c=none
 pin:∀p∈X.pn++pins,s.heap.get? p.1=some p.2/\H p.1=none/\p.1≠X.env.locals/\p.1∉X.fs/\∀v,p.2.data≠.cell v
 hok:HOk X.prog X.w H s.heap
 len:σ.length=X.N.length
section
variable{X:Cx}{pins:List (10:)}{σ:List (Option V)}
theorem Cx.Ok.nofr(ok:X.Ok){o:Obj}(e:X.base.get? b=some o):b∉X.fs:=λG=>by
 have:=(ok.funs.mem G).1;rw [e]at this;cases this
theorem Inv.bs(I:Inv X pins σ H s):∀b o,X.base.get? b=some o->s.heap.get? b=some o/\H b=none:=λb o e=>
 ⟨I.base.keep b o (I.ok.bs b o e).1 (I.ok.bs b o e).2 (I.ok.nofr e) (I.ok.noex b o e),I.base.free b o (I.ok.bs b o e).1 (I.ok.bs b o e).2 (I.ok.noex b o e)⟩
theorem Inv.bk(I:Inv X pins σ H s):∀b o,X.base.get? b=some o->s.heap.get? b=some o:=λb o e=>(I.bs b o e).1
theorem Inv.mod(I:Inv X pins σ H s):Mod X.K X.mg X.base:=I.ok.mod
theorem Inv.kIn(I:Inv X pins σ H s):X.K.In s.heap:=I.ok.mod.kin.keeps I.bk
theorem Inv.lt(I:Inv X pins σ H s):X.env.locals<s.heap.objs.size:=let⟨_,G,_⟩:=I.loc;G.lt
theorem Inv.sz(I:Inv X pins σ H s):X.s₀.heap.objs.size<=s.heap.objs.size:=bT I.ok.above (cY I.lt)
theorem Inv.nofs(I:Inv X pins σ H s)(h:s.heap.objs.size<=a):a∉X.fs:=λG=>by
 obtain⟨_,o,J,_⟩:=I.ok.funs.mem G;exact absurd (bZ (aO J) (bT I.sz h)) (dR _)
theorem Inv.cne(I:Inv X pins σ H s):∀x c,X.env.cells.lookup x=some c->c≠X.env.locals:=λx c e z=>by
 obtain⟨v,o,G,J⟩:=I.cell x c e;obtain⟨m,⟨o',es,ep,L,M,_⟩,_⟩:=I.loc;rw [z,L]at G;cases G;rw [M]at J;cases J
theorem Inv.funs(I:Inv X pins σ H s):s.heap.FunFrames X.base X.outer:=by
 have all:∀(l:List Env),(∀b∈frs l,b∈X.fs)->X.s₀.heap.FunFrames X.base l->s.heap.FunFrames X.base l:=by
  intro l
  induction l with
  | nil=>intro _ _;trivial
  | cons env r Y=>
   intro U Z;obtain⟨hk,⟨L,o,G,hn,ho,hd⟩,hr⟩:=Z;have J:L∈X.fs:=U L (by unfold frs;rw [f6,G];exact aR);obtain⟨sl,e⟩:=I.base.slot L o ho (I.ok.frf L J) J λz=>I.ok.exfs L z J;exact⟨hk,⟨L,_,G,hn,e,hd⟩,Y (λb M=>U b (by unfold frs;rw [f6,G];exact bR _ M)) hr⟩
 exact all X.outer (λ_ M=>M) I.ok.funs
theorem Inv.stack(I:Inv X pins σ H s):s.heap.FunFrames X.base X.stack:=by
 rcases I.ok.stk with e | ⟨e,G⟩
 .rw [e];exact I.funs
 .rw [e];obtain⟨m,J,_⟩:=I.loc;refine .cons (by rw [I.ok.kind];decide) G J ?_ I.funs;exact Heap.get?_none_of_le (bT I.ok.bsz I.ok.above)
theorem Inv.stkSub(I:Inv X pins σ H s):∀b∈frs X.stack,b∈X.env.locals::X.fs:=λb G=>by
 rcases I.ok.stk with e | ⟨e,J⟩
 .rw [e]at G;exact bR _ G
 .rw [e]at G;unfold frs at G;rw [f6,J]at G;exact G
theorem Inv.stkFree(I:Inv X pins σ H s):∀b∈frs X.stack,H b=none:=λb hb=>by
 rcases aM.mp (I.stkSub b hb)with e | hb
 .rw [e];exact I.free
 .obtain⟨_,o,G,_⟩:=I.ok.funs.mem hb;exact I.base.free b o G (I.ok.frf b hb) λz=>I.ok.exfs b z hb
theorem Inv.step(I:Inv X pins σ H s)
 (hch:∀b∈ch,(b∈X.ex\/X.s₀.heap.objs.size<=b)/\b≠X.env.locals/\(∀x c,X.env.cells.lookup x=some c->c≠b)/\∀p∈X.pn++pins,p.1≠b)
 (keep:∀b o,b≠X.env.locals->b∉X.fs->b∉ch->s.heap.get? b=some o->H b=none->h'.get? b=some o)
 (slot:∀b o,b≠X.env.locals->b∈X.fs->b∉ch->s.heap.get? b=some o->H b=none->∃sl,h'.get? b=some { o with slots:=sl }) (free:∀b o,b∉ch->s.heap.get? b=some o->H b=none->H' b=none)
 (there:∀b o,b∉ch->s.heap.get? b=some o->∃o',h'.get? b=some o')
 (tups:∀b xs,H b=some (.tup xs)->H' b=some (.tup xs)) (frzs:∀b o u,H b=some (.frz o u)->H' b=some (.frz o u)) (tbls:∀b ps,H b=some (.tbl ps)->∃more,H' b=some (.tbl (ps++more)))
 (ns:∀m,s.heap.Ns X.env.locals m->h'.Ns X.env.locals m) (hok:HOk X.prog X.w H' h') (hg:AllBare g'):
 Inv X pins σ H' { s with heap:=h',gens:=g',drawn:=d',toks:=t' }:=by
 have aa:∀b o,X.s₀.heap.get? b=some o->b≠X.env.locals:=λb o e=>bC (bZ (aO e) I.ok.above);have U:∀b o,X.s₀.heap.get? b=some o->b∉X.ex->b∉ch:=λb o e G M=>by
  rcases(hch b M).1 with z | z
  .exact G z
  .exact absurd (bZ (aO e) z) (dR _)
 have Y:∀x c,X.env.cells.lookup x=some c->∀v,s.heap.IsCell c v->h'.IsCell c v:=λx c e v ⟨o,Z,hd⟩=>by
  have L:c∉ch:=λz=>(hch c z).2.2.1 x c e rfl
  by_cases hc:c∈X.fs
  .obtain⟨sl,q⟩:=slot c o (I.cne x c e) hc L Z (I.freeC x c e);exact⟨_,q,hd⟩
  .exact⟨o,keep c o (I.cne x c e) hc L Z (I.freeC x c e),hd⟩
 refine⟨I.ok,I.os,hg,⟨λb o e n M G=>?_,λb o e n M G=>?_,λb o e n G=>?_,λb o e G=>?_,λb xs e=>tups b xs (I.base.tups b xs e),λb o xs e=>frzs b o xs (I.base.frzs b o xs e),λb ps e=>?_⟩,?_,λx c e=>?_,?_,λx c e=>?_,λp hp=>?_,hok,I.len⟩
 .exact keep b o (aa b o e) M (U b o e G) (I.base.keep b o e n M G) (I.base.free b o e n G)
 .obtain⟨sl,J⟩:=I.base.slot b o e n M G;obtain⟨ab,e2⟩:=slot b _ (aa b o e) M (U b o e G) J (I.base.free b o e n G);exact⟨ab,e2⟩
 .obtain⟨o',J⟩:=I.base.there b o e G;exact free b o' (U b o e G) J (I.base.free b o e n G)
 .obtain⟨o',J⟩:=I.base.there b o e G;exact there b o' (U b o e G) J
 .obtain⟨m1,J⟩:=I.base.tbls b ps e;obtain⟨m2,e2⟩:=tbls b _ J;exact⟨m1++m2,by rw [e2,Array.append_assoc]⟩
 .obtain⟨m,hn,hl⟩:=I.loc;refine⟨m,ns m hn,λi x v J e2 e3=>?_⟩;obtain⟨u,r,l⟩:=hl i x v J e2 e3;refine⟨u,r,?_⟩;rcases l with l | ⟨k,c,e,z⟩
  .exact .inl l
  .exact .inr ⟨k,c,e,Y x c e _ z⟩
 .obtain⟨v,z⟩:=I.cell x c e;exact⟨v,Y x c e v z⟩
 .obtain⟨m,⟨o,_,_,Z,_⟩,_⟩:=I.loc;exact free _ o (λz=>(hch _ z).2.1 rfl) Z I.free
 .obtain⟨v,o,Z,hd⟩:=I.cell x c e;exact free c o (λz=>(hch c z).2.2.1 x c e rfl) Z (I.freeC x c e)
 .obtain⟨e,n,ne,nf,d⟩:=I.pin p hp;have L:p.1∉ch:=λz=>(hch p.1 z).2.2.2 p hp rfl;exact⟨keep p.1 p.2 ne nf L e n,free p.1 p.2 L e n,ne,nf,d⟩
theorem Inv.un{t':Nat}(I:Inv X pins σ H s)(u:Un X.fs [] H H' s.heap h')(hok:HOk X.prog X.w H' h'):Inv X pins σ H' { s with heap:=h',toks:=t' }:=by
 obtain⟨m,⟨o,es,ep,L,r⟩,_⟩:=id I.loc;obtain⟨sl,Y⟩:=u.any L I.free (16:);exact I.step (g':=s.gens) (d':=s.drawn) (ch:=[]) (λ_ z=>nomatch z) (λb o _ J _ e n=>u.keep b o e n J (16:)) (λb o _ J _ e n=>u.slot b o e n J (16:)) (λb o _ e n=>u.free b o e n (16:)) (λb o _ e=>u.there b o e (16:)) u.tups u.frzs u.tbls (λm' Z=>by
  obtain⟨o',M,U,G,r'⟩:=Z;rw [L]at G;cases G;exact⟨_,M,U,Y,r'⟩) hok I.bare
theorem Inv.call(I:Inv X pins σ H s)(u:Un (frs X.stack) ch H H' s.heap h')(hok:HOk X.prog X.w H' h')(hg:AllBare g')
 (hch:∀b∈ch,(b∈X.ex\/X.s₀.heap.objs.size<=b)/\b≠X.env.locals/\(∀x c,X.env.cells.lookup x=some c->c≠b)/\∀p∈X.pn++pins,p.1≠b):
 Inv X pins σ H' { s with heap:=h',gens:=g',drawn:=d',toks:=t' }:=by
 obtain⟨m,⟨o,es,ep,M,r⟩,_⟩:=id I.loc;obtain⟨sl,L⟩:=u.any M I.free λz=>(hch _ z).2.1 rfl;exact I.step (ch:=ch) hch (λb o L Z G e n=>u.keep b o e n (λz=>(aM.mp (I.stkSub b z)).elim L Z) G) (λb o _ _ G e n=>u.any e n G) (λb o G e n=>u.free b o e n G) (λb o G e=>u.there b o e G) u.tups u.frzs u.tbls (λm' hm=>by
  obtain⟨o',U,Y,J,r'⟩:=hm;rw [M]at J;cases J;exact⟨_,U,Y,L,r'⟩) hok hg
theorem Inv.turned(I:Inv X pins σ H s)(k:∀b o,b≠it->s.heap.get? b=some o->h'.get? b=some o)(hn:H it=none)(hL:it≠X.env.locals)
 (h1:it∈X.ex\/X.s₀.heap.objs.size<=it) (h2:∀x c,X.env.cells.lookup x=some c->c≠it) (h3:∀p∈X.pn++pins,p.1≠it):Inv X pins σ H { s with heap:=h',toks:=t' }:=by
 have J:∀b u,H b=some u->b≠it:=λb u e z=>by rw [z,hn]at e;cases e
 refine I.step (g':=s.gens) (d':=s.drawn) (ch:=[it]) (λb L=>?_) (λb o _ _ G e _=>k b o (λz=>G (by simp [z])) e) (λb o _ _ G e _=>⟨o.slots,k b o (λz=>G (by simp [z])) e⟩) (λ_ _ _ _ n=>n)
  (λb o G e=>⟨o,k b o (λz=>G (by simp [z])) e⟩) (λ_ _ e=>e) (λ_ _ _ e=>e) (λb ps e=>⟨#[],by rw [e];simp⟩) (λm M=>?_) (λb u e=>?_) I.bare
 .have e:b=it:=by simpa using L
  subst e;exact⟨h1,hL,h2,h3⟩
 .obtain⟨o,es,ep,U,r⟩:=M;exact⟨o,es,ep,k _ o (aV hL) U,r⟩
 .refine(I.hok b u e).stay (λc v G q=>k c v ?_ q) (λ_ q=>q) λ_ _ q=>q;rcases G with z | z
  .rw [z];exact J b u e
  .exact J c _ z
theorem Inv.tok(I:Inv X pins σ H s)(t:Nat):Inv X pins σ H { s with toks:=t }:=I.un (h':=s.heap) (t':=t) Un.refl I.hok
theorem Inv.kept(I:Inv X pins σ H s)(k:∀b u,s.heap.get? b=some u->h'.get? b=some u):Inv X pins σ H { s with heap:=h',toks:=t' }:=I.un (Un.kept k) (I.hok.kept k)
theorem Inv.laid{o:HO}(I:Inv X pins σ H s)(k:∀b u,s.heap.get? b=some u->h'.get? b=some u)(hp:s.heap.objs.size<=a)(new:ObjOk X.prog X.w (upd H a o) h' a o):
 Inv X pins σ (upd H a o) { s with heap:=h',toks:=t' }:=I.un (Un.laid k hp (I.hok.fresh hp)) (I.hok.laid k hp new)
theorem Inv.write{x e:Addr}{o:HO}(I:Inv X pins σ H s)(mu:Mut (H x))(he:e=x\/H e=some (.own x))(k:∀b u,b≠e->s.heap.get? b=some u->h'.get? b=some u)(heo:∃u,h'.get? e=some u)
 (new:ObjOk X.prog X.w (upd H x o) h' x o):Inv X pins σ (upd H x o) { s with heap:=h',toks:=t' }:=I.un (Un.write mu he k heo) (I.hok.write mu he k heo new)
theorem Inv.pins_of{pins':List (10:)}(I:Inv X pins σ H s)(h:∀p∈pins',s.heap.get? p.1=some p.2/\H p.1=none/\p.1≠X.env.locals/\p.1∉X.fs/\∀v,p.2.data≠.cell v):Inv X pins' σ H s:=
 ⟨I.ok,I.os,I.bare,I.base,I.loc,I.cell,I.free,I.freeC,λp hp=>(aX.mp hp).elim (λz=>I.pin p (cT _ z)) (h p),I.hok,I.len⟩
theorem Vb{N:List Str}(hN:N.Nodup){x:Str}(a:N[i]?=some x)(b:N[j]?=some x):i=j:=by
 obtain⟨h1,G⟩:=aU.mp a;obtain⟨h2,J⟩:=aU.mp b;exact(List.getElem_inj hN).mp (G.trans J.symm)
theorem XQ{M:Model}{A:Around}{E:Value->Shared->Prop}{i:Nat}{x:Str}{v:V}{u:Value}{Q:Unit->Shared->Prop}(I:Inv X pins σ H s)(hN:X.N.Nodup)(hi:X.N[i]?=some x)(hx:Loc X.env.scope x)(r:RelV v u)
 (h:∀s',Inv X pins (σ.set i (some v)) H s'->(∃a,Heap.SameBut a s.heap s'.heap/\(a=X.env.locals\/X.env.cells.lookup x=some a))->Q () s') (hf:X.fn x=true\/X.env.scope.names.lookup x=some .local:=by first | exact .inl rfl | exact .inr rfl | assumption):wpAny M A (storeName X.env x u) Q E s:=by
 obtain⟨m,hn,hl⟩:=id I.loc;have ag:(X.env.scope.kind== .class||(X.env.scope.kind== .module&&X.env.locals !=X.env.globals))=false:=by rw [I.ok.kind];rfl
 have ac:i<σ.length:=by rw [I.len];exact(aU.mp hi).1
 have cne:=I.cne;have L:∀{a:Addr}{h':Heap},(∃o,s.heap.get? a=some o/\H a=none)->Heap.SameBut a s.heap h'->HOk X.prog X.w H h':=λ{a h'} ha G b ob e=>by
  obtain⟨_,_,aa⟩:=ha;refine(I.hok b ob e).stay (λc w' hc q=>(G.2 c ?_).trans q) (λ_ q=>q) λ_ _ q=>q;rintro rfl;rcases hc with rfl | hc
  .rw [aa]at e;cases e
  .rw [aa]at hc;cases hc
 rcases hx with hk | hk
 .refine wpAny_storeName_local hk hn (λh' ai G=>?_) ag;obtain⟨oL,_,_,aj,_⟩:=id hn;refine h _ ⟨I.ok,I.os,I.bare,⟨λb o e n Y hx=>?_,λb o e n Y hx=>?_,I.base.free,λb o e hx=>?_,I.base.tups,I.base.frzs,I.base.tbls⟩,⟨_,ai,λj y v' J U e3=>?_⟩,λy c e=>?_,I.free,I.freeC,λp hp=>?_,L ⟨oL,aj,I.free⟩ G,by simpa using I.len⟩ ⟨_,G,.inl rfl⟩
  .exact(G.2 b (bC (bZ (aO e) I.ok.above))).trans (I.base.keep b o e n Y hx)
  .obtain⟨sl,J⟩:=I.base.slot b o e n Y hx;exact⟨sl,(G.2 b (bC (bZ (aO e) I.ok.above))).trans J⟩
  .obtain⟨o',J⟩:=I.base.there b o e hx;exact⟨o',(G.2 b (bC (bZ (aO e) I.ok.above))).trans J⟩
  .by_cases Z:j=i
   .subst Z;rw [hi]at J;cases J;rw [List.getElem?_set_self ac]at U;cases U;exact⟨u,r,.inl ⟨hk,by simp⟩⟩
   .rw [List.getElem?_set_ne (aV Z)]at U;obtain⟨u',r',q⟩:=hl j y v' J U e3;refine⟨u',r',?_⟩;rcases q with⟨k,e⟩ | ⟨k,c,e,z⟩
    .refine .inl ⟨k,?_⟩;have:y≠x:=λe=>Z (Vb hN J (e ▸ hi));simp [this,e]
    .exact .inr ⟨k,c,e,z.sameBut G (cne y c e)⟩
  .obtain⟨w',z⟩:=I.cell y c e;exact⟨w',z.sameBut G (cne y c e)⟩
  .obtain⟨e,n,ne,nf,d⟩:=I.pin p hp;exact⟨(G.2 p.1 ne).trans e,n,ne,nf,d⟩
 .have ab:X.fn x=true:=by
   rcases hf with z | z
   .exact z
   .rw [z]at hk;cases hk
  obtain⟨c,hc⟩:=I.ok.has x (.inl hk);obtain⟨w',z⟩:=I.cell x c hc;refine wpAny_storeName_cell I.ok.kind hk hc z (λh' ad G=>?_);obtain⟨oc,ae,ah⟩:=id z;refine h { s with heap:=h' } ⟨I.ok,I.os,I.bare,⟨λb o e n Y hx=>?_,λb o e n Y hx=>?_,I.base.free,λb o e hx=>?_,I.base.tups,I.base.frzs,I.base.tbls⟩,⟨m,hn.sameBut G (aV (cne x c hc)),λj y v' J U e3=>?_⟩,λy c' e=>?_,I.free,I.freeC,λp hp=>?_,L ⟨oc,ae,I.freeC x c hc⟩ G,by simpa using I.len⟩ ⟨c,G,.inr hc⟩
  .exact(G.2 b (bC (bZ (aO e) (I.ok.cab x c ab hc)))).trans (I.base.keep b o e n Y hx)
  .obtain⟨sl,J⟩:=I.base.slot b o e n Y hx;exact⟨sl,(G.2 b (bC (bZ (aO e) (I.ok.cab x c ab hc)))).trans J⟩
  .obtain⟨o',J⟩:=I.base.there b o e hx;exact⟨o',(G.2 b (bC (bZ (aO e) (I.ok.cab x c ab hc)))).trans J⟩
  .by_cases Z:j=i
   .subst Z;rw [hi]at J;cases J;rw [List.getElem?_set_self ac]at U;cases U;exact⟨u,r,.inr ⟨.inl hk,c,hc,ad⟩⟩
   .rw [List.getElem?_set_ne (aV Z)]at U;obtain⟨u',r',q⟩:=hl j y v' J U e3;refine⟨u',r',?_⟩;rcases q with q | ⟨k,c',e,z'⟩
    .exact .inl q
    .refine .inr ⟨k,c',e,z'.sameBut G ?_⟩;rintro rfl;exact Z (Vb hN J (I.ok.inj _ _ _ e hc ▸ hi))
  .by_cases af:c'=c
   .subst af;exact⟨_,ad⟩
   .obtain⟨w2,z2⟩:=I.cell y c' e;exact⟨w2,z2.sameBut G af⟩
  .obtain⟨e,n,ne,nf,d⟩:=I.pin p hp;refine⟨(G.2 p.1 ?_).trans e,n,ne,nf,d⟩;intro q;rw [q,ae]at e;have q':oc=p.2:=aI e;exact d w' (by rw [<-q'];exact ah)
theorem W3{E:Value->Shared->Prop}{x:Str}{Q:Unit->Shared->Prop}(I:Inv X pins σ H s)(hN:X.N.Nodup)(hi:X.N[i]?=some x)(hx:Loc X.env.scope x)(r:RelV v u)
 (h:∀s',Inv X pins (σ.set i (some v)) H s'->Q () s') (hf:X.fn x=true\/X.env.scope.names.lookup x=some .local:=by first | exact .inl rfl | exact .inr rfl | assumption):wpAny M A (storeName X.env x u) Q E s:=
 XQ I hN hi hx r (λs' G _=>h s' G) hf
theorem Inv.call'(I:Inv X pins σ H s)(ho:s'.os=s.os)(u:Un (frs X.stack) ch H H' s.heap s'.heap)(hok:HOk X.prog X.w H' s'.heap)(hg:AllBare s'.gens)
 (hch:∀b∈ch,(b∈X.ex\/X.s₀.heap.objs.size<=b)/\b≠X.env.locals/\(∀x c,X.env.cells.lookup x=some c->c≠b)/\∀p∈X.pn++pins,p.1≠b):Inv X pins σ H' s':=by
 obtain⟨h',g',d',t',o'⟩:=s';have e:o'=s.os:=ho;subst e;exact I.call (g':=g') (t':=t') (d':=d') u hok hg hch
end
abbrev XK:=Value->Option Addr->Hp->Prop
abbrev St:=List (Option V)
abbrev VK:=V->Hp->Prop
abbrev TE:=St->Hp->VK->Prop
abbrev TT:=St->Hp->(Bool->Hp->Prop)->Prop
abbrev TA:=St->Hp->(List V->Hp->Prop)->Prop
structure Ends where
 nx:St->Hp->Prop
 rt:VK
 bk:St->Hp->Prop:=λ_ _=>False
 ct:St->Hp->Prop:=λ_ _=>False
abbrev TS:=Ends->St->Hp->Prop
def EP(X:Cx)(pins:List (10:))(σ:St)(Q:VK)(u:Value)(s':Shared):Prop:=∃v H',Inv X pins σ H' s'/\RelV v u/\Q v H'
def TP(X:Cx)(pins:List (10:))(σ:St)(Q:Bool->Hp->Prop)(b:Bool)(s':Shared):Prop:=∃H',Inv X pins σ H' s'/\Q b H'
def AP(X:Cx)(pins:List (10:))(σ:St)(Q:List V->Hp->Prop)(us:List Value)(s':Shared):Prop:=∃vs H',Inv X pins σ H' s'/\Vals vs us/\Q vs H'
def SP(X:Cx)(pins:List (10:))(D:Ends)(f:Flow)(s':Shared):Prop:=
 match f with
 | .next=>∃σ' H',Inv X pins σ' H' s'/\D.nx σ' H'
 | .brk=>∃σ' H',Inv X pins σ' H' s'/\D.bk σ' H'
 | .cont=>∃σ' H',Inv X pins σ' H' s'/\D.ct σ' H'
 | .ret u=>∃v σ' H',Inv X pins σ' H' s'/\RelV v u/\D.rt v H'
def PE(X:Cx)(e:Expr)(t:TE):Prop:=
 ∀(pins:List (10:))(s:Shared)(σ:St)(H:Hp)(Q:VK),Inv X pins σ H s->t σ H Q->wpAny (6:) X.A (eval e X.env) (EP X pins σ Q) X.xe s
def PT(X:Cx)(e:Expr)(t:TT):Prop:=
 ∀(pins:List (10:))(s:Shared)(σ:St)(H:Hp)(Q:Bool->Hp->Prop),Inv X pins σ H s->t σ H Q->wpAny (6:) X.A (isTrue e X.env (eval e X.env)) (TP X pins σ Q) X.xe s
def PW(X:Cx)(e:Expr)(t:TT):Prop:=
 ∀(whole:Sem Value)(pins:List (10:))(s:Shared)(σ:St)(H:Hp)(Q:Bool->Hp->Prop),Inv X pins σ H s->t σ H Q->wpAny (6:) X.A (isTrue e X.env whole) (TP X pins σ Q) X.xe s
theorem PW.pt{X:Cx}{t:TT}(h:PW X e t):PT X e t:=h _
def PA(X:Cx)(es:List Expr)(t:TA):Prop:=
 ∀(pos:Pos)(pins:List (10:))(s:Shared)(σ:St)(H:Hp)(Q:List V->Hp->Prop),Inv X pins σ H s->t σ H Q->wpAny (6:) X.A (spliced (backTo pos (starEach es X.env))) (AP X pins σ Q) X.xe s
def PS(X:Cx)(st:Stmt)(t:TS):Prop:=
 ∀(pins:List (10:))(s:Shared)(σ:St)(H:Hp)(D:Ends),Inv X pins σ H s->t D σ H->wpAny (6:) X.A (exec st X.env) (SP X pins D) X.xe s
def PSs(X:Cx)(st:List Stmt)(t:TS):Prop:=
 ∀(pins:List (10:))(s:Shared)(σ:St)(H:Hp)(D:Ends),Inv X pins σ H s->t D σ H->wpAny (6:) X.A (execs st X.env) (SP X pins D) X.xe s
theorem thn{α:Type}{t:Sem α}{Q Q':α->Shared->Prop}{E:Value->Shared->Prop}(h:wpAny M A t Q E s)(hQ:∀a s,Q a s->Q' a s):wpAny M A t Q' E s:=dC h hQ λ_ _ x=>x
end L2
variable{X:L2.Cx}{σ cs:L2.St}{ta te to tl tv tit:L2.TE}{tc tt:L2.TT}{tk:L2.TA}{r:Fg->List L2.V->L2.Hp->L2.VK->Prop}{a1 a3 a4:L2.TS}{nr:List (List L2.V->L2.Hp->L2.VK->Prop)}{sr:List (L2.St->List L2.V->L2.Hp->(L2.St->L2.Hp->Prop)->Prop)}{EE:L2.St->L2.XK}
namespace L2
open PySem PySem.Spec PyProof.Rows
section
def ZT(i:Nat):TE:=λσ H Q=>∃v,σ[i]?=some (some v)/\Q v H
def tC(v:V):TE:=λ_ H Q=>Q v H
theorem VL{i:Nat}{x:Str}{pos:Pos}(hN:X.N[i]?=some x)(hv:Vis X.env.scope x)(hd:(x==("__debug__":Str))=false:=by decide)(hcd:(x==("__classdict__":Str))=false:=by decide):PE X (.Name x pos) (ZT i):=by
 intro pins s σ H Q I h;obtain⟨v,e,h⟩:=h;obtain⟨m,L,M⟩:=I.loc;obtain⟨u,r,l⟩:=M i x v hN e hv;have fin:EP X pins σ Q u s:=⟨v,H,I,r,h⟩;rcases l with⟨hk,U⟩ | ⟨hk,c,J,G⟩
 .exact wpAny_Name (wpAny_loadName_local I.ok.kind hk L U fin) hd
 .rcases hk with hk | hk
  .exact wpAny_Name (wpAny_loadName_cell I.ok.kind hk J G fin) hd
  .exact wpAny_Name (wpAny_loadName_free I.ok.kind hk J G fin hcd) hd
theorem Qh{i j pos}:PE X (.Constant (.int i) j pos) (tC (.int i)):=λ_ _ _ H _ I h=>wpAny_Constant_int ⟨.int i,H,I.tok _,⟨_,rfl⟩,h⟩
theorem ZN{b j pos}:PE X (.Constant (.bool b) j pos) (tC (.bl b)):=λ_ _ _ H _ I h=>Constant_bool ⟨.bl b,H,I,rfl,h⟩
theorem T8{j pos}:PE X (.Constant .none j pos) (tC .non):=λ_ _ _ H _ I h=>Constant_none ⟨.non,H,I,rfl,h⟩
theorem Zi{x j pos}:PE X (.Constant (.str x) j pos) (tC (.str x)):=λ_ _ _ H _ I h=>Calls.Constant_str ⟨.str x,H,I.tok _,⟨_,rfl⟩,h⟩
def Gl(X:Cx)(x:Str):Prop:=X.env.kindOf x=some .globalImplicit
theorem U6{E:Value->Shared->Prop}{pins:List (10:)}{x:Str}(I:Inv X pins σ H s)(hg:Gl X x)(hm:X.mg x=some u)(h:Q u s)
 (hd:(x==("__debug__":Str))=false:=by decide):wpAny (6:) X.A (eval (.Name x pos) X.env) Q E s:=
 Calls.Name_function_global I.ok.kind hg (Calls.loadGlobal_global (by rw [I.ok.glob];exact I.mod.glob.keeps I.bk) hm h) hd
theorem Z6{E:Value->Shared->Prop}{pins:List (10:)}{x:Str}(I:Inv X pins σ H s)(hg:Gl X x)(hm:X.mg x=none)(hv:bootBuiltins x=some u)(h:Q u s)
 (hn:x≠"__name__":=by decide) (hd:(x==("__debug__":Str))=false:=by decide):wpAny (6:) X.A (eval (.Name x pos) X.env) Q E s:=by
 obtain⟨G,h1,h2⟩:=I.mod.blt;exact Calls.Name_function_global I.ok.kind hg (Calls.loadGlobal_builtin (by rw [I.ok.glob];exact I.mod.glob.keeps I.bk) hm (by rw [I.ok.blt];exact h1.keeps I.bk) ((h2 x hn).trans hv) h) hd
theorem Uf{x:Str}{v:V}{u:Value}{pos:Pos}(hg:Gl X x)(hm:X.mg x=some u)(r:RelV v u)(hd:(x==("__debug__":Str))=false:=by decide):PE X (.Name x pos) (tC v):=
 λ_ _ _ H _ I h=>U6 I hg hm ⟨v,H,I,r,h⟩ hd
theorem Zb{x:Str}{v:V}{u:Value}{pos:Pos}(hg:Gl X x)(hm:X.mg x=none)(hv:bootBuiltins x=some u)(r:RelV v u)(hn:x≠"__name__":=by decide)(hd:(x==("__debug__":Str))=false:=by decide):PE X (.Name x pos) (tC v):=
 λ_ _ _ H _ I h=>Z6 I hg hm hv ⟨v,H,I,r,h⟩ hn hd
variable{a b:Expr}{tb:TE}
def PC(X:Cx)(op:CmpOp)(a b:Expr)(t:TE):Prop:=
 ∀(pins:List (10:))(s:Shared)(σ:St)(H:Hp)(Q:VK),Inv X pins σ H s->t σ H Q->
  wpAny (6:) X.A (eval a X.env) (λv s₁=>wpAny (6:) X.A (eval b X.env) (λu s₂=>wpAny (6:) X.A (compareOp op v u) (EP X pins σ Q) X.xe s₂) X.xe s₁) X.xe s
def tB(t:TE):TT:=λσ H Q=>t σ H λx H1=>∃c,x=.bl c/\Q c H1
theorem AB{t:TE}(h:PC X op a b t)(h1:behindInMarks op b=false:=by first | exact nobehind _ (12:) (12:) | rfl):PT X (.Compare a [op] [b] pos) (tB t):=by
 intro pins s σ H Q I G;refine wpAny_isTrue_Compare1 (thn (h pins s σ H _ I G) λv U h1=>thn h1 λu Y h2=>thn h2 λc Z ⟨x,H1,J,L,M⟩=>?_) h1;obtain⟨d,rfl,q⟩:=M;cases L;exact eY ⟨H1,J,q⟩
theorem QF{t:TE}(h:PE X e t)(he:∀whole,isTrue e X.env whole=(do let v <-whole;standAt e.pos;holding [v] (truthy v)):=by intro _;rfl):PT X e (tB t):=by
 intro pins s σ H Q I G;refine isTrue_plain (thn (h pins s σ H _ I G) λv U ⟨x,H1,J,L,M⟩=>?_) (he _);obtain⟨d,rfl,q⟩:=M;cases L;exact eY ⟨H1,J,q⟩
variable{tA tB':TT}{rest:List Expr}
def Dc(t u:TT):TT:=λσ H Q=>t σ H λc H1=>if c=true then u σ H1 Q else Q false H1
def tOr(t u:TT):TT:=λσ H Q=>t σ H λc H1=>if c=true then Q true H1 else u σ H1 Q
def Df(t:TT):TT:=λσ H Q=>t σ H λc H1=>Q (!c) H1
theorem pw_and1(ha:PT X a tA):PW X (.BoolOp .And [a] pos) tA:=by
 intro wh pins s σ H Q I h;refine isTrue_and (thn (ha pins s σ H Q I h) λc G e=>?_);cases c with
 | true=>exact isTrue_and_nil e
 | false=>exact e
theorem pw_or1(ha:PT X a tA):PW X (.BoolOp .Or [a] pos) tA:=by
 intro wh pins s σ H Q I h;refine isTrue_or (thn (ha pins s σ H Q I h) λc G e=>?_);cases c with
 | false=>exact isTrue_or_nil e
 | true=>exact e
theorem pw_and(ha:PT X a tA)(hb:PW X (.BoolOp .And (b::rest) pos) tB'):PW X (.BoolOp .And (a::b::rest) pos) (Dc tA tB'):=by
 intro wh pins s σ H Q I h;refine isTrue_and (thn (ha pins s σ H _ I h) λc L ⟨H1,G,J⟩=>?_);cases c with
 | true=>exact hb wh pins L σ H1 Q G J
 | false=>exact⟨H1,G,J⟩
theorem pw_or(ha:PT X a tA)(hb:PW X (.BoolOp .Or (b::rest) pos) tB'):PW X (.BoolOp .Or (a::b::rest) pos) (tOr tA tB'):=by
 intro wh pins s σ H Q I h;refine isTrue_or (thn (ha pins s σ H _ I h) λc L ⟨H1,G,J⟩=>?_);cases c with
 | true=>exact⟨H1,G,J⟩
 | false=>exact hb wh pins L σ H1 Q G J
theorem Q1(ha:PT X a tA):PT X (.UnaryOp .Not a pos) (Df tA):=by
 intro pins s σ H Q I h;exact isTrue_not (ha pins s σ H (λc H1=>Q (!c) H1) I h)
def Bd(ta tb:TE):TE:=λσ H Q=>ta σ H λx H1=>∃c,x=.bl c/\if c=true then tb σ H1 Q else Q (.bl false) H1
def Ck(ta tb:TE):TE:=λσ H Q=>ta σ H λx H1=>∃c,x=.bl c/\if c=true then Q (.bl true) H1 else tb σ H1 Q
def A8(ta:TE):TE:=λσ H Q=>ta σ H λx H1=>∃c,x=.bl c/\Q (.bl (!c)) H1
theorem Nh{op}{t:TE}(h:PE X a t):PE X (.BoolOp op [a] pos) t:=λpins s σ H Q I G=>BoolOp_one (h pins s σ H Q I G)
theorem NO(ha:PE X a ta)(hb:PE X (.BoolOp .And (b::rest) pos) tb):PE X (.BoolOp .And (a::b::rest) pos) (Bd ta tb):=by
 intro pins s σ H Q I h;refine BoolOp_and (thn (ha pins s σ H _ I h) λv L ⟨x,H1,J,M,G⟩=>?_);obtain⟨c,rfl,G⟩:=G;cases M;refine eY ?_;cases c with
 | true=>exact hb pins L σ H1 Q J G
 | false=>exact⟨.bl false,H1,J,rfl,G⟩
theorem A5(ha:PE X a ta)(hb:PE X (.BoolOp .Or (b::rest) pos) tb):PE X (.BoolOp .Or (a::b::rest) pos) (Ck ta tb):=by
 intro pins s σ H Q I h;refine BoolOp_or (thn (ha pins s σ H _ I h) λv L ⟨x,H1,J,M,G⟩=>?_);obtain⟨c,rfl,G⟩:=G;cases M;refine eY ?_;cases c with
 | false=>exact hb pins L σ H1 Q J G
 | true=>exact⟨.bl true,H1,J,rfl,G⟩
theorem Os(ha:PE X a ta):PE X (.UnaryOp .Not a pos) (A8 ta):=by
 intro pins s σ H Q I h;refine UnaryOp_ (thn (ha pins s σ H _ I h) λv M ⟨x,H1,J,L,G⟩=>?_);obtain⟨c,rfl,G⟩:=G;cases L;exact not_of (eY ⟨.bl (!c),H1,J,rfl,G⟩)
def tIf(t:TT)(ta tb:TE):TE:=λσ H Q=>t σ H λc H1=>if c=true then ta σ H1 Q else tb σ H1 Q
theorem Pg{c:Expr}(hc:PT X c tA)(ha:PE X a ta)(hb:PE X b tb):PE X (.IfExp c a b pos) (tIf tA ta tb):=by
 intro pins s σ H Q I h;refine wpAny_IfExp (thn (hc pins s σ H _ I h) λd G ⟨H1,J,L⟩=>?_);cases d with
 | true=>exact ha pins G σ H1 Q J L
 | false=>exact hb pins G σ H1 Q J L
end
def SqL(K:Fg)(H:Hp)(a:Addr)(xs:List V):Prop:=
 Rd H a (.lst xs) \/
  ∃(o:Obj)(its:Array Value)(n:Nat),K.lookup a=some o/\o.cls=.type "list"/\ o.dict=none/\o.data=.seq its n/\its.size<=sizeLine/\Vals xs its.toList
def SqT(K:Fg)(H:Hp)(a:Addr)(xs:List V):Prop:=
 Rd H a (.tup xs) \/
  ∃(o:Obj)(its:Array Value)(n:Nat),K.lookup a=some o/\o.cls=.type "tuple"/\ o.data=.seq its n/\its.size<=sizeLine/\Vals xs its.toList
def CB:Value->Option V
 | .none=>some .non
 | .bool b=>some (.bl b)
 | .int i _=>some (.int i)
 | .str x _=>some (.str x)
 | .bytes b _=>some (.byt b)
 | .float b _=>some (.flt b)
 | .ref a=>some (.ref a)
 | .type n=>some (.ty n)
 | _=>none
theorem RelV.abs{x:V}(r:RelV x u):CB u=some x:=by
 cases x with
 | non=>cases r;rfl
 | bl _=>cases r;rfl
 | int _=>obtain⟨t,rfl⟩:=r;rfl
 | str _=>obtain⟨t,rfl⟩:=r;rfl
 | byt _=>obtain⟨t,rfl⟩:=r;rfl
 | flt _=>obtain⟨t,rfl⟩:=r;rfl
 | ref _=>cases r;rfl
 | ty _=>cases r;rfl
theorem RelV.inj{x:V}(r:RelV x u)(q:RelV y u):x=y:=aI (r.abs.symm.trans q.abs)
theorem Vals.inj:∀{xs ys:List V}{us:List Value},Vals xs us->Vals ys us->xs=ys
 | _,_,_,.nil,.nil=>rfl
 | _,_,_,.cons r t,.cons G J=>by rw [r.inj G,Vals.inj t J]
section
variable{pins:List (10:)}
theorem SqL.of{K:Fg}(h:H a=some (.lst xs)):SqL K H a xs:=.inl (.inl h)
theorem SqT.of{K:Fg}(h:H a=some (.tup xs)):SqT K H a xs:=.inl (.inl h)
theorem Inv.list(I:Inv X pins σ H s)(h:SqL X.K H a xs):∃its:List Value,Vals xs its/\PlainL s.heap a its.toArray/\xs.length<=sizeLine:=by
 rcases h with h | ⟨o,its,n,G,J,L,M,hz,r⟩
 .obtain⟨z,its,n,r,e⟩:=h.ok I.hok;exact⟨its,r,⟨_,n,e,rfl,rfl,rfl⟩,z⟩
 .refine⟨its.toList,r,⟨o,n,I.kIn a o G,J,L,by simpa using M⟩,?_⟩;have e:=r.length;simp only [eS]at e;lia
theorem Inv.tuple(I:Inv X pins σ H s)(h:SqT X.K H a xs):∃its:List Value,Vals xs its/\IsTup s.heap a its.toArray/\xs.length<=sizeLine:=by
 rcases h with h | ⟨o,its,n,G,J,L,hz,r⟩
 .obtain⟨z,its,r,p⟩:=h.ok I.hok;exact⟨its,r,p,z⟩
 .refine⟨its.toList,r,⟨o,I.kIn a o G,J,n,by simpa using L⟩,?_⟩;have e:=r.length;simp only [eS]at e;lia
theorem Inv.list_inj(I:Inv X pins σ H s)(h:SqL X.K H a xs)(h':SqL X.K H a ys):xs=ys:=by
 obtain⟨its,r,⟨o,n,e,_,_,d⟩,_⟩:=I.list h;obtain⟨G,M,⟨o',Y,J,_,_,L⟩,_⟩:=I.list h';rw [e]at J;cases J;rw [d]at L;injection L with U _;have:its=G:=by simpa using congrArg Array.toList U
 subst this;exact r.inj M
theorem Inv.tuple_inj(I:Inv X pins σ H s)(h:SqT X.K H a xs)(h':SqT X.K H a ys):xs=ys:=by
 obtain⟨its,r,⟨o,e,_,n,d⟩,_⟩:=I.tuple h;obtain⟨G,M,⟨o',J,_,Y,L⟩,_⟩:=I.tuple h';rw [e]at J;cases J;rw [d]at L;injection L with U _;have:its=G:=by simpa using congrArg Array.toList U
 subst this;exact r.inj M
end
abbrev Cx.wish(X:Cx)(E:Value->Shared->Prop):Cx:={ X with xe:=E }
abbrev Cx.nox(X:Cx):Cx:=X.wish λ_ _=>False
theorem Cx.Ok.wish(ok:X.Ok)(E:Value->Shared->Prop):(X.wish E).Ok:=
 ⟨ok.mod,ok.kind,ok.glob,ok.blt,ok.above,ok.inj,ok.has,ok.cab,ok.hd,ok.frames,ok.stk,ok.exf,ok.bs,ok.bsz,ok.noex,ok.exfs,ok.funs,ok.frf⟩
theorem Cx.Ok.unwish{E:Value->Shared->Prop}(ok:(X.wish E).Ok):X.Ok:=
 ⟨ok.mod,ok.kind,ok.glob,ok.blt,ok.above,ok.inj,ok.has,ok.cab,ok.hd,ok.frames,ok.stk,ok.exf,ok.bs,ok.bsz,ok.noex,ok.exfs,ok.funs,ok.frf⟩
section
variable{pins:List (10:)}{E:Value->Shared->Prop}
theorem Inv.wish(I:Inv X pins σ H s)(E:Value->Shared->Prop):Inv (X.wish E) pins σ H s:=⟨I.ok.wish E,I.os,I.bare,I.base,I.loc,I.cell,I.free,I.freeC,I.pin,I.hok,I.len⟩
theorem Inv.unwish(I:Inv (X.wish E) pins σ H s):Inv X pins σ H s:=⟨I.ok.unwish,I.os,I.bare,I.base,I.loc,I.cell,I.free,I.freeC,I.pin,I.hok,I.len⟩
theorem SP.unwish{D:Ends}{f:Flow}(h:SP (X.wish E) pins D f s'):SP X pins D f s':=by
 cases f with
 | next=>obtain⟨G,H',I,q⟩:=h;exact⟨G,H',I.unwish,q⟩
 | brk=>obtain⟨G,H',I,q⟩:=h;exact⟨G,H',I.unwish,q⟩
 | cont=>obtain⟨G,H',I,q⟩:=h;exact⟨G,H',I.unwish,q⟩
 | ret u=>obtain⟨v,G,H',I,r,q⟩:=h;exact⟨v,G,H',I.unwish,r,q⟩
theorem PE.nox{t:TE}(h:PE X.nox e t):PE X e t:=λpins s σ H Q I G=>
 dC (h pins s σ H Q (I.wish _) G) (λ_ _ ⟨v,H',J,r,q⟩=>⟨v,H',J.unwish,r,q⟩) λ_ _ z=>False.elim z
theorem PSs.nox{st:List Stmt}{t:TS}(h:PSs X.nox st t):PSs X st t:=λpins s σ H D I G=>
 dC (h pins s σ H D (I.wish _) G) (λ_ _ q=>q.unwish) λ_ _ z=>False.elim z
end
section
variable{st:Stmt}{rest:List Stmt}{t u:TS}
def BQ:TS:=λD σ H=>D.nx σ H
def Zd(t u:TS):TS:=λD σ H=>t { D with nx:=u D } σ H
theorem Qr:PSs X [] BQ:=λ_ _ σ H _ I h=>wpAny_execs_nil ⟨σ,H,I,h⟩
theorem Qg(h1:PS X st t)(h2:PSs X rest u):PSs X (st::rest) (Zd t u):=by
 intro pins s σ H D I h;refine wpAny_execs_cons (thn (h1 pins s σ H { D with nx:=u D } I h) λf G q=>?_);cases f with
 | next=>
  obtain⟨J,H',L,q⟩:=q;exact h2 pins G J H' D L q
 | ret v=>exact q
 | brk=>exact q
 | cont=>exact q
theorem Qi(h1:PS X st t):PSs X [st] t:=by
 intro pins s σ H D I h;refine wpAny_execs_cons (thn (h1 pins s σ H D I h) λf G q=>?_);cases f with
 | next=>exact wpAny_execs_nil q
 | ret v=>exact q
 | brk=>exact q
 | cont=>exact q
theorem Inv.quiet{pins:List (10:)}(I:Inv X pins σ H s):interactive X.env=false:=by simp [interactive,I.ok.kind]
def B0(te:TE):TS:=λD σ H=>te σ H λ_ H1=>D.nx σ H1
theorem Zc(he:PE X e te)(hs:swapsWith e none pos.line X.env=pure false:=by rfl):PS X (.Expr e pos) (B0 te):=by
 intro pins s σ H D I h;exact wpAny_Expr_any (thn (he pins s σ H _ I h) λv L ⟨x,H1,G,M,J⟩=>⟨σ,H1,G,J⟩) I.quiet hs
def Di(te:TE):TS:=λD σ H=>te σ H D.rt
theorem Qn(he:PE X e te):PS X (.Return (some e) pos) (Di te):=by
 intro pins s σ H D I h;exact wpAny_Return_some (thn (he pins s σ H _ I h) λv M ⟨x,H1,G,J,L⟩=>⟨x,σ,H1,G,J,L⟩)
def Cr(c:TT)(t u:TS):TS:=λD σ H=>c σ H λb H1=>if b=true then t D σ H1 else u D σ H1
theorem QM{c:Expr}{a b:List Stmt}(hc:PT X c tc)(ha:PSs X a t)(hb:PSs X b u):PS X (.If c a b pos) (Cr tc t u):=by
 intro pins s σ H D I h;refine wpAny_If (thn (hc pins s σ H _ I h) λd G ⟨H1,J,L⟩=>?_);cases d with
 | true=>exact ha pins G σ H1 D J L
 | false=>exact hb pins G σ H1 D J L
def T7:TS:=λ_ _ _=>False
theorem Um{sts:List Stmt}:PSs X sts T7:=λ_ _ _ _ _ _ h=>h.elim
end
abbrev TG:=V->St->Hp->(St->Hp->Prop)->Prop
abbrev TGs:=List V->St->Hp->(St->Hp->Prop)->Prop
def PG(X:Cx)(target:Expr)(t:TG):Prop:=
 ∀(pins:List (10:))(s:Shared)(σ:St)(H:Hp)(v:V)(u:Value)(Q:St->Hp->Prop),Inv X pins σ H s->RelV v u->t v σ H Q->
  wpAny (6:) X.A (assign target X.env u) (λ_ s'=>∃σ' H',Inv X pins σ' H' s'/\Q σ' H') X.xe s
def PGs(X:Cx)(ts:List Expr)(t:TGs):Prop:=
 ∀(pins:List (10:))(s:Shared)(σ:St)(H:Hp)(vs:List V)(us:List Value)(Q:St->Hp->Prop),Inv X pins σ H s->Vals vs us->t vs σ H Q->
  wpAny (6:) X.A (assignInOrder ((assignEach ts X.env).map (·.2)) us) (λ_ s'=>∃σ' H',Inv X pins σ' H' s'/\Q σ' H') X.xe s
abbrev Tc:=V->V->V->Hp->(Hp->Prop)->Prop
def Cb(X:Cx)(t:Tc):Prop:=
 ∀(pins:List (10:))(s:Shared)(σ:St)(H:Hp)(o i v:V)(ov iv u:Value)(Q:Hp->Prop),Inv X pins σ H s->RelV o ov->RelV i iv->RelV v u->t o i v H Q->
  wpAny (6:) X.A (setItem ov iv u) (λ_ s'=>∃H',Inv X pins σ H' s'/\Q H') X.xe s
def Q7(i:Nat):TG:=λv σ H Q=>Q (σ.set i (some v)) H
theorem Qq{i:Nat}{x:Str}(hN:X.N.Nodup)(hi:X.N[i]?=some x)(hx:Loc X.env.scope x)(hf:X.fn x=true\/X.env.scope.names.lookup x=some .local:=by first | exact .inl rfl | exact .inr rfl | assumption):PG X (.Name x pos) (Q7 i):=by
 intro pins s σ H v u Q I r h;exact wpAny_assign_Name (W3 I hN hi hx r (λs' G=>⟨_,H,G,h⟩) hf)
def Mb:TGs:=λvs σ H Q=>vs=[]/\Q σ H
def YL(t:TG)(u:TGs):TGs:=λvs σ H Q=>∃v r,vs=v::r/\t v σ H λσ' H'=>u r σ' H' Q
theorem Za:PGs X [] Mb:=by
 intro pins s σ H vs G Q I r h;obtain⟨e,h⟩:=h;subst e;cases r;exact assignInOrder_nil ⟨σ,H,I,h⟩
theorem Qv{t:TG}{u:TGs}(h1:PG X e t)(h2:PGs X es u)
 (hs:(assignEach (e::es) X.env).map (·.2)=assign e X.env::(assignEach es X.env).map (·.2):=by rfl):PGs X (e::es) (YL t u):=by
 intro pins s σ H vs Y Q I r h;obtain⟨v,Z,G,h⟩:=h;subst G;cases r with
 | cons r rr=>
  rw [hs];refine assignInOrder_cons (thn (h1 pins s σ H _ _ _ I r h) λ_ J ⟨L,H1,M,U⟩=>?_);exact h2 pins J L H1 _ _ Q M rr U
def Pu(K:Fg)(n:Nat)(t:TGs):TG:=λv σ H Q=>∃a xs,v=.ref a/\SqT K H a xs/\xs.length=n/\t xs σ H Q
theorem Zp{es:List Expr}{k:Nat}{t:TGs}{n:Nat}(hc:X.calm=true)(h:PGs X es t)
 (hn:(assignEach es X.env).length=n:=by rfl) (hst:(assignEach es X.env).findIdx? (·.1)=none:=by rfl):PG X (.Tuple es k pos) (Pu X.K n t):=by
 intro pins s σ H v u Q I r G;obtain⟨a,xs,L,M,U,G⟩:=G;subst L;cases r;obtain⟨its,J,Y,hz⟩:=I.tuple M;refine assign_Tuple_tuple (I.ok.hd hc) Y (by simp [hn,<-U,J.length]) hst λh' Z=>?_;have I1:Inv X pins σ H { s with heap:=h' }:=I.kept (t':=s.toks) λb o e=>Z b o (bC (aO e)) e;exact h pins _ σ H xs _ Q I1 (by simpa using J) G
def CA(to ti:TE)(t:Tc):TG:=λv σ H Q=>to σ H λo H1=>ti σ H1 λi H2=>t o i v H2 λH3=>Q σ H3
theorem Tl{i:Expr}{ti:TE}{t:Tc}(ho:PE X o to)(hi:PE X i ti)(hs:Cb X t)
 (ha:∀v,assign (.Subscript o i pos) X.env v=(do
  let ov <-holding [v] (eval o X.env)
  let iv <-holding [v,ov] (eval i X.env)
  standAt pos
  holding [v,ov,iv] (setItem ov iv v)
  release [v,ov,iv] []):=by intro _;rfl):PG X (.Subscript o i pos) (CA to ti t):=by
 intro pins s σ H v u Q I r h;rw [ha];refine aB (cB (thn (ho pins s σ H _ I h) λov G ⟨x,H1,J,L,M⟩=>?_));refine aB (cB (thn (hi pins G σ H1 _ J M) λiv U ⟨y,H2,Y,Z,q2⟩=>?_));refine aB (wpAny_standAt (aB (cB (thn (hs pins U σ H2 x y v ov iv u _ Y L Z r q2) λ_ s3 ⟨H3,I3,q3⟩=>?_))));exact wpAny_release ⟨σ,H3,I3,q3⟩
def Tg(te:TE)(g:TG):TS:=λD σ H=>te σ H λx H1=>g x σ H1 D.nx
theorem Nc{g:TG}(he:PE X e te)(hg:PG X tg g)(hs:swapsWithSole [tg] e pos.line X.env=pure false:=by rfl)(hw:swappedStores [tg] e X.env=pure none:=by rfl)
 (h1:(assignEach [tg] X.env).map (·.2)=[assign tg X.env]:=by rfl):PS X (.Assign [tg] e pos) (Tg te g):=by
 intro pins s σ H D I h;refine wpAny_Assign_stores (thn (he pins s σ H _ I h) λv G ⟨x,H1,J,L,M⟩=>?_) hs hw;rw [h1];exact thn (hg pins G σ H1 x v _ J L M) λ_ U q=>q
theorem Qz{i:Nat}{x:Str}{e:Expr}{te:TE}{pos':Pos}(hN:X.N.Nodup)(hi:X.N[i]?=some x)(hx:Loc X.env.scope x)(he:PE X e te)(hs:swapsWith e (some (.Name x pos')) pos.line X.env=pure false:=by rfl)(hf:X.fn x=true\/X.env.scope.names.lookup x=some .local:=by first | exact .inl rfl | exact .inr rfl | assumption):
 PS X (.Assign [.Name x pos'] e pos) (Tg te (Q7 i)):=by
 intro pins s σ H D I h;refine wpAny_Assign_Name (thn (he pins s σ H _ I h) λv U ⟨y,H1,G,J,L⟩=>?_) hs;exact W3 G hN hi hx J (λY M=>⟨_,H1,M,L⟩) hf
def On(c:TT)(tb:TS):TS:=λD σ H=>∃W:Nat->St->Hp->Prop,(∃m,W m σ H)/\∀m σ H,W m σ H->
 c σ H λb H1=>if b=true then ∃N:St->Hp->Prop,(∀σ' H',N σ' H'->∃m',m'<m/\W m' σ' H')/\tb { D with nx:=N,ct:=N,bk:=D.nx } σ H1 else D.nx σ H1
theorem JB{c:Expr}{tb:TS}(hp:PassesOwn (6:) X.A X.env X.xe)(hc:PT X c tc)(hb:PSs X body tb):PS X (.While c body [] pos) (On tc tb):=by
 intro pins s σ H D I h;obtain⟨W,⟨m0,w0⟩,Y⟩:=h;refine wpAny_While (codeAny_whileLoop (λn s'=>∃aa H',Inv X pins aa H' s'/\W n aa H') ?_ m0 ⟨σ,H,I,w0⟩);rintro n s1 ⟨L,H1,I1,w1⟩;refine fb hp (thn (hc pins s1 L H1 _ I1 (Y n L H1 w1)) λb s2 ⟨H2,I2,M⟩=>?_);cases b with
 | true=>
  obtain⟨N,hN,M⟩:=M;rw [aG rfl];refine fb hp (thn (hb pins s2 L H2 _ I2 M) λf s3 U=>?_);cases f with
  | next=>
   obtain⟨G,J,Z,n3⟩:=U;obtain⟨m',hm,w3⟩:=hN G J n3;exact⟨m',hm,G,J,Z,w3⟩
  | cont=>
   obtain⟨G,J,Z,n3⟩:=U;obtain⟨m',hm,w3⟩:=hN G J n3;exact⟨m',hm,G,J,Z,w3⟩
  | brk=>exact U
  | ret v=>exact U
 | false=>
  rw [aF aT];exact wpAny_execs_nil ⟨L,H2,I2,M⟩
structure It where
 go:Nat->Hp->Prop
 yld:Nat->Hp->V->Hp->Prop
 stop:Nat->Hp->Prop
def YT(X:Cx)(pins:List (10:))(H:Hp)(b:Addr):Prop:=
 H b=none/\b≠X.env.locals/\b∉X.fs/\(b∈X.ex\/X.s₀.heap.objs.size<=b)/\(∀x c,X.env.cells.lookup x=some c->c≠b)/\∀p∈X.pn++pins,p.1≠b
theorem Inv.fpOk{pins:List (10:)}(I:Inv X pins σ H s)(hb:s.heap.objs.size<=b)(hn:H' b=none):YT X pins H' b:=by
 refine⟨hn,Nat.ne_of_gt (bZ I.lt hb),I.nofs hb,.inr (bT I.sz hb),λx c e z=>?_,λp hp z=>?_⟩
 .obtain⟨v,q⟩:=I.cell x c e;exact absurd (bZ q.lt (by rw [z];exact hb)) (dR _)
 .exact absurd (bZ (aO (I.pin p hp).1) (by rw [z];exact hb)) (dR _)
structure Turn(P:Program)(w:World)(K:Fg)(tg:Expr)(J:It)(fp:List Addr)(it:Addr)(tn:Nat->Heap->Prop):Prop where
 mem:it∈fp
 obj:∀i h,tn i h->∀b∈fp,∃o,h.get? b=some o/\∀v,o.data≠.cell v
 keep:∀i h h',tn i h->(∀b∈fp,∀o,h.get? b=some o->h'.get? b=some o)->tn i h'
 item:∀(X:Cx),X.prog=P->X.w=w->X.K=K->X.calm=true->∀(i:Nat)(pins:List (10:))(s:Shared)(σ:St)(H:Hp)(E:Value->Shared->Prop),Inv X pins σ H s->(∀b∈fp,YT X pins H b)->tn i s.heap->J.go i H->
  wpAny (model P w) X.A (pyNext (.ref it)) (λr s1=>∃u,r=some u/\
   wpAny (model P w) X.A (letOwnedTupleGo tg (.ref it) u) (λ_ s2=>∃x H',Inv X pins σ H' s2/\RelV x u/\J.yld i H x H'/\tn (i+1) s2.heap/\∀b∈fp,H' b=none) E s1) E s
 done:∀(X:Cx),X.prog=P->X.w=w->X.K=K->X.calm=true->∀(i:Nat)(pins:List (10:))(s:Shared)(σ:St)(H:Hp)(E:Value->Shared->Prop),Inv X pins σ H s->(∀b∈fp,YT X pins H b)->tn i s.heap->J.stop i H->
  wpAny (model P w) X.A (pyNext (.ref it)) (λr s1=>r=none/\Inv X pins σ H s1) E s
 self:∀(A:Around)(i:Nat)(s:Shared)(Q:Value->Shared->Prop)(E:Value->Shared->Prop),tn i s.heap->Q (.ref it) s->wpAny (model P w) A (pyIter (.ref it)) Q E s
abbrev TI:=St->Hp->(It->Hp->Prop)->Prop
def PIE(X:Cx)(pins:List (10:))(σ:St)(tg:Expr)(R:It->Hp->Prop)(itv:Value)(s2:Shared):Prop:=
 ∃(it:Addr)(fp:List Addr)(tn:Nat->Heap->Prop)(J:It)(H':Hp),itv=.ref it/\Inv X pins σ H' s2/\Turn X.prog X.w X.K tg J fp it tn/\tn 0 s2.heap/\(∀b∈fp,YT X pins H' b)/\R J H'
def PI(X:Cx)(tg iter:Expr)(wi:TI):Prop:=
 ∀(pins:List (10:))(s:Shared)(σ:St)(H:Hp)(R:It->Hp->Prop),Inv X pins σ H s->wi σ H R->
  wpAny (6:) X.A (eval iter X.env) (λv s1=>wpAny (6:) X.A (pyIter v) (PIE X pins σ tg R) X.xe s1) X.xe s
theorem MQ{M:Model}{A:Around}{E:Value->Shared->Prop}{s:Shared}{tg:Expr}{it:Addr}{u:Value}{o:Obj}{n:String}{vs:Array Value}{Q:Unit->Shared->Prop}(ho:s.heap.get? it=some o)(hc:o.cls=.type n)(hd:o.data=.fields vs)
 (hn:["enumerate","zip","dict_itemiterator","dict_reverseitemiterator","odict_iterator","itertools.zip_longest","itertools.pairwise"].contains n=false) (hQ:Q () s):wpAny M A (letOwnedTupleGo tg (.ref it) u) Q E s:=by
 unfold letOwnedTupleGo;cases tg<;>first
  | exact aH hQ
  | (cases u<;>first
   | exact aH hQ
   | (refine aB (wpAny_load ho ?_)
      rw [hc,hd];show wpAny M A (if(["enumerate","zip","dict_itemiterator","dict_reverseitemiterator","odict_iterator","itertools.zip_longest","itertools.pairwise"].contains n&&vs[0]? ==some (rawInt _))=true then _ else _) Q E s;rw [aF (by intro h;rw [hn,Bool.false_and]at h;cases h)];exact aH hQ))
def Itl(K:Fg)(a:Addr):It:=
 ⟨λi H=>∃xs x,SqL K H a xs/\xs[i]?=some x,λi H x H'=>H'=H/\∀xs,SqL K H a xs->xs[i]?=some x,λi H=>∃xs,SqL K H a xs/\xs.length<=i⟩
def Itt(K:Fg)(a:Addr):It:=
 ⟨λi H=>∃xs x,SqT K H a xs/\xs[i]?=some x,λi H x H'=>H'=H/\∀xs,SqT K H a xs->xs[i]?=some x,λi H=>∃xs,SqT K H a xs/\xs.length<=i⟩
def Itr(lo:Int)(n:Nat):It:=⟨λi _=>i<n,λi H x H'=>H'=H/\x=.int (lo+i),λi _=>n<=i⟩
theorem L3{K:Fg}(a it:Addr):Turn P w K tg (Itl K a) [it] it (λi h=>h.IsListIter it a i) where
 mem:=by simp
 obj:=λi h st b G=>by
  have e:b=it:=by simpa using G
  subst e;obtain⟨o,e,c,d⟩:=st;exact⟨o,e,λv z=>by rw [d]at z;cases z⟩
 keep:=λi h h' st k=>st.at λo e=>k it (16:) o e
 item:=by
  intro X U Y Z hc i pins s σ H E I J st hg;subst U Y Z;obtain⟨xs,x,L,hx⟩:=hg;obtain⟨its,rv,p,hz⟩:=I.list L;obtain⟨u,hu,ru⟩:=rv.get hx;obtain⟨f0,f1,f2,f3,f4,f5⟩:=J it (16:);refine wpAny_pyNext_list_item st p.isList (x:=u) (by simpa using hu) λh' M sb=>?_;have I1:Inv X pins σ H { s with heap:=h' }:=I.turned (t':=s.toks) (λb o G e=>(sb.2 b G).trans e) f0 f1 f3 f4 f5;obtain⟨o,e,c,d⟩:=id M;exact⟨u,rfl,MQ (s:={ s with heap:=h' }) e c d (12:) ⟨x,H,I1,ru,⟨rfl,λys hy=>by rw [I.list_inj hy L];exact hx⟩,M,λb G=>(J b G).1⟩⟩
 done:=by
  intro X U Y Z hc i pins s σ H E I J st hg;subst U Y Z;obtain⟨xs,L,hx⟩:=hg;obtain⟨its,rv,p,hz⟩:=I.list L;obtain⟨f0,f1,f2,f3,f4,f5⟩:=J it (16:);have hl:=rv.length;exact wpAny_pyNext_list_end (I.ok.hd hc) st p.isList (by simp;lia) λh' eb=>⟨rfl,I.turned (t':=s.toks) (λb o G e=>eb b o G e) f0 f1 f3 f4 f5⟩
 self:=λ_ _ _ _ _ st h=>wpAny_pyIter_listiter st h
theorem Gn{K:Fg}(a it:Addr):Turn P w K tg (Itt K a) [it] it (λi h=>h.IsTupleIter it a i) where
 mem:=by simp
 obj:=λi h st b G=>by
  have e:b=it:=by simpa using G
  subst e;obtain⟨o,e,c,d⟩:=st;exact⟨o,e,λv z=>by rw [d]at z;cases z⟩
 keep:=λi h h' st k=>st.at λo e=>k it (16:) o e
 item:=by
  intro X U Y Z hc i pins s σ H E I J st hg;subst U Y Z;obtain⟨xs,x,L,hx⟩:=hg;obtain⟨its,rv,p,hz⟩:=I.tuple L;obtain⟨u,hu,ru⟩:=rv.get hx;obtain⟨f0,f1,f2,f3,f4,f5⟩:=J it (16:);refine wpAny_pyNext_tuple_item st (show s.heap.IsTuple a its.toArray from p) (x:=u) (by simpa using hu) λh' M sb=>?_;have I1:Inv X pins σ H { s with heap:=h' }:=I.turned (t':=s.toks) (λb o G e=>(sb.2 b G).trans e) f0 f1 f3 f4 f5;obtain⟨o,e,c,d⟩:=id M;exact⟨u,rfl,MQ (s:={ s with heap:=h' }) e c d (12:) ⟨x,H,I1,ru,⟨rfl,λys hy=>by rw [I.tuple_inj hy L];exact hx⟩,M,λb G=>(J b G).1⟩⟩
 done:=by
  intro X U Y Z hc i pins s σ H E I J st hg;subst U Y Z;obtain⟨xs,L,hx⟩:=hg;obtain⟨its,rv,p,hz⟩:=I.tuple L;obtain⟨f0,f1,f2,f3,f4,f5⟩:=J it (16:);have hl:=rv.length;exact wpAny_pyNext_tuple_end (I.ok.hd hc) st (show s.heap.IsTuple a its.toArray from p) (by simp;lia) λh' eb=>⟨rfl,I.turned (t':=s.toks) (λb o G e=>eb b o G e) f0 f1 f3 f4 f5⟩
 self:=λ_ _ _ _ _ st h=>wpAny_pyIter_tupleiter st h
theorem Ge{K:Fg}(it:Addr)(lo:Int)(n:Nat):Turn P w K tg (Itr lo n) [it] it (λi h=>IsRangeIter h it (lo+(i:Nat)*1) ((n:Int)-(i:Nat)) 1) where
 mem:=by simp
 obj:=λi h st b G=>by
  have e:b=it:=by simpa using G
  subst e;exact⟨_,st,λv z=>by
   have z':Data.fields _=Data.cell v:=z;cases z'⟩
 keep:=λi h h' st k=>k it (16:) _ st
 item:=by
  intro X M U Y Z i pins s σ H E I J st hg;subst M U Y;obtain⟨f0,f1,f2,f3,f4,f5⟩:=J it (16:);have W:=Walks.range (prog:=X.prog) (w:=X.w) (I.ok.hd Z) it lo 1 n;refine W.item i s _ _ hg st λv h' tk hv L kk=>?_;obtain⟨t,rfl⟩:=hv;have I1:Inv X pins σ H { s with heap:=h',toks:=tk }:=I.turned (λb o G e=>kk b o (by simpa using G) e) f0 f1 f3 f4 f5;refine⟨_,rfl,MQ (s:={ s with heap:=h',toks:=tk }) (n:="range_iterator") L rfl rfl (12:) ⟨.int (lo+i),H,I1,⟨t,?_⟩,⟨rfl,rfl⟩,L,λb G=>(J b G).1⟩⟩;rw [Int.mul_one]
 done:=by
  intro X M U Y Z i pins s σ H E I J st hg;subst M U Y;obtain⟨f0,f1,f2,f3,f4,f5⟩:=J it (16:);exact wpAny_pyNext_range_end (I.ok.hd Z) st (by have:n<=i:=hg;lia) λh' eb=>⟨rfl,I.turned (t':=s.toks) (λb o G e=>eb b o G e) f0 f1 f3 f4 f5⟩
 self:=λ_ _ _ _ _ st h=>wpAny_pyIter_rangeiter st h
end L2
variable{g:L2.TG}{wi:L2.TI}
namespace L2
open PySem PySem.Spec PyProof.Rows
def BK(K:Fg)(tl:TE):TI:=λσ H R=>tl σ H λx H1=>∃a,x=.ref a/\(∃xs,SqL K H1 a xs)/\R (Itl K a) H1
def CH(K:Fg)(tl:TE):TI:=λσ H R=>tl σ H λx H1=>∃a,x=.ref a/\(∃xs,SqT K H1 a xs)/\R (Itt K a) H1
theorem QJ{l:Expr}(hl:PE X l tl):PI X tg l (BK X.K tl):=by
 intro pins s σ H R I h;refine thn (hl pins s σ H _ I h) λv G ⟨x,H1,J,L,M⟩=>?_;obtain⟨a,e,⟨xs,U⟩,q⟩:=M;subst e;cases L;obtain⟨its,Z,p,hz⟩:=J.list U;refine wpAny_pyIter_list p.isList ?_;refine⟨G.heap.objs.size,[G.heap.objs.size],_,_,H1,rfl,J.kept (t':=G.toks) λb o e=>aN _ e,L3 a _,⟨_,bD _ rfl,rfl,rfl⟩,λb Y=>?_,q⟩;have e:b=G.heap.objs.size:=by simpa using Y
 subst e;exact J.fpOk (4:) (J.hok.fresh (4:))
theorem YQ{l:Expr}(hl:PE X l tl):PI X tg l (CH X.K tl):=by
 intro pins s σ H R I h;refine thn (hl pins s σ H _ I h) λv G ⟨x,H1,J,L,M⟩=>?_;obtain⟨a,e,⟨xs,U⟩,q⟩:=M;subst e;cases L;obtain⟨its,Z,p,hz⟩:=J.tuple U;refine wpAny_pyIter_tuple (show G.heap.IsTuple a its.toArray from p) ?_;refine⟨G.heap.objs.size,[G.heap.objs.size],_,_,H1,rfl,J.kept (t':=G.toks) λb o e=>aN _ e,Gn a _,⟨_,bD _ rfl,rfl,rfl⟩,λb Y=>?_,q⟩;have e:b=G.heap.objs.size:=by simpa using Y
 subst e;exact J.fpOk (4:) (J.hok.fresh (4:))
theorem MS{pins:List (10:)}{R:It->Hp->Prop}{E:Value->Shared->Prop}{lo hi:Int}{t u v:Tok}{tk:Nat}(I:Inv X pins σ H s)(h1:-(2^62)<=lo)(h2:lo<2^62)(h3:-(2^62)<=hi)(h4:hi<2^62)
 (q:R (Itr lo (hi-lo).toNat) H):wpAny (6:) X.A (pyIter (.ref s.heap.objs.size)) (PIE X pins σ tg R) E { s with heap:=s.heap.push { cls:=.type "range",data:=.fields #[.int lo t,.int hi u,.int 1 v] },toks:=tk }:=by
 refine wpAny_pyIter_range (IsRange.new ..) (small_one h1 h2 h3 h4) ?_;have G:Inv X pins σ H { s with heap:=s.heap.push { cls:=.type "range",data:=.fields #[.int lo t,.int hi u,.int 1 v] },toks:=tk }:=I.kept λb o e=>aN _ e;refine⟨(s.heap.push { cls:=.type "range",data:=.fields #[.int lo t,.int hi u,.int 1 v] }).objs.size,[(s.heap.push { cls:=.type "range",data:=.fields #[.int lo t,.int hi u,.int 1 v] }).objs.size],_,_,H,rfl,G.kept (t':=tk) λb o e=>aN _ e,Ge _ lo (hi-lo).toNat,?_,λb J=>?_,q⟩
 .have L:lo+((0:Nat):Int)*1=lo:=by simp
  have M:(((hi-lo).toNat:Nat):Int)-((0:Nat):Int)=Builtin.Range.rangeSize lo hi 1:=by rw [rangeSize_one];split<;>lia
  show IsRangeIter _ _ (lo+((0:Nat):Int)*1) ((((hi-lo).toNat:Nat):Int)-((0:Nat):Int)) 1;rw [L,M];exact bD _ rfl
 .have e:b=(s.heap.push { cls:=.type "range",data:=.fields #[.int lo t,.int hi u,.int 1 v] }).objs.size:=by simpa using J
  subst e;exact G.fpOk (4:) (G.hok.fresh (4:))
def Bk(ta:TA):TI:=λσ H R=>ta σ H λvs H1=>∃j:Int,vs=[.int j]/\-(2^62)<=j/\j<2^62/\R (Itr 0 j.toNat) H1
theorem Q3{a:Expr}{ta:TA}{p:Pos}(hg:Gl X "range")(hm:X.mg "range"=none)(ha:PA X [a] ta)(hs:starEach [a] X.env=[(false,eval a X.env)]:=by rfl):PI X tg (.Call (.Name "range" p) [a] [] pos) (Bk ta):=by
 intro pins s σ H R I h;refine Call_ (Z6 I hg hm boot_range (fo (thn (ha pos pins s σ H _ I h) λU Y ⟨vs,H1,J,L,G⟩=>?_) hs rfl));obtain⟨j,e,G,M,q⟩:=G;subst e;cases L with
 | cons r rr=>
  cases rr;obtain⟨t,rfl⟩:=r;exact call_range_1 (MS J (5:) (5:) G M (by simpa using q))
def Do(wi:TI)(g:TG)(tb:TS):TS:=λD σ H=>wi σ H λJ H1=>∃W:Nat->Nat->St->Hp->Prop,(∃m,W 0 m σ H1)/\∀i m σ H,W i m σ H->
 (J.stop i H/\D.nx σ H)\/(J.go i H/\∃N:St->Hp->Prop,(∀σ' H',N σ' H'->∃m',m'<m/\W (i+1) m' σ' H')/\∀x H',J.yld i H x H'->g x σ H' λσ2 H2=>tb { D with nx:=N,ct:=N,bk:=D.nx } σ2 H2)
def Jz(fp:List Addr)(h:Heap):List (10:):=fp.filterMap λb=>(h.get? b).map λo=>(b,o)
theorem Z9{o:Obj}(hb:b∈fp)(e:h.get? b=some o):(b,o)∈Jz fp h:=eG.mpr ⟨b,hb,by rw [e];rfl⟩
theorem Mg{p:Addr×Obj}(hp:p∈Jz fp h):p.1∈fp/\h.get? p.1=some p.2:=by
 obtain⟨b,G,e⟩:=eG.mp hp;cases q:h.get? b with
 | none=>rw [q]at e;cases e
 | some o=>
  rw [q]at e;have J:(b,o)=p:=aI e;subst J;exact⟨G,q⟩
theorem Inv.pinned{pins:List (10:)}(I:Inv X pins σ H s)(hf:∀b∈fp,YT X pins H b)(ho:∀b∈fp,∃o,s.heap.get? b=some o/\∀v,o.data≠.cell v):Inv X (pins++Jz fp s.heap) σ H s:=
 I.pins_of λp hp=>(aX.mp hp).elim (λz=>I.pin p (bY _ z)) λz=>by
  obtain⟨G,e⟩:=Mg z;obtain⟨L,f1,f2,_⟩:=hf p.1 G;obtain⟨o,J,d⟩:=ho p.1 G;rw [e]at J;cases J;exact⟨e,L,f1,f2,d⟩
theorem Inv.unpinned{pins pl:List (10:)}(I:Inv X (pins++pl) σ H s):Inv X pins σ H s:=I.pins_of λp hp=>I.pin p (bY _ (cT _ hp))
theorem QG{tb:TS}(hp:PassesOwn (6:) X.A X.env X.xe)(hc:X.calm=true)(hi:PI X tg iter wi)(hg:PG X tg g)(hb:PSs X body tb)
 (hs:∀x,foldedSetIterable iter X.env x=pure x:=by intro _;rfl):PS X (.For tg iter body [] pos) (Do wi g tb):=by
 intro pins s σ H D I h;refine wpAny_For (thn (hi pins s σ H _ I h) λv s1 h1=>thn h1 λal s2 h2=>?_) hs;obtain⟨it,fp,tn,J,H2,e,I2,T,ah,f2,W,⟨m0,w0⟩,af⟩:=h2;subst e;have Y:∀{H':Hp},(∀b∈fp,H' b=none)->∀b∈fp,YT X pins H' b:=λhn b hb=>⟨hn b hb,(f2 b hb).2⟩;refine codeAny_forLoop_any (λn s'=>∃i aa H',Inv X pins aa H' s'/\tn i s'.heap/\(∀b∈fp,H' b=none)/\W i n aa H') ?_ m0 ⟨0,σ,H2,I2,ah,λb hb=>(f2 b hb).1,w0⟩;rintro n s3 ⟨i,ab,H3,I3,ad,ae,w3⟩;rcases af i n ab H3 w3 with⟨ag,qn⟩ | ⟨go,N,hN,step⟩
 .refine fb hp (thn (T.done X rfl rfl rfl hc i pins s3 ab H3 X.xe I3 (Y ae) ad ag) λr s4 ⟨hr,I4⟩=>?_);subst hr;exact wpAny_execs_nil ⟨ab,H3,I4,qn⟩
 .refine fb hp (thn (T.item X rfl rfl rfl hc i pins s3 ab H3 X.xe I3 (Y ae) ad go) λr s4 ⟨u,hr,h4⟩=>?_);subst hr;refine fb hp (thn h4 λ_ s5 ⟨x,H5,I5,r5,y5,ac,ai⟩=>?_);have aj:=I5.pinned (Y ai) (T.obj _ _ ac);refine fb hp (thn (hg _ s5 ab H5 x u _ aj r5 (step x H5 y5)) λ_ s6 ⟨ak,H6,I6,q6⟩=>?_);refine fb hp (thn (hb _ s6 ak H6 _ I6 q6) λf s7 U=>?_);have Z:∀{G:St}{L:Hp},Inv X (pins++Jz fp s5.heap) G L s7->N G L->∃m,m<n/\∃i aa H',Inv X pins aa H' s7/\tn i s7.heap/\(∀b∈fp,H' b=none)/\W i m aa H':=λ{G L} M n7=>by
   obtain⟨m',hm,w7⟩:=hN G L n7;refine⟨m',hm,i+1,G,L,M.unpinned,T.keep _ _ _ ac λb hb o e=>(M.pin (b,o) (bY _ (bY _ (Z9 hb e)))).1,λb hb=>?_,w7⟩;obtain⟨o,e,d⟩:=T.obj _ _ ac b hb;exact(M.pin (b,o) (bY _ (bY _ (Z9 hb e)))).2.1
  cases f with
  | next=>obtain⟨G,L,M,n7⟩:=U;exact Z M n7
  | cont=>obtain⟨G,L,M,n7⟩:=U;exact Z M n7
  | brk=>obtain⟨G,L,M,U⟩:=U;exact⟨G,L,M.unpinned,U⟩
  | ret v=>obtain⟨x7,G,L,M,r7,U⟩:=U;exact⟨x7,G,L,M.unpinned,r7,U⟩
theorem Q2{K:Fg}{a:Addr}{xs:List V}{g:TG}{tb:TS}{D:Ends}{σ:St}{H:Hp}(Pv:Nat->St->Hp->Prop)(h0:Pv 0 σ H)(hl:∀i σ H,i<=xs.length->Pv i σ H->SqL K H a xs)
 (hs:∀i x σ H,xs[i]?=some x->Pv i σ H->g x σ H λσ2 H2=>tb { D with nx:=Pv (i+1),ct:=Pv (i+1),bk:=D.nx } σ2 H2) (hd:∀σ H,Pv xs.length σ H->D.nx σ H):
 ∃W:Nat->Nat->St->Hp->Prop,(∃m,W 0 m σ H)/\∀i m σ H,W i m σ H->
  ((Itl K a).stop i H/\D.nx σ H)\/((Itl K a).go i H/\∃N:St->Hp->Prop,(∀σ' H',N σ' H'->∃m',m'<m/\W (i+1) m' σ' H')/\∀x H',(Itl K a).yld i H x H'->g x σ H' λσ2 H2=>tb { D with nx:=N,ct:=N,bk:=D.nx } σ2 H2):=by
 refine⟨λi m σ H=>m=xs.length-i/\i<=xs.length/\Pv i σ H,⟨xs.length,by simp,bE _,h0⟩,?_⟩;rintro i m σ H ⟨rfl,hi,p⟩;have q:=hl i σ H hi p
 by_cases G:i<xs.length
 .refine .inr ⟨⟨xs,xs[i],q,by simp [G]⟩,Pv (i+1),λσ' H' J=>⟨xs.length-(i+1),by lia,rfl,G,J⟩,λx H' y=>?_⟩;obtain⟨e,y⟩:=y;subst e;exact hs i x σ _ (y xs q) p
 .have e:i=xs.length:=by lia
  subst e;exact .inl ⟨⟨xs,q,aY _⟩,hd σ H p⟩
theorem Lk{K:Fg}{a:Addr}{xs:List V}{g:TG}{tb:TS}{D:Ends}{σ:St}{H:Hp}(Pv:Nat->St->Hp->Prop)(h0:Pv 0 σ H)(hl:∀i σ H,i<=xs.length->Pv i σ H->SqT K H a xs)
 (hs:∀i x σ H,xs[i]?=some x->Pv i σ H->g x σ H λσ2 H2=>tb { D with nx:=Pv (i+1),ct:=Pv (i+1),bk:=D.nx } σ2 H2) (hd:∀σ H,Pv xs.length σ H->D.nx σ H):
 ∃W:Nat->Nat->St->Hp->Prop,(∃m,W 0 m σ H)/\∀i m σ H,W i m σ H->
  ((Itt K a).stop i H/\D.nx σ H)\/((Itt K a).go i H/\∃N:St->Hp->Prop,(∀σ' H',N σ' H'->∃m',m'<m/\W (i+1) m' σ' H')/\∀x H',(Itt K a).yld i H x H'->g x σ H' λσ2 H2=>tb { D with nx:=N,ct:=N,bk:=D.nx } σ2 H2):=by
 refine⟨λi m σ H=>m=xs.length-i/\i<=xs.length/\Pv i σ H,⟨xs.length,by simp,bE _,h0⟩,?_⟩;rintro i m σ H ⟨rfl,hi,p⟩;have q:=hl i σ H hi p
 by_cases G:i<xs.length
 .refine .inr ⟨⟨xs,xs[i],q,by simp [G]⟩,Pv (i+1),λσ' H' J=>⟨xs.length-(i+1),by lia,rfl,G,J⟩,λx H' y=>?_⟩;obtain⟨e,y⟩:=y;subst e;exact hs i x σ _ (y xs q) p
 .have e:i=xs.length:=by lia
  subst e;exact .inl ⟨⟨xs,q,aY _⟩,hd σ H p⟩
theorem Zm{lo:Int}{n:Nat}{g:TG}{tb:TS}{D:Ends}{σ:St}{H:Hp}(Pv:Nat->St->Hp->Prop)(h0:Pv 0 σ H)
 (hs:∀i σ H,i<n->Pv i σ H->g (.int (lo+i)) σ H λσ2 H2=>tb { D with nx:=Pv (i+1),ct:=Pv (i+1),bk:=D.nx } σ2 H2) (hd:∀σ H,Pv n σ H->D.nx σ H):
 ∃W:Nat->Nat->St->Hp->Prop,(∃m,W 0 m σ H)/\∀i m σ H,W i m σ H->
  ((Itr lo n).stop i H/\D.nx σ H)\/((Itr lo n).go i H/\∃N:St->Hp->Prop,(∀σ' H',N σ' H'->∃m',m'<m/\W (i+1) m' σ' H')/\∀x H',(Itr lo n).yld i H x H'->g x σ H' λσ2 H2=>tb { D with nx:=N,ct:=N,bk:=D.nx } σ2 H2):=by
 refine⟨λi m σ H=>m=n-i/\i<=n/\Pv i σ H,⟨n,by simp,bE _,h0⟩,?_⟩;rintro i m σ H ⟨rfl,hi,p⟩
 by_cases G:i<n
 .refine .inr ⟨G,Pv (i+1),λσ' H' J=>⟨n-(i+1),by lia,rfl,G,J⟩,λx H' y=>?_⟩;obtain⟨e,y⟩:=y;subst e y;exact hs i σ _ G p
 .have e:i=n:=by lia
  subst e;exact .inl ⟨aY _,hd σ H p⟩
abbrev R2:=V->V->Hp->VK->Prop
def OpR(X:Cx)(f:Value->Value->Sem Value)(r:R2):Prop:=
 ∀(pins:List (10:))(s:Shared)(σ:St)(H:Hp)(x y:V)(v u:Value)(Q:VK),Inv X pins σ H s->RelV x v->RelV y u->r x y H Q->
  wpAny (6:) X.A (f v u) (EP X pins σ Q) X.xe s
def Q4(X:Cx)(f:Value)(r:List V->Hp->VK->Prop):Prop:=
 ∀(pins:List (10:))(s:Shared)(σ:St)(H:Hp)(xs:List V)(us:List Value)(Q:VK),Inv X pins σ H s->Vals xs us->r xs H Q->
  wpAny (6:) X.A (call f us) (EP X pins σ Q) X.xe s
def tOp(r:R2)(ta tb:TE):TE:=λσ H Q=>ta σ H λx H1=>tb σ H1 λy H2=>r x y H2 Q
def rI(C:Int->Int->Prop)(g:Int->Int->V):R2:=λx y H Q=>∃i j,x=.int i/\y=.int j/\C i j/\Q (g i j) H
def rI0(g:Int->Int->V):R2:=λx y H Q=>∃i j,x=.int i/\y=.int j/\Q (g i j) H
section
variable{a b c:Expr}{tb tc:TE}
theorem Af(ha:PE X a ta)(hb:PE X b tb){pins:List (10:)}{R:V->V->Hp->Prop}(I:Inv X pins σ H s)
 (h:ta σ H λx H1=>tb σ H1 λy H2=>R x y H2)  {f:Value->Value->Sem Value}
 (hf:∀v u s2 x y H2,Inv X pins σ H2 s2->RelV x v->RelV y u->R x y H2->wpAny (6:) X.A (f v u) Q X.xe s2):
 wpAny (6:) X.A (eval a X.env) (λv s₁=>wpAny (6:) X.A (eval b X.env) (λu s₂=>wpAny (6:) X.A (f v u) Q X.xe s₂) X.xe s₁) X.xe s:=by
 refine thn (ha pins s σ H _ I h) λv G ⟨x,H1,J,L,M⟩=>?_;refine thn (hb pins G σ H1 _ J M) λu s2 ⟨y,H2,U,Y,Z⟩=>?_;exact hf v u s2 x y H2 U L Y Z
theorem QS{op:Operator}{r:R2}(ho:OpR X (binaryOp op) r)(ha:PE X a ta)(hb:PE X b tb):PE X (.BinOp a op b pos) (tOp r ta tb):=by
 intro pins s σ H Q I h;exact wpAny_BinOp (Af ha hb I h λv u G x y H2 J L M q=>ho pins G σ H2 x y v u Q J L M q)
theorem opI{f:Value->Value->Sem Value}{C:Int->Int->Prop}{g:Int->Int->Int}
 (rule:∀(i j:Int)(t u:Tok)(s:Shared)(Q:Value->Shared->Prop)(E:Value->Shared->Prop),C i j->Q (.int (g i j) s.toks) { s with toks:=s.toks+1 }->wpAny (6:) X.A (f (.int i t) (.int j u)) Q E s):
 OpR X f (rI C λi j=>.int (g i j)):=by
 intro pins s σ H x y v u Q I G J h;obtain⟨i,j,rfl,rfl,L,q⟩:=h;obtain⟨t,rfl⟩:=G;obtain⟨M,rfl⟩:=J;exact rule i j t M s _ _ L ⟨.int (g i j),H,I.tok _,⟨_,rfl⟩,q⟩
theorem BR{f:Value->Value->Sem Value}{g:Int->Int->Int}
 (rule:∀(i j:Int)(t u:Tok)(s:Shared)(Q:Value->Shared->Prop)(E:Value->Shared->Prop),Q (.int (g i j) s.toks) { s with toks:=s.toks+1 }->wpAny (6:) X.A (f (.int i t) (.int j u)) Q E s):
 OpR X f (rI0 λi j=>.int (g i j)):=by
 intro pins s σ H x y v u Q I G J h;obtain⟨i,j,rfl,rfl,q⟩:=h;obtain⟨t,rfl⟩:=G;obtain⟨L,rfl⟩:=J;exact rule i j t L s _ _ ⟨.int (g i j),H,I.tok _,⟨_,rfl⟩,q⟩
theorem RY{f:Value->Value->Sem Value}{g:Int->Int->Bool}
 (rule:∀(i j:Int)(t u:Tok)(s:Shared)(Q:Value->Shared->Prop)(E:Value->Shared->Prop),Q (.bool (g i j)) s->wpAny (6:) X.A (f (.int i t) (.int j u)) Q E s):
 OpR X f (rI0 λi j=>.bl (g i j)):=by
 intro pins s σ H x y v u Q I G J h;obtain⟨i,j,rfl,rfl,q⟩:=h;obtain⟨t,rfl⟩:=G;obtain⟨L,rfl⟩:=J;exact rule i j t L s _ _ ⟨.bl (g i j),H,I,rfl,q⟩
def AO(i j:Int):Prop:=0<j/\j<1073741824
def Am(i j:Int):Prop:=0<=j/\j<=1000000/\i.natAbs<2^64
def CMul(i j:Int):Prop:=(-(2^64)<i/\i<2^64)\/(-(2^64)<j/\j<2^64)
theorem CMul.ok{i j:Int}(h:CMul i j):IntMulOk i j:=by
 rcases h with⟨h1,h2⟩ | ⟨h1,h2⟩
 .exact .of_left (intBits_le_64 h1 h2)
 .exact .of_right (intBits_le_64 h1 h2)
theorem ZP:OpR X (binaryOp .Add) (rI0 λi j=>.int (i+j)):=BR λ_ _ _ _ _ _ _ q=>add_int q
theorem TV:OpR X (binaryOp .Sub) (rI0 λi j=>.int (i-j)):=BR λ_ _ _ _ _ _ _ q=>sub_int q
theorem Jl:OpR X (binaryOp .Mult) (rI CMul λi j=>.int (i*j)):=opI λ_ _ _ _ _ _ _ G q=>mul_int q G.ok
theorem Jg:OpR X (binaryOp .FloorDiv) (rI AO λi j=>.int (i/j)):=opI λi j _ _ _ _ _ G q=>by
 have h1:(0:Int)<j:=G.1;have h2:j<1073741824:=G.2;exact floordiv_int (5:) (by rw [Int.fdiv_eq_ediv_of_nonneg i (5:)];exact q) (.inl (PyProof.noPylong_small (5:)))
theorem Uw:OpR X (binaryOp .Mod) (rI (λ_ j=>0<j) λi j=>.int (i%j)):=opI λi j _ _ _ _ _ G q=>by
 have h1:(0:Int)<j:=G;exact mod_int' (5:) (by rw [Int.fmod_eq_emod_of_nonneg i (5:)];exact q)
theorem Aq:OpR X (binaryOp .Pow) (rI Am λi j=>.int (i^j.toNat)):=opI λ_ _ _ _ _ _ _ G q=>pow_int_small G.1 G.2.1 G.2.2 q
end
def Bo:V->V->Bool
 | .non,.non=>true | .non,.int _=>true | .int _,.non=>true | .non,.bl _=>true | .bl _,.non=>true | .non,.str _=>true | .str _,.non=>true
 | .int _,.int _=>true | .bl _,.bl _=>true | .str _,.str _=>true | .byt _,.byt _=>true
 | .int _,.str _=>true | .str _,.int _=>true | .bl _,.str _=>true | .str _,.bl _=>true
 | _,_=>false
def rEq:R2:=λx y H Q=>Bo x y=true/\Q (.bl (decide (x=y))) H
def rNe:R2:=λx y H Q=>Bo x y=true/\Q (.bl (!decide (x=y))) H
theorem GX{i j:Int}:decide (V.int i=V.int j)=(i==j):=by
 rw [gq];simp
theorem Nl{i j:Bool}:decide (V.bl i=V.bl j)=(i==j):=by
 rw [gq];simp
theorem Ln{i j:Str}:decide (V.str i=V.str j)=(i==j):=by
 rw [gq];simp
theorem GM{i j:Array UInt8}:decide (V.byt i=V.byt j)=(i.toList==j.toList):=by
 rw [gq];cases i;cases j;simp
section
variable{a b c:Expr}{tb tc:TE}
theorem Qx{pins:List (10:)}{Q:VK}{k k':Bool}(I:Inv X pins σ H s)(q:Q (.bl k) H)(e:k=k'):EP X pins σ Q (.bool k') s:=by
 subst e;exact⟨.bl k,H,I,rfl,q⟩
theorem ZX:OpR X (compareOp .Eq) rEq:=by
 intro pins s σ H x y v u Q I M G h;obtain⟨L,q⟩:=h;cases x with
 | non=>
  cases M;cases y with
  | non=>cases G;exact PySem.EqNone.eq_none_none (Qx I q (16:))
  | bl j=>cases G;exact PySem.EqNone.eq_none_bool (Qx I q (16:))
  | int j=>obtain⟨J,rfl⟩:=G;exact PySem.EqNone.eq_none_int (Qx I q (16:))
  | str j=>obtain⟨J,rfl⟩:=G;exact PySem.EqNone.eq_none_str (Qx I q (16:))
  | _=>exact absurd (show false=true from L) aT
 | bl i=>
  cases M;cases y with
  | non=>cases G;exact PySem.EqNone.eq_bool_none (Qx I q (16:))
  | bl j=>cases G;exact eq_bool (Qx I q Nl)
  | str j=>obtain⟨J,rfl⟩:=G;exact PySem.EqMixed.eq_bool_str (Qx I q (16:))
  | _=>exact absurd (show false=true from L) aT
 | int i=>
  obtain⟨t,rfl⟩:=M;cases y with
  | non=>cases G;exact PySem.EqNone.eq_int_none (Qx I q (16:))
  | int j=>obtain⟨J,rfl⟩:=G;exact eq_int (Qx I q GX)
  | str j=>obtain⟨J,rfl⟩:=G;exact PySem.EqMixed.eq_int_str (Qx I q (16:))
  | _=>exact absurd (show false=true from L) aT
 | str i=>
  obtain⟨t,rfl⟩:=M;cases y with
  | non=>cases G;exact PySem.EqNone.eq_str_none (Qx I q (16:))
  | bl j=>cases G;exact PySem.EqMixed.eq_str_bool (Qx I q (16:))
  | int j=>obtain⟨J,rfl⟩:=G;exact PySem.EqMixed.eq_str_int (Qx I q (16:))
  | str j=>obtain⟨J,rfl⟩:=G;exact eq_str (Qx I q Ln)
  | _=>exact absurd (show false=true from L) aT
 | byt i=>
  obtain⟨t,rfl⟩:=M;cases y with
  | byt j=>obtain⟨J,rfl⟩:=G;exact PySem.W.eq_bytes (Qx I q GM)
  | _=>exact absurd (show false=true from L) aT
 | _=>cases y<;>exact absurd (show false=true from L) aT
theorem J1:OpR X (compareOp .NotEq) rNe:=by
 intro pins s σ H x y v u Q I M G h;obtain⟨L,q⟩:=h;cases x with
 | non=>
  cases M;cases y with
  | non=>cases G;exact PySem.EqNone.ne_none_none (Qx I q (16:))
  | bl j=>cases G;exact PySem.EqNone.ne_none_bool (Qx I q (16:))
  | int j=>obtain⟨J,rfl⟩:=G;exact PySem.EqNone.ne_none_int (Qx I q (16:))
  | str j=>obtain⟨J,rfl⟩:=G;exact PySem.EqNone.ne_none_str (Qx I q (16:))
  | _=>exact absurd (show false=true from L) aT
 | bl i=>
  cases M;cases y with
  | non=>cases G;exact PySem.EqNone.ne_bool_none (Qx I q (16:))
  | bl j=>cases G;exact ne_bool (Qx I q (congrArg not Nl))
  | str j=>obtain⟨J,rfl⟩:=G;exact PySem.EqMixed.ne_bool_str (Qx I q (16:))
  | _=>exact absurd (show false=true from L) aT
 | int i=>
  obtain⟨t,rfl⟩:=M;cases y with
  | non=>cases G;exact PySem.EqNone.ne_int_none (Qx I q (16:))
  | int j=>obtain⟨J,rfl⟩:=G;exact ne_int (Qx I q (congrArg not GX))
  | str j=>obtain⟨J,rfl⟩:=G;exact PySem.EqMixed.ne_int_str (Qx I q (16:))
  | _=>exact absurd (show false=true from L) aT
 | str i=>
  obtain⟨t,rfl⟩:=M;cases y with
  | non=>cases G;exact PySem.EqNone.ne_str_none (Qx I q (16:))
  | bl j=>cases G;exact PySem.EqMixed.ne_str_bool (Qx I q (16:))
  | int j=>obtain⟨J,rfl⟩:=G;exact PySem.EqMixed.ne_str_int (Qx I q (16:))
  | str j=>obtain⟨J,rfl⟩:=G;exact ne_str (Qx I q (congrArg not Ln))
  | _=>exact absurd (show false=true from L) aT
 | byt i=>
  obtain⟨t,rfl⟩:=M;cases y with
  | byt j=>obtain⟨J,rfl⟩:=G;exact PySem.W.ne_bytes (Qx I q (congrArg not GM))
  | _=>exact absurd (show false=true from L) aT
 | _=>cases y<;>exact absurd (show false=true from L) aT
theorem Va:OpR X (compareOp .Lt) (rI0 λi j=>.bl (decide (i<j))):=RY λ_ _ _ _ _ _ _ q=>lt_int q
theorem Bv:OpR X (compareOp .LtE) (rI0 λi j=>.bl (decide (i<=j))):=RY λ_ _ _ _ _ _ _ q=>le_int q
theorem GZ:OpR X (compareOp .Gt) (rI0 λi j=>.bl (decide (j<i))):=RY λ_ _ _ _ _ _ _ q=>gt_int q
theorem NY:OpR X (compareOp .GtE) (rI0 λi j=>.bl (decide (j<=i))):=RY λ_ _ _ _ _ _ _ q=>ge_int q
theorem Mn:OpR X (compareOp .Lt) (λx y H Q=>∃i j,x=.str i/\y=.str j/\Q (.bl (decide (i.cps.toList<j.cps.toList))) H):=by
 intro pins s σ H x y v u Q I G J h;obtain⟨i,j,rfl,rfl,q⟩:=h;obtain⟨t,rfl⟩:=G;obtain⟨L,rfl⟩:=J;exact lt_str (Qx I q rfl)
theorem Ta:OpR X (compareOp .Is) (λx y H Q=>y=.non/\Q (.bl (decide (x=.non))) H):=by
 intro pins s σ H x y v u Q I G J h;obtain⟨rfl,q⟩:=h;cases J;refine is_none_gen (Qx I q ?_);cases x<;>first
  | (cases G;rfl)
  | (obtain⟨t,rfl⟩:=G;rfl)
theorem Ro:OpR X (compareOp .IsNot) (λx y H Q=>y=.non/\Q (.bl (!decide (x=.non))) H):=by
 intro pins s σ H x y v u Q I G J h;obtain⟨rfl,q⟩:=h;cases J;refine isnot_none_gen (Qx I q ?_);cases x<;>first
  | (cases G;rfl)
  | (obtain⟨t,rfl⟩:=G;rfl)
theorem QA(b:Expr)(h:op≠.In:=by decide)(h2:op≠.NotIn:=by decide):behindInMarks op b=false:=by
 have G:(op==CmpOp.In)=false:=by cases op<;>first | rfl | exact absurd rfl h
 have J:(op==CmpOp.NotIn)=false:=by cases op<;>first | rfl | exact absurd rfl h2
 cases b<;>simp [behindInMarks,G,J]
theorem Z8{r:R2}(ho:OpR X (compareOp op) r)(ha:PE X a ta)(hb:PE X b tb)(hm:behindInMarks op b=false):PE X (.Compare a [op] [b] pos) (tOp r ta tb):=by
 intro pins s σ H Q I h;exact wpAny_Compare1 (Af ha hb I h λv u G x y H2 J L M q=>ho pins G σ H2 x y v u Q J L M q) hm
def Ch(t:TE):TT:=λσ H Q=>t σ H λx H'=>∃k,x=.bl k/\Q k H'
theorem Qw{op:CmpOp}{r:R2}(ho:OpR X (compareOp op) r)(ha:PE X a ta)(hb:PE X b tb)(hm:behindInMarks op b=false):PT X (.Compare a [op] [b] pos) (Ch (tOp r ta tb)):=by
 intro pins s σ H Q I h;refine wpAny_isTrue_Compare1 (thn (ha pins s σ H _ I h) λv G ⟨x,H1,J,L,M⟩=>thn (hb pins G σ H1 _ J M) λu U ⟨y,H2,Y,Z,q2⟩=>
  thn (ho pins U σ H2 x y v u _ Y L Z q2) λc s3 ⟨z,H3,I3,r3,k,e,q3⟩=>?_) hm
 subst e;cases r3;exact eY ⟨H3,I3,q3⟩
theorem Us:(sizeLine:Nat)<2^63:=by rw [cQ];decide
theorem V6:OpR X (binaryOp .Add) (λx y H Q=>∃i j,x=.str i/\y=.str j/\i.length+j.length<=sizeLine/\Q (.str (i++j)) H):=by
 intro pins s σ H x y v u Q I G J h;obtain⟨i,j,rfl,rfl,hz,q⟩:=h;obtain⟨t,rfl⟩:=G;obtain⟨L,rfl⟩:=J;exact add_str (λL tk=>⟨.str (i++j),H,I.tok _,⟨_,rfl⟩,q⟩) hz
theorem GE{x:V}(r:Vals [x] us):∃u,us=[u]/\RelV x u:=by
 cases r with
 | cons G J=>cases J;exact⟨_,rfl,G⟩
theorem Nr{x:V}(r:Vals [x,y] us):∃u w',us=[u,w']/\RelV x u/\RelV y w':=by
 cases r with
 | cons G J=>
  cases J with
  | cons L M=>cases M;exact⟨_,_,rfl,G,L⟩
end
structure ObjM(h:Heap)(x dx C:Addr)(mA:Str->Option Value):Prop where
 obj:h.get? x=some (PySem.W.instObj C dx)
 ns:h.Ns1 dx mA
 ne:dx≠x
theorem LY(n:h.Ns1 dx mA):∃od,h.get? dx=some od/\∀name,PySem.W.lookIn name od=some (mA name):=by
 obtain⟨o,es,ep,J,L,M,_,U⟩:=n;refine⟨o,J,λname=>?_⟩;have e:=U name;unfold nsFind findBy at e;rw [<-Array.find?_toList]at e;unfold PySem.W.lookIn;rw [L];dsimp only;split
 .rename_i y q;rw [q]at e;exact congrArg some e
 .rename_i q;rw [q]at e;have a:es.toList.any (·.refKey)=false:=by
   rw [List.any_eq_false];intro y Y;obtain⟨z,t,G⟩:=M y (gK.mp Y);simp [DictEntry.refKey,G]
  have Z:¬es.toList.any (·.refKey)=true:=by rw [a];exact aT
  rw [aF Z];exact congrArg some e
theorem ObjM.look{x C:Addr}(I:ObjM h x dx C mA):∃od,PySem.W.InstAt h x (PySem.W.instObj C dx) C (some od)/\∀name,PySem.W.lookIn name od=some (mA name):=
 let⟨od,G,J⟩:=LY I.ns
 ⟨od,⟨I.obj,rfl,rfl,G⟩,J⟩
section
variable{E:Value->Shared->Prop}{K:Fg}{x C:Addr}{v:Value}
theorem Rr{expr:Bool}(X:K.In s.heap)(I:ObjM s.heap x dx C mA)(hg:PySem.W.plainGet K C name=true)(hh:PySem.W.hasDictIn K C=true)
 (ha:PySem.W.findIn K (.ref C) name=some none) (hv:mA name=some v) (hv':PySem.W.handedIn v=true) (h:Q v { s with toks:=s.toks+1 }):
 wpAny (9:) A (getAttr (.ref x) name expr) Q E s:=by
 obtain⟨L,J,G⟩:=I.look;exact PySem.W.get_value X J (PySem.W.plainGet_of hg).1 (PySem.W.findObj_own hh ha rfl (by rw [G,hv])) hv' h
theorem OL{Q:Value×List Value->Shared->Prop}(X:K.In s.heap)(I:ObjM s.heap x dx C mA)(hg:PySem.W.plainGet K C name=true)
 (hf:PySem.W.findIn K (.ref C) name=some (some (.ref f))) (ht:PySem.W.isFn K (.ref f)=true) (hv:mA name=none) (h:Q (.ref f,[.ref x]) s):
 wpAny (9:) A (getMethod (.ref x) name pl) Q E s:=by
 obtain⟨G,J,L⟩:=I.look;exact PySem.W.method_fn X J (PySem.W.plainGet_of hg).1 (PySem.W.plainGet_of hg).2 hf (fk.mp ht) (by show(PySem.W.lookIn name G).map (·.isSome)=some false;rw [L,hv];rfl) h
theorem RP{ns:List Str}{Q:Unit->Shared->Prop}(X:K.In s.heap)(I:ObjM s.heap x dx C mA)
 (hs:PySem.W.findIn K (.ref C) "__setattr__"=some (some (.builtin "object.__setattr__"))) (hp:PySem.W.plainOver K C=true) (ht:PySem.W.takerIn K C name=some none) (hh:PySem.W.hasDictIn K C=true)
 (hw:PySem.Within mA ns) (hsz:ns.length<=sizeLine)
 (h:∀h',ObjM h' x dx C (λy=>if y=name then some v else mA y)->Heap.SameBut dx s.heap h'->Q () { s with heap:=h',toks:=s.toks+2 }):
 wpAny (9:) A (setAttr (.ref x) name v) Q E s:=by
 obtain⟨od,J,hl⟩:=I.look;refine PySem.W.set_plain X J hs (PySem.W.osa_open (s:={ s with toks:=s.toks+1 }) (r:=none) X J hp ht λb=>?_);obtain⟨cd,hc,M⟩:=PySem.W.any_some hh;have hx:s.heap.get? x=some ⟨.ref C,some dx,.plain,#[]⟩:=I.obj;refine aB (aH (aB (aB (wpAny_loadPart hx (aB (PySem.W.Looks.here (s:={ s with toks:=s.toks+1 }) (PySem.W.looks_clsIn X hc) ?_))))));rw [M];refine aH (a:=some dx) (aB (aH (aB ?_)));refine wpAny_nsSet1 (s:={ s with toks:=s.toks+1 }) I.ns λh' G L=>?_;obtain⟨oD,aa,ab,U,Y,Z⟩:=G.count (PySem.Within.cons name v hw);refine aB (wpAny_lookBehind U (by rw [Y];exact pastItsLine_dict (bT Z (by rw [bF];lia))) ?_);exact aH (h _ ⟨(L.2 _ (aV I.ne)).trans I.obj,G,I.ne⟩ L)
theorem Ow{vs:List Value}(X:K.In s.heap)(hm:PySem.W.makesIn K C=true)
 (hi:PySem.W.findIn K (.ref C) "__init__"=some (some (.ref f))) (hf:PySem.W.typeIn K (.ref f)=some (.type "function"))
 (h:codeAny (9:) (A.under (.builtin "type.__call__" ⟨.ref C::vs,kw⟩)) (.call (.ref f) ⟨.ref (20:)::vs,kw⟩) (PySem.W.InitBack (20:) R)
  { s with heap:=(s.heap.push PySem.W.emptyDict).push (PySem.W.instObj C s.heap.objs.size) }):
 codeAny (9:) A (.call (.ref C) ⟨vs,kw⟩) R s:=by
 obtain⟨J,g,d,t,L⟩:=s;exact PySem.W.make_core (PySem.W.makes_of X hm) (PySem.W.looks_findIn X hi) (λG=>PySem.W.bind_fn X G hf) (.inl rfl) h
end
def ZB(f:Str)(v:V):List (Str×V)->List (Str×V)
 | []=>[(f,v)]
 | (g,x)::r=>if g=f then(g,v)::r else(g,x)::ZB f v r
theorem UZ(f g:Str)(v:V):∀fs:List (Str×V),(ZB f v fs).lookup g=if g=f then some v else fs.lookup g
 | []=>by
  show List.lookup g [(f,v)]=_
  by_cases h:g=f
  .have G:(g==f)=true:=fk.mpr h;simp only [List.lookup,G,aG h]
  .have G:(g==f)=false:=eD.mpr h;simp only [List.lookup,G,aF h]
 | (k,x)::r=>by
  have L:=UZ f g v r;rw [show ZB f v ((k,x)::r)=(if k=f then(k,v)::r else(k,x)::ZB f v r)from rfl]
  by_cases J:k=f
  .rw [aG J]
   by_cases h:g=k
   .have G:(g==k)=true:=fk.mpr h;simp only [List.lookup,G,aG (h.trans J)]
   .have G:(g==k)=false:=eD.mpr h;simp only [List.lookup,G,aF (λe:g=f=>h (e.trans J.symm))]
  .rw [aF J]
   by_cases h:g=k
   .have G:(g==k)=true:=fk.mpr h;simp only [List.lookup,G,aF (λe:g=f=>J (h.symm.trans e))]
   .have G:(g==k)=false:=eD.mpr h;simp only [List.lookup,G];exact L
theorem UM(f:Str)(v:V):∀fs:List (Str×V),f∈(ZB f v fs).map (·.1)/\∀g,g∈fs.map (·.1)->g∈(ZB f v fs).map (·.1)
 | []=>⟨by simp [ZB],λg h=>by simp at h⟩
 | (k,x)::r=>by
  obtain⟨i1,i2⟩:=UM f v r;rw [show ZB f v ((k,x)::r)=(if k=f then(k,v)::r else(k,x)::ZB f v r)from rfl]
  by_cases G:k=f
  .rw [aG G];subst G;exact⟨by simp,λg h=>by simpa using h⟩
  .rw [aF G];refine⟨?_,λg h=>?_⟩
   .rw [aS];exact bR _ i1
   .rw [aS]at h ⊢;rcases aM.mp h with e | e
    .exact aM.mpr (.inl e)
    .exact bR _ (i2 g e)
theorem UT(f:Str)(v:V):∀fs:List (Str×V),(ZB f v fs).length<=fs.length+1
 | []=>by simp [ZB]
 | (k,x)::r=>by
  have J:=UT f v r;rw [show ZB f v ((k,x)::r)=(if k=f then(k,v)::r else(k,x)::ZB f v r)from rfl]
  by_cases G:k=f
  .rw [aG G,bF,bF];lia
  .rw [aF G,bF,bF];lia
theorem RelO.some_of{o:Option Value}(r:RelO (some v) o):∃u,o=some u/\RelV v u:=by
 cases o with
 | none=>exact(show False from r).elim
 | some u=>exact⟨u,rfl,r⟩
theorem RelO.none_of{o:Option Value}(r:RelO none o):o=none:=by
 cases o with
 | none=>rfl
 | some u=>exact(show False from r).elim
theorem MM(r:RelV v u):PySem.W.handedIn u=true:=by
 cases v with
 | non=>cases (show u=Value.none from r);rfl
 | bl b=>cases (show u=Value.bool b from r);rfl
 | int i=>obtain⟨t,e⟩:=(show ∃t,u=Value.int i t from r);cases e;rfl
 | str x=>obtain⟨t,e⟩:=(show ∃t,u=Value.str x t from r);cases e;rfl
 | byt b=>obtain⟨t,e⟩:=(show ∃t,u=Value.bytes b t from r);cases e;rfl
 | flt b=>obtain⟨t,e⟩:=(show ∃t,u=Value.float b t from r);cases e;rfl
 | ref a=>cases (show u=Value.ref a from r);rfl
 | ty n=>cases (show u=Value.type n from r);rfl
section
variable{C:Addr}{fs fs':List (Str×V)}
theorem Jc(hok:HOk P w H h)(e:H a=some (.ins C dx fs)):∃mA,ObjM h a dx C mA/\(∀f,RelO (fs.lookup f) (mA f))/\PySem.Within mA (fs.map (·.1))/\fs.length<=1000/\H dx=some (.own a):=by
 obtain⟨d,z,ne,G,mA,n,r,q⟩:=(show ObjOk P w H h a (.ins C dx fs)from hok a _ e);exact⟨mA,⟨G,n,ne⟩,r,q,z,d⟩
end
structure Cls(K:Fg)(C:Addr):Prop where
 pg:PySem.W.plainGet K C Str.empty=true
 hd:PySem.W.hasDictIn K C=true
 po:PySem.W.plainOver K C=true
 sa:PySem.W.findIn K (.ref C) "__setattr__"=some (some (.builtin "object.__setattr__"))
theorem Cls.get{K:Fg}{C:Addr}(c:Cls K C)(f:Str):PySem.W.plainGet K C f=true:=c.pg
def NoAttr(K:Fg)(C:Addr)(f:Str):Prop:=PySem.W.findIn K (.ref C) f=some none
theorem NoAttr.taker{K:Fg}{C:Addr}{f:Str}(n:NoAttr K C f):PySem.W.takerIn K C f=some none:=by
 unfold PySem.W.takerIn;rw [show PySem.W.findIn K (.ref C) f=some none from n]
 rfl
structure Meth(K:Fg)(C:Addr)(m:Str)(f:Addr):Prop where
 at_:PySem.W.findIn K (.ref C) m=some (some (.ref f))
 fn:PySem.W.isFn K (.ref f)=true
 kp:PySem.W.keepIn K (.ref f)=true
section
variable{pins:List (10:)}{C:Addr}{fs:List (Str×V)}{f:Str}{E:Value->Shared->Prop}
theorem VB{b:Bool}(I:Inv X pins σ H s)(e:H a=some (.ins C dx fs))(c:Cls X.K C)(n:NoAttr X.K C f)(l:fs.lookup f=some v)
 (h:∀u s',Inv X pins σ H s'->RelV v u->Q u s'):wpAny (6:) A (getAttr (.ref a) f b) Q E s:=by
 obtain⟨mA,O,r,_,_,_⟩:=Jc I.hok e;obtain⟨u,J,G⟩:=RelO.some_of (v:=v) (o:=mA f) (by rw [<-l];exact r f);exact Rr I.kIn O (c.get f) c.hd n J (MM G) (h u _ (I.tok _) G)
theorem Gu{m:Str}{g:Addr}{Q:Value×List Value->Shared->Prop}(I:Inv X pins σ H s)(e:H a=some (.ins C dx fs))(c:Cls X.K C)(k:Meth X.K C m g)(l:fs.lookup m=none)
 (h:Q (.ref g,[.ref a]) s):wpAny (6:) A (getMethod (.ref a) m pl) Q E s:=by
 obtain⟨mA,O,r,_,_,_⟩:=Jc I.hok e;have G:mA m=none:=RelO.none_of (by rw [<-l];exact r m);exact OL I.kIn O (c.get m) k.at_ k.fn G h
theorem VM{Q:Unit->Shared->Prop}(I:Inv X pins σ H s)(e:H a=some (.ins C dx fs))(c:Cls X.K C)(n:NoAttr X.K C f)(hl:fs.length<1000)(ry:RelV y u)
 (h:∀s',Inv X pins σ (upd H a (.ins C dx (ZB f y fs))) s'->Q () s'):wpAny (6:) A (setAttr (.ref a) f u) Q E s:=by
 obtain⟨mA,O,r,J,_,L⟩:=Jc I.hok e;have hz:(fs.map (·.1)).length<=sizeLine:=by rw [aE,cQ];lia
 refine RP I.kIn O c.sa c.po n.taker c.hd J hz λh' G M=>h _ ?_;have U:∃o,h'.get? dx=some o:=let⟨o,_,_,Y,_⟩:=G.ns;⟨o,Y⟩
 refine I.write (x:=a) (e:=dx) (by rw [e];exact cR) (.inr L) (λb q Z z=>(M.2 b Z).trans z) U ?_;refine⟨by rw [Qe O.ne];exact L,?_,O.ne,G.obj,_,G.ns,λg=>?_,λg hg=>?_⟩
 .have:=UT f y fs;lia
 .show RelO ((ZB f y fs).lookup g) (if g=f then some u else mA g);rw [UZ]
  by_cases q:g=f
  .rw [aG q,aG q];exact ry
  .rw [aF q,aF q];exact r g
 .by_cases q:g=f
  .rw [q];exact(UM f y fs).1
  .refine(UM f y fs).2 g (J g λz=>hg ?_);show(if g=f then some u else mA g)=none;rw [aF q];exact z
theorem Inv.made(I:Inv X pins σ H s):Inv X pins σ (upd (upd H s.heap.objs.size (.own (20:))) (20:) (.ins C s.heap.objs.size []))
 { s with heap:=(s.heap.push PySem.W.emptyDict).push (PySem.W.instObj C s.heap.objs.size) }:=by
 have G:(s.heap.push PySem.W.emptyDict).get? s.heap.objs.size=some PySem.W.emptyDict:=bD s.heap rfl;have J:((s.heap.push PySem.W.emptyDict).push (PySem.W.instObj C s.heap.objs.size)).get? (20:)=some (PySem.W.instObj C s.heap.objs.size):=by
  have:=bD (s.heap.push PySem.W.emptyDict) (o:=PySem.W.instObj C s.heap.objs.size) rfl
  rwa [dZ]at this
 have L:(s.heap.push PySem.W.emptyDict).Ns s.heap.objs.size (λ_=>none):=⟨PySem.W.emptyDict,#[],_,G,rfl,(λe M=>absurd M (16:)),λ_=>rfl⟩;have U:=I.laid (a:=s.heap.objs.size) (o:=.own (20:)) (h':=s.heap.push PySem.W.emptyDict) (t':=s.toks) (λb u q=>aN _ q) (4:) ⟨_,G⟩;refine U.laid (a:=s.heap.objs.size+1) (o:=.ins C s.heap.objs.size []) (t':=s.toks) (λb u q=>aN _ q) (Nat.le_of_eq (dZ _ _)) ?_;have ne:s.heap.objs.size≠s.heap.objs.size+1:=bC (Nat.lt_succ_self _);refine⟨by rw [Qe ne,Qb],bE _,ne,J,λ_=>none,(Heap.Ns1.of_empty L).at λo q=>aN _ q,λ_=>cR,λy Y=>absurd rfl Y⟩
theorem PP{f:Str}(hb:attributeBase e f env (eval e env)=eval e env)
 (h:wpAny (9:) A (eval e env) (λo s₁=>wpAny (9:) A (getAttr o f true) Q E s₁) E s):wpAny (9:) A (eval (.Attribute e f pos) env) Q E s:=
 Attribute_any_ h (by rw [arm_eval_Attribute,hb])
end
def CK(K:Fg)(ta:TE)(f:Str):TE:=λσ H Q=>ta σ H λx H1=>∃a C dx fs v,x=.ref a/\H1 a=some (.ins C dx fs)/\Cls K C/\NoAttr K C f/\fs.lookup f=some v/\Q v H1
def C3(K:Fg)(ta tv:TE)(f:Str):TS:=λD σ H=>tv σ H λy H1=>ta σ H1 λx H2=>∃a C dx fs,x=.ref a/\H2 a=some (.ins C dx fs)/\Cls K C/\NoAttr K C f/\fs.length<1000/\
 D.nx σ (upd H2 a (.ins C dx (ZB f y fs)))
section
variable{f:Str}
theorem Yc(he:PE X e ta)(hb:attributeBase e f X.env (eval e X.env)=eval e X.env):PE X (.Attribute e f pos) (CK X.K ta f):=by
 intro pins s σ H Q I h;refine PP hb (thn (he pins s σ H _ I h) λu Y ⟨x,H1,G,J,a,C,dx,fs,v,ex,L,c,n,l,q⟩=>?_);subst ex;obtain rfl:u=Value.ref a:=J;exact VB G L c n l λZ s2 M U=>⟨v,H1,M,U,q⟩
theorem UC(ha:PE X o ta)(hv:PE X value tv)(hs:swapsWith value (some (.Attribute o f pos')) pos.line X.env=pure false):PS X (.Assign [.Attribute o f pos'] value pos) (C3 X.K ta tv f):=by
 intro pins s σ H D I h;refine plainObj_wpAny_Assign_Attribute (thn (hv pins s σ H _ I h) λu G ⟨y,H1,J,L,q⟩=>thn (ha pins G σ H1 _ J q) λM s2 ⟨x,H2,U,Y,a,C,dx,fs,ex,Z,c,n,l,q2⟩=>?_) hs;subst ex;obtain rfl:M=Value.ref a:=Y;exact VM U Z c n l L λs3 I3=>⟨σ,_,I3,q2⟩
end
section
variable{pins:List (10:)}{E:Value->Shared->Prop}{c:Value}{b:Bool}
inductive TyOf(K:Fg)(H:Hp):V->Value->Prop where
 | non:TyOf K H .non (.type "NoneType")
 | bl (x:Bool):TyOf K H (.bl x) (.type "bool")
 | int (i:Int):TyOf K H (.int i) (.type "int")
 | str (x:Str):TyOf K H (.str x) (.type "str")
 | flt (x:UInt64):TyOf K H (.flt x) (.type "float")
 | lst {a:Addr} {xs:List V} (e:H a=some (.lst xs)):TyOf K H (.ref a) (.type "list")
 | frz {a:Addr} {o:Obj} {xs:List V} (e:H a=some (.frz o (.lst xs))):TyOf K H (.ref a) (.type "list")
 | tup {a:Addr} {xs:List V} (e:H a=some (.tup xs)):TyOf K H (.ref a) (.type "tuple")
 | dK {a:Addr} {kvs:List (Key×V)} (e:H a=some (.dK kvs)):TyOf K H (.ref a) (.type "dict")
 | dT {a:Addr} {kvs:List (List Key×V)} (e:H a=some (.dT kvs)):TyOf K H (.ref a) (.type "dict")
 | ins {a C dx:Addr} {fs:List (Str×V)} (e:H a=some (.ins C dx fs)) (cl:Cls K C) (ha:PySem.W.findIn K (.ref C) "__class__"=some (some (.builtin "object.__class__")))
  (hn:PySem.W.specialIn K (.builtin "object.__class__") "__get__"=some (some (.builtin "getset_descriptor.__get__"))) (htk:PySem.W.takesIn K (.builtin "object.__class__")=some true)
  (hm:PySem.W.mroIn K C (.type "object")=some true):TyOf K H (.ref a) (.ref C)
theorem LU{x:V}{t:Value}(I:Inv X pins σ H s)(rx:RelV x u)(ty:TyOf X.K H x t)(e:PySem.W.kitOne X.K t c=some b)(h:∀tk,Q (.bool b) { s with toks:=tk }):
 wpAny (6:) A (call (.builtin "isinstance") [u,c]) Q E s:=by
 cases ty with
 | non=>cases (show u=Value.none from rx);exact cX PySem.W.kitx_none I.kIn cR e (λz=>nomatch z) h
 | bl y=>cases (show u=Value.bool y from rx);exact cX PySem.W.kitx_bool I.kIn cR e (λz=>nomatch z) h
 | int i=>obtain⟨t,q⟩:=(show ∃t,u=Value.int i t from rx);cases q;exact cX PySem.W.kitx_int I.kIn cR e (λz=>nomatch z) h
 | str y=>obtain⟨t,q⟩:=(show ∃t,u=Value.str y t from rx);cases q;exact cX PySem.W.kitx_str I.kIn cR e (λz=>nomatch z) h
 | flt y=>obtain⟨t,q⟩:=(show ∃t,u=Value.float y t from rx);cases q;exact cX PySem.W.kitx_float I.kIn cR e (λz=>nomatch z) h
 | @lst a xs G=>
  cases (show u=Value.ref a from rx);obtain⟨_,_,n,_,h1⟩:=(show ObjOk X.prog X.w H s.heap a (.lst xs)from I.hok a _ G);exact cX PySem.W.kitx_list I.kIn ⟨_,h1,rfl⟩ e (λz=>nomatch z) h
 | @frz a M xs G=>
  cases (show u=Value.ref a from rx);obtain⟨_,_,_,n,_,h1⟩:=(show ObjOk X.prog X.w H s.heap a (.frz M (.lst xs))from I.hok a _ G);exact cX PySem.W.kitx_list I.kIn ⟨_,h1,rfl⟩ e (λz=>nomatch z) h
 | @tup a xs G=>
  cases (show u=Value.ref a from rx);obtain⟨_,_,_,p⟩:=(show ObjOk X.prog X.w H s.heap a (.tup xs)from I.hok a _ G);obtain⟨o,h1,h2,_⟩:=p;exact cX PySem.W.kitx_tuple I.kIn ⟨o,h1,h2⟩ e (λz=>nomatch z) h
 | @dK a kvs G=>
  cases (show u=Value.ref a from rx);obtain⟨_,_,vs,_,p⟩:=(show ObjOk X.prog X.w H s.heap a (.dK kvs)from I.hok a _ G);obtain⟨o,es,ep,h1,h2,_⟩:=p;exact cX PySem.W.kitx_dict I.kIn ⟨o,h1,h2.1⟩ e (λz=>nomatch z) h
 | @dT a kvs G=>
  cases (show u=Value.ref a from rx);obtain⟨_,_,xs,_,o,es,ep,h1,h2,_⟩:=(show ObjOk X.prog X.w H s.heap a (.dT kvs)from I.hok a _ G);exact cX PySem.W.kitx_dict I.kIn ⟨o,h1,h2.1⟩ e (λz=>nomatch z) h
 | @ins a C dx fs G cl U Y L Z=>
  cases (show u=Value.ref a from rx);obtain⟨mA,O,_⟩:=Jc I.hok G;obtain⟨od,J,_⟩:=O.look;exact cX (PySem.W.kitx_own (cl.get _) cl.hd U Y L Z) I.kIn J e (λz=>nomatch z) h
end
structure Room(k:Nat)(A:Around):Prop where
 hd:A.handled=none
 dp:A.depth+3*k+5<recursionLimit
 un:A.units+16*k+200<cLine
theorem Room.mono{k:Nat}(r:Room k A)(h:j<=k):Room j A:=⟨r.hd,by have:=r.dp;lia,by have:=r.un;lia⟩
theorem Room.deeper{k:Nat}(r:Room (k+1) A)(env:Env):Room k (A.deeper env):=
 ⟨r.hd,by have:=r.dp;show A.depth+1+3*k+5<_;lia,by have:=r.un;show A.units+3+16*k+200<_;lia⟩
theorem VH{C:Addr}:(A.under (.builtin "type.__call__" ⟨.ref C::us,kw⟩)).depth=A.depth+1:=by
 first | rfl | simp [Around.under,Code.weight,Code.isCreation,Code.isGuard,Code.isCaller,Code.frames,Code.isFrame,guardIds]
theorem VF{C:Addr}:(A.under (.builtin "type.__call__" ⟨.ref C::us,kw⟩)).units=A.units+1:=by
 first | rfl | simp [Around.under,Code.cUnits,Code.frames,Code.isFrame]
theorem Room.make{k:Nat}(r:Room (k+1) A)(C:Addr)(us:List Value)(kw:List (Str×Value)):Room k (A.under (.builtin "type.__call__" ⟨.ref C::us,kw⟩)):=
 ⟨r.hd,by have:=r.dp;rw [VH];lia,by have:=r.un;rw [VF];lia⟩
theorem Room.depth{k:Nat}(r:Room k A):A.depth<recursionLimit:=by have:=r.dp;lia
theorem Room.units{k:Nat}(r:Room k A):A.units+64<cLine:=by have:=r.un;lia
def YF:TA:=λ_ H Q=>Q [] H
def QZ(ta:TE)(tr:TA):TA:=λσ H Q=>ta σ H λx H1=>tr σ H1 λxs H2=>Q (x::xs) H2
section
variable{t:TA}
theorem Qc:PA X [] YF:=λ_ _ _ _ H Q I h=>Calls.spliced_nil ⟨[],H,I,.nil,h⟩
theorem Qa(ha:PE X e te)(hr:PA X es t)(hs:starEach (e::es) X.env=(false,eval e X.env)::starEach es X.env:=by rfl):PA X (e::es) (QZ te t):=by
 intro pos pins s σ H Q I h;rw [hs];show wpAny _ _ (spliced ((false,eval e X.env)::backTo pos (starEach es X.env))) _ _ s;refine Calls.spliced_cons (thn (ha pins s σ H _ I h) λu G ⟨x,H1,J,L,M⟩=>?_);exact thn (hr pos pins G σ H1 _ J M) λus s2 ⟨xs,H2,U,Y,Z⟩=>⟨x::xs,H2,U,.cons L Y,Z⟩
def Re(t:TA):TE:=λσ H Q=>t σ H λxs H1=>xs.length<=sizeLine/\∀p,H1 p=none->Q (.ref p) (upd H1 p (.tup xs))
def Bs(t:TA):TE:=λσ H Q=>t σ H λxs H1=>xs.length<=sizeLine/\∀p,H1 p=none->Q (.ref p) (upd H1 p (.lst xs))
theorem QE{x1}(h:PA X es t):PE X (.Tuple es x1 pos) (Re t):=by
 intro pins s σ H Q I L;refine wpAny_Tuple_spliced (thn (h pos pins s σ H _ I L) λM G ⟨xs,H1,J,r,z,q⟩=>⟨by rw [<-r.length];exact z,?_⟩);have U:H1 G.heap.objs.size=none:=J.hok.fresh (4:);refine⟨.ref G.heap.objs.size,upd H1 G.heap.objs.size (.tup xs),J.laid (t':=G.toks) (λb u e=>aN _ e) (4:) ?_,rfl,q _ U⟩;exact⟨z,M,r,⟨_,bD _ rfl,rfl,_,rfl⟩⟩
theorem Zs(h:PA X es t):PE X (.List es pos) (Bs t):=by
 intro pins s σ H Q I L;refine wpAny_List_spliced (thn (h pos pins s σ H _ I L) λM G ⟨xs,H1,J,r,z,q⟩=>⟨by rw [<-r.length];exact z,?_⟩);have U:H1 G.heap.objs.size=none:=J.hok.fresh (4:);refine⟨.ref G.heap.objs.size,upd H1 G.heap.objs.size (.lst xs),J.laid (t':=G.toks) (λb u e=>aN _ e) (4:) ?_,rfl,q _ U⟩;exact⟨z,M,0,r,bD _ rfl⟩
end
abbrev Sp:=List V->Hp->VK->XK->Prop
abbrev CXT:=List Env->Hp->Shared->XK->Value->Shared->Prop
structure Env0(P:Program)(w:World)(K:Fg)(mg:Str->Option Value)(base:Heap)(A:Around)(outer:List Env)(s:Shared)(H:Hp):Prop where
 frames:A.frames=some outer
 mod:Mod K mg base
 bs:∀b o,base.get? b=some o->s.heap.get? b=some o/\H b=none
 bsz:base.objs.size<=s.heap.objs.size
 funs:s.heap.FunFrames base outer
 frf:∀b∈frs outer,H b=none
 hok:HOk P w H s.heap
 bare:AllBare s.gens
def CE(outer:List Env)(P:Program)(w:World)(H:Hp)(s:Shared)(Q:VK)(u:Value)(s':Shared):Prop:=
 ∃v H',s'.os=s.os/\AllBare s'.gens/\Un (frs outer) [] H H' s.heap s'.heap/\HOk P w H' s'.heap/\RelV v u/\Q v H'
def CR(CX:CXT)(outer:List Env)(P:Program)(w:World)(H:Hp)(s:Shared)(Q:VK)(E:XK)(r:Result)(s':Shared):Prop:=
 match r with
 | .ok (.ret u)=>CE outer P w H s Q u s'
 | .ok _=>False
 | .error e=>CX outer H s E e s'
structure FnOk(P:Program)(w:World)(K:Fg)(mg:Str->Option Value)(base:Heap)(CX:CXT)(k:Nat)(f:Addr)(fd:FuncData)(ps:List Str)(sp:Sp):Prop where
 len:∀vs H Q E,sp vs H Q E->vs.length=ps.length
 run:∀(A:Around)(outer:List Env)(s:Shared)(H:Hp)(args:Args)(us:List Value)(vs:List V)(Q:VK)(E:XK),Room k A->Env0 P w K mg base A outer s H->BindsTo s fd args (ps.zip us)->Vals vs us->sp vs H Q E->
  codeAny (model P w) A (.call (.ref f) args) (CR CX outer P w H s Q E) s
theorem Env0.make{K:Fg}(e:Env0 P w K mg base A outer s H)(C:Addr)(us:List Value)(kw:List (Str×Value)):
 Env0 P w K mg base (A.under (.builtin "type.__call__" ⟨.ref C::us,kw⟩)) outer s H:=⟨by first | exact e.frames | (simpa [Around.under,Code.envs,Code.isFrame,pushEnvs]using e.frames),e.mod,e.bs,e.bsz,e.funs,e.frf,e.hok,e.bare⟩
section
variable{pins:List (10:)}
theorem Inv.env0(I:Inv X pins σ H s):Env0 X.prog X.w X.K X.mg X.base X.A X.stack s H:=
 ⟨I.ok.frames,I.ok.mod,I.bs,bT I.ok.bsz I.sz,I.stack,I.stkFree,I.hok,I.bare⟩
theorem Inv.after{Q:VK}(I:Inv X pins σ H s)(h:CE X.stack X.prog X.w H s Q u s'):EP X pins σ Q u s':=by
 obtain⟨v,H',M,G,un,J,r,q⟩:=h;obtain⟨U,g,d,t,L⟩:=s';obtain rfl:L=s.os:=M;exact⟨v,H',I.call (h':=U) (g':=g) (d':=d) (t':=t) (ch:=[]) un J G (λb z=>absurd z (16:)),r,q⟩
end
def Y3(sp:Sp)(dvs:List V)(E:XK)(t:TA):TE:=λσ H Q=>t σ H λvs H1=>sp (vs++dvs) H1 Q E
def AI(C:Addr)(m:Str)(sp:Sp)(dvs:List V)(E:XK)(ta:TE)(t:TA):TE:=λσ H Q=>ta σ H λx H1=>∃a dx fs,x=.ref a/\H1 a=some (.ins C dx fs)/\fs.lookup m=none/\
 t σ H1 λvs H2=>sp (x::(vs++dvs)) H2 Q E
def Bf(C:Addr)(sp:Sp)(dvs:List V)(E:XK)(t:TA):TE:=λσ H Q=>t σ H λvs H1=>∀x dx,H1 x=none->H1 dx=none->dx≠x->
 sp (.ref x::(vs++dvs)) (upd (upd H1 dx (.own x)) x (.ins C dx [])) (λv H2=>v=.non/\Q (.ref x) H2) E
def Binds(K:Fg)(fd:FuncData)(ps:List Str)(ds:List Value):Prop:=
 ∀(s:Shared)(us:List Value),K.In s.heap->(us++ds).length=ps.length->BindsTo s fd ⟨us,[]⟩ (ps.zip (us++ds))
theorem Binds.all{K:Fg}(h:∀us:List Value,us.length=ps.length->bindArgs fd ⟨us,[]⟩=pure (ps.zip us)):Binds K fd ps []:=λs us _ G=>by
 rw [dG]at G ⊢;exact .of_eq (h us G)
def UL(CX:CXT)(X:Cx)(E:XK):Prop:=∀(pins:List (10:))(σ:St)(H:Hp)(s:Shared)(e:Value)(s':Shared),Inv X pins σ H s->CX X.stack H s E e s'->X.xe e s'
section
variable{CX:CXT}{k:Nat}{C:Addr}{sp:Sp}{ds:List Value}{E:XK}{x m:Str}{p:Pos}{t:TA}
theorem Pc{pins:List (10:)}{σ:St}{H:Hp}{s:Shared}{Q:VK}{us:List Value}{vs:List V}(F:FnOk X.prog X.w X.K X.mg X.base CX k f fd ps sp)(hr:Room k X.A)(hb:Binds X.K fd ps ds)(hd:Vals dvs ds)(hx:UL CX X E)
 (I:Inv X pins σ H s) (r:Vals vs us) (h:sp (vs++dvs) H Q E):wpAny (6:) X.A (call (.ref f) us) (EP X pins σ Q) X.xe s:=by
 have J:Vals (vs++dvs) (us++ds):=r.append hd;have L:(us++ds).length=ps.length:=by rw [<-J.length];exact F.len _ _ _ _ h
 refine wpAny_call (codeAny_mono (F.run X.A X.stack s H ⟨us,[]⟩ (us++ds) (vs++dvs) Q E hr I.env0 (hb s us I.kIn L) J h) λr s' G=>?_);cases r with
 | error e=>exact hx pins σ H s e s' I G
 | ok M=>
  cases M with
  | ret u=>exact I.after G
  | next=>exact False.elim G
  | brk=>exact False.elim G
  | cont=>exact False.elim G
theorem PH(F:FnOk X.prog X.w X.K X.mg X.base CX k f fd ps sp)(hr:Room k X.A)(hg:Gl X x)(hm:X.mg x=some (.ref f))(hk:PySem.W.keepIn X.K (.ref f)=true)(hb:Binds X.K fd ps ds)(hd:Vals dvs ds)(hx:UL CX X E)
 (ha:PA X (e::es) t) (hdb:(x==("__debug__":Str))=false:=by decide) (he:starEach (e::es) X.env=(false,eval e X.env)::starEach es X.env:=by rfl) (hpl:(backTo pos (starEach es X.env)).any (·.1)=false:=by rfl):
 PE X (.Call (.Name x p) (e::es) [] pos) (Y3 sp dvs E t):=by
 intro pins s σ H Q I h;refine eV (U6 I hg hm ?_ hdb);refine PySem.W.callWith_K (h₀:=X.base) I.ok.mod.kin hk (thn (ha pos pins s σ H _ I h) λJ L ⟨vs,H1,G,r,q⟩=>⟨G.kIn,?_⟩) he hpl;exact Pc F hr hb hd hx G r q
theorem W4(he:PE X o ta)(c:Cls X.K C)(hm:Meth X.K C m f)(F:FnOk X.prog X.w X.K X.mg X.base CX k f fd ps sp)(hr:Room k X.A)(hb:Binds X.K fd ps ds)(hd:Vals dvs ds)(hx:UL CX X E)
 (ht:eval (.Call (.Attribute o m apos) [] [] pos) X.env=(do
  let ov <-eval o X.env
  standAt apos.atName
  let(f,first) <-holding [ov] (getMethod ov m pl)
  callWith pos f first (backTo pos (starEach [] X.env)) (backToKw pos (keywordEach [] X.env))):=by rfl):
 PE X (.Call (.Attribute o m apos) [] [] pos) (AI C m sp dvs E ta YF):=by
 intro pins s σ H Q I h;refine PySem.W.methodCall_KW (pl:=pl) (thn (he pins s σ H _ I h) λu M ⟨x,H1,G,J,a,dx,fs,ex,L,l,q⟩=>?_) ht;subst ex;obtain rfl:u=Value.ref a:=J;refine Gu G L c hm l ?_;exact PySem.W.callWith_K0 (first:=[.ref a]) G.kIn hm.kp (Pc (us:=[.ref a]) (vs:=[.ref a]) F hr hb hd hx G (.cons rfl .nil) q)
structure Mk(K:Fg)(C f:Addr):Prop where
 makes:PySem.W.makesIn K C=true
 init:PySem.W.findIn K (.ref C) "__init__"=some (some (.ref f))
 fn:PySem.W.isFn K (.ref f)=true
 kp:PySem.W.keepIn K (.ref C)=true
theorem OP{pins:List (10:)}{Q:VK}{vs:List V}(M:Mk X.K C f)(F:FnOk X.prog X.w X.K X.mg X.base CX k f fd ps sp)(hr:Room (k+1) X.A)(hb:Binds X.K fd ps ds)(hd:Vals dvs ds)
 (hx:UL CX X E) (I:Inv X pins σ H s) (r:Vals vs us)
 (h:∀x dx,H x=none->H dx=none->dx≠x->sp (.ref x::(vs++dvs)) (upd (upd H dx (.own x)) x (.ins C dx [])) (λv H2=>v=.non/\Q (.ref x) H2) E):
 wpAny (6:) X.A (call (.ref C) us) (EP X pins σ Q) X.xe s:=by
 have L:=h (20:) s.heap.objs.size (I.hok.fresh (Nat.le_succ _)) (I.hok.fresh (4:)) (bC (Nat.lt_succ_self _));have J:=Inv.made (C:=C) I;have U:Vals (V.ref (20:)::(vs++dvs)) (Value.ref (20:)::(us++ds)):=.cons rfl (r.append hd);have Y:(Value.ref (20:)::us++ds).length=ps.length:=by
  have e:=U.length;rw [F.len _ _ _ _ L]at e;exact e.symm
 refine wpAny_call (Ow (f:=f) I.kIn M.makes M.init (fk.mp M.fn) (codeAny_mono (F.run _ X.stack _ _ ⟨Value.ref (20:)::us,[]⟩ (Value.ref (20:)::(us++ds)) _ _ E (hr.make C us [])
  (J.env0.make C us []) (hb _ (Value.ref (20:)::us) J.kIn Y) U L) λr s' G=>?_))
 cases r with
 | error e=>exact hx pins σ _ _ e s' J G
 | ok Z=>
  cases Z with
  | ret u=>
   obtain⟨v,H',I3,rv,ev,q3⟩:=J.after G;subst ev;exact⟨rv,⟨V.ref (20:),H',I3,rfl,q3⟩⟩
  | next=>exact False.elim G
  | brk=>exact False.elim G
  | cont=>exact False.elim G
theorem Rv(M:Mk X.K C f)(F:FnOk X.prog X.w X.K X.mg X.base CX k f fd ps sp)(hr:Room (k+1) X.A)(hg:Gl X x)(hm:X.mg x=some (.ref C))(hb:Binds X.K fd ps ds)(hd:Vals dvs ds)(hx:UL CX X E)
 (ha:PA X (e::es) t) (hdb:(x==("__debug__":Str))=false:=by decide) (he:starEach (e::es) X.env=(false,eval e X.env)::starEach es X.env:=by rfl) (hpl:(backTo pos (starEach es X.env)).any (·.1)=false:=by rfl):
 PE X (.Call (.Name x p) (e::es) [] pos) (Bf C sp dvs E t):=by
 intro pins s σ H Q I h;refine eV (U6 I hg hm ?_ hdb);refine PySem.W.callWith_K (h₀:=X.base) I.ok.mod.kin M.kp (thn (ha pos pins s σ H _ I h) λJ L ⟨vs,H1,G,r,q⟩=>⟨G.kIn,?_⟩) he hpl;exact OP M F hr hb hd hx G r q
end
def PK(X:Cx)(kws:List Keyword)(t:TA):Prop:=
 ∀(pos:Pos)(pins:List (10:))(s:Shared)(σ:St)(H:Hp)(Q:List V->Hp->Prop),Inv X pins σ H s->t σ H Q->wpAny (6:) X.A (evalAll ((backToKw pos (keywordEach kws X.env)).map (·.2))) (AP X pins σ Q) X.xe s
section
variable{CX:CXT}{k:Nat}{C:Addr}{ks:List Str}{sp:Sp}{E:XK}{x m:Str}{p kpos:Pos}{t:TA}{nm:Option Str}
theorem Tr:PK X [] YF:=λ_ _ _ _ H Q I h=>wpAny_evalAll_nil ⟨[],H,I,.nil,h⟩
theorem R7(ha:PE X e te)(hr:PK X kws t):PK X (⟨nm,e,kpos⟩::kws) (QZ te t):=by
 intro pos pins s σ H Q I h;show wpAny _ _ (evalAll ((do let v <-eval e X.env;standAt pos;pure v)::(backToKw pos (keywordEach kws X.env)).map (·.2))) _ _ s;refine wpAny_evalAll_cons (aB (thn (ha pins s σ H _ I h) λu G ⟨x,H1,J,L,M⟩=>aB (wpAny_standAt (21:))));exact thn (hr pos pins G σ H1 _ J M) λus s2 ⟨xs,H2,U,Y,Z⟩=>⟨x::xs,H2,U,.cons L Y,Z⟩
variable{g:List Value->List Value->List Value}{gV:List V->List V->List V}
end
structure FnScope(N P:List Str)(sc:Scope):Prop where
 kind:sc.kind=.function
 co:sc.isCoroutine=false
 gen:sc.isGenerator=false
 nd:N.Nodup
 pre:N.take P.length=P
 par:∀x∈P,sc.names.lookup x=some .local\/sc.names.lookup x=some .cell
 nofree:∀y∈sc.names,y.2≠.free
theorem Xs{x:Str}:∀{binds:List (Str×Value)}{m:Str->Option Value},(∀v,(x,v)∉binds)->bindL kindOf binds m x=m x
 | [],_,_=>rfl
 | (n,v)::r,m,h=>by
  unfold bindL;rw [Xs λw G=>h w (23:)];split
  .have:x≠n:=by rintro rfl;exact h v aR
   simp [this]
  .rfl
theorem XJ{x:Str}:∀{binds:List (Str×Value)}{m:Str->Option Value},(∀v,(x,v)∉binds)->bindC kindOf binds m x=m x
 | [],_,_=>rfl
 | (n,v)::r,m,h=>by
  unfold bindC;rw [XJ λw G=>h w (23:)];split
  .rfl
  .have:x≠n:=by rintro rfl;exact h v aR
   simp [this]
theorem XX{x:Str}{v:Value}:∀{P:List Str}{vs:List Value}{i:Nat}{m:Str->Option Value},P.Nodup->P[i]?=some x->vs[i]?=some v->kindOf x=some .local->
 bindL kindOf (P.zip vs) m x=some v
 | [],_,_,_,_,h,_,_=>by simp at h
 | _::_,[],_,_,_,_,h,_=>by simp at h
 | p::P,w::vs,0,m,nd,h1,h2,hk=>by
  simp at h1 h2;subst h1;subst h2;show bindL kindOf ((p,w)::P.zip vs) m p=_;unfold bindL;rw [Xs λv G=>(fe.mp nd).1 (List.of_mem_zip G).1,aG hk];simp
 | p::P,w::vs,i+1,m,nd,h1,h2,hk=>by
  show bindL kindOf ((p,w)::P.zip vs) m x=_;unfold bindL;exact XX (i:=i) (fe.mp nd).2 (by simpa using h1) (by simpa using h2) hk
theorem XN{x:Str}{v:Value}:∀{P:List Str}{vs:List Value}{i:Nat}{m:Str->Option Value},P.Nodup->P[i]?=some x->vs[i]?=some v->kindOf x≠some .local->
 bindC kindOf (P.zip vs) m x=some v
 | [],_,_,_,_,h,_,_=>by simp at h
 | _::_,[],_,_,_,_,h,_=>by simp at h
 | p::P,w::vs,0,m,nd,h1,h2,hk=>by
  simp at h1 h2;subst h1;subst h2;show bindC kindOf ((p,w)::P.zip vs) m p=_;unfold bindC;rw [XJ λv G=>(fe.mp nd).1 (List.of_mem_zip G).1,aF hk];simp
 | p::P,w::vs,i+1,m,nd,h1,h2,hk=>by
  show bindC kindOf ((p,w)::P.zip vs) m x=_;unfold bindC;exact XN (i:=i) (fe.mp nd).2 (by simpa using h1) (by simpa using h2) hk
def YM(N:List Str)(vs:List V):St:=vs.map some++List.replicate (N.length-vs.length) none
def Ve(CX:CXT)(P:Program)(w:World)(K:Fg)(mg:Str->Option Value)(base:Heap)(N:List Str)(qual:Str)(scope:Scope)(f:Addr)(cd:Value)(A:Around)(outer:List Env)(s:Shared)(H:Hp)(E:XK):Cx where
 prog:=P
 w:=w
 K:=K
 mg:=mg
 base:=base
 A:=A.deeper (envOfC qual scope s.heap.objs.size f cd)
 N:=N
 s₀:=s
 H₀:=H
 env:=envOfC qual scope s.heap.objs.size f cd
 outer:=outer
 stack:=envOfC qual scope s.heap.objs.size f cd::outer
 ex:=[]
 calm:=true
 fn:=λ_=>true
 pn:=[]
 xe:=λe s'=>wpAny (model P w) (A.deeper (envOfC qual scope s.heap.objs.size f cd)) (leaving (envOfC qual scope s.heap.objs.size f cd) e) (λ_ s''=>CX outer H s E e s'') (λe' s''=>CX outer H s E e' s'') s'
theorem W0{sc:Scope}{n:Nat}{x:Str}(h:sc.names.lookup x=some .cell):∃c,(cellsFrom n sc.names []).lookup x=some c:=by
 have q:=PySem.W.cellsFrom_some sc.names n [] (.inl h);exact Option.isSome_iff_exists.mp q
theorem Mh{CX:CXT}{K:Fg}{N:List Str}{s1:Shared}{E:XK}{vs:List V}
 (S:FnScope N ps scope) (hd:A.handled=none) (e0:Env0 P w K mg base A outer s H) (hl:vs.length=ps.length) (r:Vals vs us)
 (x:InCallC s s.heap.objs.size (bindL (envOfC qual scope s.heap.objs.size f cd).kindOf (ps.zip us) λ_=>none) (cellsFrom (20:) scope.names []) (bindC (envOfC qual scope s.heap.objs.size f cd).kindOf (ps.zip us) λ_=>none) s1):
 Inv (Ve CX P w K mg base N qual scope f cd A outer s H E) [] (YM N vs) H s1:=by
 have Z:ps.length<=N.length:=by have:=congrArg List.length S.pre;rw [cW]at this;lia
 obtain⟨h1,tk,rfl,L⟩:=x.done;have G:∀b:Addr,b∉(Ve CX P w K mg base N qual scope f cd A outer s H E).ex:=λb z=>absurd (show b∈([]:List Addr)from z) (16:);refine⟨⟨e0.mod,S.kind,rfl,rfl,aY _,λy z c h1 h2=>?_,λy hy=>?_,λy c _ h=>?_,λ_=>hd,Around.frames_deeper e0.frames,.inr ⟨rfl,rfl⟩,λb z=>absurd z (G b),e0.bs,e0.bsz,λb _ _=>G b,λb z=>absurd z (G b),e0.funs,e0.frf⟩,rfl,e0.bare,Un.kept L,⟨_,x.toInCall.ns,λi y v h1 h2 h3=>?_⟩,λy c h=>⟨_,x.cell y c h⟩,e0.hok.fresh (4:),λy c h=>?_,λp hp=>absurd (show p∈([]:List (10:))from hp) (16:),e0.hok.kept L,?_⟩
 .exact name_of_addr x.apart (dY h1) (dY h2)
 .have hy:scope.names.lookup y=some .cell\/scope.names.lookup y=some .free:=hy;rcases hy with hy | hy
  .exact W0 hy
  .exact absurd rfl (S.nofree _ (dY hy))
 .exact cY (x.above y c (dY h))
 .have hi:i<vs.length:=by
   unfold YM at h2
   by_cases hi:i<vs.length
   .exact hi
   .rw [fT (by simpa using hi)]at h2;rw [List.getElem?_replicate]at h2;split at h2<;>cases h2
  have U:vs[i]?=some v:=by
   unfold YM at h2;rw [fq (by simpa using hi),aK]at h2;cases e:vs[i]? with
   | none=>rw [e]at h2;cases h2
   | some a=>rw [e]at h2;cases h2;rfl
  obtain⟨u,M,Y⟩:=r.get U;have hp:ps[i]?=some y:=by
   rw [<-S.pre,List.getElem?_take_of_lt (5:)];exact h1
  have J:ps.Nodup:=by rw [<-S.pre];exact S.nd.sublist (List.take_sublist _ _)
  refine⟨u,Y,?_⟩;rcases S.par y (aL hp)with k | k
  .exact .inl ⟨k,XX J hp M k⟩
  .obtain⟨c,e⟩:=W0 (n:=s.heap.objs.size+1) k;refine .inr ⟨.inl k,c,e,?_⟩;have q:=x.cell y c e;rw [XN J hp M (by show scope.names.lookup y≠_;rw [k];decide)]at q;exact q
 .exact e0.hok.fresh (cY (x.above y c (dY h)))
 .unfold YM;show _=N.length;rw [aW,aE,fW];lia
theorem Sy{CX:CXT}{K:Fg}{k:Nat}{params:Arguments}{dV kV:Value}
  {N:List Str} {sp:Sp} (lk:K.lookup f=some ⟨oc,od,.func (PySem.W.fnOf name qual params body scope dV kV doc pm an cdv ct),osl⟩) (hcd:PySem.W.codeIn K cdv qual=true) (S:FnScope N ps scope)
 (len:∀vs H Q E,sp vs H Q E->vs.length=ps.length)
 (hbody:∀(A:Around)(outer:List Env)(s:Shared)(H:Hp)(vs:List V)(Q:VK)(E:XK),Room k (A.deeper (envOfC qual scope s.heap.objs.size f cdv))->sp vs H Q E->
  ∃t,PSs (Ve CX P w K mg base N qual scope f cdv A outer s H E) body t/\t { nx:=λ_ H'=>Q .non H',rt:=Q } (YM N vs) H):
 FnOk P w K mg base CX (k+1) f (PySem.W.fnOf name qual params body scope dV kV doc pm an cdv ct) ps sp:=by
 refine⟨len,λA outer s H ab us vs Q E Z L hb r Y=>?_⟩;have hl:=len _ _ _ _ Y;have KX:K.In s.heap:=L.mod.kin.keeps λb o e=>(L.bs b o e).1;have aa:s.heap.NoLimit:=L.mod.nolimit.keeps λb o e=>(L.bs b o e).1;have M:∀y∈ps.zip us,scope.names.lookup y.1=some .local\/(scope.names.lookup y.1=some .cell/\((cellsFrom (20:) scope.names []).lookup y.1).isSome=true):=λ⟨n,v⟩ hy=>by
  rcases S.par n (List.of_mem_zip hy).1 with q | q
  .exact .inl q
  .exact .inr ⟨q,PySem.W.cellsFrom_some _ _ _ (.inl q)⟩
 refine codeAny_call_function Z.depth (KX _ _ lk) rfl S.co S.gen rfl (PySem.W.codeRec_of KX hcd) (hb _ _ _ _ ?_);refine wpAny_newFunctionEnv_cells S.kind M λenv he s1 x=>?_;subst he;refine⟨aa.keeps x.toInCall.keep,codeAny_func ?_⟩;obtain⟨t,ht,hq⟩:=hbody A outer s H vs Q E (Z.deeper _) Y;have I:Inv (Ve CX P w K mg base N qual scope f cdv A outer s H E) [] (YM N vs) H s1:=Mh S Z.hd L hl r x;refine dC (ht [] s1 (YM N vs) H _ I hq) (λfl s' G=>?_) λe s' G=>G;have fin:∀{U:St}{H':Hp}{v:V}{u:Value},Inv (Ve CX P w K mg base N qual scope f cdv A outer s H E) [] U H' s'->RelV v u->Q v H'->CE outer P w H s Q u s':=
  λ{U H' v u} J rv q=>⟨v,H',J.os,J.bare,J.base,J.hok,rv,q⟩
 cases fl with
 | ret u=>
  obtain⟨v,U,H',J,rv,q⟩:=G;exact fin J rv q
 | next=>
  obtain⟨U,H',J,q⟩:=G;exact fin (v:=V.non) (u:=Value.none) J rfl q
 | brk=>
  obtain⟨_,_,_,q⟩:=G;exact False.elim q
 | cont=>
  obtain⟨_,_,_,q⟩:=G;exact False.elim q
end L2
variable{CX:L2.CXT}{sp:L2.Sp}
namespace L2
open PySem PySem.Spec PyProof.Rows
section
variable{x:Str}{p:Pos}{t:TA}{id T:String}{r:List V->Hp->VK->Prop}
def tCB(r:List V->Hp->VK->Prop)(t:TA):TE:=λσ H Q=>t σ H λvs H1=>r vs H1 Q
theorem Ql(hc:Q4 X (.builtin id) r)(hg:Gl X x)(hm:X.mg x=none)(hv:bootBuiltins x=some (.builtin id))(ha:PA X (e::es) t)(hn:x≠"__name__":=by decide)(hdb:(x==("__debug__":Str))=false:=by decide)
 (he:starEach (e::es) X.env=(false,eval e X.env)::starEach es X.env:=by rfl) (hpl:(backTo pos (starEach es X.env)).any (·.1)=false:=by rfl):PE X (.Call (.Name x p) (e::es) [] pos) (tCB r t):=by
 intro pins s σ H Q I h;refine eV (Z6 I hg hm hv ?_ hn hdb);exact PyProof.Rows.callWith_builtin1 (thn (ha pos pins s σ H _ I h) λG J ⟨vs,H1,L,M,U⟩=>hc pins J σ H1 vs G Q L M U) he hpl
theorem QN(hc:Q4 X (.type T) r)(hg:Gl X x)(hm:X.mg x=none)(hv:bootBuiltins x=some (.type T))(ha:PA X (e::es) t)(hn:x≠"__name__":=by decide)(hdb:(x==("__debug__":Str))=false:=by decide)
 (he:starEach (e::es) X.env=(false,eval e X.env)::starEach es X.env:=by rfl) (hpl:(backTo pos (starEach es X.env)).any (·.1)=false:=by rfl):PE X (.Call (.Name x p) (e::es) [] pos) (tCB r t):=by
 intro pins s σ H Q I h;refine eV (Z6 I hg hm hv ?_ hn hdb);exact fo (thn (ha pos pins s σ H _ I h) λG J ⟨vs,H1,L,M,U⟩=>hc pins J σ H1 vs G Q L M U) he hpl
end
end L2
namespace HT
open PySem PyProof.Rows
def lexLt:List Int->List Int->Bool
 | [],[]=>false
 | [],_::_=>true
 | _::_,[]=>false
 | x::xs,y::ys=>if x=y then lexLt xs ys else decide (x<y)
theorem lexLt_cons(x y:Int)(xs ys:List Int):lexLt (x::xs) (y::ys)=if x=y then lexLt xs ys else decide (x<y):=rfl
section
open PySem.SeqAt
open PySem.AutoSeq1 (wpAny_loadPart')
open PySem.MeetsSeq PySem.MeetsSeq2 PySem.MeetsSeq3
end
section
variable{E:Value->Shared->Prop}
theorem cat_tup{t:Addr}{vs ws:List Value}(ht:IsTup s.heap t vs.toArray)(hb:IsTup s.heap b ws.toArray)(hv:vs≠[])
 (h1:ws=[]->Q (.ref t) s) (h2:ws≠[]->Q (.ref s.heap.objs.size) { s with heap:=s.heap.push { cls:=.type "tuple",data:=.seq (vs++ws).toArray } })
 (hsz:vs.length+ws.length<=sizeLine):wpAny (9:) A (binaryOp .Add (.ref t) (.ref b)) Q E s:=by
 obtain⟨⟨cls,dd,data,sl⟩,J,hc,n,hd⟩:=id ht;obtain⟨⟨ab,M,aa,U⟩,G,Y,n2,Z⟩:=id hb;simp only at hc hd Y Z;subst hc hd Y Z;have e:vs.toArray++ws.toArray=(vs++ws).toArray:=by simp
 by_cases L:ws=[]
 .exact concat_meets ⟨_,J,rfl⟩ ⟨_,G,rfl⟩ noFill_tuple_add seq_tuple_add PySem.F.slot_tuple_add PySem.F.entry_tuple_add (gP _ _)
   (tuple_addW1 t b vs.toArray ws.toArray n n2 dd M sl U (by simpa using hv) (by simp [L])) ⟨J,G,h1 L⟩
 .refine concat_meets ⟨_,J,rfl⟩ ⟨_,G,rfl⟩ noFill_tuple_add seq_tuple_add PySem.F.slot_tuple_add PySem.F.entry_tuple_add (gP _ _)
   (tuple_addW2 t b vs.toArray ws.toArray n n2 dd M sl U (by simpa using hv) (by simpa using L) (by rw [aZ,aZ];exact hsz)) ⟨J,G,?_⟩
  rw [e];exact h2 L
def sIx(n d:Nat):Option Int->Nat
 | none=>d
 | some v=>if v<0 then(v+(n:Int)).toNat else min v.toNat n
theorem sIx_none(n d:Nat):sIx n d none=d:=rfl
theorem sIx_nat(n d k:Nat):sIx n d (some (k:Int))=min k n:=by
 show(if(k:Int)<0 then((k:Int)+(n:Int)).toNat else min (k:Int).toNat n)=min k n;rw [aF (5:),a_]
theorem TC(n d:Nat)(hd:d<=n)(o:Option Int):sIx n d o<=n:=by
 cases o with
 | none=>exact hd
 | some v=>
  show(if v<0 then(v+(n:Int)).toNat else min v.toNat n)<=n
  by_cases G:v<0
  .rw [aG G];lia
  .rw [aF G];exact Nat.min_le_right _ _
theorem GA(v:Int)(n d:Nat):(if v<0 then max (v+(n:Int)) 0 else min v (n:Int))=((sIx n d (some v):Nat):Int):=by
 show(if v<0 then max (v+(n:Int)) 0 else min v (n:Int))=(((if v<0 then(v+(n:Int)).toNat else min v.toNat n):Nat):Int)
 by_cases G:v<0
 .simp only [aG G];lia
 .simp only [aF G];lia
theorem VV(lo hi:Option Int)(n:Nat):Builtin.Slice.sliceAdjust lo hi 1 (n:Int)=(((sIx n 0 lo:Nat):Int),((sIx n n hi:Nat):Int)):=by
 have h1:¬((1:Int)<0):=by lia
 unfold Builtin.Slice.sliceAdjust;simp only [h1,bU];refine Prod.ext ?_ ?_
 .cases lo with
  | none=>rfl
  | some v=>exact GA v n 0
 .cases hi with
  | none=>rfl
  | some v=>exact GA v n n
theorem Gv(i j:Nat):Builtin.Slice.slicePlaces (i:Int) (j:Int) 1=j-i:=by
 unfold Builtin.Slice.slicePlaces;have h1:(1:Int)>0:=by lia
 simp only [h1,b_,Int.ediv_one];split<;>lia
theorem Jx{v:Value}{o:Option Int}{Q:Option Int->Shared->Prop}(p:IsPart v o)(h:Q o s):wpAny (9:) A (Builtin.Slice.slicePartIndex v) Q E s:=by
 cases p with
 | none=>exact slicePart_none h
 | int i t=>exact slicePart_int h
theorem ZY{sl:Addr}{lo:Option Int}{Q:Int×Int×Nat->Shared->Prop}(hs:s.heap.IsSliceOf sl vl vu .none)(pl:IsPart vl lo)(pu:IsPart vu hi)
 (h:Q (((sIx n 0 lo:Nat):Int),1,sIx n n hi-sIx n 0 lo) s):wpAny (9:) A (Builtin.Slice.sliceApplied (.ref sl) (pure (n:Int))) Q E s:=by
 obtain⟨M,G,L,J⟩:=id hs;unfold Builtin.Slice.sliceApplied Builtin.Slice.sliceFields;refine aB (aB (cC G J (x:=vl) rfl (aB (cC G J (x:=vu) rfl (aB (cC G J (x:=.none) rfl (21:)))))));refine aB (slicePart_none ?_);show wpAny _ _ (if((1:Int)==0)=true then _ else _) _ _ s;rw [aF (12:)];refine aB (Jx pl (aB (Jx pu (aB (21:)))));show wpAny _ _ (match Builtin.Slice.sliceAdjust lo hi 1 (n:Int)with | (lo,hi)=>pure (lo,(1:Int),Builtin.Slice.slicePlaces lo hi 1)) _ _ s;rw [VV lo hi n];show wpAny _ _ (pure (((sIx n 0 lo:Nat):Int),(1:Int),Builtin.Slice.slicePlaces ((sIx n 0 lo:Nat):Int) ((sIx n n hi:Nat):Int) 1)) _ _ s;rw [Gv];exact aH h
theorem NH(xs:Array Value)(i k:Nat):((List.range k).filterMap λ(m:Nat)=>xs[((i:Int)+(m:Int)*1).toNat]?).toArray=((xs.toList.drop i).take k).toArray:=by
 have e:(λ(m:Nat)=>xs[((i:Int)+(m:Int)*1).toNat]?)=λm=>xs[i+m]?:=by
  funext m
  have:((i:Int)+(m:Int)*1).toNat=i+m:=by lia
  rw [this]
 rw [e];have:=pick_run xs i k;rw [List.filterMap_map]at this;have G:((λx=>xs[x]?)∘λx=>i+x)=λm=>xs[i+m]?:=rfl;rw [G]at this;rw [this]
theorem getItem_tuple_cut{t sl:Addr}{lo:Option Int}(ht:IsTup s.heap t items)(hs:s.heap.IsSliceOf sl vl vu .none)(pl:IsPart vl lo)(pu:IsPart vu hi)
 (hw:¬(sIx items.size 0 lo=0/\sIx items.size items.size hi=items.size))
 (h:Q (.ref s.heap.objs.size) { s with heap:=s.heap.push { cls:=.type "tuple",data:=.seq ((items.toList.drop (sIx items.size 0 lo)).take (sIx items.size items.size hi-sIx items.size 0 lo)).toArray } })
 (hsz:items.size<=sizeLine):wpAny (9:) A (getItem (.ref t) (.ref sl)) Q E s:=by
 have G:sizeOk (.seq ((items.toList.drop (sIx items.size 0 lo)).take (sIx items.size items.size hi-sIx items.size 0 lo)).toArray):=by
  show((items.toList.drop (sIx items.size 0 lo)).take (sIx items.size items.size hi-sIx items.size 0 lo)).toArray.size<=sizeLine;rw [aZ,cW,List.length_drop,eS];lia
 have hj:sIx items.size items.size hi<=items.size:=TC _ _ (4:) hi;obtain⟨Y,J,L,Z⟩:=id hs;have M:s.TypeIs (.ref sl) "slice":=⟨Y,J,L⟩;unfold getItem
 try with_reducible refine cB ?_
 first | refine aB (21:) | skip
 refine aB (wpAny_sequenceKey ht.typeIs (12:) ?_);refine aB (dU (name:=Str.ofString "__getitem__") ht.typeIs fm
  (dA fm ht.typeIs entry_tuple_getitem ?_ (args_tuple_getitem _ _)))
 show wpAny _ _ (Builtin.Tuple.tupleItemsOf (.ref t)>>=_) _ _ s;refine aB (tupleItemsOf_ ht ?_);refine aB (fh M ?_);rw [aG (12:)];refine aB (ZY hs pl pu ?_);have U:¬((24:)=true):=by
  intro q;rw [bS,bS]at q;have q1:((sIx items.size 0 lo:Nat):Int)=0:=eq_of_beq q.1.1;have q2:sIx items.size items.size hi-sIx items.size 0 lo=items.size:=eq_of_beq q.2;exact hw ⟨by lia,by lia⟩
 show wpAny _ _ (if(24:)=true then _ else _) _ _ s;rw [aF U,NH]
 first
  | exact aB (m:=Builtin.Tuple.tupleExact _) (cN (aH ⟨_,rfl,aH h⟩) G)
  | exact aB (m:=Builtin.Tuple.tupleExact _) (cN (aB (aH (aH ⟨_,rfl,aH h⟩))) G)
  | exact aB (aB (m:=Builtin.Tuple.tupleExact _) (cN (aH (aH ⟨_,rfl,aH h⟩)) G))
  | exact aB (aB (m:=Builtin.Tuple.tupleExact _) (cN (aH ⟨_,rfl,aH h⟩) G))
end
end HT
namespace L2
open PySem PySem.Spec PyProof.Rows
abbrev TO:=St->Hp->(Option Int->Hp->Prop)->Prop
def PO(X:Cx)(e:Option Expr)(t:TO):Prop:=
 ∀(pins:List (10:))(s:Shared)(σ:St)(H:Hp)(Q:Option Int->Hp->Prop),Inv X pins σ H s->t σ H Q->
  wpAny (6:) X.A (evalPart e X.env) (λu s'=>∃o H',Inv X pins σ H' s'/\IsPart u o/\Q o H') X.xe s
def PJ:TO:=λ_ H Q=>Q none H
def A0(t:TE):TO:=λσ H Q=>t σ H λx H1=>∃i,x=.int i/\Q (some i) H1
section
variable{lo hi:Option Expr}{tl th:TO}
theorem G8:PO X none PJ:=by
 intro pins s σ H Q I h;rw [evalPart_none];exact aH ⟨none,H,I,.none,h⟩
theorem GP(h:PE X e te):PO X (some e) (A0 te):=by
 intro pins s σ H Q I G;rw [evalPart_some];refine thn (h pins s σ H _ I G) λu U ⟨x,H1,J,L,M⟩=>?_;obtain⟨i,rfl,q⟩:=M;obtain⟨t,rfl⟩:=L;exact⟨some i,H1,J,.int i t,q⟩
def SlR(X:Cx)(r:V->Option Int->Option Int->Hp->VK->Prop):Prop:=
 ∀(pins:List (10:))(s:Shared)(σ:St)(H:Hp)(x:V)(v vl vu:Value)(lo hi:Option Int)(sl:Addr)(Q:VK),Inv X pins σ H s->RelV x v->s.heap.IsSliceOf sl vl vu .none->IsPart vl lo->IsPart vu hi->r x lo hi H Q->
  ∃T id,typeLookup (.type T) "__getitem__"=pure (some (.builtin id))/\s.TypeIs v T/\wpAny (6:) X.A (getItem v (.ref sl)) (EP X pins σ Q) X.xe s
def tSl(r:V->Option Int->Option Int->Hp->VK->Prop)(te:TE)(tl th:TO):TE:=λσ H Q=>te σ H λx H1=>tl σ H1 λl H2=>th σ H2 λu H3=>r x l u H3 Q
theorem W8{r:V->Option Int->Option Int->Hp->VK->Prop}(hr:SlR X r)(he:PE X e te)(hl:PO X lo tl)(hu:PO X hi th):PE X (.Subscript e (.Slice lo hi none p2) pos) (tSl r te tl th):=by
 intro pins s σ H Q I h;refine Subscript_ (thn (he pins s σ H _ I h) λv U ⟨x,H1,Y,Z,q1⟩=>?_);refine wpAny_Slice (thn (hl pins U σ H1 _ Y q1) λJ s2 ⟨l,H2,I2,pl,q2⟩=>thn (hu pins s2 σ H2 _ I2 q2) λL G ⟨u,M,I3,pu,q3⟩=>?_);rw [evalPart_none];refine aH ?_;have I4:Inv X pins σ M { G with heap:=G.heap.push { cls:=.type "slice",data:=.fields #[J,L,.none] } }:=I3.kept (t':=G.toks) λb ob q=>aN _ q;obtain⟨T,id,hT,ht,hg⟩:=hr pins { G with heap:=G.heap.push { cls:=.type "slice",data:=.fields #[J,L,.none] } } σ M x v J L l u G.heap.objs.size Q I4 Z (Heap.IsSliceOf.new ..) pl pu q3;show wpAny (6:) X.A (subscriptTail e (.Slice lo hi none p2) v (.ref G.heap.objs.size)) (EP X pins σ Q) X.xe { G with heap:=G.heap.push { cls:=.type "slice",data:=.fields #[J,L,.none] } };exact tail_any (ops:=[.ref G.heap.objs.size,v]) ht hT hg (by with_unfolding_all rfl)
def cutV(xs:List V)(lo hi:Option Int):List V:=(xs.drop (HT.sIx xs.length 0 lo)).take (HT.sIx xs.length xs.length hi-HT.sIx xs.length 0 lo)
theorem UU(xs:List V)(lo hi:Option Int):(cutV xs lo hi).length<=xs.length:=by
 unfold cutV;rw [cW,List.length_drop];lia
def CP(K:Fg):V->Option Int->Option Int->Hp->VK->Prop:=λx lo hi H Q=>∃a xs,x=.ref a/\SqT K H a xs/\
 ¬(HT.sIx xs.length 0 lo=0/\HT.sIx xs.length xs.length hi=xs.length)/\∀p,H p=none->Q (.ref p) (upd H p (.tup (cutV xs lo hi)))
theorem Ad:SlR X (CP X.K):=by
 intro pins s σ H x v vl vu lo hi sl Q I L M U Y h;obtain⟨a,xs,rfl,Z,hw,q⟩:=h;cases L;obtain⟨its,r,J,hz⟩:=I.tuple Z;have G:its.toArray.size=xs.length:=by rw [aZ];exact r.length.symm
 refine⟨"tuple",_,fm.lookup,J.typeIs,?_⟩;refine HT.getItem_tuple_cut J M U Y (by rw [G];exact hw) ?_ (by rw [G];exact hz);rw [G];refine⟨.ref s.heap.objs.size,_,I.laid (t':=s.toks) (o:=.tup (cutV xs lo hi)) (λb ob q=>aN _ q) (4:) ?_,rfl,q _ (I.hok.fresh (4:))⟩;exact⟨bT (UU xs lo hi) hz,_,(r.drop (HT.sIx xs.length 0 lo)).take (HT.sIx xs.length xs.length hi-HT.sIx xs.length 0 lo),IsTup.new _ _⟩
def Bc(K:Fg):R2:=λx y H Q=>∃a b xs ys,x=.ref a/\y=.ref b/\SqT K H a xs/\SqT K H b ys/\xs≠[]/\xs.length+ys.length<=sizeLine/\
 (ys=[]->Q (.ref a) H)/\(ys≠[]->∀p,H p=none->Q (.ref p) (upd H p (.tup (xs++ys))))
theorem Vals.nil_iff(r:Vals xs us):us=[]↔xs=[]:=by
 cases r with
 | nil=>simp
 | cons _ _=>simp
theorem PX:OpR X (binaryOp .Add) (Bc X.K):=by
 intro pins s σ H x y v u Q I L M h;obtain⟨a,b,xs,ys,rfl,rfl,U,Y,Z,hz,q1,q2⟩:=h;cases L;cases M;obtain⟨its,J,p1,_⟩:=I.tuple U;obtain⟨aa,G,p2,_⟩:=I.tuple Y;refine HT.cat_tup p1 p2 (λz=>Z (J.nil_iff.mp z)) (λz=>⟨.ref a,H,I,rfl,q1 (G.nil_iff.mp z)⟩) (λz=>?_) (by rw [<-J.length,<-G.length];exact hz);refine⟨.ref s.heap.objs.size,_,I.laid (t':=s.toks) (o:=.tup (xs++ys)) (λb ob q=>aN _ q) (4:) ?_,rfl,q2 (λw=>z (G.nil_iff.mpr w)) _ (I.hok.fresh (4:))⟩;exact⟨by rw [aW];exact hz,_,J.append G,IsTup.new _ _⟩
end
def ixN(n:Nat)(i:Int):Option Nat:=if 0<=i then(if i<n then some i.toNat else none)else if-(n:Int)<=i then some (i+n).toNat else none
def atI{α:Type}(xs:List α)(i:Int):Option α:=(ixN xs.length i).bind λj=>xs[j]?
theorem GU{i:Int}(h:ixN n i=some j):seqIndex? i n=some j/\j<n/\-(n:Int)<=i/\i<n:=by
 unfold ixN at h
 by_cases G:0<=i
 .rw [aG G]at h
  by_cases h1:i<n
  .rw [aG h1]at h;have e:i.toNat=j:=aI h;exact⟨by rw [seqIndex_of G h1,e],by lia,by lia,h1⟩
  .rw [aF h1]at h;cases h
 .rw [aF G]at h
  by_cases h1:-(n:Int)<=i
  .rw [aG h1]at h;have e:(i+n).toNat=j:=aI h;exact⟨by rw [seqIndex_neg (5:) h1,e],by lia,h1,by lia⟩
  .rw [aF h1]at h;cases h
theorem XZ{α:Type}{xs:List α}{i:Int}{v:α}(h:atI xs i=some v):∃j,seqIndex? i xs.length=some j/\xs[j]?=some v/\j<xs.length/\-(xs.length:Int)<=i/\i<xs.length:=by
 unfold atI at h;cases e:ixN xs.length i with
 | none=>rw [e]at h;cases h
 | some j=>
  rw [e]at h;obtain⟨h1,h2,G,J⟩:=GU e;exact⟨j,h1,h,h2,G,J⟩
theorem Qo{α:Type}{xs:List α}{j:Nat}{v:α}(h:xs[j]?=some v):atI xs (j:Int)=some v:=by
 have G:j<xs.length:=(aU.mp h).1;have e:ixN xs.length (j:Int)=some j:=by
  unfold ixN;rw [aG (5:),aG (5:)];simp
 unfold atI;rw [e];exact h
def Lc(b:Expr):Prop:=∀o i,subscripted b false o i=operate [o,i] (getItem o i)
def IxR(X:Cx)(r:R2):Prop:=
 ∀(value slice:Expr)(pins:List (10:))(s:Shared)(σ:St)(H:Hp)(x y:V)(v u:Value)(Q:VK),Inv X pins σ H s->RelV x v->RelV y u->r x y H Q->
  subscripted slice false v u=operate [v,u] (getItem v u)->wpAny (6:) X.A (subscriptTail value slice v u) (EP X pins σ Q) X.xe s
def MtR(X:Cx)(id:String)(r:V->List V->Hp->VK->Prop):Prop:=
 ∀(pins:List (10:))(s:Shared)(σ:St)(H:Hp)(x:V)(xs:List V)(v:Value)(us:List Value)(Q:VK),Inv X pins σ H s->RelV x v->Vals xs us->r x xs H Q->
  wpAny (6:) X.A (call (.builtin id) (v::us)) (EP X pins σ Q) X.xe s
section
variable{a b:Expr}{tb:TE}
theorem Qk{r:R2}(hr:IxR X r)(ha:PE X a ta)(hb:PE X b tb)(hs:Lc b):PE X (.Subscript a b pos) (tOp r ta tb):=by
 intro pins s σ H Q I h;exact Subscript_ (Af ha hb I h λv u G x y H2 J L M q=>hr a b pins G σ H2 x y v u Q J L M q (hs _ _))
def CG(K:Fg):R2:=λx y H Q=>∃p xs i v,x=.ref p/\y=.int i/\SqL K H p xs/\atI xs i=some v/\Q v H
def P1(K:Fg):R2:=λx y H Q=>∃p xs i v,x=.ref p/\y=.int i/\SqT K H p xs/\atI xs i=some v/\Q v H
def Dn:R2:=λx y H Q=>∃z i c,x=.str z/\y=.int i/\z.length<=sizeLine/\atI z.cps.toList i=some c/\Q (.str ⟨#[c]⟩) H
theorem QL:IxR X (CG X.K):=by
 intro value Z pins s σ H x y v u Q I rx ry h L;obtain⟨p,xs,i,z,rfl,rfl,hq,he,q⟩:=h;cases rx;obtain⟨t,rfl⟩:=ry;obtain⟨its,r,G,hz⟩:=I.list hq;obtain⟨j,h1,h2,h3,h4,h5⟩:=XZ he;obtain⟨w,M,U⟩:=r.get h2;have hl:=r.length;have hn:=Us;have fin:EP X pins σ Q w s:=⟨z,H,I,U,q⟩
 by_cases Y:0<=i
 .have J:i.toNat=j:=by
   rw [seqIndex_of Y h5]at h1;exact aI h1
  exact item_listR G.isList Y (5:) (by rw [J];simpa using M) fin L
 .have J:(i+(its.toArray.size:Int)).toNat=j:=by
   rw [seqIndex_neg (5:) h4]at h1;rw [aZ,<-hl];exact aI h1
  exact subscriptTail_builtinR (x:=w) G.isList.typeIs slot_list_getitem.lookup
   (wpAny_getItem_list_neg (Q:=λr s'=>r=w/\EP X pins σ Q r s') G.isList (5:) (by rw [aZ]<;>lia) (5:) (by rw [J];simpa using M) ⟨rfl,fin⟩) L
theorem Qj:IxR X (P1 X.K):=by
 intro value L pins s σ H x y v u Q I M U h Y;obtain⟨p,xs,i,z,rfl,rfl,Z,he,q⟩:=h;cases M;obtain⟨t,rfl⟩:=U;obtain⟨its,r,G,hz⟩:=I.tuple Z;obtain⟨j,h1,h2,h3,h4,h5⟩:=XZ he;obtain⟨w,ew,J⟩:=r.get h2;have hl:=r.length;have hn:=Us;have fin:EP X pins σ Q w s:=⟨z,H,I,J,q⟩;exact subscriptTail_builtinR (x:=w) G.typeIs slot_tuple_getitem.lookup
  (getItem_tuple (j:=j) (Q:=λr s'=>r=w/\EP X pins σ Q r s') G (5:) (5:) (by rw [aZ,<-hl];exact h1) (by simpa using ew) ⟨rfl,fin⟩) Y
theorem SS:IxR X Dn:=by
 intro value G pins s σ H x y v u Q I J L h M;obtain⟨z,i,c,rfl,rfl,hz,U,q⟩:=h;obtain⟨t,rfl⟩:=J;obtain⟨t',rfl⟩:=L;obtain⟨j,h1,h2,h3,Y,Z⟩:=XZ U;have hl:z.cps.toList.length=z.length:=by simp [Str.length]
 rw [hl]at h1 Y Z;have hn:=Us;exact tail_any (typeIs_str s z t) slot_str_getitem.lookup (getItem_str (c:=c) (by
  have e1:decide (i< -(2^63:Int))=false:=bN (5:);have e2:decide (i>=2^63)=false:=bN (5:);rw [e1,e2,Bool.or_false]) (by rw [h1];simpa using h2) ⟨.str ⟨#[c]⟩,H,I.tok _,⟨_,rfl⟩,q⟩) M
theorem Gi(its:List Value)(n j:Nat)(u:Value):Obj.mapSeq (·.setIfInBounds j u) { cls:=.type "list",data:=.seq its.toArray n }={ cls:=.type "list",data:=.seq (its.set j u).toArray n }:=by
 simp [Obj.mapSeq]
theorem Inv.lst{pins:List (10:)}{p:Addr}(I:Inv X pins σ H s)(h:H p=some (.lst xs)):
 ∃(its:List Value)(n:Nat),Vals xs its/\s.heap.get? p=some { cls:=.type "list",data:=.seq its.toArray n }/\xs.length<=sizeLine:=by
 obtain⟨z,its,n,r,e⟩:=I.hok p _ h;exact⟨its,n,r,e,z⟩
theorem Inv.lstUpd{pins:List (10:)}{p:Addr}{n':Nat}{f:Obj->Obj}(I:Inv X pins σ H s)(h:H p=some (.lst xs))
 (ho:s.heap.get? p=some { cls:=.type "list",data:=.seq its.toArray n }) (hf:f { cls:=.type "list",data:=.seq its.toArray n }={ cls:=.type "list",data:=.seq its'.toArray n' }) (r:Vals ys its') (hz:ys.length<=sizeLine) (t:Nat):
 Inv X pins σ (upd H p (.lst ys)) { s with heap:=s.heap.update p f,toks:=t }:=by
 have e:(s.heap.update p f).get? p=some { cls:=.type "list",data:=.seq its'.toArray n' }:=by
  rw [dX f ho (by rw [hf]<;>rfl),hf]
 refine I.write (x:=p) (e:=p) (by rw [h];trivial) (.inl rfl) (λb u G q=>(eR _ _ (aV G)).trans q) ⟨_,e⟩ ?_;exact⟨hz,its',n',r,e⟩
def AV:V->V->V->Hp->(Hp->Prop)->Prop:=λo i v H Q=>∃p xs k j,o=.ref p/\i=.int k/\H p=some (.lst xs)/\ixN xs.length k=some j/\Q (upd H p (.lst (xs.set j v)))
theorem Nj:Cb X AV:=by
 intro pins s σ H o i v ov iv u Q I ro ri rv h;obtain⟨p,xs,k,j,rfl,rfl,hp,hj,q⟩:=h;cases ro;obtain⟨t,rfl⟩:=ri;obtain⟨its,n,r,G,hz⟩:=I.lst hp;obtain⟨h1,h2,M,U⟩:=GU hj;have J:=r.length;have hn:=Us;have Y:Inv X pins σ (upd H p (.lst (xs.set j v))) { s with heap:=s.heap.update p (Obj.mapSeq (·.setIfInBounds j u)) }:=
  I.lstUpd hp G (Gi its n j u) (r.set rv j) (by rw [List.length_set];exact hz) s.toks
 by_cases Z:0<=k
 .have L:k.toNat=j:=by
   rw [seqIndex_of Z U]at h1;exact aI h1
  exact PySem.W.ki_setAt G Z (5:) (by rw [aZ,<-J];exact U) (by rw [L];exact⟨_,Y,q⟩)
 .have L:(k+(its.toArray.size:Int)).toNat=j:=by
   rw [seqIndex_neg (5:) M]at h1;rw [aZ,<-J];exact aI h1
  exact PySem.W.ki_setBack G (5:) (by rw [aZ,<-J];exact M) (5:) (by rw [L];exact⟨_,Y,q⟩)
theorem Wv(lo hi:Option Int)(n:Nat):(sliceBounds lo hi none n).1=((HT.sIx n 0 lo:Nat):Int)/\(sliceBounds lo hi none n).2.1=((HT.sIx n n hi:Nat):Int)/\(sliceBounds lo hi none n).2.2=1:=by
 refine⟨?_,?_,rfl⟩
 .cases lo with
  | none=>simp [sliceBounds,HT.sIx]
  | some i=>
   simp only [sliceBounds,HT.sIx,Option.getD_none,show(1:Int)>0 by decide,b_]
   by_cases h:i<0
   .simp only [h,b_]<;>lia
   .simp only [h,bU]<;>lia
 .cases hi with
  | none=>simp [sliceBounds,HT.sIx]
  | some i=>
   simp only [sliceBounds,HT.sIx,Option.getD_none,show(1:Int)>0 by decide,b_]
   by_cases h:i<0
   .simp only [h,b_]<;>lia
   .simp only [h,bU]<;>lia
theorem Xn(its:List Value)(lo hi:Option Int):slicePick its.toArray lo hi none=((its.drop (HT.sIx its.length 0 lo)).take (HT.sIx its.length its.length hi-HT.sIx its.length 0 lo)).toArray:=by
 obtain⟨h1,h2,G⟩:=Wv lo hi its.toArray.size;unfold slicePick;rw [h1,h2,G];simp only [sliceRange_one,pick_run,aZ]<;>rfl
def BA(K:Fg):V->Option Int->Option Int->Hp->VK->Prop:=λx lo hi H Q=>∃a xs,x=.ref a/\SqL K H a xs/\∀p,H p=none->Q (.ref p) (upd H p (.lst (cutV xs lo hi)))
theorem LA:SlR X (BA X.K):=by
 intro pins s σ H x v vl vu lo hi sl Q I L M U Y h;obtain⟨a,xs,rfl,Z,q⟩:=h;cases L;obtain⟨its,r,J,hz⟩:=I.list Z;have G:=r.length;refine⟨"list",_,slot_list_getitem.lookup,J.isList.typeIs,?_⟩;refine wpAny_getItem_list_slice J.isList M U Y .none (16:) ?_ (by rw [aZ]<;>lia);rw [Xn,<-G];refine⟨.ref s.heap.objs.size,_,I.laid (t':=s.toks) (o:=.lst (cutV xs lo hi)) (λb ob q=>aN _ q) (4:) ?_,rfl,q _ (I.hok.fresh (4:))⟩;exact⟨bT (UU xs lo hi) hz,_,0,(r.drop (HT.sIx xs.length 0 lo)).take (HT.sIx xs.length xs.length hi-HT.sIx xs.length 0 lo),bD _ rfl⟩
def UY:V->Bool
 | .non=>true
 | .bl _=>true
 | .int _=>true
 | .str _=>true
 | _=>false
def eqV:V->V->Bool
 | .non,.non=>true
 | .bl a,.bl b=>a==b
 | .bl a,.int b=>(if a then 1 else 0)==b
 | .int a,.bl b=>a==(if b then 1 else 0)
 | .int a,.int b=>a==b
 | .str a,.str b=>a==b
 | _,_=>false
theorem Ao{x:V}{v:Value}(ry:RelV y u)(rx:RelV x v)(fy:UY y=true)(fx:UY x=true):SeqAt.EqAt A s u v (eqV y x):=by
 cases y with
 | non=>
  cases ry;cases x with
  | non=>cases rx;exact SeqAt.EqAt.same _
  | bl b=>cases rx;exact SeqAt.EqAt.none_bool b
  | int b=>obtain⟨t,rfl⟩:=rx;exact SeqAt.EqAt.none_int b t
  | str b=>obtain⟨t,rfl⟩:=rx;exact SeqAt.EqAt.none_str b t
  | _=>exact absurd (show false=true from fx) aT
 | bl a=>
  cases ry;cases x with
  | non=>cases rx;exact SeqAt.EqAt.bool_none a
  | bl b=>cases rx;exact SeqAt.EqAt.bool_bool a b
  | int b=>obtain⟨t,rfl⟩:=rx;exact SeqAt.EqAt.bool_int a b t
  | str b=>obtain⟨t,rfl⟩:=rx;exact SeqAt.EqAt.bool_str a b t
  | _=>exact absurd (show false=true from fx) aT
 | int a=>
  obtain⟨G,rfl⟩:=ry;cases x with
  | non=>cases rx;exact SeqAt.EqAt.int_none a G
  | bl b=>cases rx;exact SeqAt.EqAt.int_bool a G b
  | int b=>obtain⟨t,rfl⟩:=rx;exact SeqAt.EqAt.int_int a G b t
  | str b=>obtain⟨t,rfl⟩:=rx;exact SeqAt.EqAt.int_str a G b t
  | _=>exact absurd (show false=true from fx) aT
 | str a=>
  obtain⟨G,rfl⟩:=ry;cases x with
  | non=>cases rx;exact SeqAt.EqAt.str_none a G
  | bl b=>cases rx;exact SeqAt.EqAt.str_bool a G b
  | int b=>obtain⟨t,rfl⟩:=rx;exact SeqAt.EqAt.str_int a G b t
  | str b=>obtain⟨t,rfl⟩:=rx;exact SeqAt.EqAt.str_str a G b t
  | _=>exact absurd (show false=true from fx) aT
 | _=>exact absurd (show false=true from fy) aT
def eqU(x:V)(u:Value):Bool:=match u with
 | .none=>eqV .non x
 | .bool b=>eqV (.bl b) x
 | .int i _=>eqV (.int i) x
 | .str z _=>eqV (.str z) x
 | _=>false
theorem Oy{x:V}(r:RelV y u)(f:UY y=true):eqU x u=eqV y x:=by
 cases y with
 | non=>cases r;rfl
 | bl b=>cases r;rfl
 | int i=>obtain⟨t,rfl⟩:=r;rfl
 | str z=>obtain⟨t,rfl⟩:=r;rfl
 | _=>exact absurd (show false=true from f) aT
theorem Ws{x:V}:∀{xs:List V}{us:List Value},Vals xs us->xs.all UY=true->us.any (eqU x)=xs.any λy=>eqV y x
 | _,_,.nil,_=>rfl
 | y::xs,u::us,.cons r t,f=>by
  rw [ff,bS]at f;rw [fg,fg,Oy r f.1,Ws t f.2]
theorem JS{x:V}{v:Value}(rx:RelV x v)(fx:UY x=true):∀{xs:List V}{us:List Value},Vals xs us->xs.all UY=true->∀u∈us,SeqAt.EqAt A s u v (eqU x u)
 | _,_,.nil,_=>λu hu=>by cases hu
 | y::xs,u::us,.cons r t,f=>λG hu=>by
  rw [ff,bS]at f;rcases aM.mp hu with rfl | hu
  .rw [Oy r f.1];exact Ao r rx f.1 fx
  .exact JS rx fx t f.2 G hu
def inV(x:V)(xs:List V):Bool:=xs.any λy=>eqV y x
def rIn(K:Fg)(neg:Bool):R2:=λx y H Q=>∃p xs,y=.ref p/\(SqL K H p xs\/SqT K H p xs)/\UY x=true/\xs.all UY=true/\Q (.bl (if neg then !inV x xs else inV x xs)) H
theorem Wk:OpR X (compareOp .NotIn) (rIn X.K true):=by
 intro pins s σ H x y v u Q I L U h;obtain⟨p,xs,rfl,hq,M,fs,q⟩:=h;cases U;rcases hq with hq | hq
 .obtain⟨its,r,G,hz⟩:=I.list hq;refine SeqAt.notIn_listAt (eqU x) G.isList (λw J=>JS L M r fs w (by simpa using J)) ⟨.bl _,H,I,rfl,?_⟩;rw [show its.toArray.any (eqU x)=its.any (eqU x)by simp,Ws r fs];exact q
 .obtain⟨its,r,G,hz⟩:=I.tuple hq;refine SeqAt.notIn_tupleAt (eqU x) G (λw J=>JS L M r fs w (by simpa using J)) ⟨.bl _,H,I,rfl,?_⟩;rw [show its.toArray.any (eqU x)=its.any (eqU x)by simp,Ws r fs];exact q
theorem Qm:Q4 X (.builtin "len") (λxs H Q=>∃p ys,xs=[.ref p]/\(SqL X.K H p ys\/SqT X.K H p ys)/\Q (.int ys.length) H):=by
 intro pins s σ H xs U Q I r h;obtain⟨p,ys,rfl,hq,q⟩:=h;obtain⟨u,rfl,M⟩:=GE r;cases M;have Y:=Us;rcases hq with hq | hq
 .obtain⟨its,J,L,hz⟩:=I.list hq;have G:=J.length;exact Calls.call_len_list L.isList (by simp only [aZ]<;>lia) ⟨.int ys.length,H,I.tok _,⟨s.toks+1,by rw [aZ,G]⟩,q⟩
 .obtain⟨its,J,L,hz⟩:=I.tuple hq;have G:=J.length;exact len_tuple L (by simp only [aZ]<;>lia) ⟨.int ys.length,H,I.tok _,⟨s.toks+1,by rw [aZ,G]⟩,q⟩
theorem ZA:Q4 X (.type "list") (λxs H Q=>∃p ys,xs=[.ref p]/\(SqL X.K H p ys\/SqT X.K H p ys)/\∀l,H l=none->Q (.ref l) (upd H l (.lst ys))):=by
 intro pins s σ H xs us Q I r h;obtain⟨p,ys,rfl,hq,q⟩:=h;obtain⟨u,rfl,rx⟩:=GE r;cases rx;have fin:∀(its:List Value),Vals ys its->ys.length<=sizeLine->∀(h':Heap)(G:Nat),(∀b o',s.heap.get? b=some o'->h'.get? b=some o')->
  h'.get? s.heap.objs.size=some { cls:=.type "list",dict:=none,data:=.seq its.toArray G,slots:=#[] }->EP X pins σ Q (.ref s.heap.objs.size) { s with heap:=h' }:=λits J hz h' G kp e=>
  ⟨.ref s.heap.objs.size,_,I.laid (t':=s.toks) kp (4:) (show ObjOk X.prog X.w _ h' _ (.lst ys)from⟨hz,its,G,J,e⟩),rfl,q _ (I.hok.fresh (4:))⟩
 rcases hq with hq | hq
 .obtain⟨its,J,L,hz⟩:=I.list hq;have M:=J.length;obtain⟨o,U,Y,n,Z⟩:=L.isList;exact call_list_seq p (.inl rfl) U Y Z (λh' G kp e=>fin its J hz h' G kp e) (by simp only [aZ]<;>lia)
 .obtain⟨its,J,L,hz⟩:=I.tuple hq;have M:=J.length;obtain⟨o,U,Y,n,Z⟩:=L;exact call_list_seq p (.inr rfl) U Y Z (λh' G kp e=>fin its J hz h' G kp e) (by simp only [aZ]<;>lia)
theorem Q6:Q4 X (.type "tuple") (λxs H Q=>∃p ys,xs=[.ref p]/\((SqL X.K H p ys/\∀l,H l=none->Q (.ref l) (upd H l (.tup ys)))\/(SqT X.K H p ys/\Q (.ref p) H))):=by
 intro pins s σ H xs us Q I r h;obtain⟨p,ys,rfl,h⟩:=h;obtain⟨u,rfl,U⟩:=GE r;cases U;rcases h with⟨G,q⟩ | ⟨G,q⟩
 .obtain⟨its,J,L,hz⟩:=I.list G;have Y:=J.length;refine call_tuple_list L.isList (λh' kp=>?_) (by simp only [aZ]<;>lia);have M:Inv X pins σ H { s with heap:=h' }:=I.kept (t':=s.toks) kp;have Z:Inv X pins σ (upd H h'.objs.size (.tup ys)) { s with heap:=h'.push { cls:=.type "tuple",data:=.seq its.toArray } }:=
   M.laid (t':=s.toks) (λb o e=>aN _ e) (4:) (show ObjOk X.prog X.w _ _ _ (.tup ys)from⟨hz,its,J,IsTup.new _ _⟩)
  exact⟨.ref h'.objs.size,_,Z,rfl,q _ (M.hok.fresh (4:))⟩
 .obtain⟨its,J,L,hz⟩:=I.tuple G;exact call_tuple_same L ⟨.ref p,H,I,rfl,q⟩
def tyV(K:Fg)(T:String)(x:V)(H:Hp):Prop:=match x with
 | .str _=>T="str"
 | .int _=>T="int"
 | .ref p=>(T="list"/\ ∃xs,SqL K H p xs)\/(T="tuple"/\ ∃o,K.lookup p=some o/\o.cls=.type "tuple"/\ o.dict=none) \/
  (T="dict"/\ ((∃kvs,H p=some (.dK kvs))\/∃kvs,H p=some (.dT kvs)))\/(T="set"/\ ∃S n,H p=some (.set S n))
 | _=>False
theorem MT{pins:List (10:)}{T:String}{x:V}{v:Value}(I:Inv X pins σ H s)(r:RelV x v)(ty:tyV X.K T x H):
 s.TypeIs v T/\∀a,v=.ref a->∃ob,s.heap.get? a=some ob/\ob.dict=none:=by
 cases x with
 | str z=>
  obtain⟨t,rfl⟩:=r;cases (show T="str" from ty);exact⟨typeIs_str s z t,λ_ e=>nomatch e⟩
 | int i=>
  obtain⟨t,rfl⟩:=r;cases (show T="int" from ty);exact⟨typeIs_int s i t,λ_ e=>nomatch e⟩
 | ref p=>
  cases r;rcases ty with⟨rfl,xs,U⟩ | ⟨rfl,o,G,Y,J⟩ | ⟨rfl,G⟩ | ⟨rfl,S,n,G⟩
  .obtain⟨its,_,M,_⟩:=I.list U;refine⟨M.isList.typeIs,λa e=>?_⟩;cases e;obtain⟨o,n,e,c,J,_⟩:=M;exact⟨o,e,J⟩
  .refine⟨⟨o,I.kIn p o G,Y⟩,λa e=>?_⟩;cases e;exact⟨o,I.kIn _ o G,J⟩
  .have z:∃o,s.heap.get? p=some o/\o.ExactDict:=by
    rcases G with⟨kvs,G⟩ | ⟨kvs,G⟩
    .obtain⟨_,_,_,_,o,_,_,e,ex,_⟩:=I.hok p _ G;exact⟨o,e,ex⟩
    .obtain⟨_,_,_,_,o,_,_,e,ex,_⟩:=I.hok p _ G;exact⟨o,e,ex⟩
   obtain⟨o,e,ex⟩:=z;refine⟨⟨o,e,ex.1⟩,λa L=>?_⟩;cases L;exact⟨o,e,ex.2.1⟩
  .obtain⟨o,_,_,_,e,ex,_⟩:=I.hok p _ G;refine⟨⟨o,e,ex.1⟩,λa L=>?_⟩;cases L;exact⟨o,e,ex.2.1⟩
 | _=>exact False.elim ty
def CS(K:Fg)(T:String)(r:V->List V->Hp->VK->Prop)(to:TE):TE:=λσ H Q=>to σ H λx H1=>tyV K T x H1/\r x [] H1 Q
def tBM(K:Fg)(T:String)(r:V->List V->Hp->VK->Prop)(to:TE)(t:TA):TE:=λσ H Q=>to σ H λx H1=>tyV K T x H1/\t σ H1 λxs H2=>r x xs H2 Q
variable{t:TA}{T id:String}{r:V->List V->Hp->VK->Prop}
theorem Td(pa:PlainAttrs T)(slot:Slot T name id)(hty:typeOf (.builtin id)=pure (.type "method_descriptor"))(hm:MtR X id r)(ho:PE X o to)
 (hbase:attributeBase o name X.env (eval o X.env)=eval o X.env:=by rfl) (hline:(apos.endLine==cpos.line)=true:=by rfl):PE X (.Call (.Attribute o name apos) [] [] cpos) (CS X.K T r to):=by
 intro pins s σ H Q I h;refine wpAny_Call_method0_late hbase hline (thn (ho pins s σ H _ I h) λv L ⟨x,H1,G,J,ty,M⟩=>?_);obtain⟨h1,h2⟩:=MT G J ty;exact⟨T,id,pa,slot,hty,h1,h2,Calls.callWith_builtin rfl (PySem.evalArgs_none (hm pins L σ H1 x [] v [] Q G J .nil M))⟩
theorem Ua(pa:PlainAttrs T)(slot:Slot T name id)(hty:typeOf (.builtin id)=pure (.type "method_descriptor"))(hm:MtR X id r)(ho:PE X o to)(ha:PA X (e::es) t)
 (hbase:attributeBase o name X.env (eval o X.env)=eval o X.env:=by rfl)
 (hfew:((backTo cpos (starEach (e::es) X.env)).all (λx=>!x.1)&&(backToKw cpos (keywordEach [] X.env)).all (λx=>x.1.isSome)
  &&decide ((e::es).length+([]:List Keyword).length+(if([]:List Keyword).isEmpty then 0 else 1)<30))=true:=by rfl)
 (hline:(apos.endLine==cpos.line)=true:=by rfl) (hs:starEach (e::es) X.env=(false,eval e X.env)::starEach es X.env:=by rfl) (hplain:(backTo cpos (starEach es X.env)).any (·.1)=false:=by rfl):
 PE X (.Call (.Attribute o name apos) (e::es) [] cpos) (tBM X.K T r to t):=by
 intro pins s σ H Q I h;refine wpAny_Call_method_late hbase hfew hline rfl (thn (ho pins s σ H _ I h) λv M ⟨x,H1,G,J,ty,U⟩=>?_);obtain⟨h1,h2⟩:=MT G J ty;refine⟨T,id,pa,slot,hty,h1,h2,?_⟩;have L:=ha cpos pins M σ H1 _ G U;rw [hs]at L ⊢;refine Calls.callWith_builtin (by show(false||(backTo cpos (starEach es X.env)).any (·.1))=false;rw [hplain]<;>rfl) (Calls.evalArgs_plain ?_);exact thn L λY Z ⟨vs,H2,I2,r2,q2⟩=>hm pins Z σ H2 x vs v Y Q I2 J r2 q2
end
def MtM(X:Cx)(id:String)(r:V->List V->Hp->VK->Prop):Prop:=
 ∀(pins:List (10:))(s:Shared)(σ:St)(H:Hp)(x:V)(xs:List V)(v:Value)(us:List Value)(Q:VK),Inv X pins σ H s->RelV x v->Vals xs us->r x xs H Q->
  wpAny (6:) X.A (call (.builtin id) (v::us)) (EP X pins σ Q) X.xe s
theorem Vals.one:∀{x:V}{us:List Value},Vals [x] us->∃u,us=[u]/\RelV x u
 | _,_,.cons r .nil=>⟨_,rfl,r⟩
theorem Vals.two:∀{x y:V}{us:List Value},Vals [x,y] us->∃u v,us=[u,v]/\RelV x u/\RelV y v
 | _,_,_,.cons r (.cons q .nil)=>⟨_,_,rfl,r,q⟩
theorem Vals.zero:∀{us:List Value},Vals [] us->us=[]
 | _,.nil=>rfl
theorem Vals.dropLast(h:Vals xs us):Vals xs.dropLast us.dropLast:=by
 induction h with
 | nil=>exact .nil
 | cons r t G=>
  cases t with
  | nil=>exact .nil
  | cons q J=>exact .cons r G
theorem V1{α:Type}(l:List α):l.eraseIdx (l.length-1)=l.dropLast:=by
 induction l with
 | nil=>rfl
 | cons a r G=>
  cases r with
  | nil=>rfl
  | cons b r=>
   have e:(a::b::r).length-1=((b::r).length-1)+1:=by
    have h1:(a::b::r).length=r.length+2:=rfl;have h2:(b::r).length=r.length+1:=rfl;lia
   rw [e,List.eraseIdx_cons_succ,G]
   all_goals rfl
section
variable{pins:List (10:)}
theorem Inv.lset{f:Array Value->Array Value}(I:Inv X pins σ H s)(hH:H l=some (.lst xs))
 (e:s.heap.get? l=some { cls:=.type "list",data:=.seq its.toArray n }) (hf:f its.toArray=its'.toArray) (hv:Vals ys its') (hz:ys.length<=sizeLine):
 Inv X pins σ (upd H l (.lst ys)) { s with heap:=s.heap.update l (Obj.mapSeq f),toks:=t' }:=by
 have q:=PySem.IsL.update e f;rw [hf]at q;refine I.write (x:=l) (e:=l) (by rw [hH];exact trivial) (.inl rfl) (λL u G J=>(eR s.heap (Obj.mapSeq f) (aV G)).trans J) ⟨_,q⟩ ?_;exact⟨hz,its',_,hv,q⟩
theorem Inv.lnew(I:Inv X pins σ H s)(hv:Vals ys its)(hz:ys.length<=sizeLine):
 Inv X pins σ (upd H s.heap.objs.size (.lst ys)) { s with heap:=s.heap.push { cls:=.type "list",data:=.seq its.toArray },toks:=t' }:=
 I.laid (λ_ _ q=>aN _ q) (4:) ⟨hz,its,0,hv,bD _ rfl⟩
theorem Inv.fresh(I:Inv X pins σ H s):H s.heap.objs.size=none:=I.hok.fresh (4:)
theorem Inv.lstM(I:Inv X pins σ H s)(hH:H l=some (.lst xs)):xs.length<=sizeLine/\∃(its:List Value)(n:Nat),Vals xs its/\xs.length=its.length/\s.heap.get? l=some { cls:=.type "list",data:=.seq its.toArray n }:=by
 obtain⟨z,its,n,r,e⟩:=I.hok l _ hH;exact⟨z,its,n,r,r.length,e⟩
theorem OV(h:n<=sizeLine):Builtin.List.listTooLong n=false:=by
 unfold Builtin.List.listTooLong;exact bN (5:)
end
def Lp:V->List V->Hp->VK->Prop:=λx vs H Q=>∃l xs y,x=.ref l/\vs=[y]/\H l=some (.lst xs)/\xs.length<sizeLine/\Q .non (upd H l (.lst (xs++[y])))
theorem Zo:MtM X "list.append" Lp:=by
 intro pins s σ H x vs v U Q I J L h;obtain⟨l,xs,y,rfl,rfl,G,hz,q⟩:=h;cases J;obtain⟨u,rfl,M⟩:=L.one;obtain⟨z,its,n,r,Y,e⟩:=I.lstM G;refine call_meets F.slot_list_append ⟨_,e,rfl⟩ F.entry_list_append (F.args_list_append_2 _ _) (PySem.list_append l its.toArray n u (by rw [aZ];lia)) ⟨e,?_⟩;refine⟨.non,_,I.lset (its':=its++[u]) G e (16:) (r.append (.cons M .nil)) ?_,rfl,q⟩;rw [aW,cM];lia
def G0:V->List V->Hp->VK->Prop:=λx vs H Q=>∃l b xs zs,x=.ref l/\vs=[.ref b]/\H l=some (.lst xs)/\H b=some (.lst zs)/\xs.length+zs.length<=sizeLine/\Q .non (upd H l (.lst (xs++zs)))
theorem Ut:MtM X "list.extend" G0:=by
 intro pins s σ H x vs v us Q I U Y h;obtain⟨l,b,xs,zs,rfl,rfl,L,Z,hz,q⟩:=h;cases U;obtain⟨u,rfl,ru⟩:=Y.one;cases ru;obtain⟨z,its,n,r,hl,e⟩:=I.lstM L;obtain⟨z2,G,n2,r2,aa,e2⟩:=I.lstM Z;have M:its.toArray.size+G.toArray.size<=sizeLine:=by rw [aZ,aZ];lia
 have J:¬(!its.toArray.isEmpty&&Builtin.List.listTooLong (its.toArray.size+G.toArray.size))=true:=by
  rw [OV M,Bool.and_false];exact aT
 refine call_meets F.slot_list_extend ⟨_,e,rfl⟩ F.entry_list_extend (F.args_list_extend_2 _ _)
  (AutoSeq1.list_extend_list_list_0 l its.toArray n b G.toArray n2 J (by rw [aZ];lia) (5:)) ⟨e,e2,?_⟩
 refine⟨.non,_,I.lset (its':=its++G) L e (16:) (r.append r2) ?_,rfl,q⟩;rw [aW];lia
def BO:V->List V->Hp->VK->Prop:=λx vs H Q=>∃l xs y,x=.ref l/\vs=[]/\H l=some (.lst xs)/\xs[xs.length-1]?=some y/\Q y (upd H l (.lst xs.dropLast))
theorem Ps:MtM X "list.pop" BO:=by
 intro pins s σ H x vs v us Q I M U h;obtain⟨l,xs,y,rfl,rfl,G,Y,q⟩:=h;cases M;have J:=U.zero;subst J;obtain⟨z,its,n,r,Z,e⟩:=I.lstM G;obtain⟨u,hu,ru⟩:=r.get Y;have L:its.toArray[its.toArray.size-1]?=some u:=by
  show its.toArray[its.length-1]?=some u;rw [<-fX,<-Z];exact hu
 refine call_meets F.slot_list_pop ⟨_,e,rfl⟩ F.entry_list_pop (F.args_list_pop_1 _) (MeetsSeq.list_pop_last l its.toArray n u L (by rw [aZ];lia)) ⟨e,?_⟩;refine⟨y,_,I.lset (its':=its.dropLast) G e ?_ r.dropLast ?_,ru,q⟩
 .show its.toArray.eraseIdxIfInBounds (its.toArray.size-1)=its.dropLast.toArray;rw [aZ,List.eraseIdxIfInBounds_toArray,V1]
 .rw [fD];lia
def Ot:V->List V->Hp->VK->Prop:=λx vs H Q=>∃l xs,x=.ref l/\vs=[]/\H l=some (.lst xs)/\Q .non (upd H l (.lst []))
theorem NF:MtM X "list.clear" Ot:=by
 intro pins s σ H x vs v U Q I L M h;obtain⟨l,xs,rfl,rfl,G,q⟩:=h;cases L;have J:=M.zero;subst J;obtain⟨z,its,n,r,Y,e⟩:=I.lstM G;refine call_meets F.slot_list_clear ⟨_,e,rfl⟩ F.entry_list_clear (F.args_list_clear_1 _) (AutoSeq1.list_clear_list_0 l its.toArray n (by rw [aZ];lia)) ⟨e,?_⟩;exact⟨.non,_,I.lset (its':=[]) (ys:=[]) G e rfl .nil (bE _),rfl,q⟩
section
variable{E:Value->Shared->Prop}
end
end L2
namespace Att
open PySem PySem.W PySem.Calls PyProof.Rows
theorem U1{P:Params}:∀(ns:List Int)(vs:List Value),WellAll P h vs (ns.map WData.int)->IntsAre vs ns:=by
 intro ns
 induction ns with
 | nil=>
  intro vs w;rw [List.map_nil]at w;cases w;exact .nil
 | cons n ns G=>
  intro vs w;rw [aS]at w;cases w with
  | cons a b=>
   cases a;exact .cons _ _ (G _ b)
theorem LN{l:OpenLaw}(hn:l.most=some n){P:Params}{args:List WData}{vals:List Value}
 (hpre:l.row.toRowW.claim.pre args=true) (hwl:WellAll P h vals args):
 ∃a vs ns,vals=[Value.ref a]/\args=[WData.list (ns.map WData.int)]/\h.get? a=some { cls:=.type "list",data:=.seq vs.toArray }/\IntsAre vs ns/\ns.length<=n:=by
 have U:WShape.hasAll [] args [.list .int]=true:=(pre_splitW hpre).1;have Y:l.pre.holds [] { args:=args }=true:=(pre_splitW hpre).2;obtain⟨d,r,rfl,h1,h2⟩:=hasAllW_cons U;obtain rfl:=hasAllW_nil h2;obtain⟨xs,rfl,Z⟩:=hasW_list h1;obtain⟨ns,rfl⟩:=items_int Z;have L:ns.length<=n:=by
  unfold OpenLaw.pre at Y;have G:(WTm.not (.lt (.lit (.int (n:Int))) (.len (.arg 0)))).holds [] { args:=[.list (ns.map .int)] }=true:=by
   have G:=(holds_andW Y).1;rw [hn]at G;exact G
  have J:=condW_of G (w_not (w_lt w_lit (w_len_list (w_arg rfl))));rw [aE]at J;refine Nat.le_of_not_lt λq=>?_;have q':(n:Int)<((ns.length:Nat):Int):=by lia
  first
   | (rw [bK q']at J;exact absurd J (12:))
   | (simp at J;lia)
 cases hwl with
 | cons w1 w2=>
  cases w2;cases w1 with
  | list ho M=>exact⟨_,_,ns,rfl,rfl,ho,U1 ns _ M,L⟩
theorem MF(l:OpenLaw)(args:List WData):l.row.toRowW.claim.post args (.bool true) args=true:=
 postW_of (r:=l.row.toRowW) (X:=(true==true))
  (show WShape.has [] (.bool true) .bool=true by first | rfl | decide | simp [WShape.has,WShape.arms,WShape.armsAll])
  (show(WTm.eq .res (.lit (.bool true))).value [] { args:=args,res:=some (.bool true),after:=args }=some (.bool (true==true))from w_eq_bool (w_res rfl) w_lit) rfl
theorem attach_call{l:OpenLaw}{q:Program}{d:DefRec}
 (hn:l.most=some n) (hdf:d.params.defaults=[])
 (call:∀(w:World)(s₀ s₁:Shared)(mg mb:Str->Option Value)(fa:Addr)(o:Obj)(pm cd doc:Value)(a:Addr)(vs:List Value)(ns:List Int),Ground q loose [] XP w s₀ mg mb s₁.heap->YP w s₁.heap->
  s₁.heap.get? fa=some o->o.data=.func (docDef d.name d.params d.body d.scope pm cd doc)->s₁.heap.CodeRec cd d.name->mg d.name=some (.ref fa)->
  s₁.heap.get? a=some { cls:=.type "list",data:=.seq vs.toArray }->IntsAre vs ns->ns.length<=n->s₁.gens=#[]->
  codeAny (model l.prog w) callerA (.call (.ref fa) ⟨[.ref a],[]⟩) (λr s'=>r=.ok (.ret (.bool true))/\OldK s₁.heap s'.heap/\s'.os=s₁.os/\AllBare s'.gens) s₁):
 WalkO q loose XP YP l.row.toRowW d [] (λf vs=>PySem.call f vs):=by
 intro w s₀ s₁ mg mb G Y fa o pm cd doc dV kV ho hd Z hD aa hg ac ad as L ae af ab ag;obtain rfl:dV=.none:=Dflts.none hD hdf;obtain rfl:kV=.none:=Dflts.noKw hD;obtain⟨a,vs,ns,rfl,rfl,M,J,U⟩:=LN hn L ab;refine enter_call (codeAny_mono (call w s₀ s₁ mg mb fa o pm cd doc a vs ns G Y ho (fd_plain hd) Z aa M J U hg) λr s' hq=>?_);obtain⟨rfl,h2,h3,h4⟩:=hq;exact⟨.inl ⟨.bool true,.bool true,[],rfl,λ_=>rfl,.bool true,MF l _,λ_=>⟨List.Pairwise.nil,λ_ hm=>(nomatch hm)⟩⟩,h2,h3,h4⟩
section
variable{E:Value->Shared->Prop}{K:Frag}
end
end Att
namespace L2
open PySem PySem.Spec PyProof.Rows
theorem Xx:∀{vs:List Value}{ns:List Int},IntsAre vs ns->Vals (ns.map V.int) vs
 | _,_,.nil=>.nil
 | _,_,.cons n t h=>.cons ⟨t,rfl⟩ (Xx h)
def inClass(s:Stmt)(j:Nat):Stmt:=match s with
 | .ClassDef _ _ _ body _ _ _ _ _ _ _=>body.getD j (.Pass ⟨0,0,0,0⟩)
 | _=>.Pass ⟨0,0,0,0⟩
def defArgs(s:Stmt):Arguments:=match s with
 | .FunctionDef _ a _ _ _ _ _ _ _ _=>a
 | _=>{ posonlyargs:=[],args:=[],vararg:=none,kwonlyargs:=[],kw_defaults:=[],kwarg:=none,defaults:=[] }
def defBody(s:Stmt):List Stmt:=match s with
 | .FunctionDef _ _ b _ _ _ _ _ _ _=>b
 | _=>[]
def defScope(s:Stmt):Scope:=match s with
 | .FunctionDef _ _ _ _ _ _ sc _ _ _=>sc
 | _=>{ kind:=.function,names:=[],isGenerator:=false,isCoroutine:=false }
abbrev CX0:CXT:=λ_ _ _ _ _ _=>False
abbrev E0:XK:=λ_ _ _=>False
theorem G6:UL CX0 X E0:=λ_ _ _ _ _ _ _ h=>h.elim
structure Fun(K:Fg)(x qual:Str)(st:Stmt)(f:Addr)(fd:FuncData):Prop where
 ex:∃(oc:Value)(od:Option Addr)(kV doc pm:Value)(an:Option Addr)(cdv ct:Value)(osl:Array (Option Value)),
  fd=PySem.W.fnOf x qual (defArgs st) (defBody st) (defScope st) .none kV doc pm an cdv ct/\K.lookup f=some ⟨oc,od,.func fd,osl⟩/\PySem.W.codeIn K cdv qual=true
 kp:PySem.W.keepIn K (.ref f)=true
section
variable{K:Fg}
theorem Fun.ok{x qual:Str}{st:Stmt}{f:Addr}{fd:FuncData}{N ps:List Str}{k:Nat}{sp:Sp}(F:Fun K x qual st f fd)(S:FnScope N ps (defScope st))(len:∀vs H Q E,sp vs H Q E->vs.length=ps.length)
 (hbody:∀(cdv:Value)(A:Around)(outer:List Env)(s:Shared)(H:Hp)(vs:List V)(Q:VK)(E:XK),Room k (A.deeper (envOfC qual (defScope st) s.heap.objs.size f cdv))->sp vs H Q E->
  ∃t,PSs (Ve CX0 P w K mg base N qual (defScope st) f cdv A outer s H E).nox (defBody st) t/\t { nx:=λ_ H'=>Q .non H',rt:=Q } (YM N vs) H):FnOk P w K mg base CX0 (k+1) f fd ps sp:=by
 obtain⟨Z,od,kV,U,pm,an,cdv,ct,Y,rfl,L,G⟩:=F.ex;refine Sy L G S len λA outer s H vs Q E M J=>?_;obtain⟨t,h,q⟩:=hbody cdv A outer s H vs Q E M J;exact⟨t,h.nox,q⟩
theorem Fun.binds{x:Str}{st:Stmt}(F:Fun K x qual st f fd)
 (h:∀(kV doc pm:Value)(an:Option Addr)(cdv ct:Value)(us:List Value),us.length=ps.length->bindArgs (PySem.W.fnOf x qual (defArgs st) (defBody st) (defScope st) .none kV doc pm an cdv ct) ⟨us,[]⟩=pure (ps.zip us)):Binds K fd ps []:=by
 obtain⟨L,M,kV,doc,pm,an,cdv,ct,G,rfl,U,J⟩:=F.ex;exact .all (h kV doc pm an cdv ct)
theorem YX{x qual:Str}{st:Stmt}{f:Addr}{oc:Value}{od an:Option Addr}{osl:Array (Option Value)}{kV doc pm cdv ct:Value}(l:K.lookup f=some ⟨oc,od,.func (PySem.W.fnOf x qual (defArgs st) (defBody st) (defScope st) .none kV doc pm an cdv ct),osl⟩)
 (c:PySem.W.codeIn K cdv qual=true) (k:PySem.W.keepIn K (.ref f)=true):Fun K x qual st f (PySem.W.fnOf x qual (defArgs st) (defBody st) (defScope st) .none kV doc pm an cdv ct):=⟨⟨oc,od,kV,doc,pm,an,cdv,ct,osl,rfl,l,c⟩,k⟩
end
theorem NM{k:Nat}(hr:Room k A):A.units+1<cLine:=Nat.lt_of_le_of_lt (Nat.add_le_add_left (by decide:1<=64) _) hr.units
theorem pv(i:Nat){x:Str}(hN:X.N[i]?=some x:=by rfl)(hv:Vis X.env.scope x:=by first | exact Or.inl rfl | exact Or.inr (18:) | exact Or.inr (Or.inr rfl))(hd:(x==("__debug__":Str))=false:=by decide)
 (hcd:(x==("__classdict__":Str))=false:=by decide):PE X (.Name x pos) (ZT i):=VL hN hv hd hcd
theorem QT{A B:Prop}(h:B):if false=true then A else B:=by
 rw [aF aT];exact h
theorem Zh{A B:Prop}(h:A):if true=true then A else B:=by
 rw [aG rfl];exact h
theorem Rt{c A B:Prop} [Decidable c] (h1:c->A) (h2:¬c->B):if c then A else B:=by
 by_cases h:c
 .rw [aG h];exact h1 h
 .rw [aF h];exact h2 h
theorem Vj{c A B:Prop} [Decidable c] (hc:c) (h:B):if(!decide c)=true then A else B:=by
 rw [bK hc];exact QT h
def Same(H H':Hp):Prop:=∀b o,H b=some o->H' b=some o
theorem Same.refl(H:Hp):Same H H:=λ_ _ h=>h
theorem Same.trans(a:Same H H1)(b:Same H1 H2):Same H H2:=λc o h=>b c o (a c o h)
theorem Same.free(e:Same H H')(h:H' l=Option.none):H l=Option.none:=by
 cases q:H l with
 | none=>rfl
 | some o=>
  rw [e l o q]at h;cases h
theorem Same.seq{K:Fg}(e:Same H H')(h:SqL K H a xs):SqL K H' a xs:=by
 rcases h with(h | ⟨o,h⟩) | h
 .exact .inl (.inl (e _ _ h))
 .exact .inl (.inr ⟨o,e _ _ h⟩)
 .exact .inr h
end L2
set_option maxHeartbeats 4000000
namespace L2
open PySem PySem.Spec PyProof.Rows
theorem Zv:Q4 X (.builtin "isinstance") (λxs H Q=>∃x T t b,xs=[x,.ty T]/\TyOf X.K H x t/\PySem.W.kitOne X.K t (.type T)=some b/\Q (.bl b) H):=by
 intro pins s σ H xs L Q I r h;obtain⟨x,T,t,b,rfl,ty,e,q⟩:=h;obtain⟨u,c,rfl,G,J⟩:=Nr r;cases (show c=Value.type T from J);exact LU I G ty e λtk=>⟨.bl b,H,I.tok tk,rfl,q⟩
mutual
inductive RdV(K:Fg)(H:Hp):V->PyData->Prop where
 | non:RdV K H .non .none
 | bl (b:Bool):RdV K H (.bl b) (.bool b)
 | int (i:Int):RdV K H (.int i) (.int i)
 | str (x:Str):RdV K H (.str x) (.str x)
 | lst {a:Addr} {xs:List V} {ds:List PyData}:SqL K H a xs->RdAll K H xs ds->RdV K H (.ref a) (.list ds)
 | tup {a:Addr} {xs:List V} {ds:List PyData}:SqT K H a xs->RdAll K H xs ds->RdV K H (.ref a) (.tuple ds)
inductive RdAll(K:Fg)(H:Hp):List V->List PyData->Prop where
 | nil:RdAll K H [] []
 | cons {v:V} {vs:List V} {d:PyData} {ds:List PyData}:RdV K H v d->RdAll K H vs ds->RdAll K H (v::vs) (d::ds)
end
section
variable{pins:List (10:)}
mutual
theorem RdV.reads(I:Inv X pins σ H s):∀{v:V}{d:PyData}{u:Value},RdV X.K H v d->RelV v u->∃as,Reads s.heap u d as
 | _,_,u,.non,r=>by cases (show u=Value.none from r);exact⟨_,.none⟩
 | _,_,u,.bl b,r=>by cases (show u=Value.bool b from r);exact⟨_,.bool b⟩
 | _,_,u,.int i,r=>by obtain⟨t,e⟩:=(show ∃t,u=Value.int i t from r);cases e;exact⟨_,.int i t⟩
 | _,_,u,.str x,r=>by obtain⟨t,e⟩:=(show ∃t,u=Value.str x t from r);cases e;exact⟨_,.str x t⟩
 | _,_,u,@RdV.lst _ _ a xs ds G J,r=>by
  cases (show u=Value.ref a from r);obtain⟨its,L,⟨o,n,e,c,_,M⟩,_⟩:=I.list G;obtain⟨as,q⟩:=RdAll.reads I J L;exact⟨_,.list e c M (by simpa using q)⟩
 | _,_,u,@RdV.tup _ _ a xs ds G J,r=>by
  cases (show u=Value.ref a from r);obtain⟨its,L,⟨o,e,c,n,M⟩,_⟩:=I.tuple G;obtain⟨as,q⟩:=RdAll.reads I J L;exact⟨_,.tuple e c M (by simpa using q)⟩
theorem RdAll.reads(I:Inv X pins σ H s):∀{vs:List V}{ds:List PyData}{us:List Value},RdAll X.K H vs ds->Vals vs us->∃as,ReadsAll s.heap us ds as
 | _,_,_,.nil,r=>by cases r;exact⟨_,.nil⟩
 | _,_,_,.cons h t,r=>by
  cases r with
  | cons G J=>
   obtain⟨as,q⟩:=RdV.reads I h G;obtain⟨bs,L⟩:=RdAll.reads I t J;exact⟨_,.cons q L⟩
end
end
def By(K:Fg)(A:Around)(neg:Bool):R2:=λx y H Q=>∃d e:PyData,RdV K H x d/\RdV K H y e/\d.canLay0=true/\e.canLay0=true/\A.units+min d.depth e.depth<cLine/\Q (.bl (if neg then !PyData.eqv d e else PyData.eqv d e)) H
theorem Pp:OpR X (compareOp .Eq) (By X.K X.A false):=by
 intro pins s σ H x y v u Q I G J h;obtain⟨d,e,L,M,cd,U,Y,q⟩:=h;obtain⟨as,Z⟩:=L.reads I G;obtain⟨bs,q2⟩:=M.reads I J;exact SeqAt.compareEq_reads Z q2 cd U Y ⟨.bl _,H,I,rfl,q⟩
theorem X9:OpR X (compareOp .NotEq) (By X.K X.A true):=by
 intro pins s σ H x y v u Q I G J h;obtain⟨d,e,L,M,cd,U,Y,q⟩:=h;obtain⟨as,Z⟩:=L.reads I G;obtain⟨bs,q2⟩:=M.reads I J;exact SeqAt.compareNe_reads Z q2 cd U Y ⟨.bl _,H,I,rfl,q⟩
mutual
theorem ZH:∀d:PyData,d.canLay0=true->PyData.eqv d d=true
 | .none,_=>by simp [PyData.eqv]
 | .bool _,_=>by simp [PyData.eqv]
 | .int _,_=>by simp [PyData.eqv]
 | .str _,_=>by simp [PyData.eqv]
 | .list xs,h=>by
  simp only [PyData.eqv];exact Ys xs (by simpa [PyData.canLay0]using h)
 | .tuple xs,h=>by
  simp only [PyData.eqv];exact Ys xs (by simpa [PyData.canLay0]using h)
 | .dict _,h=>by simp [PyData.canLay0]at h
theorem Ys:∀ds:List PyData,PyData.canLayAll0 ds=true->PyData.eqvAll ds ds=true
 | [],_=>by simp [PyData.eqvAll]
 | d::ds,h=>by
  simp only [PyData.canLayAll0,bS]at h;simp only [PyData.eqvAll,bS];exact⟨ZH d h.1,Ys ds h.2⟩
end
structure Fn(P:Program)(w:World)(K:Fg)(mg:Str->Option Value)(base:Heap)(k:Nat)(x:Str)(ps:List Str)(sp:Sp):Prop where
 ex:∃(f:Addr)(fd:FuncData),FnOk P w K mg base CX0 k f fd ps sp/\Binds K fd ps []/\PySem.W.keepIn K (.ref f)=true/\mg x=some (.ref f)
theorem Qt{X:Cx}{k k':Nat}{x:Str}{ps:List Str}{sp:Sp}{p pos:Pos}{e:Expr}{es:List Expr}{t:TA}(F:Fn X.prog X.w X.K X.mg X.base k x ps sp)(hr:Room k' X.A)(ha:PA X (e::es) t)(hk:k<=k':=by decide)(hg:Gl X x:=by rfl)
 (hdb:(x==("__debug__":Str))=false:=by decide) (he:starEach (e::es) X.env=(false,eval e X.env)::starEach es X.env:=by rfl) (hpl:(backTo pos (starEach es X.env)).any (·.1)=false:=by rfl):
 PE X (.Call (.Name x p) (e::es) [] pos) (Y3 sp [] E0 t):=by
 obtain⟨f,fd,h1,h2,G,J⟩:=F.ex;exact PH h1 (hr.mono hk) hg J G h2 .nil G6 ha hdb he hpl
theorem R1{c A B:Prop} [Decidable c] (hc:c) (h:A):if decide c=true then A else B:=by
 rw [bK hc];exact Zh h
theorem JD{c A B:Prop} [Decidable c] (hc:¬c) (h:B):if decide c=true then A else B:=by
 rw [bN hc];exact QT h
theorem Qd{p:Addr}(h:H p=Option.none)(o:HO):Same H (upd H p o):=λb u q=>by rw [Qe (Qf q h)];exact q
def S(l:List Nat):Str:=⟨l.toArray⟩
theorem Na(l:List Nat):(S l).cps.toList=l:=by simp [S]
theorem OU(l:List Nat):(S l).length=l.length:=by simp [S,Str.length]
theorem Bz{a b:List Nat}(h:S a=S b):a=b:=by
 have:=congrArg (λz:Str=>z.cps.toList) h
 simpa [Na]using this
theorem AW(a b:List Nat):S a++S b=S (a++b):=by
 show Str.append (S a) (S b)=S (a++b);simp [Str.append,S]
def Cq(t:TS):TS:=λD σ H=>∃R:St->Hp->Prop,t { D with nx:=R } σ H/\∀σ' H',R σ' H'->D.nx σ' H'
theorem Wy{st:Stmt}{t:TS}(h:PS X st t):PS X st (Cq t):=by
 intro pins s σ H D I G;obtain⟨R,h1,h2⟩:=G;refine thn (h pins s σ H { D with nx:=R } I h1) λf M q=>?_;cases f with
 | next=>
  obtain⟨J,H',L,q⟩:=q;exact⟨J,H',L,h2 _ _ q⟩
 | brk=>exact q
 | cont=>exact q
 | ret v=>exact q
theorem YW:∀xs:List Str,PyData.depthAll (xs.map PyData.str)=0
 | []=>by simp [PyData.depthAll]
 | x::r=>by simp [PyData.depthAll,PyData.depth,YW r]
structure DefAt(K:Fg)(x:Str)(st:Stmt):Prop where
 ex:∃(f:Addr)(oc:Value)(od:Option Addr)(kV doc pm:Value)(an:Option Addr)(cdv ct:Value)(osl:Array (Option Value)),
  PySem.W.nsIn K mainGlobals x=some (some (.ref f))/\K.lookup f=some ⟨oc,od,.func (PySem.W.fnOf x x (defArgs st) (defBody st) (defScope st) .none kV doc pm an cdv ct),osl⟩/\PySem.W.codeIn K cdv x=true/\PySem.W.keepIn K (.ref f)=true
theorem DefAt.mk'{K:Fg}{x:Str}{st:Stmt}{kV:Value}
 (a:PySem.W.nsIn K mainGlobals x=some (some (.ref f))) (l:K.lookup f=some ⟨oc,od,.func (PySem.W.fnOf x x (defArgs st) (defBody st) (defScope st) .none kV doc pm an cdv ct),osl⟩) (c:PySem.W.codeIn K cdv x=true) (k:PySem.W.keepIn K (.ref f)=true):DefAt K x st:=
 ⟨f,oc,od,kV,doc,pm,an,cdv,ct,osl,a,l,c,k⟩
end L2
namespace L2
open PySem
theorem let1{b:TS}{D:Ends}(h:let B1:TS:=b;Zd a1 B1 D σ H):(Zd a1 (b)) D σ H:=h
theorem let2{a2 b:TS}{D:Ends}(h:let B2:TS:=b;let B1:TS:=Zd a2 B2;Zd a1 B1 D σ H):(Zd a1 (Zd a2 (b))) D σ H:=h
theorem let3{a2 b:TS}{D:Ends}(h:let B3:TS:=b;let B2:TS:=Zd a3 B3;let B1:TS:=Zd a2 B2;Zd a1 B1 D σ H):(Zd a1 (Zd a2 (Zd a3 (b)))) D σ H:=h
theorem let4{a2 b:TS}{D:Ends}(h:let B4:TS:=b;let B3:TS:=Zd a4 B4;let B2:TS:=Zd a3 B3;let B1:TS:=Zd a2 B2;Zd a1 B1 D σ H):(Zd a1 (Zd a2 (Zd a3 (Zd a4 (b))))) D σ H:=h
theorem let5{a2 a5 b:TS}{D:Ends}(h:let B5:TS:=b;let B4:TS:=Zd a5 B5;let B3:TS:=Zd a4 B4;let B2:TS:=Zd a3 B3;let B1:TS:=Zd a2 B2;Zd a1 B1 D σ H):(Zd a1 (Zd a2 (Zd a3 (Zd a4 (Zd a5 (b)))))) D σ H:=h
abbrev J3:=Nat->St->Hp->Prop
abbrev JC:=Nat->List V->Hp->Prop
abbrev JA:=Addr->Nat->List V->Hp->Prop
abbrev J2:=St->Hp->Prop
end L2
namespace L2
open PySem PySem.Spec PyProof.Rows
def Ci(K:Fg):R2:=λx y H Q=>∃a b xs ys,x=.ref a/\y=.ref b/\SqT K H a xs/\SqT K H b ys/\xs.length+ys.length<=sizeLine/\
 ∀p H',Same H H'->SqT K H' p (xs++ys)->Q (.ref p) H'
theorem Ld:OpR X (binaryOp .Add) (Ci X.K):=by
 intro pins s σ H x y v u Q I Z ry h;obtain⟨a,b,xs,ys,e1,e2,M,U,hz,q⟩:=h
 by_cases hx:xs=[]
 .subst e1;subst e2;subst hx;cases (show v=Value.ref a from Z);cases (show u=Value.ref b from ry);obtain⟨its,r1,p1,_⟩:=I.tuple M;obtain⟨Y,r2,p2,_⟩:=I.tuple U;cases r1;obtain⟨⟨cls,dd,ad,sl⟩,ho,hc,n,hd⟩:=id p1;obtain⟨⟨ae,aa,ac,ab⟩,G,J,n2,L⟩:=id p2;simp only at hc hd J L;subst hc hd J L;exact concat_meets ⟨_,ho,rfl⟩ ⟨_,G,rfl⟩ noFill_tuple_add seq_tuple_add PySem.F.slot_tuple_add PySem.F.entry_tuple_add (gP _ _)
   (tuple_addW0 a b _ Y.toArray n n2 dd aa sl ab rfl) ⟨ho,G,⟨.ref b,H,I,rfl,q b H (Same.refl H) (by simpa using U)⟩⟩
 .refine PX pins s σ H x y v u Q I Z ry ⟨a,b,xs,ys,e1,e2,M,U,hx,hz,λhy=>?_,λhy p hp=>?_⟩
  .subst hy;exact q a H (Same.refl H) (by simpa using M)
  .exact q p _ (Qd hp _) (SqT.of Qb)
theorem Same.seqT{K:Fg}(e:Same H H')(h:SqT K H a xs):SqT K H' a xs:=by
 rcases h with(h | ⟨o,h⟩) | h
 .exact .inl (.inl (e _ _ h))
 .exact .inl (.inr ⟨o,e _ _ h⟩)
 .exact .inr h
def OZ(K:Fg):R2:=λx y H Q=>∃l b xs zs,x=.ref l/\y=.ref b/\SqL K H l xs/\SqL K H b zs/\xs.length+zs.length<=sizeLine/\∀p,H p=none->Q (.ref p) (upd H p (.lst (xs++zs)))
theorem PZ:OpR X (binaryOp .Add) (OZ X.K):=by
 intro pins s σ H x y v u Q I Z ry h;obtain⟨l,b,xs,zs,rfl,rfl,ha,hb,hz,q⟩:=h;cases Z;cases ry;obtain⟨its,J,⟨⟨c1,d1,t1,s1⟩,n1,g1,L,f1,k1⟩,_⟩:=I.list ha;obtain⟨G,M,⟨⟨c2,d2,t2,s2⟩,n2,g2,U,f2,Y⟩,_⟩:=I.list hb;simp only at L f1 k1 U f2 Y;subst L f1 k1 U f2 Y;have l1:=J.length;have l2:=M.length;refine concat_meets ⟨_,g1,rfl⟩ ⟨_,g2,rfl⟩ noFill_list_add seq_list_add PySem.F.slot_list_add PySem.F.entry_list_add (PySem.F.args_list_add_2 _ _) (list_addW l b _ _ n1 n2 none none s1 s2 (by rw [aZ,aZ];lia)) ⟨g1,g2,?_⟩;have ea:its.toArray++G.toArray=(its++G).toArray:=by simp
 rw [ea];exact⟨.ref _,_,I.lnew (t':=s.toks) (J.append M) (by rw [aW];lia),rfl,q _ I.fresh⟩
theorem RJ(xs:List V)(k:Nat):cutV xs (some (k:Int)) none=xs.drop k:=by
 unfold cutV;rw [HT.sIx_none,HT.sIx_nat]
 by_cases h:k<=xs.length
 .rw [Nat.min_eq_left h];exact bH (by rw [List.length_drop];lia)
 .rw [Nat.min_eq_right (5:),fU (4:),fU (5:),List.take_nil]
theorem SB(xs:List V)(k:Nat):cutV xs none (some (k:Int))=xs.take k:=by
 unfold cutV;rw [HT.sIx_none,HT.sIx_nat,List.drop_zero,Nat.sub_zero]
 by_cases h:k<=xs.length
 .rw [Nat.min_eq_left h]
 .rw [Nat.min_eq_right (5:),bH (4:),bH (5:)]
theorem RQ{k:Nat}(h:k<n):ixN n (k:Int)=some k:=by
 unfold ixN;rw [aG (5:),aG (5:)];simp
theorem QD:sizeLine=16777216:=by decide
theorem ZM(h:n<=5000):n<=sizeLine:=by rw [QD];lia
def QH(X:Cx)(N':List Str)(scope:Scope)(cl:List (Str×Addr))(C:Addr)(fp:List Addr)(s₀:Shared)(H₀:Hp):Cx:=
 { X with N:=N',s₀:=s₀,H₀:=H₀,env:=compEnvC scope cl C X.env,outer:=X.stack,ex:=fp,fn:=λ_=>false,pn:=[],xe:=λ_ _=>False }
def PF(X:Cx)(ifs:List Expr)(t:TT):Prop:=
 ∀(pins:List (10:))(s:Shared)(σ:St)(H:Hp)(Q:Bool->Hp->Prop),Inv X pins σ H s->t σ H Q->
  wpAny (6:) X.A (forIn ifs true λc r=>if r=true then do let ok <-isTrue c X.env (eval c X.env);pure (ForInStep.yield ok)else pure (ForInStep.yield r)) (TP X pins σ Q) X.xe s
theorem Zn:PF X [] (λ_ H Q=>Q true H):=by
 intro pins s σ H Q I h;rw [List.forIn_nil];exact aH ⟨H,I,h⟩
theorem WC{c:Expr}{t:TT}(hc:PT X c t):PF X [c] t:=by
 intro pins s σ H Q I h;rw [List.forIn_cons];refine aB ?_;rw [aG rfl];refine aB (thn (hc pins s σ H Q I h) λok G q=>aH ?_);dsimp only;rw [List.forIn_nil];exact aH q
structure OwnAt(X:Cx)(pins:List (10:))(H:Hp)(s:Shared)(C:Addr):Prop where
 ns:∃m,s.heap.Ns C m
 free:H C=none
 loc:C≠X.env.locals
 above:X.s₀.heap.objs.size<=C
 cells:∀x c,X.env.cells.lookup x=some c->c≠C
 pins:∀p∈X.pn++pins,p.1≠C
theorem OwnAt.go{pins:List (10:)}{C:Addr}(I:Inv X pins σ H s)(o:OwnAt X pins H s C)(hb:Heap.SameBut C s.heap h'):Inv X pins σ H { s with heap:=h' }:=
 I.turned (t':=s.toks) (λb u G e=>(hb.2 b G).trans e) o.free o.loc (.inr o.above) o.cells o.pins
def Vt(n:Nat)(Pv:Nat->List V->Hp->Prop):Nat->Nat->Hp->Prop:=λi m H=>m=n-i/\i<=n/\∃ys,Pv i ys H
def Nw(n:Nat)(Pv:Nat->List V->Hp->Prop)(acc:Addr)(i m:Nat):VK:=λy H5=>∃ys,H5 acc=some (.lst ys)/\ys.length<sizeLine/\∃m',m'<m/\Vt n Pv (i+1) m' (upd H5 acc (.lst (ys++[y])))
theorem QC{n:Nat}{Pv:Nat->List V->Hp->Prop}{acc:Addr}{i:Nat}{y:V}{H5:Hp}{ys:List V}(hi:i<n)(hacc:H5 acc=some (.lst ys))(hl:ys.length<5000)(hP:Pv (i+1) (ys++[y]) (upd H5 acc (.lst (ys++[y])))):Nw n Pv acc i (n-i) y H5:=
 ⟨ys,hacc,Nat.lt_trans hl (12:),n-(i+1),by lia,rfl,hi,_,hP⟩
theorem Yy{n:Nat}{Pv:Nat->List V->Hp->Prop}{i:Nat}{H:Hp}{ys:List V}(hi:i<n)(hP:Pv (i+1) ys H):∃m',m'<n-i/\Vt n Pv (i+1) m' H:=⟨n-(i+1),by lia,rfl,hi,ys,hP⟩
section
variable{pins:List (10:)}
theorem Inv.turnedL(I:Inv X pins σ H s)(k:∀b o,b∉ch->s.heap.get? b=some o->h'.get? b=some o)(hf:∀b∈ch,YT X pins H b):Inv X pins σ H { s with heap:=h',toks:=t' }:=by
 have J:∀b u,H b=some u->b∉ch:=λb u e z=>by rw [(hf b z).1]at e;cases e
 refine I.step (g':=s.gens) (d':=s.drawn) (ch:=ch) (λb L=>?_) (λb o _ _ G e _=>k b o G e) (λb o _ _ G e _=>⟨o.slots,k b o G e⟩) (λ_ _ _ _ n=>n)
  (λb o G e=>⟨o,k b o G e⟩) (λ_ _ e=>e) (λ_ _ _ e=>e) (λb ps e=>⟨#[],by rw [e];simp⟩) (λm M=>?_) (λb u e=>?_) I.bare
 .obtain⟨Y,f1,f2,f3,f4,f5⟩:=hf b L;exact⟨f3,f1,f4,f5⟩
 .obtain⟨o,es,ep,U,r⟩:=M;exact⟨o,es,ep,k _ o (λz=>(hf _ z).2.1 rfl) U,r⟩
 .refine(I.hok b u e).stay (λc v G q=>k c v ?_ q) (λ_ q=>q) λ_ _ q=>q;rcases G with z | z
  .rw [z];exact J b u e
  .exact J c _ z
theorem Inv.turnedNew{o:HO}(I:Inv X pins σ H s)(k:∀b o,b∉ch->s.heap.get? b=some o->h'.get? b=some o)(hf:∀b∈ch,YT X pins H b)
 (hp:s.heap.objs.size<=a) (new:ObjOk X.prog X.w (upd H a o) h' a o):Inv X pins σ (upd H a o) { s with heap:=h',toks:=t' }:=by
 have J:H a=none:=I.hok.fresh hp;have M:∀b u,H b=some u->b∉ch:=λb u e z=>by rw [(hf b z).1]at e;cases e
 have lt:∀b u,s.heap.get? b=some u->b≠a:=λb u e=>bC (bZ (aO e) hp);refine I.step (g':=s.gens) (d':=s.drawn) (ch:=ch) (λb L=>?_) (λb o _ _ G e _=>k b o G e) (λb o _ _ G e _=>⟨o.slots,k b o G e⟩) (λb u _ e n=>by rw [Qe (lt b u e)];exact n)
  (λb o G e=>⟨o,k b o G e⟩) (λb xs e=>by rw [Qe (Qf e J)];exact e) (λb u xs e=>by rw [Qe (Qf e J)];exact e) (λb ps e=>⟨#[],by rw [Qe (Qf e J),e];simp⟩) (λm U=>?_) (λb u e=>?_) I.bare
 .obtain⟨Z,f1,f2,f3,f4,f5⟩:=hf b L;exact⟨f3,f1,f4,f5⟩
 .obtain⟨o,es,ep,Y,r⟩:=U;exact⟨o,es,ep,k _ o (λz=>(hf _ z).2.1 rfl) Y,r⟩
 .by_cases L:b=a
  .subst L;rw [Qb]at e;cases e;exact new
  .rw [Qe L]at e;refine(I.hok b u e).stay (λc v G q=>k c v ?_ q) (λc q=>by rw [Qe (Qf q J)];exact q) λc xs q=>by rw [Qe (Qf q J)];exact q
   rcases G with z | z
   .rw [z];exact M b u e
   .exact M c _ z
end
def Itz(K:Fg)(a b:Addr)(xs ys:List V):It:=
 ⟨λi H=>SqL K H a xs/\SqL K H b ys/\i<xs.length/\i<ys.length,λi H x H'=>∃p u v,H p=none/\x=.ref p/\H'=upd H p (.tup [u,v])/\xs[i]?=some u/\ys[i]?=some v,λi H=>SqL K H a xs/\SqL K H b ys/\(xs.length<=i\/ys.length<=i)⟩
theorem N8{K:Fg}(a b z:Addr)(xs ys:List V)(TI TO i1 i2:Addr)(Ap:ZipApart z TI TO i1 i2 a b):
 Turn P w K (.Tuple elts k1 pos) (Itz K a b xs ys) [z,TI,TO,i1,i2] z (λi h=>IsZip h z TI TO .none/\IsPair h TI (.ref i1) (.ref i2)/\(∃u v,IsPair h TO u v)/\h.IsListIter i1 a i/\h.IsListIter i2 b i) where
 mem:=by simp
 obj:=λi h st c G=>by
  obtain⟨hz,J,⟨u,v,L⟩,h1,h2⟩:=st;simp only [aM,bQ,bP]at G;rcases G with rfl | rfl | rfl | rfl | rfl
  .exact⟨_,hz,λv z=>by have U:Data.fields _=Data.cell v:=z;cases U⟩
  .exact⟨_,J,λv z=>by have U:Data.seq _ _=Data.cell v:=z;cases U⟩
  .exact⟨_,L,λv z=>by have U:Data.seq _ _=Data.cell v:=z;cases U⟩
  .obtain⟨o,e,c,d⟩:=h1;exact⟨o,e,λv z=>by rw [d]at z;cases z⟩
  .obtain⟨o,e,c,d⟩:=h2;exact⟨o,e,λv z=>by rw [d]at z;cases z⟩
 keep:=λi h h' st k=>by
  obtain⟨hz,J,⟨u,v,L⟩,h1,h2⟩:=st;exact⟨k z (16:) _ hz,k TI (16:) _ J,⟨u,v,k TO (16:) _ L⟩,h1.at λo e=>k i1 (16:) o e,h2.at λo e=>k i2 (16:) o e⟩
 item:=by
  intro X hP hw hK G i pins s σ H E I hf st hg;subst hP hw hK;obtain⟨hz,J,⟨u0,v0,L⟩,h1,h2⟩:=st;obtain⟨qa,qb,lx,ly⟩:=hg;obtain⟨its,rv,p,_⟩:=I.list qa;obtain⟨ab,Y,p2,_⟩:=I.list qb;have ex:xs[i]?=some xs[i]:=aD lx;have ey:ys[i]?=some ys[i]:=aD ly;obtain⟨u,hu,ru⟩:=rv.get ex;obtain⟨v,hv,ac⟩:=Y.get ey;refine wpAny_pyNext_zip_item Ap hz J L h1 h2 p.isList p2.isList (x:=u) (y:=v) (by simpa using hu) (by simpa using hv) λh' a1 a2 a3 a4 a5 a6 hk=>?_;refine⟨.ref s.heap.objs.size,rfl,wpAny_letOwnedTupleGo_zip (s:={ s with heap:=h' }) a1 λaa ad M=>?_⟩;have lt:∀{c o},s.heap.get? c=some o->c≠s.heap.objs.size:=λe=>bC (aO e);have e5:IsPair aa s.heap.objs.size u v:=(M.2 _ (aV (lt hz))).trans a5;have Z:∀c∈[z,TO,i1,i2],YT X pins H c:=λc G=>hf c (by
   simp only [aM,bQ,bP]at G ⊢;rcases G with rfl | rfl | rfl | rfl<;>simp)
  have I2:Inv X pins σ (upd H s.heap.objs.size (.tup [xs[i],ys[i]])) { s with heap:=aa,toks:=s.toks }:=by
   refine I.turnedNew (ch:=[z,TO,i1,i2]) (λc o G e=>?_) Z (4:) ⟨by show 2<=sizeLine;decide,[u,v],.cons ru (.cons ac .nil),⟨_,e5,rfl,_,rfl⟩⟩;simp only [aM,bQ,bP,not_or]at G;exact(M.2 c G.1).trans (hk c o G.1 G.2.1 G.2.2.1 G.2.2.2 e)
  have ae:∀c∈[z,TI,TO,i1,i2],upd H s.heap.objs.size (.tup [xs[i],ys[i]]) c=none:=λc G=>by
   have af:=hf c G;have:c≠s.heap.objs.size:=by
    simp only [aM,bQ,bP]at G;rcases G with rfl | rfl | rfl | rfl | rfl
    .exact lt hz
    .exact lt J
    .exact lt L
    .obtain⟨o,e,_⟩:=h1;exact lt e
    .obtain⟨o,e,_⟩:=h2;exact lt e
   rw [Qe this];exact af.1
  exact⟨.ref s.heap.objs.size,_,I2,rfl,⟨s.heap.objs.size,_,_,I.fresh,rfl,rfl,ex,ey⟩,⟨ad,M.extBut _ _ Ap.TIz (hk _ _ Ap.TIz Ap.TITO Ap.TIi1 Ap.TIi2 J),⟨_,_,M.extBut _ _ Ap.TOz a2⟩,a3.extBut M.extBut Ap.i1z,a4.extBut M.extBut Ap.i2z⟩,ae⟩
 done:=by
  intro X hP hw hK G i pins s σ H E I hf st hg;subst hP hw hK;obtain⟨hz,J,⟨u0,v0,L⟩,h1,h2⟩:=st;obtain⟨qa,qb,hl⟩:=hg;obtain⟨its,rv,p,_⟩:=I.list qa;obtain⟨ab,Y,p2,_⟩:=I.list qb;have l1:=rv.length;have l2:=Y.length;have Z:∀c∈[z,TO,i1,i2],YT X pins H c:=λc G=>hf c (by
   simp only [aM,bQ,bP]at G ⊢;rcases G with rfl | rfl | rfl | rfl<;>simp)
  refine wpAny_pyNext_zip_end (I.ok.hd G) Ap hz J L h1 h2 p.isList p2.isList ?_ λh' hk=>⟨rfl,I.turnedL (t':=s.toks) (ch:=[z,TO,i1,i2]) (λc o G e=>?_) Z⟩
  .rcases hl with q | q
   .exact .inl (by simp;lia)
   .exact .inr (by simp;lia)
  .simp only [aM,bQ,bP,not_or]at G;exact hk c o G.1 G.2.1 G.2.2.1 G.2.2.2 e
 self:=λ_ _ _ _ _ st h=>wpAny_pyIter_zip st.1 h
theorem nne{x y:Nat}(h:x<y\/y<x):x≠y:=by lia
def Cv(K:Fg)(ta:TA):TI:=λσ H R=>ta σ H λvs H1=>∃a b xs ys,vs=[.ref a,.ref b]/\SqL K H1 a xs/\SqL K H1 b ys/\R (Itz K a b xs ys) H1
theorem NJ{ta:TA}{p:Pos}(hg:Gl X "zip")(hm:X.mg "zip"=none)(ha:PA X [e1,e2] ta)(hs:starEach [e1,e2] X.env=[(false,eval e1 X.env),(false,eval e2 X.env)]:=by rfl)(hs2:starEach [e2] X.env=[(false,eval e2 X.env)]:=by rfl):
 PI X (.Tuple elts k1 tpos) (.Call (.Name "zip" p) [e1,e2] [] pos) (Cv X.K ta):=by
 intro pins s σ H R I h;refine Call_ (Z6 I hg hm PyProof.Rows.boot_zip (fo (thn (ha pos pins s σ H _ I h) λus G ⟨vs,H1,J,r1,q1⟩=>?_) (by rw [hs,hs2]) (by rw [hs2];rfl)));obtain⟨a,b,xs,ys,e,qa,qb,q⟩:=q1;subst e;obtain⟨u1,u2,e3,r3,r4⟩:=r1.two;subst e3;cases (show u1=Value.ref a from r3);cases (show u2=Value.ref b from r4);obtain⟨its,rv,U,_⟩:=J.list qa;obtain⟨aa,ab,L,_⟩:=J.list qb;have la:@LT.lt Nat _ a G.heap.objs.size:=by obtain⟨o,n,e,_⟩:=U;exact aO e
 have lb:@LT.lt Nat _ b G.heap.objs.size:=by obtain⟨o,n,e,_⟩:=L;exact aO e
 refine call_zip_2 U.isList L.isList λh' hz Y Z h1 h2 ac hk=>?_;refine wpAny_pyIter_zip hz ?_;have I2:Inv X pins σ H1 { G with heap:=h' }:=J.kept (t':=G.toks) hk;refine⟨G.heap.objs.size+4,[G.heap.objs.size+4,G.heap.objs.size+2,G.heap.objs.size+3,G.heap.objs.size,G.heap.objs.size+1],_,_,H1,rfl,I2,N8 a b (G.heap.objs.size+4) xs ys (G.heap.objs.size+2) (G.heap.objs.size+3) G.heap.objs.size (G.heap.objs.size+1) ?_,⟨hz,Y,⟨_,_,Z⟩,h1,h2⟩,λc hc=>?_,q⟩
 .constructor<;>(refine nne ?_;lia)
 .have M:@LE.le Nat _ G.heap.objs.size c:=by
   simp only [aM,bQ,bP]at hc;rcases hc with rfl | rfl | rfl | rfl | rfl<;>lia
  exact J.fpOk M (J.hok.fresh M)
theorem Sa{K:Fg}{a b:Addr}{xs ys:List V}{g:TG}{tb:TS}{D:Ends}{σ:St}{H:Hp}(hlen:xs.length=ys.length)(Pv:Nat->St->Hp->Prop)(h0:Pv 0 σ H)(hl:∀i σ H,i<=xs.length->Pv i σ H->SqL K H a xs/\SqL K H b ys)
 (hs:∀i u v p σ H,xs[i]?=some u->ys[i]?=some v->H p=none->Pv i σ H->g (.ref p) σ (upd H p (.tup [u,v])) λσ2 H2=>tb { D with nx:=Pv (i+1),ct:=Pv (i+1),bk:=D.nx } σ2 H2) (hd:∀σ H,Pv xs.length σ H->D.nx σ H):
 ∃W:Nat->Nat->St->Hp->Prop,(∃m,W 0 m σ H)/\∀i m σ H,W i m σ H->
  ((Itz K a b xs ys).stop i H/\D.nx σ H)\/((Itz K a b xs ys).go i H/\∃N:St->Hp->Prop,(∀σ' H',N σ' H'->∃m',m'<m/\W (i+1) m' σ' H')/\∀x H',(Itz K a b xs ys).yld i H x H'->g x σ H' λσ2 H2=>tb { D with nx:=N,ct:=N,bk:=D.nx } σ2 H2):=by
 refine⟨λi m σ H=>m=xs.length-i/\i<=xs.length/\Pv i σ H,⟨xs.length-0,rfl,bE _,h0⟩,?_⟩;rintro i m σ H ⟨rfl,hi,p⟩;obtain⟨J,L⟩:=hl i σ H hi p
 by_cases h:i<xs.length
 .refine .inr ⟨⟨J,L,h,by lia⟩,Pv (i+1),λσ' H' G=>⟨xs.length-(i+1),by lia,rfl,h,G⟩,?_⟩;rintro x H' ⟨G,u,v,hp,rfl,rfl,M,U⟩;exact hs i u v G σ H M U hp p
 .have e:i=xs.length:=by lia
  subst e;exact .inl ⟨⟨J,L,.inl (4:)⟩,hd σ H p⟩
theorem YU:∀{ns:List Int}{us:List Value},Vals (ns.map V.int) us->∃xs:List (Int×Tok),us=xs.map (λp=>Value.int p.1 p.2)/\xs.map (·.1)=ns
 | [],_,.nil=>⟨[],rfl,rfl⟩
 | n::ns,_,.cons r rr=>by
  obtain⟨t,e⟩:=r;obtain⟨xs,G,J⟩:=YU rr;exact⟨(n,t)::xs,by rw [e,G];rfl,by rw [aS,J]⟩
theorem XC(xs:List (Int×Tok)):intItems xs.toArray=(xs.map (λp=>Value.int p.1 p.2)).toArray:=by
 simp [intItems]
theorem O6(xs:List (Int×Tok))(j:Nat):numAt xs.toArray j=(xs.map (·.1)).getD j 0:=by rw [numAt_eq]
theorem Sf(xs:List (Int×Tok))(j:Nat):preSum (numAt xs.toArray) j=((xs.map (·.1)).take j).sum:=by rw [preSum_eq]
theorem gtI{prog:Program}{w:World}{A:Around}{E:Value->Shared->Prop}{s:Shared}{a M:Int}{t u:Tok}{Q:Value->Shared->Prop}(h:Q (.bool (decide (M<a))) s):wpAny (9:) A (richCompare .Gt (.int a t) (.int M u)) Q E s:=
 CmpOf.ints_gt (P:=λk v=>∃t,v=.int (if k=0 then a else M) t) (λk=>if k=0 then a else M) (λ_ _ h=>h) 0 1 _ _ s Q E ⟨t,rfl⟩ ⟨u,rfl⟩ h
def Mx(val:Nat->Int)(i:Nat)(M:Int):Prop:=(∃j,j<i/\val j=M)/\∀j,j<i->val j<=M
section
variable{I:Addr}{wr:List Addr}{P:Nat->Value->Prop}{St:Nat->Heap->Prop}
theorem MN(W:Walks prog w A.in1 I fp wr n P St)(val:Nat->Int)(hval:∀i v,P i v->∃t,v=.int (val i) t)(d:Value)(S:Addr)(hSf:S∉fp):
 ∀(k i:Nat)(s:Shared)(ob:List Value)(c:Nat),n-i=k->i<=n->St i s.heap->((i=0/\ob=[])\/∃M t,ob=[Value.int M t,.int M t]/\Mx val i M)->
  s.heap.get? S=some { cls:=.type "list",dict:=none,data:=.seq ob.toArray c,slots:=#[] }->
  (∀v h' tk,((n=0/\v=d)\/∃M t,v=.int M t/\Mx val n M)->(∀b o,b∉wr->b≠S->s.heap.get? b=some o->h'.get? b=some o)->R (.ok (.ret v)) { s with heap:=h',toks:=tk })->
  codeAny (9:) A (.builtin "max.loop" ⟨[.ref I,.none,.ref S],[(Str.ofString "default",d)]⟩) R s:=by
 have af:S∉wr:=λh=>hSf (W.sub _ h);have aa:(toString "max"++toString ".loop":String)="max.loop":=by decide
 intro k
 induction k with
 | zero=>
  intro i s ob c hk hi ac ag hS hR;have aj:i=n:=by lia
  subst aj;refine codeAny_builtin F.entry_max_loop ?_;rw [gL fN _];show wpAny _ A.in1 (seqItems? (.ref S)>>=_) _ _ s;refine aB (dP hS rfl ?_);rcases ag with⟨h0,rfl⟩ | ⟨M,t,rfl,hM⟩
  .show wpAny _ A.in1 (tryCatch (pyNext (.ref I)) _>>=_) _ _ s;refine aB (fP (W.done s _ _ ac λh' tk G=>?_));show wpAny _ A.in1 (rule _>>=_) _ _ _;exact aB (eP (aH (hR d h' tk (.inl ⟨h0,rfl⟩) λb o hb _ e=>G b o hb e)))
  .show wpAny _ A.in1 (tryCatch (pyNext (.ref I)) _>>=_) _ _ s;refine aB (fP (W.done s _ _ ac λh' tk G=>?_));show wpAny _ A.in1 (updateSeq S (λ_=>#[])>>=_) _ _ _;refine aB (wpAny_updateSeq (G S _ af hS) rfl (aB (fj (aH (hR _ _ tk (.inr ⟨M,t,rfl,hM⟩) λb o J L e=>?_)))));exact(eR _ _ (aV L)).trans (G b o J e)
 | succ k ih=>
  intro i s ob c hk hi ac ag hS hR;have ad:i<n:=by lia
  refine codeAny_builtin F.entry_max_loop ?_;rw [gL fN _];show wpAny _ A.in1 (seqItems? (.ref S)>>=_) _ _ s;refine aB (dP hS rfl ?_);rcases ag with⟨h0,rfl⟩ | ⟨M,t,rfl,hM⟩
  .show wpAny _ A.in1 (tryCatch (pyNext (.ref I)) _>>=_) _ _ s;refine aB (fP (W.item i s _ _ ad ac λv h' tk hP ab G=>?_));obtain⟨tv,rfl⟩:=hval i v hP;have Z:=G S _ af hS;show wpAny _ A.in1 (updateSeq S (λ_=>#[_,_])>>=_) _ _ _;refine aB (wpAny_updateSeq Z rfl ?_);rw [aa];refine aH ⟨fS fN _,ih (i+1) _ [.int (val i) tv,.int (val i) tv] _ (5:) ad (W.frame _ _ _ ab λb ah o e=>?_) (.inr ⟨val i,tv,rfl,⟨i,by lia,rfl⟩,λj hj=>?_⟩) (dX _ Z rfl) λv ae U hv Y=>?_⟩
   .exact(eR _ _ (λh:S=b=>hSf (by rw [h];exact ah))).trans e
   .have:j=i:=by lia
    rw [this];exact Int.le_refl _
   .exact hR v ae U hv λb o J L e=>Y b o J L ((eR _ _ (aV L)).trans (G b o J e))
  .show wpAny _ A.in1 (tryCatch (pyNext (.ref I)) _>>=_) _ _ s;refine aB (fP (W.item i s _ _ ad ac λv h' tk hP ab G=>?_));obtain⟨tv,rfl⟩:=hval i v hP;have Z:=G S _ af hS;show wpAny _ A.in1 (tryCatch (holding [_,_] (richCompare .Gt _ _>>=_)) _>>=_) _ _ _;refine aB (fP (cB (aB (gtI (M:=M) ?_))));refine aB (cB (eY ?_));refine aB (fj (21:))
   by_cases hb:M<val i
   .rw [bK hb];simp only [b_];refine aB (wpAny_updateSeq Z rfl (aB (fj ?_)));rw [aa];refine aH ⟨fS fN _,ih (i+1) _ [.int (val i) tv,.int (val i) tv] _ (5:) ad (W.frame _ _ _ ab λb ah o e=>?_) (.inr ⟨val i,tv,rfl,⟨i,by lia,rfl⟩,λj hj=>?_⟩) (dX _ Z rfl) λv ae U hv Y=>?_⟩
    .exact(eR _ _ (λh:S=b=>hSf (by rw [h];exact ah))).trans e
    .by_cases ai:j=i
     .rw [ai];exact Int.le_refl _
     .have:=hM.2 j (5:);lia
    .exact hR v ae U hv λb o J L e=>Y b o J L ((eR _ _ (aV L)).trans (G b o J e))
   .rw [bN hb];simp only [cD,bU];refine aB (fj ?_);rw [aa];refine aH ⟨fS fN _,ih (i+1) _ [.int M t,.int M t] c (5:) ad ab (.inr ⟨M,t,rfl,?_,λj hj=>?_⟩) Z λv ae U hv Y=>?_⟩
    .obtain⟨j,hj,e⟩:=hM.1;exact⟨j,by lia,e⟩
    .by_cases ai:j=i
     .rw [ai];lia
     .exact hM.2 j (5:)
    .exact hR v ae U hv λb o J L e=>Y b o J L (G b o J e)
end
section
variable{E:Value->Shared->Prop}
theorem MO(a d:Value):argsOk "max" ⟨[a],[(Str.ofString "default",d)]⟩:=by unfold argsOk;kernel_rfl
theorem Mw{xs:List (Int×Tok)}{d:Value}(hh:A.handled=none)(hl:s.heap.IsList l (intItems xs.toArray))
 (h:∀v h' tk,((xs.length=0/\v=d)\/∃M t,v=.int M t/\Mx (numAt xs.toArray) xs.length M)->(∀b o,s.heap.get? b=some o->h'.get? b=some o)->Q v { s with heap:=h',toks:=tk }):
 wpAny (9:) A (call (.builtin "max") [.ref l] [(Str.ofString "default",d)]) Q E s:=by
 have G:(toString "max"++toString ".loop":String)="max.loop":=by decide
 have L:(intItems xs.toArray).size=xs.length:=by simp [intItems]
 refine wpAny_call (codeAny_call_builtin F.plain_max F.entry_max ?_);have U:wpAny (9:) A.in1 (Builtin.«max» ⟨[.ref l],[(Str.ofString "default",d)]⟩) (λfin s'=>match fin with
  | .done f=>(match(Except.ok f:Result)with | .ok (.ret v)=>Q v s' | .ok _=>False | .error e=>E e s')
  | .again Y=>Y.quiet=true/\codeAny (9:) A Y (λr s'=>match r with | .ok (.ret v)=>Q v s' | .ok _=>False | .error e=>E e s') s') E s:=by
  show wpAny _ A.in1 (Builtin.Builtins.bindParams "max" ["key","default"] 0 ⟨[],[(Str.ofString "default",d)]⟩>>=_) _ _ s;refine aB (wpAny_of_eq (show Builtin.Builtins.bindParams "max" ["key","default"] 0 ⟨[],[(Str.ofString "default",d)]⟩=pure [none,some d]from rfl) ?_);refine aB (21:);refine aB (iter_intList hl λae e st Z aa=>?_);subst e;refine aB (cN ?_);have ab:(s.heap.push { cls:=.type "list_iterator",data:=.fields #[.ref l,.int 0 0] }).objs.size∉[s.heap.objs.size,l]:=λhm=>dR _ (Z _ hm);rw [G];have W:=Walks.list (prog:=prog) (w:=w) (A:=A.in1) hh s.heap.objs.size l aa (intItems xs.toArray);refine aH ⟨fS fN _,MN W (numAt xs.toArray) (λ_ _=>intItems_at) d _ ab _ 0 _ [] 0 rfl (bE _) (W.frame _ _ _ st λb _ o e=>aN _ e) (.inl ⟨rfl,rfl⟩) (bD _ rfl) λv h' tk hv hk=>?_⟩;rw [L]at hv;exact h v h' tk hv (old_kept λb o hb e=>hk b o hb (bC (aO e)) (aN _ e))
 simp only [checkBuiltinCall,F.kind_max];cases J:Manifest.signature? "max" with
 | none=>exact aH U
 | some ac=>
  have ad:Bind.checkArgs "max" ac ⟨[.ref l],[(Str.ofString "default",d)]⟩=pure ():=by simpa only [argsOk,J]using MO (.ref l) d
  simp only [ad];exact aH U
end
section
variable{x:Str}{p:Pos}{t:TA}{id:String}{ks:List Str}{r:List V->List V->Hp->VK->Prop}
def Pt(X:Cx)(id:String)(ks:List Str)(r:List V->List V->Hp->VK->Prop):Prop:=
 ∀(pins:List (10:))(s:Shared)(σ:St)(H:Hp)(vs:List V)(us:List Value)(zs:List V)(ws:List Value)(Q:VK),Inv X pins σ H s->Vals vs us->Vals zs ws->r vs zs H Q->wpAny (6:) X.A (call (.builtin id) us (ks.zip ws)) (EP X pins σ Q) X.xe s
def CT(r:List V->List V->Hp->VK->Prop)(t tk:TA):TE:=λσ H Q=>t σ H λvs H1=>tk σ H1 λzs H2=>r vs zs H2 Q
theorem ML(hc:Pt X id ks r)(hg:Gl X x)(hm:X.mg x=none)(hv:bootBuiltins x=some (.builtin id))(ha:PA X (e::es) t)(hkw:PK X kws tk)(hks:(backToKw pos (keywordEach kws X.env)).filterMap (·.1)=ks:=by rfl)
 (hn:x≠"__name__":=by decide) (hdb:(x==("__debug__":Str))=false:=by decide)
 (he:backTo pos (starEach (e::es) X.env)=(false,eval e X.env)::backTo pos (starEach es X.env):=by rfl)
 (hpl:(backTo pos (starEach (e::es) X.env)).any (·.1)=false:=by rfl)
 (hall:(backToKw pos (keywordEach kws X.env)).all (·.1.isSome)=true:=by rfl)
 (hno:(backToKw pos (keywordEach kws X.env)).any (·.1.isNone)=false:=by rfl):PE X (.Call (.Name x p) (e::es) kws pos) (CT r t tk):=by
 intro pins s σ H Q I h;refine eV (Z6 I hg hm hv (callWith_kw ?_ he hpl hall hno) hn hdb);refine thn (ha pos pins s σ H _ I h) λG J ⟨vs,H1,L,M,q⟩=>thn (hkw pos pins J σ H1 _ L q) λU Y ⟨zs,H2,Z,r2,q2⟩=>?_;rw [hks];exact hc pins Y σ H2 vs G zs U Q Z M r2 q2
theorem Ml(hc:X.calm=true):Pt X "max" ["default"] (λvs zs H Q=>∃l ns d,vs=[.ref l]/\zs=[d]/\SqL X.K H l (ns.map V.int)/\(ns=[]->Q d H)/\∀M,M∈ns->(∀n∈ns,n<=M)->Q (.int M) H):=by
 intro pins s σ H vs us zs ws Q I G Z h;obtain⟨l,ns,d,rfl,rfl,hl,q0,q⟩:=h;cases G with
 | cons r rr=>
  cases rr;cases Z with
  | cons rd L=>
   cases L;obtain rfl:_=Value.ref l:=r;obtain⟨its,G,pl,_⟩:=I.list hl;obtain⟨ys,rfl,J⟩:=YU G;have hL:s.heap.IsList l (intItems ys.toArray):=by rw [XC];exact pl.isList
   have aa:ys.length=ns.length:=by rw [<-J];simp
   show wpAny _ _ (call (.builtin "max") [.ref l] [(Str.ofString "default",_)]) _ _ s;refine Mw (I.ok.hd hc) hL λv h' tk hv hk=>?_;have U:=I.kept (t':=tk) hk;rcases hv with⟨h0,rfl⟩ | ⟨M,t,rfl,⟨j,hj,Y⟩,hM⟩
   .exact⟨d,H,U,rd,q0 (fz.mp (5:))⟩
   .rw [O6,J]at Y;refine⟨.int M,H,U,⟨t,rfl⟩,q M ?_ λn hn=>?_⟩
    .rw [<-Y,eh,aD (5:)];exact aQ _
    .obtain⟨i,hi,rfl⟩:=bW hn;have:=hM i (5:);rw [O6,J,eh,aD hi]at this;exact this
end
structure CompG(X:Cx)(xs caps:List Str)(cap:List Nat)(scope:Scope)(cl:List (Str×Addr)):Prop where
 clos:closureFor scope X.env=pure cl
 cell:∀y∈scope.names,y.2≠.cell
 kind:scope.kind=.function
 names:∀y∈scope.names,y.2=.local->scope.names.lookup y.1=some .local
 lx:∀x∈xs,scope.names.lookup x=some .local
 nd:(xs++caps).Nodup
 from_:∀y c,cl.lookup y=some c->X.env.cells.lookup y=some c
 has:∀y,((relabel scope X.env).names.lookup y=some .cell\/(relabel scope X.env).names.lookup y=some .free)->∃c,cl.lookup y=some c
 len:cap.length=caps.length
 cps:∀(i:Nat)(y:Str),caps[i]?=some y->∃j,cap[i]?=some j/\X.N[j]?=some y/\X.env.scope.names.lookup y=some .cell/\(relabel scope X.env).names.lookup y=some .cell
def Xo(cap:List Nat)(σ:St):St:=cap.map λj=>(σ[j]?).getD none
def JK(n:Nat)(wi:TI)(cap:List Nat)(g:TG)(tt:TT)(te:TE):TE:=λσ H Q=>wi σ H λJ H1=>∀acc,H1 acc=none->∃W:Nat->Nat->Hp->Prop,(∃m,W 0 m (upd H1 acc (.lst [])))/\∀i m H2,W i m H2->
 (J.stop i H2/\Q (.ref acc) H2)\/(J.go i H2/\∀x H3,J.yld i H2 x H3->∀as:St,as.length=n->g x (as++Xo cap σ) H3 λσ4 H4=>(∃bs:St,bs.length=n/\σ4=bs++Xo cap σ)/\tt σ4 H4 λok H5=>if ok=true then
  te σ4 H5 (λy H6=>∃ys,H6 acc=some (.lst ys)/\ys.length<sizeLine/\∃m',m'<m/\W (i+1) m' (upd H6 acc (.lst (ys++[y]))))
  else ∃m',m'<m/\W (i+1) m' H5)
theorem WT{xs:List Str}{cl:List (Str×Addr)}
 (O:CompG X xs caps cap scope cl) (hc:X.calm=true) (hi:PI X tg iter wi) (hg:∀C fp s₀ H₀,PG (22:) tg g)
 (ht:∀C fp s₀ H₀,PF (22:) ifs tt)
 (hs:∀x,foldedSetIterable iter X.env x=pure x) {pins:List (10:)}    {Q:VK}   (I:Inv X pins σ H s)
 (h:JK xs.length wi cap g tt te σ H Q)
 (hfin:∀D C H' s',Inv X pins σ H' s'->OwnAt X pins H' s' C->Q (.ref D) H'->compPost (6:) X.A X.xe use QQ (.ref D) C (.ok .next) s')
 (hw:∀{fp:List Addr}{s3:Shared}{H3:Hp}{D:Value}{p9:List (10:)}{s9:Shared}{σ9:St}{H9:Hp}{Q9:VK},Inv X pins σ H3 s3->(∀b∈fp,(b∈X.ex\/X.s₀.heap.objs.size<=b)/\b≠X.env.locals/\(∀x c,X.env.cells.lookup x=some c->c≠b)/\∀p∈X.pn++pins,p.1≠b)->Inv (13:) p9 σ9 H9 s9->te σ9 H9 Q9->
  wpAny (6:) X.A (eval elt (compEnvC scope cl s3.heap.objs.size X.env)) (EP (13:) p9 σ9 Q9) (notedBy (6:) X.A (compEnvC scope cl s3.heap.objs.size X.env) (λx s'=>compPost (6:) X.A X.xe use QQ D s3.heap.objs.size (.error x) s')) s9):
 wpAny (6:) X.A (comprehension (.ListComp elt [⟨tg,iter,ifs,0⟩] scope pos) scope X.env pos' (newList []) false (eval iter X.env) use) QQ X.xe s:=by
 refine wpAny_comprehension_free rfl hs O.clos O.kind O.names (thn (hi pins s σ H _ I h) λv s1 h1=>thn h1 λbq Y h2=>?_);obtain⟨it,fp,tn,J,H1,e,I2,T,t0,f2,hR⟩:=h2;subst e;refine cN (wpAny_newFunctionEnv O.cell (by intro y hy;simp at hy) (λan ap aq=>?_) O.kind);have ah:H1 Y.heap.objs.size=none:=I2.fresh;obtain⟨W,⟨m0,w0⟩,ai⟩:=hR Y.heap.objs.size ah;have L:Inv X pins σ (upd H1 Y.heap.objs.size (.lst [])) { Y with heap:=Y.heap.push { cls:=.type "list",data:=.seq ([]:List Value).toArray } }:=I2.lnew (t':=Y.toks) (ys:=[]) (its:=[]) .nil (bE _);generalize ar:({ Y with heap:=Y.heap.push { cls:=.type "list",data:=.seq ([]:List Value).toArray } }:Shared)=s3 at ap aq L ⊢;generalize hD:Y.heap.objs.size=D at L w0 ai ah ⊢;generalize a9:upd H1 D (.lst [])=H3 at L w0;have U:∀b o,s3.heap.get? b=some o->an.get? b=some o:=λb o e=>(aq.2 b (bC (aO e))).trans (aN _ e);have a1:∀b∈fp,H3 b=none:=λb G=>by
  rw [<-a9,Qe]
  .exact(f2 b G).1
  .intro z;obtain⟨o,e,_⟩:=T.obj _ _ t0 b G;exact absurd (aO e) (by rw [z,hD];exact dR _)
 have ag:H3 s3.heap.objs.size=none:=L.fresh;have aj:∀b∈fp,b≠s3.heap.objs.size:=λb G z=>by
  obtain⟨o,e,_⟩:=T.obj _ _ t0 b G;have h2:s3.heap.objs.size=Y.heap.objs.size+1:=by rw [<-ar];exact dZ ..
  exact absurd (aO e) (by rw [z,h2];exact eQ.mpr (Nat.le_succ _))
 have t3:tn 0 an:=T.keep _ _ _ t0 λb G o e=>U b o (by rw [<-ar];exact aN _ e);have au:(13:).Ok:=by
  refine⟨L.ok.mod,O.kind,L.ok.glob,L.ok.blt,aY _,λy z c e1 e2=>L.ok.inj y z c (O.from_ y c e1) (O.from_ z c e2),λy hy=>O.has y hy,λy c z _=>(nomatch z),L.ok.hd,L.ok.frames,.inl rfl,λb G=>⟨aj b G,λy c e=>?_⟩,L.bs,bT L.ok.bsz L.sz,λb o e G=>?_,λb G z=>?_,L.stack,L.stkFree⟩
  .exact(f2 b G).2.2.2.2.1 y c (O.from_ y c e)
  .rcases(f2 b G).2.2.2.1 with q | q
   .exact L.ok.noex b o e q
   .exact absurd (bZ (aO e) (bT L.ok.bsz q)) (dR _)
  .rcases aM.mp (L.stkSub b z)with q | q
   .exact(f2 b G).2.1 q
   .exact(f2 b G).2.2.1 q
 have I4:Inv (13:) [] (List.replicate xs.length none++Xo cap σ) H3 { s3 with heap:=an,toks:=s3.toks+([]:List (Str×Value)).length }:=by
  obtain⟨m,hn,hl⟩:=id L.loc;refine⟨au,rfl,L.bare,Un.kept U,⟨_,ap,λi y v e1 e2 e3=>?_⟩,λy c e=>?_,ag,λy c e=>L.freeC y c (O.from_ y c e),λp hp=>(nomatch hp),L.hok.kept U,?_⟩
  .by_cases av:i<xs.length
   .rw [fq (by rw [fW];exact av),List.getElem?_replicate,aG av]at e2;cases e2
   .have ba:caps[i-xs.length]?=some y:=by
     have a3:(xs++caps)[i]?=some y:=e1
     rwa [fT (5:)]at a3
    obtain⟨j,hj,hN,hk,aw⟩:=O.cps _ y ba;have ae:(σ[j]?).getD none=some v:=by
     rw [fT (by rw [fW];lia),fW]at e2;unfold Xo at e2
     simpa [hj]using e2
    have a4:σ[j]?=some (some v):=by
     cases q:σ[j]? with
     | none=>rw [q]at ae;cases ae
     | some a=>rw [q]at ae;exact congrArg some ae
    obtain⟨u,r,l⟩:=hl j y v hN a4 (.inr (.inl hk));refine⟨u,r,?_⟩;rcases l with⟨k,_⟩ | ⟨k,c,e,z⟩
    .have k':X.env.scope.names.lookup y=some .local:=k;rw [hk]at k';cases k'
    .obtain⟨c',ax⟩:=O.has y (.inl aw);have:c'=c:=aI ((O.from_ y c' ax).symm.trans e);subst this;refine .inr ⟨.inl aw,c',ax,?_⟩;obtain⟨o,ho,hd⟩:=z;exact⟨o,U _ _ ho,hd⟩
  .obtain⟨v,o,ho,hd⟩:=L.cell y c (O.from_ y c e);exact⟨v,o,U _ _ ho,hd⟩
  .show(List.replicate xs.length none++Xo cap σ).length=(xs++caps).length;simp [Xo,O.len]
 have fin:∀(H':Hp)(bb:St)(s':Shared),Inv (13:) [] bb H' s'->Q (.ref D) H'->
  compPost (6:) X.A X.xe use QQ (.ref D) s3.heap.objs.size (.ok .next) s':=λH' bb s' I' q=>by
  obtain⟨m,hn,_⟩:=id I'.loc;have hU:Un (frs X.stack) fp H3 H' s3.heap s'.heap:=I'.base;have a5:HOk X.prog X.w H' s'.heap:=I'.hok;have bc:s'.os=s3.os:=I'.os;have I6:Inv X pins σ H' s':=L.call' (ch:=fp) bc hU a5 I'.bare (λb G=>⟨(f2 b G).2.2.2.1,(f2 b G).2.1,(f2 b G).2.2.2.2⟩);refine hfin D _ H' s' I6 ⟨⟨m,hn⟩,I'.free,Nat.ne_of_gt L.lt,L.sz,λy c e z=>?_,λp hp z=>?_⟩ q
  .obtain⟨v,hv⟩:=L.cell y c e;exact absurd hv.lt (by rw [z];exact dR _)
  .exact absurd (aO (L.pin p hp).1) (by rw [z];exact dR _)
 have ad:∀{H':Hp},(∀b∈fp,H' b=none)->∀b∈fp,YT (13:) [] H' b:=λhn b G=>
  ⟨hn b G,aj b G,au.exfs b G,.inl G,λy c e=>(f2 b G).2.2.2.2.1 y c (O.from_ y c e),λp hp=>(nomatch hp)⟩
 have ak:codeAny (6:) X.A (.compLoop (.ListComp elt [⟨tg,iter,ifs,0⟩] scope pos) 0 (.ref it) (.ref D) (compEnvC scope cl s3.heap.objs.size X.env))
  (compPost (6:) X.A X.xe use QQ (.ref D) s3.heap.objs.size) { s3 with heap:=an,toks:=s3.toks+([]:List (Str×Value)).length }:=by
  refine codeAny_loop rfl (λn s'=>∃i as H',as.length=xs.length/\Inv (13:) [] (as++Xo cap σ) H' s'/\tn i s'.heap/\(∀b∈fp,H' b=none)/\W i n H') ?_ m0 ⟨0,_,H3,fW,I4,t3,a1,w0⟩;rintro n s5 ⟨i,as,H5,bd,I5,ay,az,w5⟩;show wpAny _ _ ((compTurn (.ListComp elt [⟨tg,iter,ifs,0⟩] scope pos) 0 (.ref it) (.ref D) (compEnvC scope cl s3.heap.objs.size X.env)).onRaise (λx=>do noteFrame x (compEnvC scope cl s3.heap.objs.size X.env);theTreesLotGoes x)) _ _ s5;refine wpAny_noted ?_;rw [compTurn_list];refine aB (wpAny_standAt (aB ?_));have Z:∀{M:Model}{A:Around}{α:Type}{t:Sem α}{P:α->Shared->Prop}{E':Value->Shared->Prop}{s':Shared},wpAny M A t P (λ_ _=>False) s'->wpAny M A t P E' s':=λh=>dC h (λ_ _ q=>q) λ_ _ z=>z.elim;rcases ai i n H5 w5 with⟨a6,qn⟩ | ⟨go,step⟩
  .refine Z (thn (T.done (13:) rfl rfl rfl hc i [] s5 _ H5 (λ_ _=>False) I5 (ad az) ay a6) λr s6 ⟨hr,I6⟩=>?_);subst hr;exact aH (fin H5 _ s6 I6 qn)
  .refine Z (thn (T.item (13:) rfl rfl rfl hc i [] s5 _ H5 (λ_ _=>False) I5 (ad az) ay go) λr s6 ⟨u,hr,h6⟩=>?_);subst hr;refine aB (Z (thn h6 λ_ s7 ⟨y,H7,I7,r7,y7,al,be⟩=>?_));have bf:=I7.pinned (ad be) (T.obj _ _ al);have a7:=step y H7 y7 as bd;refine aB (Z (thn (hg s3.heap.objs.size fp s3 H3 _ s7 _ H7 y _ _ bf r7 a7) λ_ s8 ⟨bt,H8,I8,⟨bs,bg,bp⟩,ao⟩=>?_));subst bp;refine aB (Z (thn (ht s3.heap.objs.size fp s3 H3 _ s8 _ H8 _ I8 ao) λbh s9 ⟨H9,I9,q9⟩=>?_));have af:∀{aa:Hp}{ab:Shared}{m':Nat},Inv (13:) ([]++Jz fp s7.heap) (bs++Xo cap σ) aa ab->m'<n->W (i+1) m' aa->
    ∃m,m<n/\∃i as H',as.length=xs.length/\Inv (13:) [] (as++Xo cap σ) H' ab/\tn i ab.heap/\(∀b∈fp,H' b=none)/\W i m H':=λ{aa ab m'} ac hm am=>by
    refine⟨m',hm,i+1,bs,aa,bg,ac.unpinned,T.keep _ _ _ al λb G o e=>(ac.pin (b,o) (bY _ (bY _ (Z9 G e)))).1,λb G=>?_,am⟩;obtain⟨o,e,d⟩:=T.obj _ _ al b G;exact(ac.pin (b,o) (bY _ (bY _ (Z9 G e)))).2.1
   cases bh with
   | false=>
    rw [aF aT]at q9;obtain⟨m',hm,w9⟩:=q9;exact aH ⟨rfl,af I9 hm w9⟩
   | true=>
    rw [aG rfl]at q9;refine aB (aB (thn (hw L (λb G=>⟨(f2 b G).2.2.2.1,(f2 b G).2.1,(f2 b G).2.2.2.2⟩) I9 q9) λyv ab ⟨yy,aa,ac,bi,ys,bj,a8,m',hm,am⟩=>?_));refine aB (Z (thn (Zo (X:=QH X (xs++caps) scope cl s3.heap.objs.size fp s3 H3) _ ab _ aa (.ref D) [yy] (.ref D) [yv] (λ_ a0=>W (i+1) m' a0) ac rfl (.cons bi .nil) ⟨D,ys,yy,rfl,rfl,bj,a8,am⟩) λ_ br ⟨_,a0,bn,_,bo⟩=>?_));exact aH (aH ⟨rfl,af bn hm bo⟩)
 refine codeAny_compStart_list ak (T.self _ 0 _ _ _ t3 ak)
theorem Ju{X:Cx}{elt iter tg:Expr}{xs:List Str}{ifs:List Expr}{scope:Scope}{pos pos':Pos}{wi:TI}{g:TG}{tt:TT}{te:TE}{cl:List (Str×Addr)}{caps:List Str}{cap:List Nat}
 (O:CompG X xs caps cap scope cl) (hc:X.calm=true) (hi:PI X tg iter wi) (hg:∀C fp s₀ H₀,PG (22:) tg g)
 (ht:∀C fp s₀ H₀,PF (22:) ifs tt) (he:∀C fp s₀ H₀,PE (22:) elt te)
 (hs:∀x,foldedSetIterable iter X.env x=pure x) {pins:List (10:)} {s:Shared} {σ:St} {H:Hp} {Q:VK} {use:Option (Value->Sem Unit)} {QQ:Value->Shared->Prop} (I:Inv X pins σ H s)
 (h:JK xs.length wi cap g tt te σ H Q)
 (hfin:∀D C H' s',Inv X pins σ H' s'->OwnAt X pins H' s' C->Q (.ref D) H'->compPost (6:) X.A X.xe use QQ (.ref D) C (.ok .next) s'):
 wpAny (6:) X.A (comprehension (.ListComp elt [⟨tg,iter,ifs,0⟩] scope pos) scope X.env pos' (newList []) false (eval iter X.env) use) QQ X.xe s:=
 WT O hc hi hg ht hs I h hfin λ_ _ G J=>dC (he _ _ _ _ _ _ _ _ _ G J) (λ_ _ q=>q) λ_ _ L=>L.elim
theorem QO{X:Cx}{elt iter tg:Expr}{xs:List Str}{ifs:List Expr}{scope:Scope}{pos:Pos}{wi:TI}{g:TG}{tt:TT}{te:TE}{cl:List (Str×Addr)}{caps:List Str}{cap:List Nat}
 (O:CompG X xs caps cap scope cl) (hc:X.calm=true) (hi:PI X tg iter wi) (hg:∀C fp s₀ H₀,PG (22:) tg g)
 (ht:∀C fp s₀ H₀,PF (22:) ifs tt) (he:∀C fp s₀ H₀,PE (22:) elt te)
 (hs:∀x,foldedSetIterable iter X.env x=pure x:=by intro _;rfl):
 PE X (.ListComp elt [⟨tg,iter,ifs,0⟩] scope pos) (JK xs.length wi cap g tt te):=by
 intro pins s σ H Q I h;rw [eval_ListComp];exact Ju (use:=none) O hc hi hg ht he hs I h λD C H' s' G o q=>by
  obtain⟨m,J⟩:=o.ns;exact⟨m,J,λh' L=>⟨.ref D,H',o.go G L,rfl,q⟩⟩
theorem Jb{X:Cx}{elt iter tg:Expr}{xs:List Str}{y:Str}{py:Pos}{ifs:List Expr}{scope:Scope}{pos spos:Pos}{wi:TI}{g:TG}{tt:TT}{te:TE}{cl:List (Str×Addr)}{caps:List Str}{cap:List Nat}{i:Nat}
 (O:CompG X xs caps cap scope cl) (hc:X.calm=true) (hi:PI X tg iter wi) (hg:∀C fp s₀ H₀,PG (22:) tg g)
 (ht:∀C fp s₀ H₀,PF (22:) ifs tt) (he:∀C fp s₀ H₀,PE (22:) elt te)
 (hN:X.N.Nodup) (hy:X.N[i]?=some y) (hl:X.env.scope.names.lookup y=some .local)
 (hsw:swapsWith (.ListComp elt [⟨tg,iter,ifs,0⟩] scope pos) (some (.Name y py)) spos.line X.env=pure true:=by rfl)
 (hs:∀x,foldedSetIterable iter X.env x=pure x:=by intro _;rfl):
 PS X (.Assign [.Name y py] (.ListComp elt [⟨tg,iter,ifs,0⟩] scope pos) spos) (Tg (JK xs.length wi cap g tt te) (Q7 i)):=by
 intro pins s σ H D I h;rw [exec_Assign_Name_used _ _ _ _ hsw];refine aB (wpAny_standAt (aB ?_));show wpAny _ X.A (do let _ <-comprehension (.ListComp elt [⟨tg,iter,ifs,0⟩] scope pos) scope X.env _ (newList []) false (eval iter X.env) (some (assign (.Name y py) X.env))) _ _ s;refine aB (thn (Ju (use:=some (assign (.Name y py) X.env)) (QQ:=λ_ s'=>SP X pins D .next s') O hc hi hg ht he hs I h λL C H' s' U o q=>?_) λ_ s' Y=>aH (aH Y));obtain⟨m,M⟩:=o.ns;show wpAny _ X.A (assign (.Name y py) X.env (.ref L)) _ _ s';refine wpAny_assign_Name (XQ (v:=.ref L) U hN hy (.inl hl) rfl (λZ I2 G=>?_) (.inr hl));obtain⟨a,G,ha⟩:=G;have J:C≠a:=by
  rcases ha with z | z
  .rw [z];exact o.loc
  .exact aV (o.cells y a z)
 have o2:OwnAt X pins H' Z C:=⟨⟨m,M.sameBut G J⟩,o.free,o.loc,o.above,o.cells,o.pins⟩;refine⟨m,M.sameBut G J,λh' hb=>?_⟩;exact⟨_,H',o2.go I2 hb,q⟩
section
variable{xs:List Str}{cl:List (Str×Addr)}
theorem YZ{x:Str}(O:CompG X [x] caps cap scope cl):∀C fp s₀ H₀,PG (QH X ([x]++caps) scope cl C fp s₀ H₀) (.Name x px) (Q7 0):=λC fp s₀ H₀=>
 Qq (X:=QH X ([x]++caps) scope cl C fp s₀ H₀) (i:=0) O.nd rfl (.inl (fF (O.lx x (16:)))) (.inr (fF (O.lx x (16:))))
theorem XM{x y:Str}{k:Nat}(O:CompG X [x,y] caps cap scope cl)(hc:X.calm=true):∀C fp s₀ H₀,PG (QH X ([x,y]++caps) scope cl C fp s₀ H₀) (.Tuple [.Name x px,.Name y py] k pos) (Pu X.K 2 (YL (Q7 0) (YL (Q7 1) Mb))):=λC fp s₀ H₀=>
 Zp (X:=QH X ([x,y]++caps) scope cl C fp s₀ H₀) hc (Qv (Qq (i:=0) O.nd rfl (.inl (fF (O.lx x (16:)))) (.inr (fF (O.lx x (16:)))))
  (Qv (Qq (i:=1) O.nd rfl (.inl (fF (O.lx y (16:)))) (.inr (fF (O.lx y (16:))))) Za))
end
theorem Xw{k:NameKind}{y:Str}:∀{l:List (Str×NameKind)},l.lookup y=some k->(y,k)∈l
 | [],h=>by simp at h
 | (n,j)::r,h=>by
  cases G:y==n with
  | true=>
   simp only [dF,G]at h;have:y=n:=by simpa using G
   cases h;rw [this];exact aR
  | false=>
   simp only [dF,G]at h;exact bR _ (Xw h)
theorem JO{y:Str}:∀{l:List (Str×Addr)},l.lookup y=some c->(y,c)∈l
 | [],h=>by simp at h
 | (n,j)::r,h=>by
  cases G:y==n with
  | true=>
   simp only [dF,G]at h;have:y=n:=by simpa using G
   cases h;rw [this];exact aR
  | false=>
   simp only [dF,G]at h;exact bR _ (JO h)
theorem J6{y:Str}{c:Addr}:∀{l:List (Str×Addr)},(y,c)∈l->∃c',l.lookup y=some c'
 | [],h=>by cases h
 | (n,j)::r,h=>by
  cases G:y==n with
  | true=>exact⟨j,by simp only [dF,G]⟩
  | false=>
   simp only [dF,G];rcases aM.mp h with z | z
   .have:y=n:=congrArg Prod.fst z;rw [this]at G;simp at G
   .exact J6 z
theorem Ud{y:Str}(hf:env.scope.kind=.function)(hy:env.kindOf y=some .cell):∀{names:List (Str×NameKind)},names.lookup y=some .free->
 (names.map λ(n,k)=>if(k==NameKind.free&&env.scope.kind== .function&&env.kindOf n==some .cell)then(n,NameKind.cell)else(n,k)).lookup y=some .cell
 | [],h=>by simp at h
 | (n,k)::r,h=>by
  show List.lookup y ((if(k==NameKind.free&&env.scope.kind== .function&&env.kindOf n==some .cell)=true then(n,NameKind.cell)else(n,k))::_)=_;cases G:y==n with
  | true=>
   simp only [dF,G]at h;have e:y=n:=by simpa using G
   cases h;rw [<-e,hf,hy];simp
  | false=>
   simp only [dF,G]at h;have J:=Ud hf hy h;split
   .simp only [dF,G];exact J
   .simp only [dF,G];exact J
def Zf(names:List (Str×NameKind)):List Str:=names.filterMap λz=>if z.2==NameKind.free then some z.1 else none
theorem YR{env:Env}:∀(names:List (Str×NameKind))(caps:List Str)(cs:List Addr)(acc:List (Str×Addr)),Zf names=caps->caps.map (λy=>env.cells.lookup y)=cs.map some->
 (forIn names acc λ(x:Str×NameKind)(r:List (Str×Addr))=>(if(x.2==NameKind.free)=true then do let a <-cellOf env x.1;pure (ForInStep.yield ((x.1,a)::r))else pure (ForInStep.yield r):Sem (ForInStep (List (Str×Addr)))))=(pure ((caps.zip cs).reverse++acc):Sem (List (Str×Addr)))
 | [],caps,cs,acc,h1,h2=>by
  have:caps=[]:=h1.symm;subst this;simp
 | (n,k)::r,caps,cs,acc,h1,h2=>by
  rw [List.forIn_cons]
  by_cases G:(k==NameKind.free)=true
  .have L:caps=n::Zf r:=by
    rw [<-h1];unfold Zf;rw [f6];simp only [G,b_]
   subst L;cases cs with
   | nil=>simp at h2
   | cons c cs=>
    simp only [aS,gv]at h2;have J:cellOf env n=pure c:=by unfold cellOf;rw [h2.1]
    simp only [G,b_,J,pure_bind];rw [YR r _ cs ((n,c)::acc) rfl h2.2];simp
  .have L:caps=Zf r:=by
    rw [<-h1];unfold Zf;rw [f6];simp only [G]
    rfl
   subst L;simp only [G,bU,pure_bind];exact YR r _ cs acc rfl h2
theorem U3{cs:List Addr}(hf:Zf scope.names=caps)(hc:caps.map (λy=>env.cells.lookup y)=cs.map some):closureFor scope env=pure (caps.zip cs).reverse:=by
 have h:=YR (env:=env) scope.names caps cs [] hf hc;rw [dG]at h;unfold closureFor;simp only [bind_pure];exact h
theorem CompG.many{xs:List Str}{cs:List Addr}(hk:scope.kind=.function)(hf:X.env.scope.kind=.function)(hfr:Zf scope.names=caps)
 (hnc:∀z∈scope.names,z.2≠.cell) (hl:∀y∈scope.names,y.2=.local->scope.names.lookup y.1=some .local) (hlx:∀x∈xs,scope.names.lookup x=some .local) (hnd:(xs++caps).Nodup)
 (hfl:∀y∈caps,scope.names.lookup y=some .free) (hce:caps.map (λy=>X.env.scope.names.lookup y)=caps.map λ_=>some .cell) (hcs:caps.map (λy=>X.env.cells.lookup y)=cs.map some)
 (hN:cap.map (λj=>X.N[j]?)=caps.map some):CompG X xs caps cap scope (caps.zip cs).reverse:=by
 have ac:caps.length=cs.length:=by simpa using congrArg List.length hcs
 have U:∀(i:Nat)(y:Str),caps[i]?=some y->∃c,cs[i]?=some c/\X.env.cells.lookup y=some c:=λi y h=>by
  have e:=congrArg (λl=>l[i]?) hcs;simp only [aK,h]at e;cases q:cs[i]? with
  | none=>rw [q]at e;simp at e
  | some c=>rw [q]at e;exact⟨c,rfl,by simpa using e⟩
 refine⟨U3 hfr hcs,hnc,hk,hl,hlx,hnd,λy c h=>?_,λy h=>?_,?_,λi y h=>?_⟩
 .have L:=JO h;rw [List.mem_reverse]at L;obtain⟨i,hi,e⟩:=bW L;have aa:i<caps.length:=by rw [List.length_zip]at hi;lia
  have Y:i<cs.length:=by rw [List.length_zip]at hi;lia
  rw [List.getElem_zip]at e;obtain⟨c',e1,M⟩:=U i caps[i] (aD aa);have e3:caps[i]=y:=congrArg Prod.fst e;have e4:cs[i]=c:=congrArg Prod.snd e;rw [aD Y,e4]at e1;cases e1;rw [<-e3];exact M
 .have L:y∈caps:=by
   have Z:∀k:NameKind,(k=.cell\/k=.free)->(relabel scope X.env).names.lookup y=some k->y∈caps:=λk hk h=>by
    have h1:=Xw h;obtain⟨z,hz,e⟩:=aJ.mp h1;obtain⟨n,kk⟩:=z;have G:kk=.free/\n=y:=by
     dsimp only at e;split at e
     .rename_i q;simp only [bS]at q;exact⟨by simpa using q.1.1,congrArg Prod.fst e⟩
     .have M:kk=k:=congrArg Prod.snd e;refine⟨?_,congrArg Prod.fst e⟩;rcases hk with z | z
      .exact absurd (M.trans z) (hnc _ hz)
      .exact M.trans z
    rw [<-hfr];refine eG.mpr ⟨(n,kk),hz,?_⟩;rw [G.1,G.2];rfl
   rcases h with h | h
   .exact Z _ (.inl rfl) h
   .exact Z _ (.inr rfl) h
  obtain⟨i,hi,e⟩:=bW L;have Y:i<cs.length:=by lia
  refine J6 (c:=cs[i]) ?_;rw [List.mem_reverse];have ab:i<(caps.zip cs).length:=by rw [List.length_zip];lia
  have:=aQ ab;rw [List.getElem_zip,e]at this;exact this
 .have:=congrArg List.length hN
  simpa using this
 .have e:=congrArg (λl=>l[i]?) hN;simp only [aK,h]at e;have L:=aL h;cases q:cap[i]? with
  | none=>rw [q]at e;simp at e
  | some j=>
   rw [q]at e;have J:X.env.scope.names.lookup y=some .cell:=by
    have M:=congrArg (λl=>l[i]?) hce
    simpa only [aK,h,gw,Option.some.injEq]using M
   exact⟨j,rfl,by simpa using e,J,Ud hf J (hfl y L)⟩
theorem Ze{J:It}{n N:Nat}{cs:St}{g:TG}{tt:TT}{te:TE}{H1:Hp}{acc:Addr}{Q:Hp->Prop}(Pv:Nat->List V->Hp->Prop)(h0:Pv 0 [] (upd H1 acc (.lst [])))
 (hstop:∀ys H,Pv N ys H->J.stop N H/\Q H)
 (hstep:∀i ys H,i<N->Pv i ys H->J.go i H/\∀x H3,J.yld i H x H3->∀as:St,as.length=n->g x (as++cs) H3 λσ4 H4=>(∃bs:St,bs.length=n/\σ4=bs++cs)/\tt σ4 H4 λok H5=>if ok=true then te σ4 H5 (Nw N Pv acc i (N-i))else ∃m',m'<N-i/\Vt N Pv (i+1) m' H5):
 ∃W:Nat->Nat->Hp->Prop,(∃m,W 0 m (upd H1 acc (.lst [])))/\∀i m H2,W i m H2->
  (J.stop i H2/\Q H2)\/(J.go i H2/\∀x H3,J.yld i H2 x H3->∀as:St,as.length=n->g x (as++cs) H3 λσ4 H4=>(∃bs:St,bs.length=n/\σ4=bs++cs)/\tt σ4 H4 λok H5=>if ok=true then
   te σ4 H5 (λy H6=>∃ys,H6 acc=some (.lst ys)/\ys.length<sizeLine/\∃m',m'<m/\W (i+1) m' (upd H6 acc (.lst (ys++[y]))))
   else ∃m',m'<m/\W (i+1) m' H5):=by
 refine⟨Vt N Pv,⟨N-0,rfl,bE _,[],h0⟩,?_⟩;rintro i m H2 ⟨rfl,hi,ys,p⟩
 by_cases h:i<N
 .exact .inr (hstep i ys H2 h p)
 .have e:i=N:=by lia
  subst e;exact .inl (hstop ys H2 p)
abbrev Vf(N:Nat)(Pv:Nat->List V->Hp->Prop)(acc:Addr)(i:Nat)(te:TE)(σ:St):Bool->Hp->Prop:=λok H5=>if ok=true then te σ H5 (Nw N Pv acc i (N-i))else ∃m',m'<N-i/\Vt N Pv (i+1) m' H5
abbrev Y2(J:It)(n:Nat)(cs:St)(g:TG)(tt:TT)(te:TE)(H1:Hp)(acc:Addr)(Q:Hp->Prop):Prop:=
 ∃W:Nat->Nat->Hp->Prop,(∃m,W 0 m (upd H1 acc (.lst [])))/\∀i m H2,W i m H2->
  (J.stop i H2/\Q H2)\/(J.go i H2/\∀x H3,J.yld i H2 x H3->∀as:St,as.length=n->g x (as++cs) H3 λσ4 H4=>(∃bs:St,bs.length=n/\σ4=bs++cs)/\tt σ4 H4 λok H5=>if ok=true then
   te σ4 H5 (λy H6=>∃ys,H6 acc=some (.lst ys)/\ys.length<sizeLine/\∃m',m'<m/\W (i+1) m' (upd H6 acc (.lst (ys++[y]))))
   else ∃m',m'<m/\W (i+1) m' H5)
section
variable{K:Fg}{Q:Hp->Prop}
theorem Jk(Pv:Nat->List V->Hp->Prop)(h0:Pv 0 [] (upd H1 acc (.lst [])))(hl:∀i ys H,i<=xs.length->Pv i ys H->SqL K H a xs)
 (hs:∀i x ys H,i<xs.length->xs[i]?=some x->Pv i ys H->tt (some x::cs) H (Vf xs.length Pv acc i te (some x::cs))) (hd:∀ys H,Pv xs.length ys H->Q H):Y2 (Itl K a) 1 cs (Q7 0) tt te H1 acc Q:=by
 refine Ze Pv h0 (λys H p=>⟨⟨xs,hl _ _ _ (4:) p,aY _⟩,hd ys H p⟩) λi ys H hi p=>⟨⟨xs,xs[i],hl _ _ _ (cY hi) p,aD hi⟩,?_⟩;rintro x U ⟨rfl,L⟩ M G;obtain⟨J,rfl⟩: ∃J,M=[J]:=fV.mp G;exact⟨⟨[some x],rfl,rfl⟩,hs i x ys _ hi (L xs (hl _ _ _ (cY hi) p)) p⟩
theorem Ux(Pv:Nat->List V->Hp->Prop)(h0:Pv 0 [] (upd H1 acc (.lst [])))(hl:∀i ys H,i<=xs.length->Pv i ys H->SqT K H a xs)
 (hs:∀i x ys H,i<xs.length->xs[i]?=some x->Pv i ys H->tt (some x::cs) H (Vf xs.length Pv acc i te (some x::cs))) (hd:∀ys H,Pv xs.length ys H->Q H):Y2 (Itt K a) 1 cs (Q7 0) tt te H1 acc Q:=by
 refine Ze Pv h0 (λys H p=>⟨⟨xs,hl _ _ _ (4:) p,aY _⟩,hd ys H p⟩) λi ys H hi p=>⟨⟨xs,xs[i],hl _ _ _ (cY hi) p,aD hi⟩,?_⟩;rintro x U ⟨rfl,L⟩ M G;obtain⟨J,rfl⟩: ∃J,M=[J]:=fV.mp G;exact⟨⟨[some x],rfl,rfl⟩,hs i x ys _ hi (L xs (hl _ _ _ (cY hi) p)) p⟩
theorem Xh{lo:Int}{n:Nat}(Pv:Nat->List V->Hp->Prop)(h0:Pv 0 [] (upd H1 acc (.lst [])))
 (hs:∀i ys H,i<n->Pv i ys H->tt (some (.int (lo+i))::cs) H (Vf n Pv acc i te (some (.int (lo+i))::cs))) (hd:∀ys H,Pv n ys H->Q H):Y2 (Itr lo n) 1 cs (Q7 0) tt te H1 acc Q:=by
 refine Ze Pv h0 (λys H p=>⟨aY _,hd ys H p⟩) λi ys H hi p=>⟨hi,?_⟩;rintro x M ⟨rfl,rfl⟩ L G;obtain⟨J,rfl⟩: ∃J,L=[J]:=fV.mp G;exact⟨⟨[some _],rfl,rfl⟩,hs i ys _ hi p⟩
theorem Wx{as:St}(h:as.length=2):∃a0 a1,as=[a0,a1]:=by
 match as,h with
 | [a0,a1],_=>exact⟨a0,a1,rfl⟩
theorem U7(Pv:Nat->List V->Hp->Prop)(h0:Pv 0 [] (upd H1 acc (.lst [])))(hl:∀i ys H,i<=xs.length->Pv i ys H->SqL K H a xs)
 (hs:∀i x ys H,i<xs.length->xs[i]?=some x->Pv i ys H->∃p u v,x=.ref p/\SqT K H p [u,v]/\tt (some u::some v::cs) H (Vf xs.length Pv acc i te (some u::some v::cs))) (hd:∀ys H,Pv xs.length ys H->Q H):Y2 (Itl K a) 2 cs (Pu K 2 (YL (Q7 0) (YL (Q7 1) Mb))) tt te H1 acc Q:=by
 refine Ze Pv h0 (λys H p=>⟨⟨xs,hl _ _ _ (4:) p,aY _⟩,hd ys H p⟩) λi ys H hi p=>⟨⟨xs,xs[i],hl _ _ _ (cY hi) p,aD hi⟩,?_⟩;rintro x M ⟨rfl,J⟩ U G;obtain⟨Y,Z,rfl⟩:=Wx G;obtain⟨q,u,v,rfl,L,h⟩:=hs i x ys _ hi (J xs (hl _ _ _ (cY hi) p)) p;exact⟨q,[u,v],rfl,L,rfl,u,[v],rfl,v,[],rfl,rfl,⟨[some u,some v],rfl,rfl⟩,h⟩
theorem TW(hlen:xs.length=zs.length)(Pv:Nat->List V->Hp->Prop)(h0:Pv 0 [] (upd H1 acc (.lst [])))(hl:∀i ys H,i<=xs.length->Pv i ys H->SqL K H a xs/\SqL K H b zs)
 (hs:∀i u v p ys H,i<xs.length->xs[i]?=some u->zs[i]?=some v->H p=none->Pv i ys H->tt (some u::some v::cs) (upd H p (.tup [u,v])) (Vf xs.length Pv acc i te (some u::some v::cs))) (hd:∀ys H,Pv xs.length ys H->Q H):Y2 (Itz K a b xs zs) 2 cs (Pu K 2 (YL (Q7 0) (YL (Q7 1) Mb))) tt te H1 acc Q:=by
 refine Ze (N:=xs.length) Pv h0 (λys H p=>?_) λi ys H hi p=>?_
 .obtain⟨G,J⟩:=hl _ _ _ (4:) p;exact⟨⟨G,J,.inl (4:)⟩,hd ys H p⟩
 .obtain⟨G,J⟩:=hl _ _ _ (cY hi) p;refine⟨⟨G,J,hi,by lia⟩,?_⟩;rintro x Z ⟨q,u,v,M,rfl,rfl,U,Y⟩ as L;obtain⟨a0,a1,rfl⟩:=Wx L;exact⟨q,[u,v],rfl,SqT.of Qb,rfl,u,[v],rfl,v,[],rfl,rfl,⟨[some u,some v],rfl,rfl⟩,hs i u v q ys _ hi U Y M p⟩
end
section
variable{κ:Type} [DecidableEq κ]
def UI(kvs:List (κ×V))(k:κ):Option V:=(kvs.find? λkv=>decide (kv.1=k)).map (·.2)
def putK(kvs:List (κ×V))(k:κ)(v:V):List (κ×V):=
 if(kvs.any λkv=>decide (kv.1=k))=true then kvs.map (λkv=>if kv.1=k then(kv.1,v)else kv)else kvs++[(k,v)]
theorem Y9{p:κ×V}{r:List (κ×V)}{k:κ}(e:p.1=k):UI (p::r) k=some p.2:=by simp [UI,cG,e]
theorem Y0{p:κ×V}{r:List (κ×V)}{k:κ}(e:¬p.1=k):UI (p::r) k=UI r k:=by simp [UI,cG,e]
theorem Vq(k:κ):∀kvs:List (κ×V),(kvs.any λkv=>decide (kv.1=k))=(UI kvs k).isSome
 | []=>rfl
 | p::r=>by
  rw [fg]
  by_cases e:p.1=k
  .simp only [Y9 e,bK e,Bool.true_or,Option.isSome_some]
  .rw [Y0 e,bN e,Bool.false_or];exact Vq k r
theorem Ym(kvs:List (κ×V))(k:κ)(v:V):(putK kvs k v).length<=kvs.length+1:=by
 unfold putK;split
 .rw [aE];lia
 .rw [aW,bF,List.length_nil];lia
theorem RelO.isSome_eq{o:Option V}{u:Option Value}(r:RelO o u):o.isSome=u.isSome:=by
 cases o with
 | none=>cases u with
  | none=>rfl
  | some _=>exact(show False from r).elim
 | some _=>cases u with
  | none=>exact(show False from r).elim
  | some _=>rfl
theorem RelO.getD{o:Option V}{u:Option Value}{d:V}{d':Value}(r:RelO o u)(rd:RelV d d'):RelV (o.getD d) (u.getD d'):=by
 cases o with
 | none=>cases u with
  | none=>exact rd
  | some _=>exact(show False from r).elim
 | some _=>cases u with
  | none=>exact(show False from r).elim
  | some _=>exact r
theorem KV.val{kvs:List (κ×V)}{vs:List (κ×Value)}(r:KV kvs vs)(k:κ):RelO (UI kvs k) (valueAt vs k):=by
 unfold KV at r
 induction r with
 | nil=>exact cR
 | @cons p q ps qs h t J=>
  obtain⟨h1,h2⟩:=h
  by_cases e:p.1=k
  .have G:q.1=k:=h1.symm.trans e;have b:valueAt (q::qs) k=some q.2:=by simp [valueAt,cG,G]
   rw [Y9 e,b];exact h2
  .have G:¬q.1=k:=λz=>e (h1.trans z);have b:valueAt (q::qs) k=valueAt qs k:=by simp [valueAt,cG,G]
   rw [Y0 e,b];exact J
theorem KV.any{kvs:List (κ×V)}{vs:List (κ×Value)}(r:KV kvs vs)(k:κ):(kvs.any λkv=>decide (kv.1=k))=vs.any λkv=>decide (kv.1=k):=by
 unfold KV at r
 induction r with
 | nil=>rfl
 | cons h t G=>rw [fg,fg,G,h.1]
theorem KV.repl{kvs:List (κ×V)}{vs:List (κ×Value)}(r:KV kvs vs)(k:κ)(ry:RelV y u):
 KV (kvs.map λkv=>if kv.1=k then(kv.1,y)else kv) (vs.map λkv=>if kv.1=k then(kv.1,u)else kv):=by
 unfold KV at r ⊢
 induction r with
 | nil=>exact .nil
 | @cons p q ps qs h t G=>
  rw [aS,aS];refine .cons ?_ G;obtain⟨h1,h2⟩:=h
  by_cases e:p.1=k
  .rw [aG e,aG (h1.symm.trans e)];exact⟨h1,ry⟩
  .rw [aF e,aF (λz=>e (h1.trans z))];exact⟨h1,h2⟩
theorem KV.put{kvs:List (κ×V)}{vs:List (κ×Value)}(r:KV kvs vs)(k:κ)(ry:RelV y u):KV (putK kvs k y) (stored vs k u):=by
 unfold putK stored;rw [r.any k]
 by_cases e:(vs.any λG=>decide (G.1=k))=true
 .rw [aG e,aG e];exact r.repl k ry
 .rw [aF e,aF e];exact Paired.snoc r ⟨rfl,ry⟩
theorem KV.length{kvs:List (κ×V)}{vs:List (κ×Value)}(r:KV kvs vs):kvs.length=vs.length:=d_ r
end
theorem G2{P:Program}{w:World}{k:Key}{u:Value}(r:RelV (kV k) u):(Qu P w).is k u=true:=by
 cases k with
 | inl i=>obtain⟨t,e⟩:=(show ∃t,u=Value.int i t from r);subst e;exact WE P w i t
 | inr x=>obtain⟨t,e⟩:=(show ∃t,u=Value.str x t from r);subst e;exact Vc P w x t
theorem XA:∀{ks:List Key}{us:List Value},Vals (ks.map kV) us->ItemsAre (Qu P w) ks us
 | [],_,r=>by rw [List.map_nil]at r;cases r;exact .nil
 | k::ks,_,r=>by
  rw [aS]at r;cases r with
  | cons h t=>exact .cons (G2 h) (XA t)
abbrev KT(H:Hp):List (List Key×V)->List (List Key×Addr×Value)->Prop:=Paired λp q=>p.1=q.1/\H q.2.1=some (.tup (p.1.map kV))/\RelV p.2 q.2.2
theorem KT.val{xs:List (List Key×Addr×Value)}(r:KT H kvs xs)(k:List Key):RelO (UI kvs k) ((atKey xs k).map (·.2)):=by
 induction r with
 | nil=>exact cR
 | @cons p q ps qs h t J=>
  obtain⟨h1,_,h2⟩:=h
  by_cases e:p.1=k
  .have G:q.1=k:=h1.symm.trans e;have b:atKey (q::qs) k=some q.2:=by simp [atKey,cG,G]
   rw [Y9 e,b];exact h2
  .have G:¬q.1=k:=λz=>e (h1.trans z);have b:atKey (q::qs) k=atKey qs k:=by simp [atKey,cG,G]
   rw [Y0 e,b];exact J
theorem KT.repl{xs:List (List Key×Addr×Value)}(r:KT H kvs xs)(k:List Key)(ry:RelV y u):
 KT H (kvs.map λkv=>if kv.1=k then(kv.1,y)else kv) (xs.map (putAt k u)):=by
 induction r with
 | nil=>exact .nil
 | @cons p q ps qs h t G=>
  rw [aS,aS];refine .cons ?_ G;obtain⟨h1,h2,J⟩:=h;unfold putAt
  by_cases e:p.1=k
  .rw [aG e,aG (h1.symm.trans e)];exact⟨h1,h2,ry⟩
  .rw [aF e,aF (λz=>e (h1.trans z))];exact⟨h1,h2,J⟩
theorem KT.put{xs:List (List Key×Addr×Value)}(r:KT H kvs xs)(k:List Key)(hb:H b=some (.tup (k.map kV)))(ry:RelV y u):
 KT H (putK kvs k y) (storedH xs k b u):=by
 have e:(kvs.any λG=>decide (G.1=k))=(atKey xs k).isSome:=by
  rw [Vq,(r.val k).isSome_eq,Option.isSome_map]
 unfold putK storedH;rw [e]
 by_cases q:(atKey xs k).isSome=true
 .rw [aG q,aG q];exact r.repl k ry
 .rw [aF q,aF q];exact Paired.snoc r ⟨rfl,hb,ry⟩
theorem KT.keeps{xs:List (List Key×Addr×Value)}(r:KT H kvs xs)(ht:∀b ys,H b=some (.tup ys)->H' b=some (.tup ys)):KT H' kvs xs:=
 Paired.mapP r λ_ _ z=>⟨z.1,ht _ _ z.2.1,z.2.2⟩
theorem Sz{u:HO}(ok:HOk P w H h)(e:Rd H a u):ObjOk P w H h a u:=e.ok ok
theorem Oh{kvs:List (Key×V)}(ok:HOk P w H h)(e:Rd H a (.dK kvs)):kvs.length<=sizeLine/\(a==sysModules)=false/\∃vs,KV kvs vs/\h.DictOf (Qu P w) a vs:=
 show ObjOk P w H h a (.dK kvs)from Sz ok e
theorem AQ{kvs:List (Key×V)}(ok:HOk P w H h)(e:H a=some (.dK kvs)):kvs.length<=sizeLine/\(a==sysModules)=false/\∃vs,KV kvs vs/\h.DictOf (Qu P w) a vs:=Oh ok (.inl e)
theorem Gx{ks:List Key}(ok:HOk P w H h)(e:H a=some (.tup (ks.map kV))):(tupleKind (Qu P w)).is h ks a:=by
 obtain⟨_,its,r,o,h1,h2,n,G⟩:=(show ObjOk P w H h a (.tup (ks.map kV))from ok a _ e);exact⟨o,its.toArray,n,h1,h2,G,by simpa using XA r⟩
theorem M1(ok:HOk P w H h)(e:Rd H a (.dT kvs)):kvs.length<=sizeLine/\(a==sysModules)=false/\
 ∃xs,KT H kvs xs/\h.DictOfH (tupleKind (Qu P w)) a xs:=by
 obtain⟨z,y,xs,r,o,es,ep,h1,h2,J,L,M⟩:=(show ObjOk P w H h a (.dT kvs)from Sz ok e);refine⟨z,y,xs,r,o,es,ep,h1,h2,J,L,λx hx=>?_,M⟩;have all:∀{l:List (List Key×V)}{m:List (List Key×Addr×Value)},KT H l m->∀x∈m,(tupleKind (Qu P w)).is h x.1 x.2.1:=by
  intro l m q
  induction q with
  | nil=>intro x hx;exact nomatch hx
  | @cons p q ps qs G t U=>
   intro x hx;rcases aM.mp hx with e | hx
   .subst e;exact Gx ok (by rw [<-G.1];exact G.2.1)
   .exact U x hx
 exact all r x hx
theorem GK(ok:HOk P w H h)(e:H a=some (.dT kvs)):kvs.length<=sizeLine/\(a==sysModules)=false/\
 ∃xs,KT H kvs xs/\h.DictOfH (tupleKind (Qu P w)) a xs:=M1 ok (.inl e)
def DGet(H:Hp)(a:Addr)(y:V)(r:Option V):Prop:=
 (∃kvs k,Rd H a (.dK kvs)/\y=kV k/\r=UI kvs k)\/∃kvs k b,Rd H a (.dT kvs)/\y=.ref b/\H b=some (.tup (k.map kV))/\r=UI kvs k
def DPut(H:Hp)(a:Addr)(y v:V)(H':Hp):Prop:=
 (∃kvs k,H a=some (.dK kvs)/\y=kV k/\kvs.length<sizeLine/\H'=upd H a (.dK (putK kvs k v))) \/
 ∃kvs k b,H a=some (.dT kvs)/\y=.ref b/\H b=some (.tup (k.map kV))/\kvs.length<sizeLine/\H'=upd H a (.dT (putK kvs k v))
theorem DGet.k{H:Hp}{a:Addr}{kvs:List (Key×V)}{k:Key}(e:H a=some (.dK kvs)):DGet H a (kV k) (UI kvs k):=.inl ⟨kvs,k,.inl e,rfl,rfl⟩
theorem DPut.t{H:Hp}{a b:Addr}{kvs:List (List Key×V)}{k:List Key}{v:V}(e:H a=some (.dT kvs))(eb:H b=some (.tup (k.map kV)))(hl:kvs.length<sizeLine):
 DPut H a (.ref b) v (upd H a (.dT (putK kvs k v))):=.inr ⟨kvs,k,b,e,rfl,eb,hl,rfl⟩
section
variable{pins:List (10:)}{r:Value}{o:Option V}{E:Value->Shared->Prop}
theorem Inv.big(I:Inv X pins σ H s):sysModules<s.heap.objs.size:=by
 have h:mainGlobals<s.heap.objs.size:=(I.mod.glob.keeps I.bk).lt;exact Nat.lt_trans (12:) h
theorem Jj{ob:HO}(I:Inv X pins σ H s)(mu:Mut (H a))(hs:Heap.SameBut a s.heap h')(he:∃q,h'.get? a=some q)(new:ObjOk X.prog X.w (upd H a ob) h' a ob):
 Inv X pins σ (upd H a ob) { s with heap:=h',toks:=t' }:=
 I.write (x:=a) (e:=a) mu (.inl rfl) (λb q G z=>(hs.2 b G).trans z) he new
theorem MX{kvs:List (Key×V)}{vs:List (Key×Value)}(z:kvs.length<=sizeLine)(hd:(a==sysModules)=false)(rel:KV kvs vs)(dd:h'.DictOf (Qu P w) a vs):
 ObjOk P w H' h' a (.dK kvs):=⟨z,hd,vs,rel,dd⟩
theorem Mf{Q:Unit->Shared->Prop}(hu:A.units+1<cLine)(I:Inv X pins σ H s)(g:DPut H a y v H')(ry:RelV y u)(rv:RelV v r)(h:∀s',Inv X pins σ H' s'->Q () s'):
 wpAny (6:) A (setItem (.ref a) u r) Q E s:=by
 rcases g with⟨kvs,k,e,M,l,U⟩ | ⟨kvs,k,b,e,M,eb,l,U⟩
 .subst M U;obtain⟨z,Y,vs,G,Z⟩:=AQ I.hok e;have hz:vs.length<=sizeLine:=by rw [<-G.length];exact z
  have hl:(putK kvs k v).length<=sizeLine:=by have:=Ym kvs k v;lia
  refine wpAny_setItem_pairs (hsz:=hz) (G2 ry) Z λh' J hs=>h _ ?_;have he:∃q,h'.get? a=some q:=let⟨q,_,_,L,_⟩:=J;⟨q,L⟩
  exact Jj I (by rw [e];exact cR) hs he (MX hl Y (G.put k rv) J)
 .subst M U;cases (show u=Value.ref b from ry);obtain⟨z,Y,xs,G,Z⟩:=GK I.hok e;have hz:xs.length<=sizeLine:=by rw [<-d_ G];exact z
  have hl:(putK kvs k v).length<=sizeLine:=by have:=Ym kvs k v;lia
  refine wpAny_setItem_heap (hsz:=hz) (tupleKind_room_in1 hu) (Gx I.hok eb) Z λh' J hs=>h _ ?_;obtain⟨q,es,ep,L,h2,h3,h4,_,h5⟩:=J;refine Jj I (by rw [e];exact cR) hs ⟨q,L⟩ ⟨hl,Y,_,(G.put k eb rv).keeps λc ys ec=>?_,q,es,ep,L,h2,h3,h4,h5⟩;rw [Qe (QB ec e (λz=>nomatch z))];exact ec
end
section
variable{pins:List (10:)}{kvs:List (Key×V)}{k:Key}{E:Value->Shared->Prop}
end
def AF(i:Expr):Prop:=∀ov iv,subscripted i false ov iv=operate [ov,iv] (getItem ov iv)
theorem Sg{E:Value->Shared->Prop}{slice:Expr}{T id:String}
 (hl:typeLookup (.type T) "__getitem__"=pure (some (.builtin id))) (hs:AF slice)
 (h:wpAny (9:) A (eval value env) (λo s₁=>wpAny (9:) A (eval slice env) (λi s₂=>s₂.TypeIs o T/\wpAny (9:) A (getItem o i) Q E s₂) E s₁) E s):
 wpAny (9:) A (eval (.Subscript value slice pos) env) Q E s:=by
 refine Subscript_ (dC h (λo s₁ M=>dC M (λi s₂ G=>?_) λ_ _ x=>x) λ_ _ x=>x);obtain⟨J,G⟩:=G;unfold subscriptTail;refine aB ?_;rw [getitemInPython_of_ne J.not_modules];refine aB (wpAny_specialOf J hl ?_);have fin:wpAny (9:) A (subscripted slice false o i) (λr L=>wpAny (9:) A (letTemporaryGo value o r>>=λ_=>pure r) Q E L) E s₂:=by
  rw [hs o i];exact wpAny_operating (dC G (λr L U=>aB (wpAny_letTemporaryGo (aH U))) λ_ _ x=>x)
 first
  | exact aH (aB fin)
  | exact aB (aH (aB fin))
  | exact aB fin
def Bi(td ty tv:TE):TS:=λD σ H=>tv σ H λv H1=>td σ H1 λx H2=>ty σ H2 λy H3=>∃a H4,x=.ref a/\DPut H3 a y v H4/\D.nx σ H4
section
variable{i:Expr}{td ty:TE}
theorem PY(hu:X.A.units+1<cLine)(ho:PE X o td)(hi:PE X i ty)(hv:PE X value tv)(hs:swapsWith value (some (.Subscript o i pos')) pos.line X.env=pure false):
 PS X (.Assign [.Subscript o i pos'] value pos) (Bi td ty tv):=by
 intro pins s σ H D I h;refine wpAny_Assign_Subscript (thn (hv pins s σ H _ I h) λr G ⟨v,H1,J,L,M⟩=>thn (ho pins G σ H1 _ J M) λu U ⟨x,H2,Y,Z,q2⟩=>thn (hi pins U σ H2 _ Y q2) λiv s3 ⟨y,H3,I3,ry,a,H4,ex,g,q3⟩=>?_) hs;subst ex;obtain rfl:u=Value.ref a:=Z;exact Mf hu I3 g ry L λs4 I4=>⟨σ,H4,I4,q3⟩
end
theorem Pj(h:Heap)(hb:sysModules<h.objs.size):ObjOk P w H (h.push { cls:=.type "dict",data:=.dict #[] }) h.objs.size (.dT []):=
 ⟨bE _,eD.mpr (aV (bC hb)),[],.nil,_,#[],0,bD _ rfl,⟨rfl,rfl,rfl⟩,rfl,rfl,fQ⟩
def OT:TE:=λ_ H Q=>∀p,H p=none->Q (.ref p) (upd H p (.dT []))
theorem WX:PE X (.Dict [] [] pos) OT:=λpins s σ H Q I h=>
 wpAny_Dict_empty ⟨.ref s.heap.objs.size,_,I.laid (a:=s.heap.objs.size) (o:=.dT []) (t':=s.toks) (λ_ _ q=>aN _ q) (4:) (Pj s.heap I.big),rfl,h _ (I.hok.fresh (4:))⟩
structure M2(X:Cx)(o:Expr)(m:Str)(apos:Pos)(e f:Expr)(cpos:Pos):Prop where
 base:attributeBase o m X.env (eval o X.env)=eval o X.env
 few:((backTo cpos (starEach [e,f] X.env)).all (λx=>!x.1)&&(backToKw cpos (keywordEach [] X.env)).all (λx=>x.1.isSome)
  &&decide (([e,f]:List Expr).length+([]:List Keyword).length+(if([]:List Keyword).isEmpty then 0 else 1)<30))=true
 line:(apos.endLine==cpos.line)=true
 trees:backTo cpos (starEach [e,f] X.env)=[(false,eval e X.env),(false,eval f X.env)]
def IsD(H:Hp)(a:Addr):Prop:=(∃kvs,Rd H a (.dK kvs))\/∃kvs,Rd H a (.dT kvs)
theorem Tt{pins:List (10:)}(I:Inv X pins σ H s)(d:IsD H a):
 s.TypeIs (.ref a) "dict"/\ (∀b,Value.ref a=.ref b->∃ob,s.heap.get? b=some ob/\ob.dict=none)/\(a==sysModules)=false:=by
 rcases d with⟨kvs,e⟩ | ⟨kvs,e⟩
 .obtain⟨_,J,vs,_,G⟩:=Oh I.hok e;refine⟨G.typeIs,λb q=>?_,J⟩;cases q;obtain⟨ob,_,_,h1,h2,_⟩:=G;exact⟨ob,h1,h2.2.1⟩
 .obtain⟨_,J,xs,_,G⟩:=M1 I.hok e;refine⟨G.typeIs,λb q=>?_,J⟩;cases q;obtain⟨ob,_,_,h1,h2,_⟩:=G;exact⟨ob,h1,h2.2.1⟩
section
variable{pins:List (10:)}{d:V}{r:Value}{o:Option V}{E:Value->Shared->Prop}
theorem S1(hu:A.units+1<cLine)(I:Inv X pins σ H s)(g:DGet H a y o)(ry:RelV y u)(rd:RelV d r)(h:∀w' s',Inv X pins σ H s'->RelV (o.getD d) w'->Q w' s'):
 wpAny (6:) A (call (.builtin "dict.get") [.ref a,u,r]) Q E s:=by
 rcases g with⟨kvs,k,e,L,l⟩ | ⟨kvs,k,b,e,L,U,l⟩
 .subst L;obtain⟨z,M,vs,G,J⟩:=Oh I.hok e;refine call_meetsIn PySem.F.slot_dict_get J.typeIs PySem.F.entry_dict_get (PySem.F.args_dict_get_3 _ _ _) (meets_dict_get_default (Qu X.prog X.w) a (G2 ry) M r) ⟨_,J.mapOf,h _ _ (I.tok _) ?_⟩;rw [l];exact(G.val k).getD rd
 .subst L;cases (show u=Value.ref b from ry);obtain⟨z,M,xs,G,J⟩:=M1 I.hok e;refine call_meetsIn PySem.F.slot_dict_get J.typeIs PySem.F.entry_dict_get (PySem.F.args_dict_get_3 _ _ _) (meetsH_dict_get_default (tupleKind (Qu X.prog X.w)) a b M r) ⟨tupleKind_room_in1 hu,k,xs,Gx I.hok U,J,h _ _ (I.tok _) ?_⟩;rw [l];exact(G.val k).getD rd
end
def Tn(td ty tx:TE):TE:=λσ H Q=>td σ H λx H1=>∃a,x=.ref a/\IsD H1 a/\ty σ H1 λy H2=>tx σ H2 λz H3=>∃o,DGet H3 a y o/\Q (o.getD z) H3
section
variable{f:Expr}{td ty tx:TE}
theorem OO(hu:X.A.units+1<cLine)(ho:PE X o td)(he:PE X e ty)(hf:PE X f tx)(m:M2 X o "get" apos e f cpos):PE X (.Call (.Attribute o "get" apos) [e,f] [] cpos) (Tn td ty tx):=by
 intro pins s σ H Q I h;refine wpAny_Call_method m.base m.few m.line PySem.F.plainAttrs_dict PySem.F.slot_dict_get PySem.F.type_dict_get (thn (ho pins s σ H _ I h) λu L ⟨x,H1,G,M,a,ex,d,U⟩=>?_);subst ex;obtain rfl:u=Value.ref a:=M;obtain⟨Y,Z,_⟩:=Tt G d;refine⟨Y,Z,?_⟩;rw [m.trees];refine Calls.callWith_builtin rfl (Calls.evalArgs_plain (Calls.spliced_cons (thn (he pins L σ H1 _ G U) λiv s2 ⟨y,H2,I2,ry,q2⟩=>
  Calls.spliced_cons (thn (hf pins s2 σ H2 _ I2 q2) λfv s3 ⟨z,H3,I3,rz,ov,g,q3⟩=>Calls.spliced_nil ?_))))
 exact S1 hu I3 g ry rz λw' s4 I4 J=>⟨_,H3,I4,J,q3⟩
end
section
variable{pins:List (10:)}{kvs:List (Key×V)}{E:Value->Shared->Prop}
end
section
variable{pins:List (10:)}{E:Value->Shared->Prop}
end
end L2
namespace Srt
open PySem PySem.W PyProof.Rows
variable{α β:Type}{key:Nat->O.α}
def Ok(O:KeyOrd)(key:Nat->O.α)(n:Nat)(Q:α->Prop):KasT α->Prop
 | .ret a=>Q a
 | .ask i j k=>i<n/\j<n/\Ok O key n Q (k (O.blt (key i) (key j)))
theorem Ok.bind{t:KasT α}{f:α->KasT β}{Q:β->Prop}:Ok O key n (λa=>Ok O key n Q (f a)) t->Ok O key n Q (t.bind f):=by
 induction t with
 | ret a=>exact id
 | ask i j k G=>exact λh=>⟨h.1,h.2.1,G _ h.2.2⟩
theorem Ok.wp{cmp:Nat->Nat->(Bool->Shared->Prop)->Shared->Prop}(hc:∀i j C,i<n->j<n->C (O.blt (key i) (key j)) s->cmp i j C s){G:α->Shared->Prop}{Q:α->Prop}(hq:∀a,Q a->G a s){t:KasT α}:Ok O key n Q t->t.kasWp cmp G s:=by
 induction t with
 | ret a=>exact hq a
 | ask i j k J=>exact λh=>hc i j _ h.1 h.2.1 (J _ h.2.2)
def Pm(n:Nat)(p:Array Nat):Prop:=p.toList.Perm (List.range n)
theorem Pm.size(h:Pm n p):p.size=n:=by
 have:=h.length_eq
 simpa using this
theorem Pm.lt(h:Pm n p)(hi:i<n):p.getD i 0<n:=by
 have G:i<p.size:=by rw [h.size];exact hi
 have e:p.getD i 0=p[i]:=by simp [Array.getD,G]
 rw [e];have:p[i]∈p.toList:=by simp
 exact cO.mp (h.mem_iff.mp this)
theorem Pm.of{q:Array Nat}(h:Pm n p)(e:q.Perm p):Pm n q:=(Array.perm_iff_toList_perm.mp e).trans h
variable(key) in
def kk(p:Array Nat)(i:Nat):O.α:=key (p.getD i 0)
theorem Yd{q:Array Nat}(h:p[i]?=q[j]?):kk key p i=kk key q j:=by
 unfold kk;rw [Array.getD_eq_getD_getElem?,Array.getD_eq_getD_getElem?,h]
variable(key) in
def Up(p:Array Nat)(k:Nat):Prop:=∀i j,i<=j->j<k->O.kle (kk key p i) (kk key p j)
variable(key) in
def LS(p:Array Nat)(k:Nat):Prop:=∀i j,i<=j->j<k->O.kle (kk key p j) (kk key p i)
theorem VC(hj:j<=p.size)(k:Nat):kk key (kas_rev p i j) k=if i<=k/\k<j then kk key p (i+j-1-k)else kk key p k:=by
 have e:=getElem?_mirror_all (xs:=p) (i:=i) hj k;unfold kas_rev
 by_cases h:i<=k/\k<j
 .rw [aG h]at e ⊢;exact Yd e
 .rw [aF h]at e ⊢;exact Yd e
theorem Jt{p:Array Nat}{i j:Nat}(hj:j<=p.size)(heq:∀k,i<=k->k<j->kk key p k=kk key p (j-1))(k:Nat):kk key (kas_rev p i j) k=kk key p k:=by
 rw [VC hj]
 by_cases h:i<=k/\k<j
 .rw [aG h,heq _ (5:) (5:),heq k h.1 h.2]
 .rw [aF h]
theorem Pm.rev(h:Pm n p)(i j:Nat):Pm n (kas_rev p i j):=h.of (mirror_perm _ _ _ _)
theorem Rq{m:Nat}(h1:1<=m)(hs:Up key p m)(h:O.kle (kk key p (m-1)) (kk key p m)):Up key p (m+1):=λi j G L=>by
 by_cases J:j<m
 .exact hs i j G J
 .have:j=m:=by lia
  subst this
  by_cases hi:i=j
  .subst hi;exact fO _
  .exact KeyOrd.kle_trans (hs i (j-1) (5:) (5:)) h
theorem YB{m:Nat}(h1:1<=m)(hs:LS key p m)(h:O.kle (kk key p m) (kk key p (m-1))):LS key p (m+1):=λi j G L=>by
 by_cases J:j<m
 .exact hs i j G J
 .have:j=m:=by lia
  subst this
  by_cases hi:i=j
  .subst hi;exact fO _
  .exact KeyOrd.kle_trans h (hs i (j-1) (5:) (5:))
theorem V5(hP:Pm n p){Q:Nat->Prop}:∀(f m:Nat),1<=m->m+f<=n->Up key p m->(∀m',m<=m'->m'<=m+f->Up key p m'->(m'=m+f\/O.klt (kk key p m') (kk key p (m'-1)))->Q m')->Ok O key n Q (kas_asc p f m)
 | 0,m,_,_,G,h=>h m (4:) (4:) G (.inl rfl)
 | f+1,m,h1,L,G,h=>by
  refine⟨hP.lt (5:),hP.lt (5:),?_⟩;show Ok O key n Q (if O.blt (kk key p m) (kk key p (m-1))=true then .ret m else kas_asc p f (m+1));cases J:O.blt (kk key p m) (kk key p (m-1))with
  | true=>
   rw [aG rfl];exact h m (4:) (5:) G (.inr J)
  | false=>
   rw [aF aT];exact V5 hP f (m+1) (5:) (5:) (Rq h1 G J) λm' a b c d=>h m' (5:) (5:) c (by rcases d with d | d;exact .inl (5:);exact .inr d)
variable(key) in
def Ac(p:Array Nat)(m q:Nat):Prop:=q+1<=m/\∀i,m-(q+1)<=i->i<m->kk key p i=kk key p (m-1)
theorem Ja{Q:Array Nat×Nat×Nat->Prop}:∀(f:Nat)(p:Array Nat)(m q:Nat),Pm n p->1<=m->m+f<=n->LS key p m->Ac key p m q->
 (∀p' m' q',Pm n p'->m<=m'->m'<=m+f->LS key p' m'->Ac key p' m' q'->Q (p',m',q'))->Ok O key n Q (kas_desc f p m q)
 | 0,p,m,q,G,_,_,L,J,h=>h p m q G (4:) (4:) L J
 | f+1,p,m,q,G,h1,hn,L,J,h=>by
  have aa:=G.size;refine⟨G.lt (5:),G.lt (5:),?_⟩;show Ok O key n Q (if O.blt (kk key p m) (kk key p (m-1))=true then(if q>0 then kas_desc f (kas_rev p (m-(q+1)) m) (m+1) 0 else kas_desc f p (m+1) 0)
   else .ask (p.getD (m-1) 0) (p.getD m 0) λd=>if d=true then .ret (p,m,q)else kas_desc f p (m+1) (q+1))
  have one:∀p':Array Nat,Ac key p' (m+1) 0:=λp'=>⟨by lia,λi a b=>by congr 1;lia⟩;cases M:O.blt (kk key p m) (kk key p (m-1))with
  | true=>
   rw [aG rfl];have U:=YB h1 L (KeyOrd.kle_of_klt M)
   by_cases Y:q>0
   .rw [aG Y];have e:=Jt (key:=key) (p:=p) (i:=m-(q+1)) (j:=m) (5:) J.2;refine Ja f _ (m+1) 0 (G.rev _ _) (5:) (5:) (λi j a b=>by rw [e,e];exact U i j a b) (one _) λp' m' q' a b c d g=>h p' m' q' a (5:) (5:) d g
   .rw [aF Y];exact Ja f p (m+1) 0 G (5:) (5:) U (one _) λp' m' q' a b c d g=>h p' m' q' a (5:) (5:) d g
  | false=>
   rw [aF aT];refine⟨G.lt (5:),G.lt (5:),?_⟩;show Ok O key n Q (if O.blt (kk key p (m-1)) (kk key p m)=true then .ret (p,m,q)else kas_desc f p (m+1) (q+1));cases Z:O.blt (kk key p (m-1)) (kk key p m)with
   | true=>
    rw [aG rfl];exact h p m q G (4:) (5:) L J
   | false=>
    rw [aF aT];have he:kk key p m=kk key p (m-1):=KeyOrd.kle_antisymm Z M;refine Ja f p (m+1) (q+1) G (5:) (5:) (YB h1 L Z) ⟨by have:=J.1;lia,λi a b=>?_⟩ λp' m' q' a b c d g=>h p' m' q' a (5:) (5:) d g;rw [Nat.add_sub_cancel]
    by_cases hi:i=m
    .rw [hi]
    .rw [he];exact J.2 i (5:) (5:)
theorem Le{m:Nat}(hP:Pm n p)(h1:1<=m)(hm:m<=n)(hs:LS key p m){Q:Nat×Array Nat->Prop}(h:∀m' p',Pm n p'->1<=m'->m'<=n->Up key p' m'->Q (m',p')):Ok O key n Q (kas_tail3 m n p):=by
 have G:=hP.size;refine Ok.bind (V5 (hP.rev 0 m) (n-m) m h1 (5:) (λi j J L=>?_) λm' a b c _=>h m' _ (hP.rev 0 m) (5:) (5:) c);rw [VC (5:),VC (5:),aG (5:),aG (5:)];exact hs _ _ (5:) (5:)
theorem UP{m:Nat}(hP:Pm n p)(h1:1<=m)(hm:m+1<=n)(hs:LS key p (m+1)){Q:Nat×Array Nat->Prop}(h:∀m' p',Pm n p'->1<=m'->m'<=n->Up key p' m'->Q (m',p')):Ok O key n Q (kas_descPart m n p):=by
 refine Ok.bind (Ja (n-(m+1)) p (m+1) 0 hP (5:) (5:) hs ⟨by lia,λi a b=>by congr 1;lia⟩ λp' m' G a b c d g=>?_);have L:=a.size;show Ok O key n Q (if G>0 then kas_tail3 m' n (kas_rev p' (m'-(G+1)) m')else kas_tail3 m' n p')
 by_cases J:G>0
 .rw [aG J];have e:=Jt (key:=key) (p:=p') (i:=m'-(G+1)) (j:=m') (5:) g.2;exact Le (a.rev _ _) (5:) (5:) (λi j x y=>by rw [e,e];exact d i j x y) h
 .rw [aF J];exact Le a (5:) (5:) d h
theorem OY(hP:Pm n p)(h1:1<=n){Q:Nat×Array Nat->Prop}(h:∀m' p',Pm n p'->1<=m'->m'<=n->Up key p' m'->Q (m',p')):Ok O key n Q (kas_count n p):=by
 have Z:=hP.size;refine Ok.bind (V5 hP (n-1) 1 (4:) (5:) (λi j a b=>?_) λm a b c d=>?_)
 .have:i=j:=by lia
  subst this;exact fO _
 .show Ok O key n Q (if(m==n)=true then .ret (m,p)else if m>1 then .ask (p.getD 0 0) (p.getD (m-1) 0) λc=>if c=true then .ret (m,p)else kas_descPart m n (kas_rev p 0 m)else kas_descPart m n p)
  by_cases L:m=n
  .rw [aG (by simpa using L)];exact h m p hP a (5:) c
  .rw [aF (by simpa using L)];have J:O.klt (kk key p m) (kk key p (m-1)):=by
    rcases d with d | d
    .exact absurd (5:) L
    .exact d
   by_cases M:m>1
   .rw [aG M];refine⟨hP.lt (5:),hP.lt (5:),?_⟩;show Ok O key n Q (if O.blt (kk key p 0) (kk key p (m-1))=true then .ret (m,p)else kas_descPart m n (kas_rev p 0 m));cases U:O.blt (kk key p 0) (kk key p (m-1))with
    | true=>
     rw [aG rfl];exact h m p hP a (5:) c
    | false=>
     rw [aF aT];have G:∀k,0<=k->k<m->kk key p k=kk key p (m-1):=λk _ Y=>
      KeyOrd.kle_antisymm (c k (m-1) (5:) (5:)) (KeyOrd.kle_trans U (c 0 k (5:) Y))
     have e:=Jt (key:=key) (p:=p) (i:=0) (j:=m) (5:) G;refine UP (hP.rev _ _) (5:) (5:) (YB (5:) (λi j x y=>?_) ?_) h
     .rw [e,e,G i (5:) (5:),G j (5:) y];exact fO _
     .rw [e,e];exact KeyOrd.kle_of_klt J
   .rw [aF M];have:m=1:=by lia
    subst this;refine UP hP (4:) (5:) (YB (4:) (λi j x y=>?_) (KeyOrd.kle_of_klt J)) h;have:i=j:=by lia
    subst this;exact fO _
theorem Jr{k:Nat}(hP:Pm n p)(hk:k<n)(hs:Up key p k){Q:Nat->Prop}
 (h:∀l,l<=k->(∀i,i<l->O.kle (kk key p i) (kk key p k))->(∀i,l<=i->i<k->O.klt (kk key p k) (kk key p i))->Q l):∀(f l r:Nat),l<=r->r<=k->r-l<=f->
  (∀i,i<l->O.kle (kk key p i) (kk key p k))->(∀i,r<=i->i<k->O.klt (kk key p k) (kk key p i))->Ok O key n Q (kas_place p k f l r)
 | 0,l,r,a,b,c,d,e=>by
  have:l=r:=by lia
  subst this;exact h l b d e
 | f+1,l,r,a,b,c,d,e=>by
  show Ok O key n Q (if l>=r then .ret l else .ask (p.getD k 0) (p.getD ((l+r)/2) 0) λc=>if c=true then kas_place p k f l ((l+r)/2)else kas_place p k f ((l+r)/2+1) r)
  by_cases G:l>=r
  .rw [aG G];have:l=r:=by lia
   subst this;exact h l b d e
  .rw [aF G];refine⟨hP.lt hk,hP.lt (5:),?_⟩;show Ok O key n Q (if O.blt (kk key p k) (kk key p ((l+r)/2))=true then kas_place p k f l ((l+r)/2)else kas_place p k f ((l+r)/2+1) r);cases J:O.blt (kk key p k) (kk key p ((l+r)/2))with
   | true=>
    rw [aG rfl];exact Jr hP hk hs h f l ((l+r)/2) (5:) (5:) (5:) d λi x y=>KeyOrd.klt_of_klt_of_kle J (hs _ _ x y)
   | false=>
    rw [aF aT];exact Jr hP hk hs h f ((l+r)/2+1) r (5:) b (5:) (λi x=>KeyOrd.kle_trans (hs i ((l+r)/2) (5:) (5:)) J) e
theorem XR{k d:Nat}(hs:k<p.size)(hd:d<=k)(i:Nat):kk key (bubble p k d) i=if i=k-d then kk key p k else if k-d<i/\i<=k then kk key p (i-1)else kk key p i:=by
 have e:=getElem?_bubble hs d hd i
 by_cases h1:i=k-d
 .rw [aG h1]at e ⊢;exact Yd e
 .rw [aF h1]at e ⊢
  by_cases h2:k-d<i/\i<=k
  .rw [aG h2]at e ⊢;exact Yd e
  .rw [aF h2]at e ⊢;exact Yd e
theorem OH{Q:Array Nat->Prop}:∀(f:Nat)(p:Array Nat)(k:Nat),Pm n p->1<=k->k+f=n->Up key p k->(∀p',Pm n p'->Up key p' n->Q p')->Ok O key n Q (kas_bin f p k)
 | 0,p,k,G,_,L,J,h=>h p G (by rw [<-L];exact J)
 | f+1,p,k,G,h1,L,J,h=>by
  have U:=G.size;have M:k<n:=by lia
  refine Ok.bind (Jr G M J (λl a b c=>?_) k 0 k (bE _) (4:) (5:) (λi x=>by lia) λi x y=>by lia);refine OH f _ (k+1) (G.of (bubble_perm _ _ _)) (5:) (5:) (λi j Y Z=>?_) h;rw [XR (5:) (5:),XR (5:) (5:),show k-(k-l)=l by lia]
  repeat' split
  all_goals first
   | (exfalso;lia)
   | exact fO _
   | exact b _ (5:)
   | exact KeyOrd.kle_of_klt (c _ (5:) (5:))
   | exact J _ _ (5:) (5:)
theorem sort_ok(h1:1<=n){Q:Array Nat->Prop}(h:∀p,Pm n p->Up key p n->Q p):Ok O key n Q (kas_sort n):=by
 have J:Pm n (List.toArray (List.range n)):=List.Perm.refl _;refine Ok.bind (OY J h1 λm p a b c d=>?_);show Ok O key n Q (if m<n then kas_bin (n-max m 1) p (max m 1)else .ret p);have L:max m 1=m:=by lia
 by_cases G:m<n
 .rw [aG G,L];exact OH (n-m) p m a b (5:) d h
 .rw [aF G];have:m=n:=by lia
  subst this;exact h p a d
end Srt
namespace L2
open PySem PySem.Spec PyProof.Rows PySem.W
theorem Xd:∀a:List Int,HT.lexLt a a=false
 | []=>rfl
 | x::r=>by rw [HT.lexLt_cons,aG rfl];exact Xd r
theorem Xz:∀a b c:List Int,HT.lexLt a b=true->HT.lexLt b c=true->HT.lexLt a c=true
 | [],[],c,h,_=>by cases h
 | [],_::_,[],_,h=>by cases h
 | [],_::_,_::_,_,_=>rfl
 | _::_,[],_,h,_=>by cases h
 | _::_,_::_,[],_,h=>by cases h
 | x::a,y::b,z::c,h1,h2=>by
  rw [HT.lexLt_cons]at h1 h2 ⊢
  by_cases J:x=y
  .subst J;rw [aG rfl]at h1
   by_cases G:x=z
   .subst G;rw [aG rfl]at h2 ⊢;exact Xz a b c h1 h2
   .rw [aF G]at h2 ⊢;exact h2
  .rw [aF J]at h1;have L:x<y:=bM h1
   by_cases G:y=z
   .subst G;rw [aF J];exact h1
   .rw [aF G]at h2;have M:y<z:=bM h2;rw [aF (5:)];exact bK (5:)
theorem LF:∀a b c:List Int,HT.lexLt a c=true->HT.lexLt a b=true\/HT.lexLt b c=true
 | _,[],[],h=>by
  rename_i a;cases a<;>cases h
 | [],[],_::_,_=>.inr rfl
 | _::_,[],_::_,_=>.inr rfl
 | [],_::_,_,_=>.inl rfl
 | _::_,_::_,[],h=>by cases h
 | x::a,y::b,z::c,h=>by
  rw [HT.lexLt_cons]at h ⊢;rw [HT.lexLt_cons]
  by_cases J:x=y
  .subst J;rw [aG rfl]
   by_cases G:x=z
   .subst G;rw [aG rfl]at h ⊢;exact LF a b c h
   .rw [aF G]at h ⊢;exact .inr h
  .rw [aF J]
   by_cases L:x<y
   .exact .inl (bK L)
   .right
    by_cases G:x=z
    .subst G;rw [aF (5:)];exact bK (5:)
    .rw [aF G]at h;have M:x<z:=bM h;rw [aF (5:)];exact bK (5:)
theorem XG:∀a b:List Int,HT.lexLt a b=false->HT.lexLt b a=false->a=b
 | [],[],_,_=>rfl
 | [],_::_,h,_=>by cases h
 | _::_,[],_,h=>by cases h
 | x::a,y::b,h1,h2=>by
  rw [HT.lexLt_cons]at h1 h2
  by_cases e:x=y
  .subst e;rw [aG rfl]at h1 h2;rw [XG a b h1 h2]
  .rw [aF e]at h1;rw [aF (aV e)]at h2;have:=of_decide_eq_false h1;have:=of_decide_eq_false h2;lia
@[reducible] def lexOrd:KeyOrd:=⟨List Int,HT.lexLt,Xd,Xz,LF,XG⟩
def Dq(h:Heap)(a:Addr)(p:List Int):Prop:=∃its:List Value,h.IsTuple a its.toArray/\IntsAre its p
section
variable{E:Value->Shared->Prop}
end
section
variable{E:Value->Shared->Prop}
theorem WV{vs:List Value}{P:PySem.Fin->Shared->Prop}(O:KeyOrd)(key:Nat->O.α)(κ:SortKind)(ho:s.heap.get? a=some (seqObj "list" vs.toArray n))(h64:vs.length<64)
 (hk:∀(s':Shared)(Q:SortKind->Shared->Prop),(∀b o,b≠a->s.heap.get? b=some o->s'.heap.get? b=some o)->2<=vs.length->Q κ s'->wpAny (9:) A (keyKind' vs.toArray) Q E s')
 (hc:∀(s':Shared)(i j:Nat)(C:Bool->Shared->Prop),(∀b o,b≠a->s.heap.get? b=some o->s'.heap.get? b=some o)->i<vs.length->j<vs.length->C (O.blt (key i) (key j)) s'->wpAny (9:) A (keyLt' κ (vs.getD i Value.none) (vs.getD j Value.none)) C (λ_ _=>False) s')
 (h:∀p:Array Nat,Srt.Pm vs.length p->Srt.Up (O:=O) key p vs.length->P (.done (.ret .none)) { s with heap:=sortedHeap s.heap a vs (p.toList.map λi=>vs.getD i Value.none).toArray }):
 wpAny (9:) A (Builtin.«list.sort» ⟨[.ref a],[]⟩) P E s:=by
 have ab:a<s.heap.objs.size:=aO ho;rw [list_sort_plain];refine aB (listItems_at ho rfl ?_);refine aB (listUpdate_at ho rfl ?_ (by rw [aZ,cQ];lia) (bE _));obtain⟨U,M⟩: ∃U,(s.heap.update a (Obj.mapSeq λ_=>(#[]:Array Value))).get? a=some (seqObj "list" #[] U):=⟨_,get?_update_seq ho λ_=>#[]⟩;refine aB (seqEpoch_at M rfl (aB (wpAny_newTuple ?_ (by show vs.length<=_;rw [cQ];lia))));refine aB (wpAny_newList (cB ?_) (bE _));have keep:∀b o,b≠a->s.heap.get? b=some o->((11:).push (seqObj "list" #[] 0)).get? b=some o:=λb o hb e=>
  aN _ (aN _ ((Heap.get?_update_ne _ _ _ _ hb).trans e))
 have J:((11:).push (seqObj "list" #[] 0)).get? a=some (seqObj "list" #[] U):=aN _ (aN _ M);show wpAny (9:) A _ P E { s with heap:=(11:).push (seqObj "list" #[] 0) };dsimp only;have hz:vs.toArray.size=vs.length:=aZ
 by_cases h2:vs.toArray.size<2
 .rw [aG h2,aG h2];refine aB (21:);rw [StateT.run_pure];refine aB (21:);dsimp only;refine aB (seqEpoch_at J rfl ?_);have e2:(arrOf (SortSt.mk' general' (vs.toArray.zip vs.toArray) #[] 7 none)).map (·.2)=vs.toArray:=by
   show(vs.toArray.zip vs.toArray).map (·.2)=vs.toArray;apply Array.toList_inj.mp;rw [Array.toList_map,Array.toList_zip];exact List.map_snd_zip (4:)
  rw [e2];refine aB (listUpdate_at J rfl ?_ (hsz2:=by show vs.toArray.size<=_;rw [cQ];lia));simp only [bne_self_eq_false,cD,bU];have:=h (List.range vs.length).toArray (List.Perm.refl _) (λi j ac Y=>by
   have:i=j:=by lia
   subst this;exact O.irrefl _)
  have e3:((List.range vs.length).toArray.toList.map λi=>vs.getD i Value.none)=vs:=by
   apply List.ext_getElem (16:);intro i a b;simp at a;simp [a]
  rw [e3]at this;exact aH this
 .rw [aF h2,aF h2];refine aB ?_;refine hk { s with heap:=(11:).push (seqObj "list" #[] 0) } _ keep (5:) ?_;refine aB (dC (kat_run (Q:=λL s'=>∃p:Array Nat,Srt.Pm vs.length p/\Srt.Up (O:=O) key p vs.length/\(arrOf L).map (·.2)=(p.toList.map λi=>vs.getD i Value.none).toArray/\failedOf L=none/\
   s'={ s with heap:=(11:).push (seqObj "list" #[] 0) })
   (G:=λp s'=>Srt.Pm vs.length p/\Srt.Up (O:=O) key p vs.length/\s'={ s with heap:=(11:).push (seqObj "list" #[] 0) })
   (vs:=vs) (ks:=vs) rfl (5:) (5:) (λp L s' ad Z aa hg=>?_) ?_) (λr s' hq=>?_) λ_ _ e=>e)
  .obtain⟨hP,hU,es⟩:=hg;exact⟨p,hP,hU,kat_snds rfl Z,aa,es⟩
  .refine Srt.Ok.wp (O:=O) (key:=key) (n:=vs.length) (λi j C hi Y hC=>?_) (Q:=λp=>Srt.Pm vs.length p/\Srt.Up (O:=O) key p vs.length) (λp hp=>⟨hp.1,hp.2,rfl⟩) (Srt.sort_ok (5:) λp a b=>⟨a,b⟩);exact hc { s with heap:=(11:).push (seqObj "list" #[] 0) } i j C keep hi Y hC
  .obtain⟨p,o1,o2,o3,o4,rfl⟩:=hq;obtain⟨⟨⟩,L⟩:=r;dsimp only at o3 o4 ⊢;refine aB (seqEpoch_at J rfl ?_);rw [o3];refine aB (listUpdate_at J rfl ?_ (hsz2:=by show(p.toList.map λi=>vs.getD i Value.none).toArray.size<=_;rw [aZ,aE,o1.length_eq,eI,cQ];lia));rw [o4];simp only [bne_self_eq_false,cD,bU];exact aH (h p o1 o2)
theorem V8{vs:List Value}(O:KeyOrd)(key:Nat->O.α)(κ:SortKind)(hl:s.heap.IsList l vs.toArray)(h64:vs.length<64)
 (hk:∀(s':Shared)(E':Value->Shared->Prop)(Q:SortKind->Shared->Prop),(∀b o,s.heap.get? b=some o->s'.heap.get? b=some o)->2<=vs.length->Q κ s'->wpAny (9:) A.in1.in1 (keyKind' vs.toArray) Q E' s')
 (hc:∀(s':Shared)(i j:Nat)(C:Bool->Shared->Prop),(∀b o,s.heap.get? b=some o->s'.heap.get? b=some o)->i<vs.length->j<vs.length->C (O.blt (key i) (key j)) s'->wpAny (9:) A.in1.in1 (keyLt' κ (vs.getD i Value.none) (vs.getD j Value.none)) C (λ_ _=>False) s')
 (h:∀p:Array Nat,Srt.Pm vs.length p->Srt.Up (O:=O) key p vs.length->Q (.ref (20:)) { s with heap:=sortedAll s.heap vs (p.toList.map λi=>vs.getD i Value.none).toArray }):
 wpAny (9:) A (call (.builtin "sorted") [.ref l]) Q E s:=by
 refine Calls.call_function_entry kind_sorted plain_sorted entry_sorted (args_sorted1 _) ?_;unfold Builtin.«sorted»;refine aB (m:=checkCount "sorted" 1 1 _) (21:);refine aB (collect_list hl ?_ (by rw [cQ];lia));refine aB (wpAny_newList ?_ (by rw [cQ];lia));have J:((s.heap.push (seqObj "list" #[] 0)).update s.heap.objs.size (Obj.mapSeq (· ++vs.toArray))).objs.size=s.heap.objs.size+1:=by rw [Heap.size_update,size_push']
 have L:(((s.heap.push (seqObj "list" #[] 0)).update s.heap.objs.size (Obj.mapSeq (· ++vs.toArray))).push (seqObj "list" vs.toArray 0)).get? (20:)=some (seqObj "list" vs.toArray 0):=by
  rw [<-J];exact bD _ rfl
 have keep:∀b o,s.heap.get? b=some o->(((s.heap.push (seqObj "list" #[] 0)).update s.heap.objs.size (Obj.mapSeq (· ++vs.toArray))).push (seqObj "list" vs.toArray 0)).get? b=some o:=λb o e=>by
  have G:b<s.heap.objs.size:=aO e;exact aN _ ((Heap.get?_update_ne _ _ _ _ (bC G)).trans (aN _ e))
 show wpAny _ _ _ _ _ { s with heap:=((s.heap.push (seqObj "list" #[] 0)).update s.heap.objs.size (Obj.mapSeq (· ++vs.toArray))).push (seqObj "list" vs.toArray 0) };rw [J];refine aB (cB (dA slot_list_sort ⟨_,L,rfl⟩ entry_list_sort ?_ (args_list_sort _)));have M:∀(s':Shared),(∀b o,b≠s.heap.objs.size+1->(((s.heap.push (seqObj "list" #[] 0)).update s.heap.objs.size (Obj.mapSeq (· ++vs.toArray))).push (seqObj "list" vs.toArray 0)).get? b=some o->s'.heap.get? b=some o)->∀b o,s.heap.get? b=some o->s'.heap.get? b=some o:=λs' h b o e=>by
  have G:b<s.heap.objs.size:=aO e;exact h b o (λz=>by rw [z]at G;exact absurd G (eQ.mpr (Nat.le_succ _))) (keep b o e)
 refine WV (A:=A.in1.in1) O key κ L h64 (λs' Y U h2 Z=>hk s' _ Y (M s' U) h2 Z) (λs' i j C U hi hj hC=>hc s' i j C (M s' U) hi hj hC) λp o1 o2=>⟨_,rfl,aH ⟨_,rfl,h p o1 o2⟩⟩
theorem Si{x y:Addr}{fx sx fy sy:Value}{b:Bool}{C:Bool->Shared->Prop}(hx:s.heap.IsTuple x [fx,sx].toArray)(hy:s.heap.IsTuple y [fy,sy].toArray)
 (hne:x≠y->SeqAt.EqAt A s fx fy false/\wpAny (9:) A (oneLt' b fx fy) C (λ_ _=>False) s) (heq:x=y->SeqAt.EqAt A s fx fx true/\SeqAt.EqAt A s sx sx true/\C false s):
 wpAny (9:) A (keyLt' (tuples' b) (.ref x) (.ref y)) C E s:=by
 obtain⟨ox,M,cx,nx,dx⟩:=hx;obtain⟨oy,U,cy,ny,G⟩:=hy;refine kat_lt M dx U G ?_
 by_cases h:x=y
 .subst h;obtain rfl:=aI (M.symm.trans U);rw [dx]at G;injection G with Y e2;have Z:[fx,sx]=[fy,sy]:=by simpa using congrArg Array.toList Y
  injection Z with e4 e5;injection e5 with e6 e7;subst e4 e6;obtain⟨J,L,q3⟩:=heq rfl;show KatLex prog w A b _ C [(fx,fx),(sx,sx)] 0 s;refine kat_cons (J _ _ _ _ (kat_yes (kat_cons (L _ _ _ _ (kat_yes (kat_nil ?_))))));exact q3
 .obtain⟨J,L⟩:=hne h;show KatLex prog w A b _ C [(fx,fy),(sx,sy)] 0 s;refine kat_cons (J _ _ _ _ (kat_no ?_));have:(b&&(0:Nat)==0)=b:=by simp
  rw [this];exact L
end
theorem G1{α:Type}{O:KeyOrd}{ts:List α}{d:α}{key:α->O.α}{p:Array Nat}(hP:Srt.Pm ts.length p)(hU:Srt.Up (O:=O) (λi=>key (ts.getD i d)) p ts.length):
 (p.toList.map λi=>ts.getD i d).Perm ts/\(p.toList.map λi=>ts.getD i d).Pairwise λx y=>O.blt (key y) (key x)=false:=by
 constructor
 .have h1:=List.Perm.map (λi=>ts.getD i d) hP;have e:(List.range ts.length).map (λi=>ts.getD i d)=ts:=by
   apply List.ext_getElem (16:);intro i a b;simp at a;simp [a]
  rwa [e]at h1
 .rw [List.pairwise_iff_getElem];intro i j hi G J;have U:=hP.size;simp only [aE,eS]at hi G;have:=hU i j (cY J) (5:);unfold KeyOrd.kle Srt.kk at this;have L:p.getD i 0=p[i]:=by simp [Array.getD,hi]
  have M:p.getD j 0=p[j]:=by simp [Array.getD,G]
  rw [L,M]at this
  simpa using this
theorem IsTuple.keeps{xs:Array Value}(k:∀b o,h.get? b=some o->h'.get? b=some o)(x:h.IsTuple a xs):h'.IsTuple a xs:=by
 obtain⟨o,e,r⟩:=x;exact⟨o,k _ _ e,r⟩
section
variable{E:Value->Shared->Prop}
end
theorem Uo{α:Type}{f:α->Addr}:∀{ts:List α}{us:List Value},Vals (ts.map λt=>V.ref (f t)) us->us=ts.map λt=>Value.ref (f t)
 | [],_,.nil=>rfl
 | t::ts,_,.cons r rr=>by
  have e:_=Value.ref (f t):=r;rw [aS,<-Uo rr,<-e]
theorem UE{α:Type}{f:α->Addr}:∀ts:List α,Vals (ts.map λt=>V.ref (f t)) (ts.map λt=>Value.ref (f t))
 | []=>.nil
 | t::ts=>.cons rfl (UE ts)
end L2
namespace L2
open PySem PySem.Spec PyProof.Rows
theorem Zj:plainId "dict.update.loop"=true:=by decide+kernel
theorem Yn:entryFor table "dict.update.loop"=some Builtin.«dict.update.loop»:=entryFor_of_tree (by kernel_rfl)
theorem Jw:typeLookup (.type "list") "keys"=pure none:=by rw [typeLookup_type,builtinLookup_eq_fast];kernel_rfl
section
variable{E:Value->Shared->Prop}
theorem Ms{xs:Array Value}{k:Nat}{sl:Array (Option Value)}{Q:Option Value->Shared->Prop}(hx:s.heap.get? a=some { cls:=.type "list",dict:=none,data:=.seq xs k,slots:=sl })(hA:A.handled=none)
 (h:∀h' tk,(∀b o,s.heap.get? b=some o->h'.get? b=some o)->Q none { s with heap:=h',toks:=tk }):wpAny (9:) A (getAttr? (.ref a) "keys") Q E s:=by
 obtain⟨hp,g,d,tk,M⟩:=s;have L:∀G,(⟨hp,g,d,G,M⟩:Shared).TypeIs (.ref a) "list":=λ_=>⟨_,hx,rfl⟩;have f1:=sub_AttributeError;have f3:=F.slot_list_getattribute.lookup;have f4:=F.slot_list_getattribute.bind (.ref a);have f5:=am_list_getattr_none;unfold getAttr? getAttrBy? getAttrBy
 repeat (any_goals (first | assumption | exact L _ | ((with_reducible show wpAny _ _ (call (Value.builtin "list.__getattribute__") _ _) _ _ _);refine call_meets F.slot_list_getattribute (L _) am_entry_list_getattribute (F.args_list_getattribute_2 _ _) (meets_getattribute_miss_list a xs k sl "keys" _ Jw (1:)) ⟨hx,hA,λh' G e J=>?_⟩) | wp_step))
 obtain⟨U,Y,Z⟩:=J.there;show wpAny _ _ (getattributeRaised _ _ _ _ _ _ _) _ _ _;unfold getattributeRaised
 repeat (any_goals (first | assumption | wp_step))
 exact h _ _ J.keeps
theorem Jm{o u:Obj}(ha:h.get? a=some o)(hb:h.get? b=some u)(hc:o.cls≠u.cls):a≠b:=λe=>by
 subst e;rw [ha]at hb;exact hc (congrArg Obj.cls (aI hb))
def Z0(kvs:List (Key×Value)):List (Key×Value)->List (Key×Value)
 | []=>kvs
 | p::r=>Z0 (stored kvs p.1 p.2) r
theorem WI{R:Result->Shared->Prop}{l d it:Addr}{items:Array Value}(hA:A.handled=none)(hli:l≠it)(hd0:(d==sysModules)=false):∀(ps:List (Key×Value))(i:Nat)(s:Shared)(kvs:List (Key×Value)),i+ps.length=items.size->s.heap.IsListIter it l i->s.heap.IsList l items->s.heap.DictOf (Qu prog w) d kvs->kvs.length+ps.length<=sizeLine->
 (∀(j:Nat)(q:Key×Value),ps[j]?=some q->∃p u,items[i+j]?=some (.ref p)/\(Qu prog w).is q.1 u=true/\s.heap.IsTuple p #[u,q.2])->
 (∀h' tk,h'.DictOf (Qu prog w) d (Z0 kvs ps)->(∀b o,b≠it->b≠d->s.heap.get? b=some o->h'.get? b=some o)->R (.ok (.ret .none)) { s with heap:=h',toks:=tk })->
 codeAny (9:) A (.builtin "dict.update.loop" ⟨[.ref d,.ref it,rawInt (i:Int),.none],[]⟩) R s
 | [],i,s,kvs,hk,U,hL,Y,hz,hp,hR=>by
  have W:=Walks.list (prog:=prog) (w:=w) (A:=A.in1) hA it l hli items;have an:i=items.size:=by simpa using hk
  subst an;refine codeAny_builtin Yn ?_;rw [gL Zj _];show wpAny _ A.in1 (pyNext (.ref it)>>=_) _ _ s;refine aB (W.done s _ _ ⟨U,hL⟩ λh' tk Z=>?_);show wpAny _ A.in1 (Builtin.Dict.addKeywords d []>>=_) _ _ _;refine aB (aH (21:));have aa:d≠it:=by
   obtain⟨o,es,ep,G,M,_⟩:=Y;obtain⟨o2,J,L,_⟩:=U;exact Jm G J (by rw [M.1,L];intro z;injection z with z;exact absurd z (12:))
  exact hR h' tk (Y.extBut (b:=it) (λa o ac e=>Z a o (by simpa using ac) e) aa) (λb o h1 _ e=>Z b o (by simpa using h1) e)
 | q::ps,i,s,kvs,hk,U,hL,Y,hz,hp,hR=>by
  have W:=Walks.list (prog:=prog) (w:=w) (A:=A.in1) hA it l hli items;obtain⟨p,u,ah,ao,ai⟩:=hp 0 q rfl;rw [Nat.add_zero]at ah;have ap:i<items.size:=by rw [bF]at hk;lia
  have aa:d≠it:=by
   obtain⟨o,es,ep,G,M,_⟩:=Y;obtain⟨o2,J,L,_⟩:=U;exact Jm G J (by rw [M.1,L];intro z;injection z with z;exact absurd z (12:))
  have aq:d≠l:=by
   obtain⟨o,es,ep,G,M,_⟩:=Y;obtain⟨o2,J,L,_⟩:=hL;exact Jm G J (by rw [M.1,L];intro z;injection z with z;exact absurd z (12:))
  have ad:∀{p:Addr}{xs:Array Value},s.heap.IsTuple p xs->p≠it/\p≠d:=λ{p xs} ht=>by
   obtain⟨o,G,M,_⟩:=ht;obtain⟨o2,J,L,_⟩:=id U;obtain⟨o3,es,ep,ar,as,_⟩:=id Y;exact⟨Jm G J (by rw [M,L];intro z;injection z with z;exact absurd z (12:)),Jm G ar (by rw [M,as.1];intro z;injection z with z;exact absurd z (12:))⟩
  refine codeAny_builtin Yn ?_;rw [gL Zj _];show wpAny _ A.in1 (pyNext (.ref it)>>=_) _ _ s;refine aB (W.item i s _ _ ap ⟨U,hL⟩ λv h' tk hP ae Z=>?_);obtain rfl:v=.ref p:=aI ((show items[i]?=some v from hP).symm.trans ah);have af:∀b o,b≠it->s.heap.get? b=some o->h'.get? b=some o:=λb o hb e=>Z b o (by simpa using hb) e;have aj:h'.IsTuple p #[u,q.2]:=by
   obtain⟨o,G,r⟩:=id ai;exact⟨o,af _ _ (ad ai).1 G,r⟩
  obtain⟨o,G,M,n,ak⟩:=id aj;refine aB (cB ?_);refine aB (fP ?_);unfold Builtin.Dict.pairItems;refine aB (fh (T:="tuple") (s:={ s with heap:=h',toks:=tk }) ⟨o,G,M⟩ ?_);rw [aG (1:)];refine aB ?_;show wpAny _ A.in1 (load p>>=_) _ _ _;refine aB (wpAny_load G ?_);rw [ak];refine aH (21:);have au:h'.DictOf (Qu prog w) d kvs:=Y.extBut (b:=it) (λa o ac e=>af a o ac e) aa;refine cB (wpAny_dictSet_pairs (s:={ s with heap:=h',toks:=tk }) ao au (λag al hs=>?_) (by rw [bF]at hz;lia));have am:ag.IsListIter it l (i+1):=by
   obtain⟨o,G,r⟩:=ae.1;exact⟨o,(hs.2 it (aV aa)).trans G,r⟩
  have av:ag.IsList l items:=by
   obtain⟨o,G,r⟩:=ae.2;exact⟨o,(hs.2 l (aV aq)).trans G,r⟩
  have ab:∀b o,b≠it->b≠d->s.heap.get? b=some o->ag.get? b=some o:=λb o h1 h2 e=>(hs.2 b h2).trans (af b o h1 e);have az:(stored kvs q.1 q.2).length<=kvs.length+1:=by
   unfold stored;split
   .rw [aE];lia
   .rw [aW];simp
  refine aH ⟨fS Zj _,?_⟩;refine WI hA hli hd0 ps (i+1) _ (stored kvs q.1 q.2) (by rw [bF]at hk;lia) am av al (by rw [bF]at hz;lia) (λj r hj=>?_) λh3 aw ax ay=>?_
  .obtain⟨p',u',e1,e2,e3⟩:=hp (j+1) r (by simpa using hj);refine⟨p',u',by rw [<-e1];congr 1;lia,e2,?_⟩;obtain⟨o,G,rr⟩:=id e3;exact⟨o,ab _ _ (ad e3).1 (ad e3).2 G,rr⟩
  .exact hR h3 aw ax λb o h1 h2 e=>ay b o h1 h2 (ab b o h1 h2 e)
theorem V7{ps:List (Key×Value)}(hA:A.handled=none)(hb:sysModules<s.heap.objs.size){ol:Obj}{nl:Nat}(hl:s.heap.get? l=some ol)(hlc:ol.cls=.type "list")(hld:ol.dict=none)(hlt:ol.data=.seq items nl)(hz:ps.length<=sizeLine)(hn:ps.length=items.size)
 (hp:∀(j:Nat)(q:Key×Value),ps[j]?=some q->∃p u,items[j]?=some (.ref p)/\(Qu prog w).is q.1 u=true/\s.heap.IsTuple p #[u,q.2])
 (h:∀h' tk,h'.DictOf (Qu prog w) s.heap.objs.size (Z0 [] ps)->(∀b o,s.heap.get? b=some o->h'.get? b=some o)->Q (.ref s.heap.objs.size) { s with heap:=h',toks:=tk }):
 wpAny (9:) A (call (.type "dict") [.ref l]) Q E s:=by
 refine callType_codes (Q₁:=λY ab=>Y=.ref s.heap.objs.size/\ab={ s with heap:=s.heap.push { cls:=.type "dict",data:=.dict #[] } }) F.kt_called_dict (F.kt_typeCall_dict_1 _) F.entry_dict_init (kt_code_dict_new _ ⟨rfl,rfl⟩) ?_;rintro Y ab ⟨rfl,rfl⟩;have G:(s.heap.push { cls:=.type "dict",data:=.dict #[] }).DictOf (Qu prog w) s.heap.objs.size []:=Heap.DictOf.new s.heap;have L:(s.heap.push { cls:=.type "dict",data:=.dict #[] }).get? l=some ol:=aN _ hl;have hT:({ s with heap:=s.heap.push { cls:=.type "dict",data:=.dict #[] } }:Shared).TypeIs (.ref l) "list":=⟨_,L,hlc⟩;obtain⟨c1,d1,t1,s1⟩:=ol;simp only at hlc hld hlt;subst hlc hld hlt;refine⟨G.typeIs,F.args_dict_init_2 _ _,?_⟩;unfold Builtin.«dict.__init__»;refine aB ?_;unfold Builtin.Dict.selfAndRest;refine aB (gG G.typeIs ?_);show wpAny _ _ (pure (s.heap.objs.size,[Value.ref l])) _ _ _;refine aH ?_;show wpAny _ _ (Builtin.Dict.updateFrom "dict.__init__" s.heap.objs.size (.ref l) [] .none) _ _ _;unfold Builtin.Dict.updateFrom;refine aB (fh hT ?_);rw [aG (12:)];refine aB (Ms L hA λh2 ac J=>?_);simp only [Option.isNone_none,b_];refine aB (eP ?_);have Z:h2.IsList l items:=⟨_,J _ _ L,rfl,nl,rfl⟩;refine aB (wpAny_pyIter_list (s:={ s with heap:=h2,toks:=ac }) Z ?_);have aa:l<h2.objs.size:=aO (J _ _ L);have ae:s.heap.objs.size<h2.objs.size:=by
  obtain⟨o,es,ep,M,_⟩:=id G;exact aO (J _ _ M)
 have ad:h2.DictOf (Qu prog w) s.heap.objs.size []:=by
  obtain⟨o,es,ep,M,r⟩:=id G;exact⟨o,es,ep,J _ _ M,r⟩
 have U:∀b o,s.heap.get? b=some o->h2.get? b=some o:=λb o e=>J b o (aN _ e);refine aH ⟨fS Zj _,WI (A:=A.in1) (it:=h2.objs.size) (l:=l) (items:=items) hA (bC aa) (eD.mpr (aV (bC hb))) ps 0 _ [] (by simpa using hn) ⟨_,bD _ rfl,rfl,rfl⟩ (Z.push _) (ad.push _) (by simpa using hz) (λj q hq=>?_) λh' tk hD hk=>⟨rfl,?_⟩⟩
 .obtain⟨p,u,e1,e2,o,M,r⟩:=hp j q hq;exact⟨p,u,by rw [fi];exact e1,e2,o,aN _ (U _ _ M),r⟩
 .refine h h' tk hD λb o e=>hk b o ?_ ?_ (aN _ (U b o e))
  .exact bC (aO (U b o e))
  .exact bC (aO e)
end
theorem VW{kvs:List (Key×Value)}{k:Key}{v:Value}(h:k∉kvs.map (·.1)):stored kvs k v=kvs++[(k,v)]:=by
 unfold stored;rw [aF];intro z;obtain⟨G,h1,h2⟩:=List.any_eq_true.mp z;exact h (aJ.mpr ⟨G,h1,bM h2⟩)
theorem Uc:∀(ps kvs:List (Key×Value)),((kvs++ps).map (·.1)).Nodup->Z0 kvs ps=kvs++ps
 | [],kvs,_=>by simp [Z0]
 | p::r,kvs,h=>by
  have G:p.1∉kvs.map (·.1):=λJ=>by
   rw [aP,fM]at h;exact h.2.2 _ J _ (16:) rfl
  show Z0 (stored kvs p.1 p.2) r=_;rw [VW G];have e:kvs++[(p.1,p.2)]++r=kvs++p::r:=by simp
  rw [Uc r _ (by rw [e];exact h),e]
theorem WO{pins:List (10:)}(I:Inv X pins σ H s):∀ts:List (Addr×Str×V),(∀t∈ts,SqT X.K H t.1 [.str t.2.1,t.2.2])->
 ∃ps:List (Key×Value),KV (ts.map λt=>((Sum.inr t.2.1:Key),t.2.2)) ps/\∀(j:Nat)(q:Key×Value),ps[j]?=some q->∃p u,(ts.map λt=>Value.ref t.1)[j]?=some (.ref p)/\(Qu X.prog X.w).is q.1 u=true/\s.heap.IsTuple p #[u,q.2]
 | [],_=>⟨[],.nil,λj q h=>by simp at h⟩
 | t::r,h=>by
  obtain⟨ps,h1,h2⟩:=WO I r λu L=>h u (bR _ L);obtain⟨its,M,p,_⟩:=I.tuple (h t aR);obtain⟨u,v,rfl,U,G⟩:=M.two;refine⟨(Sum.inr t.2.1,v)::ps,.cons ⟨rfl,G⟩ h1,λj q J=>?_⟩;cases j with
  | zero=>
   have:q=(Sum.inr t.2.1,v):=by simpa using J.symm
   subst this;exact⟨t.1,u,rfl,G2 (k:=Sum.inr t.2.1) U,p⟩
  | succ j=>
   obtain⟨Y,Z,e1,e2,e3⟩:=h2 j q (by simpa using J);exact⟨Y,Z,by simpa using e1,e2,e3⟩
theorem KV.keys'{kvs:List (Key×V)}{ps:List (Key×Value)}(r:KV kvs ps):ps.map (·.1)=kvs.map (·.1):=by
 induction r with
 | nil=>rfl
 | cons h _ G=>rw [aS,aS,G,h.1]
theorem V3(hc:X.calm=true):Q4 X (.type "dict") (λxs H Q=>∃(l:Addr)(ts:List (Addr×Str×V)),xs=[.ref l]/\SqL X.K H l (ts.map λt=>V.ref t.1)/\(∀t∈ts,SqT X.K H t.1 [.str t.2.1,t.2.2])/\(ts.map λt=>t.2.1).Nodup/\ts.length<=1000/\
 ∀d,H d=none->Q (.ref d) (upd H d (.dK (ts.map λt=>((Sum.inr t.2.1:Key),t.2.2))))):=by
 intro pins s σ H xs us Q I r h;obtain⟨l,ts,rfl,hl,ht,L,hz,q⟩:=h;cases r with
 | cons r rr=>
  cases rr;obtain rfl:_=Value.ref l:=r;obtain⟨its,rv,⟨o,n,e,c,dn,dt⟩,_⟩:=I.list hl;obtain rfl:=Uo rv;obtain⟨ps,G,M⟩:=WO I ts ht;have J:ps.length=ts.length:=by have:=G.length;rw [aE]at this;exact this.symm
  have U:ps.length<=sizeLine:=by rw [J,cQ];lia
  refine V7 (I.ok.hd hc) I.big e c dn dt U (by rw [aZ,aE];exact J) (λj q hq=>by simpa using M j q hq) λh' tk Y hk=>?_;have Z:((([]:List (Key×Value))++ps).map (·.1)).Nodup:=by
   rw [dO,KV.keys' G,bX];have e2:(ts.map ((λx:Key×V=>x.1)∘λt=>((Sum.inr t.2.1:Key),t.2.2)))=(ts.map λt=>t.2.1).map (Sum.inr:Str->Key):=by rw [bX];rfl
   rw [e2];exact List.Pairwise.map _ (λa b aa z=>aa (by injection z)) L
  rw [Uc ps [] Z,dO]at Y;have ab:=I.hok.fresh (aY s.heap.objs.size);refine⟨.ref s.heap.objs.size,_,I.laid (a:=s.heap.objs.size) (o:=.dK (ts.map λt=>((Sum.inr t.2.1:Key),t.2.2))) (t':=tk) hk (4:) (MX (by rw [aE,cQ];lia) (eD.mpr (aV (bC I.big))) G Y),rfl,q _ ab⟩
end L2
namespace L2
open PySem PySem.Spec PyProof.Rows PySem.W
@[reducible] def strOrd:KeyOrd:=⟨List Nat,λa b=>decide (a<b),λa=>strKind.irrefl a,λa b c=>strKind.trans a b c,λa b c=>strKind.negTrans a b c,λa b=>strKind.total a b⟩
abbrev PNx:=Addr×Str×Addr×List Str
def PairN(h:Heap)(t:PNx):Prop:=∃(tk:Tok)(as:List Addr),h.IsTuple t.1 [Value.str t.2.1 tk,Value.ref t.2.2.1].toArray/\Reads h (.ref t.2.2.1) (.tuple (t.2.2.2.map PyData.str)) as
theorem PairN.keeps{t:PNx}(k:∀b o,h.get? b=some o->h'.get? b=some o)(x:PairN h t):PairN h' t:=by
 obtain⟨tk,G,h1,h2⟩:=x;exact⟨tk,G,IsTuple.keeps k h1,Reads.keeps k h2⟩
theorem Wb{K:Fg}:∀p:List Str,RdAll K H (p.map V.str) (p.map PyData.str)
 | []=>.nil
 | i::r=>.cons (.str i) (Wb r)
theorem J8:∀p:List Str,(∀x∈p,PyData.strOk x=true)->PyData.canLayAll0 (p.map PyData.str)=true
 | [],_=>by simp [PyData.canLayAll0]
 | i::r,h=>by simp only [aS,PyData.canLayAll0,PyData.canLay0,J8 r λx G=>h x (23:),h i aR,cH]
theorem JQ{h:Heap}:∀{ts:List PNx},(∀t∈ts,PairN h t)->∃fs:List Value,KatTups h (ts.map λt=>Value.ref t.1) fs/\(∀v∈fs,∃x t,v=Value.str x t)/\fs.length=ts.length
 | [],_=>⟨[],KatTups.nil,λv hv=>(nomatch hv),rfl⟩
 | t::r,ht=>by
  obtain⟨tk,U,⟨o,go,G,n,J⟩,_⟩:=ht t aR;obtain⟨fs,h1,h2,L⟩:=JQ λu M=>ht u (bR _ M);refine⟨Value.str t.2.1 tk::fs,KatTups.cons go G J rfl h1,λv hv=>?_,by simp [L]⟩;rcases aM.mp hv with rfl | hv
  .exact⟨_,_,rfl⟩
  .exact h2 v hv
section
variable{E:Value->Shared->Prop}
theorem O0{t u:PNx}{C:Bool->Shared->Prop}(ht:PairN s.heap t)(hu:PairN s.heap u)(hok:∀x∈t.2.2.2,PyData.strOk x=true)(hd:t.1≠u.1->t.2.1≠u.2.1)(hA:A.units+2<cLine)(h:C (decide (t.2.1.cps.toList<u.2.1.cps.toList)) s):wpAny (9:) A (keyLt' (tuples' true) (.ref t.1) (.ref u.1)) C E s:=by
 obtain⟨tk,as,h1,L⟩:=ht;obtain⟨J,aa,g1,g4⟩:=hu;have G:(PyData.tuple (t.2.2.2.map PyData.str)).canLay0=true:=by simp only [PyData.canLay0];exact J8 _ hok
 have ab:(PyData.tuple (t.2.2.2.map PyData.str)).depth<=1:=by simp only [PyData.depth,YW];lia
 refine Si h1 g1 (λM=>?_) (λU=>?_)
 .refine⟨?_,oneLt_str h⟩;have e:=(eqGives_str t.2.1 u.2.1 tk J).at A s;have:(t.2.1==u.2.1)=false:=by simpa using hd M
  rw [this]at e;exact e
 .refine⟨?_,?_,?_⟩
  .have e:=(eqGives_str t.2.1 t.2.1 tk tk).at A s
   simpa using e
  .have e:=SeqAt.eqAt_reads _ _ A s _ _ _ _ L L G G (5:);rw [ZH _ G]at e;exact e
  .have Z:t.2.1=u.2.1:=by
    obtain⟨o,e,_,n,d⟩:=h1;obtain⟨o2,e2,_,n2,Y⟩:=g1;rw [U,e2]at e;cases e;rw [d]at Y;injection Y with z1 z2;have z3:[Value.str t.2.1 tk,Value.ref t.2.2.1]=[Value.str u.2.1 J,Value.ref u.2.2.1]:=by simpa using congrArg Array.toList z1
    injection z3 with z4 z5;injection z4
   rw [<-Z,bN (List.lt_irrefl _)]at h;exact h
end
theorem Wl(hu:X.A.units+4<cLine):Q4 X (.builtin "sorted") (λxs H Q=>∃(l:Addr)(ts:List PNx),xs=[.ref l]/\SqL X.K H l (ts.map λt=>V.ref t.1)/\(∀t∈ts,SqT X.K H t.1 [.str t.2.1,.ref t.2.2.1]/\SqT X.K H t.2.2.1 (t.2.2.2.map V.str)/\∀x∈t.2.2.2,PyData.strOk x=true)/\(ts.map λt=>t.2.1).Nodup/\ts.length<64/\
 ∀(out:List PNx) p,out.Perm ts->(out.Pairwise λx y=>¬y.2.1.cps.toList<x.2.1.cps.toList)->H p=none->Q (.ref p) (upd H p (.lst (out.map λt=>V.ref t.1)))):=by
 intro pins s σ H xs us Q I r h;obtain⟨l,ts,rfl,hl,ht,aa,ab,q⟩:=h;cases r with
 | cons r rr=>
  cases rr;obtain rfl:_=Value.ref l:=r;obtain⟨its,M,p,_⟩:=I.list hl;obtain rfl:=Uo M;have U:∀t∈ts,PairN s.heap t:=λt G=>by
   obtain⟨h1,h2,_⟩:=ht t G;obtain⟨af,r1,p1,_⟩:=I.tuple h1;obtain⟨u,v,rfl,ru,M⟩:=r1.two;cases (show v=Value.ref _ from M);obtain⟨tk,rfl⟩:=(show ∃tk,u=Value.str _ tk from ru);obtain⟨as,q4⟩:=(RdV.tup h2 (Wb _)).reads I (show RelV (.ref t.2.2.1) (.ref t.2.2.1)from rfl);exact⟨tk,as,p1,q4⟩
  let d:PNx:=(0,⟨#[]⟩,0,[])
  have Y:∀i,i<ts.length->(ts.map λt=>Value.ref t.1).getD i Value.none=.ref (ts.getD i d).1:=λi hi=>by simp [eh,hi]
  have md:∀i,i<ts.length->ts.getD i d∈ts:=λi hi=>by simp [eh,hi]
  have ek:(Value.type "str" !=Value.type "tuple")=true:=by decide+kernel
  refine V8 strOrd (λi=>(ts.getD i d).2.1.cps.toList) (tuples' true) p.isList (by simpa using ab) (λs' E' Q' L h2 hq=>?_) (λs' i j C L hi J hC=>?_) λZ o1 o2=>?_
  .obtain⟨fs,f1,f2,f3⟩:=JQ (h:=s'.heap) λt G=>(U t G).keeps L;refine kat_kind (T:=.type "str") f1 (by rw [f3];rw [aE]at h2;lia) (λv hv=>?_) (1:) (by rw [ek];exact hq);obtain⟨x,t,rfl⟩:=f2 v hv;exact .now
  .rw [aE]at hi J;rw [Y i hi,Y j J];refine O0 ((U _ (md i hi)).keeps L) ((U _ (md j J)).keeps L) (ht _ (md i hi)).2.2 (λac he=>ac ?_) (by show X.A.units+1+1+2<cLine;lia) hC;have ad:i=j:=by
    have a1:(ts.map λt=>t.2.1)[i]'(by simpa using hi)=(ts.getD i d).2.1:=by simp [eh,hi]
    have a2:(ts.map λt=>t.2.1)[j]'(by simpa using J)=(ts.getD j d).2.1:=by simp [eh,J]
    exact(List.getElem_inj aa).mp (a1.trans (he.trans a2.symm))
   rw [ad]
  .rw [aE]at o1 o2;obtain⟨w1,w2⟩:=G1 (O:=strOrd) (ts:=ts) (d:=d) (key:=λt=>t.2.1.cps.toList) o1 o2;have em:(Z.toList.map λi=>(ts.map λt=>Value.ref t.1).getD i Value.none)=(Z.toList.map λi=>ts.getD i d).map λt=>Value.ref t.1:=by
    rw [bX];refine fJ λi hi=>?_;exact Y i (cO.mp (o1.mem_iff.mp hi))
   rw [em];generalize Z.toList.map (λi=>ts.getD i d)=out at w1 w2;obtain⟨e,he⟩:=sortedAll_at s.heap (ts.map λt=>Value.ref t.1) (out.map λt=>Value.ref t.1).toArray;have ae:H (20:)=none:=I.hok.fresh (Nat.le_succ _);refine⟨.ref (20:),_,I.laid (t':=s.toks) (o:=.lst (out.map λt=>V.ref t.1)) (λb o g=>sortedAll_old g) (Nat.le_succ _) ?_,rfl,q out _ w1 (w2.imp λh=>by simpa using h) ae⟩;exact⟨by rw [aE,w1.length_eq,cQ];lia,_,e,UE out,he⟩
end L2
variable{rs out:List L2.PNx}
namespace TM
inductive Tree(α:Type) where
 | node (name:α) (mark:Int) (bs:List (Tree α))
variable{α:Type}
def Tree.bs:Tree α->List (Tree α)
 | .node _ _ bs=>bs
structure Rows(α:Type) where
 n:Nat
 nm:Nat->α
 mr:Nat->Int
 up:Nat->Nat
variable{R:Rows α}
section
variable{K:Nat->List Int}{B:Nat->Tree α}{o0:Tree α}
variable{B':Nat->Tree α}{o:Tree α}{s:Nat}
end
end TM
namespace L2
open PySem PySem.Spec PyProof.Rows TM
theorem SqT.put{K:Fg}{o:HO}(h:SqT K H a xs)(hd:H d=some (.lst ys)):SqT K (upd H d o) a xs:=by
 rcases h with(h | ⟨G,h⟩) | h
 .exact .inl (.inl (by rw [Qe (QB h hd (14:))];exact h))
 .exact .inl (.inr ⟨G,by rw [Qe (QB h hd (14:))];exact h⟩)
 .exact .inr h
end L2
namespace TM
variable{α:Type}
mutual
noncomputable def sz:Tree α->Nat
 | .node _ _ bs=>1+szs bs
noncomputable def szs:List (Tree α)->Nat
 | []=>0
 | t::r=>sz t+szs r
end
mutual
noncomputable def lv:Tree α->Nat
 | .node _ _ bs=>1+lvs bs
noncomputable def lvs:List (Tree α)->Nat
 | []=>0
 | t::r=>max (lv t) (lvs r)
end
theorem Ni(t:Tree α):sz t=1+szs t.bs:=by cases t;simp [sz,Tree.bs]
theorem lv_bs(t:Tree α):lv t=1+lvs t.bs:=by cases t;simp [lv,Tree.bs]
theorem U8:∀ts:List (Tree α),((ts.map λt=>(sz t:Int)).sum)=(szs ts:Int)
 | []=>by simp [szs]
 | t::r=>by rw [aS,List.sum_cons,U8 r];simp [szs]
theorem OR{ts:List (Tree α)}{t:Tree α}(h:t∈ts):sz t<=szs ts:=by
 induction ts with
 | nil=>cases h
 | cons u r G=>
  simp only [szs];rcases aM.mp h with rfl | h
  .lia
  .have:=G h;lia
theorem ZL{ts:List (Tree α)}{t:Tree α}(h:t∈ts):lv t<=lvs ts:=by
 induction ts with
 | nil=>cases h
 | cons u r G=>
  simp only [lvs];rcases aM.mp h with rfl | h
  .lia
  .have:=G h;lia
theorem P9{ts:List (Tree α)}(h:ts≠[]):∃t∈ts,lv t=lvs ts:=by
 induction ts with
 | nil=>exact absurd rfl h
 | cons u r J=>
  simp only [lvs]
  by_cases G:r=[]
  .subst G;exact⟨u,aR,by simp [lvs]⟩
  .obtain⟨t,h1,h2⟩:=J G
   by_cases L:lvs r<=lv u
   .exact⟨u,aR,by lia⟩
   .exact⟨t,bR _ h1,by lia⟩
variable{R:Rows α}{K:Nat->List Int}{B:Nat->Tree α}{o0:Tree α}
end TM
namespace TT
open TM PySem
inductive Lab where
 | call (m b:Int)
 | put (nm:Str) (kept:Bool) (add:Int)
abbrev Tm:=Tree Lab
def Ub(m b:Int):Tm:=.node (.call m b) 0 []
def lcl:Lab->List (Int×Int)
 | .call m b=>[(m,b)]
 | .put _ _ _=>[]
def isC:Lab->Bool
 | .call _ _=>true
 | .put _ _ _=>false
def lab:Tm->Lab
 | .node l _ _=>l
mutual
noncomputable def cls:Tm->List (Int×Int)
 | .node l _ bs=>lcl l++Q5 bs
noncomputable def Q5:List Tm->List (Int×Int)
 | []=>[]
 | t::r=>cls t++Q5 r
end
theorem Np{ts:List Tm}{t:Tm}(h:t∈ts):∀c,c∈cls t->c∈Q5 ts:=by
 induction ts with
 | nil=>cases h
 | cons u r J=>
  intro c G;simp only [Q5];rcases aM.mp h with rfl | h
  .exact cT _ G
  .exact bY _ (J h c G)
theorem XW:∀(ts:List Tm)(t:Tm),Q5 (ts++[t])=Q5 ts++cls t
 | [],t=>by simp [Q5]
 | u::r,t=>by rw [f_];simp only [Q5,XW r t,dE]
mutual
theorem LG:∀t:Tm,(cls t).length<=sz t
 | .node l _ bs=>by
  simp only [cls,sz,aW];have:=Xa bs;have h:(lcl l).length<=1:=by cases l<;>simp [lcl]
  lia
theorem Xa:∀ts:List Tm,(Q5 ts).length<=szs ts
 | []=>by simp [Q5,szs]
 | t::r=>by simp only [Q5,szs,aW];have h1:=LG t;have h2:=Xa r;lia
end
variable{R:Rows Lab}
variable{B B':Nat->Tm}{f:Int->Int->Tm}
end TT
variable{ts:List TT.Tm}
namespace L2
open PySem PyProof.Rows TM TT
abbrev ZD:Str:=Str.ofString "call"
abbrev PUT:Str:=Str.ofString "put"
mutual
inductive TmV(K:Fg)(H:Hp):V->Tm->Prop where
 | call {a:Addr} {m b:Int}:SqT K H a [.str ZD,.int m,.int b]->TmV K H (.ref a) (.node (.call m b) 0 [])
 | put {a b:Addr} {vs:List V} {ts:List Tm} {n:Str} {k:Bool} {ad:Int}:SqT K H a [.str PUT,.str n,.bl k,.int ad,.ref b]->SqT K H b vs->TmAll K H vs ts->vs.length<=1000->TmV K H (.ref a) (.node (.put n k ad) 0 ts)
inductive TmAll(K:Fg)(H:Hp):List V->List Tm->Prop where
 | nil:TmAll K H [] []
 | cons {v:V} {vs:List V} {t:Tm} {ts:List Tm}:TmV K H v t->TmAll K H vs ts->TmAll K H (v::vs) (t::ts)
end
mutual
theorem TmV.mono{K:Fg}{H H':Hp}(k:∀a xs,SqT K H a xs->SqT K H' a xs):∀{v:V}{t:Tm},TmV K H v t->TmV K H' v t
 | _,_,.call h=>.call (k _ _ h)
 | _,_,.put h1 h2 G J=>.put (k _ _ h1) (k _ _ h2) (TmAll.mono k G) J
theorem TmAll.mono{K:Fg}{H H':Hp}(k:∀a xs,SqT K H a xs->SqT K H' a xs):∀{vs:List V}{ts:List Tm},TmAll K H vs ts->TmAll K H' vs ts
 | _,_,.nil=>.nil
 | _,_,.cons h t=>.cons (TmV.mono k h) (TmAll.mono k t)
end
theorem TmAll.length{K:Fg}:∀{vs:List V}{ts:List Tm},TmAll K H vs ts->vs.length=ts.length
 | _,_,.nil=>rfl
 | _,_,.cons _ t=>by rw [bF,bF,TmAll.length t]
theorem TmAll.get{K:Fg}:∀{vs:List V}{ts:List Tm}{i:Nat}{t:Tm},TmAll K H vs ts->ts[i]?=some t->∃v,vs[i]?=some v/\TmV K H v t
 | _,_,_,_,.nil,e=>by simp at e
 | _,_,0,_,.cons h _,e=>by simp at e;subst e;exact⟨_,rfl,h⟩
 | _,_,i+1,t,.cons _ r,e=>by
  obtain⟨v,h1,h2⟩:=TmAll.get (i:=i) (t:=t) r (by simpa using e);exact⟨v,by simpa using h1,h2⟩
theorem TmAll.append{K:Fg}:∀{vs ws:List V}{ts us:List Tm},TmAll K H vs ts->TmAll K H ws us->TmAll K H (vs++ws) (ts++us)
 | _,_,_,_,.nil,h=>h
 | _,_,_,_,.cons a t,h=>.cons a (TmAll.append t h)
def tdl:Lab->List PyData->PyData
 | .call m b,_=>.tuple [.str ZD,.int m,.int b]
 | .put n k a,ds=>.tuple [.str PUT,.str n,.bool k,.int a,.tuple ds]
mutual
noncomputable def tmd:Tm->PyData
 | .node l _ bs=>tdl l (tmds bs)
noncomputable def tmds:List Tm->List PyData
 | []=>[]
 | t::r=>tmd t::tmds r
end
mutual
theorem TmV.rd{K:Fg}{H:Hp}:∀{v:V}{t:Tm},TmV K H v t->RdV K H v (tmd t)
 | _,_,.call h=>by
  simp only [tmd,tdl];exact .tup h (.cons (.str _) (.cons (.int _) (.cons (.int _) .nil)))
 | _,_,.put h1 h2 G _=>by
  simp only [tmd,tdl];exact .tup h1 (.cons (.str _) (.cons (.str _) (.cons (.bl _) (.cons (.int _) (.cons (.tup h2 (TmAll.rd G)) .nil)))))
theorem TmAll.rd{K:Fg}{H:Hp}:∀{vs:List V}{ts:List Tm},TmAll K H vs ts->RdAll K H vs (tmds ts)
 | _,_,.nil=>by simp only [tmds];exact .nil
 | _,_,.cons h t=>by simp only [tmds];exact .cons (TmV.rd h) (TmAll.rd t)
end
def MOk(d:Nat)(t:Tm):Prop:=(tmd t).canLay0=true/\(tmd t).depth<=d
theorem MOk.mono{d e:Nat}{t:Tm}(h:MOk d t)(hd:d<=e):MOk e t:=⟨h.1,bT h.2 hd⟩
theorem U9{d:Nat}:∀ts:List Tm,(∀t∈ts,MOk d t)->PyData.canLayAll0 (tmds ts)=true/\PyData.depthAll (tmds ts)<=d
 | [],_=>by simp [tmds,PyData.canLayAll0,PyData.depthAll]
 | t::r,h=>by
  obtain⟨h1,h2⟩:=h t aR;obtain⟨G,L⟩:=U9 r λu J=>h u (bR _ J);simp only [tmds,PyData.canLayAll0,PyData.depthAll,h1,G,cH,true_and];lia
theorem WQ:PyData.strOk ZD=true:=by decide+kernel
theorem GY:PyData.strOk PUT=true:=by decide+kernel
theorem leaf_ok(m b:Int)(mk:Int)(bs:List Tm):MOk 1 (.node (.call m b) mk bs):=by
 constructor
 .simp only [tmd,tdl,PyData.canLay0,PyData.canLayAll0,WQ,cH]
 .simp only [tmd,tdl,PyData.depth,PyData.depthAll];lia
theorem put_ok{d:Nat}{n:Str}{k:Bool}{a mk:Int}(hn:PyData.strOk n=true)(h:∀t∈ts,MOk d t):MOk (d+2) (.node (.put n k a) mk ts):=by
 obtain⟨h1,h2⟩:=U9 ts h;constructor
 .simp only [tmd,tdl,PyData.canLay0,PyData.canLayAll0,h1,hn,GY,cH]
 .simp only [tmd,tdl,PyData.depth,PyData.depthAll];lia
end L2
namespace L2
open PySem PySem.Spec PyProof.Rows
section
variable{E:Value->Shared->Prop}{t:Addr}{its:Array Value}{x:Value}
theorem Z5(hi:s.heap.IsTupleIter it t i)(ht:s.heap.IsTuple t its)(hx:its[i]?=some x)(q:∀h',h'.IsTupleIter it t (i+1)->Heap.SameBut it s.heap h'->Q x { s with heap:=h' }):
 wpAny (9:) A (Builtin.SmallTypes.nextOf (.ref it)) Q E s:=by
 obtain⟨Y,J,L,G⟩:=id hi;obtain⟨Z,M,_,nt,U⟩:=ht;unfold Builtin.SmallTypes.nextOf;refine aB (dU (name:=Str.ofString "__next__") hi.typeIs gE (dA gE hi.typeIs F.entry_tuple_iterator_next ?_ (F.args_tuple_iterator_next_1 _)));show wpAny _ _ (field (.ref it) 0>>=_) _ _ s;refine aB (cC J G (x:=.ref t) rfl ?_);show wpAny _ _ (if(Value.ref t==Value.none)=true then _ else _) _ _ s;rw [aF (show ¬((Value.ref t==Value.none)=true)from aT)];show wpAny _ _ (field (.ref it) 1>>=_) _ _ s;refine aB (cC J G (x:=.int i 0) rfl ?_);show wpAny _ _ (seqItems? (.ref t)>>=_) _ _ s;refine aB (dP M U ?_);simp only [a_,hx];refine aB (fR J G (16:) (aH ⟨x,rfl,aH (q _ ⟨_,dX _ J (Obj.isFreed_of_fields (fK G _)),(Obj.cls_mapFields ..).trans L,?_⟩ (cU ..))⟩));rw [fK G];simp [rawInt]
theorem Yo(hh:A.handled=none)(hi:s.heap.IsTupleIter it t i)(ht:s.heap.IsTuple t its)(hx:its[i]?=none)
 (q:∀h' e,Heap.ExtBut it s.heap h'->(∃o,h'.get? e=some o/\o.cls=.type "StopIteration")->E (.ref e) { s with heap:=h' }):wpAny (9:) A (Builtin.SmallTypes.nextOf (.ref it)) Q E s:=by
 obtain⟨U,G,Y,J⟩:=id hi;obtain⟨Z,L,_,nt,M⟩:=ht;unfold Builtin.SmallTypes.nextOf;refine aB (dU (name:=Str.ofString "__next__") hi.typeIs gE (dA gE hi.typeIs F.entry_tuple_iterator_next ?_ (F.args_tuple_iterator_next_1 _)));show wpAny _ _ (field (.ref it) 0>>=_) _ _ s;refine aB (cC G J (x:=.ref t) rfl ?_);show wpAny _ _ (if(Value.ref t==Value.none)=true then _ else _) _ _ s;rw [aF (show ¬((Value.ref t==Value.none)=true)from aT)];show wpAny _ _ (field (.ref it) 1>>=_) _ _ s;refine aB (cC G J (x:=.int i 0) rfl ?_);show wpAny _ _ (seqItems? (.ref t)>>=_) _ _ s;refine aB (dP L M ?_);simp only [a_,hx];refine aB (eP (aB (fR G J (16:) ?_)));show wpAny _ _ (newExc (.type "StopIteration") []>>=_) _ _ _;simp only [newExc,newTuple];refine aB (aB (cN (aB (m:=firstArgMember _ _) (wpAny_of_eq (a:=Value.none) (by first | rfl | (simp only [firstArgMember];rfl)) (cN ?_ (by size_fits)))) (by size_fits)));simp only [raiseNew];refine aB (wpAny_handled ?_)
 first | rw [show A.in1.handled=none from hh] | rw [hh]
 exact aB (aH (wpAny_throw (q _ _ (((cU ..).extBut.push _).push _) ⟨_,bD _ rfl,rfl⟩)))
theorem L8(hh:A.handled=none)(hne:t≠it):Draws prog w A it [it,t] its.size (λi v=>its[i]?=some v) (λi h=>h.IsTupleIter it t i/\h.IsTuple t its) where
 live:=λ_ _ st=>let⟨o,J,_⟩:=st.1;⟨o,J⟩
 frame:=λ_ _ _ st M=>⟨st.1.at λo e=>M it (16:) o e,let⟨o,J,r⟩:=st.2;⟨o,M t (16:) o J,r⟩⟩
 item:=λi s Q E hi st U=>Z5 st.1 st.2 (x:=its[i]) (by simp [hi]) λh' L G=>U _ h' s.toks (by simp [hi]) ⟨L,st.2.extBut G.extBut hne⟩ G
 done:=λs Q E st hE=>Yo hh st.1 st.2 (16:) hE
end
theorem Mi(t:Addr)(its:Array Value)(n:Nat)(dct:Option Addr)(sl:Array (Option Value)):
 Meets (Builtin.«enumerate.__new__» ⟨[.type "enumerate",.ref t],[]⟩) (λ_ R s=>s.heap.get? t=some { cls:=.type "tuple",dict:=dct,data:=.seq its n,slots:=sl }/\
  R (.ok (.ret (.ref (s.heap.push { cls:=.type "tuple_iterator",data:=.fields #[.ref t,.int 0 0] }).objs.size)))
   { s with heap:=(s.heap.push { cls:=.type "tuple_iterator",data:=.fields #[.ref t,.int 0 0] }).push { cls:=.type "enumerate",data:=.fields #[.none,.bool false,.ref s.heap.objs.size,rawInt 0,.none,.none] } }):=
 .of_wp λprog w A R s h=>by
  obtain⟨hp,g,d,tk,L⟩:=s;obtain⟨G,h⟩:=h;have M:=sub_enumerate;have J:Heap.IsTuple (Shared.heap ⟨hp,g,d,tk,L⟩) t its:=⟨_,G,rfl,n,rfl⟩
  wp_walk using AutoSeq1.wpAny_loadPart' G
  refine wpAny_stack_any λst=>aH ?_;split
  .rename_i c _ _ _ _ _;cases (c==Value.type "enumerate")<;>(wp_walk using AutoSeq1.wpAny_loadPart' G,wpAny_pyIter_tuple J;exact⟨_,rfl,h⟩)
  .wp_walk using AutoSeq1.wpAny_loadPart' G,wpAny_pyIter_tuple J
   exact⟨_,rfl,h⟩
theorem VZ{E:Value->Shared->Prop}{t:Addr}{its:Array Value}(hT:s.heap.IsTuple t its)
 (h:∀h',IsEnum h' (20:) s.heap.objs.size 0 .none->h'.IsTupleIter s.heap.objs.size t 0->h'.objs.size=s.heap.objs.size+2->
  (∀b o,s.heap.get? b=some o->h'.get? b=some o)->Q (.ref (20:)) { s with heap:=h' }):
 wpAny (9:) A (call (.type "enumerate") [.ref t]) Q E s:=by
 obtain⟨⟨c,J,Z,sl⟩,Y,L,n,M⟩:=hT;simp only at L M;subst L M;refine callType_new F.called_enumerate (12:) (F.typeCall_enumerate_1 _) (F.newCall_enumerate_1 _) (λU=>F.args_object_init_2 U _) F.entry_enumerate_new (Mi t its n J sl) ⟨Y,?_⟩;have hz:(s.heap.push { cls:=.type "tuple_iterator",data:=.fields #[.ref t,.int 0 0] }).objs.size=s.heap.objs.size+1:=dZ ..;have G:=bD (s.heap.push { cls:=.type "tuple_iterator",data:=.fields #[.ref t,.int 0 0] }) (o:={ cls:=.type "enumerate",data:=.fields #[.none,.bool false,.ref s.heap.objs.size,rawInt 0,.none,.none] }) rfl;show _/\_;rw [hz]at G ⊢;exact⟨⟨_,G,rfl⟩,h _ G ⟨_,aN _ (bD _ rfl),rfl,rfl⟩ (by rw [dZ,hz]) λb o y=>aN _ (aN _ y)⟩
def Ite(K:Fg)(a:Addr):It:=
 ⟨λi H=>∃xs x,SqT K H a xs/\xs[i]?=some x,λi H x H'=>∃p v,H p=none/\x=.ref p/\H'=upd H p (.tup [.int (i:Int),v])/\∀xs,SqT K H a xs->xs[i]?=some v,λi H=>∃xs,SqT K H a xs/\xs.length<=i⟩
theorem Me{K:Fg}(a e it:Addr)(hei:e≠it):
 Turn P w K (.Tuple elts k1 pos) (Ite K a) [e,it] e (λi h=>(∃old,IsEnum h e it (i:Nat) old)/\h.IsTupleIter it a i) where
 mem:=by simp
 obj:=λi h st c G=>by
  obtain⟨⟨old,J⟩,hi⟩:=st;simp only [aM,bQ,bP]at G;rcases G with rfl | rfl
  .exact⟨_,J,λv z=>by have z':Data.fields _=Data.cell v:=z;cases z'⟩
  .obtain⟨o,g,c,d⟩:=hi;exact⟨o,g,λv z=>by rw [d]at z;cases z⟩
 keep:=λi h h' st k=>by
  obtain⟨⟨old,J⟩,hi⟩:=st;exact⟨⟨old,k e (16:) _ J⟩,hi.at λo g=>k it (16:) o g⟩
 item:=by
  intro X hP hw hK G i pins s σ H E I U st hg;subst hP hw hK;obtain⟨⟨old,J⟩,hi⟩:=st;obtain⟨xs,x,Y,hx⟩:=hg;obtain⟨its,rv,p,hz⟩:=I.tuple Y;obtain⟨u,hu,ru⟩:=rv.get hx;have pt:s.heap.IsTuple a its.toArray:=p;obtain⟨oa,Z,ca,na,da⟩:=id pt;have ab:a≠e:=λz=>by
   subst z;have hE:s.heap.get? a=some _:=J;rw [hE]at Z;cases Z;exact absurd (Value.type.inj ca) (12:)
  have ac:a≠it:=λz=>by
   subst z;obtain⟨o,g,c,d⟩:=hi;rw [g]at Z;cases Z;rw [c]at ca;exact absurd (Value.type.inj ca) (12:)
  have ad:i<its.toArray.size:=by
   have:=(aU.mp hu).1
   simpa using this
  refine wpAny_pyNext_enum_itemD (L8 (prog:=X.prog) (w:=X.w) (A:=X.A.in1) (it:=it) (t:=a) (its:=its.toArray) (I.ok.hd G) ac) J ⟨hi,pt⟩ ad hei (by simp only [aM,bQ,bP,not_or];exact⟨hei,aV ab⟩) λy h' tk hy ho ae ht ao hk=>?_;have af:y=u:=by
   have:its.toArray[i]?=some u:=by simpa using hu
   exact aI (hy.symm.trans this)
  subst af;refine⟨.ref s.heap.objs.size,rfl,wpAny_letOwnedTupleGo_enum (s:={ s with heap:=h',toks:=tk+1 }) ho λag aa M=>?_⟩;have lt:∀{c o},s.heap.get? c=some o->c≠s.heap.objs.size:=λg=>bC (aO g);have ah:s.heap.objs.size≠e:=aV (lt J);have ai:∀c∈[e,it],YT X pins H c:=U;have I2:Inv X pins σ (upd H s.heap.objs.size (.tup [.int (i:Int),x])) { s with heap:=ag,toks:=tk+1 }:=by
   refine I.turnedNew (ch:=[e,it]) (λc o G g=>?_) ai (4:) ⟨by show 2<=sizeLine;decide,[.int (i:Int) tk,y],.cons ⟨tk,rfl⟩ (.cons ru .nil),⟨_,(M.2 _ ah).trans ht,rfl,_,rfl⟩⟩;simp only [aM,bQ,bP,not_or]at G;exact(M.2 c G.1).trans (hk c o G.1 G.2 g)
  have aj:∀c∈[e,it],upd H s.heap.objs.size (.tup [.int (i:Int),x]) c=none:=λc G=>by
   have:c≠s.heap.objs.size:=by
    have L:=G;simp only [aM,bQ,bP]at L;rcases L with rfl | rfl
    .exact lt J
    .obtain⟨o,g,_⟩:=hi;exact lt g
   rw [Qe this];exact(U c G).1
  exact⟨.ref s.heap.objs.size,_,I2,rfl,⟨s.heap.objs.size,x,I.fresh,rfl,rfl,λys ak=>by rw [I.tuple_inj ak Y];exact hx⟩,⟨⟨_,aa⟩,ae.1.extBut M.extBut (aV hei)⟩,aj⟩
 done:=by
  intro X hP hw hK G i pins s σ H E I U st hg;subst hP hw hK;obtain⟨⟨old,J⟩,hi⟩:=st;obtain⟨xs,Y,hx⟩:=hg;obtain⟨its,rv,p,hz⟩:=I.tuple Y;have pt:s.heap.IsTuple a its.toArray:=p;have an:=rv.length;have hn:its.toArray.size<=i:=by simp;lia
  have hT:s.TypeIs (.ref e) "enumerate":=⟨_,J,rfl⟩;unfold pyNext;refine aB (wpAny_attempt (dU (name:=Str.ofString "__next__") hT gI (dA gI hT F.entry_enumerate_next ?_ (F.args_enumerate_next_1 _))));show wpAny _ _ (field (.ref e) 2>>=_) _ _ _;refine aB (cC J rfl (x:=.ref it) rfl ?_);refine aB (Yo (A:=X.A.in1) (I.ok.hd G) hi pt (eA hn) λh' y al hy=>?_);obtain⟨o,ho,am⟩:=hy;refine aB (eZ (T:="StopIteration") (b:=true) ⟨o,ho,am⟩ isSubtype_stop ?_);refine aH ⟨rfl,I.turnedL (t':=s.toks) (ch:=[e,it]) (λc u L g=>al c u (λz=>L (by rw [z];simp)) g) U⟩
 self:=λ_ _ _ _ _ st h=>wpAny_pyIter_enum st.1.choose_spec h
def BJ(K:Fg)(ta:TA):TI:=λσ H R=>ta σ H λvs H1=>∃a xs,vs=[.ref a]/\SqT K H1 a xs/\R (Ite K a) H1
theorem Lf{ta:TA}{p:Pos}(hg:Gl X "enumerate")(hm:X.mg "enumerate"=none)(ha:PA X [e1] ta)(hb:bootBuiltins "enumerate"=some (.type "enumerate"):=by decide+kernel)(hs:starEach [e1] X.env=[(false,eval e1 X.env)]:=by rfl):
 PI X (.Tuple elts k1 tpos) (.Call (.Name "enumerate" p) [e1] [] pos) (BJ X.K ta):=by
 intro pins s σ H R I h;refine Call_ (Z6 I hg hm hb (fo (thn (ha pos pins s σ H _ I h) λus G ⟨vs,H1,J,Y,Z⟩=>?_) hs rfl));obtain⟨a,xs,e,hq,q⟩:=Z;subst e;cases Y with
 | cons r rr=>
  cases rr;obtain rfl:_=Value.ref a:=r;obtain⟨its,rv,pt,_⟩:=J.tuple hq;refine VZ (show G.heap.IsTuple a its.toArray from pt) λh' M hi aa hk=>?_;refine wpAny_pyIter_enum M ?_;have I2:Inv X pins σ H1 { G with heap:=h' }:=J.kept (t':=G.toks) hk;refine⟨G.heap.objs.size+1,[G.heap.objs.size+1,G.heap.objs.size],_,_,H1,rfl,I2,Me a (G.heap.objs.size+1) G.heap.objs.size (nne (5:)),⟨⟨_,M⟩,hi⟩,λc U=>?_,q⟩;have L:@LE.le Nat _ G.heap.objs.size c:=by
   simp only [aM,bQ,bP]at U;rcases U with rfl | rfl<;>lia
  exact J.fpOk L (J.hok.fresh L)
theorem WF{K:Fg}{a:Addr}{xs:List V}{g:TG}{tb:TS}{D:Ends}{σ:St}{H:Hp}(Pv:Nat->St->Hp->Prop)(h0:Pv 0 σ H)(hl:∀i σ H,i<=xs.length->Pv i σ H->SqT K H a xs)
 (hs:∀i v p σ H,xs[i]?=some v->H p=none->Pv i σ H->g (.ref p) σ (upd H p (.tup [.int (i:Int),v])) λσ2 H2=>tb { D with nx:=Pv (i+1),ct:=Pv (i+1),bk:=D.nx } σ2 H2) (hd:∀σ H,Pv xs.length σ H->D.nx σ H):
 ∃W:Nat->Nat->St->Hp->Prop,(∃m,W 0 m σ H)/\∀i m σ H,W i m σ H->
  ((Ite K a).stop i H/\D.nx σ H)\/((Ite K a).go i H/\∃N:St->Hp->Prop,(∀σ' H',N σ' H'->∃m',m'<m/\W (i+1) m' σ' H')/\∀x H',(Ite K a).yld i H x H'->g x σ H' λσ2 H2=>tb { D with nx:=N,ct:=N,bk:=D.nx } σ2 H2):=by
 refine⟨λi m σ H=>m=xs.length-i/\i<=xs.length/\Pv i σ H,⟨xs.length-0,rfl,bE _,h0⟩,?_⟩;rintro i m σ H ⟨rfl,hi,p⟩;have G:=hl i σ H hi p
 by_cases h:i<xs.length
 .refine .inr ⟨⟨xs,xs[i],G,aD h⟩,Pv (i+1),λσ' H' J=>⟨xs.length-(i+1),by lia,rfl,h,J⟩,?_⟩;rintro x H' ⟨J,v,hp,rfl,rfl,L⟩;exact hs i v J σ H (L xs G) hp p
 .have e:i=xs.length:=by lia
  subst e;exact .inl ⟨⟨xs,G,aY _⟩,hd σ H p⟩
section
variable{E:Value->Shared->Prop}
theorem Ma{us vs:Array Value}{p q c d:Value}(Ap:ZipApart zp ti tu j1 j2 t1 t2)
 (gz:IsZip s.heap zp ti tu .none) (gi:IsPair s.heap ti (.ref j1) (.ref j2)) (gu:IsPair s.heap tu c d)
 (w1:s.heap.IsTupleIter j1 t1 n1) (w2:s.heap.IsTupleIter j2 t2 n2) (l1:s.heap.IsTuple t1 us) (l2:s.heap.IsTuple t2 vs) (ep:us[n1]?=some p) (eq:vs[n2]?=some q)
 (k:∀h',IsZip h' zp ti tu (rawInt s.heap.objs.size)->IsPair h' tu p q->h'.IsTupleIter j1 t1 (n1+1)->h'.IsTupleIter j2 t2 (n2+1)->IsPair h' s.heap.objs.size p q->
  (∀b o,b≠zp->b≠tu->b≠j1->b≠j2->s.heap.get? b=some o->h'.get? b=some o)->Q (.ref s.heap.objs.size) { s with heap:=h' }):
 wpAny (9:) A (Builtin.«zip.__next__» ⟨[.ref zp],[]⟩) (λfin s'=>∃v,fin=.done (.ret v)/\Q v s') E s:=by
 show wpAny _ _ (field (.ref zp) 2>>=_) _ _ _;refine aB (cC gz rfl (x:=.bool false) rfl ?_);show wpAny _ _ (field (.ref zp) 3>>=_) _ _ _;refine aB (cC gz rfl (x:=.ref ti) rfl ?_);refine aB (dP gi rfl ?_);show wpAny _ _ (Builtin.SmallTypes.ownedTupleIsFree (.ref zp)>>=_) _ _ _;refine aB ?_;(unfold Builtin.SmallTypes.ownedTupleIsFree);refine aB (cC gz rfl (x:=.none) rfl (21:));simp only [b_];refine aB (eP (aB (cC gz rfl (x:=.ref tu) rfl ?_)));refine aB (f9 gz (16:) λha aa J=>?_)
 replace aa:IsZip ha zp ti tu .ellipsis:=aa
 refine aB ?_;simp only [List.forIn_cons,List.forIn_nil,List.zipIdx_cons,List.zipIdx_nil];refine aB (aB (wpAny_onRaise ?_));show wpAny _ _ (Builtin.SmallTypes.nextOf (.ref j1)>>=_) _ _ _;refine aB (Z5 (w1.extBut J.extBut Ap.i1z) (l1.extBut J.extBut Ap.l1z) ep λhb ai sb=>aH ?_);have af:IsPair hb tu c d:=sb.extBut _ _ Ap.TOi1 (J.extBut _ _ Ap.TOz gu);refine aB (dP af rfl (aB (wpAny_updateSeq_pair af λhc ab sc=>?_)))
 replace ab:IsPair hc tu p d:=ab
 refine aB (fj (aH (aB (aB (wpAny_onRaise ?_)))));show wpAny _ _ (Builtin.SmallTypes.nextOf (.ref j2)>>=_) _ _ _;refine aB (Z5 (((w2.extBut J.extBut Ap.i2z).extBut sb.extBut Ap.i12.symm).extBut sc.extBut Ap.TOi2.symm) (((l2.extBut J.extBut Ap.l2z).extBut sb.extBut Ap.l2i1).extBut sc.extBut Ap.l2TO) eq λhd aj sd=>aH ?_);have ag:IsPair hd tu p d:=sd.extBut _ _ Ap.TOi2 ab;refine aB (dP ag rfl (aB (wpAny_updateSeq_pair ag λG M se=>?_)))
 replace M:IsPair G tu p q:=M
 refine aB (fj (aH (aH (aB (dP M rfl (aB (wpAny_newTuple ?_)))))));have U:G.objs.size=s.heap.objs.size:=by rw [se.1,sd.1,sc.1,sb.1,J.1]
 have ah:IsZip G zp ti tu .ellipsis:=se.extBut _ _ Ap.TOz.symm (sd.extBut _ _ Ap.i2z.symm (sc.extBut _ _ Ap.TOz.symm (sb.extBut _ _ Ap.i1z.symm aa)));have ae:∀b o,b≠zp->b≠tu->b≠j1->b≠j2->s.heap.get? b=some o->G.get? b=some o:=λb o L b2 b3 b4 e=>se.extBut _ _ b2 (sd.extBut _ _ b4 (sc.extBut _ _ b2 (sb.extBut _ _ b3 (J.extBut _ _ L e))));have ak:G.IsTupleIter j1 t1 (n1+1):=((ai.extBut sc.extBut Ap.TOi1.symm).extBut sd.extBut Ap.i12).extBut se.extBut Ap.TOi1.symm;have al:G.IsTupleIter j2 t2 (n2+1):=aj.extBut se.extBut Ap.TOi2.symm;have lz:zp<G.objs.size:=aO ah;show wpAny _ _ (Builtin.SmallTypes.ownedTupleHandOut (.ref zp) (.ref G.objs.size)>>=_) _ _ _;refine aB ?_;(unfold Builtin.SmallTypes.ownedTupleHandOut);have am:IsZip (G.push { cls:=.type "tuple",data:=.seq #[p,q] }) zp ti tu .ellipsis:=aN _ ah;refine aB (f9 am (16:) λhg ac sg=>?_)
 replace ac:IsZip hg zp ti tu (rawInt G.objs.size):=ac
 refine f9 ac (16:) λhh Y sh=>?_
 replace Y:IsZip hh zp ti tu (rawInt G.objs.size):=Y
 have Z:∀b o,b≠zp->G.get? b=some o->hh.get? b=some o:=λb o L e=>sh.extBut _ _ L (sg.extBut _ _ L (aN _ e));have ad:IsPair hh G.objs.size p q:=sh.extBut _ _ (Nat.ne_of_gt lz) (sg.extBut _ _ (Nat.ne_of_gt lz) (bD _ rfl));rw [U]at Y ad;refine aH ⟨_,rfl,?_⟩;show Q (.ref G.objs.size) _;rw [U];exact k hh Y (Z _ _ Ap.TOz M) (ak.at λo e=>Z _ o Ap.i1z e) (al.at λo e=>Z _ o Ap.i2z e) ad λb o L b2 b3 b4 e=>Z b o L (ae b o L b2 b3 b4 e)
theorem N6{zp ti tu j1 j2 t1 t2:Addr}{n1 n2:Nat}{us vs:Array Value}{c d:Value}{Q:Fin->Shared->Prop}(hh:A.handled=none)(Ap:ZipApart zp ti tu j1 j2 t1 t2)
 (gz:IsZip s.heap zp ti tu .none) (gi:IsPair s.heap ti (.ref j1) (.ref j2)) (gu:IsPair s.heap tu c d)
 (w1:s.heap.IsTupleIter j1 t1 n1) (l1:s.heap.IsTuple t1 us) (ep:us[n1]?=none)
 (k:∀h' e,(∀b o,b≠zp->b≠tu->b≠j1->b≠j2->s.heap.get? b=some o->h'.get? b=some o)->(∃o,h'.get? e=some o/\o.cls=.type "StopIteration")->E (.ref e) { s with heap:=h' }):
 wpAny (9:) A (Builtin.«zip.__next__» ⟨[.ref zp],[]⟩) Q E s:=by
 show wpAny _ _ (field (.ref zp) 2>>=_) _ _ _;refine aB (cC gz rfl (x:=.bool false) rfl ?_);show wpAny _ _ (field (.ref zp) 3>>=_) _ _ _;refine aB (cC gz rfl (x:=.ref ti) rfl ?_);refine aB (dP gi rfl ?_);show wpAny _ _ (Builtin.SmallTypes.ownedTupleIsFree (.ref zp)>>=_) _ _ _;refine aB ?_;(unfold Builtin.SmallTypes.ownedTupleIsFree);refine aB (cC gz rfl (x:=.none) rfl (21:));simp only [b_];refine aB (eP (aB (cC gz rfl (x:=.ref tu) rfl ?_)));refine aB (f9 gz (16:) λha G U=>?_)
 replace G:IsZip ha zp ti tu .ellipsis:=G
 refine aB ?_;simp only [List.forIn_cons,List.forIn_nil,List.zipIdx_cons,List.zipIdx_nil];refine aB (aB (wpAny_onRaise ?_));show wpAny _ _ (Builtin.SmallTypes.nextOf (.ref j1)>>=_) _ _ _;refine aB (Yo hh (w1.extBut U.extBut Ap.i1z) (l1.extBut U.extBut Ap.l1z) ep λhb e Y ge=>?_);obtain⟨oe,J,L⟩:=ge;have M:IsZip hb zp ti tu .ellipsis:=Y _ _ Ap.i1z.symm G;have Z:e≠zp:=λx=>by subst x;rw [M]at J;cases J;simp at L
 refine f9 M (16:) λhc _ sc=>k hc e (λb o b1 _ b3 _ x=>sc.extBut _ _ b1 (Y _ _ b3 (U.extBut _ _ b1 x))) ⟨oe,sc.extBut _ _ Z J,L⟩
theorem UO{zp ti tu j1 j2 t1 t2:Addr}{n1 n2:Nat}{us vs:Array Value}{p q c d:Value}{Q:Option Value->Shared->Prop}(Ap:ZipApart zp ti tu j1 j2 t1 t2)
 (gz:IsZip s.heap zp ti tu .none) (gi:IsPair s.heap ti (.ref j1) (.ref j2)) (gu:IsPair s.heap tu c d)
 (w1:s.heap.IsTupleIter j1 t1 n1) (w2:s.heap.IsTupleIter j2 t2 n2) (l1:s.heap.IsTuple t1 us) (l2:s.heap.IsTuple t2 vs) (ep:us[n1]?=some p) (eq:vs[n2]?=some q)
 (k:∀h',IsZip h' zp ti tu (rawInt s.heap.objs.size)->IsPair h' tu p q->h'.IsTupleIter j1 t1 (n1+1)->h'.IsTupleIter j2 t2 (n2+1)->IsPair h' s.heap.objs.size p q->
  (∀b o,b≠zp->b≠tu->b≠j1->b≠j2->s.heap.get? b=some o->h'.get? b=some o)->Q (some (.ref s.heap.objs.size)) { s with heap:=h' }):
 wpAny (9:) A (pyNext (.ref zp)) Q E s:=by
 have G:s.TypeIs (.ref zp) "zip":=⟨_,gz,rfl⟩;unfold pyNext;exact aB (wpAny_attempt (dU (name:=Str.ofString "__next__") G F.slot_zip_next (dA F.slot_zip_next G F.entry_zip_next (Ma Ap gz gi gu w1 w2 l1 l2 ep eq λh' J a2 L M U Y=>aH (k h' J a2 L M U Y)) (F.args_zip_next_1 _))))
theorem U2{zp ti tu j1 j2 t1 t2:Addr}{n1 n2:Nat}{us:Array Value}{c d:Value}{Q:Option Value->Shared->Prop}(hh:A.handled=none)(Ap:ZipApart zp ti tu j1 j2 t1 t2)
 (gz:IsZip s.heap zp ti tu .none) (gi:IsPair s.heap ti (.ref j1) (.ref j2)) (gu:IsPair s.heap tu c d) (w1:s.heap.IsTupleIter j1 t1 n1) (l1:s.heap.IsTuple t1 us) (ep:us[n1]?=none)
 (k:∀h',(∀b o,b≠zp->b≠tu->b≠j1->b≠j2->s.heap.get? b=some o->h'.get? b=some o)->Q none { s with heap:=h' }):wpAny (9:) A (pyNext (.ref zp)) Q E s:=by
 have G:s.TypeIs (.ref zp) "zip":=⟨_,gz,rfl⟩;unfold pyNext;refine aB (wpAny_attempt (dU (name:=Str.ofString "__next__") G F.slot_zip_next (dA F.slot_zip_next G F.entry_zip_next (N6 hh (n2:=n2) (vs:=us) Ap gz gi gu w1 l1 ep λh' e J L=>?_) (F.args_zip_next_1 _))));obtain⟨o,M,U⟩:=L;exact aB (eZ (T:="StopIteration") (b:=true) ⟨o,M,U⟩ isSubtype_stop (aH (k _ J)))
abbrev zT1(h:Heap)(t1:Addr):Heap:=h.push { cls:=.type "tuple_iterator",data:=.fields #[.ref t1,.int 0 0] }
abbrev zT2(h:Heap)(t1 t2:Addr):Heap:=(zT1 h t1).push { cls:=.type "tuple_iterator",data:=.fields #[.ref t2,.int 0 0] }
abbrev zT3(h:Heap)(t1 t2:Addr):Heap:=(zT2 h t1 t2).push { cls:=.type "tuple",data:=.seq #[.ref h.objs.size,.ref (zT1 h t1).objs.size] }
abbrev zT4(h:Heap)(t1 t2:Addr):Heap:=(zT3 h t1 t2).push { cls:=.type "tuple",data:=.seq #[.none,.none] }
abbrev zT5(h:Heap)(t1 t2:Addr):Heap:=(zT4 h t1 t2).push { cls:=.type "zip",data:=.fields #[.none,.bool false,.bool false,.ref (zT2 h t1 t2).objs.size,.ref (zT3 h t1 t2).objs.size] }
theorem Nx(t1 t2:Addr)(us vs:Array Value):
 Meets (Builtin.«zip.__new__» ⟨[.type "zip",.ref t1,.ref t2],[]⟩) (λ_ R s=>s.heap.IsTuple t1 us/\s.heap.IsTuple t2 vs/\
  R (.ok (.ret (.ref (zT4 s.heap t1 t2).objs.size))) { s with heap:=zT5 s.heap t1 t2 }):=
 .of_wp λprog w A R s h=>by
  obtain⟨hp,g,d,tk,G⟩:=s;obtain⟨J,L,h⟩:=h;have M:=sub_zip;have U:Heap.IsTuple (Shared.heap ⟨hp,g,d,tk,G⟩) t1 us:=J;have L2:Heap.IsTuple (Shared.heap ⟨hp.push { cls:=.type "tuple_iterator",data:=.fields #[.ref t1,.int 0 0] },g,d,tk,G⟩) t2 vs:=let⟨o,e,r⟩:=L;⟨o,aN _ e,r⟩
  wp_walk using wpAny_pyIter_tuple U,wpAny_pyIter_tuple L2
  exact⟨_,rfl,h⟩
theorem MK{us vs:Array Value}(l1:s.heap.IsTuple t1 us)(l2:s.heap.IsTuple t2 vs)
 (h:∀h',IsZip h' (s.heap.objs.size+4) (s.heap.objs.size+2) (s.heap.objs.size+3) .none->IsPair h' (s.heap.objs.size+2) (.ref s.heap.objs.size) (.ref (20:))->
  IsPair h' (s.heap.objs.size+3) .none .none->h'.IsTupleIter s.heap.objs.size t1 0->h'.IsTupleIter (20:) t2 0->
  (∀c o,s.heap.get? c=some o->h'.get? c=some o)->Q (.ref (s.heap.objs.size+4)) { s with heap:=h' }):
 wpAny (9:) A (call (.type "zip") [.ref t1,.ref t2]) Q E s:=by
 refine callType_new F.called_zip (12:) (F.typeCall_zip_2 _ _) (F.newCall_zip_2 _ _) (λU=>F.args_object_init_3 U _ _) F.entry_zip_new (Nx t1 t2 us vs) ⟨l1,l2,?_⟩;have G:(zT1 s.heap t1).objs.size=s.heap.objs.size+1:=dZ ..;have J:(zT2 s.heap t1 t2).objs.size=s.heap.objs.size+2:=by rw [dZ,G]
 have L:(zT3 s.heap t1 t2).objs.size=s.heap.objs.size+3:=by rw [dZ,J]
 have Y:(zT4 s.heap t1 t2).objs.size=s.heap.objs.size+4:=by rw [dZ,L]
 have M:(zT5 s.heap t1 t2).get? (zT4 s.heap t1 t2).objs.size=some _:=bD _ rfl;have Z:(zT5 s.heap t1 t2).get? (zT3 s.heap t1 t2).objs.size=some _:=aN _ (bD _ rfl);have r3:(zT5 s.heap t1 t2).get? (zT2 s.heap t1 t2).objs.size=some _:=aN _ (aN _ (bD _ rfl));have r2:(zT5 s.heap t1 t2).get? (zT1 s.heap t1).objs.size=some _:=aN _ (aN _ (aN _ (bD _ rfl)));have r1:(zT5 s.heap t1 t2).get? s.heap.objs.size=some _:=aN _ (aN _ (aN _ (aN _ (bD _ rfl))));show _/\_;rw [J,L,Y]at M;rw [G,J]at r3;rw [L]at Z;rw [G]at r2;rw [Y];exact⟨⟨_,M,rfl⟩,h _ M r3 Z ⟨_,r1,rfl,rfl⟩ ⟨_,r2,rfl,rfl⟩ λb o x=>aN _ (aN _ (aN _ (aN _ (aN _ x))))⟩
end
def SM(K:Fg)(a b:Addr)(xs ys:List V):It:=
 ⟨λi H=>SqT K H a xs/\SqT K H b ys/\i<xs.length/\i<ys.length,λi H x H'=>∃p u v,H p=none/\x=.ref p/\H'=upd H p (.tup [u,v])/\xs[i]?=some u/\ys[i]?=some v,λi H=>SqT K H a xs/\xs.length<=i⟩
theorem MP{K:Fg}(a b z:Addr)(xs ys:List V)(TI TO i1 i2:Addr)(Ap:ZipApart z TI TO i1 i2 a b):
 Turn P w K (.Tuple elts k1 pos) (SM K a b xs ys) [z,TI,TO,i1,i2] z (λi h=>IsZip h z TI TO .none/\IsPair h TI (.ref i1) (.ref i2)/\(∃u v,IsPair h TO u v)/\h.IsTupleIter i1 a i/\h.IsTupleIter i2 b i) where
 mem:=by simp
 obj:=λi h st c G=>by
  obtain⟨hz,J,⟨u,v,L⟩,h1,h2⟩:=st;simp only [aM,bQ,bP]at G;rcases G with rfl | rfl | rfl | rfl | rfl
  .exact⟨_,hz,λv z=>by have U:Data.fields _=Data.cell v:=z;cases U⟩
  .exact⟨_,J,λv z=>by have U:Data.seq _ _=Data.cell v:=z;cases U⟩
  .exact⟨_,L,λv z=>by have U:Data.seq _ _=Data.cell v:=z;cases U⟩
  .obtain⟨o,e,c,d⟩:=h1;exact⟨o,e,λv z=>by rw [d]at z;cases z⟩
  .obtain⟨o,e,c,d⟩:=h2;exact⟨o,e,λv z=>by rw [d]at z;cases z⟩
 keep:=λi h h' st k=>by
  obtain⟨hz,J,⟨u,v,L⟩,h1,h2⟩:=st;exact⟨k z (16:) _ hz,k TI (16:) _ J,⟨u,v,k TO (16:) _ L⟩,h1.at λo e=>k i1 (16:) o e,h2.at λo e=>k i2 (16:) o e⟩
 item:=by
  intro X hP hw hK G i pins s σ H E I Z st hg;subst hP hw hK;obtain⟨hz,J,⟨u0,v0,L⟩,h1,h2⟩:=st;obtain⟨qa,qb,lx,ly⟩:=hg;obtain⟨its,rv,p,_⟩:=I.tuple qa;obtain⟨ag,ab,p2,_⟩:=I.tuple qb;have ex:xs[i]?=some xs[i]:=aD lx;have ey:ys[i]?=some ys[i]:=aD ly;obtain⟨u,hu,ru⟩:=rv.get ex;obtain⟨v,hv,ac⟩:=ab.get ey;refine UO Ap hz J L h1 h2 p p2 (p:=u) (q:=v) (by simpa using hu) (by simpa using hv) λh' a1 a2 a3 a4 a5 hk=>?_;refine⟨.ref s.heap.objs.size,rfl,wpAny_letOwnedTupleGo_zip (s:={ s with heap:=h' }) a1 λaa ad M=>?_⟩;have lt:∀{c o},s.heap.get? c=some o->c≠s.heap.objs.size:=λe=>bC (aO e);have e5:IsPair aa s.heap.objs.size u v:=(M.2 _ (aV (lt hz))).trans a5;have Y:∀c∈[z,TO,i1,i2],YT X pins H c:=λc G=>Z c (by
   simp only [aM,bQ,bP]at G ⊢;rcases G with rfl | rfl | rfl | rfl<;>simp)
  have I2:Inv X pins σ (upd H s.heap.objs.size (.tup [xs[i],ys[i]])) { s with heap:=aa,toks:=s.toks }:=by
   refine I.turnedNew (ch:=[z,TO,i1,i2]) (λc o G e=>?_) Y (4:) ⟨by show 2<=sizeLine;decide,[u,v],.cons ru (.cons ac .nil),⟨_,e5,rfl,_,rfl⟩⟩;simp only [aM,bQ,bP,not_or]at G;exact(M.2 c G.1).trans (hk c o G.1 G.2.1 G.2.2.1 G.2.2.2 e)
  have ae:∀c∈[z,TI,TO,i1,i2],upd H s.heap.objs.size (.tup [xs[i],ys[i]]) c=none:=λc G=>by
   have af:=Z c G;have:c≠s.heap.objs.size:=by
    simp only [aM,bQ,bP]at G;rcases G with rfl | rfl | rfl | rfl | rfl
    .exact lt hz
    .exact lt J
    .exact lt L
    .obtain⟨o,e,_⟩:=h1;exact lt e
    .obtain⟨o,e,_⟩:=h2;exact lt e
   rw [Qe this];exact af.1
  exact⟨.ref s.heap.objs.size,_,I2,rfl,⟨s.heap.objs.size,_,_,I.fresh,rfl,rfl,ex,ey⟩,⟨ad,M.extBut _ _ Ap.TIz (hk _ _ Ap.TIz Ap.TITO Ap.TIi1 Ap.TIi2 J),⟨_,_,M.extBut _ _ Ap.TOz a2⟩,a3.extBut M.extBut Ap.i1z,a4.extBut M.extBut Ap.i2z⟩,ae⟩
 done:=by
  intro X hP hw hK G i pins s σ H E I Z st hg;subst hP hw hK;obtain⟨hz,J,⟨u0,v0,L⟩,h1,h2⟩:=st;obtain⟨qa,hl⟩:=hg;obtain⟨its,rv,p,_⟩:=I.tuple qa;have l1:=rv.length;have Y:∀c∈[z,TO,i1,i2],YT X pins H c:=λc G=>Z c (by
   simp only [aM,bQ,bP]at G ⊢;rcases G with rfl | rfl | rfl | rfl<;>simp)
  refine U2 (n2:=0) (I.ok.hd G) Ap hz J L h1 p (by simp;lia) λh' hk=>⟨rfl,I.turnedL (t':=s.toks) (ch:=[z,TO,i1,i2]) (λc o G e=>?_) Y⟩;simp only [aM,bQ,bP,not_or]at G;exact hk c o G.1 G.2.1 G.2.2.1 G.2.2.2 e
 self:=λ_ _ _ _ _ st h=>wpAny_pyIter_zip st.1 h
def Bp(K:Fg)(ta:TA):TI:=λσ H R=>ta σ H λvs H1=>∃a b xs ys,vs=[.ref a,.ref b]/\SqT K H1 a xs/\SqT K H1 b ys/\R (SM K a b xs ys) H1
theorem P5{ta:TA}{p:Pos}(hg:Gl X "zip")(hm:X.mg "zip"=none)(ha:PA X [e1,e2] ta)(hs:starEach [e1,e2] X.env=[(false,eval e1 X.env),(false,eval e2 X.env)]:=by rfl)(hs2:starEach [e2] X.env=[(false,eval e2 X.env)]:=by rfl):
 PI X (.Tuple elts k1 tpos) (.Call (.Name "zip" p) [e1,e2] [] pos) (Bp X.K ta):=by
 intro pins s σ H R I h;refine Call_ (Z6 I hg hm PyProof.Rows.boot_zip (fo (thn (ha pos pins s σ H _ I h) λus G ⟨vs,H1,J,r1,q1⟩=>?_) (by rw [hs,hs2]) (by rw [hs2];rfl)));obtain⟨a,b,xs,ys,e,qa,qb,q⟩:=q1;subst e;obtain⟨u1,u2,e3,r3,r4⟩:=r1.two;subst e3;cases (show u1=Value.ref a from r3);cases (show u2=Value.ref b from r4);obtain⟨its,rv,U,_⟩:=J.tuple qa;obtain⟨aa,ab,L,_⟩:=J.tuple qb;have la:@LT.lt Nat _ a G.heap.objs.size:=by obtain⟨o,e,_⟩:=U;exact aO e
 have lb:@LT.lt Nat _ b G.heap.objs.size:=by obtain⟨o,e,_⟩:=L;exact aO e
 refine MK U L λh' hz Y Z h1 h2 hk=>?_;refine wpAny_pyIter_zip hz ?_;have I2:Inv X pins σ H1 { G with heap:=h' }:=J.kept (t':=G.toks) hk;refine⟨G.heap.objs.size+4,[G.heap.objs.size+4,G.heap.objs.size+2,G.heap.objs.size+3,G.heap.objs.size,G.heap.objs.size+1],_,_,H1,rfl,I2,MP a b (G.heap.objs.size+4) xs ys (G.heap.objs.size+2) (G.heap.objs.size+3) G.heap.objs.size (G.heap.objs.size+1) ?_,⟨hz,Y,⟨_,_,Z⟩,h1,h2⟩,λc hc=>?_,q⟩
 .constructor<;>(refine nne ?_;lia)
 .have M:@LE.le Nat _ G.heap.objs.size c:=by
   simp only [aM,bQ,bP]at hc;rcases hc with rfl | rfl | rfl | rfl | rfl<;>lia
  exact J.fpOk M (J.hok.fresh M)
theorem Ri{K:Fg}{a b acc:Addr}{xs zs:List V}{tt:TT}{te:TE}{cs:St}{H1:Hp}{Q:Hp->Prop}(hlen:xs.length=zs.length)(Pv:Nat->List V->Hp->Prop)(h0:Pv 0 [] (upd H1 acc (.lst [])))(hl:∀i ys H,i<=xs.length->Pv i ys H->SqT K H a xs/\SqT K H b zs)
 (hs:∀i u v p ys H,i<xs.length->xs[i]?=some u->zs[i]?=some v->H p=none->Pv i ys H->tt (some u::some v::cs) (upd H p (.tup [u,v])) (Vf xs.length Pv acc i te (some u::some v::cs))) (hd:∀ys H,Pv xs.length ys H->Q H):Y2 (SM K a b xs zs) 2 cs (Pu K 2 (YL (Q7 0) (YL (Q7 1) Mb))) tt te H1 acc Q:=by
 refine Ze (N:=xs.length) Pv h0 (λys H p=>?_) λi ys H hi p=>?_
 .obtain⟨G,J⟩:=hl _ _ _ (4:) p;exact⟨⟨G,aY _⟩,hd ys H p⟩
 .obtain⟨G,J⟩:=hl _ _ _ (cY hi) p;refine⟨⟨G,J,hi,by lia⟩,?_⟩;rintro x Z ⟨q,u,v,M,rfl,rfl,U,Y⟩ as L;obtain⟨a0,a1,rfl⟩:=Wx L;exact⟨q,[u,v],rfl,SqT.of Qb,rfl,u,[v],rfl,v,[],rfl,rfl,⟨[some u,some v],rfl,rfl⟩,hs i u v q ys _ hi U Y M p⟩
end L2
namespace K9
open PySem L2 TM
abbrev KdT:=Addr×Str×Addr×List PNx
def RowAt(K:Fg)(H:Hp)(t:PNx):Prop:=SqT K H t.1 [.str t.2.1,.ref t.2.2.1]/\SqT K H t.2.2.1 (t.2.2.2.map V.str)
def RowsL(K:Fg)(H:Hp)(lr:Addr)(rs:List PNx):Prop:=SqL K H lr (rs.map λt=>V.ref t.1)/\∀t∈rs,RowAt K H t
def WoodAt(K:Fg)(H:Hp)(w:Addr)(ks:List KdT):Prop:=SqL K H w (ks.map λk=>V.ref k.1)/\∀k∈ks,SqT K H k.1 [.str k.2.1,.ref k.2.2.1]/\RowsL K H k.2.2.1 k.2.2.2
theorem RowAt.same{K:Fg}{t:PNx}(g:Same H H')(h:RowAt K H t):RowAt K H' t:=⟨g.seqT h.1,g.seqT h.2⟩
theorem RowsL.same{K:Fg}{lr:Addr}(g:Same H H')(h:RowsL K H lr rs):RowsL K H' lr rs:=⟨g.seq h.1,λt G=>(h.2 t G).same g⟩
theorem WoodAt.same{K:Fg}{w:Addr}{ks:List KdT}(g:Same H H')(h:WoodAt K H w ks):WoodAt K H' w ks:=⟨g.seq h.1,λk G=>⟨g.seqT (h.2 k G).1,(h.2 k G).2.same g⟩⟩
structure RowsOk(rs:List PNx):Prop where
 nd:(rs.map λt=>t.2.1).Nodup
 len:rs.length<=10
 nm:∀r∈rs,PyData.strOk r.2.1=true
 kn:∀r∈rs,∀x∈r.2.2.2,PyData.strOk x=true
 kl:∀r∈rs,r.2.2.2.length<=4
structure WoodOk(ks:List KdT):Prop where
 nd:(ks.map λk=>k.2.1).Nodup
 len:ks.length<=10
 rows:∀k∈ks,RowsOk k.2.2.2
def QV(ks:List KdT)(kind:Str):List PNx:=((ks.find? λk=>decide (k.2.1=kind)).map λk=>k.2.2.2).getD []
theorem GT{α:Type}(f:α->Str)(g:α->V)(z:Str):∀l:List α,UI (l.map λx=>((Sum.inr (f x):Key),g x)) (Sum.inr z)=(l.find? λx=>decide (f x=z)).map g
 | []=>rfl
 | x::r=>by
  rw [aS,cG]
  by_cases e:f x=z
  .rw [Y9 (p:=((Sum.inr (f x):Key),g x)) (by rw [e]),bK e];rfl
  .rw [Y0 (p:=((Sum.inr (f x):Key),g x)) (λq=>e (by injection q)),bN e];exact GT f g z r
end K9
variable{hs:List K9.KdT}
namespace K11
open PySem L2 TM TT K9
def kpl:Lab->Bool
 | .call _ _=>false
 | .put _ k _=>k
mutual
noncomputable def kp:Tm->Bool
 | .node l _ bs=>kpl l||kps bs
noncomputable def kps:List Tm->Bool
 | []=>false
 | t::r=>kp t||kps r
end
theorem Ly:∀ts:List Tm,kps ts=(ts.map kp).any id
 | []=>by simp [kps]
 | t::r=>by simp only [kps,aS,fg,id,Ly r]
abbrev Md:=Str×List Tm
abbrev MdT:=Addr×Str×Addr×List V×List Tm
def MdT.md(m:MdT):Md:=(m.2.1,m.2.2.2.2)
def MdAt(K:Fg)(H:Hp)(m:MdT):Prop:=SqT K H m.1 [.str m.2.1,.ref m.2.2.1]/\SqL K H m.2.2.1 m.2.2.2.1/\TmAll K H m.2.2.2.1 m.2.2.2.2
def ModesL(K:Fg)(H:Hp)(lm:Addr)(ms:List MdT):Prop:=SqL K H lm (ms.map λm=>V.ref m.1)/\∀m∈ms,MdAt K H m
theorem MdAt.same{K:Fg}{m:MdT}(g:Same H H')(h:MdAt K H m):MdAt K H' m:=⟨g.seqT h.1,g.seq h.2.1,h.2.2.mono λ_ _=>g.seqT⟩
theorem ModesL.same{K:Fg}{ms:List MdT}(g:Same H H')(h:ModesL K H lm ms):ModesL K H' lm ms:=⟨g.seq h.1,λm G=>(h.2 m G).same g⟩
end K11
variable{ms ms':List K11.MdT}
namespace L2
open PySem PySem.Spec PyProof.Rows
section
variable{E:Value->Shared->Prop}
end
section
variable{p pos2:Pos}
theorem Mv(hc:X.calm=true):Q4 X (.builtin "sum") (λxs H Q=>∃(l:Addr)(ns:List Int),xs=[.ref l]/\SqL X.K H l (ns.map V.int)/\Q (.int ns.sum) H):=by
 intro pins s σ H xs Y Q I r h;obtain⟨l,ns,rfl,J,q⟩:=h;cases r with
 | cons r rr=>
  cases rr;obtain rfl:_=Value.ref l:=r;obtain⟨its,L,p,_⟩:=I.list J;obtain⟨ys,rfl,G⟩:=YU L;have M:s.heap.IsList l (intItems ys.toArray):=by rw [XC];exact p.isList
  refine sum_intListG (I.ok.hd hc) M λh' tk t' U=>⟨.int ns.sum,H,I.kept (t':=tk) U,⟨t',?_⟩,q⟩;rw [Sf,G,bH];rw [<-G];simp
end
end L2
namespace ST
open PySem TM
inductive Stp where
 | op:Stp
 | put:Str->Int->List Stp->Stp
mutual
noncomputable def met:Stp->Stp->Stp
 | .op,_=>.op
 | .put _ _ _,.op=>.op
 | .put n m ps,.put n' m' qs=>if n=n'/\m=m'/\ps.length=qs.length then .put n m (QI ps qs)else .op
noncomputable def QI:List Stp->List Stp->List Stp
 | [],_=>[]
 | _::_,[]=>[]
 | p::ps,q::qs=>met p q::QI ps qs
end
mutual
noncomputable def sl:Stp->Nat
 | .op=>1
 | .put _ _ ps=>1+sls ps
noncomputable def sls:List Stp->Nat
 | []=>0
 | p::r=>max (sl p) (sls r)
end
mutual
noncomputable def SOk:Stp->Prop
 | .op=>True
 | .put n _ ps=>PyData.strOk n=true/\ps.length<=4/\Yr ps
noncomputable def Yr:List Stp->Prop
 | []=>True
 | p::r=>SOk p/\Yr r
end
theorem Yj:∀ps qs:List Stp,ps.length=qs.length->(QI ps qs).length=ps.length
 | [],_,_=>by simp [QI]
 | _::_,[],h=>by simp at h
 | p::ps,q::qs,h=>by simp only [QI,bF];rw [Yj ps qs (by simpa using h)]
theorem WG:∀ps qs:List Stp,QI ps qs=List.zipWith met ps qs
 | [],_=>by simp [QI]
 | _::_,[]=>by simp [QI]
 | p::ps,q::qs=>by simp only [QI,List.zipWith_cons_cons];rw [WG ps qs]
theorem Vr{ps:List Stp}{p:Stp}(h:p∈ps):sl p<=sls ps:=by
 induction ps with
 | nil=>cases h
 | cons u r G=>
  simp only [sls];rcases aM.mp h with rfl | h
  .lia
  .have:=G h;lia
theorem sl_pos(s:Stp):0<sl s:=by cases s<;>simp only [sl]<;>lia
theorem ZS(ps:List Stp):Yr ps↔ ∀p∈ps,SOk p:=by
 induction ps with
 | nil=>simp [Yr]
 | cons u r G=>simp only [Yr,G,aM,forall_eq_or_imp]
mutual
theorem ZV:∀a b:Stp,met a b=met b a
 | .op,.op=>by simp [met]
 | .op,.put _ _ _=>by simp [met]
 | .put _ _ _,.op=>by simp [met]
 | .put n m ps,.put J L qs=>by
  simp only [met]
  by_cases h:n=J/\m=L/\ps.length=qs.length
  .obtain⟨rfl,rfl,G⟩:=h;rw [aG ⟨rfl,rfl,G⟩,aG ⟨rfl,rfl,G.symm⟩,XS ps qs]
  .rw [aF h,aF λz=>h ⟨z.1.symm,z.2.1.symm,z.2.2.symm⟩]
theorem XS:∀a b:List Stp,QI a b=QI b a
 | [],[]=>by simp [QI]
 | [],_::_=>by simp [QI]
 | _::_,[]=>by simp [QI]
 | p::ps,q::qs=>by simp only [QI];rw [ZV p q,XS ps qs]
end
mutual
theorem Uh:∀a:Stp,met a a=a
 | .op=>by simp [met]
 | .put n m ps=>by simp only [met,and_self,b_];rw [XD ps]
theorem XD:∀a:List Stp,QI a a=a
 | []=>by simp [QI]
 | p::ps=>by simp only [QI];rw [Uh p,XD ps]
end
theorem Z2(a:Stp):met a .op=.op:=by cases a<;>simp [met]
theorem Z7(n n':Str)(m m':Int)(ps qs:List Stp):met (.put n m ps) (.put n' m' qs)=if n=n'/\m=m'/\ps.length=qs.length then .put n m (QI ps qs)else .op:=by rw [met]
theorem UH(a:Stp):met .op a=.op:=by rw [met]
theorem CU(n n' n2:Str)(m m' m2:Int)(ps qs rs:List Stp)(ih:QI (QI ps qs) rs=QI ps (QI qs rs)):
 met (met (.put n m ps) (.put n' m' qs)) (.put n2 m2 rs)=met (.put n m ps) (met (.put n' m' qs) (.put n2 m2 rs)):=by
 rw [Z7,Z7]
 by_cases h:n=n'/\m=m'/\ps.length=qs.length
 .have J:=Yj ps qs h.2.2;rw [aG h,Z7]
  by_cases h':n'=n2/\m'=m2/\qs.length=rs.length
  .have G:=Yj qs rs h'.2.2;rw [aG h',Z7,aG ⟨h.1.trans h'.1,h.2.1.trans h'.2.1,by lia⟩,aG ⟨h.1,h.2.1,by lia⟩,ih]
  .rw [aF h',Z2,aF λz=>h' ⟨h.1.symm.trans z.1,h.2.1.symm.trans z.2.1,by have:=z.2.2;lia⟩]
 .rw [aF h,UH]
  by_cases h':n'=n2/\m'=m2/\qs.length=rs.length
  .have G:=Yj qs rs h'.2.2;rw [aG h',Z7,aF λz=>h ⟨z.1,z.2.1,by have:=z.2.2;lia⟩]
  .rw [aF h',Z2]
mutual
theorem Yz:∀a b c:Stp,met (met a b) c=met a (met b c)
 | .op,b,c=>by rw [UH,UH,UH]
 | .put n m ps,.op,c=>by rw [Z2,UH,Z2]
 | .put n m ps,.put G J qs,.op=>by rw [Z2,Z2,Z2]
 | .put n m ps,.put G J qs,.put M U L=>CU n G M m J U ps qs L (Jo ps qs L)
theorem Jo:∀a b c:List Stp,QI (QI a b) c=QI a (QI b c)
 | [],_,_=>by simp [QI]
 | _::_,[],_=>by simp [QI]
 | _::_,_::_,[]=>by simp [QI]
 | p::ps,q::qs,r::rs=>by simp only [QI];rw [Yz p q r,Jo ps qs rs]
end
theorem Mq(a b:Stp):met (met a b) a=met a b:=by
 rw [ZV a b,Yz,Uh]
mutual
theorem J0:∀a b:Stp,SOk a->SOk (met a b)/\sl (met a b)<=sl a
 | .op,_,_=>by simp [met,SOk,sl]
 | .put _ _ _,.op,_=>by simp only [met,SOk,sl];exact⟨trivial,by lia⟩
 | .put n m ps,.put J L qs,h=>by
  simp only [met]
  by_cases G:n=J/\m=L/\ps.length=qs.length
  .rw [aG G];simp only [SOk,sl]at h ⊢;obtain⟨h1,h2⟩:=Lo ps qs h.2.2;have e:=Yj ps qs G.2.2;exact⟨⟨h.1,by lia,h1⟩,by lia⟩
  .rw [aF G];simp only [SOk,sl];exact⟨trivial,by lia⟩
theorem Lo:∀a b:List Stp,Yr a->Yr (QI a b)/\sls (QI a b)<=sls a
 | [],_,_=>by simp [QI,Yr,sls]
 | _::_,[],_=>by simp [QI,Yr,sls]
 | p::ps,q::qs,h=>by
  simp only [QI,Yr,sls]at h ⊢;obtain⟨h1,h2⟩:=J0 p q h.1;obtain⟨G,J⟩:=Lo ps qs h.2;exact⟨⟨h1,G⟩,by lia⟩
end
end ST
namespace L2
open PySem PyProof.Rows TM ST
abbrev UD:Str:=Str.ofString "open"
abbrev WW:Str:=Str.ofString "put"
mutual
inductive SV(K:Fg)(H:Hp):V->Stp->Prop where
 | op {a:Addr}:SqT K H a [.str UD]->SV K H (.ref a) .op
 | put {a b:Addr} {vs:List V} {ps:List Stp} {n:Str} {m:Int}:SqT K H a [.str WW,.str n,.int m,.ref b]->SqT K H b vs->SAll K H vs ps->SV K H (.ref a) (.put n m ps)
inductive SAll(K:Fg)(H:Hp):List V->List Stp->Prop where
 | nil:SAll K H [] []
 | cons {v:V} {vs:List V} {t:Stp} {ts:List Stp}:SV K H v t->SAll K H vs ts->SAll K H (v::vs) (t::ts)
end
mutual
theorem SV.mono{K:Fg}{H H':Hp}(k:∀a xs,SqT K H a xs->SqT K H' a xs):∀{v:V}{t:Stp},SV K H v t->SV K H' v t
 | _,_,.op h=>.op (k _ _ h)
 | _,_,.put h1 h2 G=>.put (k _ _ h1) (k _ _ h2) (SAll.mono k G)
theorem SAll.mono{K:Fg}{H H':Hp}(k:∀a xs,SqT K H a xs->SqT K H' a xs):∀{vs:List V}{ts:List Stp},SAll K H vs ts->SAll K H' vs ts
 | _,_,.nil=>.nil
 | _,_,.cons h t=>.cons (SV.mono k h) (SAll.mono k t)
end
theorem SAll.length{K:Fg}:∀{vs:List V}{ts:List Stp},SAll K H vs ts->vs.length=ts.length
 | _,_,.nil=>rfl
 | _,_,.cons _ t=>by rw [bF,bF,SAll.length t]
theorem SAll.get{K:Fg}:∀{vs:List V}{ts:List Stp}{i:Nat}{t:Stp},SAll K H vs ts->ts[i]?=some t->∃v,vs[i]?=some v/\SV K H v t
 | _,_,_,_,.nil,e=>by simp at e
 | _,_,0,_,.cons h _,e=>by simp at e;subst e;exact⟨_,rfl,h⟩
 | _,_,i+1,t,.cons _ r,e=>by
  obtain⟨v,h1,h2⟩:=SAll.get (i:=i) (t:=t) r (by simpa using e);exact⟨v,by simpa using h1,h2⟩
theorem SAll.append{K:Fg}:∀{vs ws:List V}{ts us:List Stp},SAll K H vs ts->SAll K H ws us->SAll K H (vs++ws) (ts++us)
 | _,_,_,_,.nil,h=>h
 | _,_,_,_,.cons a t,h=>.cons a (SAll.append t h)
mutual
noncomputable def sd:Stp->PyData
 | .op=>.tuple [.str UD]
 | .put n m ps=>.tuple [.str WW,.str n,.int m,.tuple (sds ps)]
noncomputable def sds:List Stp->List PyData
 | []=>[]
 | p::r=>sd p::sds r
end
mutual
theorem SV.rd{K:Fg}{H:Hp}:∀{v:V}{t:Stp},SV K H v t->RdV K H v (sd t)
 | _,_,.op h=>by
  simp only [sd];exact .tup h (.cons (.str _) .nil)
 | _,_,.put h1 h2 G=>by
  simp only [sd];exact .tup h1 (.cons (.str _) (.cons (.str _) (.cons (.int _) (.cons (.tup h2 (SAll.rd G)) .nil))))
theorem SAll.rd{K:Fg}{H:Hp}:∀{vs:List V}{ts:List Stp},SAll K H vs ts->RdAll K H vs (sds ts)
 | _,_,.nil=>by simp only [sds];exact .nil
 | _,_,.cons h t=>by simp only [sds];exact .cons (SV.rd h) (SAll.rd t)
end
theorem NR:PyData.strOk UD=true:=by decide+kernel
theorem NA:PyData.strOk WW=true:=by decide+kernel
mutual
theorem NG:∀s:Stp,SOk s->(sd s).canLay0=true/\(sd s).depth<=2*sl s
 | .op,_=>by
  simp only [sd,PyData.canLay0,PyData.canLayAll0,NR,cH,PyData.depth,PyData.depthAll,sl];exact⟨trivial,by lia⟩
 | .put n m ps,h=>by
  simp only [SOk]at h;obtain⟨h1,h2⟩:=NW ps h.2.2;constructor
  .simp only [sd,PyData.canLay0,PyData.canLayAll0,NA,h.1,h1,cH]
  .simp only [sd,PyData.depth,PyData.depthAll,sl];lia
theorem NW:∀ps:List Stp,Yr ps->PyData.canLayAll0 (sds ps)=true/\PyData.depthAll (sds ps)<=2*sls ps
 | [],_=>by simp [sds,PyData.canLayAll0,PyData.depthAll,sls]
 | p::r,h=>by
  simp only [Yr]at h;obtain⟨h1,h2⟩:=NG p h.1;obtain⟨G,J⟩:=NW r h.2;simp only [sds,PyData.canLayAll0,PyData.depthAll,h1,G,cH,true_and,sls];lia
end
theorem YE{K:Fg}{s:Stp}(h:SV K H v s):(∃a,v=.ref a/\s=.op/\SqT K H a [.str UD]) \/
 ∃a b vs n m ps,v=.ref a/\s=.put n m ps/\SqT K H a [.str WW,.str n,.int m,.ref b]/\SqT K H b vs/\SAll K H vs ps:=by
 cases h with
 | op h=>exact .inl ⟨_,rfl,rfl,h⟩
 | put h1 h2 G=>exact .inr ⟨_,_,_,_,_,_,rfl,rfl,h1,h2,G⟩
def hd3(n:Str)(m:Int)(k:Nat):PyData:=.tuple [.str n,.int m,.int (k:Int)]
theorem Oj{n:Str}(hn:PyData.strOk n=true)(m:Int)(k:Nat):(hd3 n m k).canLay0=true/\(hd3 n m k).depth<=1:=by
 constructor
 .simp only [hd3,PyData.canLay0,PyData.canLayAll0,hn,cH]
 .simp only [hd3,PyData.depth,PyData.depthAll];lia
theorem Ru(n n':Str)(m m':Int)(k k':Nat):PyData.eqv (hd3 n m k) (hd3 n' m' k')=decide (n=n'/\m=m'/\k=k'):=by
 simp only [hd3,PyData.eqv,PyData.eqvAll,Bool.and_true];rw [gq];simp only [bS,fk,decide_eq_true_eq];constructor
 .rintro⟨a,b,c⟩;exact⟨a,b,by lia⟩
 .rintro⟨a,b,c⟩;exact⟨a,b,by lia⟩
def Dk(H:Hp)(d:Addr):Prop:=∃xs:List Int,H d=some (.lst (xs.map V.int))
def SameD(d:Addr)(H H':Hp):Prop:=∀b u,b≠d->H b=some u->H' b=some u
theorem SameD.refl(d:Addr)(H:Hp):SameD d H H:=λ_ _ _ e=>e
theorem SameD.trans(a:SameD d H H1)(b:SameD d H1 H2):SameD d H H2:=λx u n e=>b x u n (a x u n e)
theorem SameD.of(h:Same H H'):SameD d H H':=λb u _ e=>h b u e
theorem SameD.seqT{K:Fg}(g:SameD d H H')(hd:Dk H d)(h:SqT K H a xs):SqT K H' a xs:=by
 obtain⟨ns,hd⟩:=hd;rcases h with(h | ⟨G,h⟩) | h
 .exact .inl (.inl (g _ _ (QB h hd (14:)) h))
 .exact .inl (.inr ⟨G,g _ _ (QB h hd (14:)) h⟩)
 .exact .inr h
theorem Dk.ne(h:Dk H d)(ha:H a=none):a≠d:=by
 obtain⟨xs,h⟩:=h;rintro rfl;rw [ha]at h;cases h
end L2
namespace L2
open PySem PyProof.Rows TM
abbrev VJ:Str:=Str.ofString "abcdefghijklmnopqrstuvwxyz"
def S6:List Nat:=[97,98,99,100,101,102,103,104,105,106,107,108,109,110,111,112,113,114,115,116,117,118,119,120,121,122]
theorem Ol:VJ=S S6:=by decide+kernel
theorem Rp:VJ.cps.toList=S6:=by rw [Ol,Na]
theorem P2:Str.ofString ""=S []:=by decide+kernel
theorem Sv(c:Nat):(⟨#[c]⟩:Str)=S [c]:=rfl
def Nm(z:Str):Prop:=PyData.strOk z=true
theorem Nm.of{u:List Nat}(h:∀c∈u,c<128):Nm (S u):=by
 unfold Nm PyData.strOk;rw [Array.all_eq_true_iff_forall_mem];intro c G;have:c∈u:=by simpa [S]using G
 have:=h c this;simp;lia
theorem Room.fit{k:Nat}(r:Room k A)(h:n<=64):A.units+n<cLine:=by have:=r.units;lia
def YJ(x:Int):Nat:=97+(x%26).toNat
theorem NC:∀i:Fin 26,S6[i.val]?=some (97+i.val):=by decide
theorem Ra(x:Int):atI VJ.cps.toList (x%26)=some (YJ x):=by
 have G:0<=x%26:=cJ _ (12:);have h1:x%26<26:=cV _ (12:);have e:x%26=(((x%26).toNat:Nat):Int):=by lia
 rw [e,Rp];exact Qo (NC ⟨(x%26).toNat,by lia⟩)
theorem Pf(x:Int):YJ x<128:=by
 have h1:x%26<26:=cV _ (12:);unfold YJ;lia
theorem L7{x y:Int}(h:YJ x=YJ y):x%26=y%26:=by
 have G:0<=x%26:=cJ _ (12:);have h1:0<=y%26:=cJ _ (12:);unfold YJ at h;lia
end L2
namespace L2
open PySem PyProof.Rows TM TT K9 K11
theorem SameD.seqL{K:Fg}(g:SameD d H H')(hne:a≠d)(h:SqL K H a xs):SqL K H' a xs:=by
 rcases h with(h | ⟨G,h⟩) | h
 .exact .inl (.inl (g _ _ hne h))
 .exact .inl (.inr ⟨G,g _ _ hne h⟩)
 .exact .inr h
theorem SameD.put{o:HO}(g:SameD d H H')(ha:H a=none):SameD d H (L2.upd H' a o):=λb u G e=>by
 rw [Qe (Qf e ha)];exact g _ _ G e
end L2
namespace ST
open PySem TM TT
mutual
noncomputable def TDr(cs:List (Int×Int)):Tm->Prop
 | .node (.call m b) _ _=>(m,b)∈cs
 | .node (.put n _ _) _ bs=>PyData.strOk n=true/\bs.length<=3/\TDrs cs bs
noncomputable def TDrs(cs:List (Int×Int)):List Tm->Prop
 | []=>True
 | b::r=>TDr cs b/\TDrs cs r
end
theorem Pa(cs:List (Int×Int))(bs:List Tm):TDrs cs bs↔ ∀b∈bs,TDr cs b:=by
 induction bs with
 | nil=>simp [TDrs]
 | cons u r G=>simp only [TDrs,G,aM,forall_eq_or_imp]
mutual
theorem TDr.mok{cs:List (Int×Int)}:∀{t:Tm},TDr cs t->L2.MOk (2*lv t) t
 | .node (.call m b) mk bs,_=>(L2.leaf_ok m b mk bs).mono (by simp only [lv];lia)
 | .node (.put n k a) mk bs,z=>by
  simp only [TDr]at z;exact(L2.put_ok (d:=2*lvs bs) z.1 (TDrs.mok z.2.2)).mono (by simp only [lv];lia)
theorem TDrs.mok{cs:List (Int×Int)}:∀{bs:List Tm},TDrs cs bs->∀t∈bs,L2.MOk (2*lvs bs) t
 | [],_,t,h=>(nomatch h)
 | b::r,z,t,h=>by
  simp only [TDrs]at z;have i1:=TDr.mok z.1;have i2:=TDrs.mok z.2;simp only [lvs];rcases aM.mp h with e | h
  .rw [e];exact i1.mono (5:)
  .exact(i2 t h).mono (5:)
end
theorem LB{α:Type}{bs:List (Tree α)}(h:∀b∈bs,lv b<=n):lvs bs<=n:=by
 induction bs with
 | nil=>simp [lvs]
 | cons u r G=>
  simp only [lvs];have h1:=h u aR;have h2:=G λb J=>h b (bR _ J);lia
end ST
namespace L2
open PySem PyProof.Rows TM TT ST
theorem Jd{α:Type}{xs:List α}{r:Int}{v:α}(h0:0<=r)(h:xs[r.toNat]?=some v):atI xs r=some v:=by
 obtain⟨n,rfl⟩:=Int.eq_ofNat_of_zero_le h0;exact Qo (by simpa using h)
end L2
namespace L2
open PySem PyProof.Rows TM TT ST K9 K11
structure TurnD(K:Fg)(H:Hp)(tu wd lm:Addr)(sv:V)(ks:List KdT)(st:Tm)(ms:List MdT):Prop where
 tu:SqT K H tu [.ref wd,sv,.ref lm]
 w:WoodAt K H wd ks
 s:TmV K H sv st
 m:ModesL K H lm ms
theorem TurnD.same{K:Fg}{ks:List KdT}{st:Tm}(g:Same H H')(h:TurnD K H tu wd lm sv ks st ms):TurnD K H' tu wd lm sv ks st ms:=⟨g.seqT h.tu,h.w.same g,h.s.mono λ_ _=>g.seqT,h.m.same g⟩
def QR(k:KdT):Str×List PNx:=(k.2.1,k.2.2.2)
def YV(r:PNx):PyData:=.tuple [.str r.2.1,.tuple (r.2.2.2.map .str)]
theorem Lr{K:Fg}:∀{rs:List PNx},(∀t∈rs,RowAt K H t)->RdAll K H (rs.map λt=>V.ref t.1) (rs.map YV)
 | [],_=>.nil
 | t::r,h=>.cons (.tup (h t aR).1 (.cons (.str _) (.cons (.tup (h t aR).2 (Wb _)) .nil))) (Lr λu G=>h u (23:))
theorem Vd:∀{rs:List PNx},(∀r∈rs,PyData.strOk r.2.1=true)->(∀r∈rs,∀x∈r.2.2.2,PyData.strOk x=true)->PyData.canLayAll0 (rs.map YV)=true
 | [],_,_=>by simp [PyData.canLayAll0]
 | r::rs,h1,h2=>by
  simp only [aS,PyData.canLayAll0,YV,PyData.canLay0,h1 r aR,J8 _ (h2 r aR),cH,Bool.true_and];exact Vd (λu G=>h1 u (23:)) λu G=>h2 u (23:)
def ZJ(p:Str×List PNx):PyData:=.tuple [.str p.1,.list (p.2.map YV)]
theorem Jp{K:Fg}:∀{ks:List KdT},(∀k∈ks,SqT K H k.1 [.str k.2.1,.ref k.2.2.1]/\RowsL K H k.2.2.1 k.2.2.2)->RdAll K H (ks.map λk=>V.ref k.1) ((ks.map QR).map ZJ)
 | [],_=>.nil
 | k::r,h=>.cons (.tup (h k aR).1 (.cons (.str _) (.cons (.lst (h k aR).2.1 (Lr (h k aR).2.2)) .nil))) (Jp λu G=>h u (23:))
theorem UF:∀{ks:List KdT},(∀k∈ks,PyData.strOk k.2.1=true)->(∀k∈ks,RowsOk k.2.2.2)->PyData.canLayAll0 ((ks.map QR).map ZJ)=true
 | [],_,_=>by simp [PyData.canLayAll0]
 | k::r,h1,h2=>by
  have J:PyData.canLayAll0 (k.2.2.2.map YV)=true:=Vd (h2 k aR).nm (h2 k aR).kn;simp only [aS,PyData.canLayAll0,ZJ,QR,PyData.canLay0,h1 k aR,J,cH,Bool.true_and];exact UF (λu G=>h1 u (23:)) λu G=>h2 u (23:)
theorem JU:∀rs:List PNx,PyData.depthAll (rs.map YV)<=2
 | []=>by simp [PyData.depthAll]
 | r::rs=>by
  have:=JU rs;simp only [aS,PyData.depthAll,YV,PyData.depth,YW];lia
theorem Yw:∀ks:List (Str×List PNx),PyData.depthAll (ks.map ZJ)<=4
 | []=>by simp [PyData.depthAll]
 | k::r=>by
  have h1:=Yw r;have h2:=JU k.2;simp only [aS,PyData.depthAll,ZJ,PyData.depth];lia
def MG(m:Md):PyData:=.tuple [.str m.1,.list (tmds m.2)]
theorem Vp{K:Fg}:∀{ms:List MdT},(∀m∈ms,MdAt K H m)->RdAll K H (ms.map λm=>V.ref m.1) ((ms.map MdT.md).map MG)
 | [],_=>.nil
 | m::r,h=>.cons (.tup (h m aR).1 (.cons (.str _) (.cons (.lst (h m aR).2.1 (h m aR).2.2.rd) .nil))) (Vp λx G=>h x (23:))
abbrev P7(ks:List KdT)(t:Tm)(ms:List MdT):PyData:=.tuple [.list ((ks.map QR).map ZJ),tmd t,.list ((ms.map MdT.md).map MG)]
theorem R0{K:Fg}{ks:List KdT}{st:Tm}(h:TurnD K H tu wd lm sv ks st ms):RdV K H (.ref tu) (P7 ks st ms):=
 .tup h.tu (.cons (.lst h.w.1 (Jp h.w.2)) (.cons h.s.rd (.cons (.lst h.m.1 (Vp h.m.2)) .nil)))
end L2
namespace K40
open PySem L2 TM TT
def top(i:Nat):Stmt:=PySem.Challenge.pw_turnery_k40_early_told.main.body.getD i (.Pass ⟨0,0,0,0⟩)
abbrev Mp:Stmt:=top 7
abbrev sCO:Stmt:=top 10
abbrev sWP:Stmt:=top 13
abbrev NE:Stmt:=top 42
abbrev XY:Stmt:=top 43
abbrev VS:Stmt:=top 44
abbrev M5:Stmt:=top 45
abbrev M7:Stmt:=top 46
abbrev Gh:Stmt:=top 47
abbrev MY:Stmt:=top 48
abbrev Aw:Stmt:=top 49
abbrev Oq:Stmt:=top 50
abbrev VQ:Stmt:=top 51
abbrev sWh:Stmt:=top 52
abbrev T0:Stmt:=top 53
abbrev Pl:Stmt:=top 54
abbrev Ar:Stmt:=top 55
abbrev T6:Stmt:=top 56
abbrev To:Stmt:=top 57
abbrev Aj:Stmt:=top 58
abbrev sEL:Stmt:=top 59
abbrev Gf:Stmt:=top 60
structure Gm(mg:Str->Option Value):Prop where
 len:mg "len"=none
 isi:mg "isinstance"=none
 boo:mg "bool"=none
 int:mg "int"=none
 str:mg "str"=none
 tup:mg "tuple"=none
 lst:mg "list"=none
 rng:mg "range"=none
 sum:mg "sum"=none
 max:mg "max"=none
 srt:mg "sorted"=none
 zip:mg "zip"=none
 all:mg "all"=none
 any:mg "any"=none
 enu:mg "enumerate"=none
 dct:mg "dict"=none
theorem Je{α:Type}:∀l r:List (Tree α),szs (l++r)=szs l+szs r
 | [],r=>by simp [szs]
 | t::l,r=>by rw [f_,szs,szs,Je l r];lia
theorem Oa{α:Type}(l:List (Tree α))(i:Nat):szs (l.take i)<=szs l:=by
 have:=Je (l.take i) (l.drop i);rw [fY]at this;lia
theorem GW{α:Type}{d:Nat}:∀{l:List (Tree α)},(∀t∈l,sz t<=d)->szs l<=l.length*d
 | [],_=>by simp [szs]
 | t::r,h=>by
  have h1:=h t aR;have h2:=GW (l:=r) λu G=>h u (23:);rw [szs,bF,Nat.succ_mul];lia
def zb:Nat->Nat
 | 0=>0
 | 1=>1
 | 2=>2
 | 3=>7
 | _=>9
def Lz(n:Nat)(t:Tm):Prop:=lv t<=n/\sz t<=zb n
theorem SW:∀n,1<=zb (n+1)
 | 0=>by decide
 | 1=>by decide
 | 2=>by decide
 | _+3=>by simp only [zb];lia
def CPr(p:Int->Int->Prop)(t:Tm):Prop:=∀c∈cls t,p c.1 c.2
theorem CPr.bs{p:Int->Int->Prop}{n:Str}{k:Bool}{a z:Int}{bs:List Tm}(h:CPr p (.node (.put n k a) z bs)):∀b∈bs,CPr p b:=λb G c J=>h c (by simp only [cls,lcl,dO];exact Np G c J)
theorem Ya{K:Fg}{t:Tm}(h:TmV K H v t):(∃a m b,v=.ref a/\t=Ub m b/\SqT K H a [.str ZD,.int m,.int b]) \/
 ∃a b vs n k ad,v=.ref a/\t=.node (.put n k ad) 0 t.bs/\SqT K H a [.str PUT,.str n,.bl k,.int ad,.ref b]/\SqT K H b vs/\TmAll K H vs t.bs/\vs.length<=1000:=by
 cases h with
 | call h=>exact .inl ⟨_,_,_,rfl,rfl,h⟩
 | put h1 h2 G J=>exact .inr ⟨_,_,_,_,_,_,rfl,rfl,h1,h2,G,J⟩
theorem tm_op{K:Fg}{t:Tm}(h:TmV K H v t):(∃a m b,v=.ref a/\t=.node (.call m b) 0 []/\SqT K H a [.str ZD,.int m,.int b]) \/
 ∃a b vs n k ad ts,v=.ref a/\t=.node (.put n k ad) 0 ts/\SqT K H a [.str PUT,.str n,.bl k,.int ad,.ref b]/\SqT K H b vs/\TmAll K H vs ts/\vs.length<=1000:=by
 cases h with
 | call h=>exact .inl ⟨_,_,_,rfl,rfl,h⟩
 | put h1 h2 G J=>exact .inr ⟨_,_,_,_,_,_,_,rfl,rfl,h1,h2,G,J⟩
end K40
namespace ST
open PySem TM TT
def Bel(a b:Stp):Prop:=met a b=a
theorem Bel.refl(a:Stp):Bel a a:=Uh a
theorem Bel.trans{a b c:Stp}(h:Bel a b)(k:Bel b c):Bel a c:=by
 unfold Bel at*;rw [<-h,Yz,k]
theorem Bel.anti{a b:Stp}(h:Bel a b)(k:Bel b a):a=b:=by
 unfold Bel at*;rw [<-h,ZV];exact k
theorem G4(a b:Stp):Bel (met a b) a:=by unfold Bel;exact Mq a b
theorem SG(a b:Stp):Bel (met a b) b:=by rw [ZV];exact G4 b a
theorem Lq{x a b:Stp}(h:Bel x a)(k:Bel x b):Bel x (met a b):=by
 unfold Bel at*;rw [<-Yz,h,k]
mutual
noncomputable def rsT(S:Int->Stp):Tm->Stp
 | .node (.call m _) _ _=>S m
 | .node (.put n k a) _ bs=>if k=true then .op else .put n a (ZW S bs)
noncomputable def ZW(S:Int->Stp):List Tm->List Stp
 | []=>[]
 | b::r=>rsT S b::ZW S r
end
theorem J7(S:Int->Stp)(bs:List Tm):ZW S bs=bs.map (rsT S):=by
 induction bs with
 | nil=>rfl
 | cons b r G=>simp only [ZW,aS,G]
theorem JH(S:Int->Stp)(bs:List Tm):(ZW S bs).length=bs.length:=by rw [J7,aE]
mutual
theorem Li{S S':Int->Stp}(h:∀m,Bel (S m) (S' m)):∀t:Tm,Bel (rsT S t) (rsT S' t)
 | .node (.call m b) _ _=>by simp only [rsT];exact h m
 | .node (.put n k a) _ bs=>by
  simp only [rsT];cases k with
  | true=>simp only [b_];exact Bel.refl _
  | false=>
   simp only [cD,bU];have:=W5 h bs;unfold Bel;rw [Z7,aG ⟨rfl,rfl,by rw [JH,JH]⟩,this]
theorem W5{S S':Int->Stp}(h:∀m,Bel (S m) (S' m)):∀bs:List Tm,QI (ZW S bs) (ZW S' bs)=ZW S bs
 | []=>by simp only [ZW,QI]
 | b::r=>by
  simp only [ZW,QI];have h1:met (rsT S b) (rsT S' b)=rsT S b:=Li h b;rw [h1,W5 h r]
end
mutual
theorem Ue{S S':Int->Stp}:∀t:Tm,(∀c∈cls t,S c.1=S' c.1)->rsT S t=rsT S' t
 | .node (.call m b) _ bs,h=>by simp only [rsT];exact h (m,b) (by simp [cls,lcl])
 | .node (.put n k a) _ bs,h=>by
  simp only [rsT];rw [Xv bs λc G=>h c (by simp only [cls,lcl,dO];exact G)]
theorem Xv{S S':Int->Stp}:∀bs:List Tm,(∀c∈Q5 bs,S c.1=S' c.1)->ZW S bs=ZW S' bs
 | [],_=>rfl
 | b::r,h=>by
  simp only [ZW];rw [Ue b λc G=>h c (by simp only [Q5];exact cT _ G),Xv r λc G=>h c (by simp only [Q5];exact bY _ G)]
end
def WZ:List Stp->Stp
 | []=>.op
 | x::r=>r.foldl met x
theorem Vv:∀(r:List Stp)(x:Stp),Bel (r.foldl met x) x/\∀y∈r,Bel (r.foldl met x) y
 | [],x=>⟨Bel.refl _,λy G=>(nomatch G)⟩
 | z::r,x=>by
  obtain⟨h1,h2⟩:=Vv r (met x z);refine⟨h1.trans (G4 _ _),λy G=>?_⟩;rcases aM.mp G with e | h
  .rw [e];exact h1.trans (SG _ _)
  .exact h2 y h
theorem Vx{w:Stp}:∀(r:List Stp)(x:Stp),Bel w x->(∀y∈r,Bel w y)->Bel w (r.foldl met x)
 | [],x,h,_=>h
 | z::r,x,h,k=>Vx r (met x z) (Lq h (k z aR)) λy G=>k y (23:)
theorem Yq{l:List Stp}{y:Stp}(h:y∈l):Bel (WZ l) y:=by
 cases l with
 | nil=>cases h
 | cons x r=>
  obtain⟨h1,h2⟩:=Vv r x;rcases aM.mp h with e | h
  .rw [e];exact h1
  .exact h2 y h
theorem Js{w:Stp}{l:List Stp}(hne:l≠[])(h:∀y∈l,Bel w y):Bel w (WZ l):=by
 cases l with
 | nil=>exact absurd rfl hne
 | cons x r=>exact Vx r x (h x aR) λy G=>h y (23:)
mutual
noncomputable def ssz:Stp->Nat
 | .op=>1
 | .put _ _ ps=>2+ZQ ps
noncomputable def ZQ:List Stp->Nat
 | []=>0
 | p::r=>ssz p+ZQ r
end
mutual
theorem GL:∀a b:Stp,ssz (met a b)<=ssz a/\(met a b≠a->ssz (met a b)<ssz a)
 | .op,_=>by simp only [met];exact⟨aY _,λh=>absurd rfl h⟩
 | .put n m ps,.op=>by simp only [met,ssz];exact⟨by lia,λ_=>by lia⟩
 | .put n m ps,.put J L qs=>by
  rw [Z7]
  by_cases h:n=J/\m=L/\ps.length=qs.length
  .rw [aG h];obtain⟨h1,h2⟩:=WR ps qs h.2.2;simp only [ssz];refine⟨by lia,λG=>?_⟩;have:=h2 λz=>G (by rw [z]);lia
  .rw [aF h];simp only [ssz];exact⟨by lia,λ_=>by lia⟩
theorem WR:∀a b:List Stp,a.length=b.length->ZQ (QI a b)<=ZQ a/\(QI a b≠a->ZQ (QI a b)<ZQ a)
 | [],_,_=>by simp only [QI];exact⟨aY _,λh=>absurd rfl h⟩
 | _::_,[],h=>by simp at h
 | p::ps,q::qs,h=>by
  obtain⟨h1,h2⟩:=GL p q;obtain⟨L,J⟩:=WR ps qs (by simpa using h);simp only [QI,ZQ];refine⟨by lia,λG=>?_⟩
  by_cases e:met p q=p
  .have:QI ps qs≠ps:=λz=>G (by rw [e,z]);have:=J this;lia
  .have:=h2 e;lia
end
theorem GQ{a b:Stp}(h:Bel a b):ssz a<=ssz b/\(a≠b->ssz a<ssz b):=by
 have e:met b a=a:=by rw [ZV];exact h
 have:=GL b a;rw [e]at this;exact this
abbrev Rls:=List (List (Bool×Tm))
def lookS(S:List Stp):Int->Stp:=λm=>(S[m.toNat]?).getD .op
def US(rs:List (Bool×Tm)):Stp:=WZ ((rs.filter λr=>r.1).map λr=>rsT (λ_=>.op) r.2)
def YN(S:List Stp)(rs:List (Bool×Tm)):Stp:=WZ (rs.map λr=>rsT (lookS S) r.2)
def D(ms:Rls):Nat->List Stp
 | 0=>ms.map US
 | n+1=>ms.map (YN (D ms n))
theorem Y5(ms:Rls):∀n,(D ms n).length=ms.length
 | 0=>by simp [D]
 | n+1=>by simp [D]
def Jy(ms:Rls):Prop:=∀rs∈ms,(∃r∈rs,r.1=true)/\∀r∈rs,r.1=true->cls r.2=[]
theorem ZF{f:List (Bool×Tm)->Stp}{ms:Rls}{m:Int}:lookS (ms.map f) m=((ms[m.toNat]?).map f).getD .op:=by
 unfold lookS;rw [aK]
theorem L5{ms:Rls}(ok:Jy ms)(S:List Stp){rs:List (Bool×Tm)}(h:rs∈ms):Bel (YN S rs) (US rs):=by
 obtain⟨⟨J,L,Y⟩,Z⟩:=ok rs h;refine Js ?_ λy hy=>?_
 .intro z;have:rsT (λ_=>Stp.op) J.2∈(rs.filter λr=>r.1).map λr=>rsT (λ_=>.op) r.2:=aJ.mpr ⟨J,dB.mpr ⟨L,Y⟩,rfl⟩;rw [z]at this;cases this
 .obtain⟨r,hr,rfl⟩:=aJ.mp hy;obtain⟨G,M⟩:=dB.mp hr;have e:rsT (λ_=>Stp.op) r.2=rsT (lookS S) r.2:=Ue r.2 λc U=>by rw [Z r G M]at U;cases U
  rw [e];exact Yq (aJ.mpr ⟨r,G,rfl⟩)
theorem XL{ms:Rls}(ok:Jy ms):∀n m,Bel (lookS (D ms (n+1)) m) (lookS (D ms n) m)
 | 0,m=>by
  simp only [D];rw [ZF,ZF];cases e:ms[m.toNat]? with
  | none=>exact Bel.refl _
  | some G=>exact L5 ok _ (aL e)
 | n+1,m=>by
  have M:=XL ok n;show Bel (lookS (ms.map (YN (D ms (n+1)))) m) (lookS (ms.map (YN (D ms n))) m);rw [ZF,ZF];cases e:ms[m.toNat]? with
  | none=>exact Bel.refl _
  | some G=>
   show Bel (YN _ G) (YN _ G);obtain⟨⟨J,L,_⟩,_⟩:=ok G (aL e);refine Js (λz=>?_) λy U=>?_
   .have:rsT (lookS (D ms n)) J.2∈G.map λr=>rsT (lookS (D ms n)) r.2:=aJ.mpr ⟨J,L,rfl⟩;rw [z]at this;cases this
   .obtain⟨r,Y,rfl⟩:=aJ.mp U;exact(Yq (aJ.mpr ⟨r,Y,rfl⟩)).trans (Li M r.2)
def tsz(S:List Stp):Nat:=ZQ S
theorem Tk{ms:Rls}(ok:Jy ms)(n:Nat):tsz (D ms (n+1))<=tsz (D ms n)/\(D ms (n+1)≠D ms n->tsz (D ms (n+1))<tsz (D ms n)):=by
 have J:∀(a b:List Stp),a.length=b.length->(∀(i:Nat) x y,a[i]?=some x->b[i]?=some y->Bel x y)->ZQ a<=ZQ b/\(a≠b->ZQ a<ZQ b):=by
  intro a
  induction a with
  | nil=>intro b G _;cases b with
   | nil=>exact⟨aY _,λh=>absurd rfl h⟩
   | cons _ _=>simp at G
  | cons x a M=>
   intro b G h;cases b with
   | nil=>simp at G
   | cons y b=>
    obtain⟨h1,h2⟩:=GQ (h 0 x y rfl rfl);obtain⟨h3,U⟩:=M b (by simpa using G) λi u v Y Z=>h (i+1) u v (by simpa using Y) (by simpa using Z);simp only [ZQ];refine⟨by lia,λL=>?_⟩
    by_cases e:x=y
    .have:=U λz=>L (by rw [e,z]);lia
    .have:=h2 e;lia
 refine J _ _ (by rw [Y5,Y5]) λi x y hx hy=>?_;have:=XL ok n (i:Int);unfold lookS at this;rw [a_,hx,hy]at this;exact this
end ST
namespace ST
open PySem TM TT L2 K9
theorem Vz:∀{ps qs:List Stp},ps.length=qs.length->(QI ps qs=ps↔ ∀(i:Nat) x y,ps[i]?=some x->qs[i]?=some y->Bel x y)
 | [],[],_=>by simp [QI]
 | [],_::_,h=>by simp at h
 | _::_,[],h=>by simp at h
 | p::ps,q::qs,h=>by
  have L:=Vz (ps:=ps) (qs:=qs) (by simpa using h);simp only [QI,gv];constructor
  .rintro⟨h1,h2⟩ i x y G J;cases i with
   | zero=>
    obtain rfl:p=x:=by simpa using G
    obtain rfl:q=y:=by simpa using J
    exact h1
   | succ i=>exact L.mp h2 i x y (by simpa using G) (by simpa using J)
  .intro z;exact⟨z 0 p q rfl rfl,L.mpr λi x y G J=>z (i+1) x y (by simpa using G) (by simpa using J)⟩
theorem Sc{n n':Str}{m m':Int}{ps qs:List Stp}(h:Bel (.put n m ps) (.put n' m' qs)):n=n'/\m=m'/\ps.length=qs.length/\∀(i:Nat) x y,ps[i]?=some x->qs[i]?=some y->Bel x y:=by
 unfold Bel at h;rw [Z7]at h
 by_cases G:n=n'/\m=m'/\ps.length=qs.length
 .rw [aG G]at h;injection h with _ _ J;exact⟨G.1,G.2.1,G.2.2,(Vz G.2.2).mp J⟩
 .rw [aF G]at h;cases h
end ST
namespace K51
open PySem TM TT L2 K9 K11 ST
mutual
noncomputable def TPr(p:Int->Int->Prop):Tm->Prop
 | .node (.call m b) _ bs=>p m b/\bs=[]
 | .node (.put n _ _) _ bs=>PyData.strOk n=true/\bs.length<=3/\TPrs p bs
noncomputable def TPrs(p:Int->Int->Prop):List Tm->Prop
 | []=>True
 | b::r=>TPr p b/\TPrs p r
end
theorem TPrs_iff(p:Int->Int->Prop)(bs:List Tm):TPrs p bs↔ ∀b∈bs,TPr p b:=by
 induction bs with
 | nil=>simp [TPrs]
 | cons u r G=>simp only [TPrs,G,aM,forall_eq_or_imp]
mutual
theorem TPr.mono{p q:Int->Int->Prop}(h:∀m b,p m b->q m b):∀{t:Tm},TPr p t->TPr q t
 | .node (.call m b) _ bs,k=>by simp only [TPr]at k ⊢;exact⟨h _ _ k.1,k.2⟩
 | .node (.put n _ _) _ bs,k=>by simp only [TPr]at k ⊢;exact⟨k.1,k.2.1,TPrs.mono h k.2.2⟩
theorem TPrs.mono{p q:Int->Int->Prop}(h:∀m b,p m b->q m b):∀{bs:List Tm},TPrs p bs->TPrs q bs
 | [],_=>by simp only [TPrs]
 | b::r,k=>by simp only [TPrs]at k ⊢;exact⟨TPr.mono h k.1,TPrs.mono h k.2⟩
end
end K51
namespace K40
open K51
open PySem TM TT L2 ST
abbrev Ky:=Int×List Nat
inductive LX where
 | put (n:Str) (k:Bool) (ad:Int)
 | call (q:Ky) (b:Int)
abbrev TX:=Tree LX
def stA:Stp->List Nat->Option Stp
 | s,[]=>some s
 | .op,_::_=>none
 | .put _ _ ps,i::r=>(ps[i]?).bind λs=>stA s r
mutual
noncomputable def stX(m b:Int)(p:List Nat):Stp->TX
 | .op=>.node (.call (m,p) b) 0 []
 | .put n a ps=>.node (.put n false a) 0 (ZZ m b p 0 ps)
noncomputable def ZZ(m b:Int)(p:List Nat):Nat->List Stp->List TX
 | _,[]=>[]
 | i,s::r=>stX m b (p++[i]) s::ZZ m b p (i+1) r
end
def dn:Tm->List Nat->Option (Tm×List Nat)
 | t,[]=>some (t,[])
 | .node (.call m b) z bs,i::r=>some (.node (.call m b) z bs,i::r)
 | .node (.put _ _ _) _ bs,i::r=>(bs[i]?).bind λt=>dn t r
mutual
noncomputable def sin(S:Int->Stp):Tm->TX
 | .node (.call m b) _ _=>stX m b [] (S m)
 | .node (.put n k a) _ bs=>.node (.put n k a) 0 (Uj S bs)
noncomputable def Uj(S:Int->Stp):List Tm->List TX
 | []=>[]
 | t::r=>sin S t::Uj S r
end
theorem Y1(S:Int->Stp):∀ts:List Tm,Uj S ts=ts.map (sin S)
 | []=>rfl
 | t::r=>by simp only [Uj,aS,Y1 S r]
theorem JN(m b:Int)(p:List Nat):∀(i:Nat)(ps:List Stp),(ZZ m b p i ps).length=ps.length
 | _,[]=>rfl
 | i,s::r=>by simp only [ZZ,bF,JN m b p (i+1) r]
theorem Yv(m b:Int)(p:List Nat):∀(i j:Nat)(ps:List Stp),(ZZ m b p i ps)[j]?=(ps[j]?).map (stX m b (p++[i+j]))
 | i,j,[]=>by simp [ZZ]
 | i,0,s::r=>by simp [ZZ]
 | i,j+1,s::r=>by
  simp only [ZZ,List.getElem?_cons_succ];rw [Yv m b p (i+1) j r,show i+1+j=i+(j+1)by lia]
def eU(S:Int->Stp):Tm×List Nat->Option TX
 | (.node (.call m b) _ _,p)=>(stA (S m) p).map (stX m b p)
 | (.node (.put n k a) z bs,_)=>some (sin S (.node (.put n k a) z bs))
def eT(S:Int->Stp)(t:Tm)(p:List Nat):Option TX:=(dn t p).bind (eU S)
theorem Zk(s:Stp):stA s []=some s:=by cases s<;>rfl
theorem Gg(t:Tm):dn t []=some (t,[]):=by
 obtain⟨l,z,bs⟩:=t;cases l<;>rfl
theorem Z3(S:Int->Stp)(t:Tm):eT S t []=some (sin S t):=by
 obtain⟨l,z,bs⟩:=t;cases l with
 | call m b=>simp only [eT,dn,e_,eU,Zk,gw,sin]
 | put n k a=>simp only [eT,dn,e_,eU]
theorem Ui(S:Int->Stp)(m b z:Int)(bs:List Tm)(p:List Nat):eT S (.node (.call m b) z bs) p=(stA (S m) p).map (stX m b p):=by
 cases p<;>simp only [eT,dn,e_,eU]
theorem JT(S:Int->Stp)(n:Str)(k:Bool)(a z:Int)(bs:List Tm)(i:Nat)(p:List Nat):eT S (.node (.put n k a) z bs) (i::p)=(bs[i]?).bind λt=>eT S t p:=by
 unfold eT;simp only [dn];cases bs[i]? <;>rfl
theorem LH:∀(p q:List Nat)(s:Stp),stA s (p++q)=(stA s p).bind λu=>stA u q
 | [],q,s=>by rw [Zk];rfl
 | i::p,q,.op=>rfl
 | i::p,q,.put n m ps=>by
  simp only [f_,stA];cases ps[i]? with
  | none=>rfl
  | some s=>exact LH p q s
mutual
noncomputable def clX:TX->List (Ky×Int)
 | .node (.call q b) _ _=>[(q,b)]
 | .node (.put _ _ _) _ bs=>QY bs
noncomputable def QY:List TX->List (Ky×Int)
 | []=>[]
 | t::r=>clX t++QY r
end
theorem U4{ts:List TX}{t:TX}{c:Ky×Int}(h:t∈ts)(hc:c∈clX t):c∈QY ts:=by
 induction ts with
 | nil=>cases h
 | cons u r G=>
  rw [QY];rcases aM.mp h with rfl | h
  .exact cT _ hc
  .exact bY _ (G h)
theorem W9{c:Ky×Int}:∀{ts:List TX},c∈QY ts->∃t∈ts,c∈clX t
 | [],h=>by simp [QY]at h
 | t::r,h=>by
  rw [QY]at h;rcases aX.mp h with h | h
  .exact⟨t,aR,h⟩
  .obtain⟨u,h1,h2⟩:=W9 h;exact⟨u,bR _ h1,h2⟩
mutual
theorem VG{s0:Stp}{m b:Int}:∀{s:Stp}{p:List Nat},stA s0 p=some s->∀c∈clX (stX m b p s),c.1.1=m/\c.2=b/\stA s0 c.1.2=some .op
 | .op,p,h,c,G=>by
  simp only [stX,clX,bJ]at G;rw [G];exact⟨rfl,rfl,h⟩
 | .put n a ps,p,h,c,G=>by
  simp only [stX,clX]at G;exact Lx (ps:=ps) (λj s J=>by rw [LH,h];simp only [e_,stA,fi,J]) c G
theorem Lx{s0:Stp}{m b:Int}:∀{ps:List Stp}{p:List Nat}{i:Nat},(∀(j:Nat) s,ps[j]?=some s->stA s0 (p++[i+j])=some s)->∀c∈QY (ZZ m b p i ps),c.1.1=m/\c.2=b/\stA s0 c.1.2=some .op
 | [],p,i,h,c,hc=>by simp [ZZ,QY]at hc
 | s::r,p,i,h,c,hc=>by
  simp only [ZZ,QY,aX]at hc;rcases hc with hc | hc
  .exact VG (by have:=h 0 s rfl;simpa using this) c hc
  .exact Lx (ps:=r) (λj s G=>by rw [show i+1+j=i+(j+1)by lia];exact h (j+1) s (by simpa using G)) c hc
end
def AZ(S:Int->Stp)(t:Tm)(x:TX):Prop:=∀c∈clX x,(c.1.1,c.2)∈cls t/\stA (S c.1.1) c.1.2=some .op
mutual
theorem NU{S:Int->Stp}:∀t:Tm,AZ S t (sin S t)
 | .node (.call m b) _ bs,c,G=>by
  simp only [sin]at G;obtain⟨h1,h2,J⟩:=VG (Zk _) c G;exact⟨by rw [h1,h2];simp [cls,lcl],by rw [h1];exact J⟩
 | .node (.put n k a) _ bs,c,G=>by
  simp only [sin,clX]at G;obtain⟨h1,h2⟩:=GI bs c G;exact⟨by simp only [cls,lcl,dO];exact h1,h2⟩
theorem GI{S:Int->Stp}:∀(ts:List Tm),∀c∈QY (Uj S ts),(c.1.1,c.2)∈Q5 ts/\stA (S c.1.1) c.1.2=some .op
 | [],c,hc=>by simp [Uj,QY]at hc
 | t::r,c,hc=>by
  simp only [Uj,QY,aX]at hc;rcases hc with hc | hc
  .obtain⟨h1,h2⟩:=NU t c hc;exact⟨by simp only [Q5];exact cT _ h1,h2⟩
  .obtain⟨h1,h2⟩:=GI r c hc;exact⟨by simp only [Q5];exact bY _ h1,h2⟩
end
theorem OF{S:Int->Stp}:∀{p:List Nat}{t:Tm}{x:TX},eT S t p=some x->AZ S t x
 | [],t,x,h=>by
  rw [Z3]at h;rw [<-aI h];exact NU t
 | i::p,.node (.call m b) z bs,x,h=>by
  rw [Ui]at h;obtain⟨s,J,rfl⟩:=cL.mp h;intro c G;obtain⟨h1,h2,L⟩:=VG J c G;exact⟨by rw [h1,h2];simp [cls,lcl],by rw [h1];exact L⟩
 | i::p,.node (.put n k a) z bs,x,h=>by
  rw [JT]at h;obtain⟨t,M,U⟩:=cI.mp h;intro c G;obtain⟨h1,h2⟩:=OF U c G;exact⟨by simp only [cls,lcl,dO];exact Np (aL M) _ h1,h2⟩
theorem SA{S:Int->Stp}:∀{p:List Nat}{t:Tm}{s:Stp},stA (rsT S t) p=some s->∃x,eT S t p=some x
 | [],t,s,_=>⟨_,Z3 S t⟩
 | i::p,.node (.call m b) z bs,s,h=>by
  simp only [rsT]at h;exact⟨_,by rw [Ui,h];rfl⟩
 | i::p,.node (.put n k a) z bs,s,h=>by
  simp only [rsT]at h;cases k with
  | true=>simp [stA]at h
  | false=>
   simp only [cD,bU,stA,J7,aK]at h;cases e:bs[i]? with
   | none=>rw [e]at h;cases h
   | some t=>
    rw [e]at h;obtain⟨x,G⟩:=SA (t:=t) (by simpa using h);exact⟨x,by rw [JT,e];exact G⟩
theorem Ob:∀{p:List Nat}{a b:Stp}{s:Stp},Bel a b->stA a p=some s->∃u,stA b p=some u
 | [],a,b,s,_,_=>⟨b,Zk b⟩
 | i::p,.op,b,s,_,h=>by simp [stA]at h
 | i::p,.put n m ps,.op,s,h,_=>by unfold Bel at h;rw [Z2]at h;cases h
 | i::p,.put n m ps,.put n' m' qs,s,h,e=>by
  obtain⟨_,_,U,L⟩:=Sc h;simp only [stA]at e ⊢;cases G:ps[i]? with
  | none=>rw [G]at e;cases e
  | some x=>
   have hi:=(aU.mp G).1;have J:=aD (show i<qs.length by lia);rw [G]at e;obtain⟨u,M⟩:=Ob (L i x _ G J) (by simpa using e);exact⟨u,by rw [J];exact M⟩
section
variable{rl rl':Int->Str->Option Tm}{S:Int->Stp}{g:Ky->Int}{qs:List Ky}
mutual
noncomputable def mpX(g:Ky->Int):TX->Tm
 | .node (.call q b) _ _=>.node (.call (g q) b) 0 []
 | .node (.put n k a) _ bs=>.node (.put n k a) 0 (YG g bs)
noncomputable def YG(g:Ky->Int):List TX->List Tm
 | []=>[]
 | t::r=>mpX g t::YG g r
end
theorem Yx(g:Ky->Int):∀ts:List TX,YG g ts=ts.map (mpX g)
 | []=>by rw [YG];rfl
 | t::r=>by rw [YG,Yx g r];rfl
end
mutual
theorem Wm(m b:Int):∀(s:Stp)(p:List Nat),sz (stX m b p s)<=ssz s/\lv (stX m b p s)<=sl s
 | .op,p=>by simp only [stX,sz,szs,lv,lvs,ssz,sl];lia
 | .put n a ps,p=>by
  have:=Ll m b ps p 0;simp only [stX,sz,lv,ssz,sl];lia
theorem Ll(m b:Int):∀(ps:List Stp)(p:List Nat)(i:Nat),szs (ZZ m b p i ps)<=ZQ ps/\lvs (ZZ m b p i ps)<=sls ps
 | [],p,i=>by simp only [ZZ,szs,lvs,ZQ,sls];lia
 | s::r,p,i=>by
  have:=Wm m b s (p++[i]);have:=Ll m b r p (i+1);simp only [ZZ,szs,lvs,ZQ,sls];lia
end
theorem VP:∀{p:List Nat}{s u:Stp},stA s p=some u->ssz u<=ssz s/\sl u<=sl s
 | [],s,u,h=>by
  rw [Zk]at h;rw [aI h];lia
 | i::p,.op,u,h=>by simp [stA]at h
 | i::p,.put n m ps,u,h=>by
  simp only [stA]at h;obtain⟨x,J,L⟩:=cI.mp h;have h1:=VP L;have G:=aL J;have h2:=Vr G;have M:∀l:List Stp,x∈l->ssz x<=ZQ l:=λl=>by
   induction l with
   | nil=>intro z;cases z
   | cons y r U=>
    intro z;simp only [ZQ];rcases aM.mp z with rfl | z
    .lia
    .have:=U z;lia
  have:=M ps G;simp only [ssz,sl];lia
mutual
theorem Oe{S:Int->Stp}{A B:Nat}(ha:∀m,ssz (S m)<=A/\sl (S m)<=B)(h1:1<=A)(h2:1<=B):∀t:Tm,sz (sin S t)<=sz t*A/\lv (sin S t)<=lv t+B
 | .node (.call m b) z bs=>by
  simp only [sin];have:=Wm m b (S m) [];have:=ha m;have:A<=sz (.node (Lab.call m b) z bs)*A:=Nat.le_mul_of_pos_left _ (by simp only [sz];lia);lia
 | .node (.put n k a) _ bs=>by
  simp only [sin,sz,lv];have:=Lv ha h1 h2 bs;rw [Nat.add_mul,Nat.one_mul];lia
theorem Lv{S:Int->Stp}{A B:Nat}(ha:∀m,ssz (S m)<=A/\sl (S m)<=B)(h1:1<=A)(h2:1<=B):∀ts:List Tm,szs (Uj S ts)<=szs ts*A/\lvs (Uj S ts)<=lvs ts+B
 | []=>by simp only [Uj,szs,lvs];lia
 | t::r=>by
  simp only [Uj,szs,lvs];have:=Oe ha h1 h2 t;have:=Lv ha h1 h2 r;rw [Nat.add_mul];lia
end
theorem WN{S:Int->Stp}{A B:Nat}(ha:∀m,ssz (S m)<=A/\sl (S m)<=B)(h1:1<=A)(h2:1<=B):∀{p:List Nat}{t:Tm}{x:TX},eT S t p=some x->sz x<=sz t*A/\lv x<=lv t+B
 | [],t,x,h=>by
  rw [Z3]at h;rw [<-aI h];exact Oe ha h1 h2 t
 | i::p,.node (.call m b) z bs,x,h=>by
  rw [Ui]at h;obtain⟨s,J,rfl⟩:=cL.mp h;have:=Wm m b s (i::p);have:=VP J;have:=ha m;have:A<=sz (.node (Lab.call m b) z bs)*A:=Nat.le_mul_of_pos_left _ (by simp only [sz];lia);lia
 | i::p,.node (.put n k a) z bs,x,h=>by
  rw [JT]at h;obtain⟨t,L,M⟩:=cI.mp h;have:=WN ha h1 h2 M;have G:=aL L;have U:=OR G;have Y:=ZL G;simp only [sz,lv];have:sz t*A<=(1+szs bs)*A:=fH _ (5:);lia
end K40
variable{q:K40.Ky}{qs:List K40.Ky}
namespace G3
open PySem L2
inductive C where
 | v (i:Nat) | k (x:V) | bin (op:Operator) (a b:C) | cmp (op:CmpOp) (a b:C) | ix (a b:C)
 | tup (as:List C) | lst (as:List C) | call (i:Nat) (as:List C)
 | meth (i:Nat) (o:C) (as:List C) | no (a:C) | an (a b:C) | oo (a b:C)
 | nd (i:Nat) (as:List C) | iff (c a b:C)
 | comp (kd:Nat) (it:C) (cap:List Nat) (elt:C) | compI (kd:Nat) (it:C) (cap:List Nat) (cnd elt:C)
abbrev Rel:=St->List V->Hp->VK->Prop
structure Mr where
 ty:V->Hp->Prop
 r:V->List V->Hp->VK->Prop
structure En where
 K:Fg
 fs:List Rel
 ms:List Mr
 nr:List (List V->Hp->VK->Prop)
 sr:List (St->List V->Hp->(St->Hp->Prop)->Prop)
def CW(a:Option V)(k:V->Prop):Prop:=match a with
 | none=>False
 | some x=>k x
def Ti:St->Nat->(V->Prop)->Prop
 | [],_,_=>False
 | a::_,0,k=>CW a k
 | _::r,n+1,k=>Ti r n k
def Wj:St->Nat->V->(St->Prop)->Prop
 | [],_,_,_=>False
 | _::r,0,x,k=>k (some x::r)
 | a::r,n+1,x,k=>Wj r n x λr'=>k (a::r')
def MD:List V->Nat->Bool
 | [],_=>true
 | _::_,0=>false
 | _::r,n+1=>MD r n
structure Cnd(p q:Prop):Prop where
 c::(h:p) (k:q)
structure NewT(K:Fg)(xs:List V)(H:Hp)(Q:VK):Prop where
 t::(h:∀p H',Same H H'->SqT K H' p xs->H' p=some (.tup xs)->Q (.ref p) H')
structure NewL(xs:List V)(H:Hp)(Q:VK):Prop where
 l::(h:∀p H',Same H H'->H' p=some (.lst xs)->H p=none->Q (.ref p) H')
inductive Ix(K:Fg)(a:Addr)(i:Int)(H:Hp)(Q:VK):Prop where
 | t (xs:List V) (v:V) (h:SqT K H a xs) (e:atI xs i=some v) (k:Q v H):Ix K a i H Q
 | l (xs:List V) (v:V) (h:SqL K H a xs) (e:atI xs i=some v) (k:Q v H):Ix K a i H Q
inductive Cat(K:Fg)(a b:Addr)(H:Hp)(Q:VK):Prop where
 | a (xs ys:List V) (h1:SqT K H a xs) (h2:SqT K H b ys) (hz:xs.length+ys.length<=sizeLine) (k:∀p H',Same H H'->SqT K H' p (xs++ys)->Q (.ref p) H'):Cat K a b H Q
def RX(i j:Int)(H:Hp)(Q:VK):Prop:=match j with
 | .ofNat (_+1)=>Q (.int (i%j)) H
 | _=>False
def Ty(i j:Int)(H:Hp)(Q:VK):Prop:=match j with
 | .ofNat (n+1)=>cond (Nat.ble (n+2) 1073741824) (Q (.int (i/j)) H) False
 | _=>False
def i2(x y:V)(ki:Int->Int->Prop)(ks:Str->Str->Prop):Prop:=match x with
 | .int i=>match y with
  | .int j=>ki i j
  | _=>False
 | .str i=>match y with
  | .str j=>ks i j
  | _=>False
 | _=>False
def a2(x y:V)(k:Addr->Addr->Prop):Prop:=match x with
 | .ref a=>match y with
  | .ref b=>k a b
  | _=>False
 | _=>False
def Cj:V->Bool
 | .ref _=>true
 | _=>false
def rB(K:Fg)(op:Operator)(x y:V)(H:Hp)(Q:VK):Prop:=match op with
 | .Add=>cond (Cj x) (a2 x y λa b=>Cat K a b H Q) (i2 x y (λi j=>Q (.int (i+j)) H) λ_ _=>False)
 | .Sub=>i2 x y (λi j=>Q (.int (i-j)) H) λ_ _=>False
 | .Mult=>i2 x y (λi j=>Cnd (CMul i j) (Q (.int (i*j)) H)) λ_ _=>False
 | .Mod=>i2 x y (λi j=>RX i j H Q) λ_ _=>False
 | .FloorDiv=>i2 x y (λi j=>Ty i j H Q) λ_ _=>False
 | _=>False
def NV:V->Bool
 | .non=>true
 | _=>false
def iN(y:V)(k:Prop):Prop:=cond (NV y) k False
def rC(op:CmpOp)(x y:V)(H:Hp)(Q:VK):Prop:=match op with
 | .Eq=>i2 x y (λi j=>Q (.bl (decide (i=j))) H) λi j=>Q (.bl (decide (i=j))) H
 | .NotEq=>i2 x y (λi j=>Q (.bl (!decide (i=j))) H) λi j=>Q (.bl (!decide (i=j))) H
 | .Lt=>i2 x y (λi j=>Q (.bl (decide (i<j))) H) λi j=>Q (.bl (decide (i.cps.toList<j.cps.toList))) H
 | .LtE=>i2 x y (λi j=>Q (.bl (decide (i<=j))) H) λ_ _=>False
 | .Gt=>i2 x y (λi j=>Q (.bl (decide (j<i))) H) λ_ _=>False
 | .GtE=>i2 x y (λi j=>Q (.bl (decide (j<=i))) H) λ_ _=>False
 | .Is=>iN y (Q (.bl (NV x)) H)
 | .IsNot=>iN y (Q (.bl (!NV x)) H)
 | _=>False
def rX(K:Fg)(x y:V)(H:Hp)(Q:VK):Prop:=match x,y with
 | .ref a,.int i=>Ix K a i H Q
 | _,_=>False
def asB(x:V)(H:Hp)(Q:Bool->Hp->Prop):Prop:=match x with
 | .bl b=>Q b H
 | _=>False
def Ce(j:Int):Prop:=-(2^62)<=j/\j<2^62
inductive Cmp(K:Fg)(it:Hp->Prop)(itm:Nat->V)(m:Nat)(cs:St)(tt:TT)(te:TE)(H:Hp)(Q:VK):Prop where
 | s (R:Nat->List V->Hp->Prop) (h0:∀H1,Same H H1->R 0 [] H1)
  (hm:∀acc i ys l H1 H2,R i ys H1->H1 acc=some (.lst l)->H acc=none->(∀a o,a≠acc->H1 a=some o->H2 a=some o)->(∀a xs,SqT K H1 a xs->SqT K H2 a xs)->R i ys H2) (hz:m<=4000)
  (hs:∀i ys H1,i<m->ys.length<=i->Same H H1->R i ys H1->tt (some (itm i)::cs) H1 λb H2=>cond b (te (some (itm i)::cs) H2 λy H3=>Same H1 H3/\R (i+1) (ys++[y]) H3) (Same H1 H2/\R (i+1) ys H2))
  (hd:∀p ys H1,Same H H1->H1 p=some (.lst ys)->R m ys H1->Q (.ref p) H1):Cmp K it itm m cs tt te H Q
 | m (R:Addr->Nat->List V->Hp->Prop) (hz:m<=4000) (h0:∀acc H1,H acc=none->Same H H1->H1 acc=some (.lst [])->R acc 0 [] H1) (hx:∀acc i ys H1,R acc i ys H1->it H1)
  (hs:∀acc i ys H1,i<m->ys.length<=i->H acc=none->R acc i ys H1->tt (some (itm i)::cs) H1 λb H2=>cond b (te (some (itm i)::cs) H2 λy H3=>H3 acc=some (.lst ys)/\R acc (i+1) (ys++[y]) (upd H3 acc (.lst (ys++[y])))) (R acc (i+1) ys H2))
  (hd:∀acc ys H1,H acc=none->R acc m ys H1->Q (.ref acc) H1):Cmp K it itm m cs tt te H Q
inductive CmpL(K:Fg)(a:Addr)(cs:St)(tt:TT)(te:TE)(H:Hp)(Q:VK):Prop where
 | l (xs:List V) (h:SqL K H a xs) (k:Cmp K (λH=>SqL K H a xs) (λi=>(xs[i]?).getD .non) xs.length cs tt te H Q):CmpL K a cs tt te H Q
inductive CmpT(K:Fg)(a:Addr)(cs:St)(tt:TT)(te:TE)(H:Hp)(Q:VK):Prop where
 | t (xs:List V) (h:SqT K H a xs) (k:Cmp K (λH=>SqT K H a xs) (λi=>(xs[i]?).getD .non) xs.length cs tt te H Q):CmpT K a cs tt te H Q
def NK(K:Fg)(kd:Nat)(x:V)(cs:St)(tt:TT)(te:TE)(H:Hp)(Q:VK):Prop:=match kd,x with
 | 0,.int j=>Cnd (Ce j) (Cmp K (λ_=>True) (λi=>.int (i:Int)) j.toNat cs tt te H Q)
 | 1,.ref a=>CmpL K a cs tt te H Q
 | 2,.ref a=>CmpT K a cs tt te H Q
 | _,_=>False
def WP:List Nat->St->St
 | [],_=>[]
 | j::r,σ=>(σ[j]?).getD none::WP r σ
mutual
noncomputable def E(n:En):C->TE
 | .v i=>λσ H Q=>Ti σ i λx=>Q x H
 | .k x=>λ_ H Q=>Q x H
 | .bin op a b=>λσ H Q=>E n a σ H λx H1=>E n b σ H1 λy H2=>rB n.K op x y H2 Q
 | .cmp op a b=>λσ H Q=>E n a σ H λx H1=>E n b σ H1 λy H2=>rC op x y H2 Q
 | .ix a b=>λσ H Q=>E n a σ H λx H1=>E n b σ H1 λy H2=>rX n.K x y H2 Q
 | .tup as=>λσ H Q=>Es n as σ H λxs H1=>cond (MD xs 1000) (NewT n.K xs H1 Q) False
 | .lst as=>λσ H Q=>Es n as σ H λxs H1=>cond (MD xs 1000) (NewL xs H1 Q) False
 | .call i as=>λσ H Q=>Es n as σ H λxs H1=>match n.fs[i]? with | some r=>r σ xs H1 Q | none=>False
 | .no a=>λσ H Q=>E n a σ H λx H1=>asB x H1 λb H2=>Q (.bl (!b)) H2
 | .an a b=>λσ H Q=>E n a σ H λx H1=>asB x H1 λc H2=>cond c (E n b σ H2 Q) (Q (.bl false) H2)
 | .oo a b=>λσ H Q=>E n a σ H λx H1=>asB x H1 λc H2=>cond c (Q (.bl true) H2) (E n b σ H2 Q)
 | .meth i o as=>λσ H Q=>E n o σ H λx H1=>match n.ms[i]? with | some m=>Cnd (m.ty x H1) (Es n as σ H1 λxs H2=>m.r x xs H2 Q) | none=>False
 | .nd i as=>λσ H Q=>Es n as σ H λxs H1=>match n.nr[i]? with | some r=>r xs H1 Q | none=>False
 | .iff c a b=>λσ H Q=>E n c σ H λx H1=>asB x H1 λt H2=>cond t (E n a σ H2 Q) (E n b σ H2 Q)
 | .comp kd it cap elt=>λσ H Q=>E n it σ H λx H1=>NK n.K kd x (WP cap σ) (λ_ H Q=>Q true H) (E n elt) H1 Q
 | .compI kd it cap cnd elt=>λσ H Q=>E n it σ H λx H1=>NK n.K kd x (WP cap σ) (λσ H Q=>E n cnd σ H λx H1=>asB x H1 Q) (E n elt) H1 Q
termination_by structural c=>c
noncomputable def Es(n:En):List C->TA
 | []=>λ_ H Q=>Q [] H
 | a::r=>λσ H Q=>E n a σ H λx H1=>Es n r σ H1 λxs H2=>Q (x::xs) H2
termination_by structural c=>c
end
theorem iteI{p:Prop} [Decidable p] {A B:Prop} (h1:p->A) (h2:¬p->B):cond (decide p) A B:=by
 by_cases h:p
 .rw [bK h];exact h1 h
 .rw [bN h];exact h2 h
theorem modI{i j:Int}{Q:VK}(h:0<j)(k:Q (.int (i%j)) H):RX i j H Q:=by
 match j,h,k with
 | .ofNat (n+1),_,k=>exact k
 | .ofNat 0,h,_=>exact absurd h (12:)
 | .negSucc n,h,_=>exact absurd h (16:)
theorem Nk{i j:Int}{Q:VK}(h:RX i j H Q):0<j/\Q (.int (i%j)) H:=by
 unfold RX at h;split at h
 .exact⟨by simp,h⟩
 .exact h.elim
theorem N1{i j:Int}{Q:VK}(h:Ty i j H Q):AO i j/\Q (.int (i/j)) H:=by
 unfold Ty at h;split at h
 .rename_i n;cases G:Nat.ble (n+2) 1073741824 with
  | false=>rw [G]at h;exact h.elim
  | true=>
   rw [G]at h;have:=Nat.ble_eq.mp G;refine⟨⟨by simp,?_⟩,h⟩;show((n+1:Nat):Int)<_;lia
 .exact h.elim
theorem i2_of{x:V}{ks:Str->Str->Prop}(h:i2 x y ki ks):(∃i j,x=.int i/\y=.int j/\ki i j)\/∃i j,x=.str i/\y=.str j/\ks i j:=by
 cases x with
 | int i=>cases y with
  | int j=>exact .inl ⟨i,j,rfl,rfl,h⟩
  | _=>exact False.elim h
 | str i=>cases y with
  | str j=>exact .inr ⟨i,j,rfl,rfl,h⟩
  | _=>exact False.elim h
 | _=>exact False.elim h
theorem JE{x:V}(h:i2 x y ki λ_ _=>False):∃i j,x=.int i/\y=.int j/\ki i j:=by
 rcases i2_of h with h | ⟨_,_,_,_,h⟩
 .exact h
 .exact h.elim
theorem SC{k:Prop}(h:iN y k):y=.non/\k:=by
 cases y with
 | non=>exact⟨rfl,h⟩
 | _=>exact False.elim h
theorem dI{i j:Int}:decide (V.int i=V.int j)=decide (i=j):=by simp
theorem dS{i j:Str}:decide (V.str i=V.str j)=decide (i=j):=by simp
theorem Dm(op:Operator):OpR X (binaryOp op) (rB X.K op):=by
 intro pins s σ H x y v u Q I G J h;cases op with
 | Add=>
  cases x with
  | ref a=>cases y with
   | ref b=>
    obtain⟨xs,ys,h1,h2,hz,k⟩:=(show Cat X.K a b H Q from h);exact Ld pins s σ H _ _ v u Q I G J ⟨_,_,xs,ys,rfl,rfl,h1,h2,hz,k⟩
   | _=>exact False.elim h
  | int i=>cases y with
   | int j=>exact ZP pins s σ H _ _ v u Q I G J ⟨_,_,rfl,rfl,h⟩
   | _=>exact False.elim h
  | str i=>cases y<;>exact False.elim h
  | _=>exact False.elim h
 | Sub=>
  obtain⟨i,j,rfl,rfl,h⟩:=JE h;exact TV pins s σ H _ _ v u Q I G J ⟨_,_,rfl,rfl,h⟩
 | Mult=>
  obtain⟨i,j,rfl,rfl,h⟩:=JE h;exact Jl pins s σ H _ _ v u Q I G J ⟨_,_,rfl,rfl,h.h,h.k⟩
 | Mod=>
  obtain⟨i,j,rfl,rfl,h⟩:=JE h;exact Uw pins s σ H _ _ v u Q I G J ⟨_,_,rfl,rfl,(Nk h).1,(Nk h).2⟩
 | FloorDiv=>
  obtain⟨i,j,rfl,rfl,h⟩:=JE h;exact Jg pins s σ H _ _ v u Q I G J ⟨_,_,rfl,rfl,(N1 h).1,(N1 h).2⟩
 | _=>exact False.elim h
theorem BP(op:CmpOp):OpR X (compareOp op) (rC op):=by
 intro pins s σ H x y v u Q I G J h;cases op with
 | Eq=>
  rcases i2_of h with⟨i,j,rfl,rfl,h⟩ | ⟨i,j,rfl,rfl,h⟩
  .exact ZX pins s σ H _ _ v u Q I G J ⟨rfl,by rw [dI];exact h⟩
  .exact ZX pins s σ H _ _ v u Q I G J ⟨rfl,by rw [dS];exact h⟩
 | NotEq=>
  rcases i2_of h with⟨i,j,rfl,rfl,h⟩ | ⟨i,j,rfl,rfl,h⟩
  .exact J1 pins s σ H _ _ v u Q I G J ⟨rfl,by rw [dI];exact h⟩
  .exact J1 pins s σ H _ _ v u Q I G J ⟨rfl,by rw [dS];exact h⟩
 | Lt=>
  rcases i2_of h with⟨i,j,rfl,rfl,h⟩ | ⟨i,j,rfl,rfl,h⟩
  .exact Va pins s σ H _ _ v u Q I G J ⟨_,_,rfl,rfl,h⟩
  .exact Mn pins s σ H _ _ v u Q I G J ⟨_,_,rfl,rfl,h⟩
 | LtE=>
  obtain⟨i,j,rfl,rfl,h⟩:=JE h;exact Bv pins s σ H _ _ v u Q I G J ⟨_,_,rfl,rfl,h⟩
 | Gt=>
  obtain⟨i,j,rfl,rfl,h⟩:=JE h;exact GZ pins s σ H _ _ v u Q I G J ⟨_,_,rfl,rfl,h⟩
 | GtE=>
  obtain⟨i,j,rfl,rfl,h⟩:=JE h;exact NY pins s σ H _ _ v u Q I G J ⟨_,_,rfl,rfl,h⟩
 | Is=>
  obtain⟨rfl,h⟩:=SC h;refine Ta pins s σ H _ _ v u Q I G J ⟨rfl,?_⟩;cases x<;>exact h
 | IsNot=>
  obtain⟨rfl,h⟩:=SC h;refine Ro pins s σ H _ _ v u Q I G J ⟨rfl,?_⟩;cases x<;>exact h
 | _=>exact False.elim h
theorem Da:IxR X (rX X.K):=by
 intro value G pins s σ H x y v u Q I M U h Y;unfold rX at h;split at h
 .cases h with
  | t xs w J L k=>exact Qj value G pins s σ H _ _ v u Q I M U ⟨_,xs,_,w,rfl,rfl,J,L,k⟩ Y
  | l xs w J L k=>exact QL value G pins s σ H _ _ v u Q I M U ⟨_,xs,_,w,rfl,rfl,J,L,k⟩ Y
 .exact h.elim
def ord:Expr->Bool
 | .Starred _ _=>false
 | .Slice _ _ _ _=>false
 | .Set _ _ _=>false
 | _=>true
def osw:Expr->Bool
 | .ListComp _ _ _ _=>false
 | .SetComp _ _ _ _=>false
 | .DictComp _ _ _ _ _=>false
 | _=>true
def tst:Expr->Bool
 | .UnaryOp .Not _ _=>false
 | .BoolOp _ _ _=>false
 | .IfExp _ _ _ _=>false
 | .Compare _ _ _ _=>false
 | _=>true
theorem Zw(h:ord e=true):starEach (e::es) env=(false,eval e env)::starEach es env:=by
 cases e<;>first | rfl | exact absurd (show false=true from h) aT
theorem Vg{t:Option Expr}{l:Nat}(h:osw e=true):swapsWith e t l env=pure false:=by
 cases e<;>first | rfl | exact absurd (show false=true from h) aT
theorem OJ(h:ord e=true):Lc e:=by
 cases e<;>first | exact λ_ _=>rfl | exact absurd (show false=true from h) aT
theorem Yf(h:ord e=true)(x:Value):foldedSetIterable e env x=pure x:=by
 cases e<;>first | rfl | exact absurd (show false=true from h) aT
theorem L6(h:tst e=true)(wh:Sem Value):isTrue e env wh=(do let v <-wh;standAt e.pos;holding [v] (truthy v)):=by
 cases e<;>first | rfl | exact absurd (show false=true from h) aT | (rename_i op _ _;cases op<;>first | rfl | exact absurd (show false=true from h) aT)
theorem UB{es:List Expr}{pos:Pos}{env:Env}(h:es.all ord=true):(backTo pos (starEach es env)).any (·.1)=false:=by
 induction es with
 | nil=>rfl
 | cons e es G=>
  rw [ff,bS]at h;rw [Zw h.1];show(false||(backTo pos (starEach es env)).any (·.1))=false;rw [G h.2];rfl
structure CallOk(X:Cx)(x:Str)(r:Rel):Prop where
 ok:∀(p pos:Pos)(e:Expr)(es:List Expr)(t:TA),PA X (e::es) t->Gl X x->(x==("__debug__":Str))=false->starEach (e::es) X.env=(false,eval e X.env)::starEach es X.env->(backTo pos (starEach es X.env)).any (·.1)=false->PE X (.Call (.Name x p) (e::es) [] pos) (λσ H Q=>t σ H λvs H1=>r σ vs H1 Q)
theorem CallOk.fn{k:Nat}{x:Str}(F:Fn X.prog X.w X.K X.mg X.base k x ps sp)(hr:Room k' X.A)(hk:k<=k':=by decide):CallOk X x (λ_ vs H Q=>sp vs H Q E0):=
 ⟨λp pos e es t G J L M hp=>by
  have:=Qt (p:=p) (pos:=pos) F hr G hk J L M hp;intro pins s σ H Q I h;exact this pins s σ H Q I (by
   show t σ H λvs H1=>sp (vs++[]) H1 Q E0
   simpa only [dG]using h)⟩
structure MethOk(X:Cx)(m:Str)(q:Mr):Prop where
 ok:∀(o e:Expr)(es:List Expr)(to:TE)(t:TA)(ap cp:Pos),PE X o to->PA X (e::es) t->attributeBase o m X.env (eval o X.env)=eval o X.env->((e::es).all ord)=true->(e::es).length<20->(ap.endLine==cp.line)=true->PE X (.Call (.Attribute o m ap) (e::es) [] cp) (λσ H Q=>to σ H λx H1=>q.ty x H1/\t σ H1 λvs H2=>q.r x vs H2 Q)
theorem Au{cp:Pos}(h:es.all ord=true)(hl:es.length<20):((backTo cp (starEach es env)).all (λx=>!x.1)&&(backToKw cp (keywordEach [] env)).all (λx=>x.1.isSome)
 &&decide (es.length+([]:List Keyword).length+(if([]:List Keyword).isEmpty then 0 else 1)<30))=true:=by
 have h1:(backTo cp (starEach es env)).all (λx=>!x.1)=true:=by
  have:=UB (pos:=cp) (env:=env) h;exact List.all_eq_true.mpr λx G=>by
   have:=List.any_eq_false.mp this x G
   simpa using this
 rw [h1];have h2:decide (es.length+([]:List Keyword).length+(if([]:List Keyword).isEmpty then 0 else 1)<30)=true:=by simp;lia
 rw [h2];rfl
theorem MethOk.bm{T id:String}{r:V->List V->Hp->VK->Prop}(pa:PlainAttrs T)(slot:Slot T name id)(hty:typeOf (.builtin id)=pure (.type "method_descriptor"))(hm:MtR X id r):MethOk X name ⟨tyV X.K T,r⟩:=
 ⟨λo e es to t Y Z J L M h U G=>by
  rw [ff,bS]at h;exact Ua pa slot hty hm J L M (Au (by rw [ff,bS];exact h) U) G (Zw h.1) (UB h.2)⟩
inductive PEs(X:Cx):List Expr->List TE->Prop where
 | nil:PEs X [] []
 | cons {e:Expr} {es:List Expr} {t:TE} {ts:List TE}:PE X e t->PEs X es ts->PEs X (e::es) (t::ts)
def Ga:List TE->TA
 | []=>λ_ H Q=>Q [] H
 | t::r=>λσ H Q=>t σ H λx H1=>Ga r σ H1 λxs H2=>Q (x::xs) H2
structure NodeOk(X:Cx)(sh:Expr->Option (List Expr))(r:List V->Hp->VK->Prop):Prop where
 ok:∀(e:Expr)(es:List Expr)(ts:List TE),sh e=some es->PEs X es ts->PE X e (λσ H Q=>Ga ts σ H λvs H1=>r vs H1 Q)
 okT:∀(e:Expr)(es:List Expr)(ts:List TE),sh e=some es->PEs X es ts->PT X e (λσ H Q=>Ga ts σ H λvs H1=>r vs H1 λx H2=>asB x H2 Q)
def up(t:TE):TE:=λσ H Q=>∃Q0:VK,t σ H Q0/\∀x H',Q0 x H'->Q x H'
def upA(t:TA):TA:=λσ H Q=>∃Q0:List V->Hp->Prop,t σ H Q0/\∀x H',Q0 x H'->Q x H'
def upT(t:TT):TT:=λσ H Q=>∃Q0:Bool->Hp->Prop,t σ H Q0/\∀x H',Q0 x H'->Q x H'
def upR(r:R2):R2:=λx y H Q=>∃Q0:VK,r x y H Q0/\∀x H',Q0 x H'->Q x H'
theorem QW{X:Cx}{e:Expr}{t:TE}(h:PE X e t):PE X e (up t):=λpins s σ H Q I ⟨G,J,k⟩=>thn (h pins s σ H G I J) λv Y ⟨x,H1,L,M,U⟩=>⟨x,H1,L,M,k _ _ U⟩
theorem Sn{t:TA}(h:PA X es t):PA X es (upA t):=λpos pins s σ H Q I ⟨G,J,k⟩=>thn (h pos pins s σ H G I J) λv Y ⟨x,H1,L,M,U⟩=>⟨x,H1,L,M,k _ _ U⟩
theorem W1{t:TT}(h:PT X e t):PT X e (upT t):=λpins s σ H Q I ⟨G,J,k⟩=>thn (h pins s σ H G I J) λv U ⟨H1,L,M⟩=>⟨H1,L,k _ _ M⟩
theorem N9{f:Value->Value->Sem Value}{r:R2}(h:OpR X f r):OpR X f (upR r):=λpins s σ H x y v u Q I G J ⟨L,M,k⟩=>thn (h pins s σ H x y v u L I G J M) λv s1 ⟨x,H1,U,Y,Z⟩=>⟨x,H1,U,Y,k _ _ Z⟩
theorem Sl{t:TT}(h:PF X es t):PF X es (upT t):=λpins s σ H Q I ⟨G,J,k⟩=>thn (h pins s σ H G I J) λv U ⟨H1,L,M⟩=>⟨H1,L,k _ _ M⟩
theorem Q8{t u:TE}(h:PE X e t)(k:∀σ H Q,u σ H Q->t σ H Q):PE X e u:=λpins s σ H Q I q=>h pins s σ H Q I (k σ H Q q)
theorem YD{t u:TT}(h:PT X e t)(k:∀σ H Q,u σ H Q->t σ H Q):PT X e u:=λpins s σ H Q I q=>h pins s σ H Q I (k σ H Q q)
section
variable{K:Fg}{m:Nat}{Q:VK}
theorem Jq{R:Nat->List V->Hp->Prop}{x:V}(hn:i<n)(hz:n<=4000)(ha:H acc=none)(hm:∀acc i ys l H1 H2,R i ys H1->H1 acc=some (.lst l)->H acc=none->(∀a o,a≠acc->H1 a=some o->H2 a=some o)->(∀a xs,SqT K H1 a xs->SqT K H2 a xs)->R i ys H2)
 (hy:H1 acc=some (.lst ys)) (hl:ys.length<=i) (g:Same H H1) (q:tt (some x::cs) H1 λb H2=>cond b (te (some x::cs) H2 λy H3=>Same H1 H3/\R (i+1) (ys++[y]) H3) (Same H1 H2/\R (i+1) ys H2)):
 upT tt (some x::cs) H1 (Vf n (λi ys H'=>H' acc=some (.lst ys)/\Same H H'/\R i ys H'/\ys.length<=i) acc i (up te) (some x::cs)):=by
 refine⟨_,q,λb H2 q=>?_⟩;cases b with
 | true=>
  refine Zh ⟨_,q,λy H3 q=>?_⟩;have G:=q.1 _ _ hy;refine QC (ys:=ys) hn G (5:) ⟨Qb,λz u e=>?_,hm acc _ _ ys H3 _ q.2 G ha (λa o J e=>by rw [Qe J];exact e) (λa xs h=>SqT.put h G),by rw [aW];show ys.length+1<=_;lia⟩;rw [Qe (Qf e ha)];exact q.1 _ _ (g _ _ e)
 | false=>exact QT (Yy hn ⟨q.1 _ _ hy,g.trans q.1,q.2,by lia⟩)
theorem Uu{R:Addr->Nat->List V->Hp->Prop}{x:V}(hn:i<n)(hz:n<=4000)(hl:ys.length<=i)(q:tt (some x::cs) H1 λb H2=>cond b (te (some x::cs) H2 λy H3=>H3 acc=some (.lst ys)/\R acc (i+1) (ys++[y]) (upd H3 acc (.lst (ys++[y])))) (R acc (i+1) ys H2)):
 upT tt (some x::cs) H1 (Vf n (λi ys H'=>R acc i ys H'/\ys.length<=i) acc i (up te) (some x::cs)):=by
 refine⟨_,q,λb H2 q=>?_⟩;cases b with
 | true=>exact Zh ⟨_,q,λy H3 q=>QC (ys:=ys) hn q.1 (5:) ⟨q.2,by rw [aW];show ys.length+1<=_;lia⟩⟩
 | false=>exact QT (Yy hn ⟨q,by lia⟩)
theorem ME(h:Cmp K (λ_=>True) (λi=>.int (i:Int)) m cs tt te H Q)(ha:H acc=none):Y2 (Itr 0 m) 1 cs (Q7 0) (upT tt) (up te) H acc (λH'=>Q (.ref acc) H'):=by
 cases h with
 | s R G M hz J L=>
  refine Xh (λi ys H'=>H' acc=some (.lst ys)/\Same H H'/\R i ys H'/\ys.length<=i) ⟨Qb,Qd ha _,G _ (Qd ha _),bE _⟩ (λi ys H1 hi p=>?_) λys H1 p=>L acc ys H1 p.2.1 p.1 p.2.2.1;rw [eM];exact Jq hi hz ha M p.1 p.2.2.2 p.2.1 (J i ys H1 hi p.2.2.2 p.2.1 p.2.2.1)
 | m R hz G U J L=>
  refine Xh (λi ys H'=>R acc i ys H'/\ys.length<=i) ⟨G acc _ ha (Qd ha _) Qb,bE _⟩ (λi ys H1 hi p=>?_) λys H1 p=>L acc ys H1 ha p.1;rw [eM];exact Uu hi hz p.2 (J acc i ys H1 hi p.2 ha p.1)
theorem O3(hx:SqL K H a xs)(h:Cmp K (λH=>SqL K H a xs) (λi=>(xs[i]?).getD .non) xs.length cs tt te H Q)(ha:H acc=none):Y2 (Itl K a) 1 cs (Q7 0) (upT tt) (up te) H acc (λH'=>Q (.ref acc) H'):=by
 cases h with
 | s R G U hz J L=>
  refine Jk (xs:=xs) (λi ys H'=>H' acc=some (.lst ys)/\Same H H'/\R i ys H'/\ys.length<=i) ⟨Qb,Qd ha _,G _ (Qd ha _),bE _⟩ (λi ys H1 _ p=>p.2.1.seq hx) (λi x ys H1 hi e p=>?_) λys H1 p=>L acc ys H1 p.2.1 p.1 p.2.2.1;have q:=J i ys H1 hi p.2.2.2 p.2.1 p.2.2.1;rw [e]at q;exact Jq hi hz ha U p.1 p.2.2.2 p.2.1 q
 | m R hz G M J L=>
  refine Jk (xs:=xs) (λi ys H'=>R acc i ys H'/\ys.length<=i) ⟨G acc _ ha (Qd ha _) Qb,bE _⟩ (λi ys H1 _ p=>M acc i ys H1 p.1) (λi x ys H1 hi e p=>?_) λys H1 p=>L acc ys H1 ha p.1;have q:=J acc i ys H1 hi p.2 ha p.1;rw [e]at q;exact Uu hi hz p.2 q
theorem PD(hx:SqT K H a xs)(h:Cmp K (λH=>SqT K H a xs) (λi=>(xs[i]?).getD .non) xs.length cs tt te H Q)(ha:H acc=none):Y2 (Itt K a) 1 cs (Q7 0) (upT tt) (up te) H acc (λH'=>Q (.ref acc) H'):=by
 cases h with
 | s R G U hz J L=>
  refine Ux (xs:=xs) (λi ys H'=>H' acc=some (.lst ys)/\Same H H'/\R i ys H'/\ys.length<=i) ⟨Qb,Qd ha _,G _ (Qd ha _),bE _⟩ (λi ys H1 _ p=>p.2.1.seqT hx) (λi x ys H1 hi e p=>?_) λys H1 p=>L acc ys H1 p.2.1 p.1 p.2.2.1;have q:=J i ys H1 hi p.2.2.2 p.2.1 p.2.2.1;rw [e]at q;exact Jq hi hz ha U p.1 p.2.2.2 p.2.1 q
 | m R hz G M J L=>
  refine Ux (xs:=xs) (λi ys H'=>R acc i ys H'/\ys.length<=i) ⟨G acc _ ha (Qd ha _) Qb,bE _⟩ (λi ys H1 _ p=>M acc i ys H1 p.1) (λi x ys H1 hi e p=>?_) λys H1 p=>L acc ys H1 ha p.1;have q:=J acc i ys H1 hi p.2 ha p.1;rw [e]at q;exact Uu hi hz p.2 q
end
structure Tb where
 N:List Str
 sc:Scope
 fn:List Str
 mt:List Str
 nk:List (Expr->Option (List Expr))
 sk:List (Stmt->Option (List Expr))
def Te(sc:Scope)(x:Str):Bool:=match sc.names.lookup x with
 | some .local=>true
 | some .cell=>true
 | some .free=>true
 | _=>false
def S0(sc:Scope)(x:Str):Bool:=match sc.names.lookup x with
 | some .local=>true
 | some .cell=>true
 | _=>false
def glB(sc:Scope)(x:Str):Bool:=match sc.names.lookup x with
 | some .globalImplicit=>true
 | _=>false
def ndB(x:Str):Bool:=!(x==("__debug__":Str))&& !(x==("__classdict__":Str))
def Ax:Const->V->Bool
 | .int i,.int j=>decide (i=j)
 | .str i,.str j=>decide (i=j)
 | .bool i,.bl j=>decide (i=j)
 | .none,.non=>true
 | _,_=>false
def Ss(scope sc:Scope):Scope:={ scope with names:=scope.names.map λ(n,k)=>if(k==NameKind.free&&sc.kind== .function&&sc.names.lookup n==some .cell)then(n,NameKind.cell)else(n,k) }
def inn(T:Tb)(x:Str)(scope:Scope):Tb:=⟨x::Zf scope.names,Ss scope T.sc,T.fn,T.mt,T.nk,T.sk⟩
def UQ(T:Tb)(cap:List Nat)(x:Str)(scope:Scope):Bool:=
 decide (scope.kind=.function)&&decide (T.sc.kind=.function)&&decide (cap.map (λj=>T.N[j]?)=(Zf scope.names).map some)&&decide (∀z∈scope.names,z.2≠.cell)&&decide (∀y∈scope.names,y.2=.local->scope.names.lookup y.1=some .local)
  &&decide (scope.names.lookup x=some .local)&&decide ((x::Zf scope.names).Nodup)&&decide (∀y∈Zf scope.names,scope.names.lookup y=some .free)&&decide (∀y∈Zf scope.names,T.sc.names.lookup y=some .cell)
def Pq:Expr->Bool
 | .Call _ _ _ _=>false
 | _=>true
structure Vw where
 t:Nat
 x:Str
 a:Expr
 b:Expr
 c:Expr
 l:List Expr
 p:Pos
 o:Operator
 q:CmpOp
 n:Const
 k:Nat
 s:Scope
def Vw.z:Vw:=⟨0,Str.empty,.Name Str.empty default,.Name Str.empty default,.Name Str.empty default,[],default,.Add,.Eq,.none,0,default⟩
def C0(a:Expr):List CmpOp->List Expr->Vw
 | [q],[b]=>{ Vw.z with t:=4,a:=a,q:=q,b:=b }
 | _,_=>Vw.z
def Cg(f:Expr):List Expr->List Keyword->Vw
 | a::l,[]=>match f with
  | .Name x p=>{ Vw.z with t:=8,x:=x,p:=p,a:=a,l:=l }
  | .Attribute b x p=>{ Vw.z with t:=15,b:=b,x:=x,p:=p,a:=a,l:=l }
  | _=>Vw.z
 | _,_=>Vw.z
def C8(a:Expr):UnaryOp->Vw
 | .Not=>{ Vw.z with t:=9,a:=a }
 | _=>Vw.z
def AE:BoolOp->List Expr->Vw
 | .And,a::b::l=>{ Vw.z with t:=10,a:=a,b:=b,l:=l }
 | .Or,a::b::l=>{ Vw.z with t:=11,a:=a,b:=b,l:=l }
 | _,_=>Vw.z
def vLc(a b:Expr)(s:Scope)(x:Str)(p:Pos):List Expr->Vw
 | []=>{ Vw.z with t:=13,a:=a,x:=x,p:=p,b:=b,s:=s }
 | [c]=>{ Vw.z with t:=14,a:=a,x:=x,p:=p,b:=b,c:=c,s:=s }
 | _=>Vw.z
def Cm(a:Expr)(s:Scope)(b:Expr)(ifs:List Expr)(g:Expr):Int->Vw
 | .ofNat 0=>match g with
  | .Name x p=>vLc a b s x p ifs
  | _=>Vw.z
 | _=>Vw.z
def vLs(a:Expr)(s:Scope):List Comprehension->Vw
 | [g]=>Cm a s g.iter g.ifs g.target g.is_async
 | _=>Vw.z
def vw:Expr->Vw
 | .Name x _=>{ Vw.z with t:=1,x:=x }
 | .Constant n k _=>{ Vw.z with t:=2,n:=n,k:=k }
 | .BinOp a o b _=>{ Vw.z with t:=3,a:=a,o:=o,b:=b }
 | .Compare a q b _=>C0 a q b
 | .Subscript a b _=>{ Vw.z with t:=5,a:=a,b:=b }
 | .Tuple l k _=>{ Vw.z with t:=6,l:=l,k:=k }
 | .List l _=>{ Vw.z with t:=7,l:=l }
 | .Call f l k _=>Cg f l k
 | .UnaryOp o a _=>C8 a o
 | .BoolOp o l _=>AE o l
 | .IfExp a b c _=>{ Vw.z with t:=12,a:=a,b:=b,c:=c }
 | .ListComp a g s _=>vLs a s g
 | _=>Vw.z
def reb(v:Vw)(p:Pos):Nat->Expr
 | 1=>.Name v.x p
 | 2=>.Constant v.n v.k p
 | 3=>.BinOp v.a v.o v.b p
 | 4=>.Compare v.a [v.q] [v.b] p
 | 5=>.Subscript v.a v.b p
 | 6=>.Tuple v.l v.k p
 | 7=>.List v.l p
 | 8=>.Call (.Name v.x v.p) (v.a::v.l) [] p
 | 9=>.UnaryOp .Not v.a p
 | 10=>.BoolOp .And (v.a::v.b::v.l) p
 | 11=>.BoolOp .Or (v.a::v.b::v.l) p
 | 12=>.IfExp v.a v.b v.c p
 | 13=>.ListComp v.a [⟨.Name v.x v.p,v.b,[],0⟩] v.s p
 | 14=>.ListComp v.a [⟨.Name v.x v.p,v.b,[v.c],0⟩] v.s p
 | 15=>.Call (.Attribute v.b v.x v.p) (v.a::v.l) [] p
 | _=>.Name v.x p
def Vok(v:Vw)(e:Expr):Prop:=v.t=0\/reb v e.pos v.t=e
theorem vw_eq(e:Expr):Vok (vw e) e:=by
 cases e with
 | Compare a q b p=>
  rcases q with _ | ⟨_,_ | ⟨_,_⟩⟩
  .exact .inl rfl
  .rcases b with _ | ⟨_,_ | ⟨_,_⟩⟩<;>first | exact .inr rfl | exact .inl rfl
  .exact .inl rfl
 | Call f l k p=>
  cases l with
  | nil=>exact .inl rfl
  | cons a l=>cases k with
   | nil=>cases f<;>first | exact .inr rfl | exact .inl rfl
   | cons _ _=>exact .inl rfl
 | UnaryOp o a p=>cases o<;>first | exact .inr rfl | exact .inl rfl
 | BoolOp o l p=>cases o<;>rcases l with _ | ⟨_,_ | ⟨_,_⟩⟩<;>first | exact .inr rfl | exact .inl rfl
 | ListComp a g s p=>
  rcases g with _ | ⟨⟨g,b,l,i⟩,_ | ⟨_,_⟩⟩
  .exact .inl rfl
  .rcases i with(_ | i) | i
   .cases g with
    | Name x q=>rcases l with _ | ⟨_,_ | ⟨_,_⟩⟩<;>first | exact .inr rfl | exact .inl rfl
    | _=>exact .inl rfl
   .exact .inl rfl
   .exact .inl rfl
  .exact .inl rfl
 | _=>first | exact .inr rfl | exact .inl rfl
def is(e:Expr)(n:Nat):Bool:=Nat.beq (vw e).t n
theorem rb{P:Expr->Prop}{e:Expr}{n:Nat}(h:is e (n+1)=true)(k:P (reb (vw e) e.pos (n+1))):P e:=by
 have G:(vw e).t=n+1:=Nat.eq_of_beq_eq_true h;rcases vw_eq e with h0 | h0
 .rw [h0]at G;cases G
 .rw [G]at h0;exact Eq.subst (motive:=P) h0 k
def Mc(kd:Nat)(f:Expr->Bool)(T:Tb)(b:Expr):Bool:=match kd with
 | 0=>is b 8&&(decide ((vw b).x="range")&&glB T.sc (vw b).x&&(vw b).l.isEmpty&&f (vw b).a&&ord (vw b).a)
 | 1=>f b&&ord b
 | 2=>f b&&ord b
 | _=>false
def rest(op:BoolOp)(v:Vw)(p:Pos):Expr:=match v.l with
 | []=>v.b
 | _::_=>.BoolOp op (v.b::v.l) p
mutual
noncomputable def chk:C->Tb->Expr->Bool
 | .v i,T,e=>is e 1&&(decide (T.N[i]?=some (vw e).x)&&Te T.sc (vw e).x&&ndB (vw e).x)
 | .k x,_,e=>is e 2&&Ax (vw e).n x
 | .bin op a b,T,e=>is e 3&&(decide (op=(vw e).o)&&chk a T (vw e).a&&chk b T (vw e).b)
 | .cmp op a b,T,e=>is e 4&&(decide (op=(vw e).q)&&chk a T (vw e).a&&chk b T (vw e).b&& !(behindInMarks op (vw e).b))
 | .ix a b,T,e=>is e 5&&(chk a T (vw e).a&&chk b T (vw e).b&&ord (vw e).b)
 | .tup as,T,e=>is e 6&&YY as T (vw e).l
 | .lst as,T,e=>is e 7&&YY as T (vw e).l
 | .call i as,T,e=>is e 8&&(decide (T.fn[i]?=some (vw e).x)&&glB T.sc (vw e).x&&ndB (vw e).x&&YY as T ((vw e).a::(vw e).l))
 | .no a,T,e=>is e 9&&chk a T (vw e).a
 | .an a b,T,e=>is e 10&&(chk a T (vw e).a&&chk b T (rest .And (vw e) e.pos))
 | .oo a b,T,e=>is e 11&&(chk a T (vw e).a&&chk b T (rest .Or (vw e) e.pos))
 | .meth i o as,T,e=>is e 15&&(decide (T.mt[i]?=some (vw e).x)&&chk o T (vw e).b&&Pq (vw e).b&&YY as T ((vw e).a::(vw e).l)&&Nat.ble ((vw e).a::(vw e).l).length 19&&((vw e).p.endLine==e.pos.line))
 | .nd i as,T,e=>match T.nk[i]? with
  | some sh=>match sh e with
   | some es=>YY as T es
   | none=>false
  | none=>false
 | .iff c a b,T,e=>is e 12&&(chk c T (vw e).a&&chk a T (vw e).b&&chk b T (vw e).c)
 | .comp kd it cap elt,T,e=>is e 13&&(UQ T cap (vw e).x (vw e).s&&chk elt (inn T (vw e).x (vw e).s) (vw e).a&&Mc kd (chk it T) T (vw e).b)
 | .compI kd it cap cnd elt,T,e=>is e 14&&(UQ T cap (vw e).x (vw e).s&&chk elt (inn T (vw e).x (vw e).s) (vw e).a&&chk cnd (inn T (vw e).x (vw e).s) (vw e).c&&Mc kd (chk it T) T (vw e).b)
termination_by structural c=>c
noncomputable def YY:List C->Tb->List Expr->Bool
 | [],_,es=>es.isEmpty
 | a::r,T,es=>match es with
  | e::es=>ord e&&chk a T e&&YY r T es
  | []=>false
termination_by structural c=>c
end
theorem Tu{x:Str}(h:Te sc x=true):Vis sc x:=by
 unfold Te at h;split at h
 .exact .inl (by assumption)
 .exact .inr (.inl (by assumption))
 .exact .inr (.inr (by assumption))
 .cases h
theorem N4{x:Str}(h:S0 sc x=true):Loc sc x:=by
 unfold S0 at h;split at h
 .exact .inl (by assumption)
 .exact .inr (by assumption)
 .cases h
theorem OK{x:Str}(h:glB X.env.scope x=true):Gl X x:=by
 unfold glB at h;split at h
 .assumption
 .cases h
theorem YI{x:Str}(h:ndB x=true):(x==("__debug__":Str))=false/\(x==("__classdict__":Str))=false:=by
 unfold ndB at h;rw [bS]at h;exact⟨by simpa using h.1,by simpa using h.2⟩
theorem Wq{k:V->Prop}:∀{σ:St}{i:Nat},Ti σ i k->∃v,σ[i]?=some (some v)/\k v
 | [],_,h=>h.elim
 | none::_,0,h=>h.elim
 | some x::_,0,h=>⟨x,rfl,h⟩
 | none::r,n+1,h=>by rw [List.getElem?_cons_succ];exact Wq (σ:=r) (i:=n) h
 | some _::r,n+1,h=>by rw [List.getElem?_cons_succ];exact Wq (σ:=r) (i:=n) h
theorem ZK{x:V}:∀{σ:St}{i:Nat}{k:St->Prop},Wj σ i x k->k (σ.set i (some x))
 | [],_,_,h=>h.elim
 | _::_,0,_,h=>h
 | a::r,n+1,k,h=>ZK (σ:=r) (i:=n) (k:=λG=>k (a::G)) h
theorem Uz{x:V}{Q:Bool->Hp->Prop}(h:asB x H Q):∃b,x=.bl b/\Q b H:=by
 unfold asB at h;split at h
 .exact⟨_,rfl,h⟩
 .exact h.elim
theorem Mj{c:Bool}{A B:Prop}(h:cond c A B):if c=true then A else B:=by
 cases c with
 | true=>exact h
 | false=>exact h
theorem OM:∀{xs:List V}{n:Nat},MD xs n=true->xs.length<=n
 | [],_,_=>bE _
 | _::_,0,h=>nomatch h
 | _::r,n+1,h=>Nat.succ_le_succ (OM (xs:=r) h)
theorem O4{A:Prop}(h:cond (MD xs n) A False):xs.length<=n/\A:=by
 cases G:MD xs n with
 | false=>rw [G]at h;exact h.elim
 | true=>rw [G]at h;exact⟨OM G,h⟩
theorem WB{T:Tb}:∀(as:List C)(es:List Expr),YY as T es=true->es.all ord=true
 | [],[],_=>rfl
 | [],_::_,h=>nomatch h
 | _::_,[],h=>nomatch h
 | a::r,e::es,h=>by
  have h:(ord e&&chk a T e&&YY r T es)=true:=h;rw [bS,bS]at h;rw [ff,bS];exact⟨h.1.1,WB r _ h.2⟩
theorem BD{op:BoolOp}{t:TT}(h:PT X (.BoolOp op es pos) t):PW X (.BoolOp op es pos) t:=λ_ pins s σ H Q I q=>h pins s σ H Q I q
def ET(n:En)(c:C):TT:=λσ H Q=>E n c σ H λx H1=>asB x H1 Q
theorem Wu:∀{cap:List Nat}{σ:St},WP cap σ=Xo cap σ
 | [],_=>rfl
 | j::r,σ=>by rw [WP,Wu (cap:=r)];rfl
structure Fam(X X':Cx):Prop where
 p:X'.prog=X.prog
 w:X'.w=X.w
 K:X'.K=X.K
 m:X'.mg=X.mg
 b:X'.base=X.base
 A:X'.A=X.A
 c:X'.calm=X.calm
structure Fit(X:Cx)(T:Tb)(fs:List Rel)(ms:List Mr)(nr:List (List V->Hp->VK->Prop)):Prop where
 hN:T.N=X.N
 hs:T.sc=X.env.scope
 hf:∀X':Cx,Fam X X'->∀(i:Nat) x,T.fn[i]?=some x->∃r,fs[i]?=some r/\CallOk X' x r
 hm:∀X':Cx,Fam X X'->∀(i:Nat) x,T.mt[i]?=some x->∃r,ms[i]?=some r/\MethOk X' x r
 hn:∀X':Cx,Fam X X'->∀(i:Nat) sh,T.nk[i]?=some sh->∃r,nr[i]?=some r/\NodeOk X' sh r
 ca:X.calm=true
 rg:X.mg "range"=none
theorem Fit.inn{T:Tb}{fs:List Rel}{ms:List Mr}(F:Fit X T fs ms nr)(x:Str)(scope:Scope)(cl:List (Str×Addr))(C:Addr)(fp:List Addr)(s₀:Shared)(H₀:Hp):Fit (QH X ([x]++Zf scope.names) scope cl C fp s₀ H₀) (inn T x scope) fs ms nr:=
 ⟨rfl,by
  show Ss scope T.sc=relabel scope X.env;rw [F.hs];rfl,λG f=>F.hf G ⟨f.p,f.w,f.K,f.m,f.b,f.A,f.c⟩,λG f=>F.hm G ⟨f.p,f.w,f.K,f.m,f.b,f.A,f.c⟩,λG f=>F.hn G ⟨f.p,f.w,f.K,f.m,f.b,f.A,f.c⟩,F.ca,F.rg⟩
theorem La{T:Tb}{fs:List Rel}{ms:List Mr}(F:Fit X T fs ms nr){x:Str}(h:UQ T cap x scope=true)(has:∀y,X.env.scope.names.lookup y=some .cell->∃c,X.env.cells.lookup y=some c):∃cl,CompG X [x] (Zf scope.names) cap scope cl:=by
 unfold UQ at h;simp only [bS,decide_eq_true_eq]at h;obtain⟨⟨⟨⟨⟨⟨⟨⟨h1,h2⟩,J⟩,M⟩,U⟩,Y⟩,Z⟩,h8⟩,G⟩:=h;rw [F.hs]at h2 G;rw [F.hN]at J;obtain⟨cs,L⟩: ∃cs:List Addr,(Zf scope.names).map (λy=>X.env.cells.lookup y)=cs.map some:=by
  have:∀l:List Str,(∀y∈l,X.env.scope.names.lookup y=some .cell)->∃cs:List Addr,l.map (λy=>X.env.cells.lookup y)=cs.map some:=by
   intro l
   induction l with
   | nil=>exact λ_=>⟨[],rfl⟩
   | cons y r ih=>
    intro h;obtain⟨cs,e⟩:=ih λz hz=>h z (bR _ hz);obtain⟨c,ec⟩:=has y (h y aR);exact⟨c::cs,by rw [aS,e,ec];rfl⟩
  exact this _ G
 exact⟨_,CompG.many (xs:=[x]) (caps:=Zf scope.names) (cap:=cap) (cs:=cs) h1 h2 rfl M U (λz hz=>by rw [bJ.mp hz];exact Y) Z h8 (fJ λy hy=>G y hy) L J⟩
theorem pvT{t:TE}(h:PE X e t)(ht:tst e=true):PE X e t/\PT X e (λσ H Q=>t σ H λx H1=>asB x H1 Q):=⟨h,YD (QF (QW h) (L6 ht)) λσ H Q q=>⟨_,q,λx H1 q=>Uz q⟩⟩
theorem Wr{n:En}:∀(as:List C){σ:St}{H:Hp}{Q:List V->Hp->Prop},Es n as σ H Q↔Ga (as.map (E n)) σ H Q
 | [],σ,H,Q=>Iff.rfl
 | a::r,σ,H,Q=>by
  have:(λx H1=>Es n r σ H1 λxs H2=>Q (x::xs) H2)=λx H1=>Ga (r.map (E n)) σ H1 λxs H2=>Q (x::xs) H2:=by
   funext x H1
   exact propext (Wr r)
  show(E n a σ H λx H1=>Es n r σ H1 λxs H2=>Q (x::xs) H2)↔_;rw [this];exact Iff.rfl
theorem MU{α:Type}{l:List α}(h:l.isEmpty=true):l=[]:=by
 cases l with
 | nil=>rfl
 | cons _ _=>cases h
theorem OD{op:BoolOp}{v:Vw}{p:Pos}{t:TE}(h:PE X (rest op v p) t):PE X (.BoolOp op (v.b::v.l) p) t:=by
 obtain⟨_,_,_,b,_,l,_,_,_,_,_,_⟩:=v;cases l with
 | nil=>exact Nh h
 | cons _ _=>exact h
theorem SK{v:Vw}{p:Pos}{t:TT}(h:PT X (rest .And v p) t):PW X (.BoolOp .And (v.b::v.l) p) t:=by
 obtain⟨_,_,_,b,_,l,_,_,_,_,_,_⟩:=v;cases l with
 | nil=>exact pw_and1 h
 | cons _ _=>exact BD h
theorem Az{v:Vw}{p:Pos}{t:TT}(h:PT X (rest .Or v p) t):PW X (.BoolOp .Or (v.b::v.l) p) t:=by
 obtain⟨_,_,_,b,_,l,_,_,_,_,_,_⟩:=v;cases l with
 | nil=>exact pw_or1 h
 | cons _ _=>exact BD h
theorem b2{a b:Bool}(h:(a&&b)=true):a=true/\b=true:=by rwa [bS]at h
theorem JM{K:Fg}{m:Nat}{Q Q':VK}{it:Hp->Prop}(h:Cmp K it itm m cs tt te H Q)(k:∀x H,Q x H->Q' x H):Cmp K it itm m cs tt te H Q':=by
 cases h with
 | s R G M hz J L=>exact .s R G M hz J λp ys H1 g e r=>k _ _ (L p ys H1 g e r)
 | m R hz G U J L=>exact .m R hz G U J λp ys H1 g r=>k _ _ (L p ys H1 g r)
def ItR(X:Cx)(kd:Nat)(tit:TE)(tg b:Expr):Prop:=∃wi:TI,PI X tg b wi/\(∀x,foldedSetIterable b X.env x=pure x)/\∀cap tt te σ H (Q Q':VK),(∀x H,Q x H->Q' x H)->(tit σ H λx H1=>NK X.K kd x (WP cap σ) tt te H1 Q)->JK 1 wi cap (Q7 0) (upT tt) (up te) σ H Q'
theorem Sk{X:Cx}{T:Tb}{fs:List Rel}{ms:List Mr}{nr:List (List V->Hp->VK->Prop)}(F:Fit X T fs ms nr){kd:Nat}{f:Expr->Bool}{b tg:Expr}{tit:TE}(h:Mc kd f T b=true)(hf:∀e,f e=true->PE X e tit):ItR X kd tit tg b:=by
 match kd,h with
 | 0,h=>
  obtain⟨h0,h⟩:=b2 (show(is b 8&&_)=true from h);obtain⟨h,G⟩:=b2 h;obtain⟨h,J⟩:=b2 h;obtain⟨h,z5⟩:=b2 h;obtain⟨U,Y⟩:=b2 h;rw [F.hs,bM U]at Y;refine rb (P:=ItR X 0 tit tg) h0 ?_;show ItR X 0 tit tg (.Call (.Name (vw b).x (vw b).p) ((vw b).a::(vw b).l) [] b.pos);rw [bM U,MU z5];refine⟨_,Q3 (OK Y) F.rg (Qa (QW (hf _ J)) Qc (Zw G)) (Zw G),λ_=>rfl,λcap tt te σ H Q Z k q=>⟨_,q,λx H1 q=>?_⟩⟩;cases x with
  | int j=>
   obtain⟨hr,q⟩:=q;rw [Wu]at q;exact⟨j,rfl,hr.1,hr.2,λacc L=>ME (JM q k) L⟩
  | _=>exact False.elim q
 | 1,h=>
  obtain⟨J,G⟩:=b2 h;refine⟨_,QJ (QW (hf _ J)),Yf G,λcap tt te σ H Q Z k q=>⟨_,q,λx H1 q=>?_⟩⟩;cases x with
  | ref a=>
   cases q with
   | l xs M q=>
    rw [Wu]at q;exact⟨a,rfl,⟨xs,M⟩,λacc L=>O3 M (JM q k) L⟩
  | _=>exact False.elim q
 | 2,h=>
  obtain⟨J,G⟩:=b2 h;refine⟨_,YQ (QW (hf _ J)),Yf G,λcap tt te σ H Q Z k q=>⟨_,q,λx H1 q=>?_⟩⟩;cases x with
  | ref a=>
   cases q with
   | t xs M q=>
    rw [Wu]at q;exact⟨a,rfl,⟨xs,M⟩,λacc L=>PD M (JM q k) L⟩
  | _=>exact False.elim q
 | _+3,h=>exact nomatch h
theorem Sw{T:Tb}{fs:List Rel}{ms:List Mr}(F:Fit X T fs ms nr){f:Expr->Bool}{b:Expr}{x:Str}{p:Pos}(h1:UQ T cap x scope=true)(h:Mc kd f T b=true)(hf:∀e,f e=true->PE X e tit)
 (hel:∀cl C fp s₀ H₀,PE (QH X ([x]++Zf scope.names) scope cl C fp s₀ H₀) el te) (hc:∀cl C fp s₀ H₀,PF (QH X ([x]++Zf scope.names) scope cl C fp s₀ H₀) ifs tt):PE X (.ListComp el [⟨.Name x p,b,ifs,0⟩] scope pos) (λσ H Q=>tit σ H λv H1=>NK X.K kd v (WP cap σ) tt te H1 Q):=λpins s σ H Q I q=>by
 obtain⟨cl,O⟩:=La F h1 λy G=>I.ok.has y (.inl G);obtain⟨U,J,L,M⟩:=Sk F (tg:=.Name x p) h hf;exact QO O F.ca J (YZ O) (λC fp s₀ H₀=>Sl (hc cl C fp s₀ H₀)) (λC fp s₀ H₀=>QW (hel cl C fp s₀ H₀)) L pins s σ H Q I (M _ _ _ _ _ _ _ (λ_ _ q=>q) q)
theorem T2{c:Const}{x:V}{k:Nat}{p:Pos}(h:Ax c x=true):PE X (.Constant c k p) (λ_ H Q=>Q x H):=by
 unfold Ax at h;split at h
 .rw [bM h];exact Qh
 .rw [bM h];exact Zi
 .rw [bM h];exact ZN
 .exact T8
 .cases h
theorem rbE{t:TE}{u:TT}(h:is e (n+1)=true)(k:PE X (reb (vw e) e.pos (n+1)) t/\PT X (reb (vw e) e.pos (n+1)) u):PE X e t/\PT X e u:=rb (P:=λe=>PE X e t/\PT X e u) h k
theorem S5{m:Str}(h:Pq e=true):attributeBase e m env (eval e env)=eval e env:=by
 cases e<;>first | rfl | exact absurd (show false=true from h) aT
section
variable{fs:List Rel}{ms:List Mr}
mutual
theorem snb:∀(c:C){X:Cx}{T:Tb}(F:Fit X T fs ms nr)(e:Expr),chk c T e=true->PE X e (E ⟨X.K,fs,ms,nr,sr⟩ c)/\PT X e (ET ⟨X.K,fs,ms,nr,sr⟩ c)
 | .v i,X,T,F,e,h=>by
  obtain⟨G,h⟩:=b2 h;obtain⟨h,J⟩:=b2 h;obtain⟨h1,h2⟩:=b2 h;have h1:=bM h1;rw [F.hN]at h1;rw [F.hs]at h2;exact rbE G (pvT (Q8 (VL h1 (Tu h2) (YI J).1 (YI J).2) λσ H Q q=>Wq q) rfl)
 | .k x,X,T,F,e,h=>by
  obtain⟨G,h⟩:=b2 h;exact rbE G (pvT (T2 h) rfl)
 | .bin op a b,X,T,F,e,h=>by
  obtain⟨G,h⟩:=b2 h;obtain⟨h,J⟩:=b2 h;obtain⟨h1,h2⟩:=b2 h;refine rbE G ?_;show PE X (.BinOp (vw e).a (vw e).o (vw e).b e.pos) _/\PT X (.BinOp (vw e).a (vw e).o (vw e).b e.pos) _;rw [<-bM h1];exact pvT (QS (Dm op) (snb a F _ h2).1 (snb b F _ J).1) rfl
 | .cmp op a b,X,T,F,e,h=>by
  obtain⟨G,h⟩:=b2 h;obtain⟨h,M⟩:=b2 h;obtain⟨h,J⟩:=b2 h;obtain⟨h1,h2⟩:=b2 h;have M:behindInMarks op (vw e).b=false:=by simpa using M
  refine rbE G ?_;show PE X (.Compare (vw e).a [(vw e).q] [(vw e).b] e.pos) _/\PT X (.Compare (vw e).a [(vw e).q] [(vw e).b] e.pos) _;rw [<-bM h1];exact⟨Z8 (BP op) (snb a F _ h2).1 (snb b F _ J).1 M,YD (Qw (N9 (BP op)) (QW (snb a F _ h2).1) (QW (snb b F _ J).1) M) λσ H Q q=>⟨_,q,λx H1 q=>⟨_,q,λy H2 q=>⟨_,q,λz H3 q=>Uz q⟩⟩⟩⟩
 | .ix a b,X,T,F,e,h=>by
  obtain⟨G,h⟩:=b2 h;obtain⟨h,J⟩:=b2 h;obtain⟨h1,h2⟩:=b2 h;exact rbE G (pvT (Qk Da (snb a F _ h1).1 (snb b F _ h2).1 (OJ J)) rfl)
 | .tup L,X,T,F,e,h=>by
  obtain⟨G,h⟩:=b2 h;exact rbE G (pvT (Q8 (QE (Sn (Ny L F _ h))) λσ H Q q=>⟨_,q,λvs H1 q=>by
   obtain⟨hl,q⟩:=O4 q;exact⟨bT hl (12:),λp hp=>q.h p _ (Qd hp _) (SqT.of Qb) Qb⟩⟩) rfl)
 | .lst L,X,T,F,e,h=>by
  obtain⟨G,h⟩:=b2 h;exact rbE G (pvT (Q8 (Zs (Sn (Ny L F _ h))) λσ H Q q=>⟨_,q,λvs H1 q=>by
   obtain⟨hl,q⟩:=O4 q;exact⟨bT hl (12:),λp hp=>q.h p _ (Qd hp _) Qb hp⟩⟩) rfl)
 | .call i L,X,T,F,e,h=>by
  obtain⟨G,h⟩:=b2 h;obtain⟨h,M⟩:=b2 h;obtain⟨h,J⟩:=b2 h;obtain⟨h1,h2⟩:=b2 h;obtain⟨r,U,Y⟩:=F.hf X ⟨rfl,rfl,rfl,rfl,rfl,rfl,rfl⟩ _ _ (bM h1);rw [F.hs]at h2;have Z:=WB L _ M;rw [ff,bS]at Z;refine rbE G (pvT (Q8 (Y.ok (vw e).p e.pos _ _ _ (Ny L F _ M) (OK h2) (YI J).1 (Zw Z.1) (UB Z.2)) λσ H Q q=>?_) rfl);have q:Es ⟨X.K,fs,ms,nr,sr⟩ L σ H λvs H1=>match fs[i]? with | some r=>r σ vs H1 Q | none=>False:=q
  rw [U]at q;exact q
 | .no a,X,T,F,e,h=>by
  obtain⟨G,h⟩:=b2 h;exact rbE G ⟨Q8 (Os (QW (snb a F _ h).1)) λσ H Q q=>⟨_,q,λx H1 q=>Uz q⟩,Q1 (snb a F _ h).2⟩
 | .an a b,X,T,F,e,h=>by
  obtain⟨G,h⟩:=b2 h;obtain⟨h1,h2⟩:=b2 h;exact rbE G ⟨Q8 (NO (QW (snb a F _ h1).1) (OD (snb b F _ h2).1)) λσ H Q q=>⟨_,q,λx H1 q=>by
   obtain⟨c,e,q⟩:=Uz q;exact⟨c,e,Mj q⟩⟩,YD (PW.pt (pw_and (W1 (snb a F _ h1).2) (SK (snb b F _ h2).2))) λσ H Q q=>⟨_,q,λx H1 q=>Mj q⟩⟩
 | .oo a b,X,T,F,e,h=>by
  obtain⟨G,h⟩:=b2 h;obtain⟨h1,h2⟩:=b2 h;exact rbE G ⟨Q8 (A5 (QW (snb a F _ h1).1) (OD (snb b F _ h2).1)) λσ H Q q=>⟨_,q,λx H1 q=>by
   obtain⟨c,e,q⟩:=Uz q;exact⟨c,e,Mj q⟩⟩,YD (PW.pt (pw_or (W1 (snb a F _ h1).2) (Az (snb b F _ h2).2))) λσ H Q q=>⟨_,q,λx H1 q=>Mj q⟩⟩
 | .meth i o L,X,T,F,e,h=>by
  obtain⟨G,h⟩:=b2 h;obtain⟨h,h6⟩:=b2 h;obtain⟨h,Z⟩:=b2 h;obtain⟨h,M⟩:=b2 h;obtain⟨h,J⟩:=b2 h;obtain⟨h1,h2⟩:=b2 h;obtain⟨r,U,Y⟩:=F.hm X ⟨rfl,rfl,rfl,rfl,rfl,rfl,rfl⟩ _ _ (bM h1);refine rbE G (pvT (Q8 (Y.ok (vw e).b _ _ _ _ (vw e).p e.pos (QW (snb o F _ h2).1) (Ny L F _ M) (S5 J) (WB L _ M) (Nat.lt_succ_of_le (Nat.ble_eq.mp Z)) h6) λσ H Q q=>⟨_,q,λx H1 q=>?_⟩) rfl);have q:(match ms[i]? with | some m=>Cnd (m.ty x H1) (Es ⟨X.K,fs,ms,nr,sr⟩ L σ H1 λxs H2=>m.r x xs H2 Q) | none=>False):=q;rw [U]at q;exact⟨q.h,q.k⟩
 | .nd i L,X,T,F,e,h=>by
  have h:(match T.nk[i]? with
   | some sh=>match sh e with
    | some es=>YY L T es
    | none=>false
   | none=>false)=true:=h
  split at h
  .rename_i sh ae;obtain⟨r,U,Y⟩:=F.hn X ⟨rfl,rfl,rfl,rfl,rfl,rfl,rfl⟩ _ _ ae;split at h
   .rename_i es ad;refine⟨Q8 (Y.ok e es _ ad (Py L F _ h)) λσ H Q q=>?_,YD (Y.okT e es _ ad (Py L F _ h)) λσ H Q q=>?_⟩
    .have q:Es ⟨X.K,fs,ms,nr,sr⟩ L σ H λvs H1=>match nr[i]? with | some r=>r vs H1 Q | none=>False:=q
     rw [U]at q;exact(Wr L).mp q
    .have q:Es ⟨X.K,fs,ms,nr,sr⟩ L σ H λvs H1=>match nr[i]? with | some r=>r vs H1 (λx H2=>asB x H2 Q) | none=>False:=q
     rw [U]at q;exact(Wr L).mp q
   .cases h
  .cases h
 | .iff c a b,X,T,F,e,h=>by
  obtain⟨G,h⟩:=b2 h;obtain⟨h,J⟩:=b2 h;obtain⟨h1,h2⟩:=b2 h;refine rbE G ⟨Q8 (Pg (W1 (snb c F _ h1).2) (snb a F _ h2).1 (snb b F _ J).1) λσ H Q q=>⟨_,q,λx H1 q=>Mj q⟩,λpins s σ H Q I q=>?_⟩;refine PyProof.Rows.isTrue_IfExp (thn ((snb c F _ h1).2 pins s σ H _ I q) λd s1 ⟨H1,I1,q1⟩=>?_);cases d with
  | true=>exact(snb a F _ h2).2 pins s1 σ H1 _ I1 q1
  | false=>exact(snb b F _ J).2 pins s1 σ H1 _ I1 q1
 | .comp kd it cap aa,X,T,F,e,h=>by
  obtain⟨G,h⟩:=b2 h;obtain⟨h,J⟩:=b2 h;obtain⟨h1,h2⟩:=b2 h;exact rbE G (pvT (Sw F h1 J (λe h=>(snb it F e h).1) (λcl C fp ab ac=>(snb aa (F.inn _ _ cl C fp ab ac) _ h2).1) λ_ _ _ _ _=>Zn) rfl)
 | .compI kd it cap af aa,X,T,F,e,h=>by
  obtain⟨G,h⟩:=b2 h;obtain⟨h,J⟩:=b2 h;obtain⟨h,hc⟩:=b2 h;obtain⟨h1,h2⟩:=b2 h;exact rbE G (pvT (Sw F h1 J (λe h=>(snb it F e h).1) (λcl C fp ab ac=>(snb aa (F.inn _ _ cl C fp ab ac) _ h2).1) λcl C fp ab ac=>WC (snb af (F.inn _ _ cl C fp ab ac) _ hc).2) rfl)
theorem Ny:∀(as:List C){X:Cx}{T:Tb}(F:Fit X T fs ms nr)(es:List Expr),YY as T es=true->PA X es (Es ⟨X.K,fs,ms,nr,sr⟩ as)
 | [],X,T,F,[],h=>Qc
 | [],_,_,_,_::_,h=>nomatch h
 | _::_,_,_,_,[],h=>nomatch h
 | a::r,X,T,F,e::es,h=>by
  obtain⟨h,G⟩:=b2 (show(ord e&&chk a T e&&YY r T es)=true from h);obtain⟨h1,h2⟩:=b2 h;exact Qa (snb a F _ h2).1 (Ny r F _ G) (Zw h1)
theorem Py:∀(as:List C){X:Cx}{T:Tb}(F:Fit X T fs ms nr)(es:List Expr),YY as T es=true->PEs X es (as.map (E ⟨X.K,fs,ms,nr,sr⟩))
 | [],X,T,F,[],h=>.nil
 | [],_,_,_,_::_,h=>nomatch h
 | _::_,_,_,_,[],h=>nomatch h
 | a::r,X,T,F,e::es,h=>by
  obtain⟨h,G⟩:=b2 (show(ord e&&chk a T e&&YY r T es)=true from h);exact .cons (snb a F _ (b2 h).2).1 (Py r F _ G)
end
theorem snd(c:C){X:Cx}{T:Tb}(F:Fit X T fs ms nr)(e:Expr)(h:chk c T e=true):PE X e (E ⟨X.K,fs,ms,nr,sr⟩ c):=(snb c F e h).1
theorem snt(c:C){T:Tb}(F:Fit X T fs ms nr)(e:Expr)(h:chk c T e=true):PT X e (ET ⟨X.K,fs,ms,nr,sr⟩ c):=(snb c F e h).2
end
inductive S where
 | set (i:Nat) (c:C) | ret (c:C) | ex (c:C) | ite (c:C) (a b:List S)
 | forR (i:Nat) (c:C) (b:List S) | forL (i:Nat) (c:C) (b:List S) | forT (i:Nat) (c:C) (b:List S)
 | setC (i:Nat) (c:C) | cut (s:S) | unp (is:List Nat) (c:C)
 | wh (c:C) (b:List S) | forU (is:List Nat) (c:C) (b:List S) | sx (i:Nat) (as:List C)
inductive ForR(i m:Nat)(tb:TS)(D:Ends)(σ:St)(H:Hp):Prop where
 | f (Pv:Nat->St->Hp->Prop) (h0:Pv 0 σ H) (hs:∀j σ H,j<m->Pv j σ H->Wj σ i (.int (j:Int)) λσ2=>tb { D with nx:=Pv (j+1),ct:=Pv (j+1),bk:=D.nx } σ2 H) (hd:∀σ H,Pv m σ H->D.nx σ H):ForR i m tb D σ H
inductive ForL(K:Fg)(i:Nat)(a:Addr)(tb:TS)(D:Ends)(σ:St)(H:Hp):Prop where
 | f (xs:List V) (Pv:Nat->St->Hp->Prop) (h0:Pv 0 σ H) (hl:∀j σ H,j<=xs.length->Pv j σ H->SqL K H a xs) (hs:∀j x σ H,xs[j]?=some x->Pv j σ H->Wj σ i x λσ2=>tb { D with nx:=Pv (j+1),ct:=Pv (j+1),bk:=D.nx } σ2 H) (hd:∀σ H,Pv xs.length σ H->D.nx σ H):ForL K i a tb D σ H
inductive ForT(K:Fg)(i:Nat)(a:Addr)(tb:TS)(D:Ends)(σ:St)(H:Hp):Prop where
 | f (xs:List V) (Pv:Nat->St->Hp->Prop) (h0:Pv 0 σ H) (hl:∀j σ H,j<=xs.length->Pv j σ H->SqT K H a xs) (hs:∀j x σ H,xs[j]?=some x->Pv j σ H->Wj σ i x λσ2=>tb { D with nx:=Pv (j+1),ct:=Pv (j+1),bk:=D.nx } σ2 H) (hd:∀σ H,Pv xs.length σ H->D.nx σ H):ForT K i a tb D σ H
inductive Cut(t:TS)(D:Ends)(σ:St)(H:Hp):Prop where
 | c (R:St->Hp->Prop) (h:t { D with nx:=R } σ H) (k:∀σ' H',R σ' H'->D.nx σ' H'):Cut t D σ H
def WY:St->List Nat->List V->(St->Prop)->Prop
 | σ,[],[],k=>k σ
 | σ,i::is,x::xs,k=>Wj σ i x λσ'=>WY σ' is xs k
 | _,_,_,_=>False
inductive Unp(K:Fg)(a:Addr)(is:List Nat)(σ:St)(H:Hp)(k:St->Hp->Prop):Prop where
 | u (xs:List V) (h:SqT K H a xs) (q:WY σ is xs λσ'=>k σ' H):Unp K a is σ H k
inductive Wh(c:TT)(tb:TS)(D:Ends)(σ:St)(H:Hp):Prop where
 | w (J:Nat->St->Hp->Prop) (m:Nat) (h0:J m σ H) (hs:∀m σ H,J m σ H->c σ H λb H1=>cond b (tb { D with nx:=λσ' H'=>∃m'<m,J m' σ' H',ct:=λσ' H'=>∃m'<m,J m' σ' H',bk:=D.nx } σ H1) (D.nx σ H1)):Wh c tb D σ H
inductive ForU(K:Fg)(is:List Nat)(a:Addr)(tb:TS)(D:Ends)(σ:St)(H:Hp):Prop where
 | f (xs:List V) (Pv:Nat->St->Hp->Prop) (h0:Pv 0 σ H) (hl:∀j σ H,j<=xs.length->Pv j σ H->SqL K H a xs) (hs:∀j x σ H,xs[j]?=some x->Pv j σ H->∃b ys,x=.ref b/\SqT K H b ys/\WY σ is ys λσ2=>tb { D with nx:=Pv (j+1),ct:=Pv (j+1),bk:=D.nx } σ2 H) (hd:∀σ H,Pv xs.length σ H->D.nx σ H):ForU K is a tb D σ H
mutual
noncomputable def E1(n:En):S->TS
 | .set i c=>λD σ H=>E n c σ H λx H1=>Wj σ i x λσ'=>D.nx σ' H1
 | .ret c=>λD σ H=>E n c σ H D.rt
 | .ex c=>λD σ H=>E n c σ H λ_ H1=>D.nx σ H1
 | .ite c a b=>λD σ H=>ET n c σ H λt H1=>cond t (ES n a D σ H1) (ES n b D σ H1)
 | .forR i c b=>λD σ H=>E n c σ H λx H1=>match x with | .int j=>Cnd (Ce j) (ForR i j.toNat (ES n b) D σ H1) | _=>False
 | .forL i c b=>λD σ H=>E n c σ H λx H1=>match x with | .ref a=>ForL n.K i a (ES n b) D σ H1 | _=>False
 | .forT i c b=>λD σ H=>E n c σ H λx H1=>match x with | .ref a=>ForT n.K i a (ES n b) D σ H1 | _=>False
 | .cut s=>λD σ H=>Cut (E1 n s) D σ H
 | .unp is c=>λD σ H=>E n c σ H λx H1=>match x with | .ref a=>Unp n.K a is σ H1 D.nx | _=>False
 | .wh c b=>λD σ H=>Wh (ET n c) (ES n b) D σ H
 | .forU is c b=>λD σ H=>E n c σ H λx H1=>match x with | .ref a=>ForU n.K is a (ES n b) D σ H1 | _=>False
 | .sx i as=>λD σ H=>Es n as σ H λvs H1=>match n.sr[i]? with | some r=>r σ vs H1 D.nx | none=>False
 | .setC i c=>λD σ H=>E n c σ H λx H1=>Wj σ i x λσ'=>D.nx σ' H1
termination_by structural c=>c
noncomputable def ES(n:En):List S->TS
 | []=>λD σ H=>D.nx σ H
 | s::r=>λD σ H=>E1 n s { D with nx:=ES n r D } σ H
termination_by structural c=>c
end
structure Vs where
 t:Nat
 x:Str
 p:Pos
 a:Expr
 l:List Expr
 k:Nat
 b:List Stmt
 c:List Stmt
def Vs.z:Vs:=⟨0,Str.empty,default,.Name Str.empty default,[],0,[],[]⟩
def Dh(a:Expr):List Expr->Vs
 | [g]=>match g with
  | .Name x p=>{ Vs.z with t:=1,x:=x,p:=p,a:=a }
  | .Tuple l k p=>{ Vs.z with t:=6,l:=l,k:=k,p:=p,a:=a }
  | _=>Vs.z
 | _=>Vs.z
def Dp:Option Expr->Vs
 | some a=>{ Vs.z with t:=2,a:=a }
 | none=>Vs.z
def CJ(g a:Expr)(b:List Stmt):List Stmt->Vs
 | []=>match g with
  | .Name x p=>{ Vs.z with t:=5,x:=x,p:=p,a:=a,b:=b }
  | .Tuple l k p=>{ Vs.z with t:=8,l:=l,k:=k,p:=p,a:=a,b:=b }
  | _=>Vs.z
 | _=>Vs.z
def sWh(a:Expr)(b:List Stmt):List Stmt->Vs
 | []=>{ Vs.z with t:=7,a:=a,b:=b }
 | _=>Vs.z
def vs:Stmt->Vs
 | .Assign g a _=>Dh a g
 | .Return a _=>Dp a
 | .Expr a _=>{ Vs.z with t:=3,a:=a }
 | .If a b c _=>{ Vs.z with t:=4,a:=a,b:=b,c:=c }
 | .For g a b c _=>CJ g a b c
 | .While a b c _=>sWh a b c
 | _=>Vs.z
def BE(v:Vs)(p:Pos):Nat->Stmt
 | 1=>.Assign [.Name v.x v.p] v.a p
 | 2=>.Return (some v.a) p
 | 3=>.Expr v.a p
 | 4=>.If v.a v.b v.c p
 | 5=>.For (.Name v.x v.p) v.a v.b [] p
 | 6=>.Assign [.Tuple v.l v.k v.p] v.a p
 | 7=>.While v.a v.b [] p
 | 8=>.For (.Tuple v.l v.k v.p) v.a v.b [] p
 | _=>.Pass p
theorem vs_eq(s:Stmt):(vs s).t=0\/∃p,BE (vs s) p (vs s).t=s:=by
 cases s with
 | Assign g a p=>
  rcases g with _ | ⟨g,_ | ⟨_,_⟩⟩
  .exact .inl rfl
  .cases g<;>first | exact .inr ⟨_,rfl⟩ | exact .inl rfl
  .exact .inl rfl
 | Return a p=>cases a<;>first | exact .inr ⟨_,rfl⟩ | exact .inl rfl
 | For g a b c p=>
  cases c with
  | nil=>cases g<;>first | exact .inr ⟨_,rfl⟩ | exact .inl rfl
  | cons _ _=>exact .inl rfl
 | While a b c p=>cases c<;>first | exact .inr ⟨_,rfl⟩ | exact .inl rfl
 | _=>first | exact .inr ⟨_,rfl⟩ | exact .inl rfl
def isS(s:Stmt)(n:Nat):Bool:=Nat.beq (vs s).t n
theorem rbS{X:Cx}{t:TS}{s:Stmt}{n:Nat}(h:isS s (n+1)=true)(k:∀p,PS X (BE (vs s) p (n+1)) t):PS X s t:=by
 have J:(vs s).t=n+1:=Nat.eq_of_beq_eq_true h;rcases vs_eq s with G | ⟨p,G⟩
 .rw [G]at J;cases J
 .rw [J]at G;exact Eq.subst (motive:=λs=>PS X s t) G (k p)
def tgB(T:Tb)(i:Nat)(x:Str):Bool:=decide (T.N[i]?=some x)&&S0 T.sc x
def chN(T:Tb):List Nat->List Expr->Bool
 | [],es=>es.isEmpty
 | i::is,es=>match es with
  | e::es=>G3.is e 1&&tgB T i (vw e).x&&chN T is es
  | []=>false
def SD:Expr->Bool
 | .Tuple _ _ _=>false
 | _=>true
def VE:C->Bool
 | .comp _ _ _ _=>true
 | .compI _ _ _ _ _=>true
 | _=>false
mutual
noncomputable def ch1(T:Tb):S->Stmt->Bool
 | .set i c,s=>isS s 1&&(tgB T i (vs s).x&&chk c T (vs s).a&&osw (vs s).a)
 | .ret c,s=>isS s 2&&chk c T (vs s).a
 | .ex c,s=>isS s 3&&(chk c T (vs s).a&&osw (vs s).a)
 | .ite c a b,s=>isS s 4&&(chk c T (vs s).a&&chS T a (vs s).b&&chS T b (vs s).c)
 | .forR i c b,s=>isS s 5&&(tgB T i (vs s).x&&Mc 0 (chk c T) T (vs s).a&&chS T b (vs s).b)
 | .forL i c b,s=>isS s 5&&(tgB T i (vs s).x&&(chk c T (vs s).a&&ord (vs s).a)&&chS T b (vs s).b)
 | .forT i c b,s=>isS s 5&&(tgB T i (vs s).x&&(chk c T (vs s).a&&ord (vs s).a)&&chS T b (vs s).b)
 | .cut a,s=>ch1 T a s
 | .unp is c,s=>isS s 6&&(chN T is (vs s).l&&chk c T (vs s).a&&SD (vs s).a)
 | .wh c b,s=>isS s 7&&(chk c T (vs s).a&&chS T b (vs s).b)
 | .forU is c b,s=>isS s 8&&(chN T is (vs s).l&&(chk c T (vs s).a&&ord (vs s).a)&&chS T b (vs s).b)
 | .sx i as,s=>match T.sk[i]? with
  | some sh=>match sh s with
   | some es=>YY as T es
   | none=>false
  | none=>false
 | .setC i c,s=>isS s 1&&(VE c&&(decide (T.N[i]?=some (vs s).x)&&decide (T.sc.names.lookup (vs s).x=some .local)&&chk c T (vs s).a&&((vs s).p.line==(vs s).a.pos.line)&& !((vw (vs s).a).s.names.any λz=>z.1==(vs s).x&&(z.2== .local||z.2== .cell))))
termination_by structural c=>c
noncomputable def chS(T:Tb):List S->List Stmt->Bool
 | [],ss=>ss.isEmpty
 | a::r,ss=>match ss with
  | s::ss=>ch1 T a s&&chS T r ss
  | []=>false
termination_by structural c=>c
end
theorem Zu{X:Cx}{s:Stmt}{t u:TS}(h:PS X s t)(k:∀D σ H,u D σ H->t D σ H):PS X s u:=λpins s σ H D I q=>h pins s σ H D I (k D σ H q)
structure SNodeOk(X:Cx)(sh:Stmt->Option (List Expr))(r:St->List V->Hp->(St->Hp->Prop)->Prop):Prop where
 ok:∀(s:Stmt)(es:List Expr)(ts:List TE),sh s=some es->PEs X es ts->PS X s (λD σ H=>Ga ts σ H λvs H1=>r σ vs H1 D.nx)
structure FitS(X:Cx)(T:Tb)(fs:List Rel)(ms:List Mr)(nr:List (List V->Hp->VK->Prop))(sr:List (St->List V->Hp->(St->Hp->Prop)->Prop)):Prop where
 f:Fit X T fs ms nr
 nd:X.N.Nodup
 fn:∀x,X.fn x=true
 po:PassesOwn (6:) X.A X.env X.xe
 hx:∀(i:Nat) sh,T.sk[i]?=some sh->∃r,sr[i]?=some r/\SNodeOk X sh r
theorem BG{T:Tb}{fs:List Rel}{ms:List Mr}(F:Fit X T fs ms nr){x y:Str}{gs:List Comprehension}{sp:Pos}(h:UQ T cap x scope=true)(h2:T.sc.names.lookup y=some .local)(h3:(py.line==pos.line)=true)(h4:(!(scope.names.any λz=>z.1==y&&(z.2== .local||z.2== .cell)))=true):
 swapsWith (.ListComp el gs scope pos) (some (.Name y py)) sp.line X.env=pure true:=by
 unfold UQ at h;simp only [bS,decide_eq_true_eq]at h;have G:T.sc.kind=.function:=h.1.1.1.1.1.1.1.2;rw [F.hs]at G h2;have J:X.env.blockKind=.function:=by unfold Env.blockKind;rw [G];rfl
 show(pure (X.env.blockKind== .function&&X.env.kindOf y==some .local&&py.line==pos.line&& !(scope.names.any λz=>z.1==y&&(z.2== .local||z.2== .cell))):Sem Bool)=pure true;rw [J,h3,h4,show X.env.kindOf y=some .local from h2]
 rfl
def gsN:List Nat->TGs
 | []=>Mb
 | i::is=>YL (Q7 i) (gsN is)
theorem X6{H:Hp}{k:St->Hp->Prop}:∀{is:List Nat}{xs:List V}{σ:St},(WY σ is xs λσ'=>k σ' H)->gsN is xs σ H k
 | [],[],σ,h=>⟨rfl,h⟩
 | i::is,x::xs,σ,h=>⟨x,xs,rfl,X6 (is:=is) (xs:=xs) (ZK h)⟩
 | [],_::_,_,h=>h.elim
 | _::_,[],_,h=>h.elim
theorem JP{k:St->Prop}:∀{is:List Nat}{xs:List V}{σ:St},WY σ is xs k->xs.length=is.length
 | [],[],σ,h=>rfl
 | i::is,x::xs,σ,h=>congrArg (· +1) (JP (is:=is) (xs:=xs) (ZK h))
 | [],_::_,_,h=>h.elim
 | _::_,[],_,h=>h.elim
theorem NQ{l:List Expr}{k n:Nat}{p:Pos}{e:Expr}{env:Env}(h:SD e=true):swapsWithSole [.Tuple l k p] e n env=pure false/\swappedStores [.Tuple l k p] e env=pure none:=by
 cases e<;>first | exact⟨rfl,rfl⟩ | exact absurd (show false=true from h) aT
theorem SR:∀{c:C},VE c=true->(∃kd it cap elt,c=.comp kd it cap elt)\/∃kd it cap cnd elt,c=.compI kd it cap cnd elt:=λ{c} h=>by
 cases c<;>first | exact .inl ⟨_,_,_,_,rfl⟩ | exact .inr ⟨_,_,_,_,_,rfl⟩ | exact nomatch h
section
variable{T:Tb}{fs:List Rel}{ms:List Mr}(F:FitS X T fs ms nr sr)
include F
theorem GG{x:Str}(h:tgB T i x=true):PG X (.Name x pos) (Q7 i):=by
 obtain⟨h1,h2⟩:=b2 h;have h1:=bM h1;rw [F.f.hN]at h1;rw [F.f.hs]at h2;exact Qq F.nd h1 (N4 h2) (.inl (F.fn x))
theorem Xg:∀(is:List Nat)(es:List Expr),chN T is es=true->PGs X es (gsN is)/\(assignEach es X.env).length=is.length/\(assignEach es X.env).findIdx? (·.1)=none
 | [],[],_=>⟨Za,rfl,rfl⟩
 | i::is,e::es,h=>by
  obtain⟨h,G⟩:=b2 (show(G3.is e 1&&tgB T i (vw e).x&&chN T is es)=true from h);obtain⟨h1,h2⟩:=b2 h;obtain⟨J,L,M⟩:=Xg is es G;refine rb (P:=λe=>PGs X (e::es) (gsN (i::is))/\(assignEach (e::es) X.env).length=(i::is).length/\(assignEach (e::es) X.env).findIdx? (·.1)=none) h1 ⟨Qv (GG F h2) J rfl,?_,?_⟩
  .show(assignEach es X.env).length+1=is.length+1;rw [L]
  .show((false,assign (.Name (vw e).x e.pos) X.env)::assignEach es X.env).findIdx? (·.1)=none;rw [List.findIdx?_cons];simp [M]
 | [],_::_,h=>nomatch h
 | _::_,[],h=>nomatch h
theorem Lg{f:Expr->Bool}{b:Expr}{x y:Str}{p sp:Pos}(y1:decide (T.N[i]?=some y)=true)(y2:decide (T.sc.names.lookup y=some .local)=true)(y3:(py.line==pos.line)=true)(y4:(!(scope.names.any λz=>z.1==y&&(z.2== .local||z.2== .cell)))=true)(h1:UQ T cap x scope=true)(h:Mc kd f T b=true)(hf:∀e,f e=true->PE X e tit)
 (hel:∀cl C fp s₀ H₀,PE (QH X ([x]++Zf scope.names) scope cl C fp s₀ H₀) el te) (hc:∀cl C fp s₀ H₀,PF (QH X ([x]++Zf scope.names) scope cl C fp s₀ H₀) ifs tt):PS X (.Assign [.Name y py] (.ListComp el [⟨.Name x p,b,ifs,0⟩] scope pos) sp) (λD σ H=>tit σ H λv H1=>NK X.K kd v (WP cap σ) tt te H1 λx H1=>Wj σ i x λσ'=>D.nx σ' H1):=λpins s σ H D I q=>by
 have y1:=bM y1;have y2:=bM y2;have G:=y2;rw [F.f.hN]at y1;rw [F.f.hs]at G;obtain⟨cl,O⟩:=La F.f h1 λy J=>I.ok.has y (.inl J);obtain⟨Y,L,M,U⟩:=Sk F.f (tg:=.Name x p) h hf;exact Jb O F.f.ca L (YZ O) (λC fp s₀ H₀=>Sl (hc cl C fp s₀ H₀)) (λC fp s₀ H₀=>QW (hel cl C fp s₀ H₀)) F.nd y1 G (BG F.f h1 y2 y3 y4) M pins s σ H D I (U _ _ _ _ _ _ _ (λ_ _ q=>ZK q) q)
theorem Rz{c:C}{y:Str}{sp:Pos}(hk:VE c=true)(y1:decide (T.N[i]?=some y)=true)(y2:decide (T.sc.names.lookup y=some .local)=true)(h:chk c T e=true)(y3:(py.line==e.pos.line)=true)(y4:(!((vw e).s.names.any λz=>z.1==y&&(z.2== .local||z.2== .cell)))=true):PS X (.Assign [.Name y py] e sp) (E1 ⟨X.K,fs,ms,nr,sr⟩ (.setC i c)):=by
 rcases SR hk with⟨U,it,cap,G,rfl⟩ | ⟨U,it,cap,M,G,rfl⟩
 .obtain⟨Y,h⟩:=b2 h;obtain⟨h,Z⟩:=b2 h;obtain⟨h1,h2⟩:=b2 h;exact rb (P:=λe=>PS X (.Assign [.Name y py] e sp) (E1 ⟨X.K,fs,ms,nr,sr⟩ (.setC i (.comp U it cap G)))) Y (Lg F y1 y2 y3 y4 h1 Z (λe h=>snd (sr:=sr) it F.f e h) (λcl C fp J L=>snd (sr:=sr) G (F.f.inn _ _ cl C fp J L) _ h2) λ_ _ _ _ _=>Zn)
 .obtain⟨Y,h⟩:=b2 h;obtain⟨h,Z⟩:=b2 h;obtain⟨h,hc⟩:=b2 h;obtain⟨h1,h2⟩:=b2 h;exact rb (P:=λe=>PS X (.Assign [.Name y py] e sp) (E1 ⟨X.K,fs,ms,nr,sr⟩ (.setC i (.compI U it cap M G)))) Y (Lg F y1 y2 y3 y4 h1 Z (λe h=>snd (sr:=sr) it F.f e h) (λcl C fp J L=>snd (sr:=sr) G (F.f.inn _ _ cl C fp J L) _ h2) λcl C fp J L=>WC (snt (sr:=sr) M (F.f.inn _ _ cl C fp J L) _ hc))
mutual
theorem sn1:∀(c:S)(s:Stmt),ch1 T c s=true->PS X s (E1 ⟨X.K,fs,ms,nr,sr⟩ c)
 | .set i c,s,h=>by
  obtain⟨G,h⟩:=b2 h;obtain⟨h,M⟩:=b2 h;obtain⟨h,h2⟩:=b2 h;obtain⟨h1,h4⟩:=b2 h;have h1:=bM h1;rw [F.f.hN]at h1;rw [F.f.hs]at h4;exact rbS G λp=>Zu (Qz F.nd h1 (N4 h4) (QW (snd (sr:=sr) c F.f _ h2)) (Vg M) (.inl (F.fn _))) λD σ H q=>⟨_,q,λx H1 q=>ZK q⟩
 | .ret c,s,h=>by
  obtain⟨G,h⟩:=b2 h;exact rbS G λp=>Qn (snd (sr:=sr) c F.f _ h)
 | .ex c,s,h=>by
  obtain⟨G,h⟩:=b2 h;obtain⟨h1,h2⟩:=b2 h;exact rbS G λp=>Zc (snd (sr:=sr) c F.f _ h1) (Vg h2)
 | .ite c a b,s,h=>by
  obtain⟨G,h⟩:=b2 h;obtain⟨h,M⟩:=b2 h;obtain⟨h1,h2⟩:=b2 h;exact rbS G λp=>Zu (QM (W1 (snt (sr:=sr) c F.f _ h1)) (snS a _ h2) (snS b _ M)) λD σ H q=>⟨_,q,λx H1 q=>Mj q⟩
 | .forR i c b,s,h=>by
  obtain⟨G,h⟩:=b2 h;obtain⟨h,h7⟩:=b2 h;obtain⟨h1,h⟩:=b2 h;obtain⟨h2,h⟩:=b2 (show(is (vs s).a 8&&_)=true from h);obtain⟨h,L⟩:=b2 h;obtain⟨h,U⟩:=b2 h;obtain⟨h,h4⟩:=b2 h;obtain⟨M,h8⟩:=b2 h;have M:=bM M;rw [F.f.hs,M]at h8;refine rbS G λp=>rb (P:=λe=>PS X (.For (.Name (vs s).x (vs s).p) e (vs s).b [] p) (E1 ⟨X.K,fs,ms,nr,sr⟩ (.forR i c b))) h2 ?_;show PS X (.For _ (.Call (.Name (vw (vs s).a).x (vw (vs s).a).p) ((vw (vs s).a).a::(vw (vs s).a).l) [] (vs s).a.pos) _ [] p) _;rw [M,MU h4];refine Zu (QG F.po F.f.ca (Q3 (OK h8) F.f.rg (Qa (QW (snd (sr:=sr) c F.f _ U)) Qc (Zw L)) (Zw L)) (GG F h1) (snS b _ h7)) λD σ H q=>⟨_,q,λx H1 q=>?_⟩;cases x with
  | int j=>
   obtain⟨hr,q⟩:=q;refine⟨j,rfl,hr.1,hr.2,?_⟩;cases q with
   | f Y G Z hd=>exact Zm (lo:=0) Y G (λj σ H hj hp=>by rw [eM];exact ZK (Z j σ H hj hp)) hd
  | _=>exact False.elim q
 | .forL i c b,s,h=>by
  obtain⟨G,h⟩:=b2 h;obtain⟨h,h7⟩:=b2 h;obtain⟨h1,h⟩:=b2 h;obtain⟨U,L⟩:=b2 h;refine rbS G λp=>Zu (QG F.po F.f.ca (QJ (QW (snd (sr:=sr) c F.f _ U))) (GG F h1) (snS b _ h7) (Yf L)) λD σ H q=>⟨_,q,λx H1 q=>?_⟩;cases x with
  | ref a=>
   cases q with
   | f ys Y G hl Z hd=>exact⟨a,rfl,⟨ys,hl 0 _ _ (bE _) G⟩,Q2 Y G hl (λj x σ H hj hp=>ZK (Z j x σ H hj hp)) hd⟩
  | _=>exact False.elim q
 | .forT i c b,s,h=>by
  obtain⟨G,h⟩:=b2 h;obtain⟨h,h7⟩:=b2 h;obtain⟨h1,h⟩:=b2 h;obtain⟨U,L⟩:=b2 h;refine rbS G λp=>Zu (QG F.po F.f.ca (YQ (QW (snd (sr:=sr) c F.f _ U))) (GG F h1) (snS b _ h7) (Yf L)) λD σ H q=>⟨_,q,λx H1 q=>?_⟩;cases x with
  | ref a=>
   cases q with
   | f ys Y G hl Z hd=>exact⟨a,rfl,⟨ys,hl 0 _ _ (bE _) G⟩,Lk Y G hl (λj x σ H hj hp=>ZK (Z j x σ H hj hp)) hd⟩
  | _=>exact False.elim q
 | .cut a,s,h=>Zu (Wy (sn1 a s h)) λD σ H q=>by
  cases q with
  | c R h k=>exact⟨R,h,k⟩
 | .unp is c,s,h=>by
  obtain⟨G,h⟩:=b2 h;obtain⟨h,L⟩:=b2 h;obtain⟨h,U⟩:=b2 h;obtain⟨h1,h2,M⟩:=Xg F is _ h;refine rbS G λp=>Zu (Nc (QW (snd (sr:=sr) c F.f _ U)) (Zp (X:=X) F.f.ca h1 h2 M) (NQ L).1 (NQ (n:=0) L).2 rfl) λD σ H q=>⟨_,q,λx H1 q=>?_⟩;cases x with
  | ref a=>
   cases q with
   | u xs hx k=>exact⟨a,xs,rfl,hx,JP k,X6 k⟩
  | _=>exact False.elim q
 | .wh c b,s,h=>by
  obtain⟨G,h⟩:=b2 h;obtain⟨h1,h2⟩:=b2 h;refine rbS G λp=>Zu (JB F.po (W1 (snt (sr:=sr) c F.f _ h1)) (snS b _ h2)) λD σ H q=>?_;cases q with
  | w J m G Z=>exact⟨J,⟨m,G⟩,λm σ H p=>⟨_,Z m σ H p,λb H1 q=>by
   cases b with
   | true=>exact Zh ⟨_,λad H' h=>h,q⟩
   | false=>exact QT q⟩⟩
 | .forU is c b,s,h=>by
  obtain⟨G,h⟩:=b2 h;obtain⟨h,h7⟩:=b2 h;obtain⟨h1,h⟩:=b2 h;obtain⟨U,L⟩:=b2 h;obtain⟨n1,n2,n3⟩:=Xg F is _ h1;refine rbS G λp=>Zu (QG F.po F.f.ca (QJ (QW (snd (sr:=sr) c F.f _ U))) (Zp (X:=X) F.f.ca n1 n2 n3) (snS b _ h7) (Yf L)) λD σ H q=>⟨_,q,λx H1 q=>?_⟩;cases x with
  | ref a=>
   cases q with
   | f ys Y G hl Z hd=>exact⟨a,rfl,⟨ys,hl 0 _ _ (bE _) G⟩,Q2 Y G hl (λj x σ H hj hp=>by
    obtain⟨b',zs,e,hz,k⟩:=Z j x σ H hj hp;exact⟨b',zs,e,hz,JP k,X6 (k:=λac H2=>ES ⟨X.K,fs,ms,nr,sr⟩ b { D with nx:=Y (j+1),ct:=Y (j+1),bk:=D.nx } ac H2) k⟩) hd⟩
  | _=>exact False.elim q
 | .sx i as,s,h=>by
  have h:(match T.sk[i]? with
   | some sh=>match sh s with
    | some es=>YY as T es
    | none=>false
   | none=>false)=true:=h
  split at h
  .rename_i sh aa;obtain⟨r,e1,e2⟩:=F.hx _ _ aa;split at h
   .rename_i es ab;refine Zu (e2.ok s es _ ab (Py (sr:=sr) as F.f _ h)) λD σ H q=>?_;have q:Es ⟨X.K,fs,ms,nr,sr⟩ as σ H λvs H1=>match sr[i]? with | some r=>r σ vs H1 D.nx | none=>False:=q
    rw [e1]at q;exact(Wr as).mp q
   .cases h
  .cases h
 | .setC i c,s,h=>by
  obtain⟨G,h⟩:=b2 h;obtain⟨hk,h⟩:=b2 h;obtain⟨h,y4⟩:=b2 h;obtain⟨h,y3⟩:=b2 h;obtain⟨h,h1⟩:=b2 h;exact rbS G λp=>Rz F hk (b2 h).1 (b2 h).2 h1 y3 y4
theorem snS:∀(as:List S)(ss:List Stmt),chS T as ss=true->PSs X ss (ES ⟨X.K,fs,ms,nr,sr⟩ as)
 | [],[],h=>Qr
 | [],_::_,h=>nomatch h
 | _::_,[],h=>nomatch h
 | a::r,s::ss,h=>by
  obtain⟨h1,h2⟩:=b2 (show(ch1 T a s&&chS T r ss)=true from h);exact Qg (sn1 a _ h1) (snS r _ h2)
end
end
end G3
namespace L2
open PySem
def SameX(x:Addr)(H H':Hp):Prop:=∀b u,b≠x->H b=some u->H' b=some u
theorem SameX.refl(x:Addr)(H:Hp):SameX x H H:=λ_ _ _ e=>e
theorem SameX.trans{x:Addr}(a:SameX x H H1)(b:SameX x H1 H2):SameX x H H2:=λc u n e=>b c u n (a c u n e)
theorem SameX.of{x:Addr}(h:Same H H'):SameX x H H':=λb u _ e=>h b u e
theorem SameX.upd{x:Addr}{o:HO}:SameX x H (upd H x o):=λb u n e=>by rw [Qe n];exact e
structure InsAt(H:Hp)(x:Addr):Prop where
 ex:∃C dx fs,H x=some (.ins C dx fs)
theorem InsAt.seqT{K:Fg}{x:Addr}(i:InsAt H x)(g:SameX x H H')(h:SqT K H a xs):SqT K H' a xs:=by
 obtain⟨C,dx,fs,G⟩:=i.ex;rcases h with(h | ⟨o,h⟩) | h
 .exact .inl (.inl (g _ _ (QB h G (14:)) h))
 .exact .inl (.inr ⟨o,g _ _ (QB h G (14:)) h⟩)
 .exact .inr h
theorem InsAt.seq{K:Fg}{x:Addr}(i:InsAt H x)(g:SameX x H H')(h:SqL K H a xs):SqL K H' a xs:=by
 obtain⟨C,dx,fs,G⟩:=i.ex;rcases h with(h | ⟨o,h⟩) | h
 .exact .inl (.inl (g _ _ (QB h G (14:)) h))
 .exact .inl (.inr ⟨o,g _ _ (QB h G (14:)) h⟩)
 .exact .inr h
theorem InsAt.lst{x:Addr}(i:InsAt H x)(g:SameX x H H')(h:H a=some (.lst xs)):H' a=some (.lst xs):=by
 obtain⟨C,dx,fs,G⟩:=i.ex;exact g _ _ (QB h G (14:)) h
theorem InsAt.dT{x:Addr}{xs:List (List Key×V)}(i:InsAt H x)(g:SameX x H H')(h:H a=some (.dT xs)):H' a=some (.dT xs):=by
 obtain⟨C,dx,fs,G⟩:=i.ex;exact g _ _ (QB h G (14:)) h
end L2
namespace L2
open PySem PySem.Spec PyProof.Rows
def P0(e:Expr):Arguments:=match e with
 | .Lambda a _ _ _=>a
 | _=>{ posonlyargs:=[],args:=[],vararg:=none,kwonlyargs:=[],kw_defaults:=[],kwarg:=none,defaults:=[] }
def GS(e:Expr):Expr:=match e with
 | .Lambda _ b _ _=>b
 | _=>e
def Qy(e:Expr):Scope:=match e with
 | .Lambda _ _ s _=>s
 | _=>{ kind:=.function,names:=[],isGenerator:=false,isCoroutine:=false }
def Gp(e:Expr):Pos:=match e with
 | .Lambda _ _ _ p=>p
 | _=>⟨0,0,0,0⟩
def AM(s:Stmt):Expr:=match(defBody s).getLast? with
 | some (.Return (some e) _)=>e
 | _=>.Name "" ⟨0,0,0,0⟩
def Bw(e:Expr)(i:Nat):Expr:=match e with
 | .Call _ as _ _=>as.getD i e
 | _=>e
def My(f:Addr)(fd:FuncData):HO:=.ext λh=>h.get? f=some { cls:=.type "function",data:=.func fd }
def Pr(c:Addr)(qual:Str):HO:=.ext λh=>h.CodeRec (.ref c) qual
def TbS(H:Hp)(T:Addr)(pos:Pos)(qual:Str):Prop:=H T=some (.tbl #[])\/∃c,H T=some (.tbl #[rawInt pos.line,rawInt pos.col,.ref c])/\H c=some (Pr c qual)
theorem TbS.at(h:TbS H T pos qual):∃ps,H T=some (.tbl ps):=by
 rcases h with h | ⟨c,h,_⟩
 .exact⟨_,h⟩
 .exact⟨_,h⟩
theorem TbS.same(g:Same H H')(h:TbS H T pos qual):TbS H' T pos qual:=by
 rcases h with h | ⟨c,h,h2⟩
 .exact .inl (g _ _ h)
 .exact .inr ⟨c,g _ _ h,g _ _ h2⟩
def X5(mg:Str->Option Value)(base:Heap):Prop:=∃bm o,mg "__builtins__"=some (.ref bm)/\bm≠builtinsNs/\bm≠mainGlobals/\base.get? bm=some o/\o.cls=.type "module"/\ o.dict=some builtinsNs/\o.data=.plain
theorem Nf{K:Fg}{ps:Array Value}(i:H T=some (.tbl ps))(g:SameX T H H')(h:SqT K H a xs):SqT K H' a xs:=by
 rcases h with(h | ⟨o,h⟩) | h
 .exact .inl (.inl (g _ _ (QB h i (14:)) h))
 .exact .inl (.inr ⟨o,g _ _ (QB h i (14:)) h⟩)
 .exact .inr h
theorem G9(e:h.get? f=some { cls:=.type "function",data:=.func fd }):ObjOk P w H h f (My f fd):=⟨e,⟨_,e⟩,λ_ _ G k=>k _ G⟩
theorem P6(e:h.CodeRec (.ref c) qual):ObjOk P w H h c (Pr c qual):=by
 refine⟨e,?_,λh1 h2 M k=>?_⟩
 .obtain⟨U,J,vs,L,z,G,_⟩:=e;cases z;exact⟨_,G⟩
 .obtain⟨U,J,vs,L,z,G,r⟩:=M;cases z;exact⟨c,J,vs,L,rfl,k _ G,r⟩
section
variable{K:Fg}
theorem Rj{x:Str}{sl:Array (Option Value)}(hn:PySem.W.nsIn K mainGlobals x=some (some (.ref f)))(lk:K.lookup f=some ⟨oc,od,.func fd,sl⟩)(h:PySem.W.tabIn K x=some (c,T)):fd.code=.ref c:=by
 unfold PySem.W.tabIn at h;rw [hn]at h;simp only [lk]at h;split at h
 .rename_i J G;split at h
  .split at h
   .cases h;exact G
   .cases h
  .cases h
 .cases h
theorem Fun.okC{x:Str}{st:Stmt}{N:List Str}{k:Nat}(F:Fun K x qual st f fd)(hn:PySem.W.nsIn K mainGlobals x=some (some (.ref f)))(hT:PySem.W.tabIn K x=some (c,T))(S:FnScope N ps (defScope st))(len:∀vs H Q E,sp vs H Q E->vs.length=ps.length)
 (hbody:∀(A:Around)(outer:List Env)(s:Shared)(H:Hp)(vs:List V)(Q:VK)(E:XK),Room k (A.deeper (envOfC qual (defScope st) s.heap.objs.size f (.ref c)))->sp vs H Q E->
  ∃t,PSs (Ve CX0 P w K mg base N qual (defScope st) f (.ref c) A outer s H E).nox (defBody st) t/\t { nx:=λ_ H'=>Q .non H',rt:=Q } (YM N vs) H):FnOk P w K mg base CX0 (k+1) f fd ps sp:=by
 obtain⟨oc,od,kV,Y,pm,an,G,ct,Z,rfl,J,L⟩:=F.ex;have e:G=.ref c:=Rj hn J hT;subst e;refine Sy J L S len λA outer s H vs Q E U M=>?_;obtain⟨t,h,q⟩:=hbody A outer s H vs Q E U M;exact⟨t,h.nox,q⟩
end
theorem L9{P:Program}{w:World}{K:Fg}{mg mb:Str->Option Value}{k:Nat}{fa a:Addr}{fd:FuncData}{x:Str}{sp:Sp}{s₁:Shared}{vs:List Value}{ns:List Int}{Ts:List Addr}
 (KX:K.In s₁.heap) (hns:s₁.heap.Ns mainGlobals mg) (hb:s₁.heap.Ns builtinsNs mb) (hbb:∀x:Str,x≠"__name__"->mb x=bootBuiltins x) (hlim:s₁.heap.NoLimit) (hg:s₁.gens=#[]) (hbt:X5 mg s₁.heap)
 (hTs:∀T∈Ts,s₁.heap.get? T=some { cls:=.none,data:=.fields #[] }/\isCodeTable s₁.heap T/\K.lookup T=none)
 (ha:s₁.heap.get? a=some { cls:=.type "list",data:=.seq vs.toArray }) (hi:IntsAre vs ns) (hl:ns.length<=sizeLine) (hr:Room k callerA)
 (F:∀base:Heap,K.In base->base.Ns mainGlobals mg->X5 mg base->FnOk P w K mg base CX0 k fa fd [x] sp) (hbind:∀(s:Shared)(u:Value),BindsTo s fd ⟨[u],[]⟩ [(x,u)])
 (hsp:∀H:Hp,SqL K H a (ns.map V.int)->(∀T∈Ts,H T=some (.tbl #[]))->sp [.ref a] H (λv _=>v=.bl true) λ_ _ _=>False):
 codeAny (model P w) callerA (.call (.ref fa) ⟨[.ref a],[]⟩) (λr s'=>r=.ok (.ret (.bool true))/\OldK s₁.heap s'.heap/\s'.os=s₁.os/\AllBare s'.gens) s₁:=by
 have rv:=Xx hi;have af:=hi.length;have Y:∀H:Hp,(∀b,H b=none\/(b=a/\K.lookup a=none/\∃o xs,H b=some (.frz o (.lst xs)))\/(b∈Ts/\H b=some (.tbl #[])))->SqL K H a (ns.map V.int)->(∀T∈Ts,H T=some (.tbl #[]))->HOk P w H s₁.heap->
  codeAny (model P w) callerA (.call (.ref fa) ⟨[.ref a],[]⟩) (λr s'=>r=.ok (.ret (.bool true))/\OldK s₁.heap s'.heap/\s'.os=s₁.os/\AllBare s'.gens) s₁:=by
  intro H hO hS M ac;have G:∀{b:Addr}{o:Obj},s₁.heap.get? b=some o->H b=none->(Xm s₁.heap H).get? b=some o:=λe n=>OQ e n;have ad:∀{b:Addr}{o:Obj},s₁.heap.get? b=some o->(∀xs n,o.data≠.seq xs n)->(∀xs,o.data≠.fields xs)->H b=none:=λ{b o} e d1 d2=>by
   rcases hO b with z | ⟨rfl,_⟩ | ⟨z,_⟩
   .exact z
   .rw [ha]at e;cases e;exact absurd rfl (d1 _ _)
   .rw [(hTs b z).1]at e;cases e;exact absurd rfl (d2 _)
  have U:∀{b:Addr}{m:Str->Option Value},s₁.heap.Ns b m->(Xm s₁.heap H).Ns b m:=λ{b m} ⟨o,es,ep,e,d,r⟩=>⟨o,es,ep,G e (ad e (λ_ _ z=>by rw [d]at z;cases z) (λ_ z=>by rw [d]at z;cases z)),d,r⟩;have ae:K.In (Xm s₁.heap H):=λb o e=>G (KX b o e) (by
   rcases hO b with z | ⟨rfl,Z,_⟩ | ⟨z,_⟩
   .exact z
   .rw [Z]at e;cases e
   .rw [(hTs b z).2.2]at e;cases e)
  have ah:X5 mg (Xm s₁.heap H):=by
   obtain⟨bm,o,b1,b2,b3,b4,b5,b6,b7⟩:=hbt;exact⟨bm,o,b1,b2,b3,G b4 (ad b4 (λ_ _ z=>by rw [b7]at z;cases z) (λ_ z=>by rw [b7]at z;cases z)),b5,b6,b7⟩
  have hM:Mod K mg (Xm s₁.heap H):=⟨ae,U hns,⟨mb,U hb,hbb⟩,let⟨mc,h1,h2⟩:=hlim;⟨mc,U h1,h2⟩⟩;have e0:Env0 P w K mg (Xm s₁.heap H) callerA [] s₁ H:=⟨rfl,hM,λb o e=>Rk e,Nat.le_of_eq (Mt _ _),trivial,λb hb=>absurd (show b∈([]:List Addr)from hb) (16:),ac,.of_eq hg⟩;refine codeAny_mono ((F _ ae (U hns) ah).run callerA [] s₁ H ⟨[.ref a],[]⟩ [.ref a] [.ref a] _ _ hr e0 (hbind s₁ (.ref a)) (.cons rfl .nil) (hsp H hS M)) λr s' h=>?_;cases r with
  | error e=>exact h.elim
  | ok fl=>
   cases fl with
   | next=>exact False.elim h
   | brk=>exact False.elim h
   | cont=>exact False.elim h
   | ret u=>
    obtain⟨v,H',os,ag,un,aa,r',q⟩:=h;have q':v=.bl true:=q;subst q';obtain rfl:u=Value.bool true:=r';refine⟨rfl,⟨λb o e=>?_,λb o e=>un.there b o e (16:)⟩,os,ag⟩;rcases hO b with z | ⟨rfl,_,ob,xs,z⟩ | ⟨zT,z⟩
    .exact .inl (un.keep b o e z (by intro z;exact absurd (show b∈([]:List Addr)from z) (16:)) (16:))
    .have z2:=un.frzs b ob _ z;obtain⟨e1,_⟩:=ac b _ z;obtain⟨e2,_⟩:=aa b _ z2;rw [e]at e1;cases e1;exact .inl e2
    .obtain⟨ab,z2⟩:=un.tbls b _ z;have e2:s'.heap.get? b=some { cls:=.none,data:=.fields (#[]++ab) }:=aa b _ z2;obtain⟨t1,t2,_⟩:=hTs b zT;rw [t1]at e;cases e;exact .inr (.inl ⟨t2,rfl,#[],ab,rfl,e2⟩)
 have ai:∀T∈Ts,T≠a:=λT M z=>by
  have:=(hTs T M).1;rw [z,ha]at this;cases this
 cases Z:K.lookup a with
 | some o=>
  have e:=KX a o Z;rw [ha]at e;cases e;refine Y (λb=>if b∈Ts then some (.tbl #[])else none) (λb=>?_) (.inr ⟨_,vs.toArray,_,Z,rfl,rfl,rfl,by rw [aZ,af];exact hl,by simpa using rv⟩) (λT M=>aG M) (λb u z=>?_)
  .by_cases hb:b∈Ts
   .exact .inr (.inr ⟨hb,aG hb⟩)
   .exact .inl (aF hb)
  .by_cases hb:b∈Ts
   .have L:=(aG hb).symm.trans z;cases L;exact(hTs b hb).1
   .have L:=(aF hb).symm.trans z;cases L
 | none=>
  refine Y (λb=>if b=a then some (.frz { cls:=.type "list",data:=.seq vs.toArray } (.lst (ns.map V.int)))else if b∈Ts then some (.tbl #[])else none) (λb=>?_) (.inl (.inr ⟨{ cls:=.type "list",data:=.seq vs.toArray },aG rfl⟩)) (λT M=>(aF (ai T M)).trans (aG M)) (λb u z=>?_)
  .by_cases hb:b=a
   .exact .inr (.inl ⟨hb,Z,_,_,aG hb⟩)
   .by_cases J:b∈Ts
    .exact .inr (.inr ⟨J,(aF hb).trans (aG J)⟩)
    .exact .inl ((aF hb).trans (aF J))
  .by_cases hb:b=a
   .have L:=(aG hb).symm.trans z;cases L;subst hb;exact⟨ha,by rw [aE];exact hl,vs,_,rv,ha⟩
   .have z1:=(aF hb).symm.trans z
    by_cases J:b∈Ts
    .have L:=(aG J).symm.trans z1;cases L;exact(hTs b J).1
    .have L:=(aF J).symm.trans z1;cases L
structure TabAt(q:Program)(K:Fg)(x:Str)(c T:Addr):Prop where
 fnd:∃d,(recsOf q).find? (λe=>e.name==x)=some d
 tab:PySem.W.tabIn K x=some (c,T)
 hd:PySem.W.codeHdIn K c T=true
 no:K.lookup T=none
theorem walk_ofT{l:PySem.W.OpenLaw}{k:Nat}{q:Program}{d:DefRec}{K:Params->Fg}{sp:World->Sp}{x:Str}{tabs:List (Str×Addr×Addr)}
 (hn:l.most=some n) (hn2:n<=sizeLine) (hdf:d.params.defaults=[]) (hr:Room k callerA)
 (hY:∀(w:World)(h:Heap),YP w h->(K w.params).In h)
 (htab:∀(w:World),∀p∈tabs,TabAt q (K w.params) p.1 p.2.1 p.2.2)
 (F:∀(w:World)(mg:Str->Option Value)(fa:Addr)(h:Heap),(K w.params).In h->h.Ns mainGlobals mg->mg d.name=some (.ref fa)->
  ∃fd:FuncData,(∀(s:Shared)(u:Value),BindsTo s fd ⟨[u],[]⟩ [(x,u)])/\
   ∀base:Heap,(K w.params).In base->base.Ns mainGlobals mg->X5 mg base->FnOk l.prog w (K w.params) mg base CX0 k fa fd [x] (sp w))
 (hsp:∀(w:World)(H:Hp)(a:Addr)(ns:List Int),ns.length<=n->SqL (K w.params) H a (ns.map V.int)->(∀p∈tabs,H p.2.2=some (.tbl #[]))->sp w [.ref a] H (λv _=>v=.bl true) λ_ _ _=>False):
 PySem.W.WalkO q loose XP YP l.row.toRowW d [] (λf vs=>PySem.call f vs):=by
 refine Att.attach_call hn hdf λw ai af mg mb fa o pm cd ag a vs ns G Y ho hd ah ab M L J hg=>?_;have U:=hY w _ Y;obtain⟨fd,hb,hF⟩:=F w mg fa _ U G.T.g ab;have ac:X5 mg af.heap:=by
  obtain⟨bm,ob,b1,b2,Z,b4,b5,b6⟩:=G.T.bmain;have ad:bm≠mainGlobals:=λq=>by
   obtain⟨o,es,ep,e,hd,_⟩:=G.T.g;rw [q,e]at Z;cases Z;rw [hd]at b6;cases b6
  exact⟨bm,ob,b1,b2,ad,Z,b4,b5,b6⟩
 refine L9 (Ts:=tabs.map λp=>p.2.2) U G.T.g G.T.b G.T.builtins G.T.nolimit hg ac (λT hT=>?_) M L (bT J hn2) hr hF hb (λH hS hT=>hsp w H a ns J hS λp hp=>hT _ (aJ.mpr ⟨p,hp,rfl⟩));obtain⟨p,hp,rfl⟩:=aJ.mp hT;obtain⟨⟨dd,aa⟩,ht,_,ae⟩:=htab w p hp;obtain⟨hc,h0⟩:=PySem.W.tab_of G.T U aa ht;exact⟨h0,(hc.tab h0).isCodeTable,ae⟩
section
variable{pins:List (10:)}
end
section
variable{K:Fg}{N:List Str}{E:XK}
end
section
variable{K:Fg}{N:List Str}{E:XK}
end
section
variable{K:Fg}{N:List Str}{E:XK}
end
section
variable{pins:List (10:)}
end
end L2
namespace G3
open PySem L2
inductive TupOf(K:Fg)(p:Addr)(H:Hp)(Q:VK):Prop where
 | l (ys:List V) (h:SqL K H p ys) (k:∀l H',Same H H'->SqT K H' l ys->Q (.ref l) H'):TupOf K p H Q
def rTupOf(K:Fg)(vs:List V)(H:Hp)(Q:VK):Prop:=match vs with
 | [.ref p]=>TupOf K p H Q
 | _=>False
theorem call_tupOf:Q4 X (.type "tuple") (rTupOf X.K):=by
 intro pins s σ H xs G Q I r h;unfold rTupOf at h;split at h
 .cases h with
  | l ys J k=>exact Q6 pins s σ H _ G Q I r ⟨_,ys,rfl,.inl ⟨J,λl L=>k l _ (Qd L _) (SqT.of Qb)⟩⟩
 .exact h.elim
theorem CallOk.blt{x:Str}{id:String}{r:List V->Hp->VK->Prop}(hc:Q4 X (.builtin id) r)(hm:X.mg x=none)(hv:bootBuiltins x=some (.builtin id))(hn:x≠"__name__":=by decide):CallOk X x (λ_ vs H Q=>r vs H Q):=
 ⟨λp pos e es t G J L M hp=>Ql hc J hm hv G hn L M hp⟩
theorem CallOk.ty{x:Str}{T:String}{r:List V->Hp->VK->Prop}(hc:Q4 X (.type T) r)(hm:X.mg x=none)(hv:bootBuiltins x=some (.type T))(hn:x≠"__name__":=by decide):CallOk X x (λ_ vs H Q=>r vs H Q):=
 ⟨λp pos e es t G J L M hp=>QN hc J hm hv G hn L M hp⟩
def shCmp(op:CmpOp):Expr->Option (List Expr)
 | .Compare a [o] [b] _=>if decide (o=op)&& !(behindInMarks op b)then some [a,b]else none
 | _=>none
def shIx:Expr->Option (List Expr)
 | .Subscript a b _=>if ord b then some [a,b]else none
 | _=>none
def shBin(op:Operator):Expr->Option (List Expr)
 | .BinOp a o b _=>if o=op then some [a,b]else none
 | _=>none
def shSlTo:Expr->Option (List Expr)
 | .Subscript a (.Slice none (some h) none _) _=>some [a,h]
 | _=>none
def shM0(m:Str):Expr->Option (List Expr)
 | .Call (.Attribute o m' ap) [] [] cp=>if decide (m'=m)&&Pq o&&(ap.endLine==cp.line)then some [o]else none
 | _=>none
def on2(r:R2):List V->Hp->VK->Prop:=λvs H Q=>match vs with
 | [x,y]=>r x y H Q
 | _=>False
def on1(r:V->Hp->VK->Prop):List V->Hp->VK->Prop:=λvs H Q=>match vs with
 | [x]=>r x H Q
 | _=>False
theorem PEs.two{a b:Expr}{ts:List TE}(h:PEs X [a,b] ts):∃t u,ts=[t,u]/\PE X a t/\PE X b u:=by
 cases h with
 | cons h1 h=>cases h with
  | cons h2 h=>cases h with
   | nil=>exact⟨_,_,rfl,h1,h2⟩
theorem PEs.one{a:Expr}{ts:List TE}(h:PEs X [a] ts):∃t,ts=[t]/\PE X a t:=by
 cases h with
 | cons h1 h=>cases h with
  | nil=>exact⟨_,rfl,h1⟩
theorem NodeOk.plain{r:List V->Hp->VK->Prop}(h:∀(e:Expr)(es:List Expr)(ts:List TE),sh e=some es->PEs X es ts->PE X e (λσ H Q=>Ga ts σ H λvs H1=>r vs H1 Q)/\tst e=true):NodeOk X sh r:=
 ⟨λe es ts G hp=>(h e es ts G hp).1,λe es ts G hp=>(pvT (h e es ts G hp).1 (h e es ts G hp).2).2⟩
theorem NodeOk.cmp{r:R2}(ho:OpR X (compareOp op) r):NodeOk X (shCmp op) (on2 r):=by
 have J:∀(e:Expr)(es:List Expr),shCmp op e=some es->∃a b p,e=.Compare a [op] [b] p/\es=[a,b]/\behindInMarks op b=false:=λe es G=>by
  unfold shCmp at G;split at G
  .split at G
   .rename_i L;cases G;rw [bS]at L;rw [bM L.1];exact⟨_,_,_,rfl,rfl,by simpa using L.2⟩
   .cases G
  .cases G
 refine⟨λe es U G h=>?_,λe es U G h=>?_⟩
 .obtain⟨a,b,p,rfl,rfl,M⟩:=J e es G;obtain⟨t,u,rfl,h1,h2⟩:=h.two;exact Z8 ho h1 h2 M
 .obtain⟨a,b,p,rfl,rfl,M⟩:=J e es G;obtain⟨t,u,rfl,h1,h2⟩:=h.two;exact YD (Qw (N9 ho) (QW h1) (QW h2) M) λσ H Q q=>⟨_,q,λx H1 q=>⟨_,q,λy H2 q=>⟨_,q,λz Y q=>Uz q⟩⟩⟩
theorem NodeOk.bin{op:Operator}{r:R2}(ho:OpR X (binaryOp op) r):NodeOk X (shBin op) (on2 r):=.plain λe es L G h=>by
 unfold shBin at G;split at G
 .split at G
  .rename_i J;cases G;obtain⟨t,u,rfl,h1,h2⟩:=h.two;rw [J];exact⟨QS ho h1 h2,rfl⟩
  .cases G
 .cases G
def asI(x:V)(k:Int->Prop):Prop:=match x with
 | .int i=>k i
 | _=>False
theorem TF{x:V}{k:Int->Prop}(h:asI x k):∃i,x=.int i/\k i:=by
 unfold asI at h;split at h
 .exact⟨_,rfl,h⟩
 .exact h.elim
theorem NodeOk.slTo{r:V->Option Int->Option Int->Hp->VK->Prop}(hr:SlR X r):NodeOk X shSlTo (on2 λx y H Q=>asI y λi=>r x none (some i) H Q):=.plain λe es J G h=>by
 unfold shSlTo at G;split at G
 .cases G;obtain⟨t,u,rfl,h1,h2⟩:=h.two;exact⟨Q8 (W8 hr (QW h1) G8 (GP (QW h2))) λσ H Q q=>⟨_,q,λx H1 q=>⟨_,q,λy H2 q=>TF q⟩⟩,rfl⟩
 .cases G
theorem NodeOk.m0{T id:String}{r:V->List V->Hp->VK->Prop}(pa:PlainAttrs T)(slot:Slot T name id)(hty:typeOf (.builtin id)=pure (.type "method_descriptor"))(hm:MtR X id r):NodeOk X (shM0 name) (on1 λx H Q=>tyV X.K T x H/\r x [] H Q):=.plain λe es L G h=>by
 unfold shM0 at G;split at G
 .split at G
  .rename_i o M U Y J;cases G;simp only [bS]at J;obtain⟨t,rfl,h1⟩:=h.one;obtain rfl:=bM J.1.1;exact⟨Td pa slot hty hm h1 (by cases o<;>first | rfl | exact absurd (show false=true from J.1.2) aT) J.2,rfl⟩
  .cases G
 .cases G
structure Cxt(X:Cx)(P:Program)(w:World)(K:Fg)(mg:Str->Option Value)(base:Heap)(k:Nat):Prop where
 p:X.prog=P
 w:X.w=w
 K:X.K=K
 m:X.mg=mg
 b:X.base=base
 r:Room k X.A
 c:X.calm=true
inductive Calls(X:Cx):List Str->List Rel->Prop where
 | nil:Calls X [] []
 | cons {x:Str} {r:Rel} {xs:List Str} {rs:List Rel}:CallOk X x r->Calls X xs rs->Calls X (x::xs) (r::rs)
inductive Meths(X:Cx):List Str->List Mr->Prop where
 | nil:Meths X [] []
 | cons {x:Str} {r:Mr} {xs:List Str} {rs:List Mr}:MethOk X x r->Meths X xs rs->Meths X (x::xs) (r::rs)
inductive Nodes(X:Cx):List (Expr->Option (List Expr))->List (List V->Hp->VK->Prop)->Prop where
 | nil:Nodes X [] []
 | cons {x:Expr->Option (List Expr)} {r:List V->Hp->VK->Prop} {xs:List (Expr->Option (List Expr))} {rs:List (List V->Hp->VK->Prop)}:NodeOk X x r->Nodes X xs rs->Nodes X (x::xs) (r::rs)
theorem Calls.at{X:Cx}:∀{xs:List Str}{rs:List Rel},Calls X xs rs->∀(i:Nat) y,xs[i]?=some y->∃r,rs[i]?=some r/\CallOk X y r
 | _,_,.nil,i,y,e=>by simp at e
 | _,_,.cons h _,0,y,e=>by cases e;exact⟨_,rfl,h⟩
 | _,_,.cons _ h,i+1,y,e=>h.at i y e
theorem Meths.at{X:Cx}:∀{xs:List Str}{rs:List Mr},Meths X xs rs->∀(i:Nat) y,xs[i]?=some y->∃r,rs[i]?=some r/\MethOk X y r
 | _,_,.nil,i,y,e=>by simp at e
 | _,_,.cons h _,0,y,e=>by cases e;exact⟨_,rfl,h⟩
 | _,_,.cons _ h,i+1,y,e=>h.at i y e
theorem Nodes.at{X:Cx}:∀{xs:List (Expr->Option (List Expr))}{rs:List (List V->Hp->VK->Prop)},Nodes X xs rs->∀(i:Nat) y,xs[i]?=some y->∃r,rs[i]?=some r/\NodeOk X y r
 | _,_,.nil,i,y,e=>by simp at e
 | _,_,.cons h _,0,y,e=>by cases e;exact⟨_,rfl,h⟩
 | _,_,.cons _ h,i+1,y,e=>h.at i y e
section
variable{K:Fg}{k:Nat}
theorem Cxt.fn(c:Cxt X P w K mg base k){x:Str}(F:Fn P w K mg base j x ps sp)(hk:j<=k:=by decide):CallOk X x (λ_ vs H Q=>sp vs H Q E0):=by
 obtain⟨rfl,rfl,rfl,rfl,rfl,G,J⟩:=c;exact .fn F G hk
theorem Cxt.ty(c:Cxt X P w K mg base k){x:Str}{T:String}(hc:∀X:Cx,Q4 X (.type T) (r X.K))(hm:mg x=none)(hv:bootBuiltins x=some (.type T))(hn:x≠"__name__":=by decide):CallOk X x (λ_ vs H Q=>r K vs H Q):=by
 obtain⟨rfl,rfl,rfl,rfl,rfl,J,G⟩:=c;exact .ty (hc X) hm hv hn
theorem Cxt.blt(c:Cxt X P w K mg base k){x:Str}{id:String}(hc:∀X:Cx,Q4 X (.builtin id) (r X.K))(hm:mg x=none)(hv:bootBuiltins x=some (.builtin id))(hn:x≠"__name__":=by decide):CallOk X x (λ_ vs H Q=>r K vs H Q):=by
 obtain⟨rfl,rfl,rfl,rfl,rfl,J,G⟩:=c;exact .blt (hc X) hm hv hn
theorem Cxt.meth(c:Cxt X P w K mg base k){x:Str}{r:Fg->Mr}(h:∀X:Cx,MethOk X x (r X.K)):MethOk X x (r K):=by
 obtain⟨rfl,rfl,rfl,rfl,rfl,J,G⟩:=c;exact h X
theorem Cxt.node(c:Cxt X P w K mg base k)(h:∀X:Cx,NodeOk X sh (r X.K)):NodeOk X sh (r K):=by
 obtain⟨rfl,rfl,rfl,rfl,rfl,J,G⟩:=c;exact h X
end
section
variable{K:Fg}{k:Nat}
theorem Cxt.nodeR(c:Cxt X P w K mg base k)(h:∀X:Cx,Room k X.A->NodeOk X sh (r X.K)):NodeOk X sh (r K):=by
 obtain⟨rfl,rfl,rfl,rfl,rfl,G,J⟩:=c;exact h X G
end
theorem Fun.okC{K:Fg}{x:Str}{st:Stmt}{N fn mt:List Str}{nk:List (Expr->Option (List Expr))}{k:Nat}(F:Fun K x qual st f fd)(S:FnScope N ps (defScope st))(n:En)(c:List G3.S)
 (hcx:∀X:Cx,Cxt X P w K mg base k->Calls X fn n.fs/\Meths X mt n.ms/\Nodes X nk n.nr)
 (len:∀vs H Q E,sp vs H Q E->vs.length=ps.length)
 (hb:∀(H:Hp)(vs:List V)(Q:VK)(E:XK),sp vs H Q E->ES n c { nx:=λ_ H'=>Q .non H',rt:=Q } (YM N vs) H)
 (hm:mg "range"=none) (hc:chS ⟨N,defScope st,fn,mt,nk,[]⟩ c (defBody st)=true:=by decide+kernel) (hn:n.K=K:=by rfl):FnOk P w K mg base CX0 (k+1) f fd ps sp:=by
 obtain⟨J,fs,ms,nr,sr⟩:=n;have hn:J=K:=hn;subst hn;exact F.ok S len λL A outer s H vs Q E G h=>⟨_,snS (X:=(Ve CX0 P w J mg base N qual (defScope st) f L A outer s H E).nox) (fs:=fs) (ms:=ms) (nr:=nr) (sr:=sr) ⟨⟨rfl,rfl,λX f i y e=>(hcx X ⟨f.p,f.w,f.K,f.m,f.b,by rw [f.A];exact G,f.c⟩).1.at i y e,λX f i y e=>(hcx X ⟨f.p,f.w,f.K,f.m,f.b,by rw [f.A];exact G,f.c⟩).2.1.at i y e,λX f i y e=>(hcx X ⟨f.p,f.w,f.K,f.m,f.b,by rw [f.A];exact G,f.c⟩).2.2.at i y e,rfl,hm⟩,S.nd,λ_=>rfl,bV,λi y e=>by simp at e⟩ c _ hc,hb H vs Q E h⟩
inductive EqD(K:Fg)(neg:Bool)(x y:V)(H:Hp)(Q:VK):Prop where
 | e (d e:PyData) (h1:RdV K H x d) (h2:RdV K H y e) (c1:d.canLay0=true) (c2:e.canLay0=true) (hu:min d.depth e.depth<=190) (q:Q (.bl (if neg then !PyData.eqv d e else PyData.eqv d e)) H):EqD K neg x y H Q
theorem Cxt.eqD{K:Fg}{k:Nat}(c:Cxt X P w K mg base k):NodeOk X (shCmp .Eq) (on2 (EqD K false)):=by
 obtain⟨rfl,rfl,rfl,rfl,rfl,G,Y⟩:=c;refine .cmp λpins s σ H x y v u Q I J L h=>?_;cases h with
 | e d e h1 h2 M U Z q=>exact Pp pins s σ H x y v u Q I J L ⟨d,e,h1,h2,M,U,by have:=G.un;lia,q⟩
theorem Cxt.neD{K:Fg}{k:Nat}(c:Cxt X P w K mg base k):NodeOk X (shCmp .NotEq) (on2 (EqD K true)):=by
 obtain⟨rfl,rfl,rfl,rfl,rfl,G,Y⟩:=c;refine .cmp λpins s σ H x y v u Q I J L h=>?_;cases h with
 | e d e h1 h2 M U Z q=>exact X9 pins s σ H x y v u Q I J L ⟨d,e,h1,h2,M,U,by have:=G.un;lia,q⟩
inductive Len(K:Fg)(p:Addr)(H:Hp)(Q:VK):Prop where
 | l (ys:List V) (h:SqL K H p ys) (k:Q (.int ys.length) H):Len K p H Q
 | t (ys:List V) (h:SqT K H p ys) (k:Q (.int ys.length) H):Len K p H Q
def rLen(K:Fg)(vs:List V)(H:Hp)(Q:VK):Prop:=match vs with
 | [.ref p]=>Len K p H Q
 | _=>False
theorem call_len(X:Cx):Q4 X (.builtin "len") (rLen X.K):=by
 intro pins s σ H xs J Q I r h;unfold rLen at h;split at h
 .cases h with
  | l ys G k=>exact Qm pins s σ H _ J Q I r ⟨_,ys,rfl,.inl G,k⟩
  | t ys G k=>exact Qm pins s σ H _ J Q I r ⟨_,ys,rfl,.inr G,k⟩
 .exact h.elim
def mApp(K:Fg):Mr:=⟨tyV K "list",Lp⟩
theorem m_append(X:Cx):MethOk X "append" (mApp X.K):=.bm cS fu fw Zo
theorem tyL{K:Fg}(h:H l=some (.lst xs)):tyV K "list" (.ref l) H:=.inl ⟨rfl,xs,SqL.of h⟩
end G3
namespace L2
open PySem PySem.Spec PyProof.Rows
noncomputable instance decPyD:DecidableEq PyData:=λa b=>Classical.propDecidable (a=b)
def nk:Nat->PyData->Prop
 | 0,d=>(∃i,d=.int i)\/∃x,d=.str x/\PyData.strOk x=true
 | n+1,d=>(∃i,d=.int i)\/(∃x,d=.str x/\PyData.strOk x=true)\/∃ds,d=.tuple ds/\∀e∈ds,nk n e
mutual
noncomputable def UV(w:World):PyData->Int
 | .int i=>hashInt i
 | .str x=>hashStr w x
 | .tuple ds=>reduceHash (Builtin.Tuple.tupleHashOf (ZO w ds))
 | _=>0
noncomputable def ZO(w:World):List PyData->List Int
 | []=>[]
 | d::r=>UV w d::ZO w r
end
mutual
noncomputable def drD:PyData->Nat
 | .tuple ds=>J5 ds+1
 | _=>1
noncomputable def J5:List PyData->Nat
 | []=>0
 | d::r=>drD d+J5 r
end
theorem JG(w:World):∀a b:List PyData,ZO w (a++b)=ZO w a++ZO w b
 | [],b=>by simp [ZO]
 | d::r,b=>by simp [ZO,JG w r b]
theorem WL:∀a b:List PyData,J5 (a++b)=J5 a+J5 b
 | [],b=>by simp [J5]
 | d::r,b=>by simp [J5,WL r b,Nat.add_assoc]
section
variable{E:Value->Shared->Prop}
theorem Rs:∀(n:Nat){d:PyData}{v:Value}{as:List Addr}{A:Around}{s:Shared}{Q:Int->Shared->Prop},nk n d->Reads s.heap v d as->A.units+n<cLine->Q (UV w d) { s with toks:=s.toks+drD d }->wpAny (9:) A (pyHash v) Q E s:=by
 have hi:∀{i:Int}{v:Value}{as:List Addr}{A:Around}{s:Shared}{Q:Int->Shared->Prop},Reads s.heap v (.int i) as->Q (UV w (.int i)) { s with toks:=s.toks+drD (.int i) }->wpAny (9:) A (pyHash v) Q E s:=λr q=>by
  cases r with
  | int i t=>
   simp only [UV,drD]at q;exact wpAny_pyHash_int q
 have Z:∀{x:Str}{v:Value}{as:List Addr}{A:Around}{s:Shared}{Q:Int->Shared->Prop},Reads s.heap v (.str x) as->Q (UV w (.str x)) { s with toks:=s.toks+drD (.str x) }->wpAny (9:) A (pyHash v) Q E s:=λr q=>by
  cases r with
  | str i t=>
   simp only [UV,drD]at q;exact wpAny_pyHash_str q
 intro n
 induction n with
 | zero=>
  rintro d v as A s Q (⟨i,rfl⟩ | ⟨x,rfl,_⟩) r _ q
  .exact hi r q
  .exact Z r q
 | succ n ih=>
  rintro d v as A s Q (⟨i,rfl⟩ | ⟨x,rfl,_⟩ | ⟨ds,rfl,aa⟩) r hu q
  .exact hi r q
  .exact Z r q
  .cases r with
   | @tuple a o vs m xs as ho hc hd M=>
   have hT:s.TypeIs (.ref a) "tuple":=⟨o,ho,hc⟩;simp only [UV,drD]at q;show wpAny (9:) A (pyHashByItsType (.ref a)) Q E s;refine PySem.W.pyHash_slot hT PySem.F.slot_tuple_hash PySem.F.entry_tuple_hash (PySem.F.args_tuple_hash_1 _) (beq_builtin_none _) (.inr (5:)) ?_;show wpAny (9:) A.in1 (Builtin.Tuple.tupleItemsOf (.ref a)>>=_) _ E s;refine aB (wpAny_tupleItemsOf ho hd (aB ?_));rw [<-Array.forIn_toList];refine wpAny_forIn_list _ (λrest (b:Array Int) s'=>∃G left J,ds=G++left/\ReadsAll s.heap rest left J/\b.toList=ZO w G/\s'={ s with toks:=s.toks+J5 G }) _ ?_ ?_ vs.toList #[] ⟨[],ds,_,rfl,M,by simp [ZO],by simp [J5]⟩
   .rintro x rest b s' ⟨G,left,J,rfl,U,Y,rfl⟩;cases U with
    | @cons _ _ e left ac ad ab L=>
    refine aB (ih (aa e (16:)) (s:={ s with toks:=s.toks+J5 G }) ab (show A.in1.units+n<cLine by show A.units+1+n<cLine;lia) ?_);refine aH ?_;exact⟨G++[e],left,_,by simp,L,by simp [Y,JG,ZO],by simp [WL,J5,Nat.add_assoc]⟩
   .rintro b s' ⟨G,left,J,rfl,U,Y,rfl⟩;cases U;rw [dG]at q;show wpAny (9:) A.in1 (retInt (Builtin.Tuple.tupleHashOf b.toList)) _ E _;rw [Y];unfold retInt;refine aB (wpAny_mkInt ?_);exact aH ⟨_,_,rfl,q⟩
theorem Nz:∀(n m:Nat){d:PyData}{v:Value}{as:List Addr}{A:Around}{s:Shared}{Q:Bool->Shared->Prop},nk n d->Reads s.heap v d as->n<=m->Q true s->wpAny (9:) A (eqIsQuiet m v) Q E s:=by
 have M:∀{d:PyData}{v:Value}{as:List Addr}{h:Heap},((∃i,d=.int i)\/∃x,d=.str x/\PyData.strOk x=true)->Reads h v d as->carriedByValue v=true:=λG r=>by
  rcases G with⟨i,rfl⟩ | ⟨x,rfl,_⟩
  .cases r;rfl
  .cases r;rfl
 intro n
 induction n with
 | zero=>
  intro m d v as A s Q G r _ q;rw [eqIsQuiet_byValue m (M G r)];exact aH q
 | succ n ih=>
  intro m d v as A s Q G r hm q;rcases G with h | h | ⟨ds,rfl,Y⟩
  .rw [eqIsQuiet_byValue m (M (.inl h) r)];exact aH q
  .rw [eqIsQuiet_byValue m (M (.inr h) r)];exact aH q
  .obtain⟨m,rfl⟩: ∃k,m=k+1:=⟨m-1,by lia⟩;cases r with
   | @tuple a o vs k xs as Z hc G U=>
   have hT:s.TypeIs (.ref a) "tuple":=⟨o,Z,hc⟩;rw [eqIsQuiet.eq_2];refine aB (wpAny_specialOf hT PySem.F.slot_tuple_eq.lookup ?_);refine aB (eZ hT isSubtype_tuple_tuple ?_);simp only [Bool.not_true,cD,bU];refine aB (dP Z G (aB ?_));show wpAny (9:) A (forIn vs _ _) _ E s;rw [<-Array.forIn_toList];refine wpAny_forIn_list _ (λrest (r:Option Bool×Unit) s'=>r.fst=none/\s'=s/\∃left L,ReadsAll s.heap rest left L/\∀e∈left,nk n e) _ ?_ ?_ vs.toList _ ⟨rfl,rfl,ds,_,U,Y⟩
   .rintro x rest r s' ⟨hr,rfl,left,L,hl,hn⟩;cases hl with
    | @cons _ _ e left ab ac aa J=>
    refine aB (ih m (hn e aR) aa (5:) ?_);simp only [Bool.not_true,cD,bU];exact aH ⟨rfl,rfl,left,_,J,λe he=>hn e (bR _ he)⟩
   .rintro r s' ⟨hr,rfl,_⟩;obtain⟨r1,r2⟩:=r;cases hr;exact aH q
end
end L2
namespace L2
open PySem PySem.Spec PyProof.Rows PySem.W
section
variable{E:Value->Shared->Prop}
end
end L2
namespace L2
namespace LD
open PySem PySem.Spec PyProof.Rows PySem.W
def DEnt(h:Heap)(d:Addr)(ents:Array DictEntry)(ep:Nat):Prop:=∃o,h.get? d=some o/\o.ExactDict/\o.data=.dict ents ep
section
variable{E:Value->Shared->Prop}
theorem DEnt.ty(x:DEnt s.heap d ents ep):s.TypeIs (.ref d) "dict":=by
 obtain⟨o,g,e,_⟩:=x;exact⟨o,g,e.1⟩
theorem DEnt.lt(x:DEnt h d ents ep):d<h.objs.size:=by
 obtain⟨o,g,_⟩:=x;exact aO g
theorem UA(lo:(d==sysModules)=false)(x:DEnt s.heap d ents ep)
 (fin:Q (.ref s.heap.objs.size) { s with heap:=s.heap.push { cls:=.type "dict_keyiterator",data:=.fields #[.ref d,.int 0 0,.int ents.size 0,.int ep 0] } }):wpAny (9:) A (pyIter (.ref d)) Q E s:=by
 have ty:=x.ty;obtain⟨o,g,ex,G⟩:=x;refine wpAny_pyIter_slot ty gf (dA gf ty F.entry_dict_iter ?_ (F.args_dict_iter_1 _));unfold Builtin.«dict.__iter__» Builtin.Dict.dictSlotNone;refine aB (aB (gG ty (show wpAny _ _ (pure (Value.ref d)) _ _ s from aH ?_)));show wpAny _ _ (Builtin.Dict.showsAll d>>=_) _ _ s;unfold Builtin.Dict.showsAll;rw [aF (by rw [lo];exact aT)];refine aB (aH (aB (c_ g G (aB (eJ g G ?_)))));refine aB (cN (aH ⟨_,rfl,"dict_keyiterator",_,⟨_,bD _ rfl,rfl⟩,F.slot_dict_keyiterator_next.lookup,?_⟩))
 simpa [rawInt]using fin
theorem Uy{t:DictEntry}{Q:Option Value->Shared->Prop}(hI:s.heap.IsKeyIter it d i ents.size ep)(x:DEnt s.heap d ents ep)(at_i:ents[i]?=some t)
 (fin:∀h2,h2.IsKeyIter it d (i+1) ents.size ep->Heap.SameBut it s.heap h2->Q (some t.key) { s with heap:=h2 }):wpAny (9:) A (pyNext (.ref it)) Q E s:=by
 obtain⟨oi,M,Z,G⟩:=id hI;obtain⟨od,Y,aa,J⟩:=id x;unfold pyNext;refine aB (8:);refine aB (aH (aB (aB ?_)))
 first | refine aB (eg hI.typeIs (21:)) | refine aB (eo hI.typeIs (21:))
 refine aB (wpAny_fieldsOf M G ?_);have U:Builtin.Dict_items.ownsTuple "dict_keyiterator"=false:=by decide
 simp only [U,cD,bU];show wpAny _ _ (if(Value.ref d==Value.none)=true then _ else _) _ _ s;rw [aF (show ¬((Value.ref d==Value.none)=true)from aT)];refine aB (aH (aB (c_ Y J ?_)));rw [aF (16:)];refine aB (aH (aB (eJ Y J ?_)));rw [aF (16:)];refine aH ?_;simp only [show ¬((i:Int)<0)from by lia,bU,a_,at_i];refine aB ?_
 first | refine aB (eg hI.typeIs (21:)) | refine aB (eo hI.typeIs (21:))
 refine aB (gJ hI.typeIs ?_);show wpAny _ _ (setField (.ref it) 1 (rawInt ((i:Int)+1))>>=_) _ _ s;refine aB (fR M G (16:) ?_);have L:(s.heap.update it (Obj.mapFields (·.setIfInBounds 1 (rawInt ((i:Int)+1))))).IsKeyIter it d (i+1) ents.size ep:=by
  refine⟨_,dX _ M (Obj.isFreed_of_fields (fK G _)),(Obj.cls_mapFields ..).trans Z,?_⟩;rw [fK G];simp [rawInt]
 refine aB (cB (aB (gJ (s:={ s with heap:=s.heap.update it (Obj.mapFields (·.setIfInBounds 1 (rawInt ((i:Int)+1)))) }) L.typeIs ?_)));show wpAny _ _ (pure t.key) _ _ _;exact aH (aH ⟨_,rfl,aH (fin _ L (cU ..))⟩)
theorem Xe{Q:Option Value->Shared->Prop}(hh:A.handled=none)(hI:s.heap.IsKeyIter it d ents.size ents.size ep)(x:DEnt s.heap d ents ep)(fin:∀h2,Heap.ExtBut it s.heap h2->Q none { s with heap:=h2 }):wpAny (9:) A (pyNext (.ref it)) Q E s:=by
 obtain⟨Z,L,ci,M⟩:=id hI;obtain⟨od,U,Y,G⟩:=id x;unfold pyNext;refine aB (8:);refine aB (aH (aB (aB ?_)))
 first | refine aB (eg hI.typeIs (21:)) | refine aB (eo hI.typeIs (21:))
 refine aB (wpAny_fieldsOf L M ?_);have J:Builtin.Dict_items.ownsTuple "dict_keyiterator"=false:=by decide
 simp only [J,cD,bU];show wpAny _ _ (if(Value.ref d==Value.none)=true then _ else _) _ _ s;rw [aF (show ¬((Value.ref d==Value.none)=true)from aT)];refine aB (aH (aB (c_ U G ?_)));rw [aF (16:)];refine aB (aH (aB (eJ U G ?_)));rw [aF (16:)];refine aH ?_;simp only [show ¬(((ents.size:Nat):Int)<0)from by lia,bU,a_,eA (4:)];refine aB ?_
 first | refine aB (eg hI.typeIs (21:)) | refine aB (eo hI.typeIs (21:))
 show wpAny _ _ (setField (.ref it) 0 .none>>=_) _ _ s;refine aB (fR L M (16:) ?_);show wpAny _ _ (newExc (.type "StopIteration") []>>=_) _ _ _;refine aB ?_;simp only [newExc,newTuple];refine aB (cN ?_ (by size_fits));refine aB (m:=firstArgMember _ _) (wpAny_of_eq (a:=Value.none) (by first | rfl | (simp only [firstArgMember];rfl)) ?_);refine cN ?_ (by size_fits);simp only [raiseNew];refine aB (wpAny_handled ?_);rw [show A.in1.handled=none from hh];refine aB (aH (wpAny_throw ?_));refine aB (eZ (T:="StopIteration") (b:=true) ⟨_,bD _ rfl,rfl⟩ isSubtype_stop ?_);exact aH (fin _ (((cU ..).extBut.push _).push _))
theorem Uq(hh:A.handled=none)(ne:d≠it):Walks prog w A it [it,d] [it] ents.size (λi v=>∃t,ents[i]?=some t/\v=t.key) (λi h=>h.IsKeyIter it d i ents.size ep/\DEnt h d ents ep) where
 sub:=λb G=>by simp at G;simp [G]
 frame:=λ_ h h2 st k=>by
  obtain⟨⟨M,Y,Z⟩,J,L,rd⟩:=st;exact⟨⟨M,k it (16:) M Y,Z⟩,J,k d (16:) J L,rd⟩
 item:=λi s Q E hi st fin=>by
  refine Uy st.1 st.2 (en hi) λh2 I2 U=>?_;obtain⟨J,L,rd⟩:=st.2;refine fin _ h2 s.toks ⟨_,en hi,rfl⟩ ⟨I2,J,U.extBut d J ne L,rd⟩ λb o G e=>U.extBut b o (λz=>G (by simp [z])) e
 done:=λs Q E st fin=>Xe hh st.1 st.2 λh2 he=>fin h2 s.toks λb o G e=>he b o (λz=>G (by simp [z])) e
 self:=λ_ _ _ _ st fin=>wpAny_pyIter_keyiter st.1 fin
theorem J4(lo:(d==sysModules)=false):KdlSrc prog w "dict" d d ents.size (λi v=>∃t,ents[i]?=some t/\v=t.key) (λh=>DEnt h d ents ep) where
 type:=λ_ x=>x.ty
 there:=λ_ x=>⟨x.lt,x.lt⟩
 keep:=λ_ _ x k=>by
  obtain⟨o,g,r⟩:=x;exact⟨o,k d (.inl rfl) o g,r⟩
 notList:=by decide
 notTuple:=by decide
 hint:=λ_ _ _ _ x q=>kdl_hint_dict x.ty q
 iter:=λ_ _ G x=>⟨_,_,(λ_ _ q=>UA lo x q),Uq G (bC x.lt),⟨⟨_,bD _ rfl,rfl,rfl⟩,by
  obtain⟨o,g,r⟩:=x;exact⟨o,aN _ g,r⟩⟩⟩
end
theorem XI{α:Type}{l:Array α}{m:List α}(h:l.toList=m):l.size=m.length:=by rw [<-h,eS]
theorem JZ(hd:(d==sysModules)=false):
 MeetsIn prog w (Builtin.«dict.__len__» ⟨[.ref d],[]⟩) (λ_ R s=>∃ents ep,DEnt s.heap d ents ep/\R (.ok (.ret (.int ents.size s.toks))) { s with toks:=s.toks+1 }):=
 .of_wp λA R s ⟨ents,ep,J,h⟩=>by
  obtain⟨o,L,M,G⟩:=J;show wpAny _ _ (dictSize d>>=_) _ _ s;unfold dictSize;refine aB (aB (c_ L G (21:)));show wpAny _ _ (Builtin.Dict.pendingCount d>>=_) _ _ s;refine aB (wpAny_pendingCount_other hd ?_);refine wpAny_ret_mkInt ?_;rw [Nat.add_zero];exact h
theorem Xl{E:Value->Shared->Prop}(hd:(d==sysModules)=false)(hm:DEnt s.heap d ents ep)(hfit:(ents.size:Int)<2^63)
 (h:Q (.int ents.size (s.toks+1)) { s with toks:=s.toks+1+1 }):wpAny (9:) A (call (.builtin "len") [.ref d]) Q E s:=by
 refine Calls.call_function_entry kind_len plain_len entry_len (args_len1 _) ?_;unfold Builtin.«len»;refine aB (m:=oneArg "len" _) (21:);refine aB (m:=callSpecial? (.ref d) (Str.ofString "__len__")) (dU (name:=Str.ofString "__len__") hm.ty F.slot_dict_len
  (call_meetsIn F.slot_dict_len hm.ty F.entry_dict_len (F.args_dict_len_1 _) (JZ hd) ⟨ents,ep,hm,?_⟩))
 show wpAny _ _ _ _ _ { s with toks:=s.toks+1 };refine aB (cB (21:));refine aB (fj ?_);show wpAny _ _ (if((ents.size:Nat):Int)<0 then _ else _) _ _ _;rw [aF (5:)];show wpAny _ _ (if((ents.size:Nat):Int)>=2^63 then _ else _) _ _ _;rw [aF (5:)];exact aB (wpAny_mkInt (aH ⟨_,rfl,h⟩))
end LD
end L2
namespace L2
open PySem PySem.Spec PyProof.Rows
mutual
theorem Gw:∀(n:Nat){x y:PyData},nk n x->nk n y->PyData.eqv x y=true->x=y
 | 0,x,y,J,G,e=>by
  rcases J with⟨i,rfl⟩ | ⟨s,rfl,_⟩
  .rcases G with⟨j,rfl⟩ | ⟨t,rfl,_⟩
   .simp [PyData.eqv]at e;rw [e]
   .simp [PyData.eqv]at e
  .rcases G with⟨j,rfl⟩ | ⟨t,rfl,_⟩
   .simp [PyData.eqv]at e
   .simp [PyData.eqv]at e;rw [e]
 | n+1,x,y,J,G,e=>by
  rcases J with⟨i,rfl⟩ | ⟨s,rfl,_⟩ | ⟨ds,rfl,M⟩
  .rcases G with⟨j,rfl⟩ | ⟨t,rfl,_⟩ | ⟨es,rfl,L⟩
   .simp [PyData.eqv]at e;rw [e]
   .simp [PyData.eqv]at e
   .simp [PyData.eqv]at e
  .rcases G with⟨j,rfl⟩ | ⟨t,rfl,_⟩ | ⟨es,rfl,L⟩
   .simp [PyData.eqv]at e
   .simp [PyData.eqv]at e;rw [e]
   .simp [PyData.eqv]at e
  .rcases G with⟨j,rfl⟩ | ⟨t,rfl,_⟩ | ⟨es,rfl,L⟩
   .simp [PyData.eqv]at e
   .simp [PyData.eqv]at e
   .simp only [PyData.eqv]at e;rw [Lm n M L e]
theorem Lm:∀(n:Nat){ds es:List PyData},(∀d∈ds,nk n d)->(∀e∈es,nk n e)->PyData.eqvAll ds es=true->ds=es
 | n,[],[],_,_,_=>rfl
 | n,[],_::_,_,_,e=>by simp [PyData.eqvAll]at e
 | n,_::_,[],_,_,e=>by simp [PyData.eqvAll]at e
 | n,d::ds,x::es,h1,h2,e=>by
  simp only [PyData.eqvAll,bS]at e;rw [Gw n (h1 d aR) (h2 x aR) e.1,Lm n (λd G=>h1 d (23:)) (λe J=>h2 e (bR _ J)) e.2]
end
theorem Wp{n:Nat}(ih:∀{d:PyData},nk n d->d.canLay0=true/\d.depth<=n+1):∀{ds:List PyData},(∀d∈ds,nk n d)->PyData.canLayAll0 ds=true/\PyData.depthAll ds<=n+1
 | [],_=>by simp [PyData.canLayAll0,PyData.depthAll]
 | d::r,h=>by
  obtain⟨G,a2⟩:=ih (h d aR);obtain⟨J,b2⟩:=Wp ih λe L=>h e (bR _ L);simp only [PyData.canLayAll0,PyData.depthAll,G,J,cH,true_and];lia
theorem Yp:∀(n:Nat){d:PyData},nk n d->d.canLay0=true/\d.depth<=n+1
 | 0,d,h=>by
  rcases h with⟨i,rfl⟩ | ⟨x,rfl,G⟩
  .simp [PyData.canLay0,PyData.depth]
  .simp [PyData.canLay0,PyData.depth,G]
 | n+1,d,h=>by
  rcases h with⟨i,rfl⟩ | ⟨x,rfl,G⟩ | ⟨ds,rfl,J⟩
  .simp [PyData.canLay0,PyData.depth]
  .simp [PyData.canLay0,PyData.depth,G]
  .obtain⟨L,a2⟩:=Wp (λ{d} h=>Yp n h) J;simp only [PyData.canLay0,PyData.depth,L,true_and];lia
theorem XU{es:Array DictEntry}(hc:h.get? c=some ob)(hd:ob.data=.dict es ep)(sb:Heap.SameBut c h h'):∀(n:Nat){d:PyData}{v:Value}{as:List Addr},nk n d->Reads h v d as->∃as',Reads h' v d as'
 | 0,d,v,as,L,r=>by
  rcases L with⟨i,rfl⟩ | ⟨x,rfl,_⟩
  .cases r;exact⟨_,.int _ _⟩
  .cases r;exact⟨_,.str _ _⟩
 | n+1,d,v,as,L,r=>by
  rcases L with⟨i,rfl⟩ | ⟨x,rfl,_⟩ | ⟨ds,rfl,U⟩
  .cases r;exact⟨_,.int _ _⟩
  .cases r;exact⟨_,.str _ _⟩
  .cases r with
   | @tuple a o vs m xs as Y Z J M=>
   have ne:a≠c:=λz=>by
    subst z;rw [Y]at hc;obtain rfl:=aI hc;rw [J]at hd;cases hd
   have all:∀{G:List Value}{fs:List PyData}{as:List Addr},(∀e∈fs,nk n e)->ReadsAll h G fs as->∃as',ReadsAll h' G fs as':=by
    intro G fs as hn r
    induction G generalizing fs as with
    | nil=>cases r;exact⟨_,.nil⟩
    | cons u G ih=>
     cases r with
     | @cons _ _ f fs aa ab h1 h2=>
      obtain⟨as',q⟩:=XU hc hd sb n (hn f aR) h1;obtain⟨ac,q2⟩:=ih (λe he=>hn e (bR _ he)) h2;exact⟨_,.cons q q2⟩
   obtain⟨as',q⟩:=all U M;exact⟨_,.tuple (by rw [sb.2 a ne];exact Y) Z J q⟩
def ZR(prog:Program)(w:World):HeapKind prog w PyData where
 is h d a:=(∃as,Reads h (.ref a) d as)/\nk 6 d
 hash:=UV w
 draws:=drD
 room A:=A.units+8<cLine
 inj:=λ⟨⟨as,r⟩,_⟩ ⟨⟨bs,q⟩,_⟩=>(r.unique _ _ q).1
 keeps:=λ⟨⟨as,r⟩,k⟩ hc hd sb=>⟨XU hc hd sb 6 k r,k⟩
 pyHash:=λhr ⟨⟨as,r⟩,k⟩ q=>Rs 6 k r (5:) q
 eqBool:=λ{A E s x y a b Q} hr ⟨⟨as,r⟩,k⟩ ⟨⟨bs,q⟩,l⟩ h=>by
  have e1:=Yp 6 k;have e2:=Yp 6 l;refine SeqAt.eqBoolOverData prog w A E s _ _ _ _ _ _ Q r q e1.1 e2.1 (by have:=Nat.min_le_left x.depth y.depth;lia) ?_;have:PyData.eqv x y=decide (x=y):=by
   by_cases e:x=y
   .rw [bK e,e];exact ZH _ e2.1
   .rw [bN e];cases z:PyData.eqv x y with
    | false=>rfl
    | true=>exact absurd (Gw 6 k l z) e
  rw [this];exact h
 quiet:=λ⟨⟨as,r⟩,k⟩ q=>Nz 6 8 k r (12:) q
abbrev NKv:=List (PyData×Addr×V)
abbrev NT:NKv->List (PyData×Addr×Value)->Prop:=Paired λp q=>p.1=q.1/\p.2.1=q.2.1/\RelV p.2.2 q.2.2
def NdP(P:Program)(w:World)(a:Addr)(kvs:NKv)(h:Heap):Prop:=kvs.length<=sizeLine/\(a==sysModules)=false/\∃xs,NT kvs xs/\∃o es ep,h.get? a=some o/\o.ExactDict/\o.data=.dict es ep/\es.toList=xs.map (entryOfKey (ZR P w))/\(xs.map (·.1)).Nodup
def NdO(P:Program)(w:World)(a:Addr)(kvs:NKv):HO:=.ext (NdP P w a kvs)
theorem SE{kvs:NKv}(x:NdP P w a kvs h):ObjOk P w H h a (NdO P w a kvs):=by
 refine⟨x,?_,?_⟩
 .obtain⟨_,_,_,_,o,_,_,e,_⟩:=x;exact⟨o,e⟩
 .rintro h1 h2 ⟨G,J,xs,r,o,es,ep,e,c⟩ k;exact⟨G,J,xs,r,o,es,ep,k o e,c⟩
def YH(kvs:NKv)(d:PyData):Option V:=(kvs.find? λp=>decide (p.1=d)).map λp=>p.2.2
def WM(kvs:NKv)(d:PyData)(b:Addr)(v:V):NKv:=if(YH kvs d).isSome=true then kvs.map (λp=>if p.1=d then(p.1,p.2.1,v)else p)else kvs++[(d,b,v)]
theorem NT.val{kvs:NKv}{xs:List (PyData×Addr×Value)}(r:NT kvs xs)(k:PyData):RelO (YH kvs k) ((atKey xs k).map (·.2)):=by
 induction r with
 | nil=>exact cR
 | @cons p q ps qs h t J=>
  obtain⟨h1,_,h2⟩:=h
  by_cases e:p.1=k
  .have G:q.1=k:=h1.symm.trans e;have b:atKey (q::qs) k=some q.2:=by simp [atKey,cG,G]
   have c:YH (p::ps) k=some p.2.2:=by simp [YH,cG,e]
   rw [c,b];exact h2
  .have G:¬q.1=k:=λz=>e (h1.trans z);have b:atKey (q::qs) k=atKey qs k:=by simp [atKey,cG,G]
   have c:YH (p::ps) k=YH ps k:=by simp [YH,cG,e]
   rw [c,b];exact J
theorem NT.repl{kvs:NKv}{xs:List (PyData×Addr×Value)}(r:NT kvs xs)(k:PyData)(ry:RelV y u):
 NT (kvs.map λp=>if p.1=k then(p.1,p.2.1,y)else p) (xs.map (putAt k u)):=by
 induction r with
 | nil=>exact .nil
 | @cons p q ps qs h t G=>
  rw [aS,aS];refine .cons ?_ G;obtain⟨h1,h2,J⟩:=h;unfold putAt
  by_cases e:p.1=k
  .rw [aG e,aG (h1.symm.trans e)];exact⟨h1,h2,ry⟩
  .rw [aF e,aF (λz=>e (h1.trans z))];exact⟨h1,h2,J⟩
theorem NT.put{kvs:NKv}{xs:List (PyData×Addr×Value)}(r:NT kvs xs)(k:PyData)(ry:RelV y u):NT (WM kvs k b y) (storedH xs k b u):=by
 have e:(YH kvs k).isSome=(atKey xs k).isSome:=by rw [(r.val k).isSome_eq,Option.isSome_map]
 unfold WM storedH;rw [e]
 by_cases q:(atKey xs k).isSome=true
 .rw [aG q,aG q];exact r.repl k ry
 .rw [aF q,aF q];exact Paired.snoc r ⟨rfl,rfl,ry⟩
theorem WH(kvs:NKv)(d:PyData)(b:Addr)(v:V):(WM kvs d b v).length<=kvs.length+1:=by
 unfold WM;split
 .rw [aE];lia
 .rw [aW];exact aY _
def Xi(K:Fg)(H:Hp)(kvs:NKv):Prop:=∀p∈kvs,RdV K H (.ref p.2.1) p.1/\nk 6 p.1
section
variable{pins:List (10:)}{r:Value}{d:PyData}{kvs:NKv}{E:Value->Shared->Prop}
theorem U5(I:Inv X pins σ H s)(hb:RdV X.K H (.ref b) d)(hk:nk 6 d):(ZR X.prog X.w).is s.heap d b:=by
 obtain⟨G,q⟩:=hb.reads I (u:=.ref b) rfl;exact⟨⟨G,q⟩,hk⟩
theorem YI(I:Inv X pins σ H s)(e:H a=some (NdO X.prog X.w a kvs))(hk:Xi X.K H kvs):kvs.length<=sizeLine/\(a==sysModules)=false/\∃xs,NT kvs xs/\s.heap.DictOfH (ZR X.prog X.w) a xs:=by
 obtain⟨⟨z,y,xs,rr,o,es,ep,h1,h2,U,J,L⟩,G⟩:=(show ObjOk X.prog X.w H s.heap a (NdO X.prog X.w a kvs)from I.hok a _ e);refine⟨z,y,xs,rr,o,es,ep,h1,h2,U,J,?_,L⟩;clear J L e z G
 induction rr with
 | nil=>intro x hx;exact nomatch hx
 | @cons p q ps qs M t Y=>
  intro x hx;rcases aM.mp hx with e | hx
  .subst e;obtain⟨g1,g2⟩:=hk p aR;rw [<-M.1,<-M.2.1];exact U5 I g1 g2
  .exact Y (λp hp=>hk p (bR _ hp)) x hx
theorem LL(hu:A.units+9<cLine)(I:Inv X pins σ H s)(e:H a=some (NdO X.prog X.w a kvs))(hk:Xi X.K H kvs)(hb:RdV X.K H (.ref b) d)(hd:nk 6 d)(l:YH kvs d=some v)(h:∀w' s',Inv X pins σ H s'->RelV v w'->Q w' s'):
 wpAny (6:) A (getItem (.ref a) (.ref b)) Q E s:=by
 obtain⟨z,Y,xs,G,M⟩:=YI I e hk;obtain⟨w',U,J⟩:=RelO.some_of (v:=v) (o:=(atKey xs d).map (·.2)) (by rw [<-l];exact G.val d);obtain⟨p,hp,L⟩:=cL.mp U;refine wpAny_getItem_heap (knd:=ZR X.prog X.w) (show A.in1.units+8<cLine by show A.units+1+8<cLine;lia) (U5 I hb hd) M hp ?_;rw [L];exact h w' _ (I.tok _) J
theorem R9(hu:A.units+9<cLine)(I:Inv X pins σ H s)(e:H a=some (NdO X.prog X.w a kvs))(hk:Xi X.K H kvs)(hb:RdV X.K H (.ref b) d)(hd:nk 6 d)(h:∀s',Inv X pins σ H s'->Q (.bool (!(YH kvs d).isSome)) s'):
 wpAny (6:) A (compareOp .NotIn (.ref b) (.ref a)) Q E s:=by
 obtain⟨z,J,xs,G,L⟩:=YI I e hk;refine wpAny_notIn_heap (knd:=ZR X.prog X.w) (show A.in1.units+8<cLine by show A.units+1+8<cLine;lia) (U5 I hb hd) J L ?_;have q:=(G.val d).isSome_eq;rw [Option.isSome_map]at q;rw [<-q];exact h _ (I.tok _)
theorem MH{Q:Unit->Shared->Prop}(hu:A.units+9<cLine)(I:Inv X pins σ H s)(e:H a=some (NdO X.prog X.w a kvs))(hk:Xi X.K H kvs)(hb:RdV X.K H (.ref b) d)(hd:nk 6 d)(hl:kvs.length<sizeLine)(rv:RelV v r)(h:∀s',Inv X pins σ (upd H a (NdO X.prog X.w a (WM kvs d b v))) s'->Q () s'):
 wpAny (6:) A (setItem (.ref a) (.ref b) r) Q E s:=by
 obtain⟨z,M,xs,G,U⟩:=YI I e hk;have hz:xs.length<=sizeLine:=by rw [<-d_ G];exact z
 refine wpAny_setItem_heap (hsz:=hz) (knd:=ZR X.prog X.w) (show A.in1.units+8<cLine by show A.units+1+8<cLine;lia) (U5 I hb hd) U λh' J Y=>h _ ?_;obtain⟨q,es,ep,L,h2,Z,h4,_,h5⟩:=J;refine Jj I (by rw [e];exact cR) Y ⟨q,L⟩ (SE ⟨?_,M,_,G.put d rv,q,es,ep,L,h2,Z,h4,h5⟩);have:=WH kvs d b v;lia
end
def BW(P:Program)(w:World)(K:Fg)(td ty:TE):TE:=λσ H Q=>td σ H λx H1=>ty σ H1 λy H2=>∃a b kvs d v,x=.ref a/\y=.ref b/\H2 a=some (NdO P w a kvs)/\Xi K H2 kvs/\RdV K H2 (.ref b) d/\nk 6 d/\YH kvs d=some v/\Q v H2
def Rw(P:Program)(w:World)(K:Fg)(ty td:TE):TE:=λσ H Q=>ty σ H λy H1=>td σ H1 λx H2=>∃a b kvs d,x=.ref a/\y=.ref b/\H2 a=some (NdO P w a kvs)/\Xi K H2 kvs/\RdV K H2 (.ref b) d/\nk 6 d/\Q (.bl (!(YH kvs d).isSome)) H2
def Bm(P:Program)(w:World)(K:Fg)(td ty tv:TE):TS:=λD σ H=>tv σ H λv H1=>td σ H1 λx H2=>ty σ H2 λy H3=>∃a b kvs d,x=.ref a/\y=.ref b/\H3 a=some (NdO P w a kvs)/\Xi K H3 kvs/\RdV K H3 (.ref b) d/\nk 6 d/\kvs.length<sizeLine/\D.nx σ (upd H3 a (NdO P w a (WM kvs d b v)))
def A6(P:Program)(w:World):TE:=λ_ H Q=>∀p,H p=none->Q (.ref p) (upd H p (NdO P w p []))
section
variable{i:Expr}{td ty:TE}
theorem Px(hu:X.A.units+9<cLine)(ho:PE X o td)(hi:PE X i ty)(hs:AF i):PE X (.Subscript o i pos) (BW X.prog X.w X.K td ty):=by
 intro pins s σ H Q I h;refine Sg PySem.F.slot_dict_getitem.lookup hs (thn (ho pins s σ H _ I h) λu M ⟨x,H1,U,Y,Z⟩=>thn (hi pins M σ H1 _ U Z) λiv s2 ⟨y,H2,G,ry,a,b,kvs,d,v,ex,ey,e,J,hb,hd,l,q2⟩=>?_);subst ex ey;obtain rfl:u=Value.ref a:=Y;obtain rfl:iv=Value.ref b:=ry;obtain⟨_,_,xs,_,dd⟩:=YI G e J;exact⟨dd.typeIs,LL hu G e J hb hd l λw' s3 I3 L=>⟨v,H2,I3,L,q2⟩⟩
theorem LZ(hu:X.A.units+9<cLine)(hi:PE X i ty)(ho:PE X o td):PC X .NotIn i o (Rw X.prog X.w X.K ty td):=by
 intro pins s σ H Q I h;refine thn (hi pins s σ H _ I h) λG J ⟨y,H1,L,M,U⟩=>thn (ho pins J σ H1 _ L U) λu s2 ⟨x,H2,Y,Z,a,b,kvs,d,ex,ey,e,hk,hb,hd,q2⟩=>?_;subst ex ey;obtain rfl:u=Value.ref a:=Z;obtain rfl:G=Value.ref b:=M;exact R9 hu Y e hk hb hd λs3 I3=>⟨.bl _,H2,I3,rfl,q2⟩
theorem PL(hu:X.A.units+9<cLine)(ho:PE X o td)(hi:PE X i ty)(hv:PE X value tv)(hs:swapsWith value (some (.Subscript o i pos')) pos.line X.env=pure false):
 PS X (.Assign [.Subscript o i pos'] value pos) (Bm X.prog X.w X.K td ty tv):=by
 intro pins s σ H D I h;refine wpAny_Assign_Subscript (thn (hv pins s σ H _ I h) λr G ⟨v,H1,J,L,M⟩=>thn (ho pins G σ H1 _ J M) λu U ⟨x,H2,Y,Z,q2⟩=>thn (hi pins U σ H2 _ Y q2) λiv s3 ⟨y,H3,I3,ry,a,b,kvs,d,ex,ey,e,hk,hb,hd,hl,q3⟩=>?_) hs;subst ex ey;obtain rfl:u=Value.ref a:=Z;obtain rfl:iv=Value.ref b:=ry;exact MH hu I3 e hk hb hd hl L λs4 I4=>⟨σ,_,I4,q3⟩
theorem Rh:PE X (.Dict [] [] pos) (A6 X.prog X.w):=λpins s σ H Q I h=>
 wpAny_Dict_empty ⟨.ref s.heap.objs.size,_,I.laid (a:=s.heap.objs.size) (o:=NdO X.prog X.w s.heap.objs.size []) (t':=s.toks) (λ_ _ q=>aN _ q) (4:) (SE ⟨bE _,eD.mpr (aV (bC I.big)),[],.nil,_,#[],0,bD _ rfl,⟨rfl,rfl,rfl⟩,rfl,rfl,fQ⟩),rfl,h _ (I.hok.fresh (4:))⟩
end
namespace LD
theorem call_lenN:Q4 X (.builtin "len") (λxs H Q=>∃(d:Addr)(kvs:NKv),xs=[.ref d]/\H d=some (NdO X.prog X.w d kvs)/\Xi X.K H kvs/\Q (.int (kvs.length:Int)) H):=by
 intro pins s σ H xs us Q I rr h;obtain⟨d,kvs,rfl,M,U,q⟩:=h;obtain⟨u,rfl,Y⟩:=GE rr;cases Y;obtain⟨z,lo,ys,J,Z⟩:=YI I M U;have L:=d_ J;obtain⟨o,ents,ep,g1,g2,g3,g4,g5,g6⟩:=Z;have G:ents.size=kvs.length:=by rw [XI g4,aE,L]
 have hl:=Us;exact Xl lo ⟨o,g1,g2,g3⟩ (by rw [G];lia) ⟨.int (kvs.length:Int),H,(I.tok _).tok _,⟨s.toks+1,by rw [G]⟩,q⟩
end LD
end L2
namespace L2
namespace LD
open PySem PySem.Spec PyProof.Rows PySem.W
theorem call_listN(hc:X.calm=true):Q4 X (.type "list") (λxs H Q=>∃(d:Addr)(kvs:NKv),xs=[.ref d]/\H d=some (NdO X.prog X.w d kvs)/\Xi X.K H kvs/\∀p,H p=none->Q (.ref p) (upd H p (.lst (kvs.map λt=>V.ref t.2.1)))):=by
 intro pins s σ H xs us Q I r h;obtain⟨d,kvs,rfl,U,Y,q⟩:=h;cases r with
 | cons r rr=>
  cases rr;obtain rfl:_=Value.ref d:=r;obtain⟨z,lo,ys,J,hD⟩:=YI I U Y;have M:=d_ J;obtain⟨o,ents,ep,g1,g2,g3,Z,g5,g6⟩:=hD;have aa:ents.size=ys.length:=by rw [XI Z,aE]
  have L:ents.toList.map (·.key)=kvs.map λt=>Value.ref t.2.1:=by
   rw [Z,bX];clear Z g5 g6 aa M z U q Y
   induction J with
   | nil=>rfl
   | @cons p y ps ys h t ih=>
    rw [aS,aS,ih,h.2.1]
    rfl
  refine PySem.W.kdl_call (J4 (ents:=ents) (ep:=ep) lo) (I.ok.hd hc) ⟨o,g1,g2,g3⟩ (5:) λh1 tk acc c' keep ab its=>?_;have e:acc.toList=ents.toList.map (·.key):=by
   refine gN λj=>?_;rw [aK,fX,fX]
   by_cases hj:j<ents.size
   .have G:j<acc.size:=by rw [its.1];exact hj
    obtain⟨t,L,e2⟩:=its.2 j _ (en G);rw [en G,L,e2];rfl
   .have G:¬j<acc.size:=by rw [its.1];exact hj
    rw [eA (eQ.mp G),eA (eQ.mp hj)];rfl
  have ac:H s.heap.objs.size=none:=I.hok.fresh (4:);refine⟨.ref s.heap.objs.size,_,I.laid (t':=tk) (o:=.lst (kvs.map λt=>V.ref t.2.1)) keep (4:) ?_,rfl,q _ ac⟩;refine⟨by rw [aE];lia,acc.toList,c',?_,by rw [Array.toArray_toList];exact ab⟩;rw [e,L];clear L Y q J M z U
  induction kvs with
  | nil=>exact .nil
  | cons t r ih=>exact .cons rfl ih
end LD
end L2
namespace K40
open PySem L2 TM TT ST
abbrev S2:Stmt:=top 8
abbrev Tj:Stmt:=top 9
abbrev sWM:Stmt:=top 12
abbrev PN(p:List Nat):List V:=p.map λ(i:Nat)=>V.int (i:Int)
def PrV(K:Fg)(H:Hp)(a:Addr)(q:Ky):Prop:=∃c,SqT K H a [.int q.1,.ref c]/\SqT K H c (PN q.2)
theorem PrV.mono{K:Fg}(k:∀a xs,SqT K H a xs->SqT K H' a xs)(h:PrV K H a q):PrV K H' a q:=by
 obtain⟨c,h1,h2⟩:=h;exact⟨c,k _ _ h1,k _ _ h2⟩
mutual
inductive TxV(K:Fg)(H:Hp):V->TX->Prop where
 | call {a p:Addr} {q:Ky} {b:Int}:SqT K H a [.str ZD,.ref p,.int b]->PrV K H p q->TxV K H (.ref a) (.node (.call q b) 0 [])
 | put {a b:Addr} {vs:List V} {ts:List TX} {n:Str} {k:Bool} {ad:Int}:SqT K H a [.str PUT,.str n,.bl k,.int ad,.ref b]->SqT K H b vs->TxAll K H vs ts->vs.length<=1000->TxV K H (.ref a) (.node (.put n k ad) 0 ts)
inductive TxAll(K:Fg)(H:Hp):List V->List TX->Prop where
 | nil:TxAll K H [] []
 | cons {v:V} {vs:List V} {t:TX} {ts:List TX}:TxV K H v t->TxAll K H vs ts->TxAll K H (v::vs) (t::ts)
end
mutual
theorem TxV.mono{K:Fg}{H H':Hp}(k:∀a xs,SqT K H a xs->SqT K H' a xs):∀{v:V}{t:TX},TxV K H v t->TxV K H' v t
 | _,_,.call h1 h2=>.call (k _ _ h1) (h2.mono k)
 | _,_,.put h1 h2 G J=>.put (k _ _ h1) (k _ _ h2) (TxAll.mono k G) J
theorem TxAll.mono{K:Fg}{H H':Hp}(k:∀a xs,SqT K H a xs->SqT K H' a xs):∀{vs:List V}{ts:List TX},TxAll K H vs ts->TxAll K H' vs ts
 | _,_,.nil=>.nil
 | _,_,.cons h t=>.cons (TxV.mono k h) (TxAll.mono k t)
end
theorem TxAll.append{K:Fg}:∀{vs ws:List V}{ts us:List TX},TxAll K H vs ts->TxAll K H ws us->TxAll K H (vs++ws) (ts++us)
 | _,_,_,_,.nil,h=>h
 | _,_,_,_,.cons a t,h=>.cons a (TxAll.append t h)
theorem TxAll.length{K:Fg}:∀{vs:List V}{ts:List TX},TxAll K H vs ts->vs.length=ts.length
 | _,_,.nil=>rfl
 | _,_,.cons _ t=>by rw [bF,bF,TxAll.length t]
theorem TxAll.get{K:Fg}:∀{vs:List V}{ts:List TX}{i:Nat}{t:TX},TxAll K H vs ts->ts[i]?=some t->∃v,vs[i]?=some v/\TxV K H v t
 | _,_,_,_,.nil,e=>by simp at e
 | _,_,0,_,.cons h _,e=>by simp at e;subst e;exact⟨_,rfl,h⟩
 | _,_,i+1,t,.cons _ r,e=>by
  obtain⟨v,h1,h2⟩:=TxAll.get (i:=i) (t:=t) r (by simpa using e);exact⟨v,by simpa using h1,h2⟩
theorem YC{K:Fg}{t:TX}(h:TxV K H v t):(∃a p q b,v=.ref a/\t=.node (.call q b) 0 []/\SqT K H a [.str ZD,.ref p,.int b]/\PrV K H p q) \/
 ∃a b vs n k ad,v=.ref a/\t=.node (.put n k ad) 0 t.bs/\SqT K H a [.str PUT,.str n,.bl k,.int ad,.ref b]/\SqT K H b vs/\TxAll K H vs t.bs/\vs.length<=1000:=by
 cases h with
 | call h1 h2=>exact .inl ⟨_,_,_,_,rfl,rfl,h1,h2⟩
 | put h1 h2 G J=>exact .inr ⟨_,_,_,_,_,_,rfl,rfl,h1,h2,G,J⟩
theorem XH(ts:List TX)(c:TX):QY (ts++[c])=QY ts++clX c:=by
 induction ts with
 | nil=>simp [QY]
 | cons t r G=>rw [f_,QY,QY,G,dE]
mutual
theorem X8:∀t:TX,(clX t).length<=sz t
 | .node (.call q b) _ bs=>by rw [clX,sz];simp
 | .node (.put n k a) _ bs=>by rw [clX,sz];have:=J9 bs;lia
theorem J9:∀ts:List TX,(QY ts).length<=szs ts
 | []=>by rw [QY,szs];exact aY _
 | t::r=>by rw [QY,szs,aW];have:=X8 t;have:=J9 r;lia
end
inductive SumL(K:Fg)(p:Addr)(H:Hp)(Q:VK):Prop where
 | s (ns:List Int) (h:SqL K H p (ns.map V.int)) (k:Q (.int ns.sum) H):SumL K p H Q
def OI(K:Fg)(vs:List V)(H:Hp)(Q:VK):Prop:=match vs with
 | [.ref p]=>SumL K p H Q
 | _=>False
theorem Mz(X:Cx)(hc:X.calm=true):Q4 X (.builtin "sum") (OI X.K):=by
 intro pins s σ H xs G Q I r h;unfold OI at h;split at h
 .cases h with
  | s ns J k=>exact Mv hc pins s σ H _ G Q I r ⟨_,ns,rfl,J,k⟩
 .exact h.elim
theorem C1{K:Fg}{k:Nat}(c:G3.Cxt X P w K mg base k){x:Str}{id:String}(hc:∀X:Cx,X.calm=true->Q4 X (.builtin id) (r X.K))(hm:mg x=none)(hv:bootBuiltins x=some (.builtin id))(hn:x≠"__name__":=by decide):G3.CallOk X x (λ_ vs H Q=>r K vs H Q):=by
 obtain⟨rfl,rfl,rfl,rfl,rfl,J,G⟩:=c;exact .blt (hc X G) hm hv hn
def BX(K:Fg):G3.Mr:=⟨tyV K "list",G0⟩
theorem Pk(X:Cx):G3.MethOk X "extend" (BX X.K):=.bm cS gQ gR Ut
theorem at0(x:V)(r:List V):atI (x::r) 0=some x:=Qo (j:=0) rfl
def Yk(K:Fg):Sp:=λvs H Q _=>∃(a:Addr)(s:Str)(r:List V),vs=[.ref a]/\SqT K H a (.str s::r)/\Q (.bl (decide (s=ZD))) H
def C9:List G3.S:=[.ret (.cmp .Eq (.ix (.v 0) (.k (.int 0))) (.k (.str "call")))]
def SY(K:Fg):G3.En:=⟨K,[],[],[],[]⟩
def M9(K:Fg):Sp:=λvs H Q _=>∃(a l:Addr)(ws:List V)(z n k ad y:V),vs=[.ref a,.ref l]/\SqT K H a [z,n,k,ad,y]/\SqL K H l ws/\
 ∀(p b:Addr)(H':Hp),Same H H'->SqT K H' p [.str PUT,n,k,ad,.ref b]->SqT K H' b ws->Q (.ref p) H'
def cWP:List G3.S:=[.ret (.tup [.k (.str "put"),.ix (.v 0) (.k (.int 1)),.ix (.v 0) (.k (.int 2)),.ix (.v 0) (.k (.int 3)),.call 0 [.v 1]])]
def nWP(K:Fg):G3.En:=⟨K,[λ_ vs H Q=>G3.rTupOf K vs H Q],[],[],[]⟩
def OE(K:Fg)(n:Nat):Sp:=λvs H Q _=>∃(v:V)(t:TX),vs=[v]/\TxV K H v t/\lv t<=n/\∀(H':Hp),Same H H'->Q (.int (sz t:Int)) H'
def cSz:List G3.S:=[.ite (.call 0 [.v 0]) [.ret (.k (.int 1))] [],.ret (.bin .Add (.k (.int 1)) (.call 1 [.comp 2 (.ix (.v 0) (.k (.int 4))) [] (.call 2 [.v 0])]))]
def nSz(K:Fg)(n:Nat):G3.En:=⟨K,[λ_ vs H Q=>Yk K vs H Q E0,λ_ vs H Q=>OI K vs H Q,λ_ vs H Q=>OE K n vs H Q E0],[],[],[]⟩
abbrev TsT:=Addr×Addr×Ky×Int
abbrev RfX(ts:List TsT):List V:=ts.map λt=>V.ref t.1
def TsX(K:Fg)(H:Hp)(ts:List TsT):Prop:=∀t∈ts,SqT K H t.1 [.ref t.2.1,.int t.2.2.2]/\PrV K H t.2.1 t.2.2.1
theorem TsX.mono{K:Fg}{ts:List TsT}(h:TsX K H ts)(k:∀a xs,SqT K H a xs->SqT K H' a xs):TsX K H' ts:=λt G=>⟨k _ _ (h t G).1,(h t G).2.mono k⟩
def NB(K:Fg)(n:Nat):Sp:=λvs H Q _=>∃(v:V)(t:TX),vs=[v]/\TxV K H v t/\lv t<=n/\sz t<=1000/\
 ∀(l:Addr)(H':Hp)(ts:List TsT),Same H H'->H l=none->H' l=some (.lst (RfX ts))->TsX K H' ts->ts.map (·.2.2)=clX t->Q (.ref l) H'
def cCX:List G3.S:=[.ite (.call 0 [.v 0]) [.ret (.lst [.tup [.ix (.v 0) (.k (.int 1)),.ix (.v 0) (.k (.int 2))]])] [],.set 1 (.lst []),.forT 2 (.ix (.v 0) (.k (.int 4))) [.ex (.meth 0 (.v 1) [.call 1 [.v 2]])],.ret (.v 1)]
def nCX(K:Fg)(n:Nat):G3.En:=⟨K,[λ_ vs H Q=>Yk K vs H Q E0,λ_ vs H Q=>NB K n vs H Q E0],[BX K],[],[]⟩
section
variable{K:Fg}
theorem MW:FnScope ["term"] ["term"] (defScope Mp):=(0:)
theorem Tz(F:Fun K "is_call" "is_call" Mp f fd)(G:Gm mg):FnOk P w K mg base CX0 1 f fd ["term"] (Yk K):=by
 refine G3.Fun.okC F MW (SY K) C9 (λX c=>⟨.nil,.nil,.nil⟩) (7:) (λH vs Q E h=>?_) G.rng
 .obtain⟨a,s,r,rfl,_⟩:=h
  rfl
 obtain⟨a,s,r,rfl,h1,q⟩:=h;exact .t _ _ h1 (at0 _ _) q
theorem De:FnScope ["term","parts"] ["term","parts"] (defScope sWP):=(0:)
theorem A7(F:Fun K "with_parts" "with_parts" sWP f fd)(G:Gm mg):FnOk P w K mg base CX0 1 f fd ["term","parts"] (M9 K):=by
 refine G3.Fun.okC F De (nWP K) cWP (λX c=>⟨.cons (c.ty (λ_=>G3.call_tupOf) G.tup cK) .nil,.nil,.nil⟩) (7:) (λH vs Q E h=>?_) G.rng
 .obtain⟨a,l,J,z,n,k,M,y,rfl,_⟩:=h
  rfl
 obtain⟨a,l,J,z,n,k,M,y,rfl,h1,h2,q⟩:=h;exact .t _ _ h1 rfl<| .t _ _ h1 rfl<| .t _ _ h1 rfl<| .l J h2 λb X1 k1 U=>⟨λp Y L Z _=>q p b Y (k1.trans L) Z (L.seqT U)⟩
theorem CM:FnScope ["term"] ["term"] (defScope S2):=(0:)
theorem A9(F:Fun K "term_size" "term_size" S2 f fd)(G:Gm mg)(RC:Fn P w K mg base 1 "is_call" ["term"] (Yk K))(R:Fn P w K mg base (n+1) "term_size" ["term"] (OE K n)):FnOk P w K mg base CX0 (n+2) f fd ["term"] (OE K (n+1)):=by
 refine G3.Fun.okC F CM (nSz K n) cSz (λX c=>⟨.cons (c.fn RC (5:)) (.cons (C1 c Mz G.sum PyProof.Rows.boot_sum) (.cons (c.fn R (4:)) .nil)),.nil,.nil⟩) (7:) (λH vs Q E h=>?_) G.rng
 .obtain⟨v,t,rfl,_⟩:=h
  rfl
 obtain⟨v,t,rfl,ht,L,q⟩:=h;rcases YC ht with⟨a,p,k,b,rfl,rfl,h1,hp⟩ | ⟨a,b,bs,nm,k,ad,rfl,et,h1,h2,M,h4⟩
 .exact⟨a,ZD,_,rfl,h1,q H λ_ _ e=>e⟩
 refine⟨a,PUT,_,rfl,h1,?_⟩;have aa:=M.length;rw [lv_bs]at L;refine .t _ _ h1 rfl<| .t bs h2<| .s (λi ys H1=>ys=((t.bs.take i).map λu=>V.int (sz u:Int))) (λH1 g=>rfl) (λacc i ys l H1 H2 h _ _ _ k=>h) (5:) (λi ys H1 hi _ g h=>?_) λp ys H1 g hp h=>?_
 .have J:=aD (show i<t.bs.length by lia);obtain⟨U,Y,Z⟩:=M.get J;have ex:(bs[i]?).getD .non=U:=by rw [Y];rfl
  rw [ex];have:=ZL (aL J);refine⟨U,_,rfl,Z.mono λ_ _=>g.seqT,by lia,λH2 g2=>⟨g2,?_⟩⟩;rw [h,bB,J,aP];rfl
 rw [bH (5:)]at h;have es:(sz t:Int)=1+(t.bs.map λu=>(sz u:Int)).sum:=by
  rw [Ni];have:∀l:List TX,((szs l:Nat):Int)=(l.map λu=>(sz u:Int)).sum:=λl=>by
   induction l with
   | nil=>rfl
   | cons x r ih=>simp only [szs,aS,List.sum_cons,<-ih];lia
  rw [<-this];lia
 refine .s (t.bs.map λu=>(sz u:Int)) (by rw [bX];rw [h]at hp;exact SqL.of hp) ?_;show Q (.int (1+_)) H1;rw [<-es];exact q H1 g
theorem Ct:FnScope ["term","told","part"] ["term"] (defScope sCO):=(0:)
theorem AK(F:Fun K "calls_of" "calls_of" sCO f fd)(G:Gm mg)(RC:Fn P w K mg base 1 "is_call" ["term"] (Yk K))(R:Fn P w K mg base (n+1) "calls_of" ["term"] (NB K n)):FnOk P w K mg base CX0 (n+2) f fd ["term"] (NB K (n+1)):=by
 refine G3.Fun.okC F Ct (nCX K n) cCX (λX c=>⟨.cons (c.fn RC (5:)) (.cons (c.fn R (4:)) .nil),.cons (c.meth Pk) .nil,.nil⟩) (7:) (λH vs Q E h=>?_) G.rng
 .obtain⟨v,t,rfl,_⟩:=h
  rfl
 obtain⟨v,t,rfl,ht,ae,af,q⟩:=h;rcases YC ht with⟨a,p,k,b,rfl,rfl,h1,hp⟩ | ⟨a,b,bs,nm,k,ad,rfl,et,h1,h2,h3,h4⟩
 .refine⟨a,ZD,_,rfl,h1,.t _ _ h1 rfl<| .t _ _ h1 rfl ⟨λp1 X1 k1 d1 _=>⟨λl X2 k2 d2 n2=>q l X2 [(p1,p,k,b)] (k1.trans k2) (k1.free n2) d2 (λx L=>?_) rfl⟩⟩⟩;rw [bJ.mp L];exact⟨k2.seqT d1,hp.mono λ_ _=>(k1.trans k2).seqT⟩
 have ac:clX t=QY t.bs:=by
  have:=congrArg clX et;rw [this];simp [clX]
 refine⟨a,PUT,_,rfl,h1,?_⟩;have ak:=h3.length;rw [lv_bs]at ae;rw [Ni]at af;rw [ac]at q;refine⟨λl H0 g0 e0 n0=>.t _ _ (g0.seqT h1) rfl<|let J_:J3:=(λi σ H'=>∃(J:List TsT)(c2:Option V),σ=[some (.ref a),some (.ref l),c2]/\Same H H'/\H' l=some (.lst (RfX J))/\TsX K H' J/\J.map (·.2.2)=QY (t.bs.take i));.f bs J_ ⟨[],none,rfl,g0,e0,λx L=>(nomatch L),by simp [QY]⟩ ?_ ?_ ?_⟩
 .rintro i σ H' _ ⟨J,c1,_,g,_⟩;exact g.seqT h2
 .rintro i x σ H' L ⟨J,c2,rfl,g,U,Y,M⟩;have hi:i<bs.length:=(aU.mp L).1;obtain⟨c,hc⟩: ∃c,t.bs[i]?=some c:=⟨_,aD (5:)⟩;obtain⟨cv,ag,ah⟩:=h3.get hc;obtain rfl:cv=x:=aI (ag.symm.trans L);have hm:=aL hc;have a1:=ZL hm;have a2:=OR hm;refine⟨G3.tyL U,cv,c,rfl,ah.mono λ_ _=>g.seqT,by lia,by lia,λlb Hb ab gb al ai aj Z=>?_⟩;have aa:=gb _ _ U;have tl:J.length<=szs t.bs:=by
   have e:=congrArg List.length M;rw [aE]at e;have h5:=J9 (t.bs.take i);have am:=Oa t.bs i;lia
  have an:ab.length<=sz c:=by
   have e:=congrArg List.length Z;rw [aE]at e;have h5:=X8 c;lia
  refine⟨l,lb,_,_,rfl,rfl,aa,ai,by rw [aE,aE];exact ZM (5:),J++ab,_,rfl,λx u e=>?_,by rw [Qb];simp,λx L=>?_,?_⟩
  .rw [Qe (Qf e n0)];exact gb _ _ (g _ _ e)
  .rcases aX.mp L with z | z
   .exact((Y.mono λ_ _=>gb.seqT).mono λ_ _ h=>h.put aa) x z
   .exact(aj.mono λ_ _ h=>h.put aa) x z
  .rw [aP,M,Z,bB,hc];show _=(QY (t.bs.take i++[c]));rw [XH]
 .rintro σ H' ⟨J,c2,rfl,g,U,Y,M⟩;rw [bH (5:)]at M;exact q l H' J g n0 U Y M
end
end K40
namespace K40
open K51
open PySem L2 TM TT K9 K11 ST
def pnL(c k:Int):List Nat:=(List.range (1+c%8).toNat).map λ(j:Nat)=>YJ (c/((j:Int)+64)+(j:Int)*(j:Int)+if(j:Int)=c/8%(1+c%8)then k else 0)
theorem Ay(c k:Int):∀x∈pnL c k,x<128:=by
 intro x G;obtain⟨j,_,rfl⟩:=aJ.mp G;exact Pf _
theorem RK{c k k':Int}(h0:0<=k)(h1:k<26)(h0':0<=k')(h1':k'<26)(e:pnL c k=pnL c k'):k=k':=by
 unfold pnL at e;have L:0<=c%8:=cJ _ (12:);have M:0<=c/8%(1+c%8):=cJ _ (5:);have U:c/8%(1+c%8)<1+c%8:=cV _ (5:);have G:(c/8%(1+c%8)).toNat<(1+c%8).toNat:=by lia
 have g:=congrArg (λl:List Nat=>l[(c/8%(1+c%8)).toNat]?) e;simp only [aK,f7 G,gw,Option.some.injEq]at g;have J:(((c/8%(1+c%8)).toNat:Nat):Int)=c/8%(1+c%8):=by lia
 rw [J,aG rfl,aG rfl]at g;have:=L7 g;generalize c/(c/8%(1+c%8)+64)+c/8%(1+c%8)*(c/8%(1+c%8))=z at this;lia
abbrev pn(c k:Int):Str:=S (pnL c k)
theorem W6(c k:Int):PyData.strOk (pn c k)=true:=Nm.of (Ay c k)
theorem Po{c k k':Int}(h0:0<=k)(h1:k<26)(h0':0<=k')(h1':k'<26)(e:pn c k=pn c k'):k=k':=RK h0 h1 h0' h1' (Bz e)
abbrev pns(c:Int)(n:Nat):List Str:=(List.range n).map λ(i:Nat)=>pn c (i:Int)
def Xc(K:Fg):Sp:=λvs H Q _=>∃(a:Addr)(ns:List Int)(k:Nat),vs=[.ref a,.int k]/\SqL K H a (ns.map V.int)/\Q (.int ((ns[k]?).getD 0)) H
def Yu:Sp:=λvs H Q _=>∃(c:Int)(n:Nat),vs=[.int c,.int (n:Int)]/\n<=100/\∀(l:Addr)(xs:List Int)(H':Hp),Same H H'->H l=none->H' l=some (.lst (xs.map V.int))->xs.length=n->(∀x∈xs,0<=x)->Q (.ref l) H'
def Uk:Sp:=λvs H Q _=>∃(c:Int)(n:Nat),vs=[.int c,.int (n:Int)]/\n<=100/\∀(l:Addr)(H':Hp),Same H H'->H l=none->H' l=some (.lst ((pns c n).map V.str))->Q (.ref l) H'
section
variable{K:Fg}
theorem As:FnScope ["_law_script","_law_k"] ["_law_script","_law_k"] (defScope NE):=(0:)
theorem RV(F:Fun K "_law_cell_at" "_law_cell_at" NE f fd)(G:Gm mg):FnOk P w K mg base CX0 1 f fd ["_law_script","_law_k"] (Xc K):=by
 refine F.ok As (7:) (λU A outer s H vs Q E Y h=>?_)
 .obtain⟨a,ns,k,rfl,_⟩:=h
  rfl
 obtain⟨a,ns,k,rfl,L,q⟩:=h;refine⟨_,Qg (QM (Qw Va (pv 1) (Ql Qm rfl G.len bO (Qa (pv 0) Qc)) (QA _)) (Qi (Qn (Qk QL (pv 0) (pv 1) (λ_ _=>rfl)))) Qr)
  (Qi (Qn Qh)),?_⟩
 refine⟨_,rfl,_,rfl,a,_,rfl,.inl L,_,_,rfl,rfl,_,rfl,Rt (λc=>?_) (λc=>?_)⟩
 .have J:(k:Int)<(((ns.map V.int).length:Nat):Int):=bM c;rw [aE]at J;have M:k<ns.length:=by lia
  rw [aD M]at q;exact⟨_,rfl,_,rfl,a,_,k,.int ns[k],rfl,rfl,L,Qo (by rw [aK,aD M];rfl),q⟩
 .have J:¬(k:Int)<(((ns.map V.int).length:Nat):Int):=λz=>c (bK z);rw [aE]at J;rw [dJ (5:)]at q;exact q
theorem Yg:FnScope ["_law_cell","_law_count","_law_found","_law_x","_law_k"] ["_law_cell","_law_count"] (defScope XY):=(0:)
theorem L4(F:Fun K "_law_stream" "_law_stream" XY f fd)(G:Gm mg):FnOk P w K mg base CX0 1 f fd ["_law_cell","_law_count"] Yu:=by
 refine F.ok Yg (7:) (λaa A outer s H vs Q E hr h=>?_)
 .obtain⟨c,n,rfl,_⟩:=h
  rfl
 obtain⟨c,n,rfl,hn,q⟩:=h;refine⟨_,(Qg (Qz (i:=2) Yg.nd rfl (18:) (Zs Qc))
  (Qg (Qz (i:=3) Yg.nd rfl (18:) (QS ZP (QS Uw (pv 0) Qh) Qh))
  (Qg (QG bV rfl (Q3 rfl G.rng (Qa (pv 1) Qc)) (Qq (i:=4) Yg.nd rfl (18:)) (Qg (Qz (i:=3) Yg.nd rfl (18:) (QS Uw (QS ZP (QS ZP (QS ZP (QS Jl (pv 3) (pv 3)) (QS Jl Qh (pv 3))) (QS Jl Qh (pv 4))) Qh) Qh))
  (Qi (Zc (Ua cS fu fw Zo (pv 2) (Qa (QS Jg (pv 3) Qh) Qc))))))
  (Qi (Qn (pv 2)))))),?_⟩
 refine L2.let3 ?_
 intros
 refine⟨(by show 0<=sizeLine;decide),λl Y=>?_⟩;have g0:=Qd Y (.lst []);refine⟨_,rfl,_,_,rfl,rfl,(by show(0:Int)<2147483629;decide),_,_,rfl,rfl,?_⟩;have m0:0<=c%2147483629:=cJ _ (12:);have m1:c%2147483629<2147483629:=cV _ (12:);refine⟨_,rfl,_,rfl,(by show-(2^62:Int)<=(n:Int);lia),(by show(n:Int)<2^62;lia),?_⟩;refine let J_:J3:=(λi σ H'=>∃(x:Int)(xs:List Int)(Z:Option V),σ=[some (.int c),some (.int (n:Int)),some (.ref l),some (.int x),Z]/\0<=x/\x<3000000000/\Same H H'/\H' l=some (.lst (xs.map V.int))/\xs.length=i/\∀y∈xs,0<=y);Zm (lo:=0) (n:=(n:Int).toNat) J_
  ⟨_,[],none,rfl,(by show(0:Int)<=c%2147483629+7;lia),(by show c%2147483629+7<3000000000;lia),g0,Qb,rfl,λy L=>(nomatch L)⟩ ?_ ?_
 .rintro i σ H' hi ⟨x,xs,Z,rfl,x0,x1,g,J,M,U⟩;rw [a_]at hi;refine⟨_,rfl,_,rfl,_,_,rfl,rfl,.inl ⟨(by show-(2^64:Int)<x;lia),(by show x<2^64;lia)⟩,_,rfl,_,_,rfl,rfl,.inl ⟨by decide,by decide⟩,_,_,rfl,rfl,_,rfl,_,_,rfl,rfl,.inl ⟨by decide,by decide⟩,_,_,rfl,rfl,_,_,rfl,rfl,_,_,rfl,rfl,(by show(0:Int)<2147483629;decide),?_⟩;refine⟨_,rfl,.inl ⟨rfl,_,SqL.of J⟩,_,rfl,_,_,rfl,rfl,⟨by decide,by decide⟩,l,_,_,rfl,rfl,J,by rw [aE,QD];lia,?_⟩;generalize L:(x*x+69069*x+5*(0+(i:Int))+1)%2147483629=y;have y0:0<=y:=by rw [<-L];exact cJ _ (12:)
  have y1:y<2147483629:=by rw [<-L];exact cV _ (12:)
  refine⟨y,xs++[y/16],some (.int (0+(i:Int))),?_,y0,by lia,λb u e=>?_,?_,by simp [M],λz hz=>?_⟩
  .rw [<-L];rfl
  .rw [Qe (Qf e Y)];exact g _ _ e
  .have ab:(λi j:Int=>V.int (i/j)) y 16=V.int (y/16):=rfl;rw [Qb,aP,<-L];rfl
  .rcases aX.mp hz with h | h
   .exact U z h
   .obtain rfl:z=y/16:=by simpa using h
    lia
 .rintro σ H' ⟨x,xs,Z,rfl,_,_,g,J,M,U⟩;exact⟨_,rfl,q l xs H' g Y J (by rw [M,a_]) U⟩
theorem Zl:FnScope ["_law_cell","_law_count","_law_letters","_law_long","_law_spot","_law_found","_law_k","_law_name","_law_j","_law_step"] ["_law_cell","_law_count"] (defScope VS):=(0:)
theorem NZ(F:Fun K "_law_names" "_law_names" VS f fd)(G:Gm mg):FnOk P w K mg base CX0 1 f fd ["_law_cell","_law_count"] Uk:=by
 refine F.ok Zl (7:) (λae A outer s H vs Q E hr h=>?_)
 .obtain⟨c,n,rfl,_⟩:=h
  rfl
 obtain⟨c,n,rfl,hn,q⟩:=h;refine⟨_,(Qg (Qz (i:=2) Zl.nd rfl (18:) Zi)
  (Qg (Qz (i:=3) Zl.nd rfl (18:) (QS ZP Qh (QS Uw (pv 0) Qh)))
  (Qg (Qz (i:=4) Zl.nd rfl (18:) (QS Uw (QS Jg (pv 0) Qh) (pv 3)))
  (Qg (Qz (i:=5) Zl.nd rfl (18:) (Zs Qc))
  (Qg (QG bV rfl (Q3 rfl G.rng (Qa (pv 1) Qc)) (Qq (i:=6) Zl.nd rfl (18:)) (Qg (Qz (i:=7) Zl.nd rfl (18:) Zi)
  (Qg (QG bV rfl (Q3 rfl G.rng (Qa (pv 3) Qc)) (Qq (i:=8) Zl.nd rfl (18:)) (Qg (Qz (i:=9) Zl.nd rfl (18:) (QS ZP (QS Jg (pv 0) (QS ZP (pv 8) Qh)) (QS Jl (pv 8) (pv 8))))
  (Qg (Wy (QM (Qw ZX (pv 8) (pv 4) (QA _)) (Qi (Qz (i:=9) Zl.nd rfl (18:) (QS ZP (pv 9) (pv 6)))) Qr))
  (Qi (Qz (i:=7) Zl.nd rfl (18:) (QS V6 (pv 7) (Qk SS (pv 2) (QS Uw (pv 9) Qh) (λ_ _=>rfl))))))))
  (Qi (Zc (Ua cS fu fw Zo (pv 5) (Qa (pv 7) Qc)))))))
  (Qi (Qn (pv 5)))))))),?_⟩
 refine L2.let5 ?_
 intros
 have aa:VJ.length<=sizeLine:=by rw [Ol,OU];exact ZM (12:)
 have h0:0<=c%8:=cJ c (12:);have h8:c%8<8:=cV c (12:);refine⟨_,rfl,_,_,rfl,rfl,(by show(0:Int)<8;decide),_,_,rfl,rfl,?_⟩;refine⟨_,rfl,_,_,rfl,rfl,⟨by decide,by decide⟩,_,rfl,_,_,rfl,rfl,(by show(0:Int)<1+c%8;lia),?_⟩;refine⟨(by show 0<=sizeLine;decide),λl L=>?_⟩;have g0:=Qd L (.lst []);refine⟨_,rfl,_,rfl,(by show-(2^62:Int)<=(n:Int);lia),(by show(n:Int)<2^62;lia),?_⟩;refine let M:J3:=(λi σ H'=>∃(U Y Z c9:Option V),σ=[some (.int c),some (.int (n:Int)),some (.str VJ),some (.int (1+c%8)),some (.int (c/8%(1+c%8))),some (.ref l),U,Y,Z,c9]/\Same H H'/\H' l=some (.lst ((pns c i).map V.str)));Zm (lo:=0) (n:=(n:Int).toNat) M
  ⟨none,none,none,none,rfl,g0,Qb⟩ ?_ ?_
 .rintro k σ H' hk ⟨U,Y,Z,c9,rfl,g,J⟩;rw [a_]at hk;refine⟨_,rfl,_,rfl,(by show-(2^62:Int)<=1+c%8;lia),(by show(1+c%8:Int)<2^62;lia),?_⟩;refine let M:J3:=(λi σ H2=>∃(k1 k2:Option V),σ=[some (.int c),some (.int (n:Int)),some (.str VJ),some (.int (1+c%8)),some (.int (c/8%(1+c%8))),some (.ref l),some (.int (0+(k:Int))),some (.str (S ((List.range i).map λ(j:Nat)=>YJ (c/((j:Int)+64)+(j:Int)*(j:Int)+if(j:Int)=c/8%(1+c%8)then(k:Int)else 0)))),k1,k2]/\H2=H');Zm (lo:=0) (n:=(1+c%8).toNat) M
   ⟨_,_,by simp only [List.range_zero,List.map_nil];rw [<-P2];rfl,rfl⟩ ?_ ?_
  .rintro i σ H2 hi ⟨k1,k2,rfl,rfl⟩;have e0:(0:Int)+(i:Int)=(i:Int):=by lia
   have af:i<8:=by lia
   refine⟨_,rfl,_,rfl,_,_,rfl,rfl,_,_,rfl,rfl,⟨(by show(0:Int)<0+(i:Int)+64;lia),(by show(0+(i:Int)+64:Int)<1073741824;lia)⟩,_,rfl,_,rfl,_,_,rfl,rfl,.inl ⟨(by show-(2^64:Int)<0+(i:Int);lia),(by show(0+(i:Int):Int)<2^64;lia)⟩,_,_,rfl,rfl,?_⟩;refine⟨λab H3=>∃st:Int,st=c/((i:Int)+64)+(i:Int)*(i:Int)+(if(i:Int)=c/8%(1+c%8)then(k:Int)else 0)/\ab=[some (.int c),some (.int (n:Int)),some (.str VJ),some (.int (1+c%8)),some (.int (c/8%(1+c%8))),some (.ref l),some (.int (0+(k:Int))),some (.str (S ((List.range i).map λ(j:Nat)=>YJ (c/((j:Int)+64)+(j:Int)*(j:Int)+if(j:Int)=c/8%(1+c%8)then(k:Int)else 0)))),some (.int (0+(i:Int))),some (.int st)]/\H3=H2,?_,?_⟩
   .refine⟨_,rfl,_,rfl,rfl,_,rfl,Rt (λhd=>?_) (λhd=>?_)⟩
    .have ac:(0:Int)+(i:Int)=c/8%(1+c%8):=V.int.inj (bM hd);refine⟨_,rfl,_,rfl,_,_,rfl,rfl,_,?_,rfl,rfl⟩;show c/(0+(i:Int)+64)+(0+(i:Int))*(0+(i:Int))+(0+(k:Int))=_;rw [aG (5:),e0,eM]
    .have ac:¬(0:Int)+(i:Int)=c/8%(1+c%8):=λz=>of_decide_eq_false (Bool.eq_false_iff.mpr hd) (congrArg V.int z);refine⟨_,?_,rfl,rfl⟩;show c/(0+(i:Int)+64)+(0+(i:Int))*(0+(i:Int))=_;rw [aF (5:),Int.add_zero,e0]
   rintro ab H3 ⟨st,ad,rfl,rfl⟩;refine⟨_,rfl,_,rfl,_,rfl,_,_,rfl,rfl,(by show(0:Int)<26;decide),_,_,YJ st,rfl,rfl,aa,Ra _,_,_,rfl,rfl,?_,?_⟩
   .rw [Sv,OU,OU,aE,eI];exact ZM (by simp only [cM];lia)
   .refine⟨some (.int (0+(i:Int))),some (.int st),?_,rfl⟩;rw [Sv,AW,gD,aP,ad];rfl
  .rintro σ H2 ⟨k1,k2,rfl,rfl⟩;refine⟨_,rfl,.inl ⟨rfl,_,SqL.of J⟩,_,rfl,l,_,_,rfl,rfl,J,by rw [aE,aE,eI,QD];lia,?_⟩;refine⟨_,_,_,_,rfl,λb u e=>?_,?_⟩
   .rw [Qe (Qf e L)];exact g _ _ e
   .show _=some (HO.lst (((List.range (k+1)).map λ(i:Nat)=>pn c (i:Int)).map V.str));rw [Qb,gD,aP,aP];rfl
 .rintro σ H' ⟨U,Y,Z,c9,rfl,g,J⟩;rw [a_]at J;exact⟨_,rfl,q l H' g L J⟩
end
def Wz(K:Fg):Sp:=λvs H Q _=>∃(wd:Addr)(ks:List KdT)(kd:KdT),vs=[.ref wd,.str kd.2.1]/\WoodAt K H wd ks/\(ks.map λk=>k.2.1).Nodup/\kd∈ks/\Q (.ref kd.2.2.1) H
def VX(kn bs:List Str)(ts:List Tm):Prop:=∀t∈ts,∃k j:Nat,t=Ub (k:Int) (j:Int)/\∃z,kn[k]?=some z/\bs[j]?=some z
def Ww(K:Fg):Sp:=λvs H Q _=>∃(bv lk:Addr)(bs kn:List Str),vs=[.ref bv,.ref lk]/\SqT K H bv (bs.map V.str)/\SqL K H lk (kn.map V.str)/\bs.length<=4/\kn.length<=4/\
 ∀(l:Addr)(ws:List V)(ts:List Tm)(H':Hp),Same H H'->H l=none->H' l=some (.lst ws)->TmAll K H' ws ts->VX kn bs ts->ts.length<=16->Q (.ref l) H'
theorem Ur{ks:List KdT}(h:(ks.map λk=>k.2.1).Nodup){a b:KdT}(ha:a∈ks)(hb:b∈ks)(e:a.2.1=b.2.1):a=b:=by
 induction ks with
 | nil=>cases ha
 | cons u r L=>
  rw [aS,fe]at h;rcases aM.mp ha with J | h1
  .rcases aM.mp hb with G | h2
   .rw [J,G]
   .exact absurd (aJ.mpr ⟨b,h2,by rw [<-e,J]⟩) h.1
  .rcases aM.mp hb with G | h2
   .exact absurd (aJ.mpr ⟨a,h1,by rw [e,G]⟩) h.1
   .exact L h.2 h1 h2
section
variable{K:Fg}
theorem V4:FnScope ["_law_wood_here","_law_kind","_law_told","_law_rows_here"] ["_law_wood_here","_law_kind"] (defScope M7):=(0:)
theorem Rb(F:Fun K "_law_rows" "_law_rows" M7 f fd):FnOk P w K mg base CX0 1 f fd ["_law_wood_here","_law_kind"] (Wz K):=by
 refine F.ok V4 (7:) (λab A outer s H vs Q E hr h=>?_)
 .obtain⟨wd,ks,G,rfl,_⟩:=h
  rfl
 obtain⟨wd,ks,G,rfl,Y,hn,hk,q⟩:=h;refine⟨_,(Qg (QG bV rfl (QJ (pv 0)) (Zp rfl (Qv (Qq (i:=2) V4.nd rfl (18:)) (Qv (Qq (i:=3) V4.nd rfl (18:)) Za))) (Qi (QM (Qw ZX (pv 2) (pv 1) (QA _)) (Qi (Qn (pv 3))) Qr)))
  (Qi (Qn (Zs Qc)))),?_⟩
 refine L2.let1 ?_
 intros
 refine⟨_,rfl,wd,rfl,⟨_,Y.1⟩,?_⟩;refine let J_:J3:=(λi σ H'=>∃Z c3:Option V,σ=[some (.ref wd),some (.str G.2.1),Z,c3]/\H'=H/\∀(j:Nat)(k:KdT),j<i->ks[j]?=some k->k.2.1≠G.2.1);Q2 (K:=K) (xs:=ks.map λk=>V.ref k.1) J_ ⟨none,none,rfl,rfl,λj k h=>absurd h (Nat.not_lt_zero _)⟩ ?_ ?_ ?_
 .rintro i σ H' _ ⟨_,_,_,rfl,_⟩;exact Y.1
 .rintro i x σ H' hx ⟨Z,c3,rfl,rfl,J⟩;have L:i<ks.length:=by have:=(aU.mp hx).1;simpa using this
  obtain rfl:x=.ref ks[i].1:=by
   rw [aK,aD L]at hx;exact(aI hx).symm
  have hm:=aQ L;refine⟨ks[i].1,_,rfl,(Y.2 _ hm).1,rfl,_,_,rfl,_,_,rfl,rfl,_,rfl,_,rfl,rfl,_,rfl,?_⟩
  by_cases U:ks[i].2.1=G.2.1
  .have e:decide (V.str ks[i].2.1=V.str G.2.1)=true:=bK (by rw [U]);rw [e];have ek:=Ur hn hm hk U;refine Zh ⟨_,rfl,?_⟩;rw [ek];exact q
  .have e:decide (V.str ks[i].2.1=V.str G.2.1)=false:=bN λz=>U (V.str.inj z);rw [e];refine QT ⟨_,_,rfl,rfl,λj k hj M=>?_⟩
   by_cases aa:j<i
   .exact J j k aa M
   .obtain rfl:j=i:=by lia
    rw [aD L]at M;rw [<-aI M];exact U
 .rintro σ H' ⟨Z,c3,rfl,rfl,J⟩;obtain⟨j,hj,e⟩:=bW hk;exact absurd rfl (J j G (by rw [aE];exact hj) ((aD hj).trans (congrArg some e)))
theorem Jf:FnScope ["_law_branches","_law_kinds","_law_found","_law_j","_law_k"] ["_law_branches","_law_kinds"] (defScope Gh):=(0:)
theorem Nd(F:Fun K "_law_calls" "_law_calls" Gh f fd)(G:Gm mg):FnOk P w K mg base CX0 1 f fd ["_law_branches","_law_kinds"] (Ww K):=by
 refine F.ok Jf (7:) (λah A outer s H vs Q E hr h=>?_)
 .obtain⟨bv,lk,bs,Z,rfl,_⟩:=h
  rfl
 obtain⟨bv,lk,bs,Z,rfl,hb,hk,ai,aj,q⟩:=h;refine⟨_,(Qg (Qz (i:=2) Jf.nd rfl (18:) (Zs Qc))
  (Qg (QG bV rfl (Q3 rfl G.rng (Qa (Ql Qm rfl G.len bO (Qa (pv 0) Qc)) Qc)) (Qq (i:=3) Jf.nd rfl (18:)) (Qi
   (QG bV rfl (Q3 rfl G.rng (Qa (Ql Qm rfl G.len bO (Qa (pv 1) Qc)) Qc)) (Qq (i:=4) Jf.nd rfl (18:)) (Qi
    (QM (Qw ZX (Qk QL (pv 1) (pv 4) (λ_ _=>rfl)) (Qk Qj (pv 0) (pv 3) (λ_ _=>rfl)) (QA _)) (Qi (Zc (Ua cS fu fw Zo (pv 2) (Qa ((QE (Qa (Zi) (Qa (pv 4) (Qa (pv 3) Qc))))) Qc)))) Qr)))))
  (Qi (Qn (pv 2))))),?_⟩
 refine L2.let2 ?_
 intros
 refine⟨(by show 0<=sizeLine;decide),λl hl=>?_⟩;have g0:=Qd hl (.lst []);have ad:(bs.map V.str).length=bs.length:=aE ..;have ae:(Z.map V.str).length=Z.length:=aE ..;refine⟨_,rfl,bv,_,rfl,.inr (g0.seqT hb),?_⟩;rw [ad];refine⟨_,rfl,(by show-(2^62:Int)<=(bs.length:Int);lia),(by show(bs.length:Int)<2^62;lia),?_⟩;refine let J_:J3:=(λj σ H'=>∃(L:List V)(J:List Tm)(c3 c4:Option V),σ=[some (.ref bv),some (.ref lk),some (.ref l),c3,c4]/\Same H H'/\H' l=some (.lst L)/\TmAll K H' L J/\VX Z bs J/\J.length<=4*j);Zm (lo:=0) (n:=(bs.length:Int).toNat) J_
  ⟨[],[],none,none,rfl,g0,Qb,.nil,λt ht=>(nomatch ht),aY _⟩ ?_ ?_
 .rintro j σ H' hj ⟨L,J,c3,c4,rfl,g,M,U,Y,aa⟩;rw [a_]at hj;refine⟨_,rfl,lk,_,rfl,.inl (g.seq hk),?_⟩;rw [ae];refine⟨_,rfl,(by show-(2^62:Int)<=(Z.length:Int);lia),(by show(Z.length:Int)<2^62;lia),?_⟩;refine let J_:J3:=(λk σ H'=>∃(L:List V)(J:List Tm)(c4:Option V),σ=[some (.ref bv),some (.ref lk),some (.ref l),some (.int (0+(j:Int))),c4]/\Same H H'/\H' l=some (.lst L)/\TmAll K H' L J/\VX Z bs J/\J.length<=4*j+k);Zm (lo:=0) (n:=(Z.length:Int).toNat) J_
   ⟨L,J,c4,rfl,g,M,U,Y,by lia⟩ ?_ ?_
  .clear M U Y aa g L J c3 c4;rintro k σ H1 ab ⟨L,J,c4,rfl,g,M,U,Y,aa⟩;rw [a_]at ab;have ag:=U.length;have a1:atI (Z.map V.str) (0+(k:Int))=some (.str Z[k]):=by rw [eM];exact Qo (by rw [aK,aD ab];rfl)
   have a2:atI (bs.map V.str) (0+(j:Int))=some (.str bs[j]):=by rw [eM];exact Qo (by rw [aK,aD hj];rfl)
   refine⟨_,rfl,_,rfl,lk,_,_,_,rfl,rfl,g.seq hk,a1,_,rfl,_,rfl,bv,_,_,_,rfl,rfl,g.seqT hb,a2,rfl,_,rfl,Rt (λhc=>?_) (λ_=>?_)⟩
   .refine⟨_,rfl,.inl ⟨rfl,_,SqL.of M⟩,_,rfl,_,rfl,(by show 3<=sizeLine;decide),λp hp=>?_⟩;have gp:=Qd hp (.tup [.str ZD,.int (0+(k:Int)),.int (0+(j:Int))]);have ac:=gp _ _ M;refine⟨l,L,_,rfl,rfl,ac,by rw [QD];lia,?_⟩;refine⟨L++[.ref p],J++[Ub (0+(k:Int)) (0+(j:Int))],_,rfl,λb u e=>?_,Qb,?_,λt ht=>?_,by rw [aW,cM];lia⟩
    .rw [Qe (Qf e hl)];exact gp _ _ (g _ _ e)
    .exact TmAll.append (U.mono λ_ _ h=>(gp.seqT h).put ac) (.cons (.call (SqT.put (SqT.of Qb) ac)) .nil)
    .rcases aX.mp ht with z | z
     .exact Y t z
     .obtain rfl:t=Ub (0+(k:Int)) (0+(j:Int)):=by simpa using z
      have af:Z[k]=bs[j]:=V.str.inj (bM hc);exact⟨k,j,by rw [eM,eM],Z[k],aD ab,by rw [af];exact aD hj⟩
   .exact⟨L,J,_,rfl,g,M,U,Y,by lia⟩
  .rintro σ H1 ⟨L,J,c4,rfl,g,M,U,Y,aa⟩;rw [a_]at aa;exact⟨L,J,_,_,rfl,g,M,U,Y,by lia⟩
 .rintro σ H' ⟨L,J,c3,c4,rfl,g,M,U,Y,aa⟩;rw [a_]at aa;exact⟨_,rfl,q l L J H' g hl M U Y (5:)⟩
end
def YO:Nat->Nat
 | 0=>1
 | 1=>2
 | _=>7
abbrev NI(ns:List Int):List V:=ns.map V.int
def Pn(n:Nat):Int->Int->Prop:=λa _=>0<=a/\a<(n:Int)
def Ul(K:Fg)(n:Nat):Sp:=λvs H Q _=>∃(d lc ln:Addr)(far:Int)(dp:Nat)(xs:List Int)(ws:List V)(ts:List Tm)(nn:List Str)(p:Int->Int->Prop),vs=[.ref d,.ref lc,.ref ln,.int far,.int (dp:Int)]/\H d=some (.lst (NI xs))/\YO dp<=xs.length/\SqL K H lc ws/\TmAll K H ws ts/\(∀t∈ts,∃m b,t=Ub m b/\p m b)/\ts.length<=16/\lc≠d/\SqL K H ln (nn.map V.str)/\5<=nn.length/\(∀x∈nn,PyData.strOk x=true)/\ln≠d/\dp<n/\dp<=2/\
 ∀(v:V)(H':Hp)(t:Tm)(xs':List Int),SameD d H H'->H' d=some (.lst (NI xs'))->xs.length<=xs'.length+YO dp->TmV K H' v t->TPr p t->Lz (dp+1) t->Q v H'
def Xu(K:Fg)(n:Nat):Sp:=λvs H Q _=>∃(v:V)(t:Tm)(p:Int->Int->Prop),vs=[v]/\TmV K H v t/\TPr p t/\lv t<=n/\∀(v':V)(H':Hp)(t':Tm),Same H H'->TmV K H' v' t'->TPr p t'->lv t'<=lv t/\sz t'<=sz t->kp t'=false->Q v' H'
theorem WJ(ts:List Tm):PyData.eqv (.list (tmds ts)) (.list [])=ts.isEmpty:=by
 cases ts<;>simp [tmds,PyData.eqv,PyData.eqvAll]
theorem Y7{xs:List V}{k:Int}(hk:k=(xs.length:Int))(h:0<xs.length)(n:Int):∃v∈xs,atI xs (n%k)=some v:=by
 subst hk;have J:0<=n%(xs.length:Int):=cJ _ (5:);have M:n%(xs.length:Int)<(xs.length:Int):=cV _ (5:);obtain⟨y,L⟩: ∃y:Nat,n%(xs.length:Int)=(y:Int):=⟨_,(eE J).symm⟩;have G:y<xs.length:=by lia
 rw [L];exact⟨xs[y],aQ G,Qo (aD G)⟩
theorem Nt{xs:List Int}(h:0<xs.length):∃y:Int,(NI xs)[(NI xs).length-1]?=some (.int y):=by
 have G:xs.length-1<xs.length:=by lia
 exact⟨xs[xs.length-1],by rw [aE,aK,aD G];rfl⟩
theorem Cd(xs:List Int):(NI xs).dropLast=NI xs.dropLast:=by
 show(xs.map V.int).dropLast=xs.dropLast.map V.int;rw [List.map_dropLast]
def Vl(K:Fg):List V->Hp->VK->Prop:=G3.on1 λx H Q=>tyV K "list" x H/\BO x [] H Q
theorem Pw{K:Fg}{xs:List Int}{Q:VK}(h:H l=some (.lst (NI xs)))(h0:0<xs.length)(k:∀(y:Int)(H':Hp),SameD l H H'->H' l=some (.lst (NI xs.dropLast))->(∀b,H' b=none->H b=none)->Q (.int y) H'):Vl K [.ref l] H Q:=by
 obtain⟨y,J⟩:=Nt h0;refine⟨G3.tyL h,l,_,_,rfl,rfl,h,J,k y _ (λb u G e=>by rw [Qe G];exact e) (by rw [Qb,Cd]) λb G=>?_⟩
 by_cases z:b=l
 .rw [z,Qb]at G;cases G
 .rw [Qe z]at G;exact G
theorem Nn{K:Fg}{i j:Int}{H:Hp}{Q:VK}(h:0<j)(k:Q (.int (i%j)) H):G3.rB K .Mod (.int i) (.int j) H Q:=G3.modI h k
def Sx:List G3.S:=[.set 5 (.nd 0 [.v 0]),.ite (.an (.nd 1 [.v 1,.lst []]) (.cmp .Lt (.bin .Mod (.v 5) (.k (.int 5))) (.bin .Sub (.k (.int 4)) (.v 4)))) [.ret (.ix (.v 1) (.bin .Mod (.bin .FloorDiv (.v 5) (.k (.int 5))) (.call 0 [.v 1])))] [],.cut (.set 6 (.ix (.lst [.k (.int 0),.bin .Sub (.bin .Mod (.bin .FloorDiv (.v 5) (.k (.int 20))) (.k (.int 7))) (.k (.int 3)),.v 3,.bin .Sub (.k (.int 0)) (.v 3)]) (.bin .Mod (.bin .FloorDiv (.v 5) (.k (.int 140))) (.k (.int 4))))),.set 7 (.lst []),.cut (.ite (.cmp .Gt (.v 4) (.k (.int 0))) [.setC 7 (.comp 0 (.bin .Mod (.bin .FloorDiv (.v 5) (.k (.int 560))) (.bin .Mult (.k (.int 2)) (.v 4))) [1,4,3,2,0] (.call 1 [.v 5,.v 1,.v 4,.v 3,.bin .Sub (.v 2) (.k (.int 1))]))] []),.ret (.tup [.k (.str "put"),.ix (.v 2) (.bin .Add (.k (.int 3)) (.bin .Mod (.bin .FloorDiv (.v 5) (.k (.int 2240))) (.k (.int 2)))),.cmp .Eq (.bin .Mod (.bin .FloorDiv (.v 5) (.k (.int 4480))) (.k (.int 4))) (.k (.int 0)),.v 6,.call 2 [.v 7]])]
def So(K:Fg)(n:Nat):G3.En:=⟨K,[λ_ vs H Q=>G3.rLen K vs H Q,λ_ vs H Q=>Ul K n vs H Q E0,λ_ vs H Q=>G3.rTupOf K vs H Q],[],[Vl K,G3.on2 (G3.EqD K true)],[]⟩
section
variable{K:Fg}
theorem Ak:FnScope ["_law_xs","_law_calls_here","_law_names_here","_law_far","_law_deep","_law_x","_law_add","_law_parts"] ["_law_xs","_law_calls_here","_law_names_here","_law_far","_law_deep"] (defScope MY):=(0:)
theorem PQ(F:Fun K "_law_term" "_law_term" MY f fd)(G:Gm mg)(R:Fn P w K mg base (n+1) "_law_term" ["_law_xs","_law_calls_here","_law_names_here","_law_far","_law_deep"] (Ul K n)):FnOk P w K mg base CX0 (n+2) f fd ["_law_xs","_law_calls_here","_law_names_here","_law_far","_law_deep"] (Ul K (n+1)):=by
 refine G3.Fun.okC F Ak (So K n) Sx (nk:=[G3.shM0 "pop",G3.shCmp .NotEq]) (λX c=>⟨.cons (c.blt G3.call_len G.len bO) (.cons (c.fn R (4:)) (.cons (c.ty (r:=G3.rTupOf) (λX=>G3.call_tupOf) G.tup cK) .nil)),.nil,.cons (c.node (r:=Vl) λX=>.m0 cS PySem.F.slot_list_pop PySem.F.type_list_pop Ps) (.cons c.neD .nil)⟩) (7:) (λH vs Q E h=>?_) G.rng
 .obtain⟨d,lc,ln,far,J,xs,ws,ts,nn,pN,rfl,_⟩:=h
  rfl
 obtain⟨d,lc,ln,far,J,xs,ws,ts,nn,pN,rfl,hd,bz,av,ai,aj,bb,ac,aw,bh,ax,ad,b3,ak,q⟩:=h;have b4:1<=YO J:=by
  match J,ak with
  | 0,_=>decide
  | 1,_=>decide
  | 2,_=>decide
 have ay:Dk H d:=⟨xs,hd⟩;refine Pw hd (5:) λx H1 g1 az _=>?_;have bi:xs.dropLast.length+1=xs.length:=by rw [fD];lia
 generalize xs.dropLast=Y at az bi;have ae:=g1.seqL ac av;have al:=ai.mono λ_ _=>g1.seqT ay;have a0:=ai.length;refine⟨λp H2 ge ep _=>?_⟩;have bj:(PyData.list (tmds ts)).canLay0=true:=by
  simp only [PyData.canLay0];exact(U9 ts λt ht=>by obtain⟨k,j,rfl,_⟩:=aj t ht;exact L2.leaf_ok _ _ 0 []).1
 refine .e (.list (tmds ts)) (.list []) (.lst (ge.seq ae) (al.mono λ_ _=>ge.seqT).rd) (.lst (SqL.of ep) .nil) bj (12:) (bT (Nat.min_le_right _ _) (by simp [PyData.depth,PyData.depthAll])) ?_;rw [aG rfl,WJ];have a1:SameD d H H2:=g1.trans (SameD.of ge);have am:=ge _ _ az;have ag:G3.ES (So K n) (Sx.drop 2) { nx:=λ_ H'=>Q .non H',rt:=Q } [some (.ref d),some (.ref lc),some (.ref ln),some (.int far),some (.int (J:Int)),some (.int x),none,none] H2:=by
  refine let J_:J2:=(λbc H'=>∃M:Int,bc=[some (.ref d),some (.ref lc),some (.ref ln),some (.int far),some (.int (J:Int)),some (.int x),some (.int M),none]/\Same H2 H');.c J_ ?_ ?_
  .refine⟨λl X e dl _=>?_⟩;obtain⟨y,hy,ab⟩:=Y7 (xs:=[.int 0,.int (x/20%7-3),.int far,.int (0-far)]) (k:=4) rfl (by show 0<4;decide) (x/140);obtain⟨M,rfl⟩: ∃M:Int,y=.int M:=by
    simp only [aM,bQ,bP]at hy;rcases hy with rfl | rfl | rfl | rfl<;>exact⟨_,rfl⟩
   exact .l _ _ (SqL.of dl) ab ⟨M,rfl,e⟩
  rintro _ H3 ⟨M,rfl,g3⟩;refine⟨λlp H4 g4 bd b5=>?_⟩;have an:=g4 _ _ (g3 _ _ am);have a3:SameD d H H4:=a1.trans (SameD.of (g3.trans g4));refine let J_:J2:=(λbc H'=>∃(l:Addr)(us:List V)(ps:List Tm)(L:List Int),bc=[some (.ref d),some (.ref lc),some (.ref ln),some (.int far),some (.int (J:Int)),some (.int x),some (.int M),some (.ref l)]/\SameD d H4 H'/\H' d=some (.lst (NI L))/\Y.length+1<=L.length+YO J/\H' l=some (.lst us)/\TmAll K H' us ps/\ps.length<=2*J-1/\∀t∈ps,TPr pN t/\Lz J t);.c J_ ?_ ?_
  .refine G3.iteI (λhc=>?_) λ_=>⟨lp,[],[],Y,rfl,SameD.refl _ _,an,by lia,bd,.nil,by simp,λt ht=>(nomatch ht)⟩;have ao:(0:Int)<2*(J:Int):=by lia
   have k0:0<=x/560%(2*(J:Int)):=cJ _ (5:);have k1:x/560%(2*(J:Int))<2*(J:Int):=cV _ ao;have be:Dk H4 d:=⟨Y,an⟩;obtain⟨e,he⟩: ∃e,J=e+1:=⟨J-1,by lia⟩;have bn:YO J=1+(2*J-1)*YO e:=by
    match J,e,he,ak with
    | 1,0,_,_=>decide
    | 2,1,_,_=>decide
   have b0:1<=YO e:=by
    match e,(show e<=1 by lia)with
    | 0,_=>decide
    | 1,_=>decide
   have bo:(x/560%(2*(J:Int))).toNat<=2*J-1:=by lia
   refine⟨.inl ⟨by decide,by decide⟩,Nn ao ⟨⟨by lia,by lia⟩,let J_:JA:=(λacc i ys H'=>∃(ps:List Tm)(L:List Int),H' acc=some (.lst ys)/\SameD d H4 H'/\H' d=some (.lst (NI L))/\Y.length<=L.length+i*YO e/\TmAll K H' ys ps/\ps.length=i/\∀t∈ps,TPr pN t/\Lz J t);.m J_ (5:) (λacc H' aa g ea=>⟨[],Y,ea,SameD.of g,g _ _ an,by lia,.nil,rfl,λt ht=>(nomatch ht)⟩) (λ_ _ _ _ _=>trivial) ?_ ?_⟩⟩
   .rintro acc i ys H' hi _ aa ⟨ps,L,ap,g,ah,bp,Z,a4,U⟩;have a5:=be.ne aa;have bq:i+1<=2*J-1:=by lia
    have bf:(i+1)*YO e<=(2*J-1)*YO e:=fH _ bq;have hs:(i+1)*YO e=i*YO e+YO e:=Nat.succ_mul _ _;have aq:SameD d H H':=a3.trans g;refine⟨d,lc,ln,far,e,L,ws,ts,nn,pN,by rw [show(J:Int)-1=(e:Int)by lia],ah,by lia,aq.seqL ac av,ai.mono λ_ _=>aq.seqT ay,aj,bb,ac,aq.seqL ad aw,bh,ax,ad,by lia,by lia,λv5 H5 t5 br g5 ar bt bu bv as=>?_⟩;have af:=g5 _ _ a5 ap;have bg:Dk H' d:=⟨L,ah⟩;refine⟨af,ps++[t5],br,Qb,(g.trans g5).put aa,by rw [Qe (aV a5)];exact ar,by lia,?_,by simp [a4],λt ht=>?_⟩
    .exact TmAll.append (Z.mono λ_ _ h=>(g5.seqT bg h).put af) (.cons (bu.mono λ_ _ h=>h.put af) .nil)
    .rcases aX.mp ht with z | z
     .exact U t z
     .obtain rfl:=bJ.mp z;exact⟨bv,by rw [he];exact as⟩
   rintro acc ys H' aa ⟨ps,L,ap,g,ah,bp,Z,a4,U⟩;have bf:(x/560%(2*(J:Int))).toNat*YO e<=(2*J-1)*YO e:=fH _ bo;exact⟨acc,ys,ps,L,rfl,g,ah,by lia,ap,Z,by lia,U⟩
  rintro _ H5 ⟨l,us,ps,L,rfl,g5,ar,bt,as,Z,bw,U⟩;have b1:=Z.length;have a6:SameD d H H5:=a3.trans g5;have y0:0<=x/2240%2:=cJ _ (12:);have y1:x/2240%2<2:=cV _ (12:);have a7:(3+x/2240%2).toNat<nn.length:=by lia
  have ab:atI (nn.map V.str) (3+x/2240%2)=some (.str nn[(3+x/2240%2).toNat]):=Jd (5:) (by rw [aK,aD a7];rfl);refine .l _ _ (a6.seqL ad aw) ab (.l us (SqL.of as) λpt X1 ga da=>⟨λpp X2 gb db _=>?_⟩);have au:=ga.trans gb;refine q (.ref pp) _ (.node (.put nn[(3+x/2240%2).toNat] (decide (x/4480%4=0)) M) 0 ps) L (a6.trans (SameD.of au)) (au _ _ ar) (5:) (.put db (gb.seqT da) (Z.mono λ_ _=>au.seqT) (5:)) ?_ ?_
  .simp only [TPr];exact⟨ax _ (aQ a7),by lia,(TPrs_iff _ ps).mpr λb hb=>(U b hb).1⟩
  .refine⟨?_,?_⟩
   .simp only [lv];have:=LB λb hb=>(U b hb).2.1;lia
   .simp only [sz];have h1:=GW λb hb=>(U b hb).2.2;have h2:ps.length*zb J<=(2*J-1)*zb J:=fH _ bw;have h3:1+(2*J-1)*zb J<=zb (J+1):=by
     match J,ak with
     | 0,_=>decide
     | 1,_=>decide
     | 2,_=>decide
    lia
 cases ts with
 | nil=>exact ag
 | cons t0 tr=>
  refine G3.iteI (λ_=>?_) λ_=>ag;refine .l _ (ge.seq ae) (Nn (by rw [a0];show(0:Int)<((tr.length+1:Nat):Int);lia) ?_);obtain⟨y,hy,ab⟩:=Y7 (xs:=ws) (k:=(ws.length:Int)) rfl (by rw [a0,bF];lia) (x/5);refine .l _ _ (ge.seq ae) ab ?_;obtain⟨i,hi,ei⟩:=bW hy;have a8:i<(t0::tr).length:=by lia
  obtain⟨cv,a9,ba⟩:=al.get (aD a8);have bx:cv=y:=by rw [aD hi,ei]at a9;exact(aI a9).symm
  rw [bx]at ba;obtain⟨k,j,ek,hk⟩:=aj _ (aQ a8);refine q y H2 (t0::tr)[i] Y a1 am (5:) (ba.mono λ_ _=>ge.seqT) ?_ ?_
  .rw [ek];simp only [Ub,TPr];exact⟨hk,trivial⟩
  .rw [ek];refine⟨by simp only [Ub,lv,lvs];lia,?_⟩;simp only [Ub,sz,szs];exact SW J
end
end K40
namespace K40
open PySem L2 TM TT ST K9 K11
structure NewWd(K:Fg)(H H':Hp)(lw:Addr)(ks:List KdT):Prop where
 n0:H lw=none
 at0:H' lw=some (.lst (ks.map λk=>V.ref k.1))
 kd:∀k∈ks,SqT K H' k.1 [.str k.2.1,.ref k.2.2.1]/\H' k.2.2.1=some (.lst (k.2.2.2.map λt=>V.ref t.1))/\H k.2.2.1=none/\∀t∈k.2.2.2,RowAt K H' t
 na:∀k∈ks,k.2.2.1≠lw
theorem NewWd.wood{K:Fg}{ks:List KdT}(h:NewWd K H H' lw ks):WoodAt K H' lw ks:=⟨SqL.of h.at0,λk G=>⟨(h.kd k G).1,SqL.of (h.kd k G).2.1,(h.kd k G).2.2.2⟩⟩
structure NewMo(K:Fg)(H H':Hp)(lm:Addr)(ms:List MdT):Prop where
 n0:H lm=none
 at0:H' lm=some (.lst (ms.map λm=>V.ref m.1))
 mo:∀m∈ms,SqT K H' m.1 [.str m.2.1,.ref m.2.2.1]/\H' m.2.2.1=some (.lst m.2.2.2.1)/\H m.2.2.1=none/\m.2.2.1≠lm/\TmAll K H' m.2.2.2.1 m.2.2.2.2
theorem Same.none{H H':Hp}{b:Addr}(g:Same H H')(h:H' b=none):H b=none:=by
 cases e:H b with
 | none=>rfl
 | some u=>rw [g _ _ e]at h;cases h
theorem NewWd.ext{K:Fg}{ks:List KdT}(g0:Same H0 H)(g1:Same H' H'')(h:NewWd K H H' lw ks):NewWd K H0 H'' lw ks:=
 ⟨Same.none g0 h.n0,g1 _ _ h.at0,λk G=>⟨g1.seqT (h.kd k G).1,g1 _ _ (h.kd k G).2.1,Same.none g0 (h.kd k G).2.2.1,λt J=>((h.kd k G).2.2.2 t J).same g1⟩,h.na⟩
structure FrT(K:Fg)(H H':Hp)(tu wd lm:Addr)(sv:V)(ks:List KdT)(st:Tm)(ms:List MdT):Prop where
 tu:SqT K H' tu [.ref wd,sv,.ref lm]
 w:NewWd K H H' wd ks
 s:TmV K H' sv st
 m:NewMo K H H' lm ms
 d1:wd≠lm
 d2:∀k∈ks,k.2.2.1≠lm/\∀m∈ms,k.2.2.1≠m.2.2.1
 d3:∀m∈ms,wd≠m.2.2.1
section
variable{K:Fg}{ks:List KdT}{st:Tm}
theorem FrT.td(h:FrT K H H' tu wd lm sv ks st ms):TurnD K H' tu wd lm sv ks st ms:=⟨h.tu,h.w.wood,h.s,SqL.of h.m.at0,λm G=>⟨(h.m.mo m G).1,SqL.of (h.m.mo m G).2.1,(h.m.mo m G).2.2.2.2⟩⟩
theorem FrT.lift(f:∀b,H b=none->H0 b=none)(h:FrT K H H' tu wd lm sv ks st ms):FrT K H0 H' tu wd lm sv ks st ms:=
 ⟨h.tu,⟨f _ h.w.n0,h.w.at0,λk J=>⟨(h.w.kd k J).1,(h.w.kd k J).2.1,f _ (h.w.kd k J).2.2.1,(h.w.kd k J).2.2.2⟩,h.w.na⟩,h.s,⟨f _ h.m.n0,h.m.at0,λm G=>⟨(h.m.mo m G).1,(h.m.mo m G).2.1,f _ (h.m.mo m G).2.2.1,(h.m.mo m G).2.2.2.1,(h.m.mo m G).2.2.2.2⟩⟩,h.d1,h.d2,h.d3⟩
structure KeepF(K:Fg)(H0 H H':Hp):Prop where
 t:∀a xs,SqT K H a xs->SqT K H' a xs
 l:∀b ys,H0 b=none->H b=some (.lst ys)->H' b=some (.lst ys)
theorem KeepF.same(g:Same H H'):KeepF K H0 H H':=⟨λ_ _=>g.seqT,λ_ _ _ e=>g _ _ e⟩
theorem FrT.keep(g:KeepF K H H' H'')(h:FrT K H H' tu wd lm sv ks st ms):FrT K H H'' tu wd lm sv ks st ms:=
 ⟨g.t _ _ h.tu,⟨h.w.n0,g.l _ _ h.w.n0 h.w.at0,λk G=>⟨g.t _ _ (h.w.kd k G).1,g.l _ _ (h.w.kd k G).2.2.1 (h.w.kd k G).2.1,(h.w.kd k G).2.2.1,λt L=>⟨g.t _ _ ((h.w.kd k G).2.2.2 t L).1,g.t _ _ ((h.w.kd k G).2.2.2 t L).2⟩⟩,h.w.na⟩,h.s.mono g.t,⟨h.m.n0,g.l _ _ h.m.n0 h.m.at0,λm J=>⟨g.t _ _ (h.m.mo m J).1,g.l _ _ (h.m.mo m J).2.2.1 (h.m.mo m J).2.1,(h.m.mo m J).2.2.1,(h.m.mo m J).2.2.2.1,(h.m.mo m J).2.2.2.2.mono g.t⟩⟩,h.d1,h.d2,h.d3⟩
theorem NewMo.keep(g:KeepF K H H' H'')(h:NewMo K H H' lm ms):NewMo K H H'' lm ms:=
 ⟨h.n0,g.l _ _ h.n0 h.at0,λm G=>⟨g.t _ _ (h.mo m G).1,g.l _ _ (h.mo m G).2.2.1 (h.mo m G).2.1,(h.mo m G).2.2.1,(h.mo m G).2.2.2.1,(h.mo m G).2.2.2.2.mono g.t⟩⟩
end
end K40
namespace L2
open PySem
section
variable{κ:Type} [DecidableEq κ]
theorem Of{kvs:List (κ×V)}{k:κ}:(k,v)∈putK kvs k v:=by
 unfold putK;split
 .rename_i h;obtain⟨q,G,e⟩:=List.any_eq_true.mp h;refine aJ.mpr ⟨q,G,?_⟩;have e:=bM e;simp [e]
 .exact bY _ aR
theorem LK{kvs:List (κ×V)}{k:κ}{q:κ×V}(h:q∈putK kvs k v):q∈kvs\/q=(k,v):=by
 unfold putK at h;split at h
 .obtain⟨r,G,e⟩:=aJ.mp h;split at e
  .rename_i J
   right;rw [<-e,J]
  .left;rw [<-e];exact G
 .rcases aX.mp h with h | h
  .exact .inl h
  .exact .inr (by simpa using h)
theorem WU{kvs:List (κ×V)}{k:κ}{j:κ}(h:j∈kvs.map (·.1)):j∈(putK kvs k v).map (·.1):=by
 obtain⟨q,G,rfl⟩:=aJ.mp h;unfold putK;split
 .refine aJ.mpr ⟨_,aJ.mpr ⟨q,G,rfl⟩,?_⟩;split<;>simp_all
 .exact aJ.mpr ⟨q,cT _ G,rfl⟩
theorem Xy{kvs:List (κ×V)}{k:κ}(h:(kvs.map (·.1)).Nodup):((putK kvs k v).map (·.1)).Nodup:=by
 unfold putK;split
 .rw [bX];have e:(kvs.map ((λp:κ×V=>p.1)∘λq=>if q.1=k then(q.1,v)else q))=kvs.map (·.1):=by
   refine fJ λq _=>?_;show(if q.1=k then(q.1,v)else q).1=q.1;split<;>rfl
  first | exact e ▸ h | (refine cast ?_ h;congr 1;refine fJ λq _=>?_;simp only [Function.comp];split<;>simp_all)
 .rename_i J;rw [aP,fM];refine⟨h,by simp,λa L b M=>?_⟩;have G:b=k:=by simpa using M
  subst G;intro e;subst e;obtain⟨q,U,Y⟩:=aJ.mp L;exact J (List.any_eq_true.mpr ⟨q,U,by simp [Y]⟩)
end
theorem Uv{α:Type} [DecidableEq α]:∀{l r:List α},l.Nodup->(∀x∈l,x∈r)->l.length<=r.length
 | [],_,_,_=>bE _
 | x::l,r,hn,hs=>by
  rw [fe]at hn;have h1:=hs x aR;have h2:l.length<=(r.erase x).length:=Uv hn.2 λy G=>by
   have J:=hs y (23:);have ne:y≠x:=λe=>hn.1 (by rw [<-e];exact G);exact(List.mem_erase_of_ne ne).mpr J
  rw [List.length_erase_of_mem h1]at h2;have:=List.length_pos_of_mem h1;simp only [bF];lia
end L2
namespace L2
open PySem TM ST
structure OneAt(K:Fg)(x:Str)(z:Str):Prop where
 ex:∃(a:Addr)(od:Option Addr)(t:Tok)(n:Nat)(sl:Array (Option Value)),PySem.W.nsIn K mainGlobals x=some (some (.ref a))/\K.lookup a=some ⟨.type "tuple",od,.seq #[.str z t] n,sl⟩
theorem OneAt.mk'{K:Fg}{x z:Str}{t:Tok}{sl:Array (Option Value)}(h:PySem.W.nsIn K mainGlobals x=some (some (.ref a)))(l:K.lookup a=some ⟨.type "tuple",od,.seq #[.str z t] n,sl⟩):OneAt K x z:=⟨a,od,t,n,sl,h,l⟩
theorem OneAt.at{K:Fg}{x z:Str}{h:Heap}{mg:Str->Option Value}(O:OneAt K x z)(X:K.In h)(G:h.Ns mainGlobals mg):∃a,mg x=some (.ref a)/\∀H:Hp,SqT K H a [.str z]:=by
 obtain⟨a,J,t,n,sl,h1,h2⟩:=O.ex;exact⟨a,ef X G h1,λH=>.inr ⟨_,_,n,h2,rfl,rfl,(by show 1<=sizeLine;decide),.cons ⟨t,rfl⟩ .nil⟩⟩
end L2
namespace K40c
open K40
open PySem L2 TM TT ST K9 K11
theorem Mo{ks:List KdT}{kd:KdT}(hn:(ks.map λk=>k.2.1).Nodup)(hk:kd∈ks):ks.find? (λk=>decide (k.2.1=kd.2.1))=some kd:=by
 induction ks with
 | nil=>cases hk
 | cons u r J=>
  rw [aS,fe]at hn;rcases aM.mp hk with e | h
  .rw [cG,e];simp
  .have G:u.2.1≠kd.2.1:=λz=>hn.1 (by rw [z];exact aJ.mpr ⟨kd,h,rfl⟩);rw [cG,bN G];exact J hn.2 h
abbrev sIsO:Stmt:=top 2
abbrev sHead:Stmt:=top 3
abbrev sMet:Stmt:=top 4
abbrev Mp:Stmt:=top 7
abbrev sCO:Stmt:=top 10
abbrev sRowsOf:Stmt:=top 19
def isO:Stp->Bool
 | .op=>true
 | .put _ _ _=>false
def spIsO(K:Fg):Sp:=λvs H Q _=>∃(v:V)(s:Stp),vs=[v]/\SV K H v s/\Q (.bl (isO s)) H
def Pd(K:Fg):Sp:=λvs H Q _=>∃(v:V)(n:Str)(m:Int)(ps:List Stp),vs=[v]/\SV K H v (.put n m ps)/\∀(p:Addr)(H':Hp),Same H H'->SqT K H' p [.str n,.int m,.int (ps.length:Int)]->Q (.ref p) H'
def spMet(K:Fg)(n:Nat):Sp:=λvs H Q _=>∃(v1 v2:V)(a b:Stp),vs=[v1,v2]/\SV K H v1 a/\SV K H v2 b/\SOk a/\SOk b/\sl a<=n/\∀(v:V)(H':Hp),Same H H'->SV K H' v (met a b)->Q v H'
abbrev PI'(p:List Int):List V:=p.map V.int
theorem Ya{K:Fg}{t:Tm}(h:TmV K H v t):(∃a m b,v=.ref a/\t=Ub m b/\SqT K H a [.str ZD,.int m,.int b]) \/
 ∃a b vs n k ad,v=.ref a/\t=.node (.put n k ad) 0 t.bs/\SqT K H a [.str PUT,.str n,.bl k,.int ad,.ref b]/\SqT K H b vs/\TmAll K H vs t.bs/\vs.length<=1000:=by
 cases h with
 | call h=>exact .inl ⟨_,_,_,rfl,rfl,h⟩
 | put h1 h2 G J=>exact .inr ⟨_,_,_,_,_,_,rfl,rfl,h1,h2,G,J⟩
def M6(K:Fg):Sp:=λvs H Q _=>∃(v:V)(t:Tm),vs=[v]/\TmV K H v t/\Q (.bl (isC (lab t))) H
abbrev Rf(ts:List (Addr×List Int)):List V:=ts.map λt=>V.ref t.1
def TsAt(K:Fg)(H:Hp)(ts:List (Addr×List Int)):Prop:=∀t∈ts,SqT K H t.1 (PI' t.2)
theorem TsAt.mono{K:Fg}{ts:List (Addr×List Int)}(h:TsAt K H ts)(k:∀a xs,SqT K H a xs->SqT K H' a xs):TsAt K H' ts:=λt G=>k _ _ (h t G)
theorem TsAt.app{K:Fg}{ts us:List (Addr×List Int)}(h:TsAt K H ts)(k:TsAt K H us):TsAt K H (ts++us):=λt G=>by
 rcases aX.mp G with z | z
 .exact h t z
 .exact k t z
def pr(c:Int×Int):List Int:=[c.1,c.2]
def spCO(K:Fg)(n:Nat):Sp:=λvs H Q _=>∃(v:V)(t:Tm),vs=[v]/\TmV K H v t/\lv t<=n/\sz t<=1000/\
 ∀(l:Addr)(H':Hp)(ts:List (Addr×List Int)),Same H H'->H l=none->H' l=some (.lst (Rf ts))->TsAt K H' ts->ts.map (·.2)=(cls t).map pr->Q (.ref l) H'
def Vh(K:Fg):Sp:=λvs H Q _=>∃(w:Addr)(kind:Str)(ks:List KdT),vs=[.ref w,.str kind]/\WoodAt K H w ks/\WoodOk ks/\∀(lr:Addr)(H':Hp),Same H H'->RowsL K H' lr (QV ks kind)->Q (.ref lr) H'
section
variable{K:Fg}
theorem AC:FnScope ["stump"] ["stump"] (defScope sIsO):=(0:)
theorem ok_isO(F:Fun K "is_open" "is_open" sIsO f fd):FnOk P w K mg base CX0 1 f fd ["stump"] (spIsO K):=by
 refine F.ok AC (7:) (λJ A outer s H vs Q E L h=>?_)
 .obtain⟨v,t,rfl,_⟩:=h
  rfl
 obtain⟨v,t,rfl,G,q⟩:=h;refine⟨_,(Qi (Qn (Z8 ZX (2:) Zi (QA _)))),?_⟩;rcases YE G with⟨a,rfl,rfl,h1⟩ | ⟨a,b,bs,n,m,ps,rfl,rfl,h1,h2,M⟩
 .refine⟨_,rfl,a,_,0,_,rfl,rfl,h1,rfl,rfl,?_⟩;have e:decide (V.str UD=V.str UD)=true:=bK rfl;show Q (.bl (decide (V.str UD=V.str UD))) H;rw [e];exact q
 .refine⟨_,rfl,a,_,0,_,rfl,rfl,h1,rfl,rfl,?_⟩;have e:decide (V.str WW=V.str UD)=false:=by decide+kernel
  show Q (.bl (decide (V.str WW=V.str UD))) H;rw [e];exact q
theorem TN:FnScope ["stump"] ["stump"] (defScope sHead):=(0:)
theorem ok_head(F:Fun K "head" "head" sHead f fd)(G:Gm mg):FnOk P w K mg base CX0 1 f fd ["stump"] (Pd K):=by
 refine F.ok TN (7:) (λM A outer s H vs Q E U h=>?_)
 .obtain⟨v,n,m,ps,rfl,_⟩:=h
  rfl
 obtain⟨v,n,m,ps,rfl,J,q⟩:=h;refine⟨_,(Qi (Qn (QE (Qa (2:) (Qa (2:) (Qa (Ql Qm rfl G.len bO (Qa (2:) Qc)) Qc)))))),?_⟩;cases J with
 | @put a b vs _ _ _ h1 h2 L=>
  refine⟨_,rfl,a,_,1,_,rfl,rfl,h1,rfl,_,rfl,a,_,2,_,rfl,rfl,h1,rfl,_,rfl,a,_,3,_,rfl,rfl,h1,rfl,b,vs,rfl,.inr h2,(by show 3<=sizeLine;decide),λp hp=>?_⟩;rw [L.length];exact q p _ (Qd hp _) (SqT.of Qb)
theorem AD:FnScope ["one","other"] ["one","other"] (defScope sMet):=(0:)
theorem ok_met(F:Fun K "met" "met" sMet f fd)(G:Gm mg)(hO:mg "OPEN"=some (.ref oa))(hOA:∀H:Hp,SqT K H oa [.str UD])(RO:Fn P w K mg base 1 "is_open" ["stump"] (spIsO K))(RH:Fn P w K mg base 1 "head" ["stump"] (Pd K))(R:Fn P w K mg base (n+1) "met" ["one","other"] (spMet K n)):FnOk P w K mg base CX0 (n+2) f fd ["one","other"] (spMet K (n+1)):=by
 refine F.ok AD (7:) (λar A outer s H vs Q E Z h=>?_)
 .obtain⟨v1,v2,a,b,rfl,_⟩:=h
  rfl
 obtain⟨v1,v2,sa,sb,rfl,ha,hb,aa,ab,ai,q⟩:=h;refine⟨_,(Qg (QM (PW.pt (pw_or (QF (Qt RO Z (Qa (pv 0) Qc) (dH 1 n))) (pw_or (QF (Qt RO Z (Qa (pv 1) Qc) (dH 1 n))) (pw_or1 (Qw X9 (Qt RH Z (Qa (pv 0) Qc) (dH 1 n)) (Qt RH Z (Qa (pv 1) Qc) (dH 1 n)) (QA _)))))) (Qi (Qn (Uf (v:=.ref oa) rfl hO rfl))) Qr)
  (Qi (Qn (QE (Qa (Zi) (Qa (2:) (Qa (2:) (Qa (QN Q6 rfl G.tup cK (Qa (QO (CompG.many (xs:=["part","beside"]) (caps:=[]) (cap:=[]) (cs:=[]) rfl rfl (1:) (1:) (1:) (1:) (1:) (1:) rfl rfl rfl) rfl (P5 rfl G.zip (Qa (2:) (Qa (Qk Qj (pv 1) Qh (λ_ _=>rfl)) Qc))) (XM (CompG.many (xs:=["part","beside"]) (caps:=[]) (cap:=[]) (cs:=[]) rfl rfl (1:) (1:) (1:) (1:) (1:) (1:) rfl rfl rfl) rfl) (λ_ _ _ _=>Zn) (λ_ _ _ _=>Qt R Z (Qa (pv 0) (Qa (pv 1) Qc)) (4:))) Qc)) Qc)))))))),?_⟩
 refine L2.let1 ?_
 intros
 refine⟨_,rfl,v1,sa,rfl,ha,_,rfl,?_⟩;rcases YE ha with⟨a,rfl,rfl,h1⟩ | ⟨a,b,bs,nm,m,ps,rfl,rfl,h1,h2,h3⟩
 .refine Zh (Zh (q (.ref oa) H (Same.refl _) ?_));rw [UH];exact .op (hOA H)
 refine QT ⟨_,rfl,v2,sb,rfl,hb,_,rfl,?_⟩;rcases YE hb with⟨a',rfl,rfl,k1⟩ | ⟨a',b',ag,ac,m',L,rfl,rfl,k1,k2,k3⟩
 .refine Zh (Zh (q (.ref oa) H (Same.refl _) ?_));rw [Z2];exact .op (hOA H)
 have l1:=h3.length;have l2:=k3.length;simp only [SOk]at aa ab;simp only [sl]at ai;refine QT ⟨_,rfl,_,nm,m,ps,rfl,ha,λp H1 g1 hp=>?_⟩;refine⟨_,rfl,_,ac,m',L,rfl,hb.mono λ_ _=>g1.seqT,λp2 H2 g2 aj=>?_⟩;have J:=g1.trans g2;obtain⟨ca,da⟩:=Oj aa.1 m ps.length;obtain⟨cb,db⟩:=Oj ab.1 m' L.length;refine⟨hd3 nm m ps.length,hd3 ac m' L.length,.tup (g2.seqT hp) (.cons (.str _) (.cons (.int _) (.cons (.int _) .nil))),.tup aj (.cons (.str _) (.cons (.int _) (.cons (.int _) .nil))),ca,cb,Z.fit (5:),_,rfl,?_⟩;rw [aG rfl,Ru];rw [Z7]at q
 by_cases hc:nm=ac/\m=m'/\ps.length=L.length
 .rw [bK hc];rw [aG hc]at q;refine QT ?_;refine⟨_,rfl,a,_,1,_,rfl,rfl,J.seqT h1,rfl,_,rfl,a,_,2,_,rfl,rfl,J.seqT h1,rfl,_,rfl,a,_,3,_,rfl,rfl,J.seqT h1,rfl,_,rfl,a',_,3,_,rfl,rfl,J.seqT k1,rfl,b,b',bs,ag,rfl,J.seqT h2,J.seqT k2,λacc ad=>?_⟩;refine let J_:JC:=(λi ys H'=>H' acc=some (.lst ys)/\Same H2 H'/\ys.length=i/\SAll K H' ys ((List.zipWith met ps L).take i));Ri (K:=K) (xs:=bs) (zs:=ag) (cs:=[]) (tt:=λ_ H Q=>Q true H) (te:=Y3 (spMet K n) [] E0 (QZ (ZT 0) (QZ (ZT 1) YF))) (5:) J_
   ⟨Qb,Qd ad _,rfl,.nil⟩ ?_ ?_ ?_
  .rintro i ys H' _ ⟨_,g,_⟩;exact⟨(J.trans g).seqT h2,(J.trans g).seqT k2⟩
  .rintro i u v pp ys H' hi hu hv ak ⟨ae,g,ah,U⟩;have Y:i<ps.length:=by lia
   have af:i<L.length:=by lia
   obtain⟨cv,al,am⟩:=h3.get (aD Y);obtain rfl:cv=u:=aI (al.symm.trans hu);obtain⟨dv,an,ao⟩:=k3.get (aD af);obtain rfl:dv=v:=aI (an.symm.trans hv);have gp:=Qd ak (.tup [cv,dv]);have gg:=J.trans (g.trans gp);have a1:=Vr (aQ Y);refine Zh ⟨_,rfl,_,rfl,cv,dv,ps[i],L[i],rfl,am.mono λ_ _=>gg.seqT,ao.mono λ_ _=>gg.seqT,(ZS ps).mp aa.2.2 _ (aQ Y),(ZS L).mp ab.2.2 _ (aQ af),by lia,λv4 H4 g4 ap=>?_⟩;have M:=g4 _ _ (gp _ _ ae);refine QC (ys:=ys) hi M (5:) ⟨Qb,λx u e=>?_,by simp [ah],?_⟩
   .rw [Qe (Qf e ad)];exact g4 _ _ (gp _ _ (g _ _ e))
   .rw [bB,fZ,aD Y,aD af];exact SAll.append (U.mono λ_ _ h=>(g4.seqT (gp.seqT h)).put M) (.cons (ap.mono λ_ _ h=>h.put M) .nil)
  rintro ys H3 ⟨ae,g3,ah,U⟩;rw [bH (by rw [List.length_zipWith];lia)]at U;refine⟨acc,ys,rfl,.inl ⟨SqL.of ae,λt ht=>⟨(by show 4<=sizeLine;decide),λp3 aq=>?_⟩⟩⟩;have gA:=Qd ht (.tup ys);have gB:=Qd aq (.tup [.str WW,.str nm,.int m,.ref t]);refine q (.ref p3) _ (J.trans (g3.trans (gA.trans gB))) ?_;rw [WG];exact .put (SqT.of Qb) (gB.seqT (SqT.of Qb)) (U.mono λ_ _=>(gA.trans gB).seqT)
 .rw [bN hc];rw [aF hc]at q;exact Zh (q (.ref oa) _ J (.op (hOA _)))
theorem MW:FnScope ["term"] ["term"] (defScope Mp):=(0:)
theorem ok_isC(F:Fun K "is_call" "is_call" Mp f fd):FnOk P w K mg base CX0 1 f fd ["term"] (M6 K):=by
 refine F.ok MW (7:) (λL A outer s H vs Q E M h=>?_)
 .obtain⟨v,t,rfl,_⟩:=h
  rfl
 obtain⟨v,t,rfl,G,q⟩:=h;refine⟨_,(Qi (Qn (Z8 ZX (2:) Zi (QA _)))),?_⟩;rcases Ya G with⟨a,m,b,rfl,rfl,h1⟩ | ⟨a,b,bs,n,k,U,rfl,J,h1,h2,Y,Z⟩
 .refine⟨_,rfl,a,_,0,_,rfl,rfl,h1,rfl,rfl,?_⟩;have e:decide (V.str ZD=V.str ZD)=true:=bK rfl;show Q (.bl (decide (V.str ZD=V.str ZD))) H;rw [e];exact q
 .refine⟨_,rfl,a,_,0,_,rfl,rfl,h1,rfl,rfl,?_⟩;have e:decide (V.str PUT=V.str ZD)=false:=by decide+kernel
  show Q (.bl (decide (V.str PUT=V.str ZD))) H;rw [J]at q;rw [e];exact q
theorem SJ:FnScope ["term","told","part"] ["term"] (defScope sCO):=(0:)
theorem ok_co(F:Fun K "calls_of" "calls_of" sCO f fd)(G:Gm mg)(RC:Fn P w K mg base 1 "is_call" ["term"] (M6 K))(R:Fn P w K mg base (n+1) "calls_of" ["term"] (spCO K n)):FnOk P w K mg base CX0 (n+2) f fd ["term"] (spCO K (n+1)):=by
 refine F.ok SJ (7:) (λan A outer s H vs Q E hr h=>?_)
 .obtain⟨v,t,rfl,_⟩:=h
  rfl
 obtain⟨v,t,rfl,ht,af,ag,q⟩:=h;refine⟨_,(Qg (QM (QF (Qt RC hr (Qa (pv 0) Qc) (dH 1 n))) (Qi (Qn (Zs (Qa ((QE (Qa (2:) (Qa (2:) Qc)))) Qc)))) Qr)
  (Qg (Qz (i:=1) SJ.nd rfl (18:) (Zs Qc))
  (Qg (QG bV rfl (YQ (2:)) (Qq (i:=2) SJ.nd rfl (18:))
   (Qi (Zc (Ua cS gQ gR Ut (pv 1) (Qa (Qt R hr (Qa (pv 2) Qc) (4:)) Qc)))))
  (Qi (Qn (pv 1)))))),?_⟩
 refine L2.let3 ?_
 intros
 refine⟨_,rfl,v,t,rfl,ht,_,rfl,?_⟩;rcases Ya ht with⟨a,m,b,rfl,rfl,h1⟩ | ⟨a,b,bs,nm,k,ad,rfl,et,h1,h2,h3,h4⟩
 .refine Zh ⟨_,rfl,a,_,1,_,rfl,rfl,h1,rfl,_,rfl,a,_,2,_,rfl,rfl,h1,rfl,(by show 2<=sizeLine;decide),λp hp=>⟨(by show 1<=sizeLine;decide),λl U=>?_⟩⟩;have g1:=Qd hp (.tup [.int m,.int b]);have g2:=Qd U (.lst [.ref p]);refine q l _ [(p,[m,b])] (g1.trans g2) (g1.free U) Qb (λx Y=>?_) rfl;have:x=(p,[m,b]):=by simpa using Y
  rw [this];exact g2.seqT (SqT.of Qb)
 have ae:cls t=Q5 t.bs:=by
  have:=congrArg cls et;rw [this];simp [cls,lcl]
 rw [et];refine QT ?_;have al:=h3.length;rw [lv_bs]at af;rw [Ni]at ag;rw [ae]at q;refine⟨(by show 0<=sizeLine;decide),λl U=>?_⟩;have g0:=Qd U (.lst []);refine⟨_,rfl,a,_,4,_,rfl,rfl,g0.seqT h1,rfl,b,rfl,⟨_,g0.seqT h2⟩,?_⟩;refine let J_:J3:=(λi σ H'=>∃(J:List (Addr×List Int))(c1:Option V),σ=[some (.ref a),some (.ref l),c1]/\Same H H'/\H' l=some (.lst (Rf J))/\TsAt K H' J/\J.map (·.2)=(Q5 (t.bs.take i)).map pr);Lk (K:=K) (xs:=bs) J_
  ⟨[],none,rfl,g0,Qb,λx Y=>(nomatch Y),by simp [Q5]⟩ ?_ ?_ ?_
 .rintro i σ H' _ ⟨J,c1,_,g,_⟩;exact g.seqT h2
 .rintro i x σ H' Y ⟨J,c1,rfl,g,M,Z,L⟩;have hi:i<bs.length:=(aU.mp Y).1;obtain⟨c,hc⟩: ∃c,t.bs[i]?=some c:=⟨_,aD (5:)⟩;obtain⟨cv,ah,ai⟩:=h3.get hc;obtain rfl:cv=x:=aI (ah.symm.trans Y);have hm:=aL hc;have a1:=ZL hm;have a2:=OR hm;refine⟨_,rfl,.inl ⟨rfl,_,SqL.of M⟩,_,rfl,cv,c,rfl,ai.mono λ_ _=>g.seqT,by lia,by lia,λlb Hb ac gb am aj ak aa=>?_⟩;have ab:=gb _ _ M;have tl:J.length<=szs t.bs:=by
   have e:=congrArg List.length L;rw [aE,aE]at e;have h5:=Xa (t.bs.take i);have ao:szs (t.bs.take i)<=szs t.bs:=by
    have e:=U8 (t.bs.take i++t.bs.drop i);rw [aP,List.sum_append,U8,U8,fY]at e;lia
   lia
  have ap:ac.length<=sz c:=by
   have e:=congrArg List.length aa;rw [aE,aE]at e;have h5:=LG c;lia
  refine⟨l,lb,_,_,rfl,rfl,ab,aj,?_,?_⟩
  .rw [aE,aE];exact ZM (5:)
  refine⟨J++ac,_,rfl,λx u e=>?_,by rw [Qb];simp,?_,?_⟩
  .rw [Qe (Qf e U)];exact gb _ _ (g _ _ e)
  .exact(Z.mono λ_ _ h=>(gb.seqT h).put ab).app (ak.mono λ_ _ h=>h.put ab)
  .rw [aP,L,aa,bB,hc];show _=(Q5 (t.bs.take i++[c])).map pr;rw [XW,aP]
 .rintro σ H' ⟨J,c1,rfl,g,M,Z,L⟩;rw [bH (5:)]at L;exact⟨_,rfl,q l H' J g U M Z L⟩
theorem M8:FnScope ["wood","kind"] ["wood","kind"] (defScope sRowsOf):=(0:)
theorem ok_rowsOf(F:Fun K "rows_of" "rows_of" sRowsOf f fd)(G:Gm mg):FnOk P w K mg base CX0 1 f fd ["wood","kind"] (Vh K):=by
 refine F.ok M8 (7:) (λab A outer s H vs Q E Z h=>?_)
 .obtain⟨w,J,ks,rfl,_⟩:=h
  rfl
 obtain⟨wd,J,ks,rfl,M,Y,q⟩:=h;refine⟨_,(Qi (Qn (OO (NM Z) (QN (V3 rfl) rfl G.dct PyProof.Rows.boot_dict (Qa (pv 0) Qc)) (pv 1) (Zs Qc) ⟨rfl,rfl,rfl,rfl⟩))),?_⟩;have aa:=Y.len;refine⟨_,rfl,wd,ks.map (λk=>(k.1,k.2.1,V.ref k.2.2.1)),rfl,(by rw [bX];exact M.1),λt U=>?_,(by rw [bX];exact Y.nd),(17:),λd hd=>⟨d,rfl,.inl ⟨_,.inl Qb⟩,_,rfl,(by show 0<=sizeLine;decide),λp hp=>⟨_,DGet.k (k:=Sum.inr J) ((Qd hp _) _ _ Qb),?_⟩⟩⟩
 .obtain⟨k,hk,rfl⟩:=aJ.mp U;exact(M.2 k hk).1
 .have g1:=Qd hd (.dK ((ks.map (λk=>(k.1,k.2.1,V.ref k.2.2.1))).map λt=>((Sum.inr t.2.1:Key),t.2.2)));have g2:=Qd hp (.lst []);have L:=g1.trans g2;have ev:UI ((ks.map (λk=>(k.1,k.2.1,V.ref k.2.2.1))).map λt=>((Sum.inr t.2.1:Key),t.2.2)) (Sum.inr J)=(ks.find? λk=>decide (k.2.1=J)).map λk=>V.ref k.2.2.1:=by
   rw [bX];exact GT (λk:KdT=>k.2.1) (λk=>V.ref k.2.2.1) J ks
  rw [ev];unfold QV at q;cases e:ks.find? λk=>decide (k.2.1=J)with
  | none=>
   rw [e]at q;exact q p _ L ⟨SqL.of Qb,λt U=>(nomatch U)⟩
  | some k=>
   rw [e]at q;exact q k.2.2.1 _ L ((M.2 k (List.mem_of_find?_eq_some e)).2.same L)
end
end K40c
namespace ST
open PySem TM TT
mutual
theorem GO{cs:List (Int×Int)}{S:Int->Stp}{k:Nat}(hS:∀m,SOk (S m))(hk:∀m,sl (S m)<=k)(h1:1<=k):∀t:Tm,TDr cs t->SOk (rsT S t)/\sl (rsT S t)+1<=lv t+k
 | .node (.call m b) _ bs,_=>by simp only [rsT,lv];exact⟨hS m,by have:=hk m;lia⟩
 | .node (.put n kp a) _ bs,h=>by
  simp only [TDr]at h;obtain⟨i1,i2⟩:=OA hS hk h1 bs h.2.2;simp only [rsT,lv];cases kp with
  | true=>simp only [b_,SOk,sl];exact⟨trivial,by lia⟩
  | false=>
   simp only [cD,bU,SOk,sl,JH];exact⟨⟨h.1,by have:=h.2.1;lia,i1⟩,by lia⟩
theorem OA{cs:List (Int×Int)}{S:Int->Stp}{k:Nat}(hS:∀m,SOk (S m))(hk:∀m,sl (S m)<=k)(h1:1<=k):∀bs:List Tm,TDrs cs bs->Yr (ZW S bs)/\sls (ZW S bs)+1<=lvs bs+k
 | [],_=>by simp only [ZW,Yr,sls,lvs];exact⟨trivial,by lia⟩
 | b::r,h=>by
  simp only [TDrs]at h;obtain⟨i1,i2⟩:=GO hS hk h1 b h.1;obtain⟨i3,G⟩:=OA hS hk h1 r h.2;simp only [ZW,Yr,sls,lvs];exact⟨⟨i1,i3⟩,by lia⟩
end
def CallsIn(n:Nat)(t:Tm):Prop:=∀c∈cls t,0<=c.1/\c.1.toNat<n
theorem CallsIn.bs{n:Nat}{nm:Str}{k:Bool}{a mk:Int}{bs:List Tm}(h:CallsIn n (.node (.put nm k a) mk bs)):∀b∈bs,CallsIn n b:=λb hb c G=>by
 refine h c ?_;simp only [cls,lcl,dO];clear h
 induction bs with
 | nil=>cases hb
 | cons u r J=>
  simp only [Q5];rcases aM.mp hb with e | hb
  .rw [<-e];exact cT _ G
  .exact bY _ (J hb)
def QX(rows:List L2.PNx)(ts:List Tm):List (Bool×Tm):=List.zipWith (λr t=>(r.2.2.2.isEmpty,t)) rows ts
end ST
namespace K40c
open K40
open PySem L2 TM TT ST K9 K11
abbrev sRS:Stmt:=top 26
abbrev sLS:Stmt:=top 25
def spRS(K:Fg)(n:Nat):Sp:=λvs H Q _=>∃(v:V)(ls:Addr)(us:List V)(S:List Stp)(t:Tm)(cs:List (Int×Int)),vs=[v,.ref ls]/\TmV K H v t/\TDr cs t/\lv t<=n/\SqL K H ls us/\SAll K H us S/\CallsIn S.length t/\
 ∀(v':V)(H':Hp),Same H H'->SV K H' v' (rsT (lookS S) t)->Q v' H'
def Sh(K:Fg):Sp:=λvs H Q _=>∃(wd lr:Addr)(ks:List KdT)(kd:KdT)(us:List V)(ts:List Tm),vs=[.ref wd,.str kd.2.1,.ref lr]/\WoodAt K H wd ks/\WoodOk ks/\kd∈ks/\SqL K H lr us/\TmAll K H us ts/\ts.length=kd.2.2.2.length/\(∃r∈kd.2.2.2,r.2.2.2=[])/\
 (∀(j:Nat)(r:PNx)(t:Tm),kd.2.2.2[j]?=some r->ts[j]?=some t->(∃cs,TDr cs t)/\lv t<=4/\(r.2.2.2=[]->cls t=[]))/\
 ∀(v':V)(H':Hp),Same H H'->SV K H' v' (US (QX kd.2.2.2 ts))->Q v' H'
section
variable{K:Fg}
theorem CC:FnScope ["rule","stumps"] ["rule","stumps"] (defScope sRS):=(0:)
theorem ok_rs(F:Fun K "rule_stump" "rule_stump" sRS f fd)(G:Gm mg)(hO:mg "OPEN"=some (.ref oa))(hOA:∀H:Hp,SqT K H oa [.str UD])(RC:Fn P w K mg base 1 "is_call" ["term"] (M6 K))(R:Fn P w K mg base (n+1) "rule_stump" ["rule","stumps"] (spRS K n)):FnOk P w K mg base CX0 (n+2) f fd ["rule","stumps"] (spRS K (n+1)):=by
 refine F.ok CC (7:) (λao A outer s H vs Q E hr h=>?_)
 .obtain⟨v,ls,us,S,t,cs,rfl,_⟩:=h
  rfl
 obtain⟨v,ls,us,S,t,cs,rfl,ht,aa,ag,ab,ac,M,q⟩:=h;refine⟨_,(Qg (QM (QF (Qt RC hr (Qa (pv 0) Qc) (dH 1 n))) (Qi (Qn (Qk QL (pv 1) (2:) (λ_ _=>rfl)))) Qr)
  (Qg (QM (QF (2:)) (Qi (Qn (Uf (v:=.ref oa) rfl hO rfl))) Qr)
  (Qi (Qn (QE (Qa (Zi) (Qa (2:) (Qa (2:) (Qa (QN Q6 rfl G.tup cK (Qa (QO (CompG.many (xs:=["part"]) (caps:=["stumps"]) (cap:=[1]) (cs:=[_]) rfl rfl (1:) (1:) (1:) (1:) (1:) (1:) rfl rfl rfl) rfl (YQ (2:)) (YZ (CompG.many (xs:=["part"]) (caps:=["stumps"]) (cap:=[1]) (cs:=[_]) rfl rfl (1:) (1:) (1:) (1:) (1:) (1:) rfl rfl rfl)) (λ_ _ _ _=>Zn) (λ_ _ _ _=>Qt R hr (Qa (pv 0) (Qa (pv 1) Qc)) (4:))) Qc)) Qc))))))))),?_⟩
 refine L2.let2 ?_
 intros
 refine⟨_,rfl,v,t,rfl,ht,_,rfl,?_⟩;rcases tm_op ht with⟨a,m,b,rfl,rfl,h1⟩ | ⟨a,b,bs,nm,k,ad,ts,rfl,rfl,h1,h2,h3,h4⟩
 .obtain⟨ah,ae⟩:0<=m/\m.toNat<S.length:=M (m,b) (by simp [cls,lcl]);obtain⟨sv,ai,aj⟩:=ac.get (aD ae);refine Zh ⟨_,rfl,_,rfl,a,_,1,_,rfl,rfl,h1,rfl,ls,us,m,sv,rfl,rfl,ab,Jd ah ai,q sv H (Same.refl _) ?_⟩;simp only [rsT,lookS];rw [aD ae];exact aj
 refine QT ⟨_,rfl,a,_,2,_,rfl,rfl,h1,rfl,_,rfl,?_⟩;simp only [rsT]at q;cases k with
 | true=>
  simp only [b_]at q;exact Zh (q (.ref oa) H (Same.refl _) (.op (hOA H)))
 | false=>
  simp only [cD,bU]at q;refine QT ?_;have l3:=h3.length;simp only [TDr]at aa;simp only [lv]at ag;refine⟨_,rfl,a,_,1,_,rfl,rfl,h1,rfl,_,rfl,a,_,3,_,rfl,rfl,h1,rfl,_,rfl,a,_,4,_,rfl,rfl,h1,rfl,b,rfl,⟨_,h2⟩,λacc U=>?_⟩;refine let J_:JC:=(λi ys H'=>H' acc=some (.lst ys)/\Same H H'/\ys.length=i/\SAll K H' ys ((ts.take i).map (rsT (lookS S))));Ux (K:=K) (xs:=bs) (cs:=[some (.ref ls)]) (tt:=λ_ H Q=>Q true H) (te:=Y3 (spRS K n) [] E0 (QZ (ZT 0) (QZ (ZT 1) YF))) J_
   ⟨Qb,Qd U _,rfl,.nil⟩ ?_ ?_ ?_
  .rintro i ys H' _ ⟨_,g,_⟩;exact g.seqT h2
  .rintro i x ys H' hi hx ⟨Y,g,af,L⟩;have Z:i<ts.length:=by lia
   obtain⟨cv,ak,al⟩:=h3.get (aD Z);obtain rfl:cv=x:=aI (ak.symm.trans hx);have hm:=aQ Z;have a1:=ZL hm;refine Zh ⟨_,rfl,_,rfl,cv,ls,us,S,ts[i],cs,rfl,al.mono λ_ _=>g.seqT,(Pa _ ts).mp aa.2.2 _ hm,by lia,g.seq ab,ac.mono λ_ _=>g.seqT,M.bs _ hm,λv4 H4 g4 am=>?_⟩;have J:=g4 _ _ Y;refine QC (ys:=ys) hi J (5:) ⟨Qb,λb u e=>?_,by simp [af],?_⟩
   .rw [Qe (Qf e U)];exact g4 _ _ (g _ _ e)
   .rw [bB,aD Z,aP];exact SAll.append (L.mono λ_ _ h=>(g4.seqT h).put J) (.cons (am.mono λ_ _ h=>h.put J) .nil)
  rintro ys H3 ⟨Y,g3,af,L⟩;rw [bH (5:)]at L;refine⟨acc,ys,rfl,.inl ⟨SqL.of Y,λt ht=>⟨(by show 4<=sizeLine;decide),λp3 an=>?_⟩⟩⟩;have gA:=Qd ht (.tup ys);have gB:=Qd an (.tup [.str WW,.str nm,.int ad,.ref t]);refine q (.ref p3) _ (g3.trans (gA.trans gB)) ?_;rw [J7];exact .put (SqT.of Qb) (gB.seqT (SqT.of Qb)) (L.mono λ_ _=>(gA.trans gB).seqT)
end
abbrev sAR:Stmt:=top 23
theorem JY{ks:List KdT}{kd:KdT}(hn:(ks.map λk=>k.2.1).Nodup)(hk:kd∈ks):QV ks kd.2.1=kd.2.2.2:=by
 unfold QV;rw [Mo hn hk]
 rfl
abbrev BS(K:Fg):List V->Hp->VK->Prop:=λxs H Q=>∃p ys,xs=[.ref p]/\(SqL K H p ys\/SqT K H p ys)/\Q (.int (ys.length:Int)) H
theorem VI(l:List Stp)(x:Stp)(r:List Stp)(h:l=x::r):l.foldl met x=WZ l:=by
 subst h;show(x::r).foldl met x=r.foldl met x;rw [List.foldl_cons,Uh]
section
variable{K:Fg}
theorem Od:FnScope ["wood","kind","rules","leaves","stump","other"] ["wood","kind","rules"] (defScope sLS):=(0:)
theorem ok_ls(F:Fun K "leaf_stump" "leaf_stump" sLS f fd)(G:Gm mg)(RO:Fn P w K mg base 1 "rows_of" ["wood","kind"] (Vh K))(RS:Fn P w K mg base 5 "rule_stump" ["rule","stumps"] (spRS K 4))(RM:Fn P w K mg base 6 "met" ["one","other"] (spMet K 5)):FnOk P w K mg base CX0 7 f fd ["wood","kind","rules"] (Sh K):=by
 refine F.ok Od (7:) (λbq A outer s H vs Q E hr h=>?_)
 .obtain⟨wd,lr,ks,J,us,M,rfl,_⟩:=h
  rfl
 obtain⟨wd,lr,ks,J,us,M,rfl,hw,ag,av,aw,ax,br,as,ah,q⟩:=h;refine⟨_,(Qg (Jb (i:=3) (CompG.many (xs:=["row","rule"]) (caps:=[]) (cap:=[]) (cs:=[]) rfl rfl (1:) (1:) (1:) (1:) (1:) (1:) rfl rfl rfl) rfl (NJ rfl G.zip (Qa (Qt RO hr (Qa (pv 0) (Qa (pv 1) Qc))) (Qa (pv 2) Qc))) (XM (CompG.many (xs:=["row","rule"]) (caps:=[]) (cap:=[]) (cs:=[]) rfl rfl (1:) (1:) (1:) (1:) (1:) (1:) rfl rfl rfl) rfl) (λ_ _ _ _=>WC (Qw ZX (Ql (r:=BS K) Qm rfl G.len bO (Qa (Qk (r:=P1 K) Qj (pv 0) Qh (λ_ _=>rfl)) Qc)) Qh (QA _))) (λ_ _ _ _=>Qt RS hr (Qa (pv 1) (Qa (Zs Qc) Qc))) Od.nd rfl rfl)
  (Qg (Qz (i:=4) Od.nd rfl (18:) (Qk QL (pv 3) Qh (λ_ _=>rfl)))
  (Qg (QG bV rfl (QJ (pv 3)) (Qq (i:=5) Od.nd rfl (18:)) (Qi (Qz (i:=4) Od.nd rfl (18:) (Qt RM hr (Qa (pv 4) (Qa (pv 5) Qc))))))
  (Qi (Qn (pv 4)))))),?_⟩
 refine L2.let3 ?_
 intros
 have bt:=ax.length;have bo:J.2.2.2.length<=10:=(ag.rows J av).len;refine⟨_,rfl,_,rfl,wd,J.2.1,ks,rfl,hw,ag,λa9 H1 g1 aa=>⟨_,rfl,a9,lr,_,us,rfl,aa.1,g1.seq aw,λacc ai=>?_⟩⟩;rw [JY ag.nd av]at aa ⊢;have hz:(J.2.2.2.map λt=>V.ref t.1).length=us.length:=by rw [aE];lia
 refine TW (K:=K) (xs:=J.2.2.2.map λt=>V.ref t.1) (zs:=us) (cs:=[]) (te:=Y3 (spRS K 4) [] E0 (QZ (ZT 1) (QZ (Bs YF) YF))) hz (λi ys H'=>H' acc=some (.lst ys)/\Same H1 H'/\ys.length<=i/\SAll K H' ys ((((QX J.2.2.2 M).take i).filter λr=>r.1).map λr=>rsT (λ_=>.op) r.2))
  ⟨Qb,Qd ai _,aY _,.nil⟩ ?_ ?_ ?_
 .rintro i ys H' _ ⟨_,g,_⟩;exact⟨g.seq aa.1,g.seq (g1.seq aw)⟩
 .rintro i u v p ys H' hi hu hv hp ⟨ab,g,ba,U⟩;have Z:i<J.2.2.2.length:=by simpa using hi
  have aj:i<M.length:=by lia
  obtain rfl:u=.ref J.2.2.2[i].1:=by
   rw [aK,aD Z]at hu;exact(aI hu).symm
  obtain⟨cv,ak,al⟩:=ax.get (aD aj);obtain rfl:cv=v:=aI (ak.symm.trans hv);have gp:=Qd hp (.tup [.ref J.2.2.2[i].1,cv]);have ac:=g.trans gp;have ay:=(aa.2 _ (aQ Z));have az:(QX J.2.2.2 M)[i]?=some (J.2.2.2[i].2.2.2.isEmpty,M[i]):=by
   unfold QX;rw [fZ,aD Z,aD aj]
  obtain⟨⟨cs,am⟩,a0,bb⟩:=ah i _ _ (aD Z) (aD aj);refine⟨_,rfl,_,_,1,_,rfl,rfl,ac.seqT ay.1,rfl,_,_,rfl,.inr (ac.seqT ay.2),rfl,_,rfl,?_⟩;rw [aE,aE];have an:=gp _ _ ab
  by_cases Y:J.2.2.2[i].2.2.2=[]
  .have e:decide (V.int ((J.2.2.2[i].2.2.2.length:Nat):Int)=V.int 0)=true:=bK (by rw [Y];rfl);rw [e];refine Zh ⟨_,rfl,(by show 0<=sizeLine;decide),λl0 bc=>?_⟩;have gl:=Qd bc (.lst []);have a3:=bb Y;refine⟨cv,l0,[],[],M[i],cs,rfl,al.mono λ_ _=>(g1.trans (ac.trans gl)).seqT,am,a0,SqL.of Qb,.nil,λc Y=>?_,λv4 H4 g4 a4=>?_⟩
   .rw [a3]at Y;cases Y
   have ad:=g4 _ _ (gl _ _ an);refine QC (ys:=ys) Z ad (5:) ⟨Qb,λb u e=>?_,by rw [aW,cM];lia,?_⟩
   .rw [Qe (Qf e ai)];exact g4 _ _ (gl _ _ (ac _ _ e))
   .rw [bB,az,List.filter_append,aP];have e2:J.2.2.2[i].2.2.2.isEmpty=true:=by rw [Y];rfl
    have e3:rsT (lookS []) M[i]=rsT (λ_=>.op) M[i]:=Ue _ λc Y=>by rw [a3]at Y;cases Y
    rw [e3]at a4;simp only [eX,List.filter_cons,e2,b_,List.filter_nil,aS,List.map_nil];exact SAll.append (U.mono λ_ _ h=>(g4.seqT (gl.seqT (gp.seqT h))).put ad) (.cons (a4.mono λ_ _ h=>h.put ad) .nil)
  .have bp:J.2.2.2[i].2.2.2.length≠0:=λz=>Y (fz.mp z);have e:decide (V.int ((J.2.2.2[i].2.2.2.length:Nat):Int)=V.int 0)=false:=bN λz=>by have:=V.int.inj z;lia
   rw [e];refine QT (Yy Z (ys:=ys) ⟨an,ac,by lia,?_⟩);rw [bB,az,List.filter_append,aP];have e2:J.2.2.2[i].2.2.2.isEmpty=false:=by
    cases hh:J.2.2.2[i].2.2.2 with
    | nil=>exact absurd hh Y
    | cons _ _=>rfl
   simp only [eX,List.filter_cons,e2,cD,bU,List.filter_nil,List.map_nil,dG];exact U.mono λ_ _=>gp.seqT
 rintro ys H2 ⟨ab,g2,ba,U⟩;have bd:(QX J.2.2.2 M).length=J.2.2.2.length:=by unfold QX;rw [List.length_zipWith];lia
 rw [aE,<-bd,dN]at U;have au:US (QX J.2.2.2 M)=WZ (((QX J.2.2.2 M).filter λr=>r.1).map λr=>rsT (λ_=>.op) r.2):=rfl;rw [au]at q;generalize hL:(((QX J.2.2.2 M).filter λr=>r.1).map λr=>rsT (λ_=>.op) r.2)=L at U q;have ao:∀y∈L,SOk y/\sl y<=4:=λy hy=>by
  rw [<-hL]at hy;obtain⟨r,ap,rfl⟩:=aJ.mp hy;obtain⟨be,_⟩:=dB.mp ap;obtain⟨j,hj,ej⟩:=bW be;have a5:j<J.2.2.2.length:=by lia
  have ae:j<M.length:=by lia
  obtain⟨⟨cs,am⟩,a0,_⟩:=ah j _ _ (aD a5) (aD ae);have e:r.2=M[j]:=by
   have:=aD hj;unfold QX at this;rw [fZ,aD a5,aD ae]at this;have h2:=aI this;unfold QX at ej;rw [<-ej,<-h2]
  rw [e];obtain⟨a1,a2⟩:=GO (S:=λ_=>Stp.op) (k:=1) (λ_=>by simp only [SOk]) (λ_=>by simp only [sl];lia) (4:) M[j] am;exact⟨a1,by lia⟩
 obtain⟨x0,r0,hx⟩: ∃x r,L=x::r:=by
  cases bf:L with
  | cons x r=>exact⟨x,r,rfl⟩
  | nil=>
   obtain⟨r,ap,er⟩:=as;obtain⟨j,hj,ej⟩:=bW ap;have ae:j<M.length:=by lia
   have hm:(J.2.2.2[j].2.2.2.isEmpty,M[j])∈QX J.2.2.2 M:=by
    refine aL (i:=j) ?_;unfold QX;rw [fZ,aD hj,aD ae]
   have a6:rsT (λ_=>.op) M[j]∈L:=by
    rw [<-hL];exact aJ.mpr ⟨_,dB.mpr ⟨hm,by show J.2.2.2[j].2.2.2.isEmpty=true;rw [ej,er];rfl⟩,rfl⟩
   rw [bf]at a6;cases a6
 have bu:=U.length;obtain⟨v0,bg,bh⟩:=U.get (i:=0) (t:=x0) (by rw [hx];rfl);refine⟨_,rfl,acc,ys,0,v0,rfl,rfl,SqL.of ab,Qo (j:=0) bg,?_⟩;refine⟨_,rfl,acc,rfl,⟨_,SqL.of ab⟩,?_⟩;have a7:=ao x0 (by rw [hx];exact aR);refine let J_:J3:=(λi σ H'=>∃(sv:V)(c5:Option V),σ=[some (.ref wd),some (.str J.2.1),some (.ref lr),some (.ref acc),some sv,c5]/\Same H2 H'/\SV K H' sv ((L.take i).foldl met x0)/\SOk ((L.take i).foldl met x0)/\sl ((L.take i).foldl met x0)<=4);Q2 (K:=K) (xs:=ys) J_
  ⟨v0,none,rfl,Same.refl _,bh,a7.1,a7.2⟩ ?_ ?_ ?_
 .rintro i σ H' _ ⟨sv,c5,_,g,_⟩;exact SqL.of (g _ _ ab)
 .rintro i x σ H' a8 ⟨sv,c5,rfl,g,af,aq,bi⟩;have ar:i<L.length:=by
   have:=(aU.mp a8).1;lia
  obtain⟨cv,ak,al⟩:=U.get (aD ar);obtain rfl:cv=x:=aI (ak.symm.trans a8);have bj:=ao _ (aQ ar);refine⟨_,rfl,_,rfl,sv,cv,_,L[i],rfl,af,al.mono λ_ _=>g.seqT,aq,bj.1,by lia,λv' H3 g3 bn=>?_⟩;obtain⟨o1,o2⟩:=J0 _ L[i] aq;refine⟨v',_,rfl,g.trans g3,?_⟩;rw [bB,aD ar,List.foldl_append];exact⟨bn,o1,by show sl (met _ _)<=4;lia⟩
 .rintro σ H' ⟨sv,c5,rfl,g,af,aq,bi⟩;rw [bH (5:),VI L x0 r0 hx]at af;exact⟨_,rfl,q sv H' (g1.trans (g2.trans g)) af⟩
end
end K40c
namespace ST
open PySem TM TT L2 K11
def nRl(ms:List MdT)(m:Nat):Nat:=((ms[m]?).map λx=>x.2.2.2.2.length).getD 0
def LR(ms:List MdT)(m:Nat):List (Int×Int):=(List.range (nRl ms m)).map λ(j:Nat)=>((m:Int),(j:Int))
def QP(ms:List MdT)(i:Nat):List (Int×Int):=(List.range i).flatMap (LR ms)
theorem Xr(ms:List MdT)(i:Nat):QP ms (i+1)=QP ms i++LR ms i:=by
 unfold QP;rw [gD,List.flatMap_append];simp
theorem Z1{b:Nat}(h:∀m∈ms,m.2.2.2.2.length<=b):∀i,(QP ms i).length<=i*b
 | 0=>by simp [QP]
 | i+1=>by
  rw [Xr,aW];have h1:=Z1 h i;have h2:(LR ms i).length<=b:=by
   unfold LR nRl;rw [aE,eI];cases e:ms[i]? with
   | none=>simp
   | some m=>exact h m (aL e)
  rw [Nat.succ_mul];lia
theorem ZU{c:Int×Int}:c∈QP ms n↔ ∃m j:Nat,c=((m:Int),(j:Int))/\m<n/\j<nRl ms m:=by
 unfold QP LR;constructor
 .intro h;obtain⟨m,G,h⟩:=List.mem_flatMap.mp h;obtain⟨j,J,rfl⟩:=aJ.mp h;exact⟨m,j,rfl,cO.mp G,cO.mp J⟩
 .rintro⟨m,j,rfl,G,J⟩;exact List.mem_flatMap.mpr ⟨m,cO.mpr G,aJ.mpr ⟨j,cO.mpr J,rfl⟩⟩
end ST
namespace K40c
open K40
open PySem L2 TM TT ST K9 K11
def Se(K:Fg):Sp:=λvs H Q _=>∃(lm:Addr)(ms:List MdT),vs=[.ref lm]/\ModesL K H lm ms/\ms.length<=4/\(∀m∈ms,m.2.2.2.2.length<=10)/\
 ∀(l:Addr)(H':Hp)(ts:List (Addr×List Int)),Same H H'->H l=none->H' l=some (.lst (Rf ts))->TsAt K H' ts->ts.map (·.2)=(QP ms ms.length).map pr->Q (.ref l) H'
section
variable{K:Fg}
theorem Aa:FnScope ["modes","told","mode"] ["modes"] (defScope sAR):=(0:)
theorem ok_ar(F:Fun K "all_rules" "all_rules" sAR f fd)(G:Gm mg):FnOk P w K mg base CX0 1 f fd ["modes"] (Se K):=by
 refine F.ok Aa (7:) (λam A outer s H vs Q E hr h=>?_)
 .obtain⟨lm,ms,rfl,_⟩:=h
  rfl
 obtain⟨lm,ms,rfl,ac,h4,aj,q⟩:=h;refine⟨_,(Qg (Qz (i:=1) Aa.nd rfl (18:) (Zs Qc))
  (Qg (QG bV rfl (Q3 rfl G.rng (Qa (Ql Qm rfl G.len bO (Qa (pv 0) Qc)) Qc)) (Qq (i:=2) Aa.nd rfl (Or.inr rfl)) (Qi
   (Zc (Ua cS gQ gR Ut (pv 1) (Qa (QO (CompG.many (xs:=["number"]) (caps:=["mode"]) (cap:=[2]) (cs:=[_]) rfl rfl (1:) (1:) (1:) (1:) (1:) (1:) rfl rfl rfl) rfl (Q3 rfl G.rng (Qa (Ql Qm rfl G.len bO (Qa (Qk Qj (Qk QL (pv 0) (pv 2) (λ_ _=>rfl)) Qh (λ_ _=>rfl)) Qc)) Qc)) (YZ (CompG.many (xs:=["number"]) (caps:=["mode"]) (cap:=[2]) (cs:=[_]) rfl rfl (1:) (1:) (1:) (1:) (1:) (1:) rfl rfl rfl)) (λ_ _ _ _=>Zn) (λ_ _ _ _=>(QE (Qa (pv 1) (Qa (pv 0) Qc))))) Qc)))))
  (Qi (Qn (pv 1))))),?_⟩
 refine L2.let2 ?_
 intros
 refine⟨(by show 0<=sizeLine;decide),λl hl=>?_⟩;have g0:=Qd hl (.lst []);have Z:(ms.map λm=>V.ref m.1).length=ms.length:=aE ..;refine⟨_,rfl,lm,_,rfl,.inl (g0.seq ac.1),_,rfl,(by rw [Z];show-(2^62:Int)<=((ms.length:Nat):Int);lia),(by rw [Z];show((ms.length:Nat):Int)<2^62;lia),?_⟩;refine let J_:J3:=(λi σ H'=>∃(L:List (Addr×List Int))(c2:Option V),σ=[some (.ref lm),some (.ref l),c2]/\Same H H'/\H' l=some (.lst (Rf L))/\TsAt K H' L/\L.map (·.2)=(QP ms i).map pr);Zm (lo:=0) (n:=(((ms.map λm=>V.ref m.1).length:Nat):Int).toNat) J_
  ⟨[],none,rfl,g0,Qb,λx hx=>(nomatch hx),rfl⟩ ?_ ?_
 .rintro i σ H' hi ⟨L,c2,rfl,g,aa,ad,M⟩;rw [Z]at hi;have ab:i<ms.length:=by lia
  have e0:(0:Int)+(i:Int)=(i:Int):=by lia
  rw [e0];have ae:=ac.2 _ (aQ ab);have an:=aj _ (aQ ab);have ao:=ae.2.2.length;have hn:nRl ms i=ms[i].2.2.2.2.length:=by unfold nRl;rw [aD ab];rfl
  have ak:(((ms[i].2.2.2.1.length:Nat):Int)).toNat=nRl ms i:=by rw [hn];lia
  refine⟨_,rfl,.inl ⟨rfl,_,SqL.of aa⟩,_,rfl,_,rfl,lm,_,(i:Int),.ref ms[i].1,rfl,rfl,g.seq ac.1,Qo (by rw [aK,aD ab];rfl),ms[i].1,_,1,_,rfl,rfl,g.seqT ae.1,rfl,ms[i].2.2.1,_,rfl,.inl (g.seq ae.2.1),_,rfl,(by show-(2^62:Int)<=((ms[i].2.2.2.1.length:Nat):Int);lia),(by show((ms[i].2.2.2.1.length:Nat):Int)<2^62;lia),λacc af=>?_⟩;rw [ak];refine let J_:JC:=(λj ys H2=>∃J:List (Addr×List Int),ys=Rf J/\H2 acc=some (.lst ys)/\Same H' H2/\TsAt K H2 J/\J.map (·.2)=((List.range j).map λ(k:Nat)=>[(i:Int),(k:Int)]));Xh (lo:=0) (n:=nRl ms i) (cs:=[some (.int (i:Int))]) (tt:=λ_ H Q=>Q true H) (te:=Re (QZ (ZT 1) (QZ (ZT 0) YF))) J_
   ⟨[],rfl,Qb,Qd af _,λx hx=>(nomatch hx),rfl⟩ ?_ ?_
  .rintro j ys H2 hj ⟨J,rfl,ag,g2,ah,U⟩;have e1:(0:Int)+(j:Int)=(j:Int):=by lia
   rw [e1];have al:J.length=j:=by have:=congrArg List.length U;simpa using this
   refine Zh ⟨_,rfl,_,rfl,(by show 2<=sizeLine;decide),λp hp=>?_⟩;have gp:=Qd hp (.tup [.int (i:Int),.int (j:Int)]);have Y:=gp _ _ ag;refine QC (ys:=Rf J) hj Y (17:) ⟨J++[(p,[(i:Int),(j:Int)])],by simp,by rw [Qb],λb u e=>?_,?_,?_⟩
   .rw [Qe (Qf e af)];exact gp _ _ (g2 _ _ e)
   .refine(ah.mono λ_ _ h=>(gp.seqT h).put Y).app λx hx=>?_;have:x=(p,[(i:Int),(j:Int)]):=by simpa using hx
    rw [this];exact(SqT.of Qb).put Y
   .rw [aP,U,gD,aP]
    rfl
  rintro ys H2 ⟨J,rfl,ag,g2,ah,U⟩;have ai:=g2 _ _ aa;have ap:L.length<=40:=by
   have e:=congrArg List.length M;rw [aE,aE]at e;have:=Z1 aj i;lia
  have al:J.length<=10:=by
   have e:=congrArg List.length U;simp only [aE,eI]at e;lia
  refine⟨l,acc,_,_,rfl,rfl,ai,ag,?_,?_⟩
  .rw [aE,aE];exact ZM (5:)
  refine⟨L++J,_,rfl,λx u e=>?_,by rw [Qb];simp,?_,?_⟩
  .rw [Qe (Qf e hl)];exact g2 _ _ (g _ _ e)
  .exact(ad.mono λ_ _ h=>(g2.seqT h).put ai).app (ah.mono λ_ _ h=>h.put ai)
  .rw [aP,M,U,Xr,aP];unfold LR;rw [bX]
   rfl
 .rintro σ H' ⟨L,c2,rfl,g,aa,ad,M⟩;rw [Z]at M;exact⟨_,rfl,q l H' L g hl aa ad M⟩
end
end K40c
namespace ST
open PySem TM TT L2 K11
def kk(c:Int×Int):List Key:=[Sum.inl c.1,Sum.inl c.2]
theorem SU{a b:Int×Int}(h:kk a=kk b):a=b:=by
 unfold kk at h;injection h with h1 h2;injection h2 with h2 _;exact Prod.ext (Sum.inl.inj h1) (Sum.inl.inj h2)
def Zy(ms:List MdT)(c:Int×Int):Option Tm:=(ms[c.1.toNat]?).bind λx=>x.2.2.2.2[c.2.toNat]?
def Z4(ms:List MdT)(c:Int×Int):List ((Int×Int)×Int):=match Zy ms c with
 | some t=>(cls t).map λx=>(c,x.1)
 | none=>[]
theorem Jh{c:Int×Int}(h:c∈QP ms ms.length):∃(m j:Nat)(x:MdT)(t:Tm),c=((m:Int),(j:Int))/\ms[m]?=some x/\x.2.2.2.2[j]?=some t/\Zy ms c=some t:=by
 obtain⟨m,j,rfl,J,G⟩:=ZU.mp h;unfold nRl at G;rw [aD J]at G;have G:j<ms[m].2.2.2.2.length:=G;refine⟨m,j,_,_,rfl,aD J,aD G,?_⟩;unfold Zy;simp only [a_];rw [aD J];show ms[m].2.2.2.2[j]?=_;rw [aD G]
abbrev DsT:=List (Addr×List (List Key×V))
structure CBs(H0 H:Hp)(l:Addr)(ms:List MdT)(ds:DsT)(done:List ((Int×Int)×Int)):Prop where
 same:Same H0 H
 lnew:H0 l=none
 li:H l=some (.lst (ds.map λd=>V.ref d.1))
 len:ds.length=ms.length
 fr:∀d∈ds,H0 d.1=none
 na:(ds.map (·.1)).Nodup
 dat:∀d∈ds,H d.1=some (.dT d.2)
 nd:∀d∈ds,(d.2.map (·.1)).Nodup
 kin:∀d∈ds,∀q∈d.2,(∃c∈QP ms ms.length,q.1=kk c)/\q.2=V.bl true
 all:∀p∈done,∀d,ds[p.2.toNat]?=some d->kk p.1∈d.2.map (·.1)
theorem CBs.on{ds:DsT}(h:CBs H0 H l ms ds done)(g:Same H H'):CBs H0 H' l ms ds done:=
 ⟨h.same.trans g,h.lnew,g _ _ h.li,h.len,h.fr,h.na,λd G=>g _ _ (h.dat d G),h.nd,h.kin,h.all⟩
theorem CBs.few{ds:DsT}(h:CBs H0 H l ms ds done){d:Addr×List (List Key×V)}(hd:d∈ds):d.2.length<=(QP ms ms.length).length:=by
 have h1:=Uv (l:=d.2.map (·.1)) (r:=(QP ms ms.length).map kk) (h.nd d hd) λx G=>by
  obtain⟨q,J,rfl⟩:=aJ.mp G;obtain⟨⟨c,L,e⟩,_⟩:=h.kin d hd q J;rw [e];exact aJ.mpr ⟨c,L,rfl⟩
 simpa using h1
theorem CBs.put{ds:DsT}(h:CBs H0 H l ms ds done){d:Addr×List (List Key×V)}(hn:ds[n]?=some d){c:Int×Int}(hc:c∈QP ms ms.length):
 CBs H0 (upd H d.1 (.dT (putK d.2 (kk c) (.bl true)))) l ms (ds.set n (d.1,putK d.2 (kk c) (.bl true))) (done++[(c,(n:Int))]):=by
 have L:=aL hn;have M:n<ds.length:=(aU.mp hn).1;have U:∀{β:Type}(f:Addr->β),(ds.set n (d.1,putK d.2 (kk c) (.bl true))).map (λd=>f d.1)=ds.map λd=>f d.1:=λf=>by
  rw [List.map_set];have e:(ds.map λd=>f d.1)[n]?=some (f d.1):=by rw [aK,hn];rfl
  exact gN λj=>by
   rw [gO];split
   .rename_i Y;subst Y;split
    .exact e.symm
    .rename_i aa;rw [aE]at aa;exact absurd M aa
   .rfl
 have mem:∀x∈ds.set n (d.1,putK d.2 (kk c) (.bl true)),x=(d.1,putK d.2 (kk c) (.bl true))\/x∈ds/\x.1≠d.1:=λx G=>by
  obtain⟨j,Y,e⟩:=bW G;have J:=aD Y;rw [e,gO]at J;split at J
  .left
   first | exact(aI J).symm | (split at J;exact(aI J).symm;cases J)
  .rename_i ab;refine .inr ⟨aL J,λz=>ab ?_⟩;have ac:j<ds.length:=(aU.mp J).1;have a1:(ds.map (·.1))[n]?=some d.1:=by rw [aK,hn];rfl
   have a2:(ds.map (·.1))[j]?=some d.1:=by rw [aK,J];exact congrArg some z
   exact(List.getElem?_inj (by rw [aE];exact M) h.na).mp (a1.trans a2.symm)
 refine⟨λb u e=>?_,h.lnew,?_,by rw [List.length_set];exact h.len,λx G=>?_,?_,λx G=>?_,λx G=>?_,λx G=>?_,λp hp x G=>?_⟩
 .rw [Qe (Qf e (h.fr d L))];exact h.same _ _ e
 .rw [Qe (QB h.li (h.dat d L) (14:)),U V.ref];exact h.li
 .rcases mem x G with rfl | ⟨G,_⟩
  .exact h.fr d L
  .exact h.fr x G
 .have:=U (λa=>a);rw [this];exact h.na
 .rcases mem x G with rfl | ⟨G,ne⟩
  .exact Qb
  .rw [Qe ne];exact h.dat x G
 .rcases mem x G with rfl | ⟨G,ne⟩
  .exact Xy (h.nd d L)
  .exact h.nd x G
 .intro q Z;rcases mem x G with rfl | ⟨G,ne⟩
  .rcases LK Z with Z | rfl
   .exact h.kin d L q Z
   .exact⟨⟨c,hc,rfl⟩,rfl⟩
  .exact h.kin x G q Z
 .rw [gO]at G;rcases aX.mp hp with hp | hp
  .split at G
   .rename_i Y;have G:some (d.1,putK d.2 (kk c) (.bl true))=some x:=by
     first | exact G | (split at G;exact G;cases G)
    obtain rfl:=aI G;exact WU (h.all p hp d (by rw [<-Y];exact hn))
   .exact h.all p hp x G
  .obtain rfl:p=(c,(n:Int)):=by simpa using hp
   have e:n=(((c,(n:Int)):(Int×Int)×Int).2).toNat:=by simp
   rw [aG e]at G
   first | rw [aG M]at G | skip
   obtain rfl:=aI G;exact aJ.mpr ⟨_,Of,rfl⟩
end ST
namespace K40c
open K40
open PySem L2 TM TT ST K9 K11
abbrev sCB:Stmt:=top 24
structure MsOk(ms:List MdT):Prop where
 four:ms.length<=4
 ten:∀m∈ms,m.2.2.2.2.length<=10
 tm:∀m∈ms,∀t∈m.2.2.2.2,(∃cs,TDr cs t)/\lv t<=4/\sz t<=1000/\CallsIn ms.length t
def S9(K:Fg):Sp:=λvs H Q _=>∃(lm:Addr)(ms:List MdT),vs=[.ref lm]/\ModesL K H lm ms/\MsOk ms/\
 ∀(l:Addr)(H':Hp)(ds:DsT),CBs H H' l ms ds ((QP ms ms.length).flatMap (Z4 ms))->Q (.ref l) H'
section
variable{K:Fg}
theorem MB:FnScope ["modes","told","mode","number","called","branch"] ["modes"] (defScope sCB):=(0:)
theorem ok_cb(F:Fun K "callers_by_modes" "callers_by_modes" sCB f fd)(G:Gm mg)(RA:Fn P w K mg base 1 "all_rules" ["modes"] (Se K))(RC:Fn P w K mg base 5 "calls_of" ["term"] (spCO K 4)):FnOk P w K mg base CX0 6 f fd ["modes"] (S9 K):=by
 refine F.ok MB (7:) (λbt A outer s H vs Q E hr h=>?_)
 .obtain⟨lm,ms,rfl,_⟩:=h
  rfl
 obtain⟨lm,ms,rfl,aa,ok,q⟩:=h;refine⟨_,(Qg (Jb (i:=1) (CompG.many (xs:=["mode"]) (caps:=[]) (cap:=[]) (cs:=[]) rfl rfl (1:) (1:) (1:) (1:) (1:) (1:) rfl rfl rfl) rfl (QJ (pv 0)) (YZ (CompG.many (xs:=["mode"]) (caps:=[]) (cap:=[]) (cs:=[]) rfl rfl (1:) (1:) (1:) (1:) (1:) (1:) rfl rfl rfl)) (λ_ _ _ _=>Zn) (λ_ _ _ _=>WX) MB.nd rfl rfl)
  (Qg (QG bV rfl (QJ (Qt RA hr (Qa (pv 0) Qc) (12:))) (Zp rfl (Qv (Qq (i:=2) MB.nd rfl (18:)) (Qv (Qq (i:=3) MB.nd rfl (18:)) Za))) (Qi
   (QG bV rfl (QJ (Qt RC hr (Qa (Qk QL (Qk Qj (Qk QL (pv 0) (pv 2) (λ_ _=>rfl)) Qh (λ_ _=>rfl)) (pv 3) (λ_ _=>rfl)) Qc))) (Zp rfl (Qv (Qq (i:=4) MB.nd rfl (18:)) (Qv (Qq (i:=5) MB.nd rfl (18:)) Za)))
    (Qi (PY (NM hr) (Qk QL (pv 1) (pv 4) (λ_ _=>rfl)) (QE (Qa (pv 2) (Qa (pv 3) Qc))) ZN rfl)))))
  (Qi (Qn (pv 1))))),?_⟩
 refine L2.let2 ?_
 intros
 have bu:(ms.map λm=>V.ref m.1).length=ms.length:=aE ..;have h4:=ok.four;refine⟨_,rfl,lm,rfl,⟨_,aa.1⟩,λacc ab=>?_⟩;refine let J_:JC:=(λi ys H'=>∃L:List Addr,ys=L.map V.ref/\L.length=i/\H' acc=some (.lst ys)/\Same H H'/\L.Nodup/\(∀a∈L,H a=none/\H' a=some (.dT [])));Jk (K:=K) (xs:=ms.map λm=>V.ref m.1) (cs:=[]) (tt:=λ_ H Q=>Q true H) (te:=OT) J_
  ⟨[],rfl,rfl,Qb,Qd ab _,fQ,λa ha=>(nomatch ha)⟩ ?_ ?_ ?_
 .rintro i ys H' _ ⟨L,_,_,_,g,_⟩;exact g.seq aa.1
 .rintro i x ys H' hi hx ⟨L,rfl,ao,ai,g,aj,Y⟩;refine Zh λp hp=>?_;have Z:=Qd hp (.dT []);have ak:=Z _ _ ai;refine QC (ys:=L.map V.ref) hi ak (17:) ⟨L++[p],by simp,by simp [ao],Qb,λb u e=>?_,?_,λa ha=>?_⟩
  .rw [Qe (Qf e ab)];exact Z _ _ (g _ _ e)
  .rw [fM];refine⟨aj,by simp,λa ha b hb=>?_⟩;obtain rfl:b=p:=by simpa using hb
   exact λe=>by rw [e]at ha;have:=(Y _ ha).2;rw [hp]at this;cases this
  .have ap:∀b,upd H' p (.dT []) b=some (.dT [])->b≠acc:=λb hb=>QB hb ak (14:);rcases aX.mp ha with ha | ha
   .have h2:=Z _ _ (Y a ha).2;exact⟨(Y a ha).1,by rw [Qe (ap a h2)];exact h2⟩
   .obtain rfl:a=p:=by simpa using ha
    refine⟨?_,by rw [Qe (ap a Qb)];exact Qb⟩;exact g.free hp
 rintro ys H1 ⟨L,rfl,ao,ai,g1,aj,Y⟩;have c1:CBs H H1 acc ms (L.map λa=>(a,[])) []:=by
  have e:(L.map λa=>((a,[]):Addr×List (List Key×V))).map (·.1)=L:=by rw [bX];exact List.map_id _
  refine⟨g1,ab,?_,?_,λd hd=>?_,by rw [e];exact aj,λd hd=>?_,λd hd=>?_,λd hd=>?_,λp hp=>(nomatch hp)⟩
  .rw [bX];exact ai
  .rw [aE];lia
  all_goals obtain⟨a,ha,rfl⟩:=aJ.mp hd
  .exact(Y a ha).1
  .exact(Y a ha).2
  .exact fQ
  .exact λq hq=>(nomatch hq)
 refine⟨_,rfl,lm,ms,rfl,aa.same g1,ok.four,ok.ten,λlr H2 U g2 bp aq a7 ar=>⟨lr,rfl,⟨_,SqL.of aq⟩,?_⟩⟩;have hl:=congrArg List.length ar;rw [aE,aE]at hl;refine let J_:J3:=(λi σ H'=>∃(ds:DsT)(c2 c3 c4 c5:Option V),σ=[some (.ref lm),some (.ref acc),c2,c3,c4,c5]/\CBs H H' acc ms ds (((QP ms ms.length).take i).flatMap (Z4 ms))/\H' lr=some (.lst (Rf U))/\TsAt K H' U);Q2 (K:=K) (xs:=Rf U) J_
  ⟨_,none,none,none,none,rfl,c1.on g2,aq,a7⟩ ?_ ?_ ?_
 .rintro i σ H' _ ⟨ds,_,_,_,_,_,_,h,_⟩;exact SqL.of h
 .rintro i x σ H' hx ⟨ds,c2,c3,c4,c5,rfl,M,a4,al⟩;have hi:i<U.length:=by have:=(aU.mp hx).1;rwa [aE]at this
  obtain rfl:x=.ref U[i].1:=by
   rw [aK,aD hi]at hx;exact(aI hx).symm
  have a8:i<(QP ms ms.length).length:=by lia
  obtain⟨c,ec⟩: ∃c,(QP ms ms.length)[i]?=some c:=⟨_,aD a8⟩;have au:=aL ec;have et:U[i].2=pr c:=by
   have e:=congrArg (λl=>l[i]?) ar;simp only [aK,aD hi,ec]at e;exact aI e
  have a9:SqT K H' U[i].1 [.int c.1,.int c.2]:=by have:=al _ (aQ hi);rw [et]at this;exact this
  obtain⟨m,j,md,t,rfl,av,aw,ba⟩:=Jh au;have ax:=aL av;have ac:=aa.2 md ax;have bb:=aL aw;obtain⟨_,bc,bd,a5⟩:=ok.tm md ax t bb;obtain⟨tv,be,a6⟩:=ac.2.2.get aw;have gs:=M.same;refine⟨U[i].1,_,rfl,a9,rfl,_,_,rfl,_,_,rfl,rfl,?_⟩;refine⟨_,rfl,_,rfl,lm,_,(m:Int),.ref md.1,rfl,rfl,gs.seq aa.1,Qo (by rw [aK,av];rfl),md.1,_,1,_,rfl,rfl,gs.seqT ac.1,rfl,_,rfl,md.2.2.1,_,(j:Int),tv,rfl,rfl,gs.seq ac.2.1,Qo be,tv,t,rfl,a6.mono λ_ _=>gs.seqT,bc,bd,λlc H3 us g3 bq ay bf az=>⟨lc,rfl,⟨_,SqL.of ay⟩,?_⟩⟩;have bg:=congrArg List.length az;rw [aE,aE]at bg;have bh:Z4 ms ((m:Int),(j:Int))=(cls t).map λx=>(((m:Int),(j:Int)),x.1):=by unfold Z4;rw [ba]
  refine let J_:J3:=(λk σ J=>∃(ds:DsT)(c4 c5:Option V),σ=[some (.ref lm),some (.ref acc),some (.int (m:Int)),some (.int (j:Int)),c4,c5]/\CBs H J acc ms ds (((QP ms ms.length).take i).flatMap (Z4 ms)++((cls t).take k).map λx=>(((m:Int),(j:Int)),x.1))/\J lr=some (.lst (Rf U))/\TsAt K J U/\J lc=some (.lst (Rf us))/\TsAt K J us);Q2 (K:=K) (xs:=Rf us) J_
   ⟨ds,c4,c5,rfl,by simpa using M.on g3,g3 _ _ a4,al.mono λ_ _=>g3.seqT,ay,bf⟩ ?_ ?_ ?_
  .rintro k σ J _ ⟨ds,_,_,_,_,_,_,h,_⟩;exact SqL.of h
  .rintro k x σ J hx ⟨ds,c4,c5,rfl,M,ad,ae,am,af⟩;have hk:k<us.length:=by have:=(aU.mp hx).1;rwa [aE]at this
   obtain rfl:x=.ref us[k].1:=by
    rw [aK,aD hk]at hx;exact(aI hx).symm
   obtain⟨b,eb⟩: ∃b,(cls t)[k]?=some b:=⟨_,aD (5:)⟩;have eu:us[k].2=pr b:=by
    have e:=congrArg (λl=>l[k]?) az;simp only [aK,aD hk,eb]at e;exact aI e
   have bi:SqT K J us[k].1 [.int b.1,.int b.2]:=by have:=af _ (aQ hk);rw [eu]at this;exact this
   obtain⟨a0,bj⟩:=a5 b (aL eb);have bn:b.1.toNat<ds.length:=by rw [M.len];exact bj
   obtain⟨d,ed⟩: ∃d,ds[b.1.toNat]?=some d:=⟨_,aD bn⟩;have a1:=aL ed;refine⟨us[k].1,_,rfl,bi,rfl,_,_,rfl,_,_,rfl,rfl,?_⟩;refine⟨_,rfl,_,rfl,acc,_,b.1,.ref d.1,rfl,rfl,SqL.of M.li,Jd a0 (by rw [aK,ed];rfl),_,rfl,_,rfl,(by show 2<=sizeLine;decide),λp hp=>?_⟩;have Z:=Qd hp (.tup [.int (m:Int),.int (j:Int)]);have an:=M.on Z;have ag:=an.dat d a1;have few:=an.few a1;have br:=Z1 ok.ten ms.length;refine⟨d.1,_,rfl,DPut.t (k:=kk ((m:Int),(j:Int))) ag Qb (by rw [QD];lia),?_⟩;have a3:=an.put ed au;have keep:∀(a:Addr)(xs:List V),upd J p (.tup [.int (m:Int),.int (j:Int)]) a=some (.lst xs)->upd (upd J p (.tup [.int (m:Int),.int (j:Int)])) d.1 (.dT (putK d.2 (kk ((m:Int),(j:Int))) (.bl true))) a=some (.lst xs):=λa xs h=>by
    rw [Qe (QB h ag (14:))];exact h
   have ah:∀(a:Addr)(xs:List V),SqT K (upd J p (.tup [.int (m:Int),.int (j:Int)])) a xs->SqT K (upd (upd J p (.tup [.int (m:Int),.int (j:Int)])) d.1 (.dT (putK d.2 (kk ((m:Int),(j:Int))) (.bl true)))) a xs:=λa xs h=>by
    rcases h with h | h
    .rcases h with h | ⟨o,h⟩
     .exact .inl (.inl (by rw [Qe (QB h ag (14:))];exact h))
     .exact .inl (.inr ⟨o,by rw [Qe (QB h ag (14:))];exact h⟩)
    .exact .inr h
   refine⟨ds.set b.1.toNat (d.1,putK d.2 (kk ((m:Int),(j:Int))) (.bl true)),_,_,rfl,?_,keep _ _ (Z _ _ ad),ae.mono λ_ _ h=>ah _ _ (Z.seqT h),keep _ _ (Z _ _ am),af.mono λ_ _ h=>ah _ _ (Z.seqT h)⟩;have e2:((b.1.toNat:Nat):Int)=b.1:=eE a0;rw [e2]at a3;rw [bB,eb,eX,aP,<-dE];exact a3
  .rintro σ J ⟨ds,c4,c5,rfl,M,ad,ae,am,af⟩;refine⟨ds,_,_,_,_,rfl,?_,ad,ae⟩;have bo:(cls t).take (Rf us).length=cls t:=bH (17:);rw [bo]at M;rw [bB,ec,eX,List.flatMap_append];simp only [List.flatMap_cons,List.flatMap_nil,dG];rw [bh];exact M
 .rintro σ H' ⟨ds,c2,c3,c4,c5,rfl,M,_,_⟩;rw [bH (17:)]at M;exact⟨_,rfl,q acc H' ds M⟩
end
end K40c
namespace L2
open PySem PySem.Spec PyProof.Rows PySem.W
section
variable{κ:Type} [DecidableEq κ]
def QU(ps more:List (κ×Addr×Value)):List (κ×Addr×Value):=more.foldl (λacc x=>storedH acc x.1 x.2.1 x.2.2) ps
theorem Wi(ps more:List (κ×Addr×Value))(i:Nat)(x:κ×Addr×Value)(h:more[i]?=some x):QU ps (more.take (i+1))=storedH (QU ps (more.take i)) x.1 x.2.1 x.2.2:=by
 unfold QU;rw [bB,h,List.foldl_append]
 rfl
theorem Vn(ps:List (κ×Addr×Value))(k:κ)(b:Addr)(v:Value):(storedH ps k b v).length<=ps.length+1:=by
 unfold storedH;split
 .rw [aE];lia
 .rw [aW,cM];exact aY _
theorem UX:∀(more ps:List (κ×Addr×Value)),(QU ps more).length<=ps.length+more.length
 | [],ps=>by show ps.length<=ps.length+0;lia
 | x::r,ps=>by
  have h1:=UX r (storedH ps x.1 x.2.1 x.2.2);have h2:=Vn ps x.1 x.2.1 x.2.2;show(QU (storedH ps x.1 x.2.1 x.2.2) r).length<=_;rw [bF];lia
theorem MR{ps:List (κ×Addr×Value)}{k:κ}(h:k∉ps.map (·.1)):atKey ps k=none:=by
 unfold atKey;rw [Option.map_eq_none_iff,List.find?_eq_none];intro x G e;exact h (aJ.mpr ⟨x,G,bM e⟩)
theorem U0:∀(more ps:List (κ×Addr×Value)),((ps++more).map (·.1)).Nodup->QU ps more=ps++more
 | [],ps,_=>(dG ps).symm
 | x::r,ps,h=>by
  have G:x.1∉ps.map (·.1):=λz=>by
   rw [aP,fM]at h;exact h.2.2 _ z _ (by rw [aS];exact aR) rfl
  show QU (storedH ps x.1 x.2.1 x.2.2) r=_;rw [storedH_new (MR G)];have e:ps++x::r=(ps++[(x.1,x.2.1,x.2.2)])++r:=by simp
  rw [e]at h;rw [U0 r _ h,e]
end
section
variable{κ:Type} [DecidableEq κ]  {E:Value->Shared->Prop}
theorem JW{kd:HeapKind prog w κ}{ps:List (κ×Addr×Value)}{k:κ}{v:Value}{Q:Unit->Shared->Prop}(room:kd.room A)(isK:kd.is s.heap k b)(D:s.heap.DictOfH kd d ps)(small:ps.length<=sizeLine)
 (fin:∀h2,h2.DictOfH kd d (storedH ps k b v)->Heap.SameBut d s.heap h2->Q () { s with heap:=h2 }):wpAny (9:) A (dictSetHashed d (.ref b) (kd.hash k) v) Q E s:=by
 obtain⟨ob,ents,ep,L,ac,G,U,J,M⟩:=D;unfold dictSetHashed
 try with_reducible refine cB ?_
 refine aB (wpAny_dictFind_heap room isK L G U J M (λY=>?_) λj p Z=>?_)
 .have ad:k∉ps.map (·.1):=not_mem_keys_of_get Y;have aa:=storedH_new (atKey_none_of_get Y) b v;refine aB (eP (wpAny_updateDictKeys (hz:=by have:=size_of_entries U;lia) L G ?_));refine fin _ ⟨_,_,ep+1,dX _ L (Obj.isFreed_of_dict (gM G _)),ac.mapDictKeys _,gM G _,?_,?_,?_⟩ (cU ..)
  .rw [aa];simp [U,entryOfKey]
  .rw [aa];intro y hy;rcases aX.mp hy with hy | hy
   .exact kd.keeps (J y hy) L G (cU ..)
   .obtain rfl:=bJ.mp hy;exact kd.keeps isK L G (cU ..)
  .rw [aa,aP,fM];refine⟨M,by simp,λy hy z hz=>?_⟩;obtain rfl:z=k:=by simpa using hz
   exact λq=>ad (by rw [<-q];exact hy)
 .have ab:=storedH_old (atKey_of_get M Z) b v;refine aB (eP (aB (wpAny_updateDict L G (wpAny_point ?_))));refine fin _ ⟨_,_,ep,dX _ L (Obj.isFreed_of_dict (Obj.data_mapDict G _)),ac.mapDict _,Obj.data_mapDict G _,?_,?_,?_⟩ (cU ..)
  .rw [ab];have z:=modify_map_putAt (entryOfKey kd) (λt:DictEntry=>{ t with val:=v }) k v (λ_ _=>rfl) M Z;rw [<-U]at z;obtain⟨l⟩:=ents
   simpa using z
  .rw [ab];intro y hy;obtain⟨z,hz,rfl⟩:=aJ.mp hy;unfold putAt;split<;>exact kd.keeps (J z hz) L G (cU ..)
  .rw [ab,keys_map_putAt];exact M
theorem X3{kn:KeyKind prog w κ}{o:Addr}{ps:List (List κ×Addr×Value)}{Q:Array DictEntry->Shared->Prop}(go:s.heap.get? o=some ob)(dat:ob.data=.dict ents ep)
 (eqs:ents.toList=ps.map (entryOfKey (tupleKind kn))) (isAll:∀x∈ps,(tupleKind kn).is s.heap x.1 x.2.1) (one:∀t∈ents,(ents.filter (·.hash==t.hash)).size<=1) (fin:Q ents s):
 wpAny (9:) A (Builtin.Dict.entriesForEmpty nm o) Q E s:=by
 unfold Builtin.Dict.entriesForEmpty;refine aB (c_ go dat ?_);refine aB ?_;rw [<-Array.forIn_toList];refine wpAny_forIn_list _ (λrest _ L=>L=s/\∀t∈rest,t∈ents) _ ?_ ?_ _ _ ⟨rfl,λt M=>gK.mp M⟩
 .rintro t rest u L ⟨rfl,mem⟩;have M:=mem t aR;have U:=one t M;obtain⟨x,Y,rfl⟩:=aJ.mp (eqs ▸ gK.mpr M);obtain⟨ok,its,n,g1,g2,_⟩:=isAll x Y;have Z:L.TypeIs (.ref x.2.1) "tuple":=⟨ok,g1,g2⟩;refine aB ?_;show wpAny _ _ (specialOf (.ref x.2.1) "__eq__">>=λr=>pure (r==some (.builtin "object.__eq__"))) _ _ _;refine aB (wpAny_specialOf Z F.slot_tuple_eq.lookup (21:));have G:¬(ents.filter (λt=>t.hash==(entryOfKey (tupleKind kn) x).hash)).size>1:=by lia
  have J:L=L/\∀t∈rest,t∈ents:=⟨rfl,λt h=>mem t (bR _ h)⟩;split
  all_goals first | exact aH J | (rw [aF G];exact aH J) | (split;exact absurd (by assumption) G;exact aH J)
 .rintro u L ⟨rfl,_⟩;exact aH fin
theorem MZ{kn:KeyKind prog w κ}{ps:List (List κ×Addr×Value)}(eqs:ents.toList=ps.map (entryOfKey (tupleKind kn)))(nod:(ps.map (·.1)).Nodup)
 (apart:∀x∈ps,∀y∈ps,(tupleKind kn).hash x.1=(tupleKind kn).hash y.1->x.1=y.1):∀t∈ents,(ents.filter (·.hash==t.hash)).size<=1:=by
 intro t G;obtain⟨x,J,rfl⟩:=aJ.mp (eqs ▸ gK.mpr G);have e:(ents.filter (·.hash==(entryOfKey (tupleKind kn) x).hash)).size=(ps.filter λy=>(tupleKind kn).hash y.1==(tupleKind kn).hash x.1).length:=by
  rw [<-eS,Array.toList_filter,eqs,List.filter_map,aE]
  rfl
 rw [e];have p:=Uv (l:=(ps.filter λy=>(tupleKind kn).hash y.1==(tupleKind kn).hash x.1).map (·.1)) (r:=[x.1]) (nod.sublist (List.Sublist.map _ List.filter_sublist)) λz hz=>by
  obtain⟨y,L,rfl⟩:=aJ.mp hz;obtain⟨h1,h2⟩:=dB.mp L;rw [apart y h1 x J (by simpa using h2)];exact aR
 rw [aE]at p;exact p
theorem Xp{kn:KeyKind prog w κ}{o:Addr}{ps more:List (List κ×Addr×Value)}{Q:Unit->Shared->Prop}(ne:d≠o)(os:(o==sysModules)=false)(room:(tupleKind kn).room A)
 (D:s.heap.DictOfH (tupleKind kn) d ps) (M:s.heap.DictOfH (tupleKind kn) o more) (apart:∀x∈more,∀y∈more,(tupleKind kn).hash x.1=(tupleKind kn).hash y.1->x.1=y.1) (small:ps.length+more.length<=sizeLine)
 (fin:∀h2,h2.DictOfH (tupleKind kn) d (QU ps more)->Heap.SameBut d s.heap h2->Q () { s with heap:=h2 }):wpAny (9:) A (Builtin.Dict.mergeDict nm d o) Q E s:=by
 obtain⟨ob,ao,ai,gd,aj,J,ak,aq,ap⟩:=id D;obtain⟨oo,G,ar,go,as,L,U,aa,Z⟩:=id M;have sz:G.size=more.length:=size_of_entries U;have ae:(Heap.SameBut d s.heap s.heap):=Heap.SameBut.refl _ _;unfold Builtin.Dict.mergeDict;rw [aF (by simpa using ne)];unfold Builtin.Dict.showsAll;rw [aF (by rw [os];exact aT)];refine aB (21:);refine aB (c_ go L ?_);have ab:wpAny (9:) A (do
  let ad <-dictEpoch o
  let l <-dictEntries o
  forIn [:l.size] PUnit.unit λi (_:PUnit)=>(do
   let l2 <-dictEntries o
   match l2[i]? with
    | some t=>do
     holding [t.key,t.val] (dictSetHashed d t.key t.hash t.val)
     let e2 <-dictEpoch o
     if(e2 !=ad)=true then do
         (unsupported (toString nm++toString ":source-changed-during-callback"):Sem PUnit)
         pure (ForInStep.yield PUnit.unit)
      else pure (ForInStep.yield PUnit.unit)
    | _=>do
     (unsupported "internal:dict-merge":Sem PUnit)
     pure (ForInStep.yield PUnit.unit):Sem (ForInStep PUnit))
  pure ()) Q E s:=by
  refine aB (eJ go L (aB (c_ go L (aB ?_))));rw [Std.Legacy.Range.forIn_eq_forIn_range'];simp only [Std.Legacy.Range.size,Nat.sub_zero,Nat.add_sub_cancel,Nat.div_one];refine wpAny_forIn_list _ (λrest _ s2=>∃h2 i,s2={ s with heap:=h2 }/\rest=List.range' i (G.size-i)/\i<=G.size/\h2.DictOfH (tupleKind kn) d (QU ps (more.take i))/\h2.get? o=some oo/\Heap.SameBut d s.heap h2) _ ?_ ?_ _ _
   ⟨s.heap,0,rfl,by simp,bE _,by simpa [QU]using D,go,ae⟩
  .rintro y rest u s2 ⟨h2,i,rfl,Y,li,D2,ac,sb⟩;have lt:i<G.size:=by
    rcases Nat.lt_or_ge i G.size with z | z
    .exact z
    .rw [Nat.sub_eq_zero_of_le z]at Y;simp at Y
   obtain⟨rfl,al⟩:y=i/\rest=List.range' (i+1) (G.size-(i+1)):=by
    have q:G.size-i=(G.size-(i+1))+1:=by lia
    rw [q,List.range'_succ]at Y;exact⟨(List.cons.inj Y).1,(List.cons.inj Y).2⟩
   refine aB (c_ ac L ?_);obtain⟨x,ex⟩: ∃x,more[y]?=some x:=⟨_,aD (5:)⟩;rw [entry_at U y,ex];show wpAny _ _ (holding [Value.ref x.2.1,x.2.2] (dictSetHashed d (.ref x.2.1) ((tupleKind kn).hash x.1) x.2.2)>>=_) _ _ _;have few:(QU ps (more.take y)).length<=sizeLine:=by
    have q:=UX (more.take y) ps;rw [cW]at q;lia
   have am:=(tupleKind kn).keeps (aa x (aL ex)) gd J sb;refine aB (cB (JW (s:={ s with heap:=h2 }) room am D2 few λh3 D3 af=>?_));have ag:h3.get? o=some oo:=(af.2 o (aV ne)).trans ac;refine aB (eJ ag L ?_);rw [aF (16:)];exact aH ⟨h3,y+1,rfl,al,lt,by rw [Wi ps more y x ex];exact D3,ag,sb.trans af⟩
  .rintro u s2 ⟨h2,i,rfl,Y,li,D2,ac,sb⟩;have q:i=G.size:=by
    rcases Nat.lt_or_ge i G.size with z | z
    .have q:G.size-i=(G.size-(i+1))+1:=by lia
     rw [q,List.range'_succ]at Y;cases Y
    .exact Nat.le_antisymm li z
   rw [q,sz,dN]at D2;exact aH (fin h2 D2 sb)
 dsimp only;split
 .refine aB (c_ gd J ?_);split
  .rename_i an;have hp:ps=[]:=by
    have z:=size_of_entries ak;rw [Array.isEmpty_iff.mp an]at z;exact fz.mp z.symm
   subst hp;refine aB (X3 go L U aa (MZ U Z apart) ?_);have em:QU [] more=more:=U0 more [] Z;rw [em]at fin;split
   .refine aB (wpAny_updateDictKeysTo gd J (aH (fin _ ⟨_,_,ai+1,dX _ gd (Obj.isFreed_of_dict (gM J _)),aj.mapDictKeys _,gM J _,U,λx hx=>?_,Z⟩ (cU ..))) ?_)
    .exact(tupleKind kn).keeps (aa x hx) gd J (cU ..)
    .simp only [List.length_nil,fi]at small;lia
   .rename_i ah;have m0:more=[]:=by
     have z:G=#[]:=Array.isEmpty_iff.mp (by simpa using ah);rw [z]at sz;exact fz.mp sz.symm
    subst m0;exact aH (fin _ D ae)
  .exact ab
 .exact ab
end
section
variable{κ:Type} [DecidableEq κ]
theorem UN(kn:KeyKind prog w κ)(d o:Addr)(ne:d≠o)(os:(o==sysModules)=false):
 MeetsIn prog w (Builtin.«dict.update» ⟨[.ref d,.ref o],[]⟩) (λA R s=>(tupleKind kn).room A.in1/\∃ps more,s.heap.DictOfH (tupleKind kn) d ps/\s.heap.DictOfH (tupleKind kn) o more/\ps.length+more.length<=sizeLine/\
  (∀x∈more,∀y∈more,(tupleKind kn).hash x.1=(tupleKind kn).hash y.1->x.1=y.1)/\
  ∀h2,h2.DictOfH (tupleKind kn) d (QU ps more)->Heap.SameBut d s.heap h2->R (.ok (.ret .none)) { s with heap:=h2 }):=
 .of_wp λA R s ⟨room,ps,more,D,M,G,J,fin⟩=>by
  unfold Builtin.«dict.update»;refine aB ?_;unfold Builtin.Dict.selfAndRest;refine aB (gG D.typeIs (show wpAny _ _ (pure (d,[Value.ref o])) _ _ s from aH ?_));show wpAny _ _ (Builtin.Dict.updateFrom "dict.update" d (.ref o) [] .none) _ _ s;unfold Builtin.Dict.updateFrom;refine aB (fh M.typeIs ?_);rw [aF (12:)];refine aB ?_;unfold Builtin.Dict.merge;refine aB ?_;unfold Builtin.Dict.readDirectly;refine aB (eZ M.typeIs isSubtype_dict_dict ?_);simp only [Bool.not_true,cD,bU];refine aB (wpAny_specialOf M.typeIs gf.lookup (21:));simp only [beq_self_eq_true,b_];refine aB (aH (Xp ne os room D M J G λh2 L U=>?_));show wpAny _ _ (Builtin.Dict.addKeywords d []>>=_) _ _ _;exact aB (aH (aH ⟨.none,rfl,fin h2 L U⟩))
end
def Zz(kvs more:List (List Key×V)):List (List Key×V):=more.foldl (λacc q=>putK acc q.1 q.2) kvs
theorem YK:∀(more kvs:List (List Key×V)),(Zz kvs more).length<=kvs.length+more.length
 | [],kvs=>by show kvs.length<=kvs.length+0;lia
 | p::r,kvs=>by
  have h1:=YK r (putK kvs p.1 p.2);have h2:=Ym kvs p.1 p.2;show(Zz (putK kvs p.1 p.2) r).length<=_;rw [bF];lia
theorem KT.merge:∀{more:List (List Key×V)}{rs:List (List Key×Addr×Value)}{kvs:List (List Key×V)}{xs:List (List Key×Addr×Value)},KT H more rs->KT H kvs xs->KT H (Zz kvs more) (QU xs rs):=by
 intro more rs kvs xs r;unfold KT at r
 induction r generalizing kvs xs with
 | nil=>intro q;exact q
 | @cons p q ps qs h t G=>
  intro J;have e:KT H (putK kvs p.1 p.2) (storedH xs q.1 q.2.1 q.2.2):=by
   have z:=J.put p.1 h.2.1 h.2.2;rw [<-h.1];exact z
  exact G e
theorem KT.mem{xs:List (List Key×Addr×Value)}(r:KT H kvs xs):xs.map (·.1)=kvs.map (·.1):=by
 unfold KT at r
 induction r with
 | nil=>rfl
 | @cons p q ps qs h t G=>rw [aS,aS,G,h.1]
def Pe(ks:List (List Key)):Prop:=∀(P:Program)(w:World),∀x∈ks,∀y∈ks,(tupleKind (Qu P w)).hash x=(tupleKind (Qu P w)).hash y->x=y
def PR:V->List V->Hp->VK->Prop:=λx vs H Q=>∃(d o:Addr)(kvs more:List (List Key×V)),x=.ref d/\vs=[.ref o]/\d≠o/\H d=some (.dT kvs)/\H o=some (.dT more)/\kvs.length+more.length<=sizeLine/\Pe (more.map (·.1))/\
 Q .non (upd H d (.dT (Zz kvs more)))
theorem LQ(hu:X.A.units+1<cLine):MtR X "dict.update" PR:=by
 intro pins s σ H x vs v us Q I rx rv h;obtain⟨d,o,kvs,G,rfl,rfl,ne,Z,ho,L,U,q⟩:=h;cases rx;obtain⟨u,rfl,ru⟩:=rv.one;cases ru;obtain⟨_,z1,xs,r1,D⟩:=GK I.hok Z;obtain⟨_,z2,ys,Y,M⟩:=GK I.hok ho;have l1:=d_ r1;have l2:=d_ Y;refine call_meetsIn PySem.F.slot_dict_update D.typeIs PySem.F.entry_dict_update (PySem.F.args_dict_update_2 _ _) (UN (Qu X.prog X.w) d o ne z2) ⟨tupleKind_room_in1 hu,xs,ys,D,M,by lia,λa ha b hb e=>?_,λh2 D2 sb=>?_⟩
 .refine U X.prog X.w _ ?_ _ ?_ e
  .rw [<-Y.mem];exact aJ.mpr ⟨a,ha,rfl⟩
  .rw [<-Y.mem];exact aJ.mpr ⟨b,hb,rfl⟩
 have J:(Zz kvs G).length<=sizeLine:=bT (YK G kvs) L;obtain⟨ob,es,ep,g1,g2,g3,g4,_,g5⟩:=D2;have aa:ObjOk X.prog X.w (upd H d (.dT (Zz kvs G))) h2 d (.dT (Zz kvs G)):=by
  refine⟨J,z1,_,(Y.merge r1).keeps λc zs ec=>?_,ob,es,ep,g1,g2,g3,g4,g5⟩;rw [Qe (QB ec Z (λz=>nomatch z))];exact ec
 exact⟨.non,_,Jj I (by rw [Z];exact cR) sb ⟨ob,g1⟩ aa,rfl,q⟩
def DEnt(h:Heap)(d:Addr)(ents:Array DictEntry)(ep:Nat):Prop:=∃o,h.get? d=some o/\o.ExactDict/\o.data=.dict ents ep
section
variable{E:Value->Shared->Prop}
theorem DEnt.ty(x:DEnt s.heap d ents ep):s.TypeIs (.ref d) "dict":=by
 obtain⟨o,g,e,_⟩:=x;exact⟨o,g,e.1⟩
theorem DEnt.lt(x:DEnt h d ents ep):d<h.objs.size:=by
 obtain⟨o,g,_⟩:=x;exact aO g
theorem UA(lo:(d==sysModules)=false)(x:DEnt s.heap d ents ep)
 (fin:Q (.ref s.heap.objs.size) { s with heap:=s.heap.push { cls:=.type "dict_keyiterator",data:=.fields #[.ref d,.int 0 0,.int ents.size 0,.int ep 0] } }):wpAny (9:) A (pyIter (.ref d)) Q E s:=by
 have ty:=x.ty;obtain⟨o,g,ex,G⟩:=x;refine wpAny_pyIter_slot ty gf (dA gf ty F.entry_dict_iter ?_ (F.args_dict_iter_1 _));unfold Builtin.«dict.__iter__» Builtin.Dict.dictSlotNone;refine aB (aB (gG ty (show wpAny _ _ (pure (Value.ref d)) _ _ s from aH ?_)));show wpAny _ _ (Builtin.Dict.showsAll d>>=_) _ _ s;unfold Builtin.Dict.showsAll;rw [aF (by rw [lo];exact aT)];refine aB (aH (aB (c_ g G (aB (eJ g G ?_)))));refine aB (cN (aH ⟨_,rfl,"dict_keyiterator",_,⟨_,bD _ rfl,rfl⟩,F.slot_dict_keyiterator_next.lookup,?_⟩))
 simpa [rawInt]using fin
theorem Uy{t:DictEntry}{Q:Option Value->Shared->Prop}(hI:s.heap.IsKeyIter it d i ents.size ep)(x:DEnt s.heap d ents ep)(at_i:ents[i]?=some t)
 (fin:∀h2,h2.IsKeyIter it d (i+1) ents.size ep->Heap.SameBut it s.heap h2->Q (some t.key) { s with heap:=h2 }):wpAny (9:) A (pyNext (.ref it)) Q E s:=by
 obtain⟨oi,M,Z,G⟩:=id hI;obtain⟨od,Y,aa,J⟩:=id x;unfold pyNext;refine aB (8:);refine aB (aH (aB (aB ?_)))
 first | refine aB (eg hI.typeIs (21:)) | refine aB (eo hI.typeIs (21:))
 refine aB (wpAny_fieldsOf M G ?_);have U:Builtin.Dict_items.ownsTuple "dict_keyiterator"=false:=by decide
 simp only [U,cD,bU];show wpAny _ _ (if(Value.ref d==Value.none)=true then _ else _) _ _ s;rw [aF (show ¬((Value.ref d==Value.none)=true)from aT)];refine aB (aH (aB (c_ Y J ?_)));rw [aF (16:)];refine aB (aH (aB (eJ Y J ?_)));rw [aF (16:)];refine aH ?_;simp only [show ¬((i:Int)<0)from by lia,bU,a_,at_i];refine aB ?_
 first | refine aB (eg hI.typeIs (21:)) | refine aB (eo hI.typeIs (21:))
 refine aB (gJ hI.typeIs ?_);show wpAny _ _ (setField (.ref it) 1 (rawInt ((i:Int)+1))>>=_) _ _ s;refine aB (fR M G (16:) ?_);have L:(s.heap.update it (Obj.mapFields (·.setIfInBounds 1 (rawInt ((i:Int)+1))))).IsKeyIter it d (i+1) ents.size ep:=by
  refine⟨_,dX _ M (Obj.isFreed_of_fields (fK G _)),(Obj.cls_mapFields ..).trans Z,?_⟩;rw [fK G];simp [rawInt]
 refine aB (cB (aB (gJ (s:={ s with heap:=s.heap.update it (Obj.mapFields (·.setIfInBounds 1 (rawInt ((i:Int)+1)))) }) L.typeIs ?_)));show wpAny _ _ (pure t.key) _ _ _;exact aH (aH ⟨_,rfl,aH (fin _ L (cU ..))⟩)
theorem Xe{Q:Option Value->Shared->Prop}(hh:A.handled=none)(hI:s.heap.IsKeyIter it d ents.size ents.size ep)(x:DEnt s.heap d ents ep)(fin:∀h2,Heap.ExtBut it s.heap h2->Q none { s with heap:=h2 }):wpAny (9:) A (pyNext (.ref it)) Q E s:=by
 obtain⟨Z,L,ci,M⟩:=id hI;obtain⟨od,U,Y,G⟩:=id x;unfold pyNext;refine aB (8:);refine aB (aH (aB (aB ?_)))
 first | refine aB (eg hI.typeIs (21:)) | refine aB (eo hI.typeIs (21:))
 refine aB (wpAny_fieldsOf L M ?_);have J:Builtin.Dict_items.ownsTuple "dict_keyiterator"=false:=by decide
 simp only [J,cD,bU];show wpAny _ _ (if(Value.ref d==Value.none)=true then _ else _) _ _ s;rw [aF (show ¬((Value.ref d==Value.none)=true)from aT)];refine aB (aH (aB (c_ U G ?_)));rw [aF (16:)];refine aB (aH (aB (eJ U G ?_)));rw [aF (16:)];refine aH ?_;simp only [show ¬(((ents.size:Nat):Int)<0)from by lia,bU,a_,eA (4:)];refine aB ?_
 first | refine aB (eg hI.typeIs (21:)) | refine aB (eo hI.typeIs (21:))
 show wpAny _ _ (setField (.ref it) 0 .none>>=_) _ _ s;refine aB (fR L M (16:) ?_);show wpAny _ _ (newExc (.type "StopIteration") []>>=_) _ _ _;refine aB ?_;simp only [newExc,newTuple];refine aB (cN ?_ (by size_fits));refine aB (m:=firstArgMember _ _) (wpAny_of_eq (a:=Value.none) (by first | rfl | (simp only [firstArgMember];rfl)) ?_);refine cN ?_ (by size_fits);simp only [raiseNew];refine aB (wpAny_handled ?_);rw [show A.in1.handled=none from hh];refine aB (aH (wpAny_throw ?_));refine aB (eZ (T:="StopIteration") (b:=true) ⟨_,bD _ rfl,rfl⟩ isSubtype_stop ?_);exact aH (fin _ (((cU ..).extBut.push _).push _))
theorem Uq(hh:A.handled=none)(ne:d≠it):Walks prog w A it [it,d] [it] ents.size (λi v=>∃t,ents[i]?=some t/\v=t.key) (λi h=>h.IsKeyIter it d i ents.size ep/\DEnt h d ents ep) where
 sub:=λb G=>by simp at G;simp [G]
 frame:=λ_ h h2 st k=>by
  obtain⟨⟨M,Y,Z⟩,J,L,rd⟩:=st;exact⟨⟨M,k it (16:) M Y,Z⟩,J,k d (16:) J L,rd⟩
 item:=λi s Q E hi st fin=>by
  refine Uy st.1 st.2 (en hi) λh2 I2 U=>?_;obtain⟨J,L,rd⟩:=st.2;refine fin _ h2 s.toks ⟨_,en hi,rfl⟩ ⟨I2,J,U.extBut d J ne L,rd⟩ λb o G e=>U.extBut b o (λz=>G (by simp [z])) e
 done:=λs Q E st fin=>Xe hh st.1 st.2 λh2 he=>fin h2 s.toks λb o G e=>he b o (λz=>G (by simp [z])) e
 self:=λ_ _ _ _ st fin=>wpAny_pyIter_keyiter st.1 fin
theorem J4(lo:(d==sysModules)=false):KdlSrc prog w "dict" d d ents.size (λi v=>∃t,ents[i]?=some t/\v=t.key) (λh=>DEnt h d ents ep) where
 type:=λ_ x=>x.ty
 there:=λ_ x=>⟨x.lt,x.lt⟩
 keep:=λ_ _ x k=>by
  obtain⟨o,g,r⟩:=x;exact⟨o,k d (.inl rfl) o g,r⟩
 notList:=by decide
 notTuple:=by decide
 hint:=λ_ _ _ _ x q=>kdl_hint_dict x.ty q
 iter:=λ_ _ G x=>⟨_,_,(λ_ _ q=>UA lo x q),Uq G (bC x.lt),⟨⟨_,bD _ rfl,rfl,rfl⟩,by
  obtain⟨o,g,r⟩:=x;exact⟨o,aN _ g,r⟩⟩⟩
theorem Vy(hh:A.handled=none)(lo:(d==sysModules)=false)(x:DEnt s.heap d ents ep)(h64:ents.size<64)
 (fin:∀(h1:Heap)(tk:Nat),(∀b o,s.heap.get? b=some o->h1.get? b=some o)->(h1.push (seqObj "list" (ents.toList.map (·.key)).toArray 0)).get? h1.objs.size=some (seqObj "list" (ents.toList.map (·.key)).toArray 0)->
  wpAny (9:) A.in1.in1 (Builtin.«list.sort» ⟨[.ref h1.objs.size],[]⟩) (λfn s2=>∃v,fn=.done (.ret v)/\Q (.ref h1.objs.size) s2) E { s with heap:=h1.push (seqObj "list" (ents.toList.map (·.key)).toArray 0),toks:=tk }):
 wpAny (9:) A (call (.builtin "sorted") [.ref d]) Q E s:=by
 refine Calls.call_function_entry kind_sorted plain_sorted entry_sorted (args_sorted1 _) ?_;unfold Builtin.«sorted»;refine aB (m:=checkCount "sorted" 1 1 _) (21:);refine aB (kdu_collect (A:=A.in1) (J4 lo) hh x (by rw [cQ];lia) λh1 tk acc keep its=>?_);have e:acc.toList=ents.toList.map (·.key):=by
  refine gN λj=>?_;rw [aK,fX,fX]
  by_cases L:j<ents.size
  .have G:j<acc.size:=by rw [its.1];exact L
   obtain⟨t,M,U⟩:=its.2 j _ (en G);rw [en G,M,U];rfl
  .have G:¬j<acc.size:=by rw [its.1];exact L
   rw [eA (eQ.mp G),eA (eQ.mp L)];rfl
 rw [e];refine aB (wpAny_newList ?_ (by rw [aE,eS,cQ];lia));have J:(h1.push (seqObj "list" (ents.toList.map (·.key)).toArray 0)).get? h1.objs.size=some (seqObj "list" (ents.toList.map (·.key)).toArray 0):=bD _ rfl;refine aB (cB (dA slot_list_sort ⟨_,J,rfl⟩ entry_list_sort (dC (fin h1 tk keep J) (λfn s2 Y=>?_) λ_ _ z=>z) (args_list_sort _)));obtain⟨v,rfl,q⟩:=Y;exact⟨_,rfl,aH ⟨_,rfl,q⟩⟩
end
abbrev PII:=Addr×Int×Int
def PairZ(h:Heap)(t:PII):Prop:=∃(u v:Tok),h.IsTuple t.1 [Value.int t.2.1 u,Value.int t.2.2 v].toArray
theorem PairZ.keeps{t:PII}(k:∀b o,h.get? b=some o->h'.get? b=some o)(x:PairZ h t):PairZ h' t:=by
 obtain⟨u,v,z⟩:=x;exact⟨u,v,IsTuple.keeps k z⟩
theorem JX:∀{ts:List PII},(∀t∈ts,PairZ h t)->∃fs:List Value,KatTups h (ts.map λt=>Value.ref t.1) fs/\(∀v∈fs,∃x t,v=Value.int x t)/\fs.length=ts.length
 | [],_=>⟨[],KatTups.nil,λv G=>(nomatch G),rfl⟩
 | t::r,ht=>by
  obtain⟨u,v,⟨o,go,J,n,L⟩⟩:=ht t aR;obtain⟨fs,h1,h2,M⟩:=JX λx U=>ht x (bR _ U);refine⟨Value.int t.2.1 u::fs,KatTups.cons go J L rfl h1,λz hz=>?_,by simp [M]⟩;rcases aM.mp hz with rfl | hz
  .exact⟨_,_,rfl⟩
  .exact h2 z hz
section
variable{E:Value->Shared->Prop}
theorem O1{t u:PII}{C:Bool->Shared->Prop}(ht:PairZ s.heap t)(hu:PairZ s.heap u)(h:C (HT.lexLt [t.2.1,t.2.2] [u.2.1,u.2.2]) s):wpAny (9:) A (keyLt' (tuples' true) (.ref t.1) (.ref u.1)) C E s:=by
 obtain⟨L,a2,⟨ox,M,cx,nx,dx⟩⟩:=ht;obtain⟨U,b2,⟨oy,Y,cy,ny,Z⟩⟩:=hu;refine kat_lt M dx Y Z ?_;show KatLex prog w A true (decide (2<2)) C [(Value.int t.2.1 L,Value.int u.2.1 U),(Value.int t.2.2 a2,Value.int u.2.2 b2)] 0 s;refine kat_cons (wpAny_eqBool_int (kat_go (λe=>?_) λe=>?_))
 .have G:t.2.1=u.2.1:=by simpa using e
  rw [HT.lexLt_cons,aG G]at h;refine kat_yes (kat_cons (wpAny_eqBool_int (kat_go (λe=>?_) λe=>?_)))
  .have J:t.2.2=u.2.2:=by simpa using e
   rw [HT.lexLt_cons,aG J]at h;exact kat_yes (kat_nil h)
  .have J:¬t.2.2=u.2.2:=by simpa using e
   rw [HT.lexLt_cons,aF J]at h;exact kat_no (kat_one _ _ (wpAny_lt_int h))
 .have G:¬t.2.1=u.2.1:=by simpa using e
  rw [HT.lexLt_cons,aF G]at h;exact kat_no (oneLt_int h)
theorem Gc{ts:List PII}{P:PySem.Fin->Shared->Prop}(ho:s.heap.get? a=some (seqObj "list" (ts.map λt=>Value.ref t.1).toArray n))(ht:∀t∈ts,PairZ s.heap t)
 (h64:ts.length<64) (h:∀out:List PII,out.Perm ts->P (.done (.ret .none)) { s with heap:=sortedHeap s.heap a (ts.map λt=>Value.ref t.1) (out.map λt=>Value.ref t.1).toArray }):
 wpAny (9:) A (Builtin.«list.sort» ⟨[.ref a],[]⟩) P E s:=by
 let d:PII:=(0,0,0)
 have J:∀i,i<ts.length->(ts.map λt=>Value.ref t.1).getD i Value.none=.ref (ts.getD i d).1:=λi hi=>by simp [eh,hi]
 have md:∀i,i<ts.length->ts.getD i d∈ts:=λi hi=>by simp [eh,hi]
 have L:∀(s':Shared),(∀b o,b≠a->s.heap.get? b=some o->s'.heap.get? b=some o)->∀t∈ts,PairZ s'.heap t:=λs' G t Y=>by
  obtain⟨u,v,⟨o,go,Z,gn,aa⟩⟩:=ht t Y;have ab:t.1≠a:=λz=>by
   rw [z,ho]at go;cases go;exact absurd (Value.type.inj Z) (12:)
  exact⟨u,v,⟨o,G _ _ ab go,Z,gn,aa⟩⟩
 have ek:(Value.type "int" !=Value.type "tuple")=true:=by decide+kernel
 refine WV lexOrd (λi=>[(ts.getD i d).2.1,(ts.getD i d).2.2]) (tuples' true) ho (by simpa using h64) (λs' Q' G h2 hq=>?_) (λs' i j C G hi M hC=>?_) λpp U o2=>?_
 .obtain⟨fs,f1,f2,f3⟩:=JX (L s' G);refine kat_kind (T:=.type "int") f1 (by rw [f3];rw [aE]at h2;lia) (λv hv=>?_) (1:) (by rw [ek];exact hq);obtain⟨x,t,rfl⟩:=f2 v hv;exact .now
 .rw [aE]at hi M;rw [J i hi,J j M];exact O1 (L s' G _ (md i hi)) (L s' G _ (md j M)) hC
 .rw [aE]at U o2;have em:(pp.toList.map λi=>(ts.map λt=>Value.ref t.1).getD i Value.none)=(pp.toList.map λi=>ts.getD i d).map λt=>Value.ref t.1:=by
   rw [bX];refine fJ λi hi=>?_;exact J i (cO.mp (U.mem_iff.mp hi))
  rw [em];obtain⟨w1,_⟩:=G1 (O:=lexOrd) (ts:=ts) (d:=d) (key:=λt=>[t.2.1,t.2.2]) U o2;exact h _ w1
end
theorem Xj(hc:X.calm=true):Q4 X (.builtin "sorted") (λxs H Q=>∃(d:Addr)(kvs:List (List Key×V))(cs:List (Int×Int)),xs=[.ref d]/\H d=some (.dT kvs)/\kvs.map (·.1)=cs.map (λc=>[Sum.inl c.1,Sum.inl c.2])/\cs.length<64/\
 ∀(out:List PII) p,(out.map (·.2)).Perm cs->(∀t∈out,H t.1=some (.tup [.int t.2.1,.int t.2.2]))->H p=none->Q (.ref p) (upd H p (.lst (out.map λt=>V.ref t.1)))):=by
 intro pins s σ H xs us Q I r h;obtain⟨d,kvs,cs,rfl,hd,M,ac,q⟩:=h;cases r with
 | cons r rr=>
  cases rr;obtain rfl:_=Value.ref d:=r;obtain⟨z,lo,ys,U,hD⟩:=GK I.hok hd;have L:=U.mem;have ab:kvs.length=cs.length:=by have:=congrArg List.length M;simpa using this
  have ad:=d_ U;obtain⟨o,ents,ep,g1,g2,g3,g4,g5,g6⟩:=hD;have ae:ents.size=ys.length:=size_of_entries g4;have af:∃G:List PII,ents.toList.map (·.key)=(G.map λt=>Value.ref t.1)/\G.map (·.2)=cs/\∀t∈G,H t.1=some (.tup [.int t.2.1,.int t.2.2]):=by
   rw [g4,bX];clear g4 g5 g6 ae ad z hd ab ac q
   induction U generalizing cs with
   | nil=>
    cases cs with
    | nil=>exact⟨[],rfl,rfl,λt ht=>(nomatch ht)⟩
    | cons _ _=>cases M
   | @cons p y ps ys h t ih=>
    cases cs with
    | nil=>cases M
    | cons c cs=>
     rw [aS,aS]at M;injection M with k1 k2;rw [aS,aS]at L;injection L with k3 k4;obtain⟨G,e1,Z,e3⟩:=ih cs k2 k4;refine⟨(y.2.1,c.1,c.2)::G,by rw [aS,aS,e1];rfl,by rw [aS,Z],λt ht=>?_⟩;rcases aM.mp ht with rfl | ht
     .have:=h.2.1;rw [k1]at this;exact this
     .exact e3 t ht
  obtain⟨G,e1,Z,e3⟩:=af;have ah:G.length=cs.length:=by have:=congrArg List.length Z;simpa using this
  have hP:∀t∈G,PairZ s.heap t:=λt ht=>by
   obtain⟨its,r1,p1,_⟩:=I.tuple (SqT.of (K:=X.K) (e3 t ht));obtain⟨u,v,rfl,ru,rv⟩:=r1.two;obtain⟨t1,rfl⟩:=(show ∃tk,u=Value.int _ tk from ru);obtain⟨t2,rfl⟩:=(show ∃tk,v=Value.int _ tk from rv);exact⟨t1,t2,p1⟩
  refine Vy (I.ok.hd hc) lo ⟨o,g1,g2,g3⟩ (5:) λh1 tk keep Y=>?_;rw [e1]at Y ⊢;have I1:Inv X pins σ H { s with heap:=h1,toks:=tk }:=I.kept keep;refine Gc Y (λt ht=>(hP t ht).keeps λb o e=>aN _ (keep b o e)) (5:) λout J=>⟨_,rfl,?_⟩;have ag:H h1.objs.size=none:=I1.hok.fresh (4:);obtain⟨e,he⟩:=sortedHeap_at (vs:=G.map λt=>Value.ref t.1) (out:=(out.map λt=>Value.ref t.1).toArray) Y;refine⟨.ref h1.objs.size,_,I1.laid (t':=tk) (o:=.lst (out.map λt=>V.ref t.1)) (λb o g=>?_) (4:) ?_,rfl,q out _ (by rw [<-Z];exact J.map _) (λt ht=>e3 t (J.mem_iff.mp ht)) ag⟩
  .have aa:b<h1.objs.size:=aO g;exact(sortedHeap_old (bC aa) (by rw [size_push'];exact Nat.lt_succ_of_lt aa)).trans (aN _ g)
  .exact⟨by rw [aE,J.length_eq,cQ];lia,_,e,UE out,he⟩
end L2
namespace L2
open PySem
theorem R6{c:TT}{tb:TS}{D:Ends}(J:Nat->St->Hp->Prop)(m0:Nat)(h0:J m0 σ H)
 (hs:∀m σ H,J m σ H->c σ H λb H1=>if b=true then tb { D with nx:=λσ' H'=>∃m'<m,J m' σ' H',ct:=λσ' H'=>∃m'<m,J m' σ' H',bk:=D.nx } σ H1 else D.nx σ H1)
 (mono:∀σ H Q Q',(∀b H1,Q b H1->Q' b H1)->c σ H Q->c σ H Q'):On c tb D σ H:=by
 refine⟨J,⟨m0,h0⟩,?_⟩;intro m σ H p;refine mono σ H _ _ (λb H1 q=>?_) (hs m σ H p);cases b with
 | true=>exact⟨_,λσ' H' ⟨m',l,G⟩=>⟨m',l,G⟩,q⟩
 | false=>exact q
end L2
namespace ST
open PySem TM TT L2 K11 K9
theorem ModesL.insX{K:Fg}{x:Addr}(i:InsAt H x)(g:SameX x H H')(h:ModesL K H lm ms):ModesL K H' lm ms:=
 ⟨i.seq g h.1,λm G=>⟨i.seqT g (h.2 m G).1,i.seq g (h.2 m G).2.1,(h.2 m G).2.2.mono λ_ _=>i.seqT g⟩⟩
def rlOf(ks:List KdT)(ms:List MdT):Rls:=ms.map λm=>QX (QV ks m.2.1) m.2.2.2.2
theorem NN{S T:List Stp}(hl:S.length=T.length)(h:∀m:Nat,lookS S (m:Int)=lookS T (m:Int)):S=T:=by
 refine gN λm=>?_;have e:=h m;unfold lookS at e;rw [a_]at e
 by_cases J:m<S.length
 .have G:m<T.length:=by lia
  rw [aD J,aD G]at e ⊢;exact congrArg some e
 .rw [dJ (5:),dJ (5:)]
structure RlAt(ms:List MdT)(rl:Rls):Prop where
 ok:Jy rl
 len:rl.length=ms.length
 fwd:∀c∈QP ms ms.length,∀t,Zy ms c=some t->∃rs b,rl[c.1.toNat]?=some rs/\(b,t)∈rs
 bwd:∀(m:Nat) rs,rl[m]?=some rs->∀r∈rs,∃c∈QP ms ms.length,c.1=(m:Int)/\Zy ms c=some r.2
theorem UK{rl:Rls}{n m:Nat}{rs:List (Bool×Tm)}(h:rl[m]?=some rs):lookS (D rl (n+1)) (m:Int)=YN (D rl n) rs:=by
 show lookS (rl.map (YN (D rl n))) (m:Int)=_;rw [ZF,a_,h]
 rfl
theorem Vu{rl:Rls}(R:RlAt ms rl){c:Int×Int}{t:Tm}(hc:c∈QP ms ms.length)(ht:Zy ms c=some t):Bel (lookS (D rl (n+1)) c.1) (rsT (lookS (D rl n)) t):=by
 obtain⟨G,b,h1,h2⟩:=R.fwd c hc t ht;obtain⟨m,j,rfl,J,L⟩:=ZU.mp hc;rw [show((m:Int),(j:Int)).1.toNat=m from a_ m]at h1;show Bel (lookS (D rl (n+1)) (m:Int)) _;rw [UK h1];exact Yq (aJ.mpr ⟨_,h2,rfl⟩)
theorem GC{ms:List MdT}{rl:Rls}(R:RlAt ms rl){n:Nat}{T:List Stp}(hl:T.length=rl.length)(h2:∀m:Nat,Bel (lookS (D rl (n+1)) (m:Int)) (lookS T (m:Int)))
 (h3:∀c∈QP ms ms.length,∀t,Zy ms c=some t->Bel (lookS T c.1) (rsT (lookS (D rl n)) t)):T=D rl (n+1):=by
 refine NN (by rw [hl,Y5]) λm=>?_
 by_cases G:m<rl.length
 .have J:=aD G;have up:Bel (lookS T (m:Int)) (YN (D rl n) rl[m]):=by
   obtain⟨⟨r0,L,_⟩,_⟩:=R.ok rl[m] (aQ G);refine Js (λz=>?_) λy U=>?_
   .have:=congrArg List.length z;rw [aE]at this;have:=List.length_pos_of_mem L
    simp_all
   .obtain⟨r,M,rfl⟩:=aJ.mp U;obtain⟨c,Y,e,Z⟩:=R.bwd m _ J r M;have:=h3 c Y r.2 Z;rw [e]at this;exact this
  rw [<-UK (n:=n) J]at up;exact Bel.anti up (h2 m)
 .have e1:lookS T (m:Int)=.op:=by unfold lookS;rw [a_,dJ (5:)];rfl
  have e2:lookS (D rl (n+1)) (m:Int)=.op:=by unfold lookS;rw [a_,dJ (by rw [Y5];lia)];rfl
  rw [e1,e2]
theorem MA{rl:Rls}(R:RlAt ms rl)(h:∀c∈QP ms ms.length,∀t,Zy ms c=some t->Bel (lookS (D rl n) c.1) (rsT (lookS (D rl n)) t)):D rl (n+1)=D rl n:=
 (GC R (T:=D rl n) (Y5 _ _) (λm=>XL R.ok n m) h).symm
end ST
namespace K40
open PySem L2 TM TT ST K9 K11
abbrev TJ:Stmt:=top 18
abbrev O5:Stmt:=top 29
abbrev NP:Stmt:=top 30
def dW(ks:List KdT):List (Str×List PNx):=ks.map λk=>(k.2.1,k.2.2.2)
theorem Wt(kind:Str):∀ks:List KdT,QV ks kind=(((dW ks).find? λk=>decide (k.1=kind)).map λk=>k.2).getD []
 | []=>rfl
 | k::r=>by
  have G:=Wt kind r;unfold QV at G ⊢;unfold dW at G ⊢;rw [aS,cG,cG]
  by_cases e:k.2.1=kind
  .rw [bK e];rfl
  .rw [bN e];exact G
theorem Nq{ks ks':List KdT}(h:dW ks'=dW ks)(kind:Str):QV ks' kind=QV ks kind:=by rw [Wt,Wt,h]
abbrev Ry(K:Fg):List V->Hp->VK->Prop:=λxs H Q=>∃p ys,xs=[.ref p]/\(SqL K H p ys\/SqT K H p ys)/\∀l,H l=none->Q (.ref l) (upd H l (.lst ys))
def O7(K:Fg):Sp:=λvs H Q _=>∃(w:Addr)(ks:List KdT),vs=[.ref w]/\WoodAt K H w ks/\ks.length<=100/\∀(lw:Addr)(H':Hp)(ks':List KdT),Same H H'->NewWd K H H' lw ks'->dW ks'=dW ks->Q (.ref lw) H'
def ZI(ps:List Ky)(p:Ky):List Ky:=if p∈ps then ps else ps++[p]
def Qp(ps l:List Ky):List Ky:=l.foldl ZI ps
theorem Zq(ps l r:List Ky):Qp ps (l++r)=Qp (Qp ps l) r:=List.foldl_append ..
theorem Xf{ps:List Ky}{d e:Ky}:e∈ZI ps d↔e∈ps\/e=d:=by
 unfold ZI
 by_cases h:d∈ps
 .rw [aG h];exact⟨.inl,λz=>z.elim id λz=>by rw [z];exact h⟩
 .rw [aF h];simp
theorem Zg{e:Ky}:∀{l ps:List Ky},e∈Qp ps l↔e∈ps\/e∈l
 | [],ps=>by simp [Qp]
 | d::l,ps=>by
  show e∈Qp (ZI ps d) l↔_;rw [Zg,Xf,aM,or_assoc]
theorem N5{ps:List Ky}{d:Ky}:ps.length<=(ZI ps d).length:=by
 unfold ZI
 by_cases e:d∈ps
 .rw [aG e];exact aY _
 .rw [aF e,aW];lia
theorem YA:∀{l ps:List Ky},ps.length<=(Qp ps l).length
 | [],ps=>aY _
 | d::l,ps=>bT N5 (YA (l:=l) (ps:=ZI ps d))
theorem ZE:∀{l ps:List Ky},∃r,Qp ps l=ps++r
 | [],ps=>⟨[],by simp [Qp]⟩
 | d::l,ps=>by
  obtain⟨r,e⟩:=ZE (l:=l) (ps:=ZI ps d)
  by_cases h:d∈ps
  .have G:ZI ps d=ps:=aG h;rw [G]at e;exact⟨r,by show Qp (ZI ps d) l=_;rw [G];exact e⟩
  .have G:ZI ps d=ps++[d]:=aF h;rw [G]at e;exact⟨d::r,by show Qp (ZI ps d) l=_;rw [G,e,dE];rfl⟩
def nD(p:List Nat):List PyData:=p.map λ(i:Nat)=>PyData.int (i:Int)
def kD(q:Ky):PyData:=.tuple [.int q.1,.tuple (nD q.2)]
theorem ON:∀{p q:List Nat},nD p=nD q->p=q
 | [],[],_=>rfl
 | [],_::_,h=>by simp [nD]at h
 | _::_,[],h=>by simp [nD]at h
 | i::p,j::q,h=>by
  simp only [nD,aS,gv,PyData.int.injEq]at h;rw [ON (p:=p) (q:=q) h.2,show i=j by lia]
theorem Nv{p:Ky}(h:kD p=kD q):p=q:=by
 simp only [kD,PyData.tuple.injEq,gv,PyData.int.injEq,and_true]at h;exact Prod.ext h.1 (ON h.2)
theorem Yi(q:Ky):nk 6 (kD q):=by
 refine .inr (.inr ⟨_,rfl,λe he=>?_⟩);rcases aM.mp he with rfl | he
 .exact .inl ⟨_,rfl⟩
 rw [bJ.mp he];refine .inr (.inr ⟨_,rfl,λe he=>?_⟩);obtain⟨i,_,rfl⟩:=aJ.mp he;exact .inl ⟨_,rfl⟩
theorem PrV.rd{K:Fg}(h:PrV K H a q):RdV K H (.ref a) (kD q):=by
 obtain⟨c,h1,h2⟩:=h;have:∀p:List Nat,RdAll K H (PN p) (nD p):=λp=>by
  induction p with
  | nil=>exact .nil
  | cons i r G=>exact .cons (.int _) G
 exact .tup h1 (.cons (.int _) (.cons (.tup h2 (this _)) .nil))
abbrev NL:=List (Ky×Addr)
abbrev kys(l:NL):List Ky:=l.map (·.1)
def Yb(l:NL):NKv:=l.zipIdx.map λz=>(kD z.1.1,z.1.2,V.int (z.2:Int))
theorem Yl(l:NL):(Yb l).length=l.length:=by unfold Yb;simp
theorem LO(l:NL)(z:Ky×Addr):Yb (l++[z])=Yb l++[(kD z.1,z.2,V.int (l.length:Int))]:=by
 unfold Yb;rw [List.zipIdx_append,aP];simp
def ixP(ps:List Ky)(p:Ky):Int:=(ps.idxOf p:Int)
theorem Ls(p:Ky):∀(l:NL)(k:Nat),YH ((l.zipIdx k).map λz=>(kD z.1.1,z.1.2,V.int (z.2:Int))) (kD p)=if p∈kys l then some (.int (((kys l).idxOf p+k:Nat):Int))else none
 | [],k=>by simp [YH]
 | q::r,k=>by
  have J:=Ls p r (k+1);unfold YH at J ⊢;rw [List.zipIdx_cons,aS,cG]
  by_cases e:q.1=p
  .rw [bK (by show kD q.1=kD p;rw [e]),aG (by simp [e])];simp [List.idxOf_cons,e]
  .rw [bN (show ¬kD q.1=kD p from λz=>e (Nv z))];have L:(q.1==p)=false:=by simpa using e
   refine J.trans ?_;have M:kys (q::r)=q.1::kys r:=rfl;rw [M]
   by_cases G:p∈kys r
   .rw [aG G,aG (23:),List.idxOf_cons,L];simp only [cond_false]
    congr 3
    lia
   .rw [aF G,aF (λz=>by rcases aM.mp z with z | z;exact e z.symm;exact G z)]
theorem Gk(p:Ky)(l:NL):YH (Yb l) (kD p)=if p∈kys l then some (.int (ixP (kys l) p))else none:=Ls p l 0
structure NumD(P:Program)(w:World)(K:Fg)(H:Hp)(d:Addr)(l:NL):Prop where
 a:H d=some (NdO P w d (Yb l))
 k:∀z∈l,PrV K H z.2 z.1
theorem NumD.ks{P:Program}{w:World}{K:Fg}{H:Hp}{d:Addr}{l:NL}(h:NumD P w K H d l):Xi K H (Yb l):=λp hp=>by
 unfold Yb at hp;obtain⟨z,hz,rfl⟩:=aJ.mp hp;have G:z.1∈l:=by
  obtain⟨_,_,e⟩:=List.mem_zipIdx hz;rw [e];exact aQ _
 exact⟨(h.k z.1 G).rd,Yi _⟩
theorem NumD.mono{K:Fg}{l:NL}(h:NumD P w K H d l)(g:∀a xs,SqT K H a xs->SqT K H' a xs)(e:H' d=H d):NumD P w K H' d l:=⟨by rw [e];exact h.a,λz hz=>(h.k z hz).mono g⟩
theorem NumD.same{K:Fg}{l:NL}(h:NumD P w K H d l)(g:Same H H'):NumD P w K H' d l:=⟨g _ _ h.a,λz hz=>(h.k z hz).mono λ_ _=>g.seqT⟩
theorem Ji{K:Fg}{kvs:NKv}(h:H d=some (NdO P w d kvs))(g:SameX d H H'):∀a xs,SqT K H a xs->SqT K H' a xs:=λa xs q=>by
 rcases q with(q | ⟨o,q⟩) | q
 .exact .inl (.inl (g _ _ (QB q h (14:)) q))
 .exact .inl (.inr ⟨o,g _ _ (QB q h (14:)) q⟩)
 .exact .inr q
inductive GetN(P:Program)(w:World)(K:Fg)(a b:Addr)(H:Hp)(Q:VK):Prop where
 | g (l:NL) (q:Ky) (h:NumD P w K H a l) (hb:PrV K H b q) (hm:q∈kys l) (k:Q (.int (ixP (kys l) q)) H):GetN P w K a b H Q
def Sq(P:Program)(w:World)(K:Fg):List V->Hp->VK->Prop:=G3.on2 λx y H Q=>match x,y with
 | .ref a,.ref b=>GetN P w K a b H Q
 | _,_=>False
open G3 in
theorem LW{K:Fg}{k:Nat}(c:G3.Cxt X P w K mg base k):G3.NodeOk X G3.shIx (Sq P w K):=by
 obtain⟨rfl,rfl,rfl,rfl,rfl,J,Z⟩:=c;exact .plain λe es ts G h=>by
  unfold shIx at G;split at G
  .split at G
   .rename_i L;cases G;obtain⟨t,u,rfl,h1,h2⟩:=h.two;refine⟨Q8 (Px (by have:=J.un;lia) (QW h1) (QW h2) (OJ L)) λσ H Q q=>⟨_,q,λx H1 q=>⟨_,q,λy H2 q=>?_⟩⟩,rfl⟩;cases x with
    | ref d=>
     cases y with
     | ref b=>
      cases q with
      | g l q h M U Y=>exact⟨d,b,_,_,_,rfl,rfl,h.a,h.ks,M.rd,Yi _,by rw [Gk,aG U],Y⟩
     | _=>exact False.elim q
    | _=>cases y<;>exact False.elim q
   .cases G
  .cases G
theorem hu9{k:Nat}(hr:Room k A):A.units+9<cLine:=by have:=hr.un;lia
def Pb(K:Fg)(n:Nat):Sp:=λvs H Q _=>∃(v:V)(t:TX),vs=[v]/\TxV K H v t/\lv t<=n/\∀(H':Hp),Same H H'->Q (.int (lv t:Int)) H'
def Gb(P:Program)(w:World)(K:Fg)(n:Nat):Sp:=λvs H Q _=>∃(v:V)(d:Addr)(l:NL)(t:TX),vs=[v,.ref d]/\TxV K H v t/\lv t<=n/\NumD P w K H d l/\(∀c∈clX t,c.1∈kys l)/\∀(v':V)(H':Hp),Same H H'->TmV K H' v' (mpX (ixP (kys l)) t)->Q v' H'
def cWM:List G3.S:=[.ite (.call 0 [.v 0]) [.ret (.tup [.k (.str "call"),.nd 0 [.v 1,.ix (.v 0) (.k (.int 1))],.ix (.v 0) (.k (.int 2))])] [],.ret (.call 1 [.v 0,.comp 2 (.ix (.v 0) (.k (.int 4))) [1] (.call 2 [.v 0,.v 1])])]
def nWM(P:Program)(w:World)(K:Fg)(n:Nat):G3.En:=⟨K,[λ_ vs H Q=>Yk K vs H Q E0,λ_ vs H Q=>M9 K vs H Q E0,λ_ vs H Q=>Gb P w K n vs H Q E0],[],[Sq P w K],[]⟩
def BU(P:Program)(w:World)(K:Fg)(n:Nat):Sp:=λvs H Q _=>∃(v:V)(d:Addr)(l:NL)(t:TX)(most:Nat),vs=[.ref d,v,.int (most:Int)]/\TxV K H v t/\lv t<=n/\sz t<=1000/\NumD P w K H d l/\most<=1000/\(Qp (kys l) ((clX t).map (·.1))).length<=most/\
 ∀(l':NL)(H':Hp),SameX d H H'->NumD P w K H' d l'->kys l'=Qp (kys l) ((clX t).map (·.1))->Q .non H'
def S3(P:Program)(w:World)(K:Fg)(n:Nat):Sp:=λvs H Q _=>∃(mp lr d:Addr)(kind:Str)(ws:List V)(os:List TX)(l:NL),vs=[.ref mp,.ref d]/\SqT K H mp [.str kind,.ref lr]/\SqL K H lr ws/\TxAll K H ws os/\os.length<=100/\NumD P w K H d l/\(∀o∈os,lv o<=n/\∀c∈clX o,c.1∈kys l)/\
 ∀(p lq:Addr)(us:List V)(H':Hp),Same H H'->H' p=some (.tup [.str kind,.ref lq])->H lq=none->H' lq=some (.lst us)->TmAll K H' us (os.map (mpX (ixP (kys l))))->Q (.ref p) H'
def cNM:List G3.S:=[.ret (.tup [.ix (.v 0) (.k (.int 0)),.comp 1 (.ix (.v 0) (.k (.int 1))) [1] (.call 0 [.v 0,.v 1])])]
def nNM(P:Program)(w:World)(K:Fg)(n:Nat):G3.En:=⟨K,[λ_ vs H Q=>Gb P w K n vs H Q E0],[],[],[]⟩
section
variable{K:Fg}
theorem SL:FnScope ["wood"] ["wood"] (defScope TJ):=(0:)
theorem Rg(F:Fun K "own_wood" "own_wood" TJ f fd)(G:Gm mg):FnOk P w K mg base CX0 1 f fd ["wood"] (O7 K):=by
 refine F.ok SL (7:) (λac A outer s H vs Q E hr h=>?_)
 .obtain⟨wd,ks,rfl,_⟩:=h
  rfl
 obtain⟨wd,ks,rfl,hW,aa,q⟩:=h;refine⟨_,(Qi (Qn (QO (CompG.many (xs:=["kind","rows"]) (caps:=[]) (cap:=[]) (cs:=[]) rfl rfl (1:) (1:) (1:) (1:) (1:) (1:) rfl rfl rfl) rfl (QJ (pv 0)) (XM (CompG.many (xs:=["kind","rows"]) (caps:=[]) (cap:=[]) (cs:=[]) rfl rfl (1:) (1:) (1:) (1:) (1:) (1:) rfl rfl rfl) rfl) (λ_ _ _ _=>Zn) (λ_ _ _ _=>(QE (Qa (pv 0) (Qa (QN (r:=Ry K) ZA rfl G.lst eB (Qa (pv 1) Qc)) Qc))))))),?_⟩;refine⟨_,rfl,wd,rfl,⟨_,hW.1⟩,λacc Z=>?_⟩;refine let J_:JC:=(λj ys H'=>∃J:List KdT,ys=J.map (λk=>V.ref k.1)/\dW J=dW (ks.take j)/\H' acc=some (.lst ys)/\Same H H'/\∀k∈J,SqT K H' k.1 [.str k.2.1,.ref k.2.2.1]/\H' k.2.2.1=some (.lst (k.2.2.2.map λt=>V.ref t.1))/\H k.2.2.1=none/\k.2.2.1≠acc/\∀t∈k.2.2.2,RowAt K H' t);U7 (K:=K) (xs:=ks.map λt=>V.ref t.1) (cs:=[]) (tt:=λ_ H Q=>Q true H) J_
  ⟨[],rfl,rfl,Qb,Qd Z _,λk hk=>(nomatch hk)⟩ ?_ ?_ ?_
 .rintro j ys H' _ ⟨_,_,_,_,g,_⟩;exact g.seq hW.1
 .rintro j x ys H' hj hx ⟨J,rfl,hd,hy,g,hA⟩;rw [aE]at hj;obtain rfl:x=.ref ks[j].1:=by
   rw [aK,aD hj]at hx;exact(aI hx).symm
  obtain⟨k1,k2⟩:=hW.2 ks[j] (aQ hj);refine⟨_,_,_,rfl,g.seqT k1,Zh ⟨_,rfl,_,rfl,ks[j].2.2.1,_,rfl,.inl (g.seq k2.1),λM Y=>⟨(by show 2<=sizeLine;decide),λp hp=>?_⟩⟩⟩;have s1:=Qd Y (.lst (ks[j].2.2.2.map λt=>V.ref t.1));have b1:upd H' M (.lst (ks[j].2.2.2.map λt=>V.ref t.1)) M=some (.lst (ks[j].2.2.2.map λt=>V.ref t.1)):=Qb;generalize upd H' M (.lst (ks[j].2.2.2.map λt=>V.ref t.1))=X1 at s1 b1 hp ⊢;have s2:=Qd hp (.tup [.str ks[j].2.1,.ref M]);have b2:upd X1 p (.tup [.str ks[j].2.1,.ref M]) p=some (.tup [.str ks[j].2.1,.ref M]):=Qb;generalize upd X1 p (.tup [.str ks[j].2.1,.ref M])=X2 at s2 b2 ⊢;have L:=s1.trans s2;have ab:J.length=j:=by
   have:=congrArg List.length hd;unfold dW at this;rw [aE,aE,cW]at this;lia
  have nl:M≠acc:=λz=>by rw [z,hy]at Y;cases Y
  have nH:H M=none:=by
   cases e:H M with
   | none=>rfl
   | some u=>rw [g _ _ e]at Y;cases Y
  have U:=L _ _ hy;rw [aE];refine QC hj U (17:) ⟨J++[(p,ks[j].2.1,M,ks[j].2.2.2)],by simp,?_,Qb,λb u e=>?_,λk hk=>?_⟩
  .unfold dW at hd ⊢;rw [aP,hd,bB,aD hj,eX,aP];rfl
  .rw [Qe (Qf e Z)];exact L _ _ (g _ _ e)
  .rcases aX.mp hk with hk | hk
   .obtain⟨a1,a2,a3,a4,a5⟩:=hA k hk;exact⟨(L.seqT a1).put U,by rw [Qe a4];exact L _ _ a2,a3,a4,λt ht=>⟨(L.seqT (a5 t ht).1).put U,(L.seqT (a5 t ht).2).put U⟩⟩
   .obtain rfl:=bJ.mp hk;exact⟨(SqT.of b2).put U,by rw [Qe nl];exact s2 _ _ b1,nH,nl,λt ht=>⟨((g.trans L).seqT (k2.2 t ht).1).put U,((g.trans L).seqT (k2.2 t ht).2).put U⟩⟩
 .rintro ys H' ⟨J,rfl,hd,hy,g,hA⟩;rw [aE,dN]at hd;exact q acc H' J g ⟨Z,hy,λk hk=>⟨(hA k hk).1,(hA k hk).2.1,(hA k hk).2.2.1,(hA k hk).2.2.2.2⟩,λk hk=>(hA k hk).2.2.2.1⟩ hd
theorem Cn:FnScope ["term"] ["term"] (defScope Tj):=(0:)
theorem AS(F:Fun K "term_levels" "term_levels" Tj f fd)(G:Gm mg)(RC:Fn P w K mg base 1 "is_call" ["term"] (Yk K))(R:Fn P w K mg base (n+1) "term_levels" ["term"] (Pb K n)):FnOk P w K mg base CX0 (n+2) f fd ["term"] (Pb K (n+1)):=by
 refine F.ok Cn (7:) (λai A outer s H vs Q E hr h=>?_)
 .obtain⟨v,t,rfl,_⟩:=h
  rfl
 obtain⟨v,t,rfl,ht,aa,q⟩:=h;refine⟨_,(Qg (QM (QF (Qt RC hr (Qa (pv 0) Qc) (dH 1 n))) (Qi (Qn Qh)) Qr)
  (Qi (Qn (QS ZP Qh (ML (Ml rfl) rfl G.max PyProof.Rows.boot_max (Qa (QO (CompG.many (xs:=["part"]) (caps:=[]) (cap:=[]) (cs:=[]) rfl rfl (1:) (1:) (1:) (1:) (1:) (1:) rfl rfl rfl) rfl (YQ (2:)) (YZ (CompG.many (xs:=["part"]) (caps:=[]) (cap:=[]) (cs:=[]) rfl rfl (1:) (1:) (1:) (1:) (1:) (1:) rfl rfl rfl)) (λ_ _ _ _=>Zn) (λ_ _ _ _=>Qt R hr (Qa (pv 0) Qc) (4:))) Qc) (R7 Qh Tr)))))),?_⟩
 refine L2.let1 ?_
 intros
 rcases YC ht with⟨a,p,k,b,rfl,rfl,h1,hp⟩ | ⟨a,b,bs,nm,k,ad,rfl,et,h1,h2,h3,h4⟩
 .exact⟨_,rfl,a,ZD,_,rfl,h1,_,rfl,R1 rfl (q H λ_ _ e=>e)⟩
 refine⟨_,rfl,a,PUT,_,rfl,h1,_,rfl,JD (1:) ?_⟩;have ah:=h3.length;rw [lv_bs]at aa q;refine⟨_,rfl,a,_,4,_,rfl,rfl,h1,rfl,b,rfl,⟨_,h2⟩,λacc L=>?_⟩;refine let J_:JC:=(λi ys H'=>H' acc=some (.lst ys)/\Same H H'/\ys=((t.bs.take i).map λu=>(lv u:Int)).map V.int);Ux (K:=K) (xs:=bs) (tt:=λ_ H Q=>Q true H) (te:=Y3 (Pb K n) [] E0 (QZ (ZT 0) YF)) (cs:=[]) J_
  ⟨Qb,Qd L _,rfl⟩ ?_ ?_ ?_
 .rintro i ys H' _ ⟨_,g,_⟩;exact g.seqT h2
 .rintro i x ys H' hi Y ⟨J,g,rfl⟩;obtain⟨c,Z⟩: ∃c,t.bs[i]?=some c:=⟨_,aD (5:)⟩;obtain⟨cv,ab,ac⟩:=h3.get Z;obtain rfl:cv=x:=aI (ab.symm.trans Y);have hm:=aL Z;have a1:=ZL hm;refine Zh ⟨_,rfl,cv,c,rfl,ac.mono λ_ _=>g.seqT,by lia,λH4 g4=>?_⟩;refine QC hi (g4 _ _ J) (by rw [aE,aE,cW];lia) ⟨Qb,λx u e=>?_,?_⟩
  .rw [Qe (Qf e L)];exact g4 _ _ (g _ _ e)
  .rw [bB,Z];simp
 rintro ys H1 ⟨J,g,rfl⟩;have ae:t.bs.take bs.length=t.bs:=bH (5:);rw [ae]at J;refine⟨acc,_,_,rfl,rfl,SqL.of J,λe=>⟨_,_,rfl,rfl,?_⟩,λM hM af=>⟨_,_,rfl,rfl,?_⟩⟩
 .have:t.bs=[]:=by simpa using e
  have U:=q H1 g;rw [this]at U
  simpa [lvs]using U
 .obtain⟨u,hu,rfl⟩:=aJ.mp hM;have ag:t.bs≠[]:=λz=>by rw [z]at hu;cases hu
  obtain⟨x,Y,ex⟩:=P9 ag;have h1:=af _ (aJ.mpr ⟨x,Y,rfl⟩);have h2:=ZL hu;have e:lv u=lvs t.bs:=by lia
  have U:=q H1 g;rw [<-e]at U;exact U
theorem CO:FnScope ["term","numbers"] ["term","numbers"] (defScope sWM):=(0:)
theorem BV(F:Fun K "with_modes" "with_modes" sWM f fd)(G:Gm mg)(RC:Fn P w K mg base 1 "is_call" ["term"] (Yk K))(RW:Fn P w K mg base 1 "with_parts" ["term","parts"] (M9 K))(R:Fn P w K mg base (n+1) "with_modes" ["term","numbers"] (Gb P w K n)):FnOk P w K mg base CX0 (n+2) f fd ["term","numbers"] (Gb P w K (n+1)):=by
 refine G3.Fun.okC F CO (nWM P w K n) cWM (nk:=[G3.shIx]) (λX c=>⟨.cons (c.fn RC (5:)) (.cons (c.fn RW (5:)) (.cons (c.fn R (4:)) .nil)),.nil,.cons (LW c) .nil⟩) (7:) (λH vs Q E h=>?_) G.rng
 .obtain⟨v,d,l,t,rfl,_⟩:=h
  rfl
 obtain⟨v,d,l,t,rfl,ht,Z,hd,L,q⟩:=h;rcases YC ht with⟨a,p,k,b,rfl,rfl,h1,hp⟩ | ⟨a,b,bs,nm,k,ad,rfl,et,h1,h2,h3,h4⟩
 .refine⟨a,ZD,_,rfl,h1,.t _ _ h1 rfl<| .g l k hd hp (L (k,b) (by simp [clX]))<| .t _ _ h1 rfl ⟨λp1 X1 k1 M _=>q _ X1 k1 ?_⟩⟩;simp only [mpX];exact .call M
 have U:clX t=QY t.bs:=by
  have:=congrArg clX et;rw [this];simp [clX]
 rw [U]at L;refine⟨a,PUT,_,rfl,h1,?_⟩;have af:=h3.length;rw [lv_bs]at Z;refine .t _ _ h1 rfl<| .t bs h2<|let J_:JC:=(λi ys H1=>ys.length=i/\TmAll K H1 ys ((t.bs.take i).map (mpX (ixP (kys l)))));.s J_ (λH1 g=>⟨rfl,.nil⟩) (λacc i ys l H1 H2 h _ _ _ k=>⟨h.1,h.2.mono k⟩) (5:) (λi ys H1 hi _ g h=>?_) λp ys H1 g hp h=>?_
 .have Y:=aD (show i<t.bs.length by lia);obtain⟨cv,aa,ab⟩:=h3.get Y;have ex:(bs[i]?).getD .non=cv:=by rw [aa];rfl
  rw [ex];have hm:=aL Y;have:=ZL hm;refine⟨cv,d,l,_,rfl,ab.mono λ_ _=>g.seqT,by lia,hd.same g,λc ac=>L c (U4 hm ac),λv' H2 g2 ae=>⟨g2,by simp [h.1],?_⟩⟩;rw [bB,Y,aP];exact TmAll.append (h.2.mono λ_ _=>g2.seqT) (.cons ae .nil)
 obtain⟨hl,J⟩:=h;rw [bH (5:)]at J;refine⟨a,p,ys,_,_,_,_,_,rfl,g.seqT h1,SqL.of hp,λp' b' H2 g2 M d2=>q _ H2 (g.trans g2) ?_⟩;rw [et,mpX,Yx];exact .put M d2 (J.mono λ_ _=>g2.seqT) (5:)
theorem Cy:FnScope ["mode","numbers"] ["mode","numbers"] (defScope NP):=(0:)
theorem AT(F:Fun K "numbered_mode" "numbered_mode" NP f fd)(G:Gm mg)(RM:Fn P w K mg base (n+1) "with_modes" ["term","numbers"] (Gb P w K n)):FnOk P w K mg base CX0 (n+2) f fd ["mode","numbers"] (S3 P w K n):=by
 refine G3.Fun.okC F Cy (nNM P w K n) cNM (λX c=>⟨.cons (c.fn RM (4:)) .nil,.nil,.nil⟩) (7:) (λH vs Q E h=>?_) G.rng
 .obtain⟨mp,lr,d,aa,ws,os,l,rfl,_⟩:=h
  rfl
 obtain⟨mp,lr,d,aa,ws,os,l,rfl,M,U,Y,ag,hd,ab,q⟩:=h;have af:=Y.length;refine .t _ _ M rfl<| .t _ _ M rfl<| .l ws U<|let J_:JA:=(λacc i ys H1=>Same H H1/\H1 acc=some (.lst ys)/\ys.length=i/\TmAll K H1 ys ((os.take i).map (mpX (ixP (kys l)))));.m J_ (5:) (λacc H1 L g e=>⟨g,e,rfl,.nil⟩) (λacc i ys H1 h=>h.1.seq U) (λacc i ys H1 hi _ L ⟨g,e,Z,J⟩=>?_) λacc ys H1 L ⟨g,e,Z,J⟩=>?_
 .have hc:=aD (show i<os.length by lia);obtain⟨cv,ac,ad⟩:=Y.get hc;have ex:(ws[i]?).getD .non=cv:=by rw [ac];rfl
  rw [ex];obtain⟨o1,o2⟩:=ab _ (aL hc);refine⟨cv,d,l,_,rfl,ad.mono λ_ _=>g.seqT,o1,hd.same g,o2,λv' H2 g2 ae=>⟨g2 _ _ e,λb u eb=>?_,Qb,by simp [Z],?_⟩⟩
  .rw [Qe (Qf eb L)];exact g2 _ _ (g _ _ eb)
  rw [bB,hc,aP];exact TmAll.append (J.mono λ_ _ h=>(g2.seqT h).put (g2 _ _ e)) (.cons (ae.mono λ_ _ h=>h.put (g2 _ _ e)) .nil)
 rw [bH (5:)]at J;exact⟨λp X1 k1 d1 e1=>q p acc ys X1 (g.trans k1) e1 L (k1 _ _ e) (J.mono λ_ _=>k1.seqT)⟩
theorem TR:FnScope ["numbers","term","most","mode","branch"] ["numbers","term","most"] (defScope O5):=(0:)
theorem AH(F:Fun K "number_calls" "number_calls" O5 f fd)(G:Gm mg)(RC:Fn P w K mg base (n+1) "calls_of" ["term"] (NB K n)):FnOk P w K mg base CX0 (n+2) f fd ["numbers","term","most"] (BU P w K n):=by
 refine F.ok TR (7:) (λan A outer s H vs Q E hr h=>?_)
 .obtain⟨v,d,l,t,Y,rfl,_⟩:=h
  rfl
 obtain⟨v,d,l,t,Y,rfl,ht,af,ag,hd,am,U,q⟩:=h;refine⟨_,(Qg (QG bV rfl (QJ (Qt RC hr (Qa (pv 1) Qc) (4:))) (Zp rfl (Qv (Qq (i:=3) TR.nd rfl (18:)) (Qv (Qq (i:=4) TR.nd rfl (18:)) Za)))
  (Qi (QM (AB (LZ (hu9 hr) (pv 3) (pv 0))) (Qi (PL (hu9 hr) (pv 0) (pv 3) (Ql LD.call_lenN rfl G.len bO (Qa (pv 0) Qc)) rfl)) Qr)))
  (Qi (QM (Qw GZ (Ql LD.call_lenN rfl G.len bO (Qa (pv 0) Qc)) (pv 2) (QA _)) Um Qr))),?_⟩
 refine L2.let1 ?_
 intros
 refine⟨_,rfl,v,t,rfl,ht,af,ag,λla H1 J g1 nl hl ah ai=>?_⟩;have ac:=hd.same g1;have aj:la≠d:=λz=>by rw [z,hd.a]at nl;cases nl
 have ak:(clX t).map (·.1)=J.map (·.2.2.1):=by rw [<-ai,bX];rfl
 rw [ak]at U q;refine⟨la,rfl,⟨_,SqL.of hl⟩,?_⟩;refine Q2 (K:=K) (xs:=RfX J) (λi σ H'=>∃(c3 c4:Option V)(M:NL),σ=[some (.ref d),some v,some (.int (Y:Int)),c3,c4]/\SameX d H1 H'/\NumD P w K H' d M/\kys M=Qp (kys l) ((J.map (·.2.2.1)).take i))
  ⟨none,none,l,rfl,SameX.refl _ _,ac,rfl⟩ ?_ ?_ ?_
 .rintro i σ H' _ ⟨c3,c4,M,_,g,_⟩;exact SqL.of (g _ _ aj hl)
 .rintro i x σ H' hx ⟨c3,c4,M,rfl,g,L,ek⟩;have hi:i<J.length:=by
   have:=(aU.mp hx).1
   rwa [aE]at this
  obtain rfl:x=.ref J[i].1:=by
   rw [aK,aD hi]at hx;exact(aI hx).symm
  obtain⟨t1,t2⟩:=(ah.mono (Ji ac.a g)) _ (aQ hi);have al:(J.map (·.2.2.1))[i]?=some J[i].2.2.1:=by rw [aK,aD hi];rfl
  have ab:Qp (kys l) ((J.map (·.2.2.1)).take (i+1))=ZI (kys M) J[i].2.2.1:=by rw [bB,al,Zq,<-ek];rfl
  have aa:(Qp (kys l) ((J.map (·.2.2.1)).take (i+1))).length<=Y:=by
   have e:=Zq (kys l) ((J.map (·.2.2.1)).take (i+1)) ((J.map (·.2.2.1)).drop (i+1));rw [fY]at e;rw [e]at U;exact bT YA U
  rw [ab]at aa ⊢;refine⟨J[i].1,_,rfl,t1,rfl,_,_,rfl,_,_,rfl,rfl,?_⟩;refine⟨_,rfl,_,rfl,d,J[i].2.1,_,_,rfl,rfl,L.a,L.ks,t2.rd,Yi _,_,rfl,?_⟩;rw [Gk]
  by_cases Z:J[i].2.2.1∈kys M
  .rw [aG Z];refine QT ⟨_,_,M,rfl,g,L,?_⟩;rw [show ZI (kys M) J[i].2.2.1=kys M from aG Z]
  .rw [aF Z];have ad:ZI (kys M) J[i].2.2.1=kys M++[J[i].2.2.1]:=aF Z;rw [ad]at aa ⊢;rw [aW,cM,aE]at aa;refine Zh ⟨_,rfl,d,_,rfl,L.a,L.ks,_,rfl,_,rfl,d,J[i].2.1,_,_,rfl,rfl,L.a,L.ks,t2.rd,Yi _,by rw [Yl,QD];lia,?_⟩;have ae:WM (Yb M) (kD J[i].2.2.1) J[i].2.1 (.int ((Yb M).length:Int))=Yb (M++[(J[i].2.2.1,J[i].2.1)]):=by
    unfold WM;rw [Gk,aF Z,aF (12:),LO,Yl]
   rw [ae];have kx:∀a xs,SqT K H' a xs->SqT K (upd H' d (NdO P w d (Yb (M++[(J[i].2.2.1,J[i].2.1)])))) a xs:=Ji L.a λb u nb e=>by rw [Qe nb];exact e
   refine⟨_,_,M++[(J[i].2.2.1,J[i].2.1)],rfl,λb u nb e=>by rw [Qe nb];exact g _ _ nb e,⟨Qb,λz hz=>?_⟩,by simp⟩;rcases aX.mp hz with hz | hz
   .exact(L.k z hz).mono kx
   .rw [bJ.mp hz];exact t2.mono kx
 .rintro σ H' ⟨c3,c4,M,rfl,g,L,ek⟩;rw [bH (by rw [aE,aE];exact aY _)]at ek;have ao:M.length<=Y:=by rw [<-ek,aE]at U;exact U
  refine⟨_,rfl,d,_,rfl,L.a,L.ks,_,rfl,_,_,rfl,rfl,_,rfl,JD (by rw [Yl];lia) ?_⟩;exact q M H' (λb u nb e=>g b u nb (g1 _ _ e)) L ek
end
end K40
namespace L2
open PySem PySem.Spec PyProof.Rows
def VA(h:Heap)(H:Hp)(l:List Addr):Heap:=PySem.W.hideAll h (trk h H++l)
theorem MI(h:Heap)(H:Hp)(l:List Addr):(VA h H l).objs.size=h.objs.size:=PySem.W.hideAll_size _ _
theorem W2{l:List Addr}{o:Obj}(e:h.get? b=some o)(n:H b=none)(m:b∉l):(VA h H l).get? b=some o:=
 PySem.W.hideAll_get _ e λhm=>by
  rcases aX.mp hm with hm | hm
  .have q:(H b).isSome=true:=(dB.mp hm).2;rw [n]at q;simp at q
  .exact m hm
theorem Wg{l:List Addr}{o:Obj}(e:(VA h H l).get? b=some o):h.get? b=some o/\H b=none/\b∉l:=by
 have G:h.get? b=some o:=PySem.W.of_hideAll (trk h H++l) e;have J:∀m:b∈trk h H++l,False:=λm=>by
  have z:(VA h H l).get? b=none:=PySem.W.hideAll_none (trk h H++l) m;rw [z]at e;cases e
 refine⟨G,?_,λm=>J (bY _ m)⟩;cases q:H b with
 | none=>rfl
 | some x=>exact(J (cT _ (dB.mpr ⟨cO.mpr (aO G),by simp [q]⟩))).elim
def Sub(g h:Heap):Prop:=∀b o,g.get? b=some o->h.get? b=some o
theorem Mod.sub{K:Fg}{g:Heap}(s:Sub g h)(m:Mod K mg g):Mod K mg h:=
 ⟨m.kin.keeps s,m.glob.keeps s,let⟨G,J,q⟩:=m.blt;⟨G,J.keeps s,q⟩,m.nolimit.keeps s⟩
theorem GV{g:Heap}:∀{l:List Env},h.FunFrames base l->(∀b∈frs l,g.get? b=none)->h.FunFrames g l
 | [],_,_=>trivial
 | env::rest,hf,hn=>by
  obtain⟨h1,⟨L,o,G,Z,J,M⟩,r⟩:=hf;refine⟨h1,⟨L,o,G,hn L ?_,J,M⟩,GV r λb U=>hn b ?_⟩
  .exact eG.mpr ⟨env,aR,G⟩
  .obtain⟨e,Y,q⟩:=eG.mp U;exact eG.mpr ⟨e,bR _ Y,q⟩
theorem Env0.sub{K:Fg}(e:Env0 P w K mg base A outer s H):Sub base (VA s.heap H (frs outer)):=λb o h=>
 W2 (e.bs b o h).1 (e.bs b o h).2 λm=>by
  have:=(e.funs.mem m).1;rw [h]at this;cases this
theorem Env0.big{K:Fg}(e:Env0 P w K mg base A outer s H):Env0 P w K mg (VA s.heap H (frs outer)) A outer s H:=
 ⟨e.frames,e.mod.sub e.sub,λb o h=>⟨(Wg h).1,(Wg h).2.1⟩,Nat.le_of_eq (MI _ _ _),GV e.funs λb G=>by
  cases q:(VA s.heap H (frs outer)).get? b with
  | none=>rfl
  | some o=>exact absurd G (Wg q).2.2,e.frf,e.hok,e.bare⟩
def N7(X:Cx)(σ:St)(g:Heap):Prop:=∀(i:Nat)(x:Str)(v:V),X.N[i]?=some x->σ[i]?=some (some v)->X.env.scope.names.lookup x=some .cell->∃c u,X.env.cells.lookup x=some c/\g.IsCell c (some u)/\RelV v u
section
variable{pins:List (10:)}
theorem Inv.cells(I:Inv X pins σ H s)(hfn:∀x,X.fn x=true):N7 X σ (VA s.heap H (frs X.stack)):=by
 intro i x v h1 h2 U;obtain⟨m,Y,hl⟩:=I.loc;obtain⟨u,rv,lk⟩:=hl i x v h1 h2 (.inr (.inl U));rcases lk with⟨k,_⟩ | ⟨_,c,J,ic⟩
 .have k':X.env.scope.names.lookup x=some .local:=k;rw [U]at k';cases k'
 refine⟨c,u,J,?_,rv⟩;obtain⟨o,L,r⟩:=ic;refine⟨o,W2 L (I.freeC x c J) (λm=>?_),r⟩;have G:=I.ok.cab x c (hfn x) J;have lt:∀b∈frs X.outer,b<X.s₀.heap.objs.size:=λb hb=>by
  obtain⟨_,o',Z,_⟩:=I.ok.funs.mem hb;exact aO Z
 rcases I.ok.stk with e | ⟨e,e2⟩
 .rw [e]at m;exact absurd (lt c m) (eQ.mpr G)
 .rw [e]at m;rcases eG.mp m with⟨env,he,M⟩;rcases aM.mp he with rfl | he
  .rw [e2]at M;obtain rfl:=aI M;obtain⟨o2,es,ep,h5,h6,_⟩:=Y;rw [h5]at L;obtain rfl:=aI L;rw [h6]at r;cases r
  .exact absurd (lt c (eG.mpr ⟨env,he,M⟩)) (eQ.mpr G)
end
abbrev UG(qual:Str)(e:Expr)(cl:List (Str×Addr))(pm:Value)(c:Addr)(ctv:Value):FuncData:=PySem.W.kla_fn "<lambda>" qual (P0 e) (GS e) (Qy e) cl pm (.ref c) ctv
structure LamAtC(H:Hp)(f:Addr)(e:Expr)(cl:List (Str×Addr)):Prop where
 ex:∃qual pm c ctv,H f=some (My f (UG qual e cl pm c ctv))/\H c=some (Pr c qual)
theorem LamAtC.same{cl:List (Str×Addr)}(g:Same H H')(h:LamAtC H f e cl):LamAtC H' f e cl:=by
 obtain⟨q,J,c,G,h1,h2⟩:=h.ex;exact⟨q,J,c,G,g _ _ h1,g _ _ h2⟩
def AX(T:Addr)(qual:Str)(e:Expr)(cl:List (Str×Addr)):TE:=λσ H Q=>TbS H T (Gp e) qual/\∀f H',SameX T H H'->H f=none->LamAtC H' f e cl->TbS H' T (Gp e) qual->Q (.ref f) H'
theorem Rc{cl:List (Str×Addr)}{a:Arguments}{b:Expr}{sc:Scope}{pos:Pos}{c T:Addr}(hcode:X.env.code=.ref c)(hC:PySem.W.codeHdIn X.K c T=true)(hB:X5 X.mg X.base)(hcl:closureFor sc X.env=pure cl:=by rfl)(hdef:defaultsOf a X.env=([],[]):=by rfl):
 PE X (.Lambda a b sc pos) (AX T (X.env.qual++"<lambda>") (.Lambda a b sc pos) cl):=by
 intro pins s σ H Q I h;obtain⟨ht,q⟩:=h;obtain⟨av,hT⟩:=ht.at;obtain⟨bm,ob,b1,b2,b3,b4,b5,b6,b7⟩:=hB;have al:bm≠T:=λz=>by have:=(I.bs _ _ b4).2;rw [z,hT]at this;cases this
 have hg:s.heap.Ns mainGlobals X.mg:=I.mod.glob.keeps I.bk;have am:mainGlobals≠T:=λz=>by
  obtain⟨o,es,ep,e,_⟩:=I.mod.glob;have:=(I.bs _ _ e).2;rw [z,hT]at this;cases this
 have hb:s.heap.BuiltinsAt X.mg T:=⟨bm,ob,b1,b2,b3,al,I.bk _ _ b4,b5,b6,b7⟩;have af:PySem.W.CodeHd s.heap c T:=PySem.W.codeHd_of_K I.kIn hC;have an:X.env.locals≠T:=λz=>by have:=I.free;rw [z,hT]at this;cases this
 refine PySem.W.kla_eval hdef ?_;rcases ht with U | ⟨G,U,ag⟩
 .have hP:s.heap.get? T=some (PySem.W.tabObj #[]):=I.hok T _ U;refine PySem.W.kla_makeFunction (mg:=X.mg) hcl I.ok.glob hg hcode af hP trivial rfl am hb λG Y h' tk hx aa ac ad ao=>?_;obtain⟨qual,M⟩: ∃qual,qual=X.env.qual++"<lambda>":=⟨_,rfl⟩;rw [<-M]at ad ⊢;have ah:H G=none:=I.hok.fresh aa;have Z:H h'.objs.size=none:=I.hok.fresh (cY (Nat.lt_of_le_of_lt aa ac));have ap:T≠G:=Qf U ah;have aq:T≠h'.objs.size:=Qf U Z;have ar:G≠h'.objs.size:=bC ac;obtain⟨fd,ai⟩: ∃fd:FuncData,fd=UG qual (.Lambda a b sc pos) cl ((X.mg "__name__").getD .none) G Y:=⟨_,rfl⟩;have as:PySem.W.kla_obj "<lambda>" qual a b sc cl ((X.mg "__name__").getD .none) G Y={ cls:=.type "function",data:=.func fd }:=by rw [ai];rfl
  rw [as];obtain⟨ps,aj⟩: ∃ps:Array Value,ps=#[rawInt pos.line,rawInt pos.col,.ref G]:=⟨_,rfl⟩;have ae:h'.get? T=some { cls:=.none,data:=.fields ps }:=by rw [aj];exact ao
  obtain⟨H',ab⟩: ∃H':Hp,H'=upd (upd (upd H T (.tbl ps)) G (Pr G qual)) h'.objs.size (My h'.objs.size fd):=⟨_,rfl⟩;have eF:H' h'.objs.size=some (My h'.objs.size fd):=by rw [ab];exact Qb
  have eC:H' G=some (Pr G qual):=by rw [ab,Qe ar];exact Qb
  have eT:H' T=some (.tbl ps):=by rw [ab,Qe aq,Qe ap];exact Qb
  have eO:∀x,x≠T->x≠G->x≠h'.objs.size->H' x=H x:=λx n1 n2 n3=>by rw [ab,Qe n3,Qe n2,Qe n1]
  have eK:∀x u,H x=some u->x≠T->H' x=some u:=λx u e n1=>by rw [eO x n1 (Qf e ah) (Qf e Z)];exact e
  have L:∀x o,h'.get? x=some o->(h'.push { cls:=.type "function",data:=.func fd }).get? x=some o:=λx o e=>aN _ e;have J:Inv X pins σ H' { s with heap:=h'.push { cls:=.type "function",data:=.func fd },toks:=tk }:=by
   refine I.step (g':=s.gens) (d':=s.drawn) (ch:=[]) (λ_ z=>nomatch z) (λx o _ _ _ e n=>?_) (λx o _ _ _ e n=>?_) (λx o _ e n=>?_) (λx o _ e=>?_) (λx xs e=>?_) (λx o u e=>?_) (λx qs e=>?_) (λm hn=>?_) (λx o e=>?_) I.bare
   .exact L _ _ (hx _ _ (λz=>by rw [z,hT]at n;cases n) e)
   .exact⟨o.slots,L _ _ (hx _ _ (λz=>by rw [z,hT]at n;cases n) e)⟩
   .have lx:=aO e;rw [eO x (λz=>by rw [z,hT]at n;cases n) (bC (bZ lx aa)) (bC (Nat.lt_trans (bZ lx aa) ac))];exact n
   .by_cases z:x=T
    .exact⟨_,L _ _ (z ▸ ae)⟩
    .exact⟨o,L _ _ (hx _ _ z e)⟩
   .exact eK x _ e (QB e U (14:))
   .exact eK x _ e (QB e U (14:))
   .by_cases z:x=T
    .subst z;rw [U]at e;cases e;exact⟨ps,by rw [eT];simp⟩
    .exact⟨#[],by rw [eK x _ e z];simp⟩
   .exact(hn.extBut hx an).push _
   .by_cases z1:x=h'.objs.size
    .subst z1;rw [eF]at e;cases e;exact G9 (bD _ rfl)
    by_cases z2:x=G
    .subst z2;rw [eC]at e;cases e;refine P6 ?_;obtain⟨c2,oc,vs,tq,z,au,r⟩:=ad;exact⟨c2,oc,vs,tq,z,L _ _ au,r⟩
    by_cases z3:x=T
    .subst z3;rw [eT]at e;cases e;exact L _ _ ae
    rw [eO x z3 z2 z1]at e;refine(I.hok x o e).stay (λy u hy r=>?_) (λy r=>?_) λy xs r=>?_
    .refine L _ _ (hx _ _ (λz=>?_) r);rcases hy with hy | hy
     .exact z3 (hy.symm.trans z)
     .rw [z,hT]at hy;cases hy
    .exact eK y _ r (QB r U (14:))
    .exact eK y _ r (QB r U (14:))
  refine⟨.ref h'.objs.size,H',J,rfl,q h'.objs.size H' (λx u n e=>eK x u e n) Z ⟨qual,_,G,Y,by rw [eF,ai],eC⟩ ?_⟩;refine .inr ⟨G,?_,by rw [<-M];exact eC⟩;rw [eT,aj];rfl
 .have hP:s.heap.get? T=some (PySem.W.tabObj #[rawInt pos.line,rawInt pos.col,.ref G]):=I.hok T _ U;have hf:codeAmong pos (#[rawInt pos.line,rawInt pos.col,Value.ref G]:Array Value).toList=some (.ref G):=by
   show(if((pos.line:Int)==(pos.line:Int)&&(pos.col:Int)==(pos.col:Int))=true then some (Value.ref G)else _)=_;simp
  refine PySem.W.kla_makeFunctionHit (mg:=X.mg) hcl I.ok.glob hg hcode af hP trivial hf hb λY h' tk hk ak=>?_;obtain⟨qual,M⟩: ∃qual,qual=X.env.qual++"<lambda>":=⟨_,rfl⟩;rw [<-M];have Z:H h'.objs.size=none:=I.hok.fresh ak;refine⟨.ref h'.objs.size,upd H h'.objs.size (My h'.objs.size (UG qual (.Lambda a b sc pos) cl ((X.mg "__name__").getD .none) G Y)),I.laid (t':=tk) (λx o e=>aN _ (hk _ _ e)) ak (G9 (bD _ rfl)),rfl,?_⟩;have g:=Qd Z (My h'.objs.size (UG qual (.Lambda a b sc pos) cl ((X.mg "__name__").getD .none) G Y));refine q h'.objs.size _ (SameX.of g) Z ⟨qual,_,G,Y,Qb,g _ _ (by rw [M];exact ag)⟩ (.inr ⟨G,g _ _ U,g _ _ ag⟩)
abbrev L0(qual:Str)(scope:Scope)(cl:List (Str×Addr))(L f:Addr)(cd:Value):Env:=newEnv scope L mainGlobals cl (qual++Str.ofString ".<locals>.") (some f) cd none builtinsNs
def cxL(CX:CXT)(P:Program)(w:World)(K:Fg)(mg:Str->Option Value)(base:Heap)(N:List Str)(qual:Str)(scope:Scope)(cl:List (Str×Addr))(f:Addr)(cd:Value)(A:Around)(outer:List Env)(s:Shared)(H:Hp)(E:XK):Cx:=
 { prog:=P,w:=w,K:=K,mg:=mg,base:=base,A:=A.deeper (L0 qual scope cl s.heap.objs.size f cd),N:=N,s₀:=s,H₀:=H,env:=L0 qual scope cl s.heap.objs.size f cd,outer:=outer,stack:=L0 qual scope cl s.heap.objs.size f cd::outer,ex:=[],fn:=λ_=>false,calm:=true,pn:=[],xe:=λe s'=>wpAny (model P w) (A.deeper (L0 qual scope cl s.heap.objs.size f cd)) (leaving (L0 qual scope cl s.heap.objs.size f cd) e) (λ_ s''=>CX outer H s E e s'') (λe' s''=>CX outer H s E e' s'') s' }
structure ClAt(base:Heap)(N:List Str)(cl:List (Str×Addr))(vs:List V):Prop where
 len:vs.length=N.length
 val:∀(i:Nat)(x:Str)(v:V),N[i]?=some x->vs[i]?=some v->∃c u,cl.lookup x=some c/\base.IsCell c (some u)/\RelV v u
 cel:∀x c,cl.lookup x=some c->∃u,base.IsCell c u
 inj:∀x y c,cl.lookup x=some c->cl.lookup y=some c->x=y
theorem ClAt.two{x1 x2:Str}{c2:Addr}{v1 v2:V}{u1 u2:Value}(hx:x1≠x2)(hc:c1≠c2)(h1:base.IsCell c1 (some u1))(h2:base.IsCell c2 (some u2))(r1:RelV v1 u1)(r2:RelV v2 u2):ClAt base [x1,x2] [(x2,c2),(x1,c1)] [v1,v2]:=by
 have L:List.lookup x1 [(x2,c2),(x1,c1)]=some c1:=by
  rw [dF];have:(x1==x2)=false:=by simpa using hx
  rw [this];simp [List.lookup]
 have M:List.lookup x2 [(x2,c2),(x1,c1)]=some c2:=by simp [List.lookup]
 have any:∀x c,List.lookup x [(x2,c2),(x1,c1)]=some c->(x=x2/\c=c2)\/(x=x1/\c=c1):=λx c h=>by
  by_cases J:x=x2
  .subst J;rw [M]at h;exact .inl ⟨rfl,(aI h).symm⟩
  by_cases G:x=x1
  .subst G;rw [L]at h;exact .inr ⟨rfl,(aI h).symm⟩
  .have a:(x==x2)=false:=by simpa using J
   have b:(x==x1)=false:=by simpa using G
   simp [List.lookup,a,b]at h
 refine⟨rfl,λi x v G J=>?_,λx c h=>?_,λx y c a b=>?_⟩
 .match i,G,J with
  | 0,G,J=>cases G;cases J;exact⟨c1,u1,L,h1,r1⟩
  | 1,G,J=>cases G;cases J;exact⟨c2,u2,M,h2,r2⟩
  | i+2,G,J=>cases G
 .rcases any x c h with⟨_,rfl⟩ | ⟨_,rfl⟩
  .exact⟨_,h2⟩
  .exact⟨_,h1⟩
 .rcases any x c a with⟨rfl,rfl⟩ | ⟨rfl,rfl⟩<;>rcases any y c b with⟨rfl,e⟩ | ⟨rfl,e⟩
  .rfl
  .exact absurd e.symm hc
  .exact absurd e hc
  .rfl
theorem PB{k:Nat}{ds:List Value}{sp:Heap->Sp}{pins:List (10:)}{Q:VK}{vs:List V}(F:∀g:Heap,Sub X.base g->FnOk X.prog X.w X.K X.mg g CX0 k f fd ps (sp g))(hr:Room k X.A)(hb:Binds X.K fd ps ds)(hd:Vals dvs ds)(hfn:∀x,X.fn x=true)
 (I:Inv X pins σ H s) (r:Vals vs us) (h:∀g:Heap,Sub X.base g->N7 X σ g->sp g (vs++dvs) H Q E0):wpAny (6:) X.A (call (.ref f) us) (EP X pins σ Q) X.xe s:=by
 have J:Vals (vs++dvs) (us++ds):=r.append hd;have h':=h _ I.env0.sub (I.cells hfn);have L:(us++ds).length=ps.length:=by rw [<-J.length];exact(F _ I.env0.sub).len _ _ _ _ h'
 refine wpAny_call (codeAny_mono ((F _ I.env0.sub).run X.A X.stack s H ⟨us,[]⟩ (us++ds) (vs++dvs) Q E0 hr I.env0.big (hb s us I.kIn L) J h') λr s' G=>?_);cases r with
 | error e=>exact G.elim
 | ok M=>
  cases M with
  | ret u=>exact I.after G
  | next=>exact False.elim G
  | brk=>exact False.elim G
  | cont=>exact False.elim G
def Tx(P:Program)(w:World)(K:Fg)(mg:Str->Option Value)(base:Heap)(k:Nat)(e:Expr)(cl:List (Str×Addr))(sp:Sp):Prop:=
 ∀(f:Addr)(A:Around)(outer:List Env)(s:Shared)(H:Hp)(us:List Value)(vs:List V)(Q:VK)(E:XK),Room k A->Env0 P w K mg base A outer s H->LamAtC H f e cl->Vals vs us->sp vs H Q E->
  codeAny (model P w) A (.call (.ref f) ⟨us,[]⟩) (CR CX0 outer P w H s Q E) s
theorem No{P:Program}{w:World}{K:Fg}{mg:Str->Option Value}{base:Heap}{k:Nat}{e:Expr}{cl:List (Str×Addr)}{N:List Str}{vs:List V}{sp:Sp}{x:Str}(hk:(Qy e).kind=ScopeKind.function)(hco:(Qy e).isCoroutine=false)(hge:(Qy e).isGenerator=false)(hfree:∀y∈(Qy e).names,y.2≠NameKind.cell)
 (hloc:∀y,(Qy e).names.lookup y=some .local->y=x) (hx:(Qy e).names.lookup x=some .local) (hxN:x∉N)
 (hN:∀x,(Qy e).names.lookup x=some .free->∃c,cl.lookup x=some c) (hC:ClAt base N cl vs) (len:∀vs H Q E,sp vs H Q E->vs.length=1)
 (hbind:∀(qual:Str)(pm:Value)(c:Addr)(ctv u:Value),bindArgs (UG qual e cl pm c ctv) ⟨[u],[]⟩=pure [(x,u)])
 (hbody:∀(qual:Str)(f c:Addr)(A:Around)(outer:List Env)(s:Shared)(H:Hp)(v:V)(Q:VK)(E:XK),Room k (A.deeper (L0 qual (Qy e) cl s.heap.objs.size f (.ref c)))->sp [v] H Q E->
  ∃t,PE (cxL CX0 P w K mg base (x::N) qual (Qy e) cl f (.ref c) A outer s H E).nox (GS e) t/\t (some v::vs.map some) H Q):Tx P w K mg base (k+1) e cl sp:=by
 intro f A outer s H us ws Q E hr G hL r Z;obtain⟨qual,pm,c,ctv,hf,hc⟩:=hL.ex;obtain⟨v,rfl⟩: ∃v,ws=[v]:=fV.mp (len _ _ _ _ Z);obtain⟨u,rfl,rv⟩:=r.one;have ab:s.heap.get? f=some { cls:=.type "function",data:=.func (UG qual e cl pm c ctv) }:=(G.hok f _ hf).1;have aa:s.heap.CodeRec (.ref c) qual:=(G.hok c _ hc).1;have ac:s.heap.NoLimit:=G.mod.nolimit.keeps λb o e=>(G.bs b o e).1;refine PySem.W.kla_callFunE hr.depth ab rfl hco hge rfl aa ?_;rw [hbind qual pm c ctv u];refine aH ?_;refine wpAny_newFunctionEnv hfree (λy hy=>by
  have ey:y=(x,u):=by simpa using hy
  rw [ey];exact hx) (λh1 ad ae=>?_) hk
 have keep:∀b o,s.heap.get? b=some o->h1.get? b=some o:=λb o e=>(ae.2 b (bC (aO e))).trans (aN _ e);refine⟨ac.keeps keep,PySem.W.kla_codeExpr ?_⟩;obtain⟨t,ht,hq⟩:=hbody qual f c A outer s H v Q E (hr.deeper _) Z;have M:∀{x:Str}{L:Addr}{u:Option Value},base.IsCell L u->h1.IsCell L u/\H L=none/\L<s.heap.objs.size:=λ{x L u} ⟨o,ho,r⟩=>⟨⟨o,keep _ _ (G.bs _ _ ho).1,r⟩,(G.bs _ _ ho).2,aO (G.bs _ _ ho).1⟩;have U:∀b:Addr,b∉(cxL CX0 P w K mg base (x::N) qual (Qy e) cl f (.ref c) A outer s H E).ex:=λb z=>absurd (show b∈([]:List Addr)from z) (16:);have I:Inv (cxL CX0 P w K mg base (x::N) qual (Qy e) cl f (.ref c) A outer s H E) [] (some v::vs.map some) H { s with heap:=h1,toks:=s.toks+1 }:=by
  refine⟨⟨G.mod,hk,rfl,rfl,aY _,λy z L h1 h2=>hC.inj y z L h1 h2,λy hy=>?_,λy L h _=>?_,λ_=>hr.hd,Around.frames_deeper G.frames,.inr ⟨rfl,rfl⟩,λb z=>absurd z (U b),G.bs,G.bsz,λb _ _=>U b,λb z=>absurd z (U b),G.funs,G.frf⟩,rfl,G.bare,Un.kept keep,⟨_,ad,λi y Y h1 h2 h3=>?_⟩,λy L h=>?_,G.hok.fresh (4:),λy L h=>?_,λp hp=>absurd (show p∈([]:List (10:))from hp) (16:),G.hok.kept keep,?_⟩
  .have hy:(Qy e).names.lookup y=some .cell\/(Qy e).names.lookup y=some .free:=hy;rcases hy with hy | hy
   .exact absurd rfl (hfree _ (dY hy))
   .exact hN y hy
  .cases h
  .cases i with
   | zero=>
    have h1:(x::N)[0]?=some y:=h1;have ey:x=y:=by simpa using h1
    have ev:v=Y:=by simpa using h2
    subst ey;rw [<-ev];exact⟨u,rv,.inl ⟨hx,by simp [List.lookup]⟩⟩
   | succ i=>
    have h1:(x::N)[i+1]?=some y:=h1;have h1:N[i]?=some y:=by simpa using h1
    have hv:vs[i]?=some Y:=by
     have h2:(vs.map some)[i]?=some (some Y):=by simpa using h2
     rw [aK]at h2;cases q:vs[i]? with
     | none=>rw [q]at h2;cases h2
     | some a=>rw [q]at h2;cases h2;rfl
    obtain⟨L,u,e1,e2,e3⟩:=hC.val i y Y h1 hv;have h3:(Qy e).names.lookup y=some .local\/(Qy e).names.lookup y=some .cell\/(Qy e).names.lookup y=some .free:=h3;rcases h3 with k | k | k
    .exact absurd (aL h1) (by rw [hloc y k];exact hxN)
    .exact absurd rfl (hfree _ (dY k))
    .exact⟨u,e3,.inr ⟨.inr k,L,e1,(M (x:=y) e2).1⟩⟩
  .obtain⟨u,hu⟩:=hC.cel y L h;exact⟨u,(M (x:=y) hu).1⟩
  .obtain⟨u,hu⟩:=hC.cel y L h;exact(M (x:=y) hu).2.1
  .rw [bF,aE,hC.len];rfl
 refine dC (ht.nox [] _ (some v::vs.map some) H _ I hq) (λu s' hs=>?_) λe s' hs=>hs;obtain⟨v,H',J,rv,q⟩:=hs;exact⟨v,H',J.os,J.bare,J.base,J.hok,rv,q⟩
def Tf(i:Nat)(e:Expr)(cl:List (Str×Addr))(sp:Sp)(t:TA):TE:=λσ H Q=>∃f,σ[i]?=some (some (.ref f))/\t σ H λvs H1=>LamAtC H1 f e cl/\sp vs H1 Q E0
theorem OB{i:Nat}{x:Str}{e a:Expr}{cl:List (Str×Addr)}{as:List Expr}{t:TA}{sp:Sp}{k:Nat}{p pos:Pos}(C:Tx X.prog X.w X.K X.mg X.base k e cl sp)(hr:Room k X.A)(ha:PA X (a::as) t)(hN:X.N[i]?=some x:=by rfl)(hv:Vis X.env.scope x:=by first | exact Or.inl rfl | exact Or.inr (18:) | exact Or.inr (Or.inr rfl))
 (hd:(x==("__debug__":Str))=false:=by decide) (hcd:(x==("__classdict__":Str))=false:=by decide) (he:starEach (a::as) X.env=(false,eval a X.env)::starEach as X.env:=by rfl) (hpl:(backTo pos (starEach as X.env)).any (·.1)=false:=by rfl):
 PE X (.Call (.Name x p) (a::as) [] pos) (Tf i e cl sp t):=by
 intro pins s σ H Q I h;obtain⟨f,hs,h⟩:=h;refine eV (thn (VL (pos:=p) hN hv hd hcd pins s σ H (λv H1=>v=.ref f/\H1=H) I ⟨.ref f,hs,rfl,rfl⟩) λu M ⟨v,H1,I1,r1,ev,eH⟩=>?_);subst ev eH;obtain rfl:u=Value.ref f:=r1;have U:wpAny (6:) X.A (spliced (backTo pos (starEach (a::as) X.env))) (λvs Y=>(∃fd,Y.heap.get? f=some { cls:=.type "function",data:=.func fd })/\wpAny (6:) X.A (call (.ref f) ([]++vs)) (EP X pins σ Q) X.xe Y) X.xe M:=by
  refine thn (ha pos pins M σ H1 _ I1 h) λus s2 ⟨vs,H2,J,r2,Z,q2⟩=>⟨?_,?_⟩
  .obtain⟨qual,pm,c,aa,L,hc⟩:=Z.ex;exact⟨_,(J.hok f _ L).1⟩
  .refine wpAny_call (codeAny_mono (C f X.A X.stack s2 H2 us vs Q E0 hr J.env0 Z r2 q2) λr s' G=>?_);cases r with
   | error e=>exact G.elim
   | ok fl=>
    cases fl with
    | ret u=>exact J.after G
    | next=>exact False.elim G
    | brk=>exact False.elim G
    | cont=>exact False.elim G
 rw [he]at U ⊢;exact PySem.W.callWith_of (P:=λh=>∃fd,h.get? f=some { cls:=.type "function",data:=.func fd }) (by show((false||(backTo pos (starEach as X.env)).any (·.1))||false)=false;rw [hpl];rfl)
  (λh ⟨fd,L⟩=>⟨.frame,.inl rfl,(PySem.W.Looks.ld (part:=none) L).andThen .now⟩) (PySem.Calls.evalArgs_plain U)
def SN(X:Cx)(sp:Heap->Sp)(t:TA):TE:=λσ H Q=>t σ H λvs H2=>∀g:Heap,Sub X.base g->N7 X σ g->sp g (vs++[]) H2 Q E0
theorem At{x:Str}{p:Pos}{k:Nat}{sp:Heap->Sp}{t:TA}(F:∀g:Heap,Sub X.base g->FnOk X.prog X.w X.K X.mg g CX0 k f fd ps (sp g))(hr:Room k X.A)(hm:X.mg x=some (.ref f))(hk:PySem.W.keepIn X.K (.ref f)=true)(hb:Binds X.K fd ps [])(hfn:∀x,X.fn x=true)(ha:PA X (e::es) t)(hg:Gl X x:=by rfl)
 (hdb:(x==("__debug__":Str))=false:=by decide) (he:starEach (e::es) X.env=(false,eval e X.env)::starEach es X.env:=by rfl) (hpl:(backTo pos (starEach es X.env)).any (·.1)=false:=by rfl):
 PE X (.Call (.Name x p) (e::es) [] pos) (SN X sp t):=by
 intro pins s σ H Q I h;refine eV (U6 I hg hm ?_ hdb);refine PySem.W.callWith_K (h₀:=X.base) I.ok.mod.kin hk (thn (ha pos pins s σ H _ I h) λJ L ⟨vs,H1,G,r,q⟩=>⟨G.kIn,?_⟩) he hpl;exact PB F hr hb .nil hfn G r q
end L2
namespace K3
end K3
namespace L2
open PySem PySem.Spec PyProof.Rows
section
variable{C:Addr}{k:Nat}{m:Str}{t:TA}
end
end L2
namespace K3
open PySem L2
end K3
namespace L2
open PySem PySem.Spec PyProof.Rows
section
variable{C:Addr}{k:Nat}{m:Str}{t:TA}
end
end L2
namespace K40
open PySem L2 TM TT ST K9 K11
abbrev MkP:=Ky->Str×List TX
def clL(os:List TX):List Ky:=(QY os).map (·.1)
def ZC(mk:MkP):Nat->Nat->List Ky->List Ky
 | 0,_,ps=>ps
 | F+1,m,ps=>match ps[m]? with
  | none=>ps
  | some p=>ZC mk F (m+1) (Qp ps (clL (mk p).2))
theorem Zx(mk:MkP):∀{F m:Nat}{ps:List Ky},∃r,ZC mk F m ps=ps++r
 | 0,_,ps=>⟨[],by simp [ZC]⟩
 | F+1,m,ps=>by
  rw [ZC];cases ps[m]? with
  | none=>exact⟨[],by simp⟩
  | some p=>
   obtain⟨G,J⟩:=ZE (ps:=ps) (l:=clL (mk p).2);obtain⟨L,M⟩:=Zx mk (F:=F) (m:=m+1) (ps:=Qp ps (clL (mk p).2));exact⟨G++L,by show ZC mk F (m+1) _=_;rw [M,J,dE]⟩
def spL(K:Fg)(H0:Hp)(mk:MkP)(qs:List Ky):Sp:=λvs H Q _=>∃(pp:Addr)(pr:Ky),vs=[.ref pp]/\Same H0 H/\PrV K H pp pr/\pr∈qs/\
 ∀(p lr:Addr)(ws:List V)(H':Hp),Same H H'->H' p=some (.tup [.str (mk pr).1,.ref lr])->H lr=none->H' lr=some (.lst ws)->TxAll K H' ws (mk pr).2->Q (.ref p) H'
def dM(ms:List MdT):List (Str×List Tm):=ms.map λm=>(m.2.1,m.2.2.2.2)
def dQ(mk:MkP)(qs:List Ky):List (Str×List Tm):=qs.map λp=>((mk p).1,(mk p).2.map (mpX (ixP qs)))
def B7(P:Program)(w:World)(K:Fg)(mg:Str->Option Value)(base:Heap)(k n:Nat):Sp:=λvs H Q _=>∃(wd lf:Addr)(sv:V)(ks:List KdT)(t:TX)(e:Expr)(cl:List (Str×Addr))(mk:MkP)(most:Nat)(qs:List Ky),vs=[.ref wd,sv,.ref lf,.int (most:Int)]/\WoodAt K H wd ks/\ks.length<=100/\TxV K H sv t/\lv t<=n/\sz t<=1000/\LamAtC H lf e cl/\Tx P w K mg base k e cl (spL K H mk qs)/\most<=200/\qs=ZC mk (most+1) 0 (Qp [] ((clX t).map (·.1)))/\qs.length<=most/\(∀p∈qs,(mk p).2.length<=100/\∀o∈(mk p).2,lv o<=n/\sz o<=1000)/\
 ∀(r tu lw lm d:Addr)(sv':V)(ks':List KdT)(ms:List MdT)(H':Hp),Same H H'->SqT K H' r [.ref tu,.ref d]->SqT K H' tu [.ref lw,sv',.ref lm]->NewWd K H H' lw ks'->dW ks'=dW ks->TmV K H' sv' (mpX (ixP qs) t)->NewMo K H H' lm ms->dM ms=dQ mk qs->lw≠lm->(∀k∈ks',k.2.2.1≠lm/\∀m∈ms,k.2.2.1≠m.2.2.1)->(∀m∈ms,lw≠m.2.2.1)->(∀c∈clX t,c.1∈qs)->(∀p∈qs,∀c∈clL (mk p).2,c∈qs)->Q (.ref r) H'
theorem Jn:∀l r:List TX,QY (l++r)=QY l++QY r
 | [],r=>by simp [QY]
 | t::l,r=>by rw [f_,QY,QY,Jn l r,dE]
theorem JI(l:List TX)(o:TX):clL (l++[o])=clL l++(clX o).map (·.1):=by unfold clL;rw [XH,aP]
theorem V9(ps:List Ky)(l:List TX)(i:Nat):(Qp ps (clL (l.take i))).length<=(Qp ps (clL l)).length:=by
 have e:clL l=clL (l.take i)++clL (l.drop i):=by
  unfold clL;rw [<-aP,<-Jn,fY]
 rw [e,Zq];exact YA
def MoP(K:Fg)(mk:MkP)(H:Hp)(lm:Addr)(ps:List Ky)(mos:List (Addr×Addr×List V)):Prop:=mos.length<=ps.length/\∀(i:Nat) m p,mos[i]?=some m->ps[i]?=some p->H m.1=some (.tup [.str (mk p).1,.ref m.2.1])/\H m.2.1=some (.lst m.2.2)/\m.2.1≠lm/\TxAll K H m.2.2 (mk p).2
abbrev Wn:Stmt:=top 28
abbrev asN:List Str:=["wood","start","mode_by","most","numbers","modes","mode","rule","turning"]
section
variable{K:Fg}
theorem MJ:FnScope asN ["wood","start","mode_by","most"] (defScope Wn):=(0:)
theorem Bt{k n:Nat}(F:Fun K "as_met" "as_met" Wn f fd)(G:Gm mg)(RN:Fn P w K mg base (n+2) "number_calls" ["numbers","term","most"] (BU P w K n))(RW:Fn P w K mg base 1 "own_wood" ["wood"] (O7 K))(RM:Fn P w K mg base (n+1) "with_modes" ["term","numbers"] (Gb P w K n))(RE:Fn P w K mg base (n+2) "numbered_mode" ["mode","numbers"] (S3 P w K n)):
 FnOk P w K mg base CX0 (n+k+3) f fd ["wood","start","mode_by","most"] (B7 P w K mg base k n):=by
 refine F.ok MJ (7:) (λc2 A outer s H vs Q E hr h=>?_)
 .obtain⟨wd,lf,sv,ks,t,e,cl,mk,J,qs,rfl,_⟩:=h
  rfl
 obtain⟨wd,lf,sv,ks,t,e,cl,mk,J,qs,rfl,hW,b9,bh,bi,ca,cb,hC,c1,bj,c3,bn,q⟩:=h;have cc:Room k _:=hr.mono (5:);have ah:Room (n+2) _:=hr.mono (5:);refine⟨_,(Qg (Qz (i:=4) MJ.nd rfl (Or.inr rfl) Rh)
  (Qg (Zc (Qt RN ah (Qa (pv 4) (Qa (pv 1) (Qa (pv 3) Qc))) (4:)))
  (Qg (Qz (i:=5) MJ.nd rfl (18:) (Zs Qc))
  (Qg (JB bV (Qw Va (Ql Qm rfl G.len bO (Qa (pv 5) Qc)) (Ql LD.call_lenN rfl G.len bO (Qa (pv 4) Qc)) (QA _)) (Qg (Qz (i:=6) MJ.nd rfl (18:) (OB (i:=2) hC cc (Qa (Qk QL (QN (LD.call_listN rfl) rfl G.lst eB (Qa (pv 4) Qc)) (Ql Qm rfl G.len bO (Qa (pv 5) Qc)) (λ_ _=>rfl)) Qc)))
  (Qg (QG bV rfl (QJ (Qk Qj (pv 6) Qh (λ_ _=>rfl))) (Qq (i:=7) MJ.nd rfl (18:)) (Qi (Zc (Qt RN ah (Qa (pv 4) (Qa (pv 7) (Qa (pv 3) Qc))) (4:)))))
  (Qi (Zc (Ua cS fu fw Zo (pv 5) (Qa (pv 6) Qc)))))))
  (Qg (Qz (i:=8) MJ.nd rfl (18:) (QE (Qa (Qt RW ah (Qa (pv 0) Qc) (5:)) (Qa (Qt RM ah (Qa (pv 1) (Qa (pv 4) Qc)) (5:)) (Qa (QO (CompG.many (xs:=["mode"]) (caps:=["numbers"]) (cap:=[4]) (cs:=[_]) rfl rfl (1:) (1:) (1:) (1:) (1:) (1:) rfl rfl rfl) rfl (QJ (pv 5)) (YZ (CompG.many (xs:=["mode"]) (caps:=["numbers"]) (cap:=[4]) (cs:=[_]) rfl rfl (1:) (1:) (1:) (1:) (1:) (1:) rfl rfl rfl)) (λ_ _ _ _=>Zn) (λ_ _ _ _=>Qt RE ah (Qa (pv 0) (Qa (pv 1) Qc)) (4:))) Qc)))))
  (Qi (Qn (QE (Qa (pv 8) (Qa (pv 4) Qc)))))))))),?_⟩
 refine L2.let5 ?_
 intros
 refine λd hd=>?_;have g1:=Qd hd (NdO P w d []);have ce:NumD P w K (upd H d (NdO P w d [])) d []:=⟨Qb,λz hz=>(nomatch hz)⟩;obtain⟨r0,cf⟩:=Zx mk (F:=J+1) (m:=0) (ps:=Qp [] ((clX t).map (·.1)));have bg:(Qp [] ((clX t).map (·.1))).length<=J:=by
  have:=congrArg List.length cf;rw [<-bj,aW]at this;lia
 refine⟨_,rfl,_,rfl,_,rfl,sv,d,[],t,J,rfl,bh.mono λ_ _=>g1.seqT,bi,ca,ce,by lia,bg,λl2 H2 g2 bo cg=>?_⟩;have s2:Same H H2:=λb u e=>g2 b u (Qf e hd) (g1 b u e);refine⟨(by show 0<=sizeLine;decide),λlm an=>?_⟩;have g3:=Qd an (.lst []);have b5:H lm=none:=Same.none s2 an;have bp:lm≠d:=λz=>by rw [z,bo.a]at an;cases an
 refine let J_:J3:=(λm σ H'=>∃(j:Nat)(l:NL)(ps:List Ky)(L:List (Addr×Addr×List V))(c6 c7:Option V),σ=[some (.ref wd),some sv,some (.ref lf),some (.int (J:Int)),some (.ref d),some (.ref lm),c6,c7,none]/\Same H H'/\NumD P w K H' d l/\kys l=ps/\H' lm=some (.lst (L.map λm=>V.ref m.1))/\L.length=j/\m+j=J+1/\ZC mk (J+1-j) j ps=qs/\MoP K mk H' lm ps L/\(∀c∈clX t,c.1∈ps)/\∀(i:Nat) p,i<j->ps[i]?=some p->∀c∈clL (mk p).2,c∈ps);R6 J_ (J+1)
  ⟨0,l2,_,[],none,none,rfl,s2.trans g3,bo.same g3,cg,Qb,rfl,rfl,bj.symm,⟨bE _,λi m p e=>by simp at e⟩,λc hc=>Zg.mpr (.inr (aJ.mpr ⟨c,hc,rfl⟩)),λi p hi=>absurd hi (Nat.not_lt_zero _)⟩ ?_ ?_
 .rintro m σ H' ⟨j,l,ps,L,c6,c7,rfl,g,Z,ek,ab,hj,Y,M,ax,ay,az⟩;have c4:l.length=ps.length:=by rw [<-ek,aE]
  refine⟨_,rfl,lm,_,rfl,.inl (SqL.of ab),_,rfl,d,_,rfl,Z.a,Z.ks,_,_,rfl,rfl,_,rfl,Rt (λc=>?_) (λc=>?_)⟩
  .have c':(((L.map λm=>V.ref m.1).length:Nat):Int)<(((Yb l).length:Nat):Int):=bM c;rw [aE,Yl]at c';have a0:j<ps.length:=by lia
   refine⟨lf,rfl,_,rfl,d,_,rfl,Z.a,Z.ks,λla hl=>?_⟩;have gl:=Qd hl (.lst ((Yb l).map λt=>V.ref t.2.1));have a1:j<l.length:=by lia
   have ch:l[j].1=ps[j]:=by
    have:(kys l)[j]?=ps[j]?:=by rw [ek]
    rw [aK,aD a1,aD a0]at this;exact aI this
   have bq:=Z.k _ (aQ a1);rw [ch]at bq;have b6:((Yb l).map λt=>V.ref t.2.1)[j]?=some (.ref l[j].2):=by
    unfold Yb;rw [bX,aK,List.getElem?_zipIdx,aD a1];rfl
   have a3:=aD a0;have hF:J+1-j=(J-j)+1:=by
    have h1:ps.length<=J:=by
     obtain⟨r,er⟩:=Zx mk (F:=J+1-j) (m:=j) (ps:=ps);rw [M]at er;have:=congrArg List.length er;rw [aW]at this;lia
    lia
   rw [hF,ZC,a3]at M;have M:ZC mk (J-j) (j+1) (Qp ps (clL (mk ps[j]).2))=qs:=M;have b7:(Qp ps (clL (mk ps[j]).2)).length<=J:=by
    obtain⟨r,er⟩:=Zx mk (F:=J-j) (m:=j+1) (ps:=Qp ps (clL (mk ps[j]).2));rw [M]at er;have:=congrArg List.length er;rw [aW]at this;lia
   have a4:ps[j]∈qs:=by
    obtain⟨r,er⟩:=Zx mk (F:=J-j) (m:=j+1) (ps:=Qp ps (clL (mk ps[j]).2));rw [M]at er;rw [er];exact cT _ (Zg.mpr (.inl (aQ a0)))
   obtain⟨br,a5⟩:=bn _ a4;refine⟨_,rfl,lm,_,rfl,.inl (SqL.of (gl _ _ ab)),la,_,_,.ref l[j].2,rfl,rfl,SqL.of Qb,(by rw [aE,hj];exact Qo b6),(cb.same g).same gl,l[j].2,ps[j],rfl,g.trans gl,bq.mono λ_ _=>gl.seqT,a4,λp lr ws H6 g6 hp a6 ao a7=>?_⟩;have af:=gl.trans g6;have ag:=Z.same af;have b8:=af _ _ ab;have c5:=a7.length;have a8:lr≠lm:=λz=>by rw [z,gl _ _ ab]at a6;cases a6
   refine⟨_,rfl,p,_,1,_,rfl,rfl,SqT.of hp,rfl,lr,rfl,⟨_,SqL.of ao⟩,?_⟩;refine let J_:J3:=(λr σ H''=>∃(c7:Option V)(l':NL),σ=[some (.ref wd),some sv,some (.ref lf),some (.int (J:Int)),some (.ref d),some (.ref lm),some (.ref p),c7,none]/\SameX d H6 H''/\NumD P w K H'' d l'/\kys l'=Qp ps (clL ((mk ps[j]).2.take r)));Q2 (K:=K) (xs:=ws) J_
    ⟨c7,l,rfl,SameX.refl _ _,ag,ek⟩ ?_ ?_ ?_
   .rintro r σ H'' _ ⟨c7,l',_,U,_⟩;exact SqL.of (U _ _ (QB ao ag.a (14:)) ao)
   .rintro r x σ H'' hx ⟨c7,l',rfl,U,a9,ai⟩;have ba:r<(mk ps[j]).2.length:=by
     have:=(aU.mp hx).1;lia
    obtain⟨cv,ci,cj⟩:=a7.get (aD ba);obtain rfl:cv=x:=aI (ci.symm.trans hx);obtain⟨o1,o2⟩:=a5 _ (aQ ba);have ap:Qp (Qp ps (clL ((mk ps[j]).2.take r))) ((clX (mk ps[j]).2[r]).map (·.1))=Qp ps (clL ((mk ps[j]).2.take (r+1))):=by
     rw [<-Zq,<-JI,bB,aD ba];rfl
    refine⟨_,rfl,_,rfl,_,rfl,cv,d,l',(mk ps[j]).2[r],J,rfl,cj.mono (Ji ag.a U),o1,o2,a9,by lia,?_,λl8 H8 g8 ck bt=>?_⟩
    .rw [ai,ap];exact bT (V9 _ _ _) b7
    .rw [ai,ap]at bt;exact⟨_,l8,rfl,U.trans g8,ck,bt⟩
   .rintro σ H'' ⟨c7,l7,rfl,U,a9,ai⟩;rw [bH (5:)]at ai;have ac:=U _ _ bp b8;have bb:L.length<=200:=by lia
    refine⟨_,rfl,.inl ⟨rfl,_,SqL.of ac⟩,_,rfl,lm,_,_,rfl,rfl,ac,(by rw [aE,QD];lia),?_⟩;have kp:∀a xs,SqT K H6 a xs->SqT K (upd H'' lm (.lst (L.map (λm=>V.ref m.1)++[.ref p]))) a xs:=λa xs h=>(Ji ag.a U a xs h).put ac;have kq:∀a xs,H6 a=some (.tup xs)->upd H'' lm (.lst (L.map (λm=>V.ref m.1)++[.ref p])) a=some (.tup xs):=λa xs h=>by
     have h':=U _ _ (QB h ag.a (14:)) h;rw [Qe (QB h' ac (14:))];exact h'
    have ls:∀b ys,b≠lm->H6 b=some (.lst ys)->upd H'' lm (.lst (L.map (λm=>V.ref m.1)++[.ref p])) b=some (.lst ys):=λb ys nb e=>by
     rw [Qe nb];exact U _ _ (QB e ag.a (14:)) e
    obtain⟨rr,bu⟩:=ZE (ps:=ps) (l:=clL (mk ps[j]).2);have bc:∀i:Nat,i<=j->(Qp ps (clL (mk ps[j]).2))[i]?=ps[i]?:=λi hi=>by rw [bu,fq (5:)]
    refine⟨m-1,by lia,j+1,l7,Qp ps (clL (mk ps[j]).2),L++[(p,lr,ws)],_,_,rfl,?_,?_,ai,by rw [Qb,aP];rfl,by rw [aW,hj];rfl,by lia,?_,⟨?_,?_⟩,λc hc=>Zg.mpr (.inl (ay c hc)),?_⟩
    .intro b u e;rw [Qe (Qf e b5)];exact U _ _ (Qf e hd) ((g.trans af) _ _ e)
    .exact a9.mono (λ_ _ h=>h.put ac) (Qe (aV bp))
    .rw [show J+1-(j+1)=J-j by lia];exact M
    .rw [aW,bu,aW];simp only [cM];lia
    .intro i mo pr h1 h2;have c8:i<j+1:=by
      have:=(aU.mp h1).1;rw [aW,hj]at this;exact this
     rw [bc i (5:)]at h2;rcases Nat.lt_or_ge i j with z | z
     .rw [fq (5:)]at h1;obtain⟨b1,b2,b3,b4⟩:=ax.2 i mo pr h1 h2;exact⟨kq _ _ (af _ _ b1),ls _ _ b3 (af _ _ b2),b3,b4.mono λa xs h=>kp a xs (af.seqT h)⟩
     .obtain rfl:i=j:=by lia
      rw [fT (5:),show i-L.length=0 by lia]at h1;obtain rfl:(p,lr,ws)=mo:=by simpa using h1
      rw [a3]at h2;obtain rfl:=aI h2;exact⟨kq _ _ hp,ls _ _ a8 ao,a8,a7.mono kp⟩
    .intro i pr hi h2 c hc;rw [bc i (5:)]at h2;rcases Nat.lt_or_ge i j with z | z
     .exact Zg.mpr (.inl (az i pr z h2 c hc))
     .obtain rfl:i=j:=by lia
      rw [a3]at h2;obtain rfl:=aI h2;exact Zg.mpr (.inr hc)
  .have c':¬((((L.map λm=>V.ref m.1).length:Nat):Int)<(((Yb l).length:Nat):Int)):=λz=>c (bK z);rw [aE,Yl]at c';have cm:ps.length<=j:=by lia
   have cn:ps[j]?=none:=dJ cm;have co:ps=qs:=by
    cases hF:J+1-j with
    | zero=>rw [hF,ZC]at M;exact M
    | succ F=>rw [hF,ZC,cn]at M;exact M
   subst co;have c9:L.length=ps.length:=by have:=ax.1;lia
   refine⟨_,rfl,wd,ks,rfl,hW.same g,b9,λlw H9 cp g9 aq cq=>?_⟩;have cr:=Z.same g9;refine⟨_,rfl,_,rfl,sv,d,l,t,rfl,bh.mono λ_ _=>(g.trans g9).seqT,bi,cr,by rw [ek];exact ay,λbv bw ar bd=>?_⟩;rw [ek]at bd;have aj:=g9.trans ar;have be:=aj _ _ ab;refine⟨_,rfl,lm,rfl,⟨_,SqL.of be⟩,λacc ad=>?_⟩;refine let J_:JC:=(λi ys H'=>∃ms:List MdT,ys=ms.map (λm=>V.ref m.1)/\H' acc=some (.lst ys)/\Same bw H'/\ms.length=i/\dM ms=(dQ mk ps).take i/\∀m∈ms,SqT K H' m.1 [.str m.2.1,.ref m.2.2.1]/\H' m.2.2.1=some (.lst m.2.2.2.1)/\bw m.2.2.1=none/\m.2.2.1≠acc/\TmAll K H' m.2.2.2.1 m.2.2.2.2);Jk (K:=K) (xs:=L.map λm=>V.ref m.1) (cs:=[some (.ref d)]) (tt:=λ_ H Q=>Q true H) (te:=Y3 (S3 P w K n) [] E0 (QZ (ZT 0) (QZ (ZT 1) YF))) J_
    ⟨[],rfl,Qb,Qd ad _,rfl,rfl,λm Y=>(nomatch Y)⟩ ?_ ?_ ?_
   .rintro i ys H' _ ⟨_,_,_,U,_⟩;exact SqL.of (U _ _ be)
   .rintro i x ys H' hi hx ⟨ms,rfl,as,U,bb,au,aa⟩;have bx:i<L.length:=by rwa [aE]at hi
    have av:i<ps.length:=by lia
    obtain rfl:x=.ref L[i].1:=by
     rw [aK,aD bx]at hx;exact(aI hx).symm
    obtain⟨b1,b2,b3,b4⟩:=ax.2 i _ _ (aD bx) (aD av);have aw:=aj.trans U;obtain⟨br,a5⟩:=bn _ (aQ av);refine Zh ⟨_,rfl,_,rfl,L[i].1,L[i].2.1,d,(mk ps[i]).1,L[i].2.2,(mk ps[i]).2,l,rfl,SqT.of (aw _ _ b1),SqL.of (aw _ _ b2),b4.mono λ_ _=>aw.seqT,br,Z.same aw,λo ho=>⟨(a5 o ho).1,λc hc=>?_⟩,λpp lq us da ak ct am cu bz=>?_⟩
    .rw [ek];exact az i _ (5:) (aD av) c.1 (aJ.mpr ⟨c,U4 ho hc,rfl⟩)
    rw [ek]at bz;have ae:=ak _ _ as;have b0:lq≠acc:=λz=>by rw [z,as]at am;cases am
    refine QC (ys:=ms.map λm=>V.ref m.1) hi ae (17:) ⟨ms++[(pp,(mk ps[i]).1,lq,us,(mk ps[i]).2.map (mpX (ixP ps)))],by simp,Qb,λz u e=>?_,by simp [bb],?_,λm Y=>?_⟩
    .rw [Qe (Qf e ad)];exact ak _ _ (U _ _ e)
    .have cw:(dQ mk ps)[i]?=some ((mk ps[i]).1,(mk ps[i]).2.map (mpX (ixP ps))):=by unfold dQ;rw [aK,aD av];rfl
     rw [bB,cw,<-au];unfold dM;rw [aP];rfl
    .rcases aX.mp Y with z | z
     .obtain⟨d1,d2,d3,d4,d5⟩:=aa m z;exact⟨(ak.seqT d1).put ae,by rw [Qe d4];exact ak _ _ d2,d3,d4,d5.mono λ_ _ h=>(ak.seqT h).put ae⟩
     .obtain rfl:=bJ.mp z;exact⟨(SqT.of ct).put ae,by rw [Qe b0];exact cu,Same.none U am,b0,bz.mono λ_ _ h=>h.put ae⟩
   rintro ys db ⟨ms,rfl,as,U,bb,au,aa⟩;rw [bH (by unfold dQ;rw [aE,aE];lia)]at au;refine⟨(by show 3<=sizeLine;decide),λtu cx=>?_⟩;have k1:=Qd cx (.tup [.ref lw,bv,.ref acc]);refine⟨_,rfl,_,rfl,(by show 2<=sizeLine;decide),λr hr=>?_⟩;have k2:=Qd hr (.tup [.ref tu,.ref d]);have al:=k1.trans k2;have gA:=U.trans al;have cy:H acc=none:=Same.none (g.trans aj) ad;have bf:∀b u,H9 b=some u->b≠acc/\∀m∈ms,b≠m.2.2.1:=by
    intro b u e;refine⟨λz=>?_,λm Y z=>?_⟩
    .rw [z]at e;rw [ar _ _ e]at ad;cases ad
    .have:=(aa m Y).2.2.1;rw [<-z,ar _ _ e]at this;cases this
   exact q r tu lw acc d bv cp ms _ ((g.trans aj).trans gA) (SqT.of Qb) (k2.seqT (SqT.of Qb)) (aq.ext g (ar.trans gA)) cq (bd.mono λ_ _=>gA.seqT) ⟨cy,al _ _ as,λm Y=>⟨al.seqT (aa m Y).1,al _ _ (aa m Y).2.1,Same.none (g.trans aj) (aa m Y).2.2.1,(aa m Y).2.2.2.1,(aa m Y).2.2.2.2.mono λ_ _=>al.seqT⟩⟩ au
    (bf _ _ aq.at0).1 (λk hk=>bf _ _ (aq.kd k hk).2.1) (bf _ _ aq.at0).2 ay (λp hp=>by
     obtain⟨i,hi,rfl⟩:=bW hp;exact az i _ (5:) (aD hi))
 .intro σ H Q Q' Y h;obtain⟨v1,h1,x1,x2,h2,h3,v2,h4,x3,x4,h5,h6,cz,x5,x6,h7,h8,x7,h9,c0⟩:=h;exact⟨v1,h1,x1,x2,h2,h3,v2,h4,x3,x4,h5,h6,cz,x5,x6,h7,h8,x7,h9,Y _ _ c0⟩
end
end K40
variable{mk:K40.MkP}
namespace L2
open PySem PySem.Spec PyProof.Rows HT
section
variable{E:Value->Shared->Prop}
theorem Ug{t sl:Addr}{lo:Option Int}(ht:IsTup s.heap t items)(hs:s.heap.IsSliceOf sl vl vu .none)(pl:IsPart vl lo)(pu:IsPart vu hi)
 (hw:sIx items.size 0 lo=0/\sIx items.size items.size hi=items.size) (h:Q (.ref t) s):wpAny (9:) A (getItem (.ref t) (.ref sl)) Q E s:=by
 obtain⟨U,J,L,Y⟩:=id hs;have M:s.TypeIs (.ref sl) "slice":=⟨U,J,L⟩;unfold getItem
 try with_reducible refine cB ?_
 first | refine aB (21:) | skip
 refine aB (wpAny_sequenceKey ht.typeIs (12:) ?_);refine aB (dU (name:=Str.ofString "__getitem__") ht.typeIs fm
  (dA fm ht.typeIs entry_tuple_getitem ?_ (args_tuple_getitem _ _)))
 show wpAny _ _ (Builtin.Tuple.tupleItemsOf (.ref t)>>=_) _ _ s;refine aB (tupleItemsOf_ ht ?_);refine aB (fh M ?_);rw [aG (12:)];refine aB (ZY hs pl pu ?_);have G:((24:)=true):=by
  rw [hw.1,hw.2];simp
 show wpAny _ _ (if(24:)=true then _ else _) _ _ s;rw [aG G]
 first
  | refine aB (m:=Builtin.Tuple.tupleIsExact _) (aB (fh ht.typeIs (21:)))
  | refine aB (aB (m:=Builtin.Tuple.tupleIsExact _) (aB (fh ht.typeIs (21:))))
 rw [aG (12:)];exact aB (eP (aH ⟨_,rfl,aH h⟩))
end
def CI(K:Fg):V->Option Int->Option Int->Hp->VK->Prop:=λx lo hi H Q=>∃a xs,x=.ref a/\SqT K H a xs/\∀p H',Same H H'->SqT K H' p (cutV xs lo hi)->Q (.ref p) H'
theorem PU:SlR X (CI X.K):=by
 intro pins s σ H x v vl vu lo hi sl Q I M U Y Z h;obtain⟨a,xs,rfl,J,q⟩:=h
 by_cases G:HT.sIx xs.length 0 lo=0/\HT.sIx xs.length xs.length hi=xs.length
 .cases M;obtain⟨its,r,ht,hz⟩:=I.tuple J;have L:its.toArray.size=xs.length:=by rw [aZ];exact r.length.symm
  refine⟨"tuple",_,fm.lookup,ht.typeIs,?_⟩;refine Ug ht U Y Z (by rw [L];exact G) ⟨.ref a,H,I,rfl,q a H (Same.refl _) ?_⟩;have e:cutV xs lo hi=xs:=by
   unfold cutV;rw [G.1,G.2,List.drop_zero,Nat.sub_zero,dN]
  rw [e];exact J
 .exact Ad pins s σ H _ v vl vu lo hi sl Q I M U Y Z ⟨a,xs,rfl,J,G,λp hp=>q p _ (Qd hp _) (SqT.of Qb)⟩
end L2
namespace K40
open PySem L2 TM TT ST K9 K11
abbrev sSA:Stmt:=top 5
abbrev sDn:Stmt:=top 11
abbrev sEM:Stmt:=top 37
abbrev sET:Stmt:=top 38
abbrev sSI:Stmt:=top 39
abbrev sST:Stmt:=top 40
theorem Tv(S:Int->Stp)(t:Tm):eU S (t,[])=some (sin S t):=by
 have:=Z3 S t;unfold eT at this
 rwa [Gg,e_]at this
theorem SH:∀{p:List Nat}{t u:Tm}{r:List Nat},dn t p=some (u,r)->CallsIn n t->CallsIn n u/\lv u<=lv t/\r.length<=p.length
 | [],t,u,r,h,G=>by
  rw [Gg]at h;obtain⟨rfl,rfl⟩:=Prod.mk.inj (aI h);exact⟨G,aY _,aY _⟩
 | i::p,.node (.call m b) z bs,u,r,h,G=>by
  simp only [dn]at h;obtain⟨rfl,rfl⟩:=Prod.mk.inj (aI h);exact⟨G,aY _,aY _⟩
 | i::p,.node (.put nm k a) z bs,u,r,h,G=>by
  simp only [dn]at h;obtain⟨t,L,M⟩:=cI.mp h;have J:=aL L;obtain⟨h1,h2,U⟩:=SH M (G.bs t J);have:=ZL J;refine⟨h1,?_,?_⟩
  .simp only [lv];lia
  .rw [bF];lia
def TD(K:Fg):Sp:=λvs H Q _=>∃(v:V)(cp:Addr)(s u:Stp)(p:List Nat),vs=[v,.ref cp]/\SV K H v s/\SqT K H cp (PN p)/\stA s p=some u/\∀v',SV K H v' u->Q v' H
def cSA:List G3.S:=[.set 2 (.v 0),.forT 3 (.v 1) [.set 2 (.ix (.ix (.v 2) (.k (.int 3))) (.v 3))],.ret (.v 2)]
def B8(K:Fg):Sp:=λvs H Q _=>∃(v:V)(cp:Addr)(t u:Tm)(p r:List Nat),vs=[v,.ref cp]/\TmV K H v t/\SqT K H cp (PN p)/\dn t p=some (u,r)/\
 ∀(a c:Addr)(v':V)(H':Hp),Same H H'->SqT K H' a [v',.ref c]->TmV K H' v' u->SqT K H' c (PN r)->Q (.ref a) H'
def JJ(K:Fg)(n:Nat):Sp:=λvs H Q _=>∃(v:V)(m b:Int)(cp:Addr)(s:Stp)(p:List Nat),vs=[v,.int m,.ref cp,.int b]/\SV K H v s/\SOk s/\sl s<=n/\SqT K H cp (PN p)/\p.length+sl s<=1000/\
 ∀(v':V)(H':Hp),Same H H'->TxV K H' v' (stX m b p s)->Q v' H'
structure SsAt(K:Fg)(H:Hp)(ls:Addr)(us:List V)(S:List Stp):Prop where
 l:SqL K H ls us
 a:SAll K H us S
 o:∀s∈S,SOk s/\sl s<=4
theorem SsAt.same{K:Fg}{us:List V}{S:List Stp}(h:SsAt K H ls us S)(g:Same H H'):SsAt K H' ls us S:=⟨g.seq h.l,h.a.mono λ_ _=>g.seqT,h.o⟩
def M4(K:Fg)(n:Nat):Sp:=λvs H Q _=>∃(v:V)(cp ls:Addr)(t:Tm)(p:List Nat)(us:List V)(S:List Stp)(x:TX),vs=[v,.ref cp,.ref ls]/\TmV K H v t/\lv t<=n/\SqT K H cp (PN p)/\p.length<=100/\SsAt K H ls us S/\CallsIn S.length t/\eU (lookS S) (t,p)=some x/\
 ∀(v':V)(H':Hp),Same H H'->TxV K H' v' x->Q v' H'
def cSI:List G3.S:=[.ite (.call 0 [.v 0]) [.ret (.call 1 [.call 2 [.ix (.v 2) (.ix (.v 0) (.k (.int 1))),.v 1],.ix (.v 0) (.k (.int 1)),.v 1,.ix (.v 0) (.k (.int 2))])] [],.ret (.call 3 [.v 0,.comp 2 (.ix (.v 0) (.k (.int 4))) [2] (.call 4 [.v 0,.tup [],.v 1])])]
def nSI(K:Fg)(n:Nat):G3.En:=⟨K,[λ_ vs H Q=>Yk K vs H Q E0,λ_ vs H Q=>JJ K 4 vs H Q E0,λ_ vs H Q=>TD K vs H Q E0,λ_ vs H Q=>M9 K vs H Q E0,λ_ vs H Q=>M4 K n vs H Q E0],[],[],[]⟩
def P3(K:Fg):Sp:=λvs H Q _=>∃(v:V)(cp ls:Addr)(t:Tm)(p:List Nat)(us:List V)(S:List Stp)(x:TX),vs=[v,.ref cp,.ref ls]/\TmV K H v t/\lv t<=4/\SqT K H cp (PN p)/\p.length<=100/\SsAt K H ls us S/\CallsIn S.length t/\eT (lookS S) t p=some x/\sz x<=400/\lv x<=10/\
 ∀(v':V)(H':Hp),Same H H'->TxV K H' v' x->Q v' H'
def P8(S:List Stp)(p:List Nat)(ts:List Tm)(xs:List TX):Prop:=xs.length=ts.length/\∀(i:Nat) t x,ts[i]?=some t->xs[i]?=some x->lv t<=4/\CallsIn S.length t/\eT (lookS S) t p=some x/\sz x<=400/\lv x<=10
def AG(K:Fg):Sp:=λvs H Q _=>∃(tu wd lm ls pp:Addr)(sv:V)(ks:List KdT)(st:Tm)(ms:List MdT)(us:List V)(S:List Stp)(m:Nat)(p:List Nat)(md:MdT)(xs:List TX),vs=[.ref tu,.ref ls,.ref pp]/\TurnD K H tu wd lm sv ks st ms/\SsAt K H ls us S/\PrV K H pp ((m:Int),p)/\p.length<=100/\ms[m]?=some md/\md.2.2.2.2.length<=100/\P8 S p md.2.2.2.2 xs/\
 ∀(p' lr:Addr)(ws:List V)(H':Hp),Same H H'->H' p'=some (.tup [.str md.2.1,.ref lr])->H lr=none->H' lr=some (.lst ws)->TxAll K H' ws xs->Q (.ref p') H'
def cEM:List G3.S:=[.set 3 (.ix (.ix (.v 0) (.k (.int 2))) (.ix (.v 2) (.k (.int 0)))),.ret (.tup [.ix (.v 3) (.k (.int 0)),.comp 1 (.ix (.v 3) (.k (.int 1))) [2,1] (.call 0 [.v 0,.ix (.v 1) (.k (.int 1)),.v 2])])]
def nEM(K:Fg):G3.En:=⟨K,[λ_ vs H Q=>P3 K vs H Q E0],[],[],[]⟩
theorem PV(p:List Nat)(i:Nat):(PN p).drop i=PN (p.drop i):=List.map_drop.symm
theorem VO{p:List Nat}{x:V}(h:(PN p)[i]?=some x):∃k,p[i]?=some k/\x=.int (k:Int)/\p.drop i=k::p.drop (i+1):=by
 rw [aK]at h;obtain⟨k,G,rfl⟩:=cL.mp h;have hi:=(aU.mp G).1;refine⟨k,G,rfl,?_⟩;rw [List.drop_eq_getElem_cons hi];rw [aD hi]at G;rw [aI G]
section
variable{K:Fg}
theorem Cz:FnScope ["stump","place","here","number"] ["stump","place"] (defScope sSA):=(0:)
theorem BB(F:Fun K "stump_at" "stump_at" sSA f fd)(G:Gm mg):FnOk P w K mg base CX0 1 f fd ["stump","place"] (TD K):=by
 refine G3.Fun.okC F Cz (SY K) cSA (λX c=>⟨.nil,.nil,.nil⟩) (7:) (λH vs Q E h=>?_) G.rng
 .obtain⟨v,M,s,u,p,rfl,_⟩:=h
  rfl
 obtain⟨v,M,s,u,p,rfl,hs,hp,hu,q⟩:=h;refine let J_:J3:=(λi σ H'=>∃(y:V)(L:Option V)(z:Stp),σ=[some v,some (.ref M),some y,L]/\H'=H/\SV K H y z/\stA z (p.drop i)=some u);.f (PN p) J_ ⟨v,none,s,rfl,rfl,hs,hu⟩ ?_ ?_ ?_
 .rintro i σ H' _ ⟨_,_,_,_,rfl,_⟩;exact hp
 .rintro i x σ H' hx ⟨y,L,z,rfl,rfl,hz,J⟩;obtain⟨k,hk,rfl,ed⟩:=VO hx;rw [ed]at J;rcases YE hz with⟨a,rfl,rfl,h1⟩ | ⟨a,b,bs,nm,m,ps,rfl,rfl,h1,h2,h3⟩
  .simp [stA]at J
  simp only [stA]at J;obtain⟨w',hw,J⟩:=cI.mp J;obtain⟨U,Y,Z⟩:=h3.get hw;exact .t _ _ h1 rfl<| .t _ U h2 (Qo Y) ⟨U,_,w',rfl,rfl,Z,J⟩
 .rintro σ H' ⟨y,L,z,rfl,rfl,hz,J⟩;rw [fU (by rw [aE];exact aY _),Zk]at J;rw [<-aI J]at q;exact q y hz
theorem Ph:FnScope ["term","place","here","gone","number"] ["term","place"] (defScope sDn):=(0:)
theorem BI(F:Fun K "down_to" "down_to" sDn f fd)(G:Gm mg)(RC:Fn P w K mg base 1 "is_call" ["term"] (Yk K)):FnOk P w K mg base CX0 2 f fd ["term","place"] (B8 K):=by
 refine F.ok Ph (7:) (λag A outer s H vs Q E hr h=>?_)
 .obtain⟨v,U,t,u,p,r,rfl,_⟩:=h
  rfl
 obtain⟨v,U,t,u,p,r,rfl,ht,hp,hu,q⟩:=h;refine⟨_,(Qg (Qz (i:=2) Ph.nd rfl (18:) (pv 0))
  (Qg (QG bV rfl (Lf rfl G.enu (Qa (pv 1) Qc)) (Zp rfl (Qv (Qq (i:=3) Ph.nd rfl (18:)) (Qv (Qq (i:=4) Ph.nd rfl (18:)) Za))) (Qg (QM (QF (Qt RC hr (Qa (pv 2) Qc) (4:))) (Qi (Qn (QE (Qa (pv 2) (Qa (W8 PU (pv 1) (GP (pv 3)) G8) Qc))))) Qr)
  (Qi (Qz (i:=2) Ph.nd rfl (18:) (Qk Qj (Qk Qj (pv 2) Qh (λ_ _=>rfl)) (pv 4) (λ_ _=>rfl))))))
  (Qi (Qn (QE (Qa (pv 2) (Qa (QE Qc) Qc))))))),?_⟩
 refine L2.let2 ?_
 intros
 refine⟨_,rfl,_,rfl,U,_,rfl,hp,?_⟩;refine let J_:J3:=(λi σ H'=>∃(y:V)(Z c4:Option V)(z:Tm),σ=[some v,some (.ref U),some y,Z,c4]/\Same H H'/\TmV K H' y z/\dn z (p.drop i)=some (u,r));WF (xs:=PN p) J_ ⟨v,none,none,t,rfl,λ_ _ e=>e,ht,hu⟩ ?_ ?_ ?_
 .rintro i σ H' _ ⟨_,_,_,_,_,g,_⟩;exact g.seqT hp
 .rintro i x pa σ H' hx aa ⟨y,Z,c4,z,rfl,g,hz,J⟩;obtain⟨k,hk,rfl,ed⟩:=VO hx;have gp:=Qd aa (.tup [.int (i:Int),.int (k:Int)]);refine⟨pa,_,rfl,SqT.of Qb,rfl,_,_,rfl,_,_,rfl,rfl,?_⟩;have L:TmV K _ y z:=hz.mono λ_ _=>gp.seqT;have Y:=g.trans gp;generalize upd H' pa (.tup [.int (i:Int),.int (k:Int)])=H1 at gp L Y ⊢;rcases Ya L with⟨a,m,b,rfl,rfl,h1⟩ | ⟨a,b,bs,nm,kk,ad,rfl,et,h1,h2,h3,h4⟩
  .rw [ed]at J;simp only [Ub,dn]at J;obtain⟨rfl,rfl⟩:=Prod.mk.inj (aI J);refine⟨_,rfl,a,ZD,_,rfl,h1,_,rfl,R1 rfl ⟨_,rfl,_,rfl,_,rfl,_,rfl,U,PN p,rfl,Y.seqT hp,λp1 H2 g2 d2=>⟨(by show 2<=sizeLine;decide),λpr M=>?_⟩⟩⟩;rw [RJ,PV,ed]at d2;have k1:=Qd M (.tup [.ref a,.ref p1]);exact q pr p1 _ _ (Y.trans (g2.trans k1)) (SqT.of Qb) (L.mono λ_ _=>(g2.trans k1).seqT) (k1.seqT d2)
  .refine⟨_,rfl,a,PUT,_,rfl,h1,_,rfl,JD (1:) ?_⟩;rw [ed,et]at J;simp only [dn]at J;obtain⟨t',ab,J⟩:=cI.mp J;obtain⟨cv,ac,ae⟩:=h3.get ab;exact⟨_,rfl,a,_,4,_,rfl,rfl,h1,rfl,_,rfl,b,_,_,cv,rfl,rfl,h2,Qo ac,cv,_,_,t',rfl,Y,ae,J⟩
 .rintro σ H' ⟨y,Z,c4,z,rfl,g,hz,J⟩;rw [fU (by rw [aE];exact aY _),Gg]at J;obtain⟨rfl,rfl⟩:=Prod.mk.inj (aI J);refine⟨_,rfl,(by show 0<=sizeLine;decide),λp0 af=>⟨(by show 2<=sizeLine;decide),λpr M=>?_⟩⟩;have k0:=Qd af (.tup []);have k1:=Qd M (.tup [y,.ref p0]);exact q pr p0 _ _ (g.trans (k0.trans k1)) (SqT.of Qb) (hz.mono λ_ _=>(k0.trans k1).seqT) (k1.seqT (SqT.of Qb))
theorem Sj:FnScope ["stump","mode","place","branch","parts","number","part"] ["stump","mode","place","branch"] (defScope sST):=(0:)
theorem Bx(F:Fun K "stump_term" "stump_term" sST f fd)(G:Gm mg)(RO:Fn P w K mg base 1 "is_open" ["stump"] (K40c.spIsO K))(R:Fn P w K mg base (n+1) "stump_term" ["stump","mode","place","branch"] (JJ K n)):FnOk P w K mg base CX0 (n+2) f fd ["stump","mode","place","branch"] (JJ K (n+1)):=by
 refine F.ok Sj (7:) (λas A outer s H vs Q E hr h=>?_)
 .obtain⟨v,m,b,L,s,p,rfl,_⟩:=h
  rfl
 obtain⟨v,m,br,L,st,p,rfl,hs,M,ag,hp,ah,q⟩:=h;refine⟨_,(Qg (QM (QF (Qt RO hr (Qa (pv 0) Qc) (dH 1 n))) (Qi (Qn (QE (Qa (Zi) (Qa ((QE (Qa (pv 1) (Qa (pv 2) Qc)))) (Qa (pv 3) Qc)))))) Qr)
  (Qg (Qz (i:=4) Sj.nd rfl (18:) (Zs Qc))
  (Qg (QG bV rfl (Lf rfl G.enu (Qa (2:) Qc)) (Zp rfl (Qv (Qq (i:=5) Sj.nd rfl (18:)) (Qv (Qq (i:=6) Sj.nd rfl (18:)) Za)))
   (Qi (Zc (Ua cS fu fw Zo (pv 4) (Qa (Qt R hr (Qa (pv 6) (Qa (pv 1) (Qa (QS Ld (pv 2) (QE (Qa (pv 5) Qc))) (Qa (pv 3) Qc)))) (4:)) Qc)))))
  (Qi (Qn (QE (Qa (Zi) (Qa (2:) (Qa (ZN) (Qa (2:) (Qa (QN Q6 rfl G.tup cK (Qa (pv 4) Qc)) Qc))))))))))),?_⟩
 refine L2.let3 ?_
 intros
 refine⟨_,rfl,v,st,rfl,hs,_,rfl,?_⟩;rcases YE hs with⟨a,rfl,rfl,h1⟩ | ⟨a,b,bs,nm,mk,ps,rfl,rfl,h1,h2,h3⟩
 .refine Zh ⟨_,rfl,_,rfl,(by show 2<=sizeLine;decide),λp0 ai=>⟨_,rfl,(by show 3<=sizeLine;decide),λp1 aj=>?_⟩⟩;have g0:=Qd ai (.tup [.int m,.ref L]);have g1:=Qd aj (.tup [.str ZD,.ref p0,.int br]);exact q _ _ (g0.trans g1) (.call (SqT.of Qb) ⟨L,g1.seqT (SqT.of Qb),(g0.trans g1).seqT hp⟩)
 have ar:=h3.length;simp only [SOk]at M;simp only [sl]at ag ah;refine QT ⟨(by show 0<=sizeLine;decide),λl hl=>?_⟩;have U:=Qd hl (.lst []);refine⟨_,rfl,a,_,3,_,rfl,rfl,U.seqT h1,rfl,b,bs,rfl,U.seqT h2,?_⟩;refine let J_:J3:=(λi σ H'=>∃(ys:List V)(c5 c6:Option V),σ=[some (.ref a),some (.int m),some (.ref L),some (.int br),some (.ref l),c5,c6]/\Same H H'/\H' l=some (.lst ys)/\ys.length=i/\TxAll K H' ys ((ZZ m br p 0 ps).take i));WF (xs:=bs) J_
  ⟨[],none,none,rfl,U,Qb,rfl,.nil⟩ ?_ ?_ ?_
 .rintro i σ H' _ ⟨ys,c1,c2,_,g,_⟩;exact g.seqT h2
 .rintro i v pa σ H' hv ak ⟨ys,c1,c2,rfl,g,Y,ac,J⟩;have hi:i<bs.length:=(aU.mp hv).1;have ad:i<ps.length:=by lia
  have ae:=aD ad;obtain⟨cv,al,am⟩:=h3.get ae;obtain rfl:cv=v:=aI (al.symm.trans hv);have hm:=aQ ad;have a1:=Vr hm;have an:=(ZS ps).mp M.2.2 _ hm;have gp:=Qd ak (.tup [.int (i:Int),cv]);refine⟨pa,_,rfl,SqT.of Qb,rfl,_,_,rfl,_,_,rfl,rfl,?_⟩;have Z:=gp _ _ Y;have gg:=g.trans gp;have aa:TxAll K _ ys _:=J.mono λ_ _=>gp.seqT;generalize upd H' pa (.tup [.int (i:Int),cv])=H1 at gp Z gg aa ⊢;refine⟨_,rfl,.inl ⟨rfl,_,SqL.of Z⟩,_,rfl,_,rfl,_,rfl,_,rfl,(by show 1<=sizeLine;decide),λp2 ao=>?_⟩;have g2:=Qd ao (.tup [.int (i:Int)]);refine⟨L,p2,PN p,[.int (i:Int)],rfl,rfl,(gg.trans g2).seqT hp,SqT.of Qb,by rw [aE];exact ZM (by simp only [cM];lia),λp3 H3 g3 af=>?_⟩;have ep:PN p++[V.int (i:Int)]=PN (p++[i]):=by simp
  rw [ep]at af;have gh:=gg.trans (g2.trans g3);refine⟨_,rfl,cv,m,br,p3,ps[i],p++[i],rfl,am.mono λ_ _=>gh.seqT,an,by lia,af,by rw [aW,cM];lia,λv' H4 g4 ap=>?_⟩;have ab:=(g2.trans (g3.trans g4)) _ _ Z;refine⟨l,ys,_,rfl,rfl,ab,by rw [QD];lia,ys++[v'],_,_,rfl,λx u e=>?_,Qb,by simp [ac],?_⟩
  .rw [Qe (Qf e hl)];exact(gh.trans g4) _ _ e
  .rw [bB,Yv,ae,fi];exact TxAll.append (aa.mono λ_ _ h=>((g2.trans (g3.trans g4)).seqT h).put ab) (.cons (ap.mono λ_ _ h=>h.put ab) .nil)
 .rintro σ H' ⟨ys,c1,c2,rfl,g,Y,ac,J⟩;rw [bH (by rw [JN];lia)]at J;refine⟨_,rfl,a,_,1,_,rfl,rfl,g.seqT h1,rfl,_,rfl,a,_,2,_,rfl,rfl,g.seqT h1,rfl,_,rfl,l,ys,rfl,.inl ⟨SqL.of Y,λt ht=>⟨(by show 5<=sizeLine;decide),λpr aq=>?_⟩⟩⟩;have g1:=Qd ht (.tup ys);have g2:=Qd aq (.tup [.str PUT,.str nm,.bl false,.int mk,.ref t]);refine q (.ref pr) _ (g.trans (g1.trans g2)) ?_;simp only [stX];exact .put (SqT.of Qb) (g2.seqT (SqT.of Qb)) (J.mono λ_ _=>(g1.trans g2).seqT) (by have:=M.2.1;lia)
theorem C7:FnScope ["term","place","stumps"] ["term","place","stumps"] (defScope sSI):=(0:)
theorem Be(F:Fun K "stumps_in" "stumps_in" sSI f fd)(G:Gm mg)(RC:Fn P w K mg base 1 "is_call" ["term"] (Yk K))(RT:Fn P w K mg base 5 "stump_term" ["stump","mode","place","branch"] (JJ K 4))(RA:Fn P w K mg base 1 "stump_at" ["stump","place"] (TD K))(RW:Fn P w K mg base 1 "with_parts" ["term","parts"] (M9 K))(R:Fn P w K mg base (n+5) "stumps_in" ["term","place","stumps"] (M4 K n)):FnOk P w K mg base CX0 (n+6) f fd ["term","place","stumps"] (M4 K (n+1)):=by
 refine G3.Fun.okC F C7 (nSI K n) cSI (λX c=>⟨.cons (c.fn RC (5:)) (.cons (c.fn RT (5:)) (.cons (c.fn RA (5:)) (.cons (c.fn RW (5:)) (.cons (c.fn R (4:)) .nil)))),.nil,.nil⟩) (7:) (λH vs Q E h=>?_) G.rng
 .obtain⟨v,cp,ls,t,p,us,S,x,rfl,_⟩:=h
  rfl
 obtain⟨v,cp,ls,t,p,us,S,x,rfl,ht,aa,hp,ah,Y,J,L,q⟩:=h;rcases Ya ht with⟨a,m,b,rfl,rfl,h1⟩ | ⟨a,b,bs,nm,k,ad,rfl,et,h1,h2,h3,h4⟩
 .simp only [Ub,eU]at L;obtain⟨s,hs,rfl⟩:=cL.mp L;obtain⟨m0,m1⟩:=J (m,b) (by simp [Ub,cls,lcl]);have m1:m.toNat<S.length:=m1;have m0:0<=m:=m0;have es:S[m.toNat]?=some (lookS S m):=by
   unfold lookS;rw [aD m1];rfl
  obtain⟨sv,ab,ac⟩:=Y.a.get es;obtain⟨o1,o2⟩:=Y.o _ (aL es);have z1:=VP hs;have ok:SOk s:=by
   have:∀(p:List Nat)(a b:Stp),SOk a->stA a p=some b->SOk b:=λp=>by
    induction p with
    | nil=>intro a b h e;rw [Zk]at e;rw [<-aI e];exact h
    | cons i r ih=>
     intro a b h e;cases a with
     | op=>simp [stA]at e
     | put n m ps=>
      simp only [stA]at e;obtain⟨c,J,e⟩:=cI.mp e;simp only [SOk]at h;exact ih c b ((ZS ps).mp h.2.2 c (aL J)) e
   exact this p _ _ o1 hs
  refine⟨a,ZD,_,rfl,h1,.t _ _ h1 rfl<| .l _ sv Y.l (by rw [<-eE m0];exact Qo ab) ⟨sv,cp,_,s,p,rfl,ac,hp,hs,λv' M=>.t _ _ h1 rfl<| .t _ _ h1 rfl ⟨v',m,b,cp,s,p,rfl,M,ok,by lia,hp,by lia,q⟩⟩⟩
 refine⟨a,PUT,_,rfl,h1,?_⟩;have ag:=h3.length;rw [lv_bs]at aa;rw [et]at J L;simp only [eU]at L;refine .t _ _ h1 rfl<| .t bs h2<|let J_:JC:=(λi ys H1=>ys.length=i/\TxAll K H1 ys ((t.bs.take i).map (sin (lookS S))));.s J_ (λH1 g=>⟨rfl,.nil⟩) (λacc i ys l H1 H2 h _ _ _ k=>⟨h.1,h.2.mono k⟩) (5:) (λi ys H1 hi _ g h=>?_) λp ys H1 g hp h=>?_
 .have U:=aD (show i<t.bs.length by lia);obtain⟨cv,ae,af⟩:=h3.get U;have ex:(bs[i]?).getD .non=cv:=by rw [ae];rfl
  rw [ex];have hm:=aL U;have:=ZL hm;refine⟨λp1 H2 g2 d2 _=>⟨cv,p1,ls,_,[],us,S,_,rfl,af.mono λ_ _=>(g.trans g2).seqT,by lia,d2,by decide,Y.same (g.trans g2),J.bs _ hm,Tv _ _,λv' H3 g3 M=>⟨g2.trans g3,by simp [h.1],?_⟩⟩⟩;rw [bB,U,aP];exact TxAll.append (h.2.mono λ_ _=>(g2.trans g3).seqT) (.cons M .nil)
 obtain⟨hl,Z⟩:=h;rw [bH (5:)]at Z;refine⟨a,p,ys,_,_,_,_,_,rfl,g.seqT h1,SqL.of hp,λp' b' H2 g2 d1 d2=>q _ H2 (g.trans g2) ?_⟩;rw [<-aI L];simp only [sin];rw [Y1];exact .put d1 d2 (Z.mono λ_ _=>g2.seqT) (5:)
theorem TY:FnScope ["term","place","stumps","found","told"] ["term","place","stumps"] (defScope sET):=(0:)
theorem AN(F:Fun K "early_term" "early_term" sET f fd){ts tl:Tok}(hS4:mg "MOST_SIZE"=some (.int 400 ts))(hL6:mg "MOST_LEVELS"=some (.int 60 tl))(RD:Fn P w K mg base 2 "down_to" ["term","place"] (B8 K))(RI:Fn P w K mg base 9 "stumps_in" ["term","place","stumps"] (M4 K 4))(RZ:Fn P w K mg base 11 "term_size" ["term"] (OE K 10))(RL:Fn P w K mg base 11 "term_levels" ["term"] (Pb K 10)):FnOk P w K mg base CX0 12 f fd ["term","place","stumps"] (P3 K):=by
 refine F.ok TY (7:) (λaf A outer s H vs Q E J h=>?_)
 .obtain⟨v,Y,Z,t,p,us,S,x,rfl,_⟩:=h
  rfl
 obtain⟨v,Y,Z,t,p,us,S,x,rfl,ht,ag,hp,ah,hS,hc,L,hz,hl,q⟩:=h;have aa:Room 2 _:=J.mono (12:);have ab:Room 9 _:=J.mono (12:);refine⟨_,(Qg (Qz (i:=3) TY.nd rfl (18:) (Qt RD aa (Qa (pv 0) (Qa (pv 1) Qc))))
  (Qg (Qz (i:=4) TY.nd rfl (18:) (Qt RI ab (Qa (Qk Qj (pv 3) Qh (λ_ _=>rfl)) (Qa (Qk Qj (pv 3) Qh (λ_ _=>rfl)) (Qa (pv 2) Qc)))))
  (Qg (QM (Qw GZ (Qt RZ J (Qa (pv 4) Qc)) (Uf (v:=.int 400) rfl hS4 ⟨_,rfl⟩) (QA _)) Um Qr)
  (Qg (QM (Qw GZ (Qt RL J (Qa (pv 4) Qc)) (Uf (v:=.int 60) rfl hL6 ⟨_,rfl⟩) (QA _)) Um Qr)
  (Qi (Qn (pv 4))))))),?_⟩
 refine L2.let4 ?_
 intros
 unfold eT at L;obtain⟨⟨u,r⟩,hd,L⟩:=cI.mp L;obtain⟨ac,ai,aj⟩:=SH hd hc;refine⟨_,rfl,_,rfl,v,Y,t,u,p,r,rfl,ht,hp,hd,λa c v' H1 g1 d1 ad ae=>?_⟩;refine⟨_,rfl,a,_,0,_,rfl,rfl,d1,rfl,_,rfl,a,_,1,_,rfl,rfl,d1,rfl,_,rfl,v',c,Z,u,r,us,S,x,rfl,ad,by lia,ae,by lia,hS.same g1,ac,L,λM H2 g2 G=>?_⟩;refine⟨_,rfl,M,x,rfl,G,hl,λH3 U=>⟨_,_,rfl,rfl,_,rfl,JD (5:) ?_⟩⟩;refine⟨_,rfl,M,x,rfl,G.mono λ_ _=>U.seqT,hl,λH4 g4=>⟨_,_,rfl,rfl,_,rfl,JD (5:) ?_⟩⟩;exact⟨_,rfl,q M H4 (g1.trans (g2.trans (U.trans g4))) (G.mono λ_ _=>(U.trans g4).seqT)⟩
theorem CD:FnScope ["turning","stumps","pair","mode"] ["turning","stumps","pair"] (defScope sEM):=(0:)
theorem AJ(F:Fun K "early_mode" "early_mode" sEM f fd)(G:Gm mg)(RT:Fn P w K mg base 12 "early_term" ["term","place","stumps"] (P3 K)):FnOk P w K mg base CX0 13 f fd ["turning","stumps","pair"] (AG K):=by
 refine G3.Fun.okC F CD (nEM K) cEM (λX c=>⟨.cons (c.fn RT (4:)) .nil,.nil,.nil⟩) (7:) (λH vs Q E h=>?_) G.rng
 .obtain⟨tu,wd,lm,ls,pp,sv,ks,st,ms,us,S,m,p,md,xs,rfl,_⟩:=h
  rfl
 obtain⟨tu,wd,lm,ls,pp,sv,ks,st,ms,us,S,m,p,md,xs,rfl,Y,hS,⟨c,M,aa⟩,ab,hm,ag,hE,q⟩:=h;obtain⟨Z,d2,d3⟩:=Y.m.2 md (aL hm);have af:=d3.length;refine .t _ _ Y.tu rfl<| .t _ _ M rfl<| .l _ (.ref md.1) Y.m.1 (Qo (by rw [aK,hm];rfl))<| .t _ _ Z rfl<| .t _ _ Z rfl<| .l _ d2<|let J_:JA:=(λacc i ys H1=>Same H H1/\H1 acc=some (.lst ys)/\ys.length=i/\TxAll K H1 ys (xs.take i));.m J_ (5:) (λacc H1 L g e=>⟨g,e,rfl,.nil⟩) (λacc i ys H1 h=>h.1.seq d2) (λacc i ys H1 hi _ L ⟨g,e,U,J⟩=>?_) λacc ys H1 L ⟨g,e,U,J⟩=>?_
 .have hc:=aD (show i<md.2.2.2.2.length by lia);have hx:=aD (show i<xs.length by have:=hE.1;lia);obtain⟨cv,ac,ad⟩:=d3.get hc;have ex:(md.2.2.2.1[i]?).getD .non=cv:=by rw [ac];rfl
  rw [ex];obtain⟨e1,e2,e3,e4,e5⟩:=hE.2 i _ _ hc hx;refine .t _ _ (g.seqT M) rfl ⟨cv,c,ls,_,p,us,S,_,rfl,ad.mono λ_ _=>g.seqT,e1,g.seqT aa,ab,hS.same g,e2,e3,e4,e5,λv' H2 g2 ae=>⟨g2 _ _ e,λb u eb=>?_,Qb,by simp [U],?_⟩⟩
  .rw [Qe (Qf eb L)];exact g2 _ _ (g _ _ eb)
  rw [bB,hx];exact TxAll.append (J.mono λ_ _ h=>(g2.seqT h).put (g2 _ _ e)) (.cons (ae.mono λ_ _ h=>h.put (g2 _ _ e)) .nil)
 rw [bH (by have:=hE.1;lia)]at J;exact⟨λp' X1 k1 Z e1=>q p' acc ys X1 (g.trans k1) e1 L (k1 _ _ e) (J.mono λ_ _=>k1.seqT)⟩
end
abbrev lSt:List Str:=["_law_stump","_law_mode","_law_place","_law_branch"]
def C6:List G3.S:=[.ite (.cmp .Eq (.ix (.v 0) (.k (.int 0))) (.k (.str "open"))) [.ret (.tup [.k (.str "call"),.tup [.v 1,.v 2],.v 3])] [],.setC 4 (.comp 0 (.call 1 [.ix (.v 0) (.k (.int 3))]) [3,1,2,0] (.call 0 [.ix (.ix (.v 4) (.k (.int 3))) (.v 0),.v 2,.bin .Add (.v 3) (.tup [.v 0]),.v 1])),.ret (.tup [.k (.str "put"),.ix (.v 0) (.k (.int 1)),.k (.bl false),.ix (.v 0) (.k (.int 2)),.call 2 [.v 4]])]
def C4(K:Fg)(n:Nat):G3.En:=⟨K,[λ_ vs H Q=>JJ K n vs H Q E0,λ_ vs H Q=>G3.rLen K vs H Q,λ_ vs H Q=>G3.rTupOf K vs H Q],[],[],[]⟩
def XO(K:Fg)(n:Nat):Sp:=λvs H Q _=>∃(v:V)(ls:Addr)(t:Tm)(us:List V)(S:List Stp),vs=[v,.ref ls]/\TmV K H v t/\lv t<=n/\SsAt K H ls us S/\CallsIn S.length t/\∀(v':V)(H':Hp),Same H H'->TxV K H' v' (sin (lookS S) t)->Q v' H'
def Dg:List G3.S:=[.ite (.cmp .Eq (.ix (.v 0) (.k (.int 0))) (.k (.str "call"))) [.ret (.call 0 [.ix (.v 1) (.ix (.v 0) (.k (.int 1))),.ix (.v 0) (.k (.int 1)),.tup [],.ix (.v 0) (.k (.int 2))])] [],.ret (.tup [.k (.str "put"),.ix (.v 0) (.k (.int 1)),.ix (.v 0) (.k (.int 2)),.ix (.v 0) (.k (.int 3)),.call 1 [.comp 2 (.ix (.v 0) (.k (.int 4))) [1] (.call 2 [.v 0,.v 1])]])]
def Cu(K:Fg)(n:Nat):G3.En:=⟨K,[λ_ vs H Q=>JJ K 4 vs H Q E0,λ_ vs H Q=>G3.rTupOf K vs H Q,λ_ vs H Q=>XO K n vs H Q E0],[],[],[]⟩
def blX:TX->List Nat->Option TX
 | x,[]=>some x
 | .node (.call _ _) _ _,_::_=>none
 | .node (.put _ _ _) _ bs,i::r=>(bs[i]?).bind λt=>blX t r
theorem Wd(x:TX):blX x []=some x:=by obtain⟨l,z,bs⟩:=x;cases l<;>rfl
theorem Om{m b:Int}:∀{p q:List Nat}{s u:Stp},stA s p=some u->blX (stX m b q s) p=some (stX m b (q++p) u)
 | [],q,s,u,h=>by
  rw [Zk]at h;rw [aI h,Wd,dG]
 | i::p,q,.op,u,h=>by simp [stA]at h
 | i::p,q,.put n a ps,u,h=>by
  simp only [stA]at h;obtain⟨y,G,J⟩:=cI.mp h;simp only [stX,blX,Yv,G,gw,e_,fi];rw [Om J,dE];rfl
theorem Ou{S:Int->Stp}:∀{p:List Nat}{t:Tm}{x:TX},eT S t p=some x->blX (sin S t) p=some x
 | [],t,x,h=>by rw [Z3]at h;rw [Wd];exact h
 | i::p,.node (.call m b) z bs,x,h=>by
  rw [Ui]at h;obtain⟨s,G,rfl⟩:=cL.mp h;simp only [sin];exact Om G
 | i::p,.node (.put n k a) z bs,x,h=>by
  rw [JT]at h;obtain⟨t,J,L⟩:=cI.mp h;simp only [sin,blX,Y1,aK,J,gw,e_];exact Ou L
def O2(K:Fg):Sp:=λvs H Q _=>∃(v:V)(cp:Addr)(x y:TX)(p:List Nat),vs=[v,.ref cp]/\TxV K H v x/\SqT K H cp (PN p)/\blX x p=some y/\∀v',TxV K H v' y->Q v' H
def C2:List G3.S:=[.forT 2 (.v 1) [.set 0 (.ix (.ix (.v 0) (.k (.int 4))) (.v 2))],.ret (.v 0)]
section
variable{K:Fg}
theorem B6:FnScope ["_law_stump","_law_mode","_law_place","_law_branch","_law_parts"] lSt (defScope Ar):=(0:)
theorem Th(F:Fun K "_law_in_stump" "_law_in_stump" Ar f fd)(G:Gm mg)(R:Fn P w K mg base (n+1) "_law_in_stump" lSt (JJ K n)):FnOk P w K mg base CX0 (n+2) f fd lSt (JJ K (n+1)):=by
 refine G3.Fun.okC F B6 (C4 K n) C6 (λX c=>⟨.cons (c.fn R (4:)) (.cons (c.blt (λX=>G3.call_len X) G.len bO) (.cons (c.ty (λ_=>G3.call_tupOf) G.tup cK) .nil)),.nil,.nil⟩) (7:) (λH vs Q E h=>?_) G.rng
 .obtain⟨v,m,b,cp,s,p,rfl,_⟩:=h
  rfl
 obtain⟨v,m,br,cp,st,p,rfl,hs,J,aa,hp,ab,q⟩:=h;rcases YE hs with⟨a,rfl,rfl,h1⟩ | ⟨a,b,bs,nm,mk,ps,rfl,rfl,h1,h2,h3⟩
 .exact .t _ _ h1 rfl ⟨λp0 X0 k0 d0 _=>⟨λp1 X1 k1 d1 _=>q _ X1 (k0.trans k1) (.call d1 ⟨cp,k1.seqT d0,(k0.trans k1).seqT hp⟩)⟩⟩
 have af:=h3.length;simp only [SOk]at J;simp only [sl]at aa ab;refine .t _ _ h1 rfl<| .t _ _ h1 rfl<| .t bs h2 ⟨⟨by lia,by lia⟩,let J_:JC:=(λi ys H1=>ys.length=i/\TxAll K H1 ys ((ZZ m br p 0 ps).take i));.s J_ (λH1 g=>⟨rfl,.nil⟩) (λacc i ys l H1 H2 h _ _ _ k=>⟨h.1,h.2.mono k⟩) (5:) (λi ys H1 hi _ g h=>?_) λl ys H1 g hl h=>?_⟩
 .have U:i<ps.length:=by lia
  have Y:=aD U;obtain⟨cv,ac,ad⟩:=h3.get Y;have hm:=aQ U;have a1:=Vr hm;refine .t _ _ (g.seqT h1) rfl<| .t bs cv (g.seqT h2) (Qo ac) ⟨λp2 H2 g2 d2 _=>.a _ _ ((g.trans g2).seqT hp) d2 (ZM (by rw [aE,cM];lia)) λp3 H3 L M=>?_⟩;have ep:PN p++[V.int (i:Int)]=PN (p++[i]):=by simp
  rw [ep]at M;have gh:=g2.trans L;refine⟨cv,m,br,p3,ps[i],p++[i],rfl,ad.mono λ_ _=>(g.trans gh).seqT,(ZS ps).mp J.2.2 _ hm,by lia,M,by rw [aW,cM];lia,λv' H4 g4 ae=>⟨gh.trans g4,by simp [h.1],?_⟩⟩;rw [bB,Yv,Y,fi];exact TxAll.append (h.2.mono λ_ _=>(gh.trans g4).seqT) (.cons ae .nil)
 obtain⟨ag,Z⟩:=h;rw [bH (by rw [JN];lia)]at Z;refine .t _ _ (g.seqT h1) rfl<| .t _ _ (g.seqT h1) rfl<| .l ys (SqL.of hl) λpt H2 g2 d2=>⟨λpr H3 L M _=>q _ H3 (g.trans (g2.trans L)) ?_⟩;simp only [stX];exact .put M (L.seqT d2) (Z.mono λ_ _=>(g2.trans L).seqT) (by have:=J.2.1;lia)
theorem BC:FnScope ["_law_term_here","_law_stumps"] ["_law_term_here","_law_stumps"] (defScope T6):=(0:)
theorem Av(F:Fun K "_law_filled" "_law_filled" T6 f fd)(G:Gm mg)(RT:Fn P w K mg base 5 "_law_in_stump" lSt (JJ K 4))(R:Fn P w K mg base (n+5) "_law_filled" ["_law_term_here","_law_stumps"] (XO K n)):FnOk P w K mg base CX0 (n+6) f fd ["_law_term_here","_law_stumps"] (XO K (n+1)):=by
 refine G3.Fun.okC F BC (Cu K n) Dg (λX c=>⟨.cons (c.fn RT (5:)) (.cons (c.ty (λ_=>G3.call_tupOf) G.tup cK) (.cons (c.fn R (4:)) .nil)),.nil,.nil⟩) (7:) (λH vs Q E h=>?_) G.rng
 .obtain⟨v,ls,t,us,S,rfl,_⟩:=h
  rfl
 obtain⟨v,ls,t,us,S,rfl,ht,aa,M,Y,q⟩:=h;rcases Ya ht with⟨a,m,b,rfl,rfl,h1⟩ | ⟨a,b,bs,nm,k,ad,rfl,et,h1,h2,h3,h4⟩
 .obtain⟨m0,Z⟩:=Y (m,b) (by simp [Ub,cls,lcl]);have Z:m.toNat<S.length:=Z;have m0:0<=m:=m0;have es:S[m.toNat]?=some (lookS S m):=by
   unfold lookS;rw [aD Z];rfl
  obtain⟨sv,ab,ac⟩:=M.a.get es;obtain⟨o1,o2⟩:=M.o _ (aL es);refine .t _ _ h1 rfl<| .t _ _ h1 rfl<| .l _ sv M.l (by rw [<-eE m0];exact Qo ab)<| .t _ _ h1 rfl ⟨λp0 H1 g1 d1 _=>.t _ _ (g1.seqT h1) rfl ⟨sv,m,b,p0,_,[],rfl,ac.mono λ_ _=>g1.seqT,o1,o2,d1,by simp;lia,λv' H2 g2 hv=>q v' H2 (g1.trans g2) hv⟩⟩
 have ah:=h3.length;rw [lv_bs]at aa;rw [et]at Y q;refine .t _ _ h1 rfl<| .t _ _ h1 rfl<| .t _ _ h1 rfl<| .t _ _ h1 rfl<| .t _ _ h1 rfl<| .t bs h2<|let J_:JC:=(λi ys H1=>ys.length=i/\TxAll K H1 ys ((t.bs.take i).map (sin (lookS S))));.s J_ (λH1 g=>⟨rfl,.nil⟩) (λacc i ys l H1 H2 h _ _ _ k=>⟨h.1,h.2.mono k⟩) (5:) (λi ys H1 hi _ g h=>?_) λp ys H1 g hp h=>?_
 .have L:=aD (show i<t.bs.length by lia);obtain⟨cv,ae,af⟩:=h3.get L;have ex:(bs[i]?).getD .non=cv:=by rw [ae];rfl
  rw [ex];have hm:=aL L;have:=ZL hm;refine⟨cv,ls,_,us,S,rfl,af.mono λ_ _=>g.seqT,by lia,M.same g,Y.bs _ hm,λv' H3 J ag=>⟨J,by simp [h.1],?_⟩⟩;rw [bB,L,aP];exact TxAll.append (h.2.mono λ_ _=>J.seqT) (.cons ag .nil)
 obtain⟨hl,U⟩:=h;rw [bH (5:)]at U;refine .l ys (SqL.of hp) λpt H2 g2 d2=>⟨λpr H3 J d3 _=>q _ H3 (g.trans (g2.trans J)) ?_⟩;simp only [sin];rw [Y1];exact .put d3 (J.seqT d2) (U.mono λ_ _=>(g2.trans J).seqT) (5:)
theorem BH:FnScope ["_law_term_here","_law_place","_law_k"] ["_law_term_here","_law_place"] (defScope To):=(0:)
theorem TQ(F:Fun K "_law_below" "_law_below" To f fd)(G:Gm mg):FnOk P w K mg base CX0 1 f fd ["_law_term_here","_law_place"] (O2 K):=by
 refine G3.Fun.okC F BH (SY K) C2 (λX c=>⟨.nil,.nil,.nil⟩) (7:) (λH vs Q E h=>?_) G.rng
 .obtain⟨v,M,x,y,p,rfl,_⟩:=h
  rfl
 obtain⟨v,M,x,y,p,rfl,hs,hp,hu,q⟩:=h;refine let J_:J3:=(λi σ H'=>∃(u:V)(L:Option V)(z:TX),σ=[some u,some (.ref M),L]/\H'=H/\TxV K H u z/\blX z (p.drop i)=some y);.f (PN p) J_ ⟨v,none,x,rfl,rfl,hs,hu⟩ ?_ ?_ ?_
 .rintro i σ H' _ ⟨_,_,_,_,rfl,_⟩;exact hp
 .rintro i o σ H' hx ⟨u,L,z,rfl,rfl,hz,J⟩;obtain⟨k,hk,rfl,ed⟩:=VO hx;rw [ed]at J;rcases YC hz with⟨a,p1,q1,b,rfl,rfl,h1,h2⟩ | ⟨a,b,bs,nm,kk,ad,rfl,et,h1,h2,h3,h4⟩
  .simp [blX]at J
  rw [et]at J;simp only [blX]at J;obtain⟨w',hw,J⟩:=cI.mp J;obtain⟨U,Y,Z⟩:=h3.get hw;exact .t _ _ h1 rfl<| .t _ U h2 (Qo Y) ⟨U,_,w',rfl,rfl,Z,J⟩
 .rintro σ H' ⟨u,L,z,rfl,rfl,hz,J⟩;rw [fU (by rw [aE];exact aY _),Wd]at J;rw [<-aI J]at q;exact q u hz
end
theorem N0(p q:Ky):PyData.eqv (kD p) (kD q)=decide (p=q):=by
 by_cases h:p=q
 .rw [h,bK rfl];exact ZH _ (Yp 6 (Yi q)).1
 .rw [bN h];cases e:PyData.eqv (kD p) (kD q)with
  | false=>rfl
  | true=>exact absurd (Nv (Gw 6 (Yi p) (Yi q) e)) h
theorem VY(ps:List Ky):PyData.canLayAll0 (ps.map kD)=true:=(Wp (n:=6) (Yp 6) λd G=>by
 obtain⟨q,_,rfl⟩:=aJ.mp G;exact Yi q).1
theorem T3(ps:List Ky)(p:Ky):((ps.map kD).any λy=>PyData.eqv y (kD p))=decide (p∈ps):=by
 induction ps with
 | nil=>simp
 | cons q r G=>
  rw [aS,fg,G,N0]
  by_cases h:q=p
  .simp [h]
  .have h':¬p=q:=λz=>h z.symm;simp [h,h']
theorem XT{p:Ky}:∀{l:List Ky},p∈l->l[l.idxOf p]?=some p/\∀i,i<l.idxOf p->l[i]?≠some p
 | [],h=>(nomatch h)
 | q::r,h=>by
  by_cases e:q=p
  .rw [e,List.idxOf_cons_self];exact⟨rfl,λi hi=>absurd hi (Nat.not_lt_zero _)⟩
  .have G:(q==p)=false:=by simpa using e
   rw [List.idxOf_cons,G,cond_false];obtain⟨a,b⟩:=XT (l:=r) ((aM.mp h).resolve_left λz=>e z.symm);refine⟨by simpa using a,λi hi=>?_⟩;cases i with
   | zero=>intro z;exact e (aI z)
   | succ i=>simpa using b i (5:)
theorem S4{p:Ky}{ps r:List Ky}(h:p∈ps):ixP (ps++r) p=ixP ps p:=by
 unfold ixP;rw [List.idxOf_append,aG h]
abbrev TsP:=List (Addr×Ky)
def PsK(K:Fg)(H:Hp)(ts:TsP):Prop:=∀t∈ts,PrV K H t.1 t.2
abbrev rfP(ts:TsP):List V:=ts.map λt=>V.ref t.1
theorem PsK.mono{K:Fg}{ts:TsP}(k:∀a xs,SqT K H a xs->SqT K H' a xs)(h:PsK K H ts):PsK K H' ts:=λt G=>(h t G).mono k
theorem VR{K:Fg}:∀{ts:TsP},PsK K H ts->RdAll K H (rfP ts) ((ts.map (·.2)).map kD)
 | [],_=>.nil
 | t::r,h=>.cons (h t aR).rd (VR λu G=>h u (23:))
inductive NotInK(K:Fg)(a l:Addr)(H:Hp)(Q:VK):Prop where
 | n (p:Ky) (ts:TsP) (ha:PrV K H a p) (hl:SqL K H l (rfP ts)) (ht:PsK K H ts) (q:Q (.bl (!decide (p∈ts.map (·.2)))) H):NotInK K a l H Q
def Wc(K:Fg):R2:=λx y H Q=>match x,y with
 | .ref a,.ref l=>NotInK K a l H Q
 | _,_=>False
inductive IdxK(K:Fg)(a l:Addr)(H:Hp)(Q:VK):Prop where
 | i (p:Ky) (ts:TsP) (ha:PrV K H a p) (hl:H l=some (.lst (rfP ts))) (ht:PsK K H ts) (hz:ts.length<=1000) (hp:p∈ts.map (·.2)) (q:Q (.int (ixP (ts.map (·.2)) p)) H):IdxK K a l H Q
def BY(K:Fg):G3.Mr:=⟨tyV K "list",λx vs H Q=>match x,vs with
 | .ref l,[.ref a]=>IdxK K a l H Q
 | _,_=>False⟩
theorem Nu(p:Ky)(n:Nat):min n (kD p).depth<=7:=bT (Nat.min_le_right _ _) (Yp 6 (Yi p)).2
theorem Gy{k:Nat}(X:Cx)(hr:Room k X.A):G3.NodeOk X (G3.shCmp .NotIn) (G3.on2 (Wc X.K)):=.cmp λpins s σ H x y v u Q I G J h=>by
 have:=hr.un;unfold Wc at h;split at h
 .cases h with
  | n p L M U Y q=>
   obtain⟨as,Z⟩:=M.rd.reads I G;obtain⟨bs,q2⟩:=(RdV.lst U (VR Y)).reads I J;refine SeqAt.notIn_list_reads q2 Z (VY _) (Yp 6 (Yi p)).1 ?_ ⟨.bl _,H,I,rfl,by rw [T3];exact q⟩;have:=Nu p (PyData.depthAll (List.map kD (L.map (·.2))));lia
 .exact h.elim
theorem Oo{k:Nat}(X:Cx)(hr:Room k X.A):G3.MethOk X "index" (BY X.K):=.bm cS PySem.F.slot_list_index PySem.F.type_list_index λpins s σ H x vs v us Q I rx rv h=>by
 have:=hr.un;split at h
 .cases h with
  | i p G ha hH ht hz hp q=>
   rename_i l a;obtain⟨J,L⟩:=XT hp;generalize Y:(G.map (·.2)).idxOf p=j at J L;unfold ixP at q;rw [Y]at q;cases rx;obtain⟨u,rfl,ru⟩:=rv.one;obtain⟨z,its,n,r,hl,e⟩:=I.lstM hH;obtain⟨as,q1⟩:=ha.rd.reads I ru;obtain⟨bs,Z⟩:=(VR ht).reads I r;rw [aE]at hl;have M:j<its.length:=by have:=(aU.mp J).1;rw [aE]at this;lia
   have U:=SeqAt.readsAll_map _ _ _ (VY (G.map (·.2))) Z;have get:∀(i:Nat)(h:i<its.length),SeqAt.readOf s.heap its[i]=kD ((G.map (·.2))[i]'(17:)):=λi h=>by
    have h1:=congrArg (λl:List PyData=>l[i]?) U;simp only [aK,aD h]at h1;rw [aD (5:)]at h1;have h1:=aI h1;rw [h1];simp
   refine call_meets F.slot_list_index ⟨_,e,rfl⟩ F.entry_list_index (F.args_list_index_2 _ _) (SeqAt.list_indexAt l its.toArray n none #[] u (λy=>PyData.eqv (SeqAt.readOf s.heap y) (kD p)) j (by simpa using M) (5:) ?_ (λi hi aa=>?_)) ⟨e,λy hy=>?_,?_⟩
   .have:=get j M;simp only [List.getElem_toArray,this,N0];rw [aD (17:)]at J;exact bK (aI J)
   .have ab:i<its.length:=by simpa using hi
    have:=get i ab;simp only [List.getElem_toArray,this,N0];have h2:=L i aa;rw [aD (17:)]at h2;exact bN λz=>h2 (by rw [z])
   .refine SeqAt.items_eqAt (vs:=its.toArray) (xs:=(G.map (·.2)).map kD) (by show ReadsAll s.heap its _ _;exact Z) q1 (VY _) (Yp 6 (Yi p)).1 ?_ y hy;have:=Nu p (PyData.depthAll (List.map kD (G.map (·.2))));lia
   .exact⟨.int j,H,I.tok _,⟨_,rfl⟩,q⟩
 .exact h.elim
theorem Bg{X:Cx}{P:Program}{w:World}{K:Fg}{mg:Str->Option Value}{base:Heap}{k:Nat}(c:G3.Cxt X P w K mg base k){x:Str}{r:Fg->G3.Mr}(h:∀X:Cx,Room k X.A->G3.MethOk X x (r X.K)):G3.MethOk X x (r K):=by
 obtain⟨rfl,rfl,rfl,rfl,rfl,G,J⟩:=c;exact h X G
theorem Zt{K:Fg}{H H':Hp}{l:Addr}{ys:List V}(h:H l=some (.lst ys))(g:SameX l H H'):∀a xs,SqT K H a xs->SqT K H' a xs:=λa xs q=>by
 rcases q with(q | ⟨o,q⟩) | q
 .exact .inl (.inl (g _ _ (QB q h (14:)) q))
 .exact .inl (.inr ⟨o,g _ _ (QB q h (14:)) q⟩)
 .exact .inr q
structure PrsAt(K:Fg)(H:Hp)(lp:Addr)(ps:List Ky)(ts:TsP):Prop where
 l:H lp=some (.lst (rfP ts))
 p:PsK K H ts
 e:ts.map (·.2)=ps
def XE(K:Fg)(n:Nat):Sp:=λvs H Q _=>∃(v:V)(lp:Addr)(t:TX)(ps:List Ky)(ts:TsP),vs=[v,.ref lp]/\TxV K H v t/\lv t<=n/\PrsAt K H lp ps ts/\(Qp ps ((clX t).map (·.1))).length<=1000/\
 ∀(v':V)(ts':TsP)(H':Hp),SameX lp H H'->PrsAt K H' lp (Qp ps ((clX t).map (·.1))) ts'->(∀r,TmV K H' v' (mpX (ixP (Qp ps ((clX t).map (·.1))++r)) t))->Q v' H'
def CN:List G3.S:=[.ite (.cmp .Eq (.ix (.v 0) (.k (.int 0))) (.k (.str "call"))) [.cut (.ite (.nd 0 [.ix (.v 0) (.k (.int 1)),.v 1]) [.ex (.meth 0 (.v 1) [.ix (.v 0) (.k (.int 1))])] []),.ret (.tup [.k (.str "call"),.meth 1 (.v 1) [.ix (.v 0) (.k (.int 1))],.ix (.v 0) (.k (.int 2))])] [],.ret (.tup [.k (.str "put"),.ix (.v 0) (.k (.int 1)),.ix (.v 0) (.k (.int 2)),.ix (.v 0) (.k (.int 3)),.call 1 [.comp 2 (.ix (.v 0) (.k (.int 4))) [1] (.call 0 [.v 0,.v 1])]])]
def Cl(K:Fg)(n:Nat):G3.En:=⟨K,[λ_ vs H Q=>XE K n vs H Q E0,λ_ vs H Q=>G3.rTupOf K vs H Q],[G3.mApp K,BY K],[G3.on2 (Wc K)],[]⟩
section
variable{K:Fg}
theorem BZ:FnScope ["_law_term_here","_law_pairs"] ["_law_term_here","_law_pairs"] (defScope Aj):=(0:)
theorem Ai(F:Fun K "_law_numbered" "_law_numbered" Aj f fd)(G:Gm mg)(R:Fn P w K mg base (n+1) "_law_numbered" ["_law_term_here","_law_pairs"] (XE K n)):FnOk P w K mg base CX0 (n+2) f fd ["_law_term_here","_law_pairs"] (XE K (n+1)):=by
 refine G3.Fun.okC F BZ (Cl K n) CN (nk:=[G3.shCmp .NotIn]) (λX c=>⟨.cons (c.fn R (4:)) (.cons (c.ty (λ_=>G3.call_tupOf) G.tup cK) .nil),.cons (c.meth G3.m_append) (.cons (Bg c Oo) .nil),.cons (c.nodeR (r:=λK=>G3.on2 (Wc K)) Gy) .nil⟩) (7:) (λH vs Q E h=>?_) G.rng
 .obtain⟨v,U,t,ps,Y,rfl,_⟩:=h
  rfl
 obtain⟨v,U,t,ps,Y,rfl,hv,ak,L,hz,q⟩:=h;rcases YC hv with⟨a,p,y,b,rfl,rfl,h1,h2⟩ | ⟨a,b,vs,nm,k,ad,rfl,et,h1,h2,h3,h4⟩
 .have ab:Qp ps ((clX (.node (.call y b) 0 [])).map (·.1))=ZI ps y:=by rw [clX];rfl
  rw [ab]at hz q;refine .t _ _ h1 rfl ?_;refine let J_:J2:=(λas H'=>as=[some (.ref a),some (.ref U)]/\SameX U H H'/\∃M,PrsAt K H' U (ZI ps y) M);.c J_ ?_ ?_
  .refine .t _ _ h1 rfl<| .n y Y h2 (SqL.of L.l) L.p ?_
   by_cases hm:y∈Y.map (·.2)
   .rw [bK hm];refine⟨rfl,λ_ _ _ e=>e,Y,L.l,L.p,?_⟩;unfold ZI;rw [aG (L.e ▸ hm)];exact L.e
   .rw [bN hm];have al:y∉ps:=L.e ▸ hm;have ep:ZI ps y=ps++[y]:=by unfold ZI;rw [aF al]
    have hl:=congrArg List.length L.e;rw [aE]at hl;have gx:SameX U H (upd H U (.lst (rfP Y++[.ref p]))):=λb u nb e=>by rw [Qe nb];exact e
    have k1:=Zt (K:=K) L.l gx;refine⟨G3.tyL L.l,.t _ _ h1 rfl ⟨U,_,_,rfl,rfl,L.l,by rw [aE,show sizeLine=16777216 by decide];rw [ep,aW]at hz;lia,rfl,gx,Y++[(p,y)],?_,λt ht=>?_,?_⟩⟩
    .rw [Qb];show some (HO.lst (rfP Y++[V.ref p]))=some (.lst ((Y++[(p,y)]).map λt=>V.ref t.1));rw [aP];rfl
    .rcases aX.mp ht with z | z
     .exact(L.p t z).mono k1
     .rw [bJ.mp z];exact h2.mono k1
    .rw [aP,L.e,ep];rfl
  .rintro _ H1 ⟨rfl,g1,M,J⟩;have k1:=Zt (K:=K) L.l g1;have hm:y∈M.map (·.2):=by rw [J.e];exact Xf.mpr (.inr rfl)
   have hl:=congrArg List.length J.e;rw [aE]at hl;refine⟨G3.tyL J.l,.t _ _ (k1 _ _ h1) rfl<| .i y M (h2.mono k1) J.l J.p (5:) hm<| .t _ _ (k1 _ _ h1) rfl ⟨λp2 X2 k2 d2 _=>q _ M X2 (λb u nb e=>k2 _ _ (g1 b u nb e)) ⟨k2 _ _ J.l,J.p.mono λ_ _=>k2.seqT,J.e⟩ λr=>?_⟩⟩;rw [mpX,S4 (Xf.mpr (.inr rfl))];rw [J.e]at d2;exact .call d2
 have ab:(clX t).map (·.1)=clL t.bs:=by rw [et,clX];rfl
 have aj:=h3.length;have am:∀c∈t.bs,lv c<=n:=λc hc=>by
  have:=ZL hc;rw [lv_bs]at ak;lia
 rw [ab]at hz q;refine .t _ _ h1 rfl<| .t _ _ h1 rfl<| .t _ _ h1 rfl<| .t _ _ h1 rfl<| .t _ _ h1 rfl<| .t vs h2<|let J_:JA:=(λacc i ys H'=>∃M,SameX U H H'/\H' acc=some (.lst ys)/\PrsAt K H' U (Qp ps (clL (t.bs.take i))) M/\ys.length=i/\∀r,TmAll K H' ys (YG (ixP (Qp ps (clL (t.bs.take i))++r)) (t.bs.take i)));.m J_ (5:) (λacc H1 ha g e=>⟨Y,λb u _ e=>g b u e,e,⟨g _ _ L.l,L.p.mono λ_ _=>g.seqT,L.e⟩,rfl,λr=>.nil⟩) (λacc i ys H1 ⟨M,g,_⟩=>Zt L.l g _ _ h2) (λacc i ys H1 hi _ ha ⟨M,g,e,J,ag,hT⟩=>?_) λacc ys H1 ha ⟨M,g,e,J,ag,hT⟩=>?_
 .obtain⟨c,hc⟩: ∃c,t.bs[i]?=some c:=⟨_,aD (5:)⟩;obtain⟨cv,an,ao⟩:=h3.get hc;have ex:(vs[i]?).getD .non=cv:=by rw [an];rfl
  rw [ex];have ah:t.bs.take (i+1)=t.bs.take i++[c]:=by rw [bB,hc];rfl
  have Z:Qp ps (clL (t.bs.take (i+1)))=Qp (Qp ps (clL (t.bs.take i))) ((clX c).map (·.1)):=by rw [ah,JI,Zq]
  have ai:acc≠U:=λz=>by rw [z,L.l]at ha;cases ha
  refine⟨cv,U,c,_,M,rfl,ao.mono (Zt L.l g),am c (aL hc),J,?_,λv' ap H2 g2 ac aq=>?_⟩
  .rw [<-Z];exact bT (V9 ps t.bs (i+1)) hz
  .have k2:=Zt (K:=K) J.l g2;have ea:=g2 _ _ ai e;refine⟨ea,ap,λb u nb eb=>?_,Qb,⟨?_,ac.p.mono λ_ _ h=>SqT.put h ea,by rw [ac.e,Z]⟩,by simp [ag],λr=>?_⟩
   .rw [Qe (Qf eb ha)];exact g2 _ _ nb (g _ _ nb eb)
   .rw [Qe (λz=>ai z.symm)];exact ac.l
   .obtain⟨r1,ar⟩:=ZE (l:=(clX c).map (·.1)) (ps:=Qp ps (clL (t.bs.take i)));have ae:=hT (r1++r);rw [<-dE,<-ar,<-Z]at ae;have af:=aq r;rw [<-Z]at af;rw [ah]at ae af ⊢;rw [Yx,aP,<-Yx];exact TmAll.append (ae.mono λ_ _ h=>SqT.put (k2 _ _ h) ea) (.cons (af.mono λ_ _ h=>SqT.put h ea) .nil)
 have k1:=Zt (K:=K) L.l g;rw [aj,dN]at J hT;refine .l ys (SqL.of e) λpt H3 g3 d3=>⟨λpr H4 g4 d4 _=>?_⟩;have aa:=g3.trans g4;refine q _ M H4 (λb u nb eb=>aa _ _ (g b u nb eb)) ⟨aa _ _ J.l,J.p.mono λ_ _=>aa.seqT,J.e⟩ λr=>?_;have em:∀g,mpX g t=.node (.put nm k ad) 0 (YG g t.bs):=λg=>by
  conv=>lhs;rw [et,mpX]
 rw [em];exact .put d4 (g4.seqT d3) ((hT r).mono λ_ _=>aa.seqT) (5:)
end
end K40
namespace ST
open PySem TM TT L2 K11 K9
theorem GD{k:Nat}:∀(l:List Stp)(x:Stp),SOk x/\sl x<=k->SOk (l.foldl met x)/\sl (l.foldl met x)<=k
 | [],x,h=>h
 | y::r,x,h=>by
  obtain⟨G,J⟩:=J0 x y h.1;exact GD r (met x y) ⟨G,by lia⟩
theorem Sd{k:Nat}{l:List Stp}(hne:l≠[])(h:∀y∈l,SOk y/\sl y<=k):SOk (WZ l)/\sl (WZ l)<=k:=by
 cases l with
 | nil=>exact absurd rfl hne
 | cons x r=>exact GD r x (h x aR)
theorem Y4{S:List Stp}{m:Nat}{s:Stp}(h:S[m]?=some s):lookS S (m:Int)=s:=by
 unfold lookS;rw [a_,h];rfl
theorem Ae{rl:Rls}(ok:Jy rl){k:Nat}(h:∀s∈D rl 0,SOk s/\sl s<=k):∀n,∀s∈D rl n,SOk s/\sl s<=k
 | 0=>h
 | n+1=>λs U=>by
  obtain⟨m,J,e⟩:=bW U;have Y:=Y4 ((aD J).trans (congrArg some e));have G:m<(D rl n).length:=by rw [Y5]at J ⊢;exact J
  have Z:=Y4 (aD G);have b:=XL ok n (m:Int);rw [Y,Z]at b;obtain⟨i1,i2⟩:=Ae ok h n _ (aQ G);obtain⟨L,M⟩:=J0 (D rl n)[m] s i1;rw [ZV]at L M;have b':met s (D rl n)[m]=s:=b;rw [b']at L M;exact⟨L,by lia⟩
theorem WoodAt.insX{K:Fg}{x:Addr}{ks:List KdT}(i:InsAt H x)(g:SameX x H H')(h:WoodAt K H wd ks):WoodAt K H' wd ks:=
 ⟨i.seq g h.1,λk G=>⟨i.seqT g (h.2 k G).1,i.seq g (h.2 k G).2.1,λt J=>⟨i.seqT g ((h.2 k G).2.2 t J).1,i.seqT g ((h.2 k G).2.2 t J).2⟩⟩⟩
end ST
namespace K40c
open K40
open PySem L2 TM TT ST K9 K11
abbrev Vm:Stmt:=inClass (top 22) 0
abbrev Y6:Stmt:=inClass (top 22) 1
abbrev WK:Stmt:=inClass (top 22) 2
structure TuOk(ks:List KdT)(ms:List MdT):Prop where
 wo:WoodOk ks
 mo:MsOk ms
 kd:∀m∈ms,∃kd∈ks,kd.2.1=m.2.1/\m.2.2.2.2.length=kd.2.2.2.length/\(∃r∈kd.2.2.2,r.2.2.2=[])/\∀(j:Nat)(r:PNx)(t:Tm),kd.2.2.2[j]?=some r->m.2.2.2.2[j]?=some t->r.2.2.2=[]->cls t=[]
theorem TuOk.rows{ks:List KdT}(T:TuOk ks ms){m:MdT}(hm:m∈ms):(QV ks m.2.1).length=m.2.2.2.2.length/\(∃r∈QV ks m.2.1,r.2.2.2=[])/\∀(j:Nat)(r:PNx)(t:Tm),(QV ks m.2.1)[j]?=some r->m.2.2.2.2[j]?=some t->r.2.2.2=[]->cls t=[]:=by
 obtain⟨G,J,e,L,M,U⟩:=T.kd m hm;have Y:QV ks m.2.1=G.2.2.2:=by rw [<-e];exact JY T.wo.nd J
 rw [Y];exact⟨L.symm,M,U⟩
theorem rls_at{rows:List PNx}(hl:rows.length=ts.length){b:Bool}{t:Tm}:(QX rows ts)[j]?=some (b,t)↔ts[j]?=some t/\∃r,rows[j]?=some r/\b=r.2.2.2.isEmpty:=by
 unfold QX;rw [fZ]
 by_cases J:j<ts.length
 .have G:j<rows.length:=by lia
  rw [aD J,aD G];simp only [Option.some.injEq,Prod.mk.injEq,exists_eq_left'];constructor
  .rintro⟨rfl,rfl⟩;exact⟨rfl,rfl⟩
  .rintro⟨rfl,rfl⟩;exact⟨rfl,rfl⟩
 .rw [dJ (by lia:ts.length<=j),dJ (by lia:rows.length<=j)];simp
theorem TuOk.rl{ks:List KdT}(T:TuOk ks ms):RlAt ms (rlOf ks ms):=by
 refine⟨λZ aa=>?_,by unfold rlOf;rw [aE],λc hc t ht=>?_,λm Z J r Y=>?_⟩
 .obtain⟨m,J,rfl⟩:=aJ.mp aa;obtain⟨L,⟨r,Y,hb⟩,hf⟩:=T.rows J;constructor
  .obtain⟨j,M,e⟩:=bW Y;have ab:j<m.2.2.2.2.length:=by lia
   refine⟨(r.2.2.2.isEmpty,m.2.2.2.2[j]),aL ((rls_at L).mpr ⟨aD ab,r,by rw [<-e];exact aD M,rfl⟩),?_⟩;show r.2.2.2.isEmpty=true;rw [hb];rfl
  .rintro⟨b,t⟩ ac ad;obtain⟨j,M,e⟩:=bW ac;obtain⟨h1,r',h2,h3⟩:=(rls_at L).mp ((aD M).trans (congrArg some e));refine hf j r' t h2 h1 ?_;have h4:b=true:=ad;rw [h3]at h4;exact List.isEmpty_iff.mp h4
 .obtain⟨m,j,x,t',rfl,G,U,ae⟩:=Jh hc;rw [ae]at ht;obtain rfl:=aI ht;obtain⟨L,_,_⟩:=T.rows (aL G);have M:j<(QV ks x.2.1).length:=by rw [L];exact(aU.mp U).1
  refine⟨QX (QV ks x.2.1) x.2.2.2.2,_,?_,aL ((rls_at L).mpr ⟨U,_,aD M,rfl⟩)⟩;show(rlOf ks ms)[((m:Int)).toNat]?=_;unfold rlOf;rw [a_,aK,G];rfl
 .unfold rlOf at J;rw [aK]at J;cases G:ms[m]? with
  | none=>rw [G]at J;cases J
  | some x=>
   rw [G]at J;obtain rfl:QX (QV ks x.2.1) x.2.2.2.2=Z:=aI J;obtain⟨L,_,_⟩:=T.rows (aL G);obtain⟨j,M,e⟩:=bW Y;obtain⟨b,t⟩:=r;obtain⟨h1,_⟩:=(rls_at L).mp ((aD M).trans (congrArg some e));have af:m<ms.length:=(aU.mp G).1;have ag:j<nRl ms m:=by unfold nRl;rw [G];exact(aU.mp h1).1
   refine⟨((m:Int),(j:Int)),ZU.mpr ⟨m,j,rfl,af,ag⟩,rfl,?_⟩;unfold Zy;simp only [a_];rw [G];exact h1
structure DsAt(H:Hp)(l:Addr)(ms:List MdT)(ds:DsT):Prop where
 li:H l=some (.lst (ds.map λd=>V.ref d.1))
 len:ds.length=ms.length
 dat:∀d∈ds,H d.1=some (.dT d.2)
 nd:∀d∈ds,(d.2.map (·.1)).Nodup
 kin:∀d∈ds,∀q∈d.2,(∃c∈QP ms ms.length,q.1=kk c)/\q.2=V.bl true
 all:∀c∈QP ms ms.length,∀t,Zy ms c=some t->∀y∈cls t,∀d,ds[y.1.toNat]?=some d->kk c∈d.2.map (·.1)
theorem CBs.ds{ds:DsT}(h:CBs H0 H l ms ds ((QP ms ms.length).flatMap (Z4 ms))):DsAt H l ms ds:=
 ⟨h.li,h.len,h.dat,h.nd,h.kin,λc G t J y L d M=>h.all (c,y.1) (List.mem_flatMap.mpr ⟨c,G,by unfold Z4;rw [J];exact aJ.mpr ⟨y,L,rfl⟩⟩) d M⟩
theorem DsAt.insX{x:Addr}{ds:DsT}(i:InsAt H x)(g:SameX x H H')(h:DsAt H l ms ds):DsAt H' l ms ds:=
 ⟨i.lst g h.li,h.len,λd G=>i.dT g (h.dat d G),h.nd,h.kin,h.all⟩
def Ye(lm lc ls lw:Addr):List (Str×V):=[("modes",.ref lm),("callers",.ref lc),("stumps",.ref ls),("waiting",.ref lw)]
structure StgAt(K:Fg)(C:Addr)(H:Hp)(x lm:Addr)(ms:List MdT)(rl:Rls)(n:Nat)(ls:Addr)(us:List V)(W:List (Int×Int))(lc lw:Addr):Prop where
 ob:∃(dx:Addr)(ds:DsT)(ts:List (Addr×List Int)),H x=some (.ins C dx (Ye lm lc ls lw))/\DsAt H lc ms ds/\H lw=some (.lst (Rf ts))/\TsAt K H ts/\ts.map (·.2)=W.map pr
 mo:ModesL K H lm ms
 sl:H ls=some (.lst us)
 sa:SAll K H us (D rl n)
 so:∀s∈D rl n,SOk s/\ST.sl s<=4
 win:∀c∈W,c∈QP ms ms.length
 few:W.length<=40
 wout:∀c∈QP ms ms.length,c∉W->∀t,Zy ms c=some t->Bel (lookS (D rl n) c.1) (rsT (lookS (D rl n)) t)
structure StgT(K:Fg)(mg:Str->Option Value)(C:Addr):Prop where
 cl:Cls K C
 nM:NoAttr K C "modes"
 nC:NoAttr K C "callers"
 nS:NoAttr K C "stumps"
 nW:NoAttr K C "waiting"
 mgC:mg "Stages"=some (.ref C)
def Vi(K:Fg)(C:Addr):Sp:=λvs H Q _=>∃(x lm ls:Addr)(ms:List MdT)(rl:Rls)(n:Nat)(us:List V)(W:List (Int×Int))(lc lw:Addr),vs=[.ref x]/\StgAt K C H x lm ms rl n ls us W lc lw/\Q (.bl (decide (W.length=0))) H
def M0(K:Fg)(C:Addr):Sp:=λvs H Q _=>∃(x dx tu wd lm:Addr)(sv:V)(ks:List KdT)(st:Tm)(ms:List MdT),vs=[.ref x,.ref tu]/\H x=some (.ins C dx [])/\TurnD K H tu wd lm sv ks st ms/\TuOk ks ms/\
 ∀(H':Hp)(ls lc lw:Addr)(us:List V),SameX x H H'->H ls=none->StgAt K C H' x lm ms (rlOf ks ms) 0 ls us (QP ms ms.length) lc lw->Q .non H'
section
variable{K:Fg}{C:Addr}
theorem CF:FnScope ["self"] ["self"] (defScope Y6):=(0:)
theorem BL(F:Fun K "is_last" "Stages.is_last" Y6 f fd)(G:Gm mg)(T:StgT K mg C):FnOk P w K mg base CX0 1 f fd ["self"] (Vi K C):=by
 refine F.ok CF (7:) (λaa A outer s H vs Q E hr h=>?_)
 .obtain⟨x,lm,Y,ms,rl,n,Z,W,lc,L,rfl,_⟩:=h
  rfl
 obtain⟨x,lm,Y,ms,rl,n,Z,W,lc,L,rfl,S,q⟩:=h;obtain⟨dx,ds,M,hx,_,hw,_,ew⟩:=S.ob;refine⟨_,(Qi (Qn (Z8 ZX (Ql Qm rfl G.len bO (Qa (Yc (pv 0) rfl) Qc)) Qh (QA _)))),?_⟩;refine⟨_,rfl,x,C,dx,_,_,rfl,hx,T.cl,T.nW,rfl,L,_,rfl,.inl (SqL.of hw),rfl,?_⟩;have U:=congrArg List.length ew;rw [aE,aE]at U;have e:decide (V.int (((Rf M).length:Nat):Int)=V.int 0)=decide (W.length=0):=by
  rw [aE]
  by_cases J:W.length=0
  .rw [bK J,bK (by rw [U,J];rfl)]
  .rw [bN J,bN λz=>J (by have:=V.int.inj z;lia)]
 show Q (.bl (decide (V.int (((Rf M).length:Nat):Int)=V.int 0))) H;rw [e];exact q
end
def fl1(lm:Addr):List (Str×V):=[("modes",.ref lm)]
def fl2(lm lc:Addr):List (Str×V):=[("modes",.ref lm),("callers",.ref lc)]
def fl3(lm lc ls:Addr):List (Str×V):=[("modes",.ref lm),("callers",.ref lc),("stumps",.ref ls)]
theorem ZG{f g:Str}{r:List (Str×V)}(h:¬g=f):ZB f v ((g,y)::r)=(g,y)::ZB f v r:=by
 show(if g=f then _ else _)=_;rw [aF h]
theorem f1(lm:Addr):ZB "modes" (.ref lm) []=fl1 lm:=rfl
theorem f2(lm lc:Addr):ZB "callers" (.ref lc) (fl1 lm)=fl2 lm lc:=by
 unfold fl1;rw [ZG (1:)];rfl
theorem f3(lm lc ls:Addr):ZB "stumps" (.ref ls) (fl2 lm lc)=fl3 lm lc ls:=by
 unfold fl2;rw [ZG (1:),ZG (1:)];rfl
theorem f4(lm lc ls lw:Addr):ZB "waiting" (.ref lw) (fl3 lm lc ls)=Ye lm lc ls lw:=by
 unfold fl3;rw [ZG (1:),ZG (1:),ZG (1:)];rfl
theorem leaf_ok{ks:List KdT}(T:TuOk ks ms):∀s∈D (rlOf ks ms) 0,SOk s/\ST.sl s<=4:=λs hs=>by
 obtain⟨rs,G,rfl⟩:=aJ.mp (show s∈(rlOf ks ms).map US from hs);obtain⟨⟨J,L,M⟩,aa⟩:=T.rl.ok rs G;obtain⟨m,U,rfl⟩:=aJ.mp G;refine Sd (λz=>?_) λy hy=>?_
 .have h1:rsT (λ_=>.op) J.2∈(((QX (QV ks m.2.1) m.2.2.2.2).filter λr=>r.1).map λr=>rsT (λ_=>.op) r.2):=aJ.mpr ⟨J,dB.mpr ⟨L,M⟩,rfl⟩;rw [z]at h1;cases h1
 .obtain⟨r,hr,rfl⟩:=aJ.mp hy;obtain⟨Y,_⟩:=dB.mp hr;obtain⟨j,hj,e⟩:=bW Y;obtain⟨b,t⟩:=r;obtain⟨h1,_⟩:=(rls_at (T.rows U).1).mp ((aD hj).trans (congrArg some e));obtain⟨⟨cs,Z⟩,ab,_,_⟩:=T.mo.tm m U t (aL h1);obtain⟨a1,a2⟩:=GO (S:=λ_=>Stp.op) (k:=1) (λ_=>by simp only [SOk]) (λ_=>by simp only [ST.sl];lia) (4:) t Z;exact⟨a1,by show ST.sl (rsT _ t)<=4;lia⟩
section
variable{K:Fg}{C:Addr}
theorem Ab:FnScope ["self","turning"] ["self","turning"] (defScope Vm):=(0:)
theorem Sb(F:Fun K "__init__" "Stages.__init__" Vm f fd)(G:Gm mg)(T:StgT K mg C)(RC:Fn P w K mg base 6 "callers_by_modes" ["modes"] (S9 K))(RL:Fn P w K mg base 7 "leaf_stump" ["wood","kind","rules"] (Sh K))(RA:Fn P w K mg base 1 "all_rules" ["modes"] (Se K)):FnOk P w K mg base CX0 8 f fd ["self","turning"] (M0 K C):=by
 refine F.ok Ab (7:) (λa3 A outer s H vs Q E hr h=>?_)
 .obtain⟨x,dx,tu,wd,lm,sv,ks,st,ms,rfl,_⟩:=h
  rfl
 obtain⟨x,dx,tu,wd,lm,sv,ks,st,ms,rfl,hx,M,ok,q⟩:=h;refine⟨_,(Qg (UC (pv 0) (Qk Qj (pv 1) Qh (λ_ _=>rfl)) rfl)
  (Qg (UC (pv 0) (Qt RC hr (Qa (Qk Qj (pv 1) Qh (λ_ _=>rfl)) Qc)) rfl)
  (Qg (UC (pv 0) (QO (CompG.many (xs:=["kind","rules"]) (caps:=["turning"]) (cap:=[1]) (cs:=[_]) rfl rfl (1:) (1:) (1:) (1:) (1:) (1:) rfl rfl rfl) rfl (QJ (Qk Qj (pv 1) Qh (λ_ _=>rfl))) (XM (CompG.many (xs:=["kind","rules"]) (caps:=["turning"]) (cap:=[1]) (cs:=[_]) rfl rfl (1:) (1:) (1:) (1:) (1:) (1:) rfl rfl rfl) rfl) (λ_ _ _ _=>Zn) (λ_ _ _ _=>Qt RL hr (Qa (Qk (r:=P1 K) Qj (pv 2) Qh (λ_ _=>rfl)) (Qa (pv 0) (Qa (pv 1) Qc))))) rfl)
  (Qi (UC (pv 0) (Qt RA hr (Qa (Qk Qj (pv 1) Qh (λ_ _=>rfl)) Qc)) rfl))))),?_⟩
 refine L2.let3 ?_
 intros
 have i0:InsAt H x:=⟨_,_,_,hx⟩;refine⟨_,rfl,tu,_,2,_,rfl,rfl,M.tu,rfl,_,rfl,x,C,dx,_,rfl,hx,T.cl,T.nM,(by show 0<1000;decide),?_⟩;rw [f1];have g1:SameX x H (upd H x (.ins C dx (fl1 lm))):=SameX.upd;generalize ar:upd H x (.ins C dx (fl1 lm))=H1 at g1 ⊢;have ab:H1 x=some (.ins C dx (fl1 lm)):=by rw [<-ar];exact Qb
 have i1:InsAt H1 x:=⟨_,_,_,ab⟩;refine⟨_,rfl,tu,_,2,_,rfl,rfl,i0.seqT g1 M.tu,rfl,lm,ms,rfl,ModesL.insX i0 g1 M.m,ok.mo,λL H2 ds cb=>⟨_,rfl,x,C,dx,_,rfl,cb.same _ _ ab,T.cl,T.nC,(by show 1<1000;decide),?_⟩⟩;rw [f2];have g2:SameX x H H2:=g1.trans (SameX.of cb.same);have d2:=CBs.ds cb;have as:=cb.same _ _ ab;have i2:InsAt H2 x:=⟨_,_,_,as⟩;have ac:SameX x H2 (upd H2 x (.ins C dx (fl2 lm L))):=SameX.upd;generalize au:upd H2 x (.ins C dx (fl2 lm L))=H3 at ac ⊢;have ad:H3 x=some (.ins C dx (fl2 lm L)):=by rw [<-au];exact Qb
 have i3:InsAt H3 x:=⟨_,_,_,ad⟩;have g3:SameX x H H3:=g2.trans ac;have d3:=DsAt.insX i2 ac d2;have ae:=ModesL.insX i0 g3 M.m;have av:=WoodAt.insX i0 g3 M.w;have an:=i0.seqT g3 M.tu;have aw:(ms.map λm=>V.ref m.1).length=ms.length:=aE ..;have h4:=ok.mo.four;refine⟨_,rfl,tu,_,2,_,rfl,rfl,an,rfl,lm,rfl,⟨_,ae.1⟩,λacc J=>?_⟩;refine let J_:JC:=(λi ys H'=>H' acc=some (.lst ys)/\Same H3 H'/\ys.length=i/\SAll K H' ys (((rlOf ks ms).take i).map US));U7 (K:=K) (xs:=ms.map λm=>V.ref m.1) (cs:=[some (.ref tu)]) (tt:=λ_ H Q=>Q true H) (te:=Y3 (Sh K) [] E0 (QZ (tOp (P1 K) (ZT 2) (tC (.int 0))) (QZ (ZT 0) (QZ (ZT 1) YF)))) J_
  ⟨Qb,Qd J _,rfl,by simp;exact .nil⟩ ?_ ?_ ?_
 .rintro i ys H' _ ⟨_,g,_⟩;exact g.seq ae.1
 .rintro i y ys H' hi hy ⟨af,g,ao,Z⟩;have ag:i<ms.length:=by rw [aw]at hi;exact hi
  obtain rfl:y=.ref ms[i].1:=by
   rw [aK,aD ag]at hy;exact(aI hy).symm
  have ah:=aQ ag;have ai:=ae.2 _ ah;obtain⟨kd,hk,ek,hl,hb,hf⟩:=ok.kd _ ah;refine⟨ms[i].1,_,_,rfl,g.seqT ai.1,Zh ⟨_,rfl,tu,_,0,_,rfl,rfl,g.seqT an,rfl,_,rfl,_,rfl,wd,ms[i].2.2.1,ks,kd,ms[i].2.2.2.1,ms[i].2.2.2.2,by rw [ek];rfl,av.same g,ok.wo,hk,g.seq ai.2.1,ai.2.2.mono λ_ _=>g.seqT,hl,hb,λj r t hr ht=>?_,λv4 H4 U ax=>?_⟩⟩
  .obtain⟨h1,h2,_,_⟩:=ok.mo.tm _ ah t (aL ht);exact⟨h1,h2,hf j r t hr ht⟩
  have Y:=U _ _ af;refine QC (ys:=ys) hi Y (5:) ⟨Qb,λb u e=>?_,by simp [ao],?_⟩
  .rw [Qe (Qf e J)];exact U _ _ (g _ _ e)
  .have er:QV ks ms[i].2.1=kd.2.2.2:=by rw [<-ek];exact JY ok.wo.nd hk
   have e5:(rlOf ks ms)[i]?=some (QX kd.2.2.2 ms[i].2.2.2.2):=by unfold rlOf;rw [aK,aD ag,<-er];rfl
   rw [bB,e5,aP];exact SAll.append (Z.mono λ_ _ h=>(U.seqT h).put Y) (.cons (ax.mono λ_ _ h=>h.put Y) .nil)
 rintro ys H4 ⟨af,U,ao,Z⟩;have e6:(rlOf ks ms).take (ms.map λm=>V.ref m.1).length=rlOf ks ms:=bH (by unfold rlOf;rw [aE,aE];exact aY _);rw [e6]at Z;have ap:=U _ _ ad;have i4:InsAt H4 x:=⟨_,_,_,ap⟩;refine⟨_,rfl,x,C,dx,_,rfl,ap,T.cl,T.nS,(by show 2<1000;decide),?_⟩;rw [f3];have aj:SameX x H4 (upd H4 x (.ins C dx (fl3 lm L acc))):=SameX.upd;generalize ay:upd H4 x (.ins C dx (fl3 lm L acc))=H5 at aj ⊢;have ak:H5 x=some (.ins C dx (fl3 lm L acc)):=by rw [<-ay];exact Qb
 have i5:InsAt H5 x:=⟨_,_,_,ak⟩;have g5:SameX x H H5:=g3.trans ((SameX.of U).trans aj);refine⟨_,rfl,tu,_,2,_,rfl,rfl,i0.seqT g5 M.tu,rfl,lm,ms,rfl,ModesL.insX i0 g5 M.m,ok.mo.four,ok.mo.ten,λlw H6 ts g6 _ az a0 a1=>⟨_,rfl,x,C,dx,_,rfl,g6 _ _ ak,T.cl,T.nW,(by show 3<1000;decide),?_⟩⟩;rw [f4];have i6:InsAt H6 x:=⟨_,_,_,g6 _ _ ak⟩;have aa:SameX x H6 (upd H6 x (.ins C dx (Ye lm L acc lw))):=SameX.upd;have al:SameX x H4 (upd H6 x (.ins C dx (Ye lm L acc lw))):=aj.trans ((SameX.of g6).trans aa);have g7:SameX x H (upd H6 x (.ins C dx (Ye lm L acc lw))):=g5.trans ((SameX.of g6).trans aa);have few:=Z1 ok.mo.ten ms.length;have am:H acc=none:=by
  cases e:H acc with
  | none=>rfl
  | some o=>
   by_cases aq:acc=x
   .rw [aq,ad]at J;cases J
   .rw [g3 _ _ aq e]at J;cases J
 refine q _ acc L lw ys g7 am ⟨⟨dx,ds,ts,Qb,DsAt.insX i4 al (DsAt.insX i3 (SameX.of U) d3),i6.lst aa az,a0.mono λ_ _=>i6.seqT aa,a1⟩,ModesL.insX i0 g7 M.m,i4.lst al af,Z.mono λ_ _=>i4.seqT al,leaf_ok ok,λc hc=>hc,by lia,λc hc hn=>absurd hc hn⟩
end
end K40c
namespace ST
open PySem L2 K11
def hz(a:Nat):Int:=reduceHash (Builtin.Tuple.tupleHashOf [hashInt ((a/10:Nat):Int),hashInt ((a%10:Nat):Int)])
def hzs:List Int:=[-8458139203682520985,-1950498447580522560,7204814214171964562,-4734289103435588629,1773351652666409796,-3119722376306286570,-1010439003188656273,-5903513032161352639,604127723940645786,-4288946305032050580,-5164621852614943976,8389048192121911274,-3550055125485641917,-1440771752368011620,-6333845781340707986,173794974761290439,-4719279054211405927,-2609995681093775630,3897645075008222795,-995428953964473571,4685526799349444076,6794810172467074373,1901736143494378007,8409376899596376432,3516302870623680066,-8422800446983873125,-6313517073866242828,7240152970870612422,-4698950346736940769,8854719697999914481,2248468952609198383,8756109708711196808,3863035679738500442,5972319052856130739,1079245023883434373,7586885779985432798,-4352217537622120393,4803095124130366729,-7136008193477186462,6417661851259668788]
theorem Rm:(List.range 40).map hz=hzs:=by decide+kernel
theorem Ng:((List.range 40).map hz).Nodup:=by
 rw [Rm]
 decide+kernel
theorem AA{a b:Nat}(ha:a<40)(hb:b<40)(h:hz a=hz b):a=b:=by
 have h1:((List.range 40).map hz)[a]?=some (hz a):=by rw [aK,f7 ha];rfl
 have h2:((List.range 40).map hz)[b]?=some (hz b):=by rw [aK,f7 hb];rfl
 exact(List.getElem?_inj (by simpa using ha) Ng).mp (by rw [h1,h2,h])
theorem GB(P:Program)(w:World)(m j:Nat)(hm:m<4)(hj:j<10):(tupleKind (Qu P w)).hash (kk ((m:Int),(j:Int)))=hz (m*10+j):=by
 unfold hz;rw [show(m*10+j)/10=m by lia,show(m*10+j)%10=j by lia]
 rfl
theorem Pi(h4:ms.length<=4)(h10:∀m∈ms,m.2.2.2.2.length<=10){ks:List (List Key)}(h:∀k∈ks,∃c∈QP ms ms.length,k=kk c):Pe ks:=by
 intro P w x Z y hy e;have get:∀k∈ks,∃m j:Nat,m<4/\j<10/\k=kk ((m:Int),(j:Int)):=λk hk=>by
  obtain⟨c,hc,rfl⟩:=h k hk;obtain⟨m,j,rfl,J,G⟩:=ZU.mp hc;refine⟨m,j,by lia,?_,rfl⟩;unfold nRl at G;rw [aD J]at G;exact bZ G (h10 _ (aQ J))
 obtain⟨m,j,J,G,rfl⟩:=get x Z;obtain⟨L,M,U,Y,rfl⟩:=get y hy;rw [GB P w m j J G,GB P w L M U Y]at e;have:=AA (5:) (5:) e;have e1:m=L:=by lia
 have e2:j=M:=by lia
 rw [e1,e2]
end ST
namespace L2
open PySem PySem.Spec PyProof.Rows
def ItL(K:Fg)(a:Addr):It:=
 ⟨λi H=>∃xs x,SqL K H a xs/\xs[i]?=some x,λi H x H'=>∃p v,H p=none/\x=.ref p/\H'=upd H p (.tup [.int (i:Int),v])/\∀xs,SqL K H a xs->xs[i]?=some v,λi H=>∃xs,SqL K H a xs/\xs.length<=i⟩
theorem Gr{K:Fg}(a e it:Addr)(hei:e≠it):
 Turn P w K (.Tuple elts k1 pos) (ItL K a) [e,it] e (λi h=>(∃old,IsEnum h e it (i:Nat) old)/\h.IsListIter it a i) where
 mem:=by simp
 obj:=λi h st c G=>by
  obtain⟨⟨old,J⟩,hi⟩:=st;simp only [aM,bQ,bP]at G;rcases G with rfl | rfl
  .exact⟨_,J,λv z=>by have z':Data.fields _=Data.cell v:=z;cases z'⟩
  .obtain⟨o,g,c,d⟩:=hi;exact⟨o,g,λv z=>by rw [d]at z;cases z⟩
 keep:=λi h h' st k=>by
  obtain⟨⟨old,J⟩,hi⟩:=st;exact⟨⟨old,k e (16:) _ J⟩,hi.at λo g=>k it (16:) o g⟩
 item:=by
  intro X hP hw hK G i pins s σ H E I U st hg;subst hP hw hK;obtain⟨⟨old,J⟩,hi⟩:=st;obtain⟨xs,x,Y,hx⟩:=hg;obtain⟨its,rv,p,hz⟩:=I.list Y;obtain⟨u,hu,ru⟩:=rv.get hx;have pt:s.heap.IsList a its.toArray:=p.isList;obtain⟨oa,Z,ca,na,da⟩:=id pt;have ab:a≠e:=λz=>by
   subst z;have hE:s.heap.get? a=some _:=J;rw [hE]at Z;cases Z;exact absurd (Value.type.inj ca) (12:)
  have ac:a≠it:=λz=>by
   subst z;obtain⟨o,g,c,d⟩:=hi;rw [g]at Z;cases Z;rw [c]at ca;exact absurd (Value.type.inj ca) (12:)
  have ad:i<its.toArray.size:=by
   have:=(aU.mp hu).1
   simpa using this
  refine wpAny_pyNext_enum_itemD (Draws.list (prog:=X.prog) (w:=X.w) (A:=X.A.in1) (I.ok.hd G) it a ac its.toArray) J ⟨hi,pt⟩ ad hei (by simp only [aM,bQ,bP,not_or];exact⟨hei,aV ab⟩) λy h' tk hy ho ae ht ao hk=>?_;have af:y=u:=by
   have:its.toArray[i]?=some u:=by simpa using hu
   exact aI (hy.symm.trans this)
  subst af;refine⟨.ref s.heap.objs.size,rfl,wpAny_letOwnedTupleGo_enum (s:={ s with heap:=h',toks:=tk+1 }) ho λag aa M=>?_⟩;have lt:∀{c o},s.heap.get? c=some o->c≠s.heap.objs.size:=λg=>bC (aO g);have ah:s.heap.objs.size≠e:=aV (lt J);have ai:∀c∈[e,it],YT X pins H c:=U;have I2:Inv X pins σ (upd H s.heap.objs.size (.tup [.int (i:Int),x])) { s with heap:=ag,toks:=tk+1 }:=by
   refine I.turnedNew (ch:=[e,it]) (λc o G g=>?_) ai (4:) ⟨by show 2<=sizeLine;decide,[.int (i:Int) tk,y],.cons ⟨tk,rfl⟩ (.cons ru .nil),⟨_,(M.2 _ ah).trans ht,rfl,_,rfl⟩⟩;simp only [aM,bQ,bP,not_or]at G;exact(M.2 c G.1).trans (hk c o G.1 G.2 g)
  have aj:∀c∈[e,it],upd H s.heap.objs.size (.tup [.int (i:Int),x]) c=none:=λc G=>by
   have:c≠s.heap.objs.size:=by
    have L:=G;simp only [aM,bQ,bP]at L;rcases L with rfl | rfl
    .exact lt J
    .obtain⟨o,g,_⟩:=hi;exact lt g
   rw [Qe this];exact(U c G).1
  exact⟨.ref s.heap.objs.size,_,I2,rfl,⟨s.heap.objs.size,x,I.fresh,rfl,rfl,λys ak=>by rw [I.list_inj ak Y];exact hx⟩,⟨⟨_,aa⟩,ae.1.extBut M.extBut (aV hei)⟩,aj⟩
 done:=by
  intro X hP hw hK G i pins s σ H E I U st hg;subst hP hw hK;obtain⟨⟨old,J⟩,hi⟩:=st;obtain⟨xs,Y,hx⟩:=hg;obtain⟨its,rv,p,hz⟩:=I.list Y;have pt:s.heap.IsList a its.toArray:=p.isList;have an:=rv.length;have hn:its.toArray.size<=i:=by simp;lia
  have hT:s.TypeIs (.ref e) "enumerate":=⟨_,J,rfl⟩;unfold pyNext;refine aB (wpAny_attempt (dU (name:=Str.ofString "__next__") hT gI (dA gI hT F.entry_enumerate_next ?_ (F.args_enumerate_next_1 _))));show wpAny _ _ (field (.ref e) 2>>=_) _ _ _;refine aB (cC J rfl (x:=.ref it) rfl ?_);refine aB (wpAny_nextOf_list_end (A:=X.A.in1) (I.ok.hd G) hi pt (eA hn) λh' y al hy=>?_);obtain⟨o,ho,am⟩:=hy;refine aB (eZ (T:="StopIteration") (b:=true) ⟨o,ho,am⟩ isSubtype_stop ?_);refine aH ⟨rfl,I.turnedL (t':=s.toks) (ch:=[e,it]) (λc u L g=>al c u (λz=>L (by rw [z];simp)) g) U⟩
 self:=λ_ _ _ _ _ st h=>wpAny_pyIter_enum st.1.choose_spec h
def Ah(K:Fg)(ta:TA):TI:=λσ H R=>ta σ H λvs H1=>∃a xs,vs=[.ref a]/\SqL K H1 a xs/\R (ItL K a) H1
theorem Op{ta:TA}{p:Pos}(hg:Gl X "enumerate")(hm:X.mg "enumerate"=none)(ha:PA X [e1] ta)(hb:bootBuiltins "enumerate"=some (.type "enumerate"):=by decide+kernel)(hs:starEach [e1] X.env=[(false,eval e1 X.env)]:=by rfl):
 PI X (.Tuple elts k1 tpos) (.Call (.Name "enumerate" p) [e1] [] pos) (Ah X.K ta):=by
 intro pins s σ H R I h;refine Call_ (Z6 I hg hm hb (fo (thn (ha pos pins s σ H _ I h) λus G ⟨vs,H1,J,Y,Z⟩=>?_) hs rfl));obtain⟨a,xs,e,hq,q⟩:=Z;subst e;cases Y with
 | cons r rr=>
  cases rr;obtain rfl:_=Value.ref a:=r;obtain⟨its,rv,pt,_⟩:=J.list hq;refine call_enumerate_list (show G.heap.IsList a its.toArray from pt.isList) λh' M hi aa hk=>?_;refine wpAny_pyIter_enum M ?_;have I2:Inv X pins σ H1 { G with heap:=h' }:=J.kept (t':=G.toks) hk;refine⟨G.heap.objs.size+1,[G.heap.objs.size+1,G.heap.objs.size],_,_,H1,rfl,I2,Gr a (G.heap.objs.size+1) G.heap.objs.size (nne (5:)),⟨⟨_,M⟩,hi⟩,λc U=>?_,q⟩;have L:@LE.le Nat _ G.heap.objs.size c:=by
   simp only [aM,bQ,bP]at U;rcases U with rfl | rfl<;>lia
  exact J.fpOk L (J.hok.fresh L)
theorem LM{K:Fg}{a:Addr}{xs:List V}{g:TG}{tb:TS}{D:Ends}{σ:St}{H:Hp}(Pv:Nat->St->Hp->Prop)(h0:Pv 0 σ H)(hl:∀i σ H,i<=xs.length->Pv i σ H->SqL K H a xs)
 (hs:∀i v p σ H,xs[i]?=some v->H p=none->Pv i σ H->g (.ref p) σ (upd H p (.tup [.int (i:Int),v])) λσ2 H2=>tb { D with nx:=Pv (i+1),ct:=Pv (i+1),bk:=D.nx } σ2 H2) (hd:∀σ H,Pv xs.length σ H->D.nx σ H):
 ∃W:Nat->Nat->St->Hp->Prop,(∃m,W 0 m σ H)/\∀i m σ H,W i m σ H->
  ((ItL K a).stop i H/\D.nx σ H)\/((ItL K a).go i H/\∃N:St->Hp->Prop,(∀σ' H',N σ' H'->∃m',m'<m/\W (i+1) m' σ' H')/\∀x H',(ItL K a).yld i H x H'->g x σ H' λσ2 H2=>tb { D with nx:=N,ct:=N,bk:=D.nx } σ2 H2):=by
 refine⟨λi m σ H=>m=xs.length-i/\i<=xs.length/\Pv i σ H,⟨xs.length-0,rfl,bE _,h0⟩,?_⟩;rintro i m σ H ⟨rfl,hi,p⟩;have G:=hl i σ H hi p
 by_cases h:i<xs.length
 .refine .inr ⟨⟨xs,xs[i],G,aD h⟩,Pv (i+1),λσ' H' J=>⟨xs.length-(i+1),by lia,rfl,h,J⟩,?_⟩;rintro x H' ⟨J,v,hp,rfl,rfl,L⟩;exact hs i v J σ H (L xs G) hp p
 .have e:i=xs.length:=by lia
  subst e;exact .inl ⟨⟨xs,G,aY _⟩,hd σ H p⟩
end L2
namespace ST
open PySem TM TT L2 K11 K9
mutual
theorem VU:∀a b:Stp,PyData.eqv (sd a) (sd b)=true↔a=b
 | .op,.op=>by simp [sd,PyData.eqv,PyData.eqvAll]
 | .op,.put _ _ _=>by simp [sd,PyData.eqv,PyData.eqvAll]
 | .put _ _ _,.op=>by simp [sd,PyData.eqv,PyData.eqvAll]
 | .put n m ps,.put J L qs=>by
  have G:=GJ ps qs;simp only [sd,PyData.eqv,PyData.eqvAll,Bool.and_true,bS,fk,G,Stp.put.injEq,true_and]
theorem GJ:∀a b:List Stp,PyData.eqvAll (sds a) (sds b)=true↔a=b
 | [],[]=>by simp [sds,PyData.eqvAll]
 | [],_::_=>by simp [sds,PyData.eqvAll]
 | _::_,[]=>by simp [sds,PyData.eqvAll]
 | p::r,q::t=>by
  have h1:=VU p q;have h2:=GJ r t;simp only [sds,PyData.eqvAll,bS,h1,h2,gv]
end
theorem Ag{a b:Stp}(h:a=b):PyData.eqv (sd a) (sd b)=true:=(VU a b).mpr h
theorem A4{a b:Stp}(h:a≠b):PyData.eqv (sd a) (sd b)=false:=by
 cases e:PyData.eqv (sd a) (sd b)with
 | true=>exact absurd ((VU a b).mp e) h
 | false=>rfl
theorem YS:∀(more kvs:List (List Key×V))(k:List Key),k∈kvs.map (·.1)\/k∈more.map (·.1)->k∈(Zz kvs more).map (·.1)
 | [],kvs,k,h=>h.elim id λz=>(nomatch z)
 | q::r,kvs,k,h=>by
  show k∈(Zz (putK kvs q.1 q.2) r).map (·.1);refine YS r _ k ?_;rcases h with h | h
  .exact .inl (WU h)
  .rw [aS]at h;rcases aM.mp h with rfl | h
   .exact .inl (aJ.mpr ⟨_,Of,rfl⟩)
   .exact .inr h
theorem XB:∀(more kvs:List (List Key×V))(q:List Key×V),q∈Zz kvs more->q∈kvs\/q∈more
 | [],kvs,q,h=>.inl h
 | p::r,kvs,q,h=>by
  rcases XB r (putK kvs p.1 p.2) q h with h | h
  .rcases LK h with h | h
   .exact .inl h
   .exact .inr (by rw [h];exact aR)
  .exact .inr (bR _ h)
theorem UW:∀(more kvs:List (List Key×V)),(kvs.map (·.1)).Nodup->((Zz kvs more).map (·.1)).Nodup
 | [],_,h=>h
 | p::r,kvs,h=>UW r (putK kvs p.1 p.2) (Xy h)
theorem Vk:∀{l:List (List Key)},(∀k∈l,∃c∈QP ms ms.length,k=kk c)->∃cs:List (Int×Int),l=cs.map kk/\∀c∈cs,c∈QP ms ms.length
 | [],_=>⟨[],rfl,λc G=>(nomatch G)⟩
 | k::r,h=>by
  obtain⟨c,G,rfl⟩:=h k aR;obtain⟨cs,rfl,h2⟩:=Vk λx hx=>h x (bR _ hx);refine⟨c::cs,rfl,λx hx=>?_⟩;rcases aM.mp hx with rfl | hx
  .exact G
  .exact h2 x hx
theorem JL{S:List Stp}{m k:Nat}{s:Stp}(h:m<S.length):lookS (S.set m s) (k:Int)=if k=m then s else lookS S (k:Int):=by
 unfold lookS;rw [a_,gO]
 by_cases e:k=m
 .subst e;rw [aG rfl,aG rfl,aG h];rfl
 .rw [aF e,aF (aV e)]
theorem SAll.setAt{K:Fg}:∀{vs:List V}{ts:List Stp}(m:Nat){v:V}{s:Stp},SAll K H vs ts->SV K H v s->SAll K H (vs.set m v) (ts.set m s)
 | _,_,_,_,_,.nil,_=>.nil
 | _,_,0,_,_,.cons _ t,h=>.cons h t
 | _,_,m+1,_,_,.cons a t,h=>.cons a (SAll.setAt m t h)
end ST
namespace K40c
open K40
open PySem L2 TM TT ST K9 K11
theorem g1(lm lc ls lw l:Addr):ZB "stumps" (.ref l) (Ye lm lc ls lw)=Ye lm lc l lw:=by
 unfold Ye;rw [ZG (1:),ZG (1:)];show _::_::(if _ then _ else _)=_;rw [aG rfl]
theorem g2(lm lc ls lw l:Addr):ZB "waiting" (.ref l) (Ye lm lc ls lw)=Ye lm lc ls l:=by
 unfold Ye;rw [ZG (1:),ZG (1:),ZG (1:)];show _::_::_::(if _ then _ else _)=_;rw [aG rfl]
def BF(K:Fg)(C:Addr):Sp:=λvs H Q _=>∃(x lm ls:Addr)(ms:List MdT)(rl:Rls)(n:Nat)(us:List V)(W:List (Int×Int))(lc lw:Addr),vs=[.ref x]/\StgAt K C H x lm ms rl n ls us W lc lw/\RlAt ms rl/\MsOk ms/\
 ∀(H':Hp)(ls' lw':Addr)(us':List V)(W':List (Int×Int)),SameX x H H'->H ls'=none->H lw'=none->StgAt K C H' x lm ms rl (n+1) ls' us' W' lc lw'->(D rl (n+1)=D rl n->W'=[])->Q .non H'
section
variable{K:Fg}{C:Addr}
theorem Gs:FnScope ["self","stumps","mode","number","callers","stump"] ["self"] (defScope WK):=(0:)
theorem Bn(F:Fun K "go_on" "Stages.go_on" WK f fd)(G:Gm mg)(T:StgT K mg C)(RM:Fn P w K mg base 6 "met" ["one","other"] (spMet K 5))(RR:Fn P w K mg base 5 "rule_stump" ["rule","stumps"] (spRS K 4)):FnOk P w K mg base CX0 7 f fd ["self"] (BF K C):=by
 refine F.ok Gs (7:) (λcv A outer s H vs Q E hr h=>?_)
 .obtain⟨x,lm,ls,ms,rl,n,us,W,lc,lw,rfl,_⟩:=h
  rfl
 obtain⟨x,lm,ls,ms,rl,n,us,W,lc,lw,rfl,S,R,ok,q⟩:=h;obtain⟨dx,ds,ts,hx,L,hw,b0,ew⟩:=S.ob;refine⟨_,(Qg (Qz (i:=1) Gs.nd rfl (18:) (QN ZA rfl G.lst eB (Qa (Yc (pv 0) rfl) Qc)))
  (Qg (QG bV rfl (QJ (Yc (pv 0) rfl)) (Zp rfl (Qv (Qq (i:=2) Gs.nd rfl (18:)) (Qv (Qq (i:=3) Gs.nd rfl (18:)) Za))) (Qi
   (Nc (Qt RM hr (Qa (Qk QL (pv 1) (pv 2) (λ_ _=>rfl)) (Qa (Qt RR hr (Qa (Qk QL (Qk Qj (Qk QL (Yc (pv 0) rfl) (pv 2) (λ_ _=>rfl)) Qh (λ_ _=>rfl)) (pv 3) (λ_ _=>rfl)) (Qa (Yc (pv 0) rfl) Qc)) (12:)) Qc))) (Tl (pv 1) (pv 2) Nj))))
  (Qg (Qz (i:=4) Gs.nd rfl (18:) WX)
  (Qg (QG bV rfl (Op rfl G.enu (Qa (pv 1) Qc)) (Zp rfl (Qv (Qq (i:=2) Gs.nd rfl (18:)) (Qv (Qq (i:=5) Gs.nd rfl (18:)) Za))) (Qi
   (QM (Qw X9 (pv 5) (Qk QL (Yc (pv 0) rfl) (pv 2) (λ_ _=>rfl)) (QA _)) (Qi (Zc (Ua PySem.F.plainAttrs_dict PySem.F.slot_dict_update PySem.F.type_dict_update (LQ (NM hr)) (pv 4) (Qa (Qk QL (Yc (pv 0) rfl) (pv 2) (λ_ _=>rfl)) Qc)))) Qr)))
  (Qg (UC (pv 0) (pv 1) rfl)
  (Qi (UC (pv 0) (Ql (Xj rfl) rfl G.srt PyProof.Rows.boot_sorted (Qa (pv 4) Qc)) rfl))))))),?_⟩
 refine L2.let5 ?_
 intros
 have Dl:=Y5 rl n;have cw:=S.sa.length;have bg:∀m,SOk (lookS (D rl n) m)/\ST.sl (lookS (D rl n) m)<=4:=λm=>by
  unfold lookS;cases e:(D rl n)[m.toNat]? with
  | none=>simp only [Option.getD_none,SOk,ST.sl];exact⟨trivial,by lia⟩
  | some s=>exact S.so s (aL e)
 refine⟨_,rfl,x,C,dx,_,_,rfl,hx,T.cl,T.nS,rfl,ls,us,rfl,.inl (SqL.of S.sl),λl hl=>?_⟩;have g0:=Qd hl (.lst us);refine⟨_,rfl,x,C,dx,_,_,rfl,g0 _ _ hx,T.cl,T.nW,rfl,lw,rfl,⟨_,SqL.of (g0 _ _ hw)⟩,?_⟩;have b3:=congrArg List.length ew;rw [aE,aE]at b3;refine let J_:J3:=(λi σ H'=>∃(vs:List V)(TT:List Stp)(c2 c3:Option V),σ=[some (.ref x),some (.ref l),c2,c3,none,none]/\Same H H'/\H' l=some (.lst vs)/\SAll K H' vs TT/\TT.length=rl.length/\(∀s∈TT,SOk s/\ST.sl s<=4)/\
  (∀m:Nat,Bel (lookS TT (m:Int)) (lookS (D rl n) (m:Int)))/\(∀m:Nat,Bel (lookS (D rl (n+1)) (m:Int)) (lookS TT (m:Int)))/\∀c∈W.take i,∀t,Zy ms c=some t->Bel (lookS TT c.1) (rsT (lookS (D rl n)) t));Q2 (K:=K) (xs:=Rf ts) J_
  ⟨us,D rl n,none,none,rfl,g0,Qb,S.sa.mono λ_ _=>g0.seqT,Dl,S.so,λm=>Bel.refl _,λm=>XL R.ok n m,λc U=>by simp at U⟩ ?_ ?_ ?_
 .rintro i σ H' _ ⟨vs,TT,c2,c3,_,g,_⟩;exact SqL.of (g _ _ hw)
 .rintro i y σ H' hy ⟨vs,TT,c2,c3,rfl,g,bh,aa,au,ac,av,aw,ai⟩;have hi:i<ts.length:=by have:=(aU.mp hy).1;rwa [aE]at this
  obtain rfl:y=.ref ts[i].1:=by
   rw [aK,aD hi]at hy;exact(aI hy).symm
  obtain⟨c,ec⟩: ∃c,W[i]?=some c:=⟨_,aD (5:)⟩;have et:ts[i].2=pr c:=by
   have e:=congrArg (λl=>l[i]?) ew;simp only [aK,aD hi,ec]at e;exact aI e
  have b4:SqT K H' ts[i].1 [.int c.1,.int c.2]:=by have:=g.seqT (b0 _ (aQ hi));rw [et]at this;exact this
  have a0:=S.win c (aL ec);obtain⟨m,j,md,t,rfl,aj,ax,ak⟩:=Jh a0;have bi:=aL aj;have ao:=S.mo.2 md bi;obtain⟨⟨cs,bj⟩,b5,_,ap⟩:=ok.tm md bi t (aL ax);obtain⟨tv,b6,bv⟩:=ao.2.2.get ax;have b7:m<ms.length:=(aU.mp aj).1;have ad:m<TT.length:=by rw [au,R.len];exact b7
  obtain⟨sv,a3,a4⟩:=aa.get (aD ad);have bn:=aa.length;obtain⟨o1,o2⟩:=GO (S:=lookS (D rl n)) (k:=4) (λm=>(bg m).1) (λm=>(bg m).2) (5:) t bj;have a5:=ac _ (aQ ad);refine⟨ts[i].1,_,rfl,b4,rfl,_,_,rfl,_,_,rfl,rfl,?_⟩;refine⟨_,rfl,_,rfl,l,vs,(m:Int),sv,rfl,rfl,SqL.of bh,Qo a3,_,rfl,x,C,dx,_,_,rfl,g _ _ hx,T.cl,T.nM,rfl,_,rfl,lm,_,(m:Int),.ref md.1,rfl,rfl,g.seq S.mo.1,Qo (by rw [aK,aj];rfl),md.1,_,1,_,rfl,rfl,g.seqT ao.1,rfl,_,rfl,md.2.2.1,_,(j:Int),tv,rfl,rfl,g.seq ao.2.1,Qo b6,_,rfl,x,C,dx,_,_,rfl,g _ _ hx,T.cl,T.nS,rfl,tv,ls,us,D rl n,t,cs,rfl,bv.mono λ_ _=>g.seqT,bj,b5,SqL.of (g _ _ S.sl),S.sa.mono λ_ _=>g.seqT,(by rw [Dl,R.len];exact ap),λv1 H1 g1 b8=>⟨sv,v1,TT[m],_,rfl,a4.mono λ_ _=>g1.seqT,b8,a5.1,o1,by lia,λv2 H2 g2 b9=>?_⟩⟩;have a6:=g1.trans g2;have a7:=a6 _ _ bh;refine⟨_,rfl,_,rfl,l,vs,(m:Int),m,rfl,rfl,a7,RQ (5:),?_⟩;have eT:lookS TT (m:Int)=TT[m]:=Y4 (aD ad);obtain⟨p1,p2⟩:=J0 TT[m] (rsT (lookS (D rl n)) t) a5.1;refine⟨_,TT.set m (met TT[m] (rsT (lookS (D rl n)) t)),_,_,rfl,λb u e=>?_,Qb,?_,by rw [List.length_set];exact au,λz hz=>?_,λk=>?_,λk=>?_,λc' ay t' al=>?_⟩
  .rw [Qe (Qf e hl)];exact a6 _ _ (g _ _ e)
  .exact SAll.setAt m (aa.mono λ_ _ h=>(a6.seqT h).put a7) (b9.mono λ_ _ h=>h.put a7)
  .rcases List.mem_or_eq_of_mem_set hz with hz | rfl
   .exact ac z hz
   .exact⟨p1,by lia⟩
  .rw [JL ad]
   by_cases e:k=m
   .subst e;rw [aG rfl];have:=av k;rw [eT]at this;exact(G4 _ _).trans this
   .rw [aF e];exact av k
  .rw [JL ad]
   by_cases e:k=m
   .subst e;rw [aG rfl];have h1:=aw k;rw [eT]at h1;exact Lq h1 (Vu R a0 ak)
   .rw [aF e];exact aw k
  .rw [bB,ec,eX]at ay;have ca:c'∈QP ms ms.length:=by
    rcases aX.mp ay with z | z
    .exact S.win c' (List.mem_of_mem_take z)
    .obtain rfl:=bJ.mp z;exact a0
   obtain⟨m',j',rfl,_,_⟩:=ZU.mp ca;show Bel (lookS (TT.set m _) (m':Int)) _;rw [JL ad]
   by_cases e:m'=m
   .subst e;rw [aG rfl];rcases aX.mp ay with z | z
    .have:=ai _ z t' al;have e5:lookS TT ((m':Int),(j':Int)).1=TT[m']:=eT;rw [e5]at this;exact(G4 _ _).trans this
    .have ez:=bJ.mp z;rw [ez]at al;rw [ak]at al;obtain rfl:=aI al;exact SG _ _
   .rw [aF e];rcases aX.mp ay with z | z
    .exact ai _ z t' al
    .have ez:=bJ.mp z;exact absurd (Int.ofNat.inj (congrArg Prod.fst ez)) e
 rintro σ H1 ⟨vs,TT,c2,c3,rfl,k1,a8,aa,au,ac,av,aw,ai⟩;have eW:W.take (Rf ts).length=W:=bH (17:);rw [eW]at ai;have eN:TT=D rl (n+1):=GC R au aw λc U t ht=>by
  by_cases bo:c∈W
  .exact ai c bo t ht
  .obtain⟨m,j,rfl,_,_⟩:=ZU.mp U;exact(av m).trans (S.wout _ U bo t ht)
 subst eN;intro d hd;have a9:=Qd hd (.dT []);have k2:=k1.trans a9;have bn:=aa.length;have cb:=Y5 rl (n+1);refine⟨_,rfl,l,vs,rfl,SqL.of (a9 _ _ a8),?_⟩;refine let J_:J3:=(λi σ H'=>∃(kvs:List (List Key×V))(c2 c5:Option V),σ=[some (.ref x),some (.ref l),c2,c3,some (.ref d),c5]/\Same H1 H'/\H' d=some (.dT kvs)/\(kvs.map (·.1)).Nodup/\(∀p∈kvs,∃c∈QP ms ms.length,p.1=kk c)/\
  (∀k<i,lookS (D rl (n+1)) (k:Int)≠lookS (D rl n) (k:Int)->∀J,ds[k]?=some J->∀z∈J.2.map (·.1),z∈kvs.map (·.1))/\(D rl (n+1)=D rl n->kvs=[]));LM (K:=K) (a:=l) (xs:=vs) J_
  ⟨[],c2,none,rfl,a9,Qb,fQ,λp hp=>(nomatch hp),λk hk=>absurd hk (Nat.not_lt_zero _),λ_=>rfl⟩ ?_ ?_ ?_
 .rintro i σ H' _ ⟨kvs,c2,c5,_,g,_⟩;exact SqL.of (g _ _ a8)
 .rintro i v p σ H' hv hp ⟨kvs,c2,c5,rfl,g,cc,am,ab,ag,ba⟩;have hi:i<vs.length:=(aU.mp hv).1;have az:i<(D rl (n+1)).length:=by lia
  have aq:i<(D rl n).length:=by lia
  have gp:=Qd hp (.tup [.int (i:Int),v]);obtain⟨sv,a3,a4⟩:=aa.get (aD az);obtain rfl:sv=v:=aI (a3.symm.trans hv);obtain⟨ov,ce,cf⟩:=S.sa.get (aD aq);have gg:=k1.trans (g.trans gp);have e1:lookS (D rl (n+1)) (i:Int)=(D rl (n+1))[i]:=Y4 (aD az);have e0:lookS (D rl n) (i:Int)=(D rl n)[i]:=Y4 (aD aq);obtain⟨a1,a2⟩:=NG _ (ac _ (aQ az)).1;obtain⟨b1,b2⟩:=NG _ (S.so _ (aQ aq)).1;have cx:=(ac _ (aQ az)).2;refine⟨p,_,rfl,SqT.of Qb,rfl,_,_,rfl,_,_,rfl,rfl,?_⟩;refine⟨_,rfl,_,rfl,x,C,dx,_,_,rfl,gg _ _ hx,T.cl,T.nS,rfl,_,rfl,ls,us,(i:Int),ov,rfl,rfl,SqL.of (gg _ _ S.sl),Qo ce,sd (D rl (n+1))[i],sd (D rl n)[i],(a4.mono λ_ _=>(g.trans gp).seqT).rd,(cf.mono λ_ _=>gg.seqT).rd,a1,b1,hr.fit (5:),_,rfl,?_⟩;rw [aG rfl];have bb:=gp _ _ cc;rcases Classical.em ((D rl (n+1))[i]=(D rl n)[i])with hne | hne
  .rw [Ag hne];refine QT ⟨kvs,_,_,rfl,g.trans gp,bb,am,ab,λk hk an=>?_,ba⟩
   by_cases e:k=i
   .subst e;rw [e1,e0]at an;exact absurd hne an
   .exact ag k (5:) an
  .rw [A4 hne];have bw:i<ds.length:=by rw [L.len,<-R.len];lia
   obtain⟨J,ae⟩: ∃J,ds[i]?=some J:=⟨_,aD bw⟩;have Z:=aL ae;have cg:=gg _ _ (L.dat J Z);have ch:d≠J.1:=λz=>by
    have h1:=(k1 _ _ (L.dat J Z));rw [<-z,hd]at h1;cases h1
   have bx:=Z1 ok.ten ms.length;have few:∀kv:List (List Key×V),(kv.map (·.1)).Nodup->(∀p∈kv,∃c∈QP ms ms.length,p.1=kk c)->kv.length<=(QP ms ms.length).length:=λkv h1 h2=>by
    have z:=Uv (l:=kv.map (·.1)) (r:=(QP ms ms.length).map kk) h1 λy hy=>by
     obtain⟨q',Y,rfl⟩:=aJ.mp hy;obtain⟨c,U,e⟩:=h2 q' Y;rw [e];exact aJ.mpr ⟨c,U,rfl⟩
    simpa using z
   have f1:=few kvs am ab;have f2:=few J.2 (L.nd J Z) λq' Y=>(L.kin J Z q' Y).1;have bz:=ok.four;refine Zh ⟨_,rfl,.inr (.inr (.inl ⟨rfl,.inr ⟨_,bb⟩⟩)),_,rfl,x,C,dx,_,_,rfl,gg _ _ hx,T.cl,T.nC,rfl,_,rfl,lc,_,(i:Int),.ref J.1,rfl,rfl,SqL.of (gg _ _ L.li),Qo (by rw [aK,ae];rfl),d,J.1,kvs,J.2,rfl,rfl,ch,bb,cg,by rw [QD];lia,Pi ok.four ok.ten λz hz=>?_,?_⟩
   .obtain⟨q',Y,rfl⟩:=aJ.mp hz;exact(L.kin J Z q' Y).1
   .refine⟨Zz kvs J.2,_,_,rfl,λb u e=>?_,Qb,UW _ _ am,λq' Y=>?_,λk hk an ci ar z hz=>?_,λhD=>?_⟩
    .rw [Qe (Qf e hd)];exact gp _ _ (g _ _ e)
    .rcases XB _ _ q' Y with z | z
     .exact ab q' z
     .exact(L.kin J Z q' z).1
    .by_cases e:k=i
     .subst e;rw [ae]at ar;obtain rfl:=aI ar;exact YS _ _ z (.inr hz)
     .exact YS _ _ z (.inl (ag k (5:) an ci ar z hz))
    .exact absurd (by simp only [hD]) hne
 rintro σ H3 ⟨kvs,cy,c5,rfl,g3,hd3,am,ab,ag,ba⟩;have bc:=k1.trans g3;have bp:=bc _ _ hx;refine⟨_,rfl,_,rfl,x,C,dx,_,rfl,bp,T.cl,T.nS,(by show 4<1000;decide),?_⟩;rw [K40c.g1];have i3:InsAt H3 x:=⟨_,_,_,bp⟩;have g4:SameX x H3 (upd H3 x (.ins C dx (Ye lm lc l lw))):=SameX.upd;generalize cj:upd H3 x (.ins C dx (Ye lm lc l lw))=H4 at g4 ⊢;have bd:H4 x=some (.ins C dx (Ye lm lc l lw)):=by rw [<-cj];exact Qb
 have i4:InsAt H4 x:=⟨_,_,_,bd⟩;obtain⟨cs,af,bq⟩:=Vk (l:=kvs.map (·.1)) λk hk=>by
  obtain⟨q',Y,rfl⟩:=aJ.mp hk;exact ab q' Y
 have bx:=Z1 ok.ten ms.length;have bz:=ok.four;have cu:cs.length<=(QP ms ms.length).length:=by
  have z:=Uv (l:=kvs.map (·.1)) (r:=(QP ms ms.length).map kk) am λy hy=>by
   rw [af]at hy;obtain⟨c,U,rfl⟩:=aJ.mp hy;exact aJ.mpr ⟨c,bq c U,rfl⟩
  rw [af]at z
  simpa using z
 refine⟨_,rfl,d,kvs,cs,rfl,i3.dT g4 hd3,af,by lia,λM p ah ck hp=>⟨_,rfl,x,C,dx,_,rfl,(Qd hp _) _ _ bd,T.cl,T.nW,(by show 4<1000;decide),?_⟩⟩;rw [K40c.g2];have cm:=Qd hp (.lst (M.map λt=>V.ref t.1));have g5:SameX x H4 (upd (upd H4 p (.lst (M.map λt=>V.ref t.1))) x (.ins C dx (Ye lm lc l p))):=(SameX.of cm).trans SameX.upd;have br:=g4.trans g5;have as:SameX x H (upd (upd H4 p (.lst (M.map λt=>V.ref t.1))) x (.ins C dx (Ye lm lc l p))):=(SameX.of bc).trans br;have i0:InsAt H x:=⟨_,_,_,hx⟩;have i1:InsAt H1 x:=⟨_,_,_,k1 _ _ hx⟩;have bt:SameX x H1 (upd (upd H4 p (.lst (M.map λt=>V.ref t.1))) x (.ins C dx (Ye lm lc l p))):=(SameX.of g3).trans br;have bu:p≠x:=λz=>by rw [z,bd]at hp;cases hp
 have be:M.length=cs.length:=by have:=ah.length_eq;rwa [aE]at this
 have cn:H p=none:=by
  cases e:H p with
  | none=>rfl
  | some o=>rw [((SameX.of bc).trans g4) _ _ bu e]at hp;cases hp
 refine q _ l p vs (M.map (·.2)) as hl cn ⟨⟨dx,ds,M.map λt=>(t.1,[t.2.1,t.2.2]),Qb,DsAt.insX i0 as L,?_,λt ht=>?_,?_⟩,ModesL.insX i0 as S.mo,i1.lst bt a8,aa.mono λ_ _=>i1.seqT bt,ac,λc U=>?_,by rw [aE];lia,λc U co t ht=>?_⟩ λhD=>?_
 .have e:Rf (M.map λt=>(t.1,[t.2.1,t.2.2]))=M.map λt=>V.ref t.1:=by
   show(M.map _).map _=_;rw [bX];rfl
  rw [Qe bu,Qb,e]
 .obtain⟨u,hu,rfl⟩:=aJ.mp ht;have h1:=ck u hu;exact i4.seqT g5 (SqT.of h1)
 .rw [bX,bX];rfl
 .exact bq c (ah.mem_iff.mp U)
 .have bf:∀y∈cls t,lookS (D rl (n+1)) y.1=lookS (D rl n) y.1:=λy hy=>by
   apply Classical.byContradiction;intro hne;obtain⟨m,j,md,t',rfl,aj,ax,ak⟩:=Jh U;rw [ak]at ht;obtain rfl:=aI ht;obtain⟨_,_,_,ap⟩:=ok.tm md (aL aj) t' (aL ax);obtain⟨y0,yl⟩:=ap y hy;have ey:y.1=((y.1.toNat:Nat):Int):=(eE y0).symm;have cp:y.1.toNat<ds.length:=by rw [L.len];exact yl
   obtain⟨J,ae⟩: ∃J,ds[y.1.toNat]?=some J:=⟨_,aD cp⟩;have h1:=L.all _ U t' ak y hy J ae;have cq:y.1.toNat<vs.length:=by rw [bn,cb,R.len];exact yl
   have h2:=ag y.1.toNat cq (by rw [<-ey];exact hne) J ae _ h1;rw [af]at h2;obtain⟨c2,cr,e2⟩:=aJ.mp h2;exact co (ah.mem_iff.mpr (by rw [<-SU e2];exact cr))
  rw [Ue t bf];exact Vu R U ht
 .have h0:=ba hD;rw [h0]at af;have ct:cs=[]:=by
   cases cs with
   | nil=>rfl
   | cons _ _=>cases af
  rw [ct]at be;rw [fz.mp be];rfl
end
abbrev sCommons:Stmt:=top 21
structure StgM(P:Program)(w:World)(K:Fg)(mg:Str->Option Value)(base:Heap)(C:Addr):Prop where
 t:StgT K mg C
 mi:∃f fd,Mk K C f/\FnOk P w K mg base CX0 8 f fd ["self","turning"] (M0 K C)/\Binds K fd ["self","turning"] []
 il:∃f fd,Meth K C "is_last" f/\FnOk P w K mg base CX0 1 f fd ["self"] (Vi K C)/\Binds K fd ["self"] []
 go:∃f fd,Meth K C "go_on" f/\FnOk P w K mg base CX0 7 f fd ["self"] (BF K C)/\Binds K fd ["self"] []
def far(rl:Rls)(n:Nat)(W:List (Int×Int)):Nat:=2*tsz (D rl n)+(if W=[]then 0 else 1)
theorem OG{rl:Rls}(ok:Jy rl){W W':List (Int×Int)}(hW:W≠[])(h:D rl (n+1)=D rl n->W'=[]):far rl (n+1) W'<far rl n W:=by
 obtain⟨h1,h2⟩:=Tk ok n;unfold far;rw [aF hW];rcases Classical.em (D rl (n+1)=D rl n)with e | e
 .rw [aG (h e),e];lia
 .have:=h2 e;split<;>lia
theorem Mm{K:Fg}{C:Addr}{x:Addr}{rl:Rls}{us:List V}{lc:Addr}(R:RlAt ms rl)(S:StgAt K C H x lm ms rl n ls us [] lc lw):D rl (n+1)=D rl n:=
 MA R λc G t J=>S.wout c G (λz=>nomatch z) t J
def spCm(K:Fg):Sp:=λvs H Q _=>∃(tu wd lm:Addr)(sv:V)(ks:List KdT)(st:Tm)(ms:List MdT),vs=[.ref tu]/\TurnD K H tu wd lm sv ks st ms/\TuOk ks ms/\
 ∀(ls:Addr)(us:List V)(n:Nat)(H':Hp),Same H H'->H ls=none->H' ls=some (.lst us)->SAll K H' us (D (rlOf ks ms) n)->D (rlOf ks ms) (n+1)=D (rlOf ks ms) n->Q (.ref ls) H'
section
variable{K:Fg}{C:Addr}
theorem Br:FnScope ["turning","stages"] ["turning"] (defScope sCommons):=(0:)
theorem ok_cm(F:Fun K "commons" "commons" sCommons f fd)(G:Gm mg)(M:StgM P w K mg base C):FnOk P w K mg base CX0 10 f fd ["turning"] (spCm K):=by
 obtain⟨fI,al,ab,FI,bI⟩:=M.mi;obtain⟨fL,am,mL,FL,bL⟩:=M.il;obtain⟨fG,an,mG,FG,bG⟩:=M.go;have T:=M.t;refine F.ok Br (7:) (λao A outer s H vs Q E Z h=>?_)
 .obtain⟨tu,wd,lm,sv,ks,st,ms,rfl,_⟩:=h
  rfl
 obtain⟨tu,wd,lm,sv,ks,st,ms,rfl,hT,ok,q⟩:=h;have ac:Room 1 _:=Z.mono (12:);have ad:Room 7 _:=Z.mono (12:);refine⟨_,(Qg (Qz (i:=1) Br.nd rfl (18:) (Rv ab FI Z rfl T.mgC bI .nil G6 (Qa (pv 0) Qc)))
  (Qg (JB bV (Q1 (QF (W4 (pv 1) T.cl mL FL ac bL .nil G6))) (Qi (Zc (W4 (pv 1) T.cl mG FG ad bG .nil G6))))
  (Qi (Qn (Yc (pv 1) rfl))))),?_⟩
 refine L2.let2 ?_
 intros
 refine⟨_,rfl,λx dx nx ae ne=>?_⟩;have s0:Same H (upd (upd H dx (.own x)) x (.ins C dx [])):=λb o e=>by
  rw [Qe (Qf e nx),Qe (Qf e ae)];exact e
 refine⟨x,dx,tu,wd,lm,sv,ks,st,ms,rfl,Qb,hT.same s0,ok,λH1 J L Y U gx af S=>⟨rfl,?_⟩⟩;have s1:Same H H1:=λb o e=>gx b o (Qf e nx) (s0 b o e);have aa:H J=none:=s0.free af;refine⟨λm σ H'=>∃(n:Nat)(J:Addr)(U:List V)(W:List (Int×Int))(L Y:Addr),σ=[some (.ref tu),some (.ref x)]/\Same H H'/\H J=none/\StgAt K C H' x lm ms (rlOf ks ms) n J U W L Y/\m=far (rlOf ks ms) n W,⟨_,0,J,U,_,L,Y,rfl,s1,aa,S,rfl⟩,?_⟩;rintro m σ H' ⟨n,J,U,W,L,Y,rfl,g,hl,S,rfl⟩;obtain⟨dx,ds,ts,hx,_⟩:=S.ob;refine⟨_,rfl,x,dx,_,rfl,hx,rfl,x,lm,J,ms,_,n,U,W,L,Y,rfl,S,_,rfl,?_⟩;rcases Classical.em (W.length=0)with h0 | h0
 .rw [bK h0];obtain rfl:W=[]:=fz.mp h0;refine QT ⟨_,rfl,x,C,dx,_,_,rfl,hx,T.cl,T.nS,rfl,?_⟩;exact q J U n H' g hl S.sl S.sa (Mm ok.rl S)
 .rw [bN h0];have hW:W≠[]:=λz=>h0 (by rw [z];rfl);refine Zh ⟨λag H'=>∃m',m'<far (rlOf ks ms) n W/\∃(n:Nat)(J:Addr)(U:List V)(W:List (Int×Int))(L Y:Addr),ag=[some (.ref tu),some (.ref x)]/\Same H H'/\H J=none/\StgAt K C H' x lm ms (rlOf ks ms) n J U W L Y/\m'=far (rlOf ks ms) n W,λag H' z=>z,?_⟩;refine⟨_,rfl,x,dx,_,rfl,hx,rfl,x,lm,J,ms,_,n,U,W,L,Y,rfl,S,ok.rl,ok.mo,λH2 ah ai aj W' g2 ak _ S' hw=>?_⟩;exact⟨_,OG ok.rl.ok hW hw,n+1,ah,aj,W',L,ai,rfl,λb o e=>g2 b o (Qf e nx) (g _ _ e),g.free ak,S',rfl⟩
end
end K40c
namespace K40
open PySem L2 TM TT ST K9 K11
abbrev sEB:Stmt:=top 36
abbrev sEa:Stmt:=top 35
abbrev eL:Expr:=Bw (AM sEB) 2
abbrev qL:Str:=(PyProof.Rows.envOfC "early_by" (defScope sEB) 0 0 .none).qual++"<lambda>"
abbrev pL:Pos:=Gp eL
structure KeepS(K:Fg)(H H':Hp):Prop where
 t:∀a xs,SqT K H a xs->SqT K H' a xs
 l:∀a xs,SqL K H a xs->SqL K H' a xs
theorem KeepS.tb{K:Fg}{ps:Array Value}(h:H T=some (.tbl ps))(g:SameX T H H'):KeepS K H H':=by
 constructor
 .intro a xs q;rcases q with(q | ⟨o,q⟩) | q
  .exact .inl (.inl (g _ _ (QB q h (14:)) q))
  .exact .inl (.inr ⟨o,g _ _ (QB q h (14:)) q⟩)
  .exact .inr q
 .intro a xs q;rcases q with(q | ⟨o,q⟩) | q
  .exact .inl (.inl (g _ _ (QB q h (14:)) q))
  .exact .inl (.inr ⟨o,g _ _ (QB q h (14:)) q⟩)
  .exact .inr q
theorem WoodAt.keep{K:Fg}{ks:List KdT}(g:KeepS K H H')(h:WoodAt K H wd ks):WoodAt K H' wd ks:=⟨g.l _ _ h.1,λk G=>⟨g.t _ _ (h.2 k G).1,g.l _ _ (h.2 k G).2.1,λt J=>⟨g.t _ _ ((h.2 k G).2.2 t J).1,g.t _ _ ((h.2 k G).2.2 t J).2⟩⟩⟩
theorem TurnD.keep{K:Fg}{ks:List KdT}{t0:Tm}(g:KeepS K H H')(h:TurnD K H tu wd lm sv ks t0 ms):TurnD K H' tu wd lm sv ks t0 ms:=
 ⟨g.t _ _ h.tu,WoodAt.keep g h.w,h.s.mono g.t,g.l _ _ h.m.1,λm G=>⟨g.t _ _ (h.m.2 m G).1,g.l _ _ (h.m.2 m G).2.1,(h.m.2 m G).2.2.mono g.t⟩⟩
structure Eb(S:List Stp)(st:Tm)(ms:List MdT)(x0:TX)(mk:MkP)(qs:List Ky):Prop where
 st:lv st<=4/\CallsIn S.length st/\eT (lookS S) st []=some x0/\sz x0<=400/\lv x0<=10
 eqq:qs=ZC mk 201 0 (Qp [] ((clX x0).map (·.1)))
 ln:qs.length<=200
 mo:∀q∈qs,∃(m:Nat)(p:List Nat)(md:MdT),q=((m:Int),p)/\p.length<=100/\ms[m]?=some md/\(mk q).1=md.2.1/\md.2.2.2.2.length<=100/\P8 S p md.2.2.2.2 (mk q).2
def T5(K:Fg)(T:Addr)(H:Hp)(ks:List KdT)(x0:TX)(mk:MkP)(qs:List Ky)(tu:Addr)(H':Hp):Prop:=∃(wd lm:Addr)(sv:V)(ks':List KdT)(ms':List MdT),SameX T H H'/\TbS H' T pL qL/\FrT K H H' tu wd lm sv ks' (mpX (ixP qs) x0) ms'/\dW ks'=dW ks/\dM ms'=dQ mk qs/\(∀c∈clX x0,c.1∈qs)/\∀q∈qs,∀c∈clL (mk q).2,c∈qs
def Tw(K:Fg)(T:Addr):Sp:=λvs H Q _=>∃(tu wd lm ls:Addr)(sv:V)(ks:List KdT)(st:Tm)(ms:List MdT)(us:List V)(S:List Stp)(x0:TX)(mk:MkP)(qs:List Ky),vs=[.ref tu,.ref ls]/\TbS H T pL qL/\TurnD K H tu wd lm sv ks st ms/\ks.length<=100/\SsAt K H ls us S/\Eb S st ms x0 mk qs/\
 ∀(r tu' d:Addr)(H':Hp),SqT K H' r [.ref tu',.ref d]->T5 K T H ks x0 mk qs tu' H'->Q (.ref r) H'
def Wa(K:Fg)(T:Addr):Sp:=λvs H Q _=>∃(tu wd lm:Addr)(sv:V)(ks:List KdT)(st:Tm)(ms:List MdT),vs=[.ref tu]/\TbS H T pL qL/\TurnD K H tu wd lm sv ks st ms/\ks.length<=100/\K40c.TuOk ks ms/\
 (∀n,D (rlOf ks ms) (n+1)=D (rlOf ks ms) n->(∀s∈D (rlOf ks ms) n,SOk s/\sl s<=4)/\∃x0 mk qs,Eb (D (rlOf ks ms) n) st ms x0 mk qs/\∀(tu':Addr)(H':Hp),T5 K T H ks x0 mk qs tu' H'->Q (.ref tu') H')
section
variable{K:Fg}
theorem Bb:FnScope ["turning","stumps","start"] ["turning","stumps"] (defScope sEB):=(0:)
theorem OW:∀y∈(Qy eL).names,y.2≠NameKind.cell:=by decide+kernel
theorem Pz:∀y∈(Qy eL).names,y.2=NameKind.local->y.1=Str.ofString "pair":=by decide+kernel
theorem R5:∀y∈(Qy eL).names,y.2=NameKind.free->y.1=Str.ofString "turning" \/y.1=Str.ofString "stumps":=by decide+kernel
theorem Bh:Str.ofString "turning"≠Str.ofString "stumps":=by decide+kernel
theorem AU{fA:Addr}{fdA:FuncData}(F:Fun K "early_by" "early_by" sEB f fd)(hn:PySem.W.nsIn K mainGlobals "early_by"=some (some (.ref f)))(hTb:PySem.W.tabIn K "early_by"=some (c,T))(hC:PySem.W.codeHdIn K c T=true)(hB:X5 mg base)
 (RT:Fn P w K mg base 12 "early_term" ["term","place","stumps"] (P3 K)) {t200:Tok} (h200:mg "MOST_MODES"=some (.int 200 t200))
 (FA:∀g:Heap,FnOk P w K mg g CX0 (10+14+3) fA fdA ["wood","start","mode_by","most"] (B7 P w K mg g 14 10)) (hmA:mg "as_met"=some (.ref fA)) (hkA:PySem.W.keepIn K (.ref fA)=true) (bA:Binds K fdA ["wood","start","mode_by","most"] [])
 (RB:∀g:Heap,Fn P w K mg g 13 "early_mode" ["turning","stumps","pair"] (AG K)):FnOk P w K mg base CX0 40 f fd ["turning","stumps"] (Tw K T):=by
 refine Fun.okC F hn hTb Bb (7:) (λA outer s H vs Q E hr h=>?_)
 .obtain⟨tu,wd,lm,G,sv,ks,st,ms,U,S,x0,mk,qs,rfl,_⟩:=h
  rfl
 obtain⟨tu,wd,lm,G,sv,ks,st,ms,U,S,x0,mk,qs,rfl,tb,hT,aj,Y,hE,q⟩:=h;have ak:Room 12 _:=hr.mono (12:);have al:Room (10+14+3) _:=hr.mono (12:);refine⟨_,(Qg (Qz (i:=2) Bb.nd rfl (18:) (Qt RT ak (Qa (2:) (Qa (QE Qc) (Qa (pv 1) Qc)))))
  (Qi (Qn (At (λg _=>FA g) al hmA hkA bA (λ_=>rfl) (Qa (2:) (Qa (pv 2) (Qa (Rc (c:=c) (T:=T) rfl hC hB) (Qa (Uf (v:=.int 200) rfl h200 ⟨_,rfl⟩) Qc)))))))),?_⟩
 refine L2.let1 ?_
 intros
 obtain⟨s1,s2,s3,s4,s5⟩:=hE.st;refine⟨_,rfl,tu,_,1,_,rfl,rfl,hT.tu,rfl,(by show 0<=sizeLine;decide),λp0 am=>?_⟩;have g0:=Qd am (.tup []);refine⟨_,rfl,sv,p0,G,st,[],U,S,x0,rfl,hT.s.mono λ_ _=>g0.seqT,s1,SqT.of Qb,by decide,Y.same g0,s2,s3,s4,s5,λv H7 g7 an=>?_⟩;have J:Same H H7:=g0.trans g7;have aa:=tb.same J;obtain⟨bb,ag⟩:=aa.at;have ab:=hT.same J;refine⟨_,rfl,tu,_,0,_,rfl,rfl,ab.tu,rfl,_,rfl,aa,λL H8 x8 bc ao ac g hs hc=>?_⟩;have Z:=KeepS.tb (K:=K) ag x8;have ad:=TurnD.keep Z ab;have ap:SsAt K H8 G U S:=⟨Z.l _ _ (J.seq Y.l),(Y.a.mono λ_ _=>J.seqT).mono Z.t,Y.o⟩;obtain⟨c1,u1,e1,i1,v1⟩:=hc 0 "turning" (.ref tu) rfl rfl rfl;obtain⟨c2,u2,e2,i2,v2⟩:=hc 1 "stumps" (.ref G) rfl rfl rfl;refine⟨wd,L,v,ks,x0,eL,_,mk,200,qs,rfl,ad.w,aj,an.mono Z.t,s5,by lia,ao,?_,by decide,hE.eqq,hE.ln,λp hp=>?_,λr aq lw ar d as au ms' H9 g9 av aw ax ay ah az a0 m1 m2 m3 m4 m5=>?_⟩
 .obtain rfl:s.heap.objs.size+1=c1:=aI e1;obtain rfl:s.heap.objs.size+1+1=c2:=aI e2;have M:=ClAt.two (aV Bh) (Nat.ne_of_gt (Nat.lt_succ_self _)) i2 i1 v2 v1;refine No (k:=13) (x:=Str.ofString "pair") (N:=["stumps","turning"]) (vs:=[.ref G,.ref tu]) rfl rfl rfl OW (λy hy=>Pz _ (dY hy) rfl) (1:) (1:) (λx hx=>?_) M (7:) (λ_ _ _ _ _=>rfl) (λba f' c' A' a1 s' H' v' Q' E' a3 h'=>?_)
  .rcases R5 _ (dY hx) rfl with z | z
   .have z':x=Str.ofString "turning":=z;rw [z'];obtain⟨c0,u0,e0,_⟩:=M.val 1 (Str.ofString "turning") (.ref tu) rfl rfl;exact⟨c0,e0⟩
   .have z':x=Str.ofString "stumps":=z;rw [z'];obtain⟨c0,u0,e0,_⟩:=M.val 0 (Str.ofString "stumps") (.ref G) rfl rfl;exact⟨c0,e0⟩
  .obtain⟨pp,pr,rfl,_⟩:=h
   rfl
  .obtain⟨pp,pr,ev,gH,ae,a4,q'⟩:=h';obtain rfl:v'=.ref pp:=by injection ev
   obtain⟨m,pl,md,ei,a5,a6,a7,af,a8⟩:=hE.mo pr a4;refine⟨_,Qt (RB g) a3 (Qa (pv 2) (Qa (pv 1) (Qa (pv 0) Qc))) (4:),?_⟩;rw [ei]at ae;rw [a7]at q';exact⟨_,rfl,_,rfl,_,rfl,tu,wd,lm,G,pp,sv,ks,st,ms,U,S,m,pl,md,(mk pr).2,rfl,ad.same gH,ap.same gH,ae,a5,a6,af,a8,q'⟩
 .obtain⟨m,pl,md,rfl,_,_,_,af,bd,a9⟩:=hE.mo p hp;refine⟨by lia,λo ho=>?_⟩;obtain⟨j,hj,ej⟩:=bW ho;obtain⟨_,_,_,z1,z2⟩:=a9 j _ _ (aD (show j<md.2.2.2.2.length by lia)) (aD hj);rw [ej]at z1 z2;exact⟨z2,by lia⟩
 .refine q r aq d H9 av ⟨lw,ar,as,au,ms',λb u nb e=>g9 _ _ (x8 b u nb (J _ _ e)),ac.same g9,FrT.lift (λb hb=>?_) ⟨aw,ax,ah,az,m1,m2,m3⟩,ay,a0,m4,m5⟩;refine Same.none J ?_;cases e:H7 b with
  | none=>rfl
  | some u=>
   obtain⟨be,ai⟩:=ac.at;rw [x8 b u (λz=>by rw [z,ai]at hb;cases hb) e]at hb;cases hb
theorem Cs:FnScope ["turning"] ["turning"] (defScope sEa):=(0:)
theorem AY(F:Fun K "early" "early" sEa f fd)(RC:Fn P w K mg base 10 "commons" ["turning"] (K40c.spCm K))(RB:Fn P w K mg base 40 "early_by" ["turning","stumps"] (Tw K T)):FnOk P w K mg base CX0 41 f fd ["turning"] (Wa K T):=by
 refine F.ok Cs (7:) (λae A outer s H vs Q E J h=>?_)
 .obtain⟨tu,wd,lm,sv,ks,st,ms,rfl,_⟩:=h
  rfl
 obtain⟨tu,wd,lm,sv,ks,st,ms,rfl,tb,L,hk,hO,q⟩:=h;have G:Room 10 _:=J.mono (12:);refine⟨_,(Qi (Qn (Qk Qj (Qt RB J (Qa (pv 0) (Qa (Qt RC G (Qa (pv 0) Qc)) Qc))) Qh (λ_ _=>rfl)))),?_⟩;refine⟨_,rfl,_,rfl,tu,wd,lm,sv,ks,st,ms,rfl,L,hO,λls us n H1 g1 af M hS hD=>?_⟩;obtain⟨o,x0,mk,qs,hE,q'⟩:=q n hD;refine⟨tu,wd,lm,ls,sv,ks,st,ms,us,_,x0,mk,qs,rfl,tb.same g1,L.same g1,hk,⟨SqL.of M,hS,o⟩,hE,λr U d H2 Y Z=>⟨r,_,0,_,rfl,rfl,Y,rfl,q' U H2 ?_⟩⟩;obtain⟨aa,ab,ac,ad,ms',a1,a2,a3,a4⟩:=Z;exact⟨aa,ab,ac,ad,ms',λb u nb e=>a1 b u nb (g1 _ _ e),a2,a3.lift λb hb=>Same.none g1 hb,a4⟩
end
theorem Nb(ps:List Ky)(xs:List TX)(i:Nat):∃r,Qp ps (clL xs)=Qp ps (clL (xs.take i))++r:=by
 have e:clL xs=clL (xs.take i)++clL (xs.drop i):=by
  unfold clL;rw [<-aP,<-Jn,fY]
 rw [e,Zq];exact ZE
def NS(K:Fg):Sp:=λvs H Q _=>∃(tu wd lm ls:Addr)(sv:V)(ks:List KdT)(st:Tm)(ms:List MdT)(us:List V)(S:List Stp)(x0:TX)(mk:MkP)(qs:List Ky),vs=[.ref tu,.ref ls]/\TurnD K H tu wd lm sv ks st ms/\SsAt K H ls us S/\Eb S st ms x0 mk qs/\
 ∀(tu' lm':Addr)(sv':V)(ms':List MdT)(H':Hp),Same H H'->SqT K H' tu' [.ref wd,sv',.ref lm']->TmV K H' sv' (mpX (ixP qs) x0)->NewMo K H H' lm' ms'->dM ms'=dQ mk qs->Q (.ref tu') H'
def CV:List G3.S:=[.set 2 (.lst []),.set 3 (.call 0 [.call 1 [.ix (.v 0) (.k (.int 1)),.v 1],.v 2]),.set 4 (.lst []),.wh (.cmp .Lt (.call 2 [.v 4]) (.call 2 [.v 2])) [.unp [5,6] (.ix (.v 2) (.call 2 [.v 4])),.unp [7,8] (.ix (.ix (.v 0) (.k (.int 2))) (.v 5)),.setC 9 (.comp 1 (.v 8) [6,1] (.call 3 [.call 1 [.v 0,.v 2],.v 1])),.ex (.meth 0 (.v 4) [.tup [.v 7,.comp 1 (.v 9) [2] (.call 0 [.v 0,.v 1])]])],.ret (.tup [.ix (.v 0) (.k (.int 0)),.v 3,.v 4])]
def CQ(K:Fg):G3.En:=⟨K,[λ_ vs H Q=>XE K 10 vs H Q E0,λ_ vs H Q=>XO K 4 vs H Q E0,λ_ vs H Q=>G3.rLen K vs H Q,λ_ vs H Q=>O2 K vs H Q E0],[G3.mApp K],[],[]⟩
structure MsL(K:Fg)(H H':Hp)(lm lp:Addr)(mk:MkP)(qs:List Ky)(j:Nat)(mos:List MdT):Prop where
 l:H' lm=some (.lst (mos.map λm=>V.ref m.1))
 m:∀m∈mos,SqT K H' m.1 [.str m.2.1,.ref m.2.2.1]/\H' m.2.2.1=some (.lst m.2.2.2.1)/\H m.2.2.1=none/\m.2.2.1≠lm/\m.2.2.1≠lp/\TmAll K H' m.2.2.2.1 m.2.2.2.2
 e:dM mos=(qs.take j).map λp=>((mk p).1,(mk p).2.map (mpX (ixP qs)))
theorem MsL.go{K:Fg}{lp:Addr}{mos:List MdT}(h:MsL K H H1 lm lp mk qs j mos)(n:lm≠lp)(e:H1 lp=some (.lst ys))(g:SameX lp H1 H2):MsL K H H2 lm lp mk qs j mos:=
 have k:=Zt (K:=K) e g
 ⟨g _ _ n h.l,λm J=>by
  obtain⟨L,a2,M,U,G,Y⟩:=h.m m J;exact⟨k _ _ L,g _ _ G a2,M,U,G,Y.mono k⟩,h.e⟩
section
variable{K:Fg}
theorem BM:FnScope ["_law_turning_here","_law_stumps","_law_pairs","_law_start","_law_modes","_law_mode","_law_place","_law_kind","_law_rules","_law_parts"] ["_law_turning_here","_law_stumps"] (defScope sEL):=(0:)
theorem SX(F:Fun K "_law_early" "_law_early" sEL f fd)(G:Gm mg)(RN:Fn P w K mg base 11 "_law_numbered" ["_law_term_here","_law_pairs"] (XE K 10))(RF:Fn P w K mg base 9 "_law_filled" ["_law_term_here","_law_stumps"] (XO K 4))(RB:Fn P w K mg base 1 "_law_below" ["_law_term_here","_law_place"] (O2 K)):FnOk P w K mg base CX0 12 f fd ["_law_turning_here","_law_stumps"] (NS K):=by
 refine G3.Fun.okC F BM (CQ K) CV (λX c=>⟨.cons (c.fn RN (12:)) (.cons (c.fn RF (12:)) (.cons (c.blt (λX=>G3.call_len X) G.len bO) (.cons (c.fn RB (12:)) .nil))),.cons (c.meth G3.m_append) .nil,.nil⟩) (7:) (λH vs Q E h=>?_) G.rng
 .obtain⟨tu,wd,lm,ls,sv,ks,st,ms,us,S,x0,mk,qs,rfl,_⟩:=h
  rfl
 obtain⟨tu,wd,l0,ls,sv,ks,st,ms,us,S,x0,mk,qs,rfl,hT,hS,hE,q⟩:=h;obtain⟨s1,s2,s3,s4,s5⟩:=hE.st;rw [Z3]at s3;have bc:=aI s3;have bv:=hE.ln;obtain⟨r0,an⟩:=Zx mk (F:=201) (m:=0) (ps:=Qp [] ((clX x0).map (·.1)));rw [<-hE.eqq]at an;have bd:=congrArg List.length an;rw [aW]at bd;refine⟨λY H1 g1 e1 n1=>.t _ _ (g1.seqT hT.tu) rfl ⟨sv,ls,st,us,S,rfl,hT.s.mono λ_ _=>g1.seqT,s1,hS.same g1,s2,λv1 H2 g2 av=>?_⟩⟩;rw [bc]at av;have e2:=g2 _ _ e1;refine⟨v1,Y,x0,[],[],rfl,av,s5,⟨e2,λt ht=>(nomatch ht),rfl⟩,by lia,λv2 ts H3 g3 L ag=>?_⟩;have be:=g1.trans g2;have s3:Same H H3:=λb u e=>g3 b u (Qf e n1) (be b u e);have ag:=ag r0;rw [<-an]at ag;refine⟨λlm H4 g4 e4 n4=>?_⟩;have ao:lm≠Y:=λz=>by rw [z,L.l]at n4;cases n4
 have nH:H lm=none:=Same.none s3 n4;have bf:H Y=none:=n1;refine let J_:J3:=(λM σ H'=>∃(j:Nat)(ps:List Ky)(ts:TsP)(Z:List MdT)(c5 c6 c7 c8 c9:Option V),σ=[some (.ref tu),some (.ref ls),some (.ref Y),some v2,some (.ref lm),c5,c6,c7,c8,c9]/\Same H H'/\PrsAt K H' Y ps ts/\TmV K H' v2 (mpX (ixP qs) x0)/\MsL K H H' lm Y mk qs j Z/\Z.length=j/\M+j=201/\ZC mk (201-j) j ps=qs/\j<=ps.length);.w J_ 201
  ⟨0,_,ts,[],none,none,none,none,none,rfl,s3.trans g4,⟨g4 _ _ L.l,L.p.mono λ_ _=>g4.seqT,L.e⟩,ag.mono λ_ _=>g4.seqT,⟨e4,λm hm=>(nomatch hm),rfl⟩,rfl,rfl,hE.eqq.symm,bE _⟩ ?_
 rintro M σ H' ⟨j,ps,ts,Z,c5,c6,c7,c8,c9,rfl,g,L,hv,hM,hj,bw,U,bx⟩;have bz:ts.length=ps.length:=by rw [<-L.e,aE]
 have b0:ps.length<=qs.length:=by
  obtain⟨r,er⟩:=Zx mk (F:=201-j) (m:=j) (ps:=ps);rw [U]at er;rw [er,aW];lia
 refine .l _ (SqL.of hM.l)<| .l _ (SqL.of L.l)<|G3.iteI (λc=>?_) λc=>?_
 .rw [aE,aE]at c;have ae:j<ps.length:=by lia
  have ap:j<ts.length:=by lia
  have et:ts[j].2=ps[j]:=by
   have:(ts.map (·.2))[j]?=ps[j]?:=by rw [L.e]
   rw [aK,aD ap,aD ae]at this;exact aI this
  have aw:=aD ae;obtain⟨pc,ax,ay⟩:=L.p _ (aQ ap);rw [et]at ax ay;have hF:201-j=(200-j)+1:=by lia
  rw [hF,ZC,aw]at U;have U:ZC mk (200-j) (j+1) (Qp ps (clL (mk ps[j]).2))=qs:=U;obtain⟨r2,ah⟩:=Zx mk (F:=200-j) (m:=j+1) (ps:=Qp ps (clL (mk ps[j]).2));rw [U]at ah;have az:qs[j]?=some ps[j]:=by
   obtain⟨r1,bg⟩:=ZE (l:=clL (mk ps[j]).2) (ps:=ps);rw [ah,bg,dE,fq ae,aw]
  have bu:(Qp ps (clL (mk ps[j]).2)).length<=qs.length:=by rw [ah,aW];lia
  have b1:ps.length<=(Qp ps (clL (mk ps[j]).2)).length:=YA;obtain⟨m,p,md,eq,b3,a0,ek,b4,bh⟩:=hE.mo _ (aL az);generalize ps[j]=pj at*;subst eq;have aq:=hT.same g;obtain⟨d1,d2,d3⟩:=aq.m.2 md (aL a0);have b5:=d3.length;obtain⟨b6,a7⟩:=bh;refine .l _ (SqL.of hM.l)<| .l _ (.ref ts[j].1) (SqL.of L.l) (by rw [aE,hj];exact Qo (by rw [aK,aD ap];rfl))<| .u _ ax<| .t _ _ aq.tu rfl<| .l _ (.ref md.1) aq.m.1 (Qo (by rw [aK,a0];rfl))<| .u _ d1<| .l _ d2<|let J_:JA:=(λacc i ys H1=>Same H' H1/\H1 acc=some (.lst ys)/\ys.length=i/\TxAll K H1 ys ((mk ((m:Int),p)).2.take i));.m J_ (5:) (λacc H1 na g e=>⟨g,e,rfl,.nil⟩) (λacc i ys H1 h=>h.1.seq d2) (λacc i ys H1 hi _ na ⟨gi,e,a8,ai⟩=>?_) λl9 ys H1 n9 ⟨g9,e9,a8,ai⟩=>?_
  .have hc:=aD (show i<md.2.2.2.2.length by lia);have hx:=aD (show i<(mk ((m:Int),p)).2.length by lia);obtain⟨cv,ar,as⟩:=d3.get hc;have ex:(md.2.2.2.1[i]?).getD .non=cv:=by rw [ar];rfl
   rw [ex];obtain⟨z1,z2,z3,z4,z5⟩:=a7 i _ _ hc hx;refine⟨cv,ls,_,us,S,rfl,as.mono λ_ _=>gi.seqT,z1,hS.same (g.trans gi),z2,λv' H5 J bi=>⟨v',pc,_,_,p,rfl,bi,(gi.trans J).seqT ay,Ou z3,λv6 bj=>⟨J _ _ e,λb u eb=>?_,Qb,by simp [a8],?_⟩⟩⟩
   .rw [Qe (Qf eb na)];exact J _ _ (gi _ _ eb)
   rw [bB,hx];exact TxAll.append (ai.mono λ_ _ h=>(J.seqT h).put (J _ _ e)) (.cons (bj.mono λ_ _ h=>h.put (J _ _ e)) .nil)
  rw [bH (5:)]at ai;generalize bn:(mk ((m:Int),p)).2=xs at*;have aa:PrsAt K H1 Y ps ts:=⟨g9 _ _ L.l,L.p.mono λ_ _=>g9.seqT,L.e⟩;have au:MsL K H H1 lm Y mk qs j Z:=hM.go ao L.l (λb u _ e=>g9 b u e);have bo:l9≠Y:=λz=>by rw [z,L.l]at n9;cases n9
  have b7:l9≠lm:=λz=>by rw [z,hM.l]at n9;cases n9
  have bp:∀o∈xs,lv o<=10:=λo ho=>by
   obtain⟨i,hi,ei⟩:=bW ho;obtain⟨_,_,_,_,z5⟩:=a7 i _ _ (aD (show i<md.2.2.2.2.length by lia)) (aD hi);rw [ei]at z5;exact z5
  refine⟨G3.tyL au.l,.l ys (SqL.of e9)<|let J_:JA:=(λacc i zs H2=>∃ac,SameX Y H1 H2/\H2 acc=some (.lst zs)/\PrsAt K H2 Y (Qp ps (clL (xs.take i))) ac/\zs.length=i/\TmAll K H2 zs ((xs.take i).map (mpX (ixP qs))));.m J_ (5:) (λacc H2 ha g e=>⟨ts,λb u _ e=>g b u e,e,⟨g _ _ aa.l,aa.p.mono λ_ _=>g.seqT,aa.e⟩,rfl,.nil⟩) (λacc i zs H2 ⟨ac,g,_⟩=>SqL.of (g _ _ bo e9)) (λacc i zs H2 hi _ ha ⟨ac,gx,e,ab,a9,aj⟩=>?_) λacc zs H2 ha ⟨ac,gx,e,ab,a9,aj⟩=>?_⟩
  .have hx:=aD (show i<xs.length by lia);obtain⟨cv,ar,as⟩:=ai.get hx;have ex:(ys[i]?).getD .non=cv:=by rw [ar];rfl
   rw [ex];have kx:=Zt (K:=K) aa.l gx;have ba:xs.take (i+1)=xs.take i++[xs[i]]:=by rw [bB,hx];rfl
   have af:Qp ps (clL (xs.take (i+1)))=Qp (Qp ps (clL (xs.take i))) ((clX xs[i]).map (·.1)):=by rw [ba,JI,Zq]
   have hz:=V9 ps xs (i+1);refine⟨cv,Y,xs[i],_,ac,rfl,as.mono kx,bp _ (aQ _),ab,by rw [<-af];lia,λv' bq H3 g3 ak al=>?_⟩;rw [<-af]at ak;have am:acc≠Y:=λz=>by rw [z,aa.l]at ha;cases ha
   have ea:=g3 _ _ am e;have k3:=Zt (K:=K) ab.l g3;obtain⟨r3,br⟩:=Nb ps xs (i+1);have al:=al (r3++r2);rw [<-af,<-dE,<-br,<-ah]at al;refine⟨ea,bq,λb u nb eb=>?_,Qb,⟨?_,ak.p.mono λ_ _ h=>SqT.put h ea,ak.e⟩,by simp [a9],?_⟩
   .rw [Qe (Qf eb ha)];exact g3 _ _ nb (gx _ _ nb eb)
   .rw [Qe (λz=>am z.symm)];exact ak.l
   .rw [ba,aP];exact TmAll.append (aj.mono λ_ _ h=>SqT.put (k3 _ _ h) ea) (.cons (al.mono λ_ _ h=>SqT.put h ea) .nil)
  rw [bH (5:)]at ab aj;have ad:=au.go ao aa.l gx;have am:acc≠Y:=λz=>by rw [z,aa.l]at ha;cases ha
  have bb:acc≠lm:=λz=>by rw [z,au.l]at ha;cases ha
  have k2:=Zt (K:=K) aa.l gx;have g2:Same H H2:=λb u eb=>gx b u (λz=>by rw [z,bf]at eb;cases eb) (g9 _ _ (g _ _ eb));refine⟨λp5 H5 J d5 e5=>⟨lm,_,_,rfl,rfl,J _ _ ad.l,by rw [aE,show sizeLine=16777216 by decide];lia,200-j,by lia,j+1,Qp ps (clL xs),ac,Z++[(p5,md.2.1,acc,zs,xs.map (mpX (ixP qs)))],_,_,_,_,_,rfl,λb u eb=>?_,⟨?_,ab.p.mono λ_ _ h=>SqT.put (J.seqT h) (J _ _ ad.l),ab.e⟩,?_,⟨?_,λx hx=>?_,?_⟩,by simp [hj],by lia,by rw [show 201-(j+1)=200-j by lia];exact U,by lia⟩⟩
  .rw [Qe (Qf eb nH)];exact J _ _ (g2 _ _ eb)
  .rw [Qe (λz=>ao z.symm)];exact J _ _ ab.l
  .exact((hv.mono λ_ _=>g9.seqT).mono k2).mono λ_ _ h=>SqT.put (J.seqT h) (J _ _ ad.l)
  .rw [Qb,aP];rfl
  .have put:∀a xs,SqT K H5 a xs->SqT K (upd H5 lm (.lst (Z.map (λm=>V.ref m.1)++[.ref p5]))) a xs:=λ_ _ h=>SqT.put h (J _ _ ad.l);rcases aX.mp hx with z | z
   .obtain⟨a1,a2,a3,a4,a5,a6⟩:=ad.m x z;exact⟨put _ _ (J.seqT a1),by rw [Qe a4];exact J _ _ a2,a3,a4,a5,a6.mono λ_ _ h=>put _ _ (J.seqT h)⟩
   .rw [bJ.mp z];exact⟨put _ _ d5,by rw [Qe bb];exact J _ _ e,Same.none (g.trans g9) ha,bb,am,aj.mono λ_ _ h=>put _ _ (J.seqT h)⟩
  .rw [bB,az,aP,<-ad.e];show dM (Z++[_])=_;unfold dM;rw [aP];show _++[(md.2.1,xs.map (mpX (ixP qs)))]=_++[((mk ((m:Int),p)).1,(mk ((m:Int),p)).2.map (mpX (ixP qs)))];rw [ek,bn]
 .rw [aE,aE]at c;have ae:j=ps.length:=by lia
  have bt:ps=qs:=by
   rw [<-U];cases e:201-j with
   | zero=>rw [ZC]
   | succ n=>rw [ZC,dJ (5:)]
  subst bt;refine .t _ _ (g.seqT hT.tu) rfl ⟨λpr H5 J d5 _=>q pr lm v2 Z H5 (g.trans J) d5 (hv.mono λ_ _=>J.seqT) ⟨nH,J _ _ hM.l,λm hm=>?_⟩ ?_⟩
  .obtain⟨a1,a2,a3,a4,a5,a6⟩:=hM.m m hm;exact⟨J.seqT a1,J _ _ a2,a3,a4,a6.mono λ_ _=>J.seqT⟩
  .rw [hM.e,ae,dN];rfl
end
end K40
namespace K40
open K51
open PySem L2 TM TT ST K9 K11
section
variable{K:Fg}
theorem A2:FnScope ["_law_term_here"] ["_law_term_here"] (defScope Aw):=(0:)
theorem T4(F:Fun K "_law_unkept" "_law_unkept" Aw f fd)(G:Gm mg)(R:Fn P w K mg base n "_law_unkept" ["_law_term_here"] (Xu K n)):FnOk P w K mg base CX0 (n+1) f fd ["_law_term_here"] (Xu K (n+1)):=by
 refine F.ok A2 (7:) (λas A outer s H vs Q E hr h=>?_)
 .obtain⟨v,t,p,rfl,_⟩:=h
  rfl
 obtain⟨v,t,ae,rfl,ht,Y,aj,q⟩:=h;refine⟨_,(Qg (QM (Qw ZX (2:) Zi (QA _)) (Qi (Qn (pv 0))) Qr)
  (Qi (Qn (QE (Qa (Zi) (Qa (2:) (Qa (ZN) (Qa (2:) (Qa (QN Q6 rfl G.tup cK (Qa (QO (CompG.many (xs:=["_law_part"]) (caps:=[]) (cap:=[]) (cs:=[]) rfl rfl (1:) (1:) (1:) (1:) (1:) (1:) rfl rfl rfl) rfl (YQ (2:)) (YZ (CompG.many (xs:=["_law_part"]) (caps:=[]) (cap:=[]) (cs:=[]) rfl rfl (1:) (1:) (1:) (1:) (1:) (1:) rfl rfl rfl)) (λ_ _ _ _=>Zn) (λ_ _ _ _=>Qt R hr (Qa (pv 0) Qc) (4:))) Qc)) Qc))))))))),?_⟩
 refine L2.let1 ?_
 intros
 have ak:¬V.str PUT=V.str ZD:=by decide+kernel
 rcases tm_op ht with⟨a,m,b,rfl,rfl,h1⟩ | ⟨a,b,bs,nm,k,ad,Z,rfl,rfl,h1,h2,h3,h4⟩
 .exact⟨_,rfl,a,_,0,_,rfl,rfl,h1,rfl,rfl,_,rfl,R1 rfl ⟨_,rfl,q _ H _ (Same.refl _) ht Y ⟨aY _,aY _⟩ (by simp [kp,kpl,kps])⟩⟩
 refine⟨_,rfl,a,_,0,_,rfl,rfl,h1,rfl,rfl,_,rfl,JD ak ?_⟩;have l3:=h3.length;simp only [TPr]at Y;simp only [lv]at aj q;refine⟨_,rfl,a,_,1,_,rfl,rfl,h1,rfl,_,rfl,a,_,3,_,rfl,rfl,h1,rfl,_,rfl,a,_,4,_,rfl,rfl,h1,rfl,b,rfl,⟨_,h2⟩,λacc aa=>?_⟩;refine let J_:JC:=(λi ys H'=>∃J:List Tm,H' acc=some (.lst ys)/\Same H H'/\TmAll K H' ys J/\J.length=i/\szs J<=szs (Z.take i)/\∀u∈J,TPr ae u/\lv u<=lvs Z/\kp u=false);Ux (K:=K) (xs:=bs) (cs:=[]) (tt:=λ_ H Q=>Q true H) (te:=Y3 (Xu K n) [] E0 (QZ (ZT 0) YF)) J_
  ⟨[],Qb,Qd aa _,.nil,rfl,by simp [szs],λt ht=>(nomatch ht)⟩ ?_ ?_ ?_
 .rintro i ys H' _ ⟨J,_,g,_⟩;exact g.seqT h2
 .rintro i x ys H' hi hx ⟨J,ab,g,L,af,ag,M⟩;have ac:i<Z.length:=by lia
  have ai:=L.length;obtain⟨cv,al,am⟩:=h3.get (aD ac);obtain rfl:cv=x:=aI (al.symm.trans hx);have hm:=aQ ac;have a1:=ZL hm;refine Zh ⟨_,rfl,cv,Z[i],ae,rfl,am.mono λ_ _=>g.seqT,(TPrs_iff _ Z).mp Y.2.2 _ hm,by lia,λv4 H4 t4 g4 an ao ⟨au,av⟩ ap=>?_⟩;have U:=g4 _ _ ab;refine QC (ys:=ys) hi U (5:) ⟨J++[t4],Qb,λx u e=>by rw [Qe (Qf e aa)];exact g4 _ _ (g _ _ e),?_,by simp [af],?_,λu hu=>?_⟩
  rotate_left
  .rw [Je,bB,aD ac,Je];simp only [eX,szs];lia
  rotate_left
  .exact TmAll.append (L.mono λ_ _ h=>(g4.seqT h).put U) (.cons (an.mono λ_ _ h=>h.put U) .nil)
  .rcases aX.mp hu with z | z
   .exact M u z
   .have:u=t4:=by simpa using z
    rw [this];exact⟨ao,by lia,ap⟩
 rintro ys H4 ⟨J,ab,g4,L,af,ag,M⟩;have ai:=L.length;refine⟨acc,ys,rfl,.inl ⟨SqL.of ab,λpt aq=>⟨(by show 5<=sizeLine;decide),λpp ar=>?_⟩⟩⟩;have ga:=Qd aq (.tup ys);have gb:=Qd ar (.tup [.str PUT,.str nm,.bl false,.int ad,.ref pt]);have ah:=ga.trans gb;refine q (.ref pp) _ (.node (.put nm false ad) 0 J) (g4.trans ah) (.put (SqT.of Qb) (gb.seqT (SqT.of Qb)) (L.mono λ_ _=>ah.seqT) (5:)) ?_ ?_ ?_
 .simp only [TPr];exact⟨Y.1,by lia,(TPrs_iff _ J).mpr λb hb=>(M b hb).1⟩
 .rw [bH (5:)]at ag;simp only [lv,sz];have:=LB λb hb=>(M b hb).2.1;lia
 .simp only [kp,kpl,Bool.false_or];rw [Ly];cases e:(J.map kp).any id with
  | false=>rfl
  | true=>
   rw [List.any_map,List.any_eq_true]at e;obtain⟨u,hu,e2⟩:=e;have e3:kp u=true:=e2;rw [(M u hu).2.2]at e3;cases e3
end
def Wo(K:Fg):Sp:=λvs H Q _=>∃(tu wd lm:Addr)(sv:V)(ks:List KdT)(st:Tm)(ms:List MdT),vs=[.ref tu]/\TurnD K H tu wd lm sv ks st ms/\WoodOk ks/\ms.length<=10/\
 ∀(tu' wd' lm':Addr)(hs:List KdT)(ms':List MdT)(H':Hp),Same H H'->FrT K H H' tu' wd' lm' sv hs st ms'->hs.map QR=ks.map QR->ms'.map MdT.md=ms.map MdT.md->Q (.ref tu') H'
abbrev We(K:Fg):List V->Hp->VK->Prop:=λxs H Q=>∃p ys,xs=[.ref p]/\(SqL K H p ys\/SqT K H p ys)/\∀l,H l=none->Q (.ref l) (upd H l (.lst ys))
section
variable{K:Fg}
theorem GR:FnScope ["_law_turning_here","_law_wood_here"] ["_law_turning_here"] (defScope VQ):=(0:)
theorem O9(F:Fun K "_law_again" "_law_again" VQ f fd)(G:Gm mg):FnOk P w K mg base CX0 1 f fd ["_law_turning_here"] (Wo K):=by
 refine F.ok GR (7:) (λas A outer s H vs Q E hr h=>?_)
 .obtain⟨tu,wd,lm,sv,ks,st,ms,rfl,_⟩:=h
  rfl
 obtain⟨tu,wd,lm,sv,ks,st,ms,rfl,hT,hO,ar,q⟩:=h;refine⟨_,(Qg (Jb (i:=1) (CompG.many (xs:=["_law_kind","_law_rows_here"]) (caps:=[]) (cap:=[]) (cs:=[]) rfl rfl (1:) (1:) (1:) (1:) (1:) (1:) rfl rfl rfl) rfl (QJ (2:)) (XM (CompG.many (xs:=["_law_kind","_law_rows_here"]) (caps:=[]) (cap:=[]) (cs:=[]) rfl rfl (1:) (1:) (1:) (1:) (1:) (1:) rfl rfl rfl) rfl) (λ_ _ _ _=>Zn) (λ_ _ _ _=>(QE (Qa (pv 0) (Qa (QN (r:=We K) ZA rfl G.lst eB (Qa (pv 1) Qc)) Qc)))) GR.nd rfl rfl)
  (Qi (Qn (QE (Qa (pv 1) (Qa (2:) (Qa (QO (CompG.many (xs:=["_law_kind","_law_rules"]) (caps:=[]) (cap:=[]) (cs:=[]) rfl rfl (1:) (1:) (1:) (1:) (1:) (1:) rfl rfl rfl) rfl (QJ (2:)) (XM (CompG.many (xs:=["_law_kind","_law_rules"]) (caps:=[]) (cap:=[]) (cs:=[]) rfl rfl (1:) (1:) (1:) (1:) (1:) (1:) rfl rfl rfl) rfl) (λ_ _ _ _=>Zn) (λ_ _ _ _=>(QE (Qa (pv 0) (Qa (QN (r:=We K) ZA rfl G.lst eB (Qa (pv 1) Qc)) Qc))))) Qc))))))),?_⟩
 refine L2.let1 ?_
 intros
 refine⟨_,rfl,tu,_,0,_,rfl,rfl,hT.tu,rfl,wd,rfl,⟨_,hT.w.1⟩,λlx ak=>?_⟩;refine let J_:JC:=(λj ys H'=>∃hs:List KdT,ys=hs.map (λk=>V.ref k.1)/\hs.map QR=(ks.take j).map QR/\(∀k∈hs,SqT K H' k.1 [.str k.2.1,.ref k.2.2.1]/\(H' k.2.2.1=some (.lst (k.2.2.2.map λt=>V.ref t.1))/\k.2.2.1≠lx/\H k.2.2.1=none)/\∀t∈k.2.2.2,RowAt K H' t)/\H' lx=some (.lst ys)/\Same H H');U7 (K:=K) (xs:=ks.map λk=>V.ref k.1) (cs:=[]) (tt:=λ_ H Q=>Q true H) (te:=Re (QZ (ZT 0) (QZ (tCB (We K) (QZ (ZT 1) YF)) YF))) J_
  ⟨[],rfl,rfl,λk L=>(nomatch L),Qb,Qd ak _⟩ ?_ ?_ ?_
 .rintro j ys H' _ ⟨hs,_,_,_,_,g⟩;exact(hT.w.same g).1
 .rintro j x ys H' hj hx ⟨hs,rfl,aa,U,Z,g⟩;have ab:j<ks.length:=by simpa using hj
  obtain rfl:x=.ref ks[j].1:=by
   rw [aK,aD ab]at hx;exact(aI hx).symm
  obtain⟨al,am⟩:=(hT.w.same g).2 _ (aQ ab);have ao:hs.length=j:=by
   have:=congrArg List.length aa;rw [aE,aE,cW]at this;lia
  have au:=hO.len;refine⟨ks[j].1,_,_,rfl,al,Zh ⟨_,rfl,_,rfl,ks[j].2.2.1,_,rfl,.inl am.1,λl2 Y=>⟨(by show 2<=sizeLine;decide),λp2 an=>?_⟩⟩⟩;have e1:=Qd Y (.lst (ks[j].2.2.2.map λt=>V.ref t.1));have e2:=Qd an (.tup [.str ks[j].2.1,.ref l2]);have J:=e1.trans e2;have M:=J _ _ Z;have ac:l2≠lx:=λz=>by rw [z,Z]at Y;cases Y
  refine QC (ys:=hs.map λk=>V.ref k.1) hj M (17:) ⟨hs++[(p2,ks[j].2.1,l2,ks[j].2.2.2)],by simp,?_,λk L=>?_,Qb,λx u e=>by rw [Qe (Qf e ak)];exact J _ _ (g _ _ e)⟩
  .rw [aP,aa,bB,aD ab,aP]
   rfl
  .rcases aX.mp L with z | z
   .obtain⟨a1,⟨a2,a3⟩,a4⟩:=U k z;exact⟨(J.seqT a1).put M,⟨by rw [Qe a3.1];exact J _ _ a2,a3⟩,λt ht=>⟨(J.seqT (a4 t ht).1).put M,(J.seqT (a4 t ht).2).put M⟩⟩
   .have:k=(p2,ks[j].2.1,l2,ks[j].2.2.2):=by simpa using z
    rw [this];refine⟨SqT.put (SqT.of Qb) M,⟨by rw [Qe ac];exact e2 _ _ Qb,ac,Same.none g Y⟩,λt ht=>⟨(J.seqT (am.2 t ht).1).put M,(J.seqT (am.2 t ht).2).put M⟩⟩
 rintro ys H1 ⟨hs,rfl,aa,U,Z,g1⟩;rw [aE,dN]at aa;have av:WoodAt K H1 lx hs:=⟨SqL.of Z,λk L=>by
  obtain⟨a1,⟨a2,_⟩,a4⟩:=U k L;exact⟨a1,SqL.of a2,a4⟩⟩
 have af:=hT.same g1;refine⟨_,rfl,_,rfl,tu,_,1,_,rfl,rfl,af.tu,rfl,_,rfl,tu,_,2,_,rfl,rfl,af.tu,rfl,lm,rfl,⟨_,af.m.1⟩,λly ag=>?_⟩;refine let J_:JC:=(λj ys H'=>∃ns:List MdT,ys=ns.map (λk=>V.ref k.1)/\ns.map MdT.md=(ms.take j).map MdT.md/\(∀m∈ns,SqT K H' m.1 [.str m.2.1,.ref m.2.2.1]/\(H' m.2.2.1=some (.lst m.2.2.2.1)/\m.2.2.1≠ly/\H1 m.2.2.1=none)/\TmAll K H' m.2.2.2.1 m.2.2.2.2)/\H' ly=some (.lst ys)/\Same H1 H');U7 (K:=K) (xs:=ms.map λk=>V.ref k.1) (cs:=[]) (tt:=λ_ H Q=>Q true H) (te:=Re (QZ (ZT 0) (QZ (tCB (We K) (QZ (ZT 1) YF)) YF))) J_
  ⟨[],rfl,rfl,λk L=>(nomatch L),Qb,Qd ag _⟩ ?_ ?_ ?_
 .rintro j ys H' _ ⟨hs,_,_,_,_,g⟩;exact(af.m.same g).1
 .rintro j x ys H' hj hx ⟨ns,rfl,ah,U,aj,g⟩;have ab:j<ms.length:=by simpa using hj
  obtain rfl:x=.ref ms[j].1:=by
   rw [aK,aD ab]at hx;exact(aI hx).symm
  obtain⟨al,ap,aq⟩:=(af.m.same g).2 _ (aQ ab);have ao:ns.length=j:=by
   have:=congrArg List.length ah;rw [aE,aE,cW]at this;lia
  refine⟨ms[j].1,_,_,rfl,al,Zh ⟨_,rfl,_,rfl,ms[j].2.2.1,_,rfl,.inl ap,λl2 Y=>⟨(by show 2<=sizeLine;decide),λp2 an=>?_⟩⟩⟩;have e1:=Qd Y (.lst ms[j].2.2.2.1);have e2:=Qd an (.tup [.str ms[j].2.1,.ref l2]);have J:=e1.trans e2;have ad:=J _ _ aj;have ac:l2≠ly:=λz=>by rw [z,aj]at Y;cases Y
  refine QC (ys:=ns.map λk=>V.ref k.1) hj ad (17:) ⟨ns++[(p2,ms[j].2.1,l2,ms[j].2.2.2.1,ms[j].2.2.2.2)],by simp,?_,λk L=>?_,Qb,λx u e=>by rw [Qe (Qf e ag)];exact J _ _ (g _ _ e)⟩
  .rw [aP,ah,bB,aD ab,aP]
   rfl
  .rcases aX.mp L with z | z
   .obtain⟨a1,⟨a2,a3⟩,a4⟩:=U k z;exact⟨(J.seqT a1).put ad,⟨by rw [Qe a3.1];exact J _ _ a2,a3⟩,a4.mono λ_ _ h=>(J.seqT h).put ad⟩
   .have:k=(p2,ms[j].2.1,l2,ms[j].2.2.2.1,ms[j].2.2.2.2):=by simpa using z
    rw [this];exact⟨SqT.put (SqT.of Qb) ad,⟨by rw [Qe ac];exact e2 _ _ Qb,ac,Same.none g Y⟩,aq.mono λ_ _ h=>(J.seqT h).put ad⟩
 rintro ys H2 ⟨ns,rfl,ah,ai,aj,g2⟩;rw [aE,dN]at ah;refine⟨(by show 3<=sizeLine;decide),λp hp=>?_⟩;have k3:=Qd hp (.tup [.ref lx,sv,.ref ly]);have ae:=g2.trans k3;have no:∀b u,H1 b=some u->H1 ly=none->b≠ly:=λb u e n z=>by rw [z,n]at e;cases e
 refine q p lx ly hs ns _ (g1.trans ae) ⟨SqT.of Qb,⟨ak,ae _ _ Z,λk L=>?_,λk L=>(U k L).2.1.2.1⟩,af.s.mono λ_ _=>ae.seqT,⟨Same.none g1 ag,k3 _ _ aj,λm hm=>?_⟩,no _ _ Z ag,λk L=>⟨no _ _ (U k L).2.1.1 ag,λm hm z=>?_⟩,λm hm z=>?_⟩ aa ah
 .obtain⟨a1,⟨a2,a3⟩,a4⟩:=U k L;exact⟨ae.seqT a1,ae _ _ a2,a3.2,λt ht=>⟨ae.seqT (a4 t ht).1,ae.seqT (a4 t ht).2⟩⟩
 .obtain⟨a1,⟨a2,a3⟩,a4⟩:=ai m hm;exact⟨k3.seqT a1,k3 _ _ a2,Same.none g1 a3.2,a3.1,a4.mono λ_ _=>k3.seqT⟩
 .have e1:=(U k L).2.1.1;rw [z,(ai m hm).2.1.2.2]at e1;cases e1
 .rw [z,(ai m hm).2.1.2.2]at Z;cases Z
end
def Kx(kn:List Str)(rs:List PNx):Prop:=(∀r∈rs,∀x∈r.2.2.2,x∈kn)/\∃r∈rs,r.2.2.2=[]
abbrev OkN(kn:List Str)(x:Str):Prop:=PyData.strOk x=true/\x∈kn
structure WD(ks:List KdT):Prop where
 ok:WoodOk ks
 pos:0<ks.length
 three:ks.length<=3
 nm:∀k∈ks,PyData.strOk k.2.1=true
 rws:∀k∈ks,0<k.2.2.2.length/\k.2.2.2.length<=3
 kx:∀k∈ks,Kx (ks.map λk=>k.2.1) k.2.2.2
def VD(K:Fg):Sp:=λvs H Q _=>∃(a:Addr)(ns:List Int),vs=[.ref a]/\SqL K H a (ns.map V.int)/\∀(wd:Addr)(ks:List KdT)(H':Hp),Same H H'->WoodAt K H' wd ks->WD ks->Q (.ref wd) H'
def CZ(K:Fg)(H:Hp)(d lw:Addr)(k:KdT):Prop:=SqT K H k.1 [.str k.2.1,.ref k.2.2.1]/\H k.2.2.1=some (.lst (k.2.2.2.map λt=>V.ref t.1))/\k.2.2.1≠d/\k.2.2.1≠lw/\∀t∈k.2.2.2,RowAt K H t
def rix(first:Int)(q:Nat):Int:=match q with
 | 0=>3+first
 | q+1=>3+(first+(q:Int)+1)%6
theorem V0(h0:0<=first)(h1:first<6)(q:Nat):0<=rix first q/\rix first q<9:=by
 cases q with
 | zero=>simp only [rix];lia
 | succ q=>simp only [rix];lia
theorem Rl(h0:0<=first)(h1:first<6){p q:Nat}(hp:p<3)(hq:q<3)(e:rix first p=rix first q):p=q:=by
 match p,q,hp,hq with
 | 0,0,_,_=>rfl
 | 0,1,_,_=>simp only [rix]at e;lia
 | 0,2,_,_=>simp only [rix]at e;lia
 | 1,0,_,_=>simp only [rix]at e;lia
 | 1,1,_,_=>rfl
 | 1,2,_,_=>simp only [rix]at e;lia
 | 2,0,_,_=>simp only [rix]at e;lia
 | 2,1,_,_=>simp only [rix]at e;lia
 | 2,2,_,_=>rfl
def Ov(c first:Int)(kn:List Str)(rs:List PNx):Prop:=rs.map (λr=>r.2.1)=(List.range rs.length).map (λ(q:Nat)=>pn c (rix first q))/\(∀r∈rs,(∀x∈r.2.2.2,OkN kn x)/\r.2.2.2.length<=3)/\∃r∈rs,r.2.2.2=[]
theorem W7{c:Int}(h:Ov c first kn rs)(h0:0<=first)(h1:first<6)(hl:rs.length<=3)(hp:out.Perm rs):RowsOk out:=by
 have nd:(rs.map λr=>r.2.1).Nodup:=by
  rw [h.1,gF,List.pairwise_map];refine List.Pairwise.imp_of_mem (λ{i j} hi L J e=>J ?_) (gF.mp List.nodup_range);have Y:=cO.mp hi;have Z:=cO.mp L;have a:=V0 h0 h1 i;have b:=V0 h0 h1 j;exact Rl h0 h1 (5:) (5:) (Po a.1 (5:) b.1 (5:) e)
 have M:=hp.length_eq;refine⟨(hp.map _).nodup_iff.mpr nd,by lia,λr G=>?_,λr G x U=>((h.2.1 r (hp.mem_iff.mp G)).1 x U).1,λr G=>bT (h.2.1 r (hp.mem_iff.mp G)).2 (12:)⟩;have:r.2.1∈rs.map λr=>r.2.1:=aJ.mpr ⟨r,hp.mem_iff.mp G,rfl⟩;rw [h.1]at this;obtain⟨q,_,e⟩:=aJ.mp this;rw [<-e];exact W6 _ _
theorem Ox{c:Int}(h:Ov c first kn rs)(hp:out.Perm rs):Kx kn out:=⟨λr G x J=>((h.2.1 r (hp.mem_iff.mp G)).1 x J).2,by obtain⟨r,h1,h2⟩:=h.2.2;exact⟨r,hp.mem_iff.mpr h1,h2⟩⟩
theorem OS{c first:Int}(h0:0<=first)(h1:first<6)(q:Nat):atI ((pns c 9).map V.str) (rix first q)=some (.str (pn c (rix first q))):=by
 obtain⟨a,b⟩:=V0 h0 h1 q;have e:((rix first q).toNat:Int)=rix first q:=by lia
 refine Jd a ?_;rw [aK,aK,f7 (5:)];show some (V.str (pn c (((rix first q).toNat:Nat):Int)))=_;rw [e]
def Wf(K:Fg):List V->Hp->VK->Prop:=G3.on2 λx y H Q=>G3.asI y λi=>BA K x none (some i) H Q
def SI(K:Fg)(xs:List V)(H:Hp)(Q:VK):Prop:=∃(l:Addr)(ts:List PNx),xs=[.ref l]/\SqL K H l (ts.map λt=>V.ref t.1)/\(∀t∈ts,SqT K H t.1 [.str t.2.1,.ref t.2.2.1]/\SqT K H t.2.2.1 (t.2.2.2.map V.str)/\∀x∈t.2.2.2,PyData.strOk x=true)/\(ts.map λt=>t.2.1).Nodup/\ts.length<64/\
 ∀(out:List PNx) p,out.Perm ts->(out.Pairwise λx y=>¬y.2.1.cps.toList<x.2.1.cps.toList)->H p=none->Q (.ref p) (upd H p (.lst (out.map λt=>V.ref t.1)))
theorem Co{X:Cx}{P:Program}{w:World}{K:Fg}{mg:Str->Option Value}{base:Heap}{k:Nat}(c:G3.Cxt X P w K mg base k){x:Str}{id:String}{r:Fg->List V->Hp->VK->Prop}(hc:∀X:Cx,Room k X.A->Q4 X (.builtin id) (r X.K))(hm:mg x=none)(hv:bootBuiltins x=some (.builtin id))(hn:x≠"__name__":=by decide):G3.CallOk X x (λ_ vs H Q=>r K vs H Q):=by
 obtain⟨rfl,rfl,rfl,rfl,rfl,G,J⟩:=c;exact .blt (hc X G) hm hv hn
structure WdS(c:Int)(kn:List Str)(ln d lk:Addr)(H:Hp)(xs:List Int):Prop where
 ln:H ln=some (.lst ((pns c 9).map V.str))
 lk:H lk=some (.lst (kn.map V.str))
 d:H d=some (.lst (NI xs))
theorem WdS.go{c:Int}{xs ys:List Int}(h:WdS c kn ln d lk H xs)(g:SameD d H H')(h1:d≠ln)(h2:d≠lk)(e:H' d=some (.lst (NI ys))):WdS c kn ln d lk H' ys:=⟨g _ _ (aV h1) h.ln,g _ _ (aV h2) h.lk,e⟩
theorem WdS.same{c:Int}{xs:List Int}(h:WdS c kn ln d lk H xs)(g:Same H H'):WdS c kn ln d lk H' xs:=⟨g _ _ h.ln,g _ _ h.lk,g _ _ h.d⟩
theorem WdS.put{c:Int}{x:Addr}{xs:List Int}{o:HO}(h:WdS c kn ln d lk H xs)(h0:x≠ln)(h1:x≠lk)(h2:x≠d):WdS c kn ln d lk (upd H x o) xs:=⟨by rw [Qe (aV h0)];exact h.ln,by rw [Qe (aV h1)];exact h.lk,by rw [Qe (aV h2)];exact h.d⟩
def CL:List G3.S:=[.set 9 (.lst []),.forR 10 (.bin .Mod (.nd 1 [.v 2]) (.k (.int 4))) [.ex (.meth 0 (.v 9) [.ix (.v 3) (.bin .Mod (.nd 1 [.v 2]) (.call 3 [.v 3]))])],.ex (.meth 0 (.v 7) [.tup [.ix (.v 1) (.bin .Add (.k (.int 3)) (.bin .Mod (.bin .Add (.bin .Add (.v 6) (.v 8)) (.k (.int 1))) (.k (.int 6)))),.call 4 [.v 9]]])]
def Ca:List G3.S:=[.cut (.set 1 (.call 0 [.call 1 [.v 0,.k (.int 0)],.k (.int 9)])),.cut (.set 2 (.call 2 [.call 1 [.v 0,.k (.int 1)],.k (.int 32)])),.cut (.set 3 (.nd 0 [.v 1,.bin .Add (.k (.int 1)) (.bin .Mod (.ix (.v 2) (.k (.int 0))) (.k (.int 3)))])),.set 4 (.lst []),.forL 5 (.v 3) [.set 6 (.bin .Mod (.nd 1 [.v 2]) (.k (.int 6))),.set 7 (.lst [.tup [.ix (.v 1) (.bin .Add (.k (.int 3)) (.v 6)),.tup []]]),.forR 8 (.ix (.lst [.k (.int 2),.k (.int 1),.k (.int 2),.k (.int 0)]) (.bin .Mod (.nd 1 [.v 2]) (.k (.int 4)))) CL,.ex (.meth 0 (.v 4) [.tup [.v 5,.call 5 [.v 7]]])],.ret (.v 4)]
def Sm(K:Fg):G3.En:=⟨K,[λ_ vs H Q=>Uk vs H Q E0,λ_ vs H Q=>Xc K vs H Q E0,λ_ vs H Q=>Yu vs H Q E0,λ_ vs H Q=>G3.rLen K vs H Q,λ_ vs H Q=>G3.rTupOf K vs H Q,λ_ vs H Q=>SI K vs H Q],[G3.mApp K],[Wf K,Vl K],[]⟩
section
variable{K:Fg}
theorem TB:FnScope ["_law_script","_law_names_here","_law_xs","_law_kinds","_law_wood_here","_law_kind","_law_first","_law_rows_here","_law_k","_law_branches","_law_j"] ["_law_script"] (defScope M5):=(0:)
theorem R4(F:Fun K "_law_wood" "_law_wood" M5 f fd)(G:Gm mg)(RC:Fn P w K mg base 1 "_law_cell_at" ["_law_script","_law_k"] (Xc K))(RS:Fn P w K mg base 1 "_law_stream" ["_law_cell","_law_count"] Yu)(RN:Fn P w K mg base 1 "_law_names" ["_law_cell","_law_count"] Uk):FnOk P w K mg base CX0 2 f fd ["_law_script"] (VD K):=by
 refine G3.Fun.okC F TB (Sm K) Ca (nk:=[G3.shSlTo,G3.shM0 "pop"]) (λX c=>⟨.cons (c.fn RN) (.cons (c.fn RC) (.cons (c.fn RS) (.cons (c.blt G3.call_len G.len bO) (.cons (c.ty (r:=G3.rTupOf) (λX=>G3.call_tupOf) G.tup cK) (.cons (Co c (r:=SI) (λX hr=>Wl (hr.fit (12:))) G.srt PyProof.Rows.boot_sorted) .nil))))),.cons (c.meth G3.m_append) .nil,.cons (c.node (r:=Wf) λX=>.slTo LA) (.cons (c.node (r:=Vl) λX=>.m0 cS PySem.F.slot_list_pop PySem.F.type_list_pop Ps) .nil)⟩) (7:) (λH vs Q E h=>?_) G.rng
 .obtain⟨a,ns,rfl,_⟩:=h
  rfl
 obtain⟨a,ns,rfl,hS,q⟩:=h;refine let J_:J2:=(λσ H1=>∃(M:Addr)(c:Int),σ=[some (.ref a),some (.ref M),none,none,none,none,none,none,none,none,none]/\Same H H1/\H1 M=some (.lst ((pns c 9).map V.str)));.c J_ ⟨a,ns,0,rfl,hS,_,9,rfl,by decide,λM H1 g1 _ ak=>⟨M,_,rfl,g1,ak⟩⟩ ?_
 rintro _ H1 ⟨M,c,rfl,g1,ak⟩;refine let J_:J2:=(λσ H2=>∃(d:Addr)(xs:List Int),σ=[some (.ref a),some (.ref M),some (.ref d),none,none,none,none,none,none,none,none]/\Same H1 H2/\H1 d=none/\H2 d=some (.lst (NI xs))/\xs.length=32);.c J_ ⟨a,ns,1,rfl,g1.seq hS,_,32,rfl,by decide,λd xs H2 g2 an hd bh _=>⟨d,xs,rfl,g2,an,hd,bh⟩⟩ ?_
 rintro _ H2 ⟨d,xs,rfl,g2,an,hd,bh⟩;have bi:=g1.trans g2;have cb:H d=none:=g1.free an;have ax:d≠M:=λz=>by rw [z,ak]at an;cases an
 refine let J_:J2:=(λσ H3=>∃(Z:Addr)(J:List Str),σ=[some (.ref a),some (.ref M),some (.ref d),some (.ref Z),none,none,none,none,none,none,none]/\Same H2 H3/\H2 Z=none/\H3 Z=some (.lst (J.map V.str))/\0<J.length/\J.length<=3/\J.Nodup/\∀x∈J,PyData.strOk x=true);.c J_ ?_ ?_
 .refine .l _ _ (SqL.of hd) (Qo (j:=0) (by rw [aK,aD (by lia:0<xs.length)];rfl)) ?_;generalize xs[0]=x0;have z0:0<=x0%3:=cJ _ (12:);have z1:x0%3<3:=cV _ (12:);obtain⟨m,hm⟩: ∃m:Nat,1+x0%3=(m:Int):=⟨(1+x0%3).toNat,by lia⟩;refine⟨M,_,rfl,SqL.of (g2 _ _ ak),λZ ao=>?_⟩;have bw:cutV ((pns c 9).map V.str) none (some (1+x0%3))=((pns c 9).take m).map V.str:=by rw [hm,SB,List.map_take]
  refine⟨Z,(pns c 9).take m,rfl,Qd ao _,ao,by rw [<-bw];exact Qb,?_,?_,?_,λx hx=>?_⟩
  .rw [cW,aE,eI];lia
  .rw [cW,aE,eI];lia
  .refine List.Nodup.sublist (List.take_sublist _ _) ?_;rw [gF,List.pairwise_map];refine List.Pairwise.imp_of_mem (λ{i j} hi hj cc e=>cc ?_) (gF.mp List.nodup_range);have ck:=cO.mp hi;have cm:=cO.mp hj;have:=Po (c:=c) (k:=(i:Int)) (k':=(j:Int)) (5:) (5:) (5:) (5:) e;lia
  .obtain⟨i,_,rfl⟩:=aJ.mp (List.mem_of_mem_take hx);exact W6 _ _
 rintro _ H3 ⟨Z,J,rfl,g3,ao,a7,k0,k3,bx,a8⟩;have ay:d≠Z:=λz=>by rw [<-z,hd]at ao;cases ao
 refine⟨λlw H4 g4 bz ae=>?_⟩;have bj:d≠lw:=λz=>by rw [<-z,g3 _ _ hd]at ae;cases ae
 have b3:lw≠M:=λz=>by rw [z,g3 _ _ (g2 _ _ ak)]at ae;cases ae
 have b4:lw≠Z:=λz=>by rw [z,a7]at ae;cases ae
 have b5:H lw=none:=(bi.trans g3).free ae;have a9:(J.map V.str).length=J.length:=aE ..;have s4:WdS c J M d Z H4 xs:=WdS.same ⟨g3 _ _ (g2 _ _ ak),a7,g3 _ _ hd⟩ g4;refine let J_:J3:=(λi σ H'=>∃(ks:List KdT)(af:List Int)(c5 c6 c7 c8 c9 U:Option V),σ=[some (.ref a),some (.ref M),some (.ref d),some (.ref Z),some (.ref lw),c5,c6,c7,c8,c9,U]/\Same H H'/\WdS c J M d Z H' af/\32<=af.length+10*i/\H' lw=some (.lst (ks.map λk=>V.ref k.1))/\ks.map (λk=>k.2.1)=J.take i/\∀k∈ks,CZ K H' d lw k/\RowsOk k.2.2.2/\(0<k.2.2.2.length/\k.2.2.2.length<=3)/\Kx J k.2.2.2);.f (J.map V.str) J_
  ⟨[],xs,_,_,_,_,_,_,rfl,bi.trans (g3.trans g4),s4,by lia,bz,rfl,λk hk=>(nomatch hk)⟩ ?_ ?_ ?_
 .rintro i σ H' _ ⟨_,_,_,_,_,_,_,_,_,_,s,_⟩;exact SqL.of s.lk
 .rintro i x σ H5 hx ⟨ks,af,c5,c6,c7,c8,c9,U,rfl,g5,s5,cn,b6,ab,al⟩;have bn:i<J.length:=by have:=(aU.mp hx).1;simpa using this
  obtain rfl:x=.str J[i]:=by
   rw [aK,aD bn]at hx;exact(aI hx).symm
  refine Pw s5.d (5:) λx1 H6 g6 ba n6=>?_;have s6:=s5.go g6 ax ay ba;have l6:af.dropLast.length+1=af.length:=by rw [fD];lia
  generalize af.dropLast=x6 at s6 l6 ba;have f0:0<=x1%6:=cJ _ (12:);have f1:x1%6<6:=cV _ (12:);show G3.ES (Sm K) _ _ [_,_,_,_,_,_,some (.int (x1%6)),_,_,_,_] _;generalize x1%6=first at f0 f1;refine .l _ _ (SqL.of s6.ln) (OS (c:=c) f0 f1 0) ⟨λpe X1 e1 d1 _=>⟨λpr X2 e2 d2 _=>⟨λlr H7 e3 b7 bb=>?_⟩⟩⟩;have bc:=e1.trans e2;have bd:=bc.trans e3;have s7:=s6.same bd;have ap:lr≠d:=λz=>by rw [z,bc _ _ ba]at bb;cases bb
  have ag:H5 lr=none:=n6 _ (bc.free bb);have g7:SameD d H5 H7:=g6.trans (SameD.of bd);have be:RowAt K H7 (pr,pn c (rix first 0),pe,[]):=⟨e3.seqT d2,(e2.trans e3).seqT d1⟩;refine⟨λp4 X4 e4 d4 n4=>?_⟩;refine Pw (e4 _ _ s7.d) (5:) λx2 H8 g8 bo n8=>?_;have s8:=(s7.same e4).go g8 ax ay bo;have l8:x6.dropLast.length+1=x6.length:=by rw [fD];lia
  generalize x6.dropLast=x8 at s8 l8 bo;have ce:p4≠d:=λz=>by rw [z,s7.d]at n4;cases n4
  obtain⟨y,hy,aq⟩:=Y7 (xs:=[V.int 2,V.int 1,V.int 2,V.int 0]) (k:=4) rfl (12:) x2;obtain⟨cnt,rfl,co⟩: ∃cnt:Nat,y=.int (cnt:Int)/\cnt<=2:=by
   simp only [aM,bQ,bP]at hy;rcases hy with rfl | rfl | rfl | rfl
   .exact⟨2,rfl,by decide⟩
   .exact⟨1,rfl,by decide⟩
   .exact⟨2,rfl,by decide⟩
   .exact⟨0,rfl,by decide⟩
  have cf:SameD d H5 H8:=(g7.trans (SameD.of e4)).trans g8;have bf:Dk H5 d:=⟨_,s5.d⟩;have bp:Dk X4 d:=⟨_,e4 _ _ s7.d⟩;refine .l _ _ (SqL.of (g8 _ _ ce d4)) aq ⟨⟨by lia,by lia⟩,let J_:J3:=(λr σ Hk=>∃(rs:List PNx)(xk:List Int)(c8 c9 U:Option V),σ=[some (.ref a),some (.ref M),some (.ref d),some (.ref Z),some (.ref lw),some (.str J[i]),some (.int first),some (.ref lr),c8,c9,U]/\SameD d H5 Hk/\WdS c J M d Z Hk xk/\30<=xk.length+10*i+4*r/\Hk lr=some (.lst (rs.map λt=>V.ref t.1))/\rs.length=r+1/\Ov c first J rs/\∀t∈rs,RowAt K Hk t);.f J_
   ⟨[(pr,pn c (rix first 0),pe,[])],x8,_,_,_,rfl,cf,s8,by lia,g8 _ _ ap (e4 _ _ b7),rfl,⟨rfl,λt Y=>?_,_,bJ.mpr rfl,rfl⟩,λt Y=>?_⟩ ?_ ?_⟩
  .obtain rfl:=bJ.mp Y;exact⟨λx hx=>(nomatch hx),by simp⟩
  .obtain rfl:=bJ.mp Y;exact⟨g8.seqT bp (e4.seqT be.1),g8.seqT bp (e4.seqT be.2)⟩
  .rintro r σ Hk hr ⟨rs,xk,c8,c9,U,rfl,gk,sk,bq,ar,az,ac,ah⟩;rw [a_]at hr;refine⟨λlb Xb eb b8 ai=>?_⟩;have as:lb≠d:=λz=>by rw [z,sk.d]at ai;cases ai
   have sb:=sk.same eb;refine Pw sb.d (5:) λx3 Hb gb cg nb=>?_;have b0:0<=x3%4:=cJ _ (12:);have b1:x3%4<4:=cV _ (12:);have br:Dk Hk d:=⟨_,sk.d⟩;refine⟨⟨by lia,by lia⟩,let J_:J3:=(λj σ Hj=>∃(bs:List Str)(xj:List Int)(U:Option V),σ=[some (.ref a),some (.ref M),some (.ref d),some (.ref Z),some (.ref lw),some (.str J[i]),some (.int first),some (.ref lr),some (.int (r:Int)),some (.ref lb),U]/\SameD d Hk Hj/\WdS c J M d Z Hj xj/\29<=xj.length+10*i+4*r+j/\Hj lb=some (.lst (bs.map V.str))/\bs.length=j/\∀x∈bs,OkN J x);.f J_
    ⟨[],xk.dropLast,_,rfl,(SameD.of eb).trans gb,sb.go gb ax ay cg,by rw [fD];lia,gb _ _ as b8,rfl,λx hx=>(nomatch hx)⟩ ?_ ?_⟩
   .rintro j σ Hj hj ⟨bs,xj,U,rfl,gj,sj,ch,am,bt,au⟩;refine⟨G3.tyL am,Pw sj.d (5:) λx4 Hp gp ci np=>?_⟩;have sp:=sj.go gp ax ay ci;refine .l _ (SqL.of sp.lk) (Nn (j:=((J.map V.str).length:Int)) (by rw [a9];lia) ?_);obtain⟨y,hy,aq⟩:=Y7 (xs:=J.map V.str) (k:=((J.map V.str).length:Int)) rfl (by rw [a9];lia) x4;obtain⟨z,hz,rfl⟩:=aJ.mp hy;have b9:=gp _ _ as am;refine .l _ _ (SqL.of sp.lk) aq ⟨lb,_,_,rfl,rfl,b9,by rw [aE,QD];lia,bs++[z],xj.dropLast,_,rfl,λb u hb e=>?_,sp.put ?_ ?_ as,by rw [fD];lia,by rw [Qb,aP];rfl,by simp [bt],λx hx=>?_⟩
    .rw [Qe (Qf e ai)];exact gp _ _ hb (gj _ _ hb e)
    .exact λz=>by rw [z,sk.ln]at ai;cases ai
    .exact λz=>by rw [z,sk.lk]at ai;cases ai
    .rcases aX.mp hx with h | h
     .exact au x h
     .obtain rfl:=bJ.mp h;exact⟨a8 x hz,hz⟩
   .rintro σ Hj ⟨bs,xj,U,rfl,gj,sj,ch,am,bt,au⟩;have bg:Hj lr=some (.lst (rs.map λt=>V.ref t.1)):=gj _ _ ap ar;refine⟨G3.tyL bg,.l _ _ (SqL.of sj.ln) (OS (c:=c) f0 f1 (r+1))<| .l _ (SqL.of am) λpt Xt et dt=>⟨λpq Xq eq dq _=>?_⟩⟩;have L:=et.trans eq;have aj:=L _ _ bg;refine⟨lr,_,_,rfl,rfl,aj,by rw [aE,QD];lia,rs++[(pq,pn c (rix first (r+1)),pt,bs)],xj,_,_,_,rfl,λb u hb e=>?_,(sj.same L).put ?_ ?_ ap,by lia,by rw [Qb,aP];rfl,by simp [az],⟨?_,λt Y=>?_,?_⟩,λt Y=>?_⟩
    .rw [Qe (Qf e ag)];exact L _ _ (gj _ _ hb (gk _ _ hb e))
    .exact λz=>by rw [z,s5.ln]at ag;cases ag
    .exact λz=>by rw [z,s5.lk]at ag;cases ag
    .rw [aP,ac.1,aW,cM,gD,aP,az];rfl
    .rcases aX.mp Y with h | h
     .exact ac.2.1 t h
     .obtain rfl:=bJ.mp h;exact⟨au,by show bs.length<=3;lia⟩
    .obtain⟨r0,h1,h2⟩:=ac.2.2;exact⟨r0,cT _ h1,h2⟩
    .rcases aX.mp Y with h | h
     .obtain⟨r1,r2⟩:=ah t h;exact⟨(L.seqT (gj.seqT br r1)).put aj,(L.seqT (gj.seqT br r2)).put aj⟩
     .obtain rfl:=bJ.mp h;exact⟨SqT.put dq aj,SqT.put (eq.seqT dt) aj⟩
  .rintro σ Hk ⟨rs,xk,c8,c9,U,rfl,gk,sk,bq,ar,az,ac,ah⟩;rw [a_]at az bq;have av:=gk _ _ (aV bj) b6;have bu:rs.length<=3:=by lia
   have ro:=W7 ac f0 f1 bu (List.Perm.refl rs);refine⟨G3.tyL av,lr,rs,rfl,SqL.of ar,λt Y=>⟨(ah t Y).1,(ah t Y).2,λx hx=>((ac.2.1 t Y).1 x hx).1⟩,ro.nd,by lia,λa0 p ad _ hp=>⟨λpk Xk e8 dk _=>?_⟩⟩;have e7:=Qd hp (.lst (a0.map λt=>V.ref t.1));have L:=e7.trans e8;have aa:=L _ _ av;have aw:=congrArg List.length ab;rw [aE,cW]at aw;have cj:p≠d:=λz=>by rw [z,sk.d]at hp;cases hp
   have bv:p≠lw:=λz=>by rw [z,av]at hp;cases hp
   refine⟨lw,_,_,rfl,rfl,aa,by rw [aE,QD];lia,ks++[(pk,J[i],p,a0)],xk,_,_,_,_,_,_,rfl,λb u e=>?_,(sk.same L).put b3 b4 (aV bj),by lia,by rw [Qb,aP];rfl,?_,λk hk=>?_⟩
   .rw [Qe (Qf e b5)];exact L _ _ (gk _ _ (Qf e cb) (g5 _ _ e))
   .rw [aP,ab,bB,aD bn];rfl
   .rcases aX.mp hk with h | h
    .obtain⟨⟨a1,a2,a3,a4,a5⟩,a6⟩:=al k h;refine⟨⟨(L.seqT (gk.seqT bf a1)).put aa,?_,a3,a4,λt Y=>⟨(L.seqT (gk.seqT bf (a5 t Y).1)).put aa,(L.seqT (gk.seqT bf (a5 t Y).2)).put aa⟩⟩,a6⟩;rw [Qe a4];exact L _ _ (gk _ _ a3 a2)
    .obtain rfl:=bJ.mp h;have cp:=ad.length_eq;refine⟨⟨SqT.put dk aa,?_,cj,bv,λt Y=>?_⟩,W7 ac f0 f1 bu ad,⟨by show 0<a0.length;lia,by show a0.length<=3;lia⟩,Ox ac ad⟩
     .show(upd _ lw _) p=_;rw [Qe bv];exact e8 _ _ Qb
     .obtain⟨r1,r2⟩:=ah t (ad.mem_iff.mp Y);exact⟨(L.seqT r1).put aa,(L.seqT r2).put aa⟩
 .rintro σ H' ⟨ks,af,c5,c6,c7,c8,c9,U,rfl,g,s,_,ca,ab,al⟩;rw [a9,dN]at ab;have aw:=congrArg List.length ab;rw [aE]at aw;refine q lw ks H' g ⟨SqL.of ca,λk hk=>?_⟩ ⟨⟨by rw [ab];exact bx,by lia,λk hk=>(al k hk).2.1⟩,by lia,by lia,λk hk=>?_,λk hk=>(al k hk).2.2.1,λk hk=>by rw [ab];exact(al k hk).2.2.2⟩
  .obtain⟨⟨a1,a2,a3,a4,a5⟩,_⟩:=al k hk;exact⟨a1,SqL.of a2,a5⟩
  .exact a8 _ (by rw [<-ab];exact aJ.mpr ⟨k,hk,rfl⟩)
end
def Fc(kn bs:List Str):Int->Int->Prop:=λa b=>∃(k j:Nat)(z:Str),a=(k:Int)/\b=(j:Int)/\kn[k]?=some z/\bs[j]?=some z
theorem Fc.pn{bs:List Str}{a b:Int}(h:Fc kn bs a b):Pn kn.length a b:=by
 obtain⟨k,j,z,rfl,rfl,h1,_⟩:=h;have:=(aU.mp h1).1;exact⟨by lia,by lia⟩
def RF(kn:List Str)(rs:List PNx)(ts:List Tm)(L:Nat):Prop:=(∀t∈ts,TPr (Pn kn.length) t/\Lz L t)/\∀(j:Nat)(r:PNx)(t:Tm),rs[j]?=some r->ts[j]?=some t->TPr (Fc kn r.2.2.2) t
theorem RF.nil:RF kn rs [] L:=⟨λt G=>(nomatch G),λj r t _ h=>(nomatch h)⟩
theorem RF.snoc{r:PNx}{t:Tm}(h:RF kn rs ts L)(hl:ts.length=i)(hr:rs[i]?=some r)(ht:TPr (Fc kn r.2.2.2) t)(hv:Lz L t):RF kn rs (ts++[t]) L:=by
 refine⟨λu J=>?_,λj M u a b=>?_⟩
 .rcases aX.mp J with q | q
  .exact h.1 u q
  .rw [bJ.mp q];exact⟨ht.mono λa b k=>k.pn,hv⟩
 .by_cases U:j<ts.length
  .rw [fq U]at b;exact h.2 j M u a b
  .have G:j=i:=by
    have:=(aU.mp b).1;rw [aW]at this;have h1:[t].length=1:=rfl;lia
   subst G;rw [fT (5:),hl,Nat.sub_self]at b;cases b;rw [hr]at a;cases a;exact ht
structure T51(ks:List KdT)(st:Tm)(ms:List MdT):Prop where
 pos:0<ms.length
 three:ms.length<=3
 sc:∀k0,ks[0]?=some k0->TPr (λa _=>0<=a/\a<(ms.length:Int)/\∃m,ms[a.toNat]?=some m/\m.2.1=k0.2.1) st
 sl:Lz 3 st/\kp st=false
 sf:∀k0,ks[0]?=some k0->TPr (Fc (ms.map λm=>m.2.1) [k0.2.1]) st
 ft:∀m∈ms,∃kd∈ks,kd.2.1=m.2.1/\∀(j:Nat)(r:PNx)(t:Tm),kd.2.2.2[j]?=some r->m.2.2.2.2[j]?=some t->TPr (Fc (ms.map λm=>m.2.1) r.2.2.2) t
 md:∀m∈ms,∃kd∈ks,kd.2.1=m.2.1/\m.2.2.2.2.length=kd.2.2.2.length/\∀t∈m.2.2.2.2,TPr (Pn ms.length) t/\Lz 4 t
def Gq(K:Fg):Sp:=λvs H Q _=>∃(a:Addr)(ns:List Int)(wd:Addr)(ks:List KdT),vs=[.ref a,.ref wd]/\SqL K H a (ns.map V.int)/\WoodAt K H wd ks/\WD ks/\
 ∀(tu lm:Addr)(sv:V)(st:Tm)(ms:List MdT)(H':Hp),Same H H'->TurnD K H' tu wd lm sv ks st ms->T51 ks st ms->Q (.ref tu) H'
def CY(K:Fg)(H:Hp)(lm:Addr)(m:MdT):Prop:=SqT K H m.1 [.str m.2.1,.ref m.2.2.1]/\H m.2.2.1=some (.lst m.2.2.2.1)/\m.2.2.1≠lm/\TmAll K H m.2.2.2.1 m.2.2.2.2
theorem LC(c:Int)(n:Nat):∀x∈pns c n,PyData.strOk x=true:=λx G=>by
 obtain⟨i,_,rfl⟩:=aJ.mp G;exact W6 _ _
theorem UR(g:Same H H1)(h:H d=none)(k:SameD d H1 H2):Same H H2:=λb u e=>k b u (Qf e h) (g b u e)
def B9:List G3.S:=[.set 11 (.call 0 [.call 1 [.v 0,.bin .Add (.bin .Add (.k (.int 4)) (.bin .Mult (.k (.int 3)) (.v 7))) (.call 3 [.v 8])],.k (.int 8)]),.ex (.meth 0 (.v 8) [.call 4 [.v 11,.call 5 [.v 10,.v 5],.v 2,.v 4,.k (.int 2)]])]
def Ba:List G3.S:=[.cut (.set 2 (.call 2 [.call 1 [.v 0,.k (.int 0)],.k (.int 9)])),.cut (.set 3 (.call 0 [.call 1 [.v 0,.k (.int 2)],.k (.int 8)])),.cut (.set 4 (.bin .Mod (.call 1 [.v 0,.k (.int 3)]) (.nd 0 [.k (.int 10),.k (.int 59)]))),.cut (.set 5 (.nd 2 [.lst [.ix (.ix (.v 1) (.k (.int 0))) (.k (.int 0))],.comp 1 (.nd 1 [.v 3,.bin .Mod (.ix (.v 3) (.k (.int 7))) (.k (.int 3))]) [1] (.ix (.ix (.v 1) (.bin .Mod (.v 0) (.call 3 [.v 1]))) (.k (.int 0)))])),.set 6 (.lst []),.forR 7 (.call 3 [.v 5]) [.set 8 (.lst []),.forU [9,10] (.call 6 [.v 1,.ix (.v 5) (.v 7)]) B9,.cut (.ite (.cmp .Eq (.bin .Mod (.ix (.v 3) (.bin .Add (.k (.int 3)) (.v 7))) (.k (.int 3))) (.k (.int 0))) [.set 12 (.tup [.k (.str "put"),.ix (.v 2) (.k (.int 3)),.k (.bl false),.k (.int 0),.tup []]),.setC 8 (.comp 1 (.v 8) [4,12,2] (.tup [.k (.str "put"),.ix (.v 3) (.k (.int 4)),.k (.bl false),.v 1,.tup [.v 0,.v 2]]))] []),.ex (.meth 0 (.v 6) [.tup [.ix (.v 5) (.v 7),.v 8]])],.cut (.set 11 (.call 0 [.call 1 [.v 0,.k (.int 13)],.k (.int 8)])),.set 13 (.call 4 [.v 11,.call 5 [.tup [.ix (.ix (.v 1) (.k (.int 0))) (.k (.int 0))],.v 5],.v 2,.v 4,.k (.int 2)]),.ret (.tup [.v 1,.call 7 [.v 13],.v 6])]
def Bj(K:Fg):G3.En:=⟨K,[λ_ vs H Q=>Yu vs H Q E0,λ_ vs H Q=>Xc K vs H Q E0,λ_ vs H Q=>Uk vs H Q E0,λ_ vs H Q=>G3.rLen K vs H Q,λ_ vs H Q=>Ul K 3 vs H Q E0,λ_ vs H Q=>Ww K vs H Q E0,λ_ vs H Q=>Wz K vs H Q E0,λ_ vs H Q=>Xu K 4 vs H Q E0],[G3.mApp K],[G3.on2 (rI Am λi j=>.int (i^j.toNat)),Wf K,G3.on2 (OZ K)],[]⟩
theorem atN(c:Int){i:Nat}(hi:i<9):atI ((pns c 9).map V.str) (i:Int)=some (.str (pn c (i:Int))):=Qo (by rw [aK,aK,f7 hi];rfl)
section
variable{K:Fg}
theorem Tp:FnScope ["_law_script","_law_wood_here","_law_names_here","_law_xs","_law_far","_law_kinds","_law_modes","_law_k","_law_rules","_law_name","_law_branches","_law_ys","_law_leaf","_law_start"] ["_law_script","_law_wood_here"] (defScope Oq):=(0:)
theorem R8(F:Fun K "_law_turning" "_law_turning" Oq f fd)(G:Gm mg)(RC:Fn P w K mg base 1 "_law_cell_at" ["_law_script","_law_k"] (Xc K))(RS:Fn P w K mg base 1 "_law_stream" ["_law_cell","_law_count"] Yu)(RN:Fn P w K mg base 1 "_law_names" ["_law_cell","_law_count"] Uk)
 (RR:Fn P w K mg base 1 "_law_rows" ["_law_wood_here","_law_kind"] (Wz K)) (RL:Fn P w K mg base 1 "_law_calls" ["_law_branches","_law_kinds"] (Ww K)) (RT:Fn P w K mg base 4 "_law_term" ["_law_xs","_law_calls_here","_law_names_here","_law_far","_law_deep"] (Ul K 3)) (RU:Fn P w K mg base 4 "_law_unkept" ["_law_term_here"] (Xu K 4)):FnOk P w K mg base CX0 5 f fd ["_law_script","_law_wood_here"] (Gq K):=by
 refine G3.Fun.okC F Tp (Bj K) Ba (nk:=[G3.shBin .Pow,G3.shSlTo,G3.shBin .Add]) (λX c=>⟨.cons (c.fn RS) (.cons (c.fn RC) (.cons (c.fn RN) (.cons (c.blt G3.call_len G.len bO) (.cons (c.fn RT) (.cons (c.fn RL) (.cons (c.fn RR) (.cons (c.fn RU) .nil))))))),.cons (c.meth G3.m_append) .nil,.cons (c.node (r:=λ_=>G3.on2 (rI Am λi j=>.int (i^j.toNat))) λX=>.bin Aq) (.cons (c.node (r:=Wf) λX=>.slTo LA) (.cons (c.node (r:=λK=>G3.on2 (OZ K)) λX=>.bin PZ) .nil))⟩) (7:) (λH vs Q E h=>?_) G.rng
 .obtain⟨a,ns,wd,ks,rfl,_⟩:=h
  rfl
 obtain⟨a,ns,wd,ks,rfl,hS,hw,hW,q⟩:=h;refine let M:J2:=(λσ H1=>∃(Z:Addr)(c:Int),σ=[some (.ref a),some (.ref wd),some (.ref Z),none,none,none,none,none,none,none,none,none,none,none]/\Same H H1/\H1 Z=some (.lst ((pns c 9).map V.str)));.c M ⟨a,ns,0,rfl,hS,_,9,rfl,by decide,λZ H1 g1 _ bj=>⟨Z,_,rfl,g1,bj⟩⟩ ?_
 rintro _ H1 ⟨Z,c,rfl,g1,bj⟩;refine let M:J2:=(λσ H2=>∃(d:Addr)(xs:List Int),σ=[some (.ref a),some (.ref wd),some (.ref Z),some (.ref d),none,none,none,none,none,none,none,none,none,none]/\Same H1 H2/\H2 d=some (.lst (xs.map V.int))/\xs.length=8);.c M ⟨a,ns,2,rfl,g1.seq hS,_,8,rfl,by decide,λd xs H2 g2 _ hd cm _=>⟨d,xs,rfl,g2,hd,cm⟩⟩ ?_
 rintro _ H2 ⟨d,xs,rfl,g2,hd,cm⟩;have bn:=g1.trans g2;refine let M:J2:=(λσ H'=>∃far:Int,σ=[some (.ref a),some (.ref wd),some (.ref Z),some (.ref d),some (.int far),none,none,none,none,none,none,none,none,none]/\H2=H');.c M ⟨a,ns,3,rfl,bn.seq hS,10,59,rfl,rfl,⟨by decide,by decide,by decide⟩,Nn (12:) ⟨_,rfl,rfl⟩⟩ ?_
 rintro _ _ ⟨far,rfl,rfl⟩;have kpos:=hW.pos;have bo:=aQ kpos;have bp:atI (ks.map λk=>V.ref k.1) 0=some (.ref ks[0].1):=Qo (j:=0) (by rw [aK,aD kpos];rfl);refine let M:J2:=(λσ H'=>∃(lk:Addr)(U:List Str),σ=[some (.ref a),some (.ref wd),some (.ref Z),some (.ref d),some (.int far),some (.ref lk),none,none,none,none,none,none,none,none]/\Same H2 H'/\H' lk=some (.lst (U.map V.str))/\U.length<=3/\0<U.length/\∀z∈U,∃J∈ks,J.2.1=z);.c M ?_ ?_
 .have bq:=hw.same bn;refine .l _ _ bq.1 bp (.t _ _ (bq.2 _ bo).1 rfl ⟨λl1 X1 e1 d1 _=>?_⟩);have h7:7<xs.length:=by lia
  refine .l _ _ (SqL.of (e1 _ _ hd)) (Qo (j:=7) (by rw [aK,aD h7];rfl)) ?_;generalize xs[7]=x7;have z0:0<=x7%3:=cJ _ (12:);have z1:x7%3<3:=cV _ (12:);obtain⟨m,hm⟩: ∃m:Nat,x7%3=(m:Int):=⟨(x7%3).toNat,by lia⟩;have c0:cutV (xs.map V.int) none (some (x7%3))=(xs.take m).map V.int:=by rw [hm,SB,List.map_take]
  refine⟨d,_,rfl,SqL.of (e1 _ _ hd),λls dd=>?_⟩;have br:=Qd dd (.lst (cutV (xs.map V.int) none (some (x7%3))));have bt:(upd X1 ls (.lst (cutV (xs.map V.int) none (some (x7%3))))) ls=some (.lst ((xs.take m).map V.int)):=by rw [Qb,c0]
  generalize upd X1 ls (.lst (cutV (xs.map V.int) none (some (x7%3))))=Hs at br bt;have cn:=e1.trans br;have aq:((xs.take m).map V.int).length<=2:=by rw [aE,cW];lia
  refine .l _ (SqL.of bt) (let M:JC:=(λi ys H'=>∃zs:List Str,ys=zs.map V.str/\zs.length=i/\∀z∈zs,∃J∈ks,J.2.1=z);.s M (λH' _=>⟨[],rfl,rfl,λz hz=>(nomatch hz)⟩) (λ_ _ _ _ _ _ h _ _ _ _=>h) (5:) ?_ ?_)
  .rintro i ys H' hi _ g ⟨zs,rfl,co,hz⟩;have bu:=bq.same (cn.trans g);obtain⟨n,hn⟩: ∃n:Int,(((xs.take m).map V.int)[i]?).getD .non=.int n:=by
    rw [aD hi,List.getElem_map];exact⟨_,rfl⟩
   rw [hn];refine .l _ bu.1 (Nn (17:) ?_);obtain⟨y,hy,c1⟩:=Y7 (xs:=ks.map λk=>V.ref k.1) (k:=((ks.map λk=>V.ref k.1).length:Int)) rfl (by rw [aE];exact kpos) n;obtain⟨J,L,rfl⟩:=aJ.mp hy;refine .l _ _ bu.1 c1 (.t _ _ (bu.2 J L).1 rfl ⟨λ_ _ e=>e,zs++[J.2.1],by simp,by simp [co],λz bv=>?_⟩);rcases aX.mp bv with h | h
   .exact hz z h
   .rw [bJ.mp h];exact⟨J,L,rfl⟩
  .rintro acc _ H3 g3 aw ⟨zs,rfl,co,hz⟩;refine⟨l1,acc,_,_,rfl,rfl,SqL.of (g3 _ _ (br _ _ d1)),SqL.of aw,(by rw [aE,cM];exact ZM (5:)),λlk de=>⟨lk,ks[0].2.1::zs,rfl,cn.trans (g3.trans (Qd de _)),Qb,by rw [bF];lia,by rw [bF];lia,λz bv=>?_⟩⟩;rcases aM.mp bv with h | h
   .exact⟨ks[0],bo,h.symm⟩
   .exact hz z h
 rintro _ H4 ⟨lk,U,rfl,bw,ah,dy,dz,c2⟩;have bx:=bn.trans bw;have ai:=(g2.trans bw) _ _ bj;have df:=bw _ _ hd;have bf:=hw.same bx;have cp:=bx.seq hS;have bg:(U.map V.str).length=U.length:=aE ..;refine⟨λlm H5 cq c3 dg=>?_⟩;refine .l _ (SqL.of (cq _ _ ah)) ⟨⟨by rw [bg];lia,by rw [bg];lia⟩,let M:J3:=(λk σ H'=>∃(ms:List MdT)(c7 c8 c9 ab ad ax:Option V),σ=[some (.ref a),some (.ref wd),some (.ref Z),some (.ref d),some (.int far),some (.ref lk),some (.ref lm),c7,c8,c9,ab,ad,ax,none]/\Same H4 H'/\H' lm=some (.lst (ms.map λm=>V.ref m.1))/\ms.map (λm=>m.2.1)=U.take k/\∀m∈ms,CY K H' lm m/\∃J∈ks,J.2.1=m.2.1/\m.2.2.2.2.length=J.2.2.2.length/\RF U J.2.2.2 m.2.2.2.2 4);.f M
  ⟨[],_,_,_,_,_,_,rfl,cq,c3,rfl,λm hm=>(nomatch hm)⟩ ?_ ?_⟩
 .rintro k σ H' hk ⟨ms,c7,c8,c9,ab,ad,ax,rfl,g,aj,ae,ay⟩;rw [bg,a_]at hk;obtain⟨J,L,cr⟩:=c2 _ (aQ hk);have bz:atI (U.map V.str) (k:Int)=some (.str J.2.1):=Qo (by rw [aK,aD hk,cr];rfl);refine⟨λlr H6 ct c4 b0=>?_⟩;have gr:=g.trans ct;refine .l _ _ (SqL.of (gr _ _ ah)) bz ⟨wd,ks,J,rfl,bf.same gr,hW.ok.nd,L,?_⟩;have d4:=(hW.rws J L).2;have dh:=(hW.ok.rows J L);refine let M:J3:=(λi σ Hi=>∃(us:List V)(ts:List Tm)(c9 ab ad:Option V),σ=[some (.ref a),some (.ref wd),some (.ref Z),some (.ref d),some (.int far),some (.ref lk),some (.ref lm),some (.int (k:Int)),some (.ref lr),c9,ab,ad,ax,none]/\Same H' Hi/\Hi lr=some (.lst us)/\TmAll K Hi us ts/\ts.length=i/\RF U J.2.2.2 ts 3);.f (J.2.2.2.map λt=>V.ref t.1) M
   ⟨[],[],_,_,_,rfl,ct,c4,.nil,rfl,RF.nil⟩ ?_ ?_ ?_
  .rintro i σ Hi _ ⟨_,_,_,_,_,_,gi,_⟩;exact((bf.same (g.trans gi)).2 J L).2.1
  .rintro i x σ Hi hx ⟨us,ts,c9,ab,ad,rfl,gi,aa,ar,az,af⟩;have ak:i<J.2.2.2.length:=by have:=(aU.mp hx).1;simpa using this
   obtain rfl:x=.ref J.2.2.2[i].1:=by
    rw [aK,aD ak]at hx;exact(aI hx).symm
   have al:=g.trans gi;have cu:=((bf.same al).2 J L).2.2 _ (aQ ak);have c5:=ar.length;refine⟨J.2.2.2[i].1,_,rfl,cu.1,.inl ⟨by decide,by decide⟩,.l _ (SqL.of aa) ⟨a,ns,4+3*k+us.length,by rw [show(4+3*(k:Int)+(us.length:Int))=((4+3*k+us.length:Nat):Int)by lia],al.seq cp,_,8,rfl,by decide,λly ag Hy gy Y am a0 _=>?_⟩⟩;have as:=al.trans gy;refine⟨G3.tyL (gy _ _ aa),J.2.2.2[i].2.2.1,lk,J.2.2.2[i].2.2.2,U,rfl,gy.seqT cu.2,SqL.of (as _ _ ah),dh.kl _ (aQ ak),by lia,λlc ws tc Hc gc an b1 b3 b4 a9=>?_⟩;have ba:lc≠ly:=λz=>by rw [z,am]at an;cases an
   have bb:Z≠ly:=λz=>by rw [<-z,al _ _ ai]at Y;cases Y
   refine⟨ly,lc,Z,far,2,ag,ws,tc,pns c 9,Fc U J.2.2.2[i].2.2.2,rfl,gc _ _ am,by rw [a0];decide,SqL.of b1,b3,λt ht=>?_,a9,ba,SqL.of ((as.trans gc) _ _ ai),by simp,LC c 9,bb,by decide,by decide,λv5 H5 t5 di g5 dj _ b5 b6 a6=>?_⟩
   .obtain⟨k2,j2,e,z,e1,e2⟩:=b4 t ht;exact⟨_,_,e,k2,j2,z,rfl,rfl,e1,e2⟩
   have b7:Same Hi H5:=UR (gy.trans gc) Y g5;have bc:=b7 _ _ aa;refine⟨lr,us,_,rfl,rfl,bc,by rw [QD];lia,us++[v5],ts++[t5],_,_,_,rfl,λb u e=>?_,Qb,?_,by simp [az],af.snoc az (aD ak) b6 a6⟩
   .rw [Qe (Qf e b0)];exact b7 _ _ (gi _ _ e)
   .exact TmAll.append (ar.mono λ_ _ h=>(b7.seqT h).put bc) (.cons (b5.mono λ_ _ h=>h.put bc) .nil)
  rintro σ Hi ⟨us,ts,c9,ab,ad,rfl,gi,aa,ar,az,af⟩;rw [aE]at az;have al:=g.trans gi;have c5:=ar.length;refine let M:J2:=(λd3 H6=>∃(l:Addr)(bh:List V)(a7:List Tm)(b8:Option V),d3=[some (.ref a),some (.ref wd),some (.ref Z),some (.ref d),some (.int far),some (.ref lk),some (.ref lm),some (.int (k:Int)),some (.ref l),c9,ab,ad,b8,none]/\Same H' H6/\H6 l=some (.lst bh)/\l≠lm/\TmAll K H6 bh a7/\a7.length=J.2.2.2.length/\RF U J.2.2.2 a7 4);.c M ?_ ?_
  .have dk:3+k<xs.length:=by lia
   have cj:lr≠lm:=λz=>by rw [z,aj]at b0;cases b0
   refine .l _ _ (SqL.of (al _ _ df)) (show atI (xs.map V.int) (3+(k:Int))=some (.int xs[3+k])from by rw [show(3+(k:Int))=((3+k:Nat):Int)by lia];exact Qo (by rw [aK,aD dk];rfl)) ?_;refine G3.iteI (λ_=>?_) λ_=>⟨lr,us,ts,_,rfl,gi,aa,cj,ar,az,λt ht=>⟨(af.1 t ht).1,by have:=(af.1 t ht).2.1;lia,by have:sz t<=7:=(af.1 t ht).2.2;show sz t<=9;lia⟩,af.2⟩;have b9:=al _ _ ai;refine .l _ _ (SqL.of b9) (atN c (i:=3) (12:)) ⟨λp0 X0 e1 d0 _=>⟨λpl Hl e2 dl _=>?_⟩⟩;have au:=e1.trans e2;have ck:TmV K Hl (.ref pl) (.node (.put (pn c 3) false 0) 0 []):=.put dl (e2.seqT d0) .nil (16:);refine .l us (SqL.of (au _ _ aa)) (let M:JA:=(λacc i ys Hj=>∃ps:List Tm,Hj acc=some (.lst ys)/\Same Hl Hj/\TmAll K Hj ys ps/\ps.length=i/\RF U J.2.2.2 ps 4);.m M (5:) (λ_ _ _ g ea=>⟨[],ea,g,.nil,rfl,RF.nil⟩) (λ_ _ _ _ ⟨_,_,gj,_⟩=>SqL.of (gj _ _ (au _ _ aa))) ?_ ?_)
   .rintro acc i ys Hj hi _ av ⟨ps,aw,gj,ca,bd,be⟩;have cb:i<ts.length:=by lia
    obtain⟨cv,dp,dq⟩:=ar.get (aD cb);have ex:(us[i]?).getD .non=cv:=by rw [dp];rfl
    rw [ex];obtain⟨o1,o2⟩:=af.1 _ (aQ cb);have ak:i<J.2.2.2.length:=by lia
    have o3:=af.2 i _ _ (aD ak) (aD cb);refine .l _ _ (SqL.of (gj _ _ (au _ _ b9))) (atN c (i:=4) (12:)) ⟨λp1 X1 e3 d1 _=>⟨λp2 X2 e4 d2 _=>?_⟩⟩;have cc:=e3.trans e4;have ac:=cc _ _ aw;have ce:=gj.trans cc;refine⟨ac,ps++[.node (.put (pn c 4) false far) 0 [ts[i],.node (.put (pn c 3) false 0) 0 []]],Qb,λb u e=>?_,?_,by simp [bd],be.snoc bd (aD ak) ?_ ?_⟩
    .rw [Qe (Qf e av)];exact ce _ _ e
    .exact TmAll.append (ca.mono λ_ _ h=>(cc.seqT h).put ac) (.cons (.put (SqT.put d2 ac) (SqT.put (e4.seqT d1) ac) (.cons (dq.mono λ_ _ h=>(ce.seqT (au.seqT h)).put ac) (.cons (ck.mono λ_ _ h=>(ce.seqT h).put ac) .nil)) (16:)) .nil)
    .simp only [TPr,TPrs];exact⟨W6 _ _,by simp,o3,⟨W6 _ _,by simp,trivial⟩,trivial⟩
    .refine⟨by have:=o2.1;simp only [lv,lvs];lia,?_⟩;have:sz ts[i]<=7:=o2.2;show _<=9;simp only [sz,szs];lia
   rintro acc ys Hj av ⟨ps,aw,gj,ca,bd,be⟩;exact⟨acc,ys,ps,_,rfl,gi.trans (au.trans gj),aw,(λz=>by rw [z,au _ _ (gi _ _ aj)]at av;cases av),ca,by lia,be⟩
  rintro _ H6 ⟨l,bh,a7,b8,rfl,g6,bi,cf,c6,da,dc⟩;have cw:=g.trans g6;have cg:=g6 _ _ aj;refine⟨G3.tyL cg,.l _ _ (SqL.of (cw _ _ ah)) bz ⟨λpm X7 e7 dm _=>?_⟩⟩;have ao:=e7 _ _ cg;have aq:=congrArg List.length ae;rw [aE,cW]at aq;refine⟨lm,_,_,rfl,rfl,ao,by rw [aE,QD];lia,ms++[(pm,J.2.1,l,bh,a7)],_,_,_,_,_,_,rfl,λb u e=>?_,by rw [Qb,aP];rfl,?_,λm hm=>?_⟩
  .rw [Qe (Qf e dg)];exact e7 _ _ (cw _ _ e)
  .rw [aP,ae,bB,aD hk,<-cr];rfl
  .rcases aX.mp hm with h | h
   .obtain⟨⟨a1,a2,a3,a4⟩,a5⟩:=ay m h;have ch:=g6.trans e7;exact⟨⟨(ch.seqT a1).put ao,by rw [Qe a3];exact ch _ _ a2,a3,a4.mono λ_ _ h=>(ch.seqT h).put ao⟩,a5⟩
   .obtain rfl:=bJ.mp h;refine⟨⟨SqT.put dm ao,?_,cf,c6.mono λ_ _ h=>(e7.seqT h).put ao⟩,J,L,rfl,da,dc⟩;show(upd _ lm _) l=_;rw [Qe cf];exact e7 _ _ bi
 rintro σ H' ⟨ms,c7,c8,c9,ab,ad,ax,rfl,g,aj,ae,ay⟩;rw [bg,a_,dN]at ae;have aq:=congrArg List.length ae;rw [aE]at aq;refine let M:J2:=(λσ Hy=>∃(ly:Addr)(ag:List Int),σ=[some (.ref a),some (.ref wd),some (.ref Z),some (.ref d),some (.int far),some (.ref lk),some (.ref lm),c7,c8,c9,ab,some (.ref ly),ax,none]/\Same H' Hy/\H' ly=none/\Hy ly=some (.lst (NI ag))/\ag.length=8);.c M ⟨a,ns,13,rfl,g.seq cp,_,8,rfl,by decide,λly ag Hy gy Y am a0 _=>⟨ly,ag,rfl,gy,Y,am,a0⟩⟩ ?_
 rintro _ Hy ⟨ly,ag,rfl,gy,Y,am,a0⟩;have as:=g.trans gy;have cx:=bf.same as;refine .l _ _ cx.1 bp (.t _ _ (cx.2 _ bo).1 rfl ⟨λpb Xb e9 db _=>⟨pb,lk,[ks[0].2.1],U,rfl,db,SqL.of (e9 _ _ (as _ _ ah)),by simp,by lia,λlc ws tc Hc gc an b1 b3 b4 a9=>?_⟩⟩);have ci:=e9.trans gc;have ba:lc≠ly:=λz=>by rw [z,e9 _ _ am]at an;cases an
 have bb:Z≠ly:=λz=>by rw [<-z,g _ _ ai]at Y;cases Y
 refine⟨ly,lc,Z,far,2,ag,ws,tc,pns c 9,λa b=>(0<=a/\a<(U.length:Int)/\U[a.toNat]?=some ks[0].2.1)/\Fc U [ks[0].2.1] a b,rfl,ci _ _ am,by rw [a0];decide,SqL.of b1,b3,λt ht=>?_,a9,ba,SqL.of (ci _ _ (as _ _ ai)),by simp,LC c 9,bb,by decide,by decide,λv5 H5 t5 di g5 dj _ b5 b6 a6=>?_⟩
 .obtain⟨k2,j2,e,z,e1,e2⟩:=b4 t ht;have h2:=(aU.mp e1).1;have h4:z=ks[0].2.1:=bJ.mp (aL e2);exact⟨_,_,e,⟨by lia,by lia,by rw [a_,e1,h4]⟩,k2,j2,z,rfl,rfl,e1,e2⟩
 have du:Same H' H5:=UR (gy.trans ci) Y g5;refine⟨v5,t5,_,rfl,b5,b6,by have:=a6.1;lia,λv6 H6 t6 g6 dv cy bi dw=>⟨λtu d5 cz dt _=>?_⟩⟩;have a8:=du.trans (g6.trans cz);have gT:=bx.trans (g.trans a8);refine q tu lm v6 t6 ms _ gT ⟨dt,hw.same gT,dv.mono λ_ _=>cz.seqT,SqL.of (a8 _ _ aj),λm hm=>?_⟩ ⟨by lia,by lia,λk0 ap=>?_,⟨⟨by have:=bi.1;have:=a6.1;lia,bT bi.2 a6.2⟩,dw⟩,λk0 ap=>?_,λm hm=>?_,λm hm=>?_⟩
 .obtain⟨⟨a1,a2,a3,a4⟩,_⟩:=ay m hm;exact⟨a8.seqT a1,SqL.of (a8 _ _ a2),a4.mono λ_ _=>a8.seqT⟩
 .rw [aD kpos]at ap;obtain rfl:=aI ap;refine cy.mono λa b h=>⟨h.1.1,by rw [aq];exact h.1.2.1,?_⟩;have h3:=h.1.2.2;rw [<-ae,aK]at h3;cases em:ms[a.toNat]? with
  | none=>rw [em]at h3;cases h3
  | some m=>rw [em]at h3;exact⟨m,rfl,aI h3⟩
 .rw [aD kpos]at ap;obtain rfl:=aI ap;rw [ae];exact cy.mono λa b h=>h.2
 .obtain⟨_,J,L,e1,e2,e3⟩:=ay m hm;rw [ae];exact⟨J,L,e1,e3.2⟩
 .obtain⟨_,J,L,e1,e2,e3⟩:=ay m hm;exact⟨J,L,e1,e2,λt ht=>by rw [aq];exact e3.1 t ht⟩
end
end K40
namespace K51
open PySem TM TT L2 K9 K11 ST
end K51
namespace K40
open K51
open PySem L2 TM TT ST K9 K11
abbrev kns(ms:List MdT):List Str:=ms.map λm=>m.2.1
theorem P4{k:Nat}{z:Str}(h:(kns ms)[k]?=some z):∃m,ms[k]?=some m/\m.2.1=z:=by
 rw [aK]at h;cases e:ms[k]? with
 | none=>rw [e]at h;cases h
 | some m=>rw [e]at h;exact⟨m,rfl,aI h⟩
end K40
namespace K40c
open K40
open PySem L2 TM TT ST K9 K11
theorem tu_copy{ks:List KdT}(e1:hs.map QR=ks.map QR)(e2:ms'.map MdT.md=ms.map MdT.md)(h:TuOk ks ms):TuOk hs ms':=by
 have Z:ms'.length=ms.length:=by have:=congrArg List.length e2;simpa using this
 have aa:hs.length=ks.length:=by have:=congrArg List.length e1;simpa using this
 have gm:∀G∈ms',∃m∈ms,m.2.1=G.2.1/\m.2.2.2.2=G.2.2.2.2:=λG J=>by
  have z:G.md∈ms.map MdT.md:=by rw [<-e2];exact aJ.mpr ⟨G,J,rfl⟩
  obtain⟨m,M,e⟩:=aJ.mp z;have f1:=congrArg Prod.fst e;have f2:=congrArg Prod.snd e;exact⟨m,M,f1,f2⟩
 have gk:∀k'∈hs,∃k∈ks,k.2.1=k'.2.1/\k.2.2.2=k'.2.2.2:=λk' L=>by
  have z:QR k'∈ks.map QR:=by rw [<-e1];exact aJ.mpr ⟨k',L,rfl⟩
  obtain⟨k,U,e⟩:=aJ.mp z;have f1:=congrArg Prod.fst e;have f2:=congrArg Prod.snd e;exact⟨k,U,f1,f2⟩
 have ab:∀k∈ks,∃k'∈hs,k'.2.1=k.2.1/\k'.2.2.2=k.2.2.2:=λk U=>by
  have z:QR k∈hs.map QR:=by rw [e1];exact aJ.mpr ⟨k,U,rfl⟩
  obtain⟨k',L,e⟩:=aJ.mp z;have f1:=congrArg Prod.fst e;have f2:=congrArg Prod.snd e;exact⟨k',L,f1,f2⟩
 refine⟨⟨?_,by rw [aa];exact h.wo.len,λk' L=>?_⟩,⟨by rw [Z];exact h.mo.four,λG J=>?_,λG J t Y=>?_⟩,λG J=>?_⟩
 .have z:(hs.map λk=>k.2.1)=ks.map λk=>k.2.1:=by
   have:=congrArg (λl=>l.map Prod.fst) e1;simp only [bX]at this;exact this
  rw [z];exact h.wo.nd
 .obtain⟨k,U,_,e⟩:=gk k' L;rw [<-e];exact h.wo.rows k U
 .obtain⟨m,M,_,e⟩:=gm G J;rw [<-e];exact h.mo.ten m M
 .obtain⟨m,M,_,e⟩:=gm G J;rw [<-e]at Y;rw [Z];exact h.mo.tm m M t Y
 .obtain⟨m,M,e3,e4⟩:=gm G J;obtain⟨kd,U,h1,h2,h3,h4⟩:=h.kd m M;obtain⟨k',L,e5,e6⟩:=ab kd U;refine⟨k',L,by rw [e5,h1,e3],by rw [e6,<-e4];exact h2,by rw [e6];exact h3,λj r t hr Y=>?_⟩;rw [e6]at hr;rw [<-e4]at Y;exact h4 j r t hr Y
end K40c
namespace K40
open PySem L2 TM TT ST K9 K11
mutual
theorem TPr.cl{p:Int->Int->Prop}:∀{t:Tm},K51.TPr p t->CPr p t
 | .node (.call m b) z bs,h,c,G=>by
  simp only [K51.TPr]at h;obtain⟨h1,rfl⟩:=h;simp only [cls,lcl,Q5,dG,bJ]at G;rw [G];exact h1
 | .node (.put n k a) z bs,h,c,G=>by
  simp only [K51.TPr]at h;simp only [cls,lcl,dO]at G;exact TPrs.cl h.2.2 c G
theorem TPrs.cl{p:Int->Int->Prop}:∀{ts:List Tm},K51.TPrs p ts->∀c∈Q5 ts,p c.1 c.2
 | [],_,c,hc=>by simp [Q5]at hc
 | t::r,h,c,hc=>by
  simp only [K51.TPrs]at h;simp only [Q5,aX]at hc;rcases hc with hc | hc
  .exact TPr.cl h.1 c hc
  .exact TPrs.cl h.2 c hc
end
mutual
theorem TPr.dr{p:Int->Int->Prop}{cs:List (Int×Int)}:∀{t:Tm},K51.TPr p t->(∀c∈cls t,c∈cs)->TDr cs t
 | .node (.call m b) z bs,h,G=>by
  simp only [TDr];exact G (m,b) (by simp [cls,lcl])
 | .node (.put n k a) z bs,h,G=>by
  simp only [K51.TPr]at h;simp only [TDr];exact⟨h.1,h.2.1,TPrs.dr h.2.2 λc J=>G c (by simp only [cls,lcl,dO];exact J)⟩
theorem TPrs.dr{p:Int->Int->Prop}{cs:List (Int×Int)}:∀{ts:List Tm},K51.TPrs p ts->(∀c∈Q5 ts,c∈cs)->TDrs cs ts
 | [],_,_=>by simp only [TDrs]
 | t::r,h,hc=>by
  simp only [K51.TPrs]at h;simp only [TDrs];exact⟨TPr.dr h.1 λc G=>hc c (by simp only [Q5];exact cT _ G),TPrs.dr h.2 λc G=>hc c (by simp only [Q5];exact bY _ G)⟩
end
theorem Rx{t:Tm}(h:K51.TPr (Fc kn []) t):cls t=[]:=by
 cases e:cls t with
 | nil=>rfl
 | cons c r=>
  obtain⟨k,j,z,_,_,_,h2⟩:=TPr.cl h c (by rw [e];exact aR);cases h2
theorem OC{ks:List KdT}{st:Tm}(hW:WD ks)(h:T51 ks st ms):K40c.TuOk ks ms:=by
 refine⟨hW.ok,⟨by have:=h.three;lia,λm G=>?_,λm G t U=>?_⟩,λm G=>?_⟩
 .obtain⟨M,J,_,e,_⟩:=h.md m G;have:=hW.rws M J;lia
 .obtain⟨M,J,_,e,Y⟩:=h.md m G;obtain⟨h4,h5⟩:=Y t U;have:sz t<=9:=h5.2;refine⟨⟨cls t,TPr.dr h4 λc Z=>Z⟩,h5.1,by lia,λc Z=>?_⟩;obtain⟨c0,c1⟩:=TPr.cl h4 c Z;exact⟨c0,by lia⟩
 .obtain⟨M,J,e,Y⟩:=h.ft m G;obtain⟨L,aa,e',hl,_⟩:=h.md m G;have:L=M:=Ur hW.ok.nd aa J (by rw [e,e']);subst this;refine⟨L,J,e,hl,(hW.kx L J).2,λj r t hr U hb=>?_⟩;have:=Y j r t hr U;rw [hb]at this;exact Rx this
theorem Lj:∀{p:List Nat}{s u:Stp},stA s p=some u->p.length+ST.sl u<=ST.sl s
 | [],s,u,h=>by
  rw [Zk]at h;rw [aI h];simp
 | i::p,.op,u,h=>by simp [stA]at h
 | i::p,.put n m ps,u,h=>by
  simp only [stA]at h;obtain⟨x,G,J⟩:=cI.mp h;have h1:=Lj J;have h2:=Vr (aL G);simp only [bF,ST.sl];lia
theorem LI{m b:Int}:∀{q:List Nat}{s:Stp}{p:List Nat},stA s q=some .op->((m,p++q),b)∈clX (stX m b p s)
 | [],s,p,h=>by
  rw [Zk]at h;rw [aI h,dG];simp [stX,clX]
 | i::q,.op,p,h=>by simp [stA]at h
 | i::q,.put n a ps,p,h=>by
  simp only [stA]at h;obtain⟨x,G,J⟩:=cI.mp h;simp only [stX,clX];have h1:=LI (m:=m) (b:=b) (p:=p++[i]) J;refine U4 (t:=stX m b (p++[i]) x) (aL (i:=i) ?_) (by rw [dE]at h1;exact h1);rw [Yv,G,fi];rfl
theorem Rn{ps:List Ky}{d:Ky}(h:ps.Nodup):(ZI ps d).Nodup:=by
 unfold ZI
 by_cases e:d∈ps
 .rw [aG e];exact h
 .rw [aF e];rw [fM];refine⟨h,by simp,λa G b J=>?_⟩;rw [bJ.mp J];exact λz=>e (z ▸ G)
theorem JV:∀{l ps:List Ky},ps.Nodup->(Qp ps l).Nodup
 | [],ps,h=>h
 | d::l,ps,h=>JV (l:=l) (Rn h)
theorem Lb:∀{F m:Nat}{ps:List Ky},ps.Nodup->(ZC mk F m ps).Nodup
 | 0,_,_,h=>h
 | F+1,m,ps,h=>by
  rw [ZC];cases ps[m]? with
  | none=>exact h
  | some p=>exact Lb (JV h)
theorem WS{G:Ky->Prop}(hc:∀q,G q->∀c∈clL (mk q).2,G c):∀{F m:Nat}{ps:List Ky},(∀q∈ps,G q)->∀q∈ZC mk F m ps,G q
 | 0,_,_,h=>h
 | F+1,m,ps,h=>by
  rw [ZC];cases e:ps[m]? with
  | none=>exact h
  | some p=>
   refine WS hc λq J=>?_;rcases Zg.mp J with z | z
   .exact h q z
   .exact hc p (h p (aL e)) q z
structure Hy(ds:List Md)(S:List Stp):Prop where
 len:S.length=ds.length
 three:ds.length<=3
 bel:∀(m:Nat) d r,ds[m]?=some d->r∈d.2->Bel (lookS S (m:Int)) (rsT (lookS S) r)
 big:∀m,ssz (lookS S m)<=18/\ST.sl (lookS S m)<=4
 ru:∀d∈ds,d.2.length<=100/\∀r∈d.2,Lz 4 r/\CallsIn ds.length r
def mkE(ds:List Md)(S:List Stp):MkP:=λq=>match ds[q.1.toNat]? with
 | some d=>(d.1,d.2.map λr=>(eT (lookS S) r q.2).getD (.node (.call q 0) 0 []))
 | none=>("",[])
structure Gd(ds:List Md)(S:List Stp)(q:Ky):Prop where
 m0:0<=q.1
 d:∃d,ds[q.1.toNat]?=some d
 o:stA (lookS S q.1) q.2=some .op
section
variable{ds:List Md}{S:List Stp}
theorem Gd.rule(y:Hy ds S){q:Ky}(g:Gd ds S q){d:Md}(hd:ds[q.1.toNat]?=some d){r:Tm}(hr:r∈d.2):∃x,eT (lookS S) r q.2=some x:=by
 have G:=y.bel _ d r hd hr;rw [eE g.m0]at G;obtain⟨u,J⟩:=Ob G g.o;exact SA J
theorem Su(y:Hy ds S){t:Tm}(hc:CallsIn ds.length t){x:TX}{p:List Nat}(hx:eT (lookS S) t p=some x):∀c∈clX x,Gd ds S c.1:=λc G=>by
 obtain⟨h1,h2⟩:=OF hx c G;obtain⟨J,L⟩:=hc _ h1;exact⟨J,⟨_,aD L⟩,h2⟩
theorem Gd.next(y:Hy ds S)(g:Gd ds S q):∀c∈clL (mkE ds S q).2,Gd ds S c:=λc M=>by
 obtain⟨d,L⟩:=g.d;unfold clL at M;obtain⟨Y,G,rfl⟩:=aJ.mp M;unfold mkE at G;rw [L]at G;obtain⟨x,Z,J⟩:=W9 G;obtain⟨r,U,rfl⟩:=aJ.mp Z;obtain⟨x,ex⟩:=g.rule y L U;rw [ex]at J;exact Su y (((y.ru d (aL L)).2 r U).2) ex Y J
theorem TL(y:Hy ds S)(hn:qs.Nodup)(h:∀q∈qs,Gd ds S q):qs.length<=54:=by
 have h1:qs.length<=((List.range ds.length).flatMap λ(m:Nat)=>(clX (stX (m:Int) 0 [] (lookS S (m:Int)))).map (·.1)).length:=Uv hn λq J=>by
  obtain⟨m0,⟨d,L⟩,o⟩:=h q J;have M:=(aU.mp L).1;refine List.mem_flatMap.mpr ⟨q.1.toNat,cO.mpr M,aJ.mpr ⟨(q,0),?_,rfl⟩⟩;have h2:=LI (m:=q.1) (b:=0) (p:=[]) o;rw [eE m0];exact h2
 have h2:∀l:List Nat,(l.flatMap λ(m:Nat)=>(clX (stX (m:Int) 0 [] (lookS S (m:Int)))).map (·.1)).length<=l.length*18:=λl=>by
  induction l with
  | nil=>simp
  | cons a r U=>
   rw [List.flatMap_cons,aW,aE,bF,Nat.succ_mul];have G:=X8 (stX (a:Int) 0 [] (lookS S (a:Int)));have Y:=(Wm (a:Int) 0 (lookS S (a:Int)) []).1;have Z:=(y.big (a:Int)).1;lia
 have G:=h2 (List.range ds.length);rw [eI]at G;have:=y.three;lia
theorem Oc(y:Hy ds S)(g:Gd ds S q){d:Md}(hd:ds[q.1.toNat]?=some d):(mkE ds S q).1=d.1/\P8 S q.2 d.2 (mkE ds S q).2:=by
 have e:mkE ds S q=(d.1,d.2.map λr=>(eT (lookS S) r q.2).getD (.node (.call q 0) 0 [])):=by unfold mkE;rw [hd]
 rw [e];refine⟨rfl,by simp,λi t x J G=>?_⟩;have L:=aL J;obtain⟨h1,h2⟩:=(y.ru d (aL hd)).2 t L;obtain⟨M,ex⟩:=g.rule y hd L;rw [aK,J]at G;have G:(eT (lookS S) t q.2).getD (.node (.call q 0) 0 [])=x:=aI G;rw [ex]at G;have G:M=x:=G;subst G;have Z:=WN (A:=18) (B:=4) y.big (12:) (12:) ex;have U:sz t<=9:=h1.2;have h5:sz t*18<=9*18:=fH _ U;have Y:=h1.1;exact⟨Y,by rw [y.len];exact h2,ex,by lia,by lia⟩
theorem BN(y:Hy ds S){st:Tm}(hs:Lz 3 st)(hc:CallsIn ds.length st)(hm:ms.map MdT.md=ds):∃qs,Eb S st ms (sin (lookS S) st) (mkE ds S) qs/\∀q∈qs,Gd ds S q:=by
 have J:=Z3 (lookS S) st;have g0:∀q∈Qp [] ((clX (sin (lookS S) st)).map (·.1)),Gd ds S q:=λq L=>by
  rcases Zg.mp L with z | z
  .cases z
  .obtain⟨c,Y,rfl⟩:=aJ.mp z;exact Su y hc J c Y
 have M:∀q∈ZC (mkE ds S) 201 0 (Qp [] ((clX (sin (lookS S) st)).map (·.1))),Gd ds S q:=WS (λq g=>g.next y) g0;have hn:(ZC (mkE ds S) 201 0 (Qp [] ((clX (sin (lookS S) st)).map (·.1)))).Nodup:=Lb (JV fQ);have h3:=WN (A:=18) (B:=4) y.big (12:) (12:) J;have h4:sz st<=7:=hs.2;have h5:sz st*18<=7*18:=fH _ h4;have h6:=hs.1;refine⟨_,⟨⟨by lia,by rw [y.len];exact hc,J,by lia,by lia⟩,rfl,by have:=TL y hn M;lia,λq L=>?_⟩,M⟩;have g:=M q L;obtain⟨d,U⟩:=g.d;have G:=U;rw [<-hm,aK]at G;obtain⟨md,Z,rfl⟩:=cL.mp G;obtain⟨a1,a2⟩:=Oc y g U;have hl:=Lj g.o;have hb:=(y.big q.1).2;exact⟨q.1.toNat,q.2,md,by rw [eE g.m0],by lia,Z,a1,(y.ru _ (aL U)).1,a2⟩
end
theorem Og{rl:Rls}(ok:Jy rl)(m:Int):∀n,Bel (lookS (D rl n) m) (lookS (D rl 0) m)
 | 0=>Bel.refl _
 | n+1=>(XL ok n m).trans (Og ok m n)
mutual
theorem N3:∀t:Tm,ssz (rsT (λ_=>Stp.op) t)<=2*sz t
 | .node (.call m b) _ bs=>by simp only [rsT,ssz,sz];lia
 | .node (.put n k a) _ bs=>by
  simp only [rsT,sz];have:=Lh bs;cases k with
  | true=>simp only [b_,ssz];lia
  | false=>simp only [cD,bU,ssz];lia
theorem Lh:∀ts:List Tm,ZQ (ZW (λ_=>Stp.op) ts)<=2*szs ts
 | []=>by simp only [ZW,ZQ,szs];lia
 | t::r=>by
  simp only [ZW,ZQ,szs];have:=N3 t;have:=Lh r;lia
end
theorem A3(T:K40c.TuOk hs ms)(h3:ms.length<=3)(hz:∀m∈ms,∀t∈m.2.2.2.2,Lz 4 t)(hD:D (rlOf hs ms) (n+1)=D (rlOf hs ms) n):Hy (ms.map MdT.md) (D (rlOf hs ms) n):=by
 have Y:(D (rlOf hs ms) n).length=ms.length:=by rw [Y5];unfold rlOf;rw [aE]
 have Z:∀(m:Nat) md,ms[m]?=some md->(rlOf hs ms)[m]?=some (QX (QV hs md.2.1) md.2.2.2.2):=λm md e=>by unfold rlOf;rw [aK,e];rfl
 refine⟨by rw [Y,aE],by rw [aE];exact h3,λm d r L M=>?_,λm=>?_,λd L=>?_⟩
 .rw [aK]at L;obtain⟨md,G,rfl⟩:=cL.mp L;obtain⟨j,hj,ej⟩:=bW (show r∈md.2.2.2.2 from M);have hl:=(T.rows (aL G)).1;have hb:=UK (n:=n) (Z m md G);rw [hD]at hb;rw [hb];have aa:j<(QV hs md.2.1).length:=by lia
  have:=(K40c.rls_at hl (j:=j) (b:=(QV hs md.2.1)[j].2.2.2.isEmpty) (t:=r)).mpr ⟨by rw [aD hj,ej],_,aD aa,rfl⟩;exact Yq (aJ.mpr ⟨_,aL this,rfl⟩)
 .by_cases hm:m.toNat<ms.length
  .have G:=aD hm;have J:=aQ hm;generalize ms[m.toNat]=md at G J;obtain⟨⟨r0,U,ab⟩,_⟩:=T.rl.ok _ (aL (Z _ md G));have b0:=Og T.rl.ok m n;have e0:lookS (D (rlOf hs ms) 0) m=US (QX (QV hs md.2.1) md.2.2.2.2):=by
    simp only [D];rw [ZF,Z _ md G];rfl
   rw [e0]at b0;have b1:Bel (US (QX (QV hs md.2.1) md.2.2.2.2)) (rsT (λ_=>Stp.op) r0.2):=Yq (aJ.mpr ⟨r0,dB.mpr ⟨U,ab⟩,rfl⟩);have s1:=(GQ (b0.trans b1)).1;obtain⟨j,hj,ej⟩:=bW U;obtain⟨b,t⟩:=r0;obtain⟨g1,_⟩:=(K40c.rls_at (T.rows J).1).mp ((aD hj).trans (congrArg some ej));have z1:sz t<=9:=(hz md J t (aL g1)).2;have s2:=N3 t;refine⟨by have ac:ssz (lookS (D (rlOf hs ms) n) m)<=ssz (rsT (λ_=>Stp.op) t):=s1;lia,?_⟩;have es:(D (rlOf hs ms) n)[m.toNat]?=some (lookS (D (rlOf hs ms) n) m):=by
    unfold lookS;rw [aD (by rw [Y];exact hm)];rfl
   exact(Ae T.rl.ok (K40c.leaf_ok T) n _ (aL es)).2
  .have:lookS (D (rlOf hs ms) n) m=.op:=by
    unfold lookS;rw [dJ (by rw [Y];lia)];rfl
   rw [this];simp only [ssz,ST.sl];lia
 .obtain⟨md,G,rfl⟩:=aJ.mp L;refine⟨by have:=T.mo.ten md G;show md.2.2.2.2.length<=100;lia,λr M=>⟨hz md G r M,?_⟩⟩;rw [aE];exact(T.mo.tm md G r M).2.2.2
end K40
namespace L2
open PySem PySem.Spec PyProof.Rows
theorem Zr:Q4 X (.builtin "isinstance") (λxs H Q=>∃(a:Addr)(ys:List V),(xs=[.ref a,.ty "list"]/\SqL X.K H a ys\/xs=[.ref a,.ty "tuple"]/\SqT X.K H a ys)/\Q (.bl true) H):=by
 intro pins s σ H xs U Q I r h;obtain⟨a,ys,h,q⟩:=h;rcases h with⟨rfl,G⟩ | ⟨rfl,G⟩
 .obtain⟨u,c,rfl,J,L⟩:=Nr r;cases (show u=Value.ref a from J);cases (show c=Value.type "list" from L);obtain⟨its,_,M,_⟩:=I.list G;obtain⟨o,h1,h2,_⟩:=M.isList;exact cX (b:=true) PySem.W.kitx_list I.kIn ⟨o,h1,h2⟩ rfl (λz=>nomatch z) λtk=>⟨.bl true,H,I.tok tk,rfl,q⟩
 .obtain⟨u,c,rfl,J,L⟩:=Nr r;cases (show u=Value.ref a from J);cases (show c=Value.type "tuple" from L);obtain⟨its,_,M,_⟩:=I.tuple G;obtain⟨o,h1,h2,_⟩:=M;exact cX (b:=true) PySem.W.kitx_tuple I.kIn ⟨o,h1,h2⟩ rfl (λz=>nomatch z) λtk=>⟨.bl true,H,I.tok tk,rfl,q⟩
end L2
namespace K40
open K51
open PySem L2 TM TT ST K9 K11
def Bq:Sp:=λvs H Q _=>∃i:Int,vs=[.int i]/\Q (.bl true) H
def WA(K:Fg)(n:Nat):Sp:=λvs H Q _=>∃(v:V)(bv lm:Addr)(t:Tm)(bs:List Str)(ms:List MdT),vs=[v,.ref bv,.ref lm]/\TmV K H v t/\lv t<=n/\SqT K H bv (bs.map V.str)/\ModesL K H lm ms/\CPr (Fc (kns ms) bs) t/\∀H',Same H H'->Q (.bl true) H'
structure FtC(ks:List KdT)(st:Tm)(ms:List MdT):Prop where
 s:∀k0,ks[0]?=some k0->CPr (Fc (kns ms) [k0.2.1]) st
 l:lv st<=8
 m:∀m∈ms,∃kd∈ks,kd.2.1=m.2.1/\m.2.2.2.2.length=kd.2.2.2.length/\(PyData.list (tmds m.2.2.2.2)).canLay0=true/\∀(j:Nat)(r:PNx)(t:Tm),kd.2.2.2[j]?=some r->m.2.2.2.2[j]?=some t->lv t<=8/\CPr (Fc (kns ms) r.2.2.2) t
 n:ms.length<=200
def Yh(ks:List KdT):PyData:=.list ((ks.map QR).map ZJ)
theorem Lu{K:Fg}{ks:List KdT}(h:WoodAt K H wd ks):RdV K H (.ref wd) (Yh ks):=.lst h.1 (Jp h.2)
theorem Oi{ks:List KdT}(h:WD ks):(Yh ks).canLay0=true:=by
 unfold Yh;simp only [PyData.canLay0];exact UF h.nm h.ok.rows
def V2(K:Fg):Sp:=λvs H Q _=>∃(tu wd lm wh:Addr)(sv:V)(ks' ks:List KdT)(st:Tm)(ms:List MdT),vs=[.ref tu,.ref wh]/\TurnD K H tu wd lm sv ks' st ms/\WoodAt K H wh ks/\WD ks/\ks'.map QR=ks.map QR/\FtC ks st ms/\∀H',Same H H'->Q (.bl true) H'
section
variable{K:Fg}
theorem Cp:FnScope ["_law_found"] ["_law_found"] (defScope sWh):=(0:)
theorem A1(F:Fun K "_law_is_whole" "_law_is_whole" sWh f fd)(G:Gm mg):FnOk P w K mg base CX0 1 f fd ["_law_found"] Bq:=by
 refine F.ok Cp (7:) (λJ A outer s H vs Q E L h=>?_)
 .obtain⟨i,rfl,_⟩:=h
  rfl
 obtain⟨i,rfl,q⟩:=h;refine⟨_,(Qi (Qn (NO (Ql Zv rfl G.isi cZ (Qa (pv 0) (Qa (Zb (v:=.ty "int") rfl G.int PyProof.Rows.boot_int rfl) Qc))) (Nh (Os (Ql Zv rfl G.isi cZ (Qa (pv 0) (Qa (Zb (v:=.ty "bool") rfl G.boo PyProof.Rows.boot_bool rfl) Qc)))))))),?_⟩;exact⟨_,rfl,_,"int",_,true,rfl,.int _,rfl,_,rfl,Zh ⟨_,rfl,_,"bool",_,false,rfl,.int _,rfl,_,rfl,q⟩⟩
theorem AR:FnScope ["_law_found","_law_branches","_law_modes"] ["_law_found","_law_branches","_law_modes"] (defScope T0):=(0:)
theorem Al(F:Fun K "_law_is_term" "_law_is_term" T0 f fd)(G:Gm mg)(RH:Fn P w K mg base 1 "_law_is_whole" ["_law_found"] Bq)(R:Fn P w K mg base (n+1) "_law_is_term" ["_law_found","_law_branches","_law_modes"] (WA K n)):FnOk P w K mg base CX0 (n+2) f fd ["_law_found","_law_branches","_law_modes"] (WA K (n+1)):=by
 refine F.ok AR (7:) (λaj A outer s H vs Q E hr h=>?_)
 .obtain⟨v,M,lm,t,bs,ms,rfl,_⟩:=h
  rfl
 obtain⟨v,M,lm,t,bs,ms,rfl,ht,af,aa,ab,hc,q⟩:=h;refine⟨_,(Qg (QM (PW.pt (pw_or (Q1 (QF (Ql Zr rfl G.isi cZ (Qa (pv 0) (Qa (Zb (v:=.ty "tuple") rfl G.tup cK rfl) Qc))))) (pw_or (Qw Wk (Ql Qm rfl G.len bO (Qa (pv 0) Qc)) (QE (Qa (Qh) (Qa (Qh) Qc))) rfl) (pw_or1 (Q1 (QF (Ql Zv rfl G.isi cZ (Qa (2:) (Qa (Zb (v:=.ty "str") rfl G.str PyProof.Rows.boot_str rfl) Qc))))))))) (Qi (Qn ZN)) Qr)
  (Qg (QM (Qw ZX (Ql Qm rfl G.len bO (Qa (pv 0) Qc)) Qh (QA _)) (Qg (QM (PW.pt (pw_or (Qw J1 (2:) Zi (QA _)) (pw_or (Q1 (QF (Qt RH hr (Qa (2:) Qc) (dH 1 n)))) (pw_or1 (Q1 (QF (Qt RH hr (Qa (2:) Qc) (dH 1 n)))))))) (Qi (Qn ZN)) Qr)
  (Qg (QM (PW.pt (pw_or (Qw Va (2:) Qh (QA _)) (pw_or (Qw NY (2:) (Ql Qm rfl G.len bO (Qa (pv 2) Qc)) (QA _)) (pw_or (Qw Va (2:) Qh (QA _)) (pw_or1 (Qw NY (2:) (Ql Qm rfl G.len bO (Qa (pv 1) Qc)) (QA _))))))) (Qi (Qn ZN)) Qr)
  (Qi (Qn (Z8 ZX (Qk Qj (Qk QL (pv 2) (2:) (λ_ _=>rfl)) Qh (λ_ _=>rfl)) (Qk Qj (pv 1) (2:) (λ_ _=>rfl)) (QA _)))))) Qr)
  (Qg (QM (PW.pt (pw_or (Qw J1 (2:) Zi (QA _)) (pw_or (Q1 (QF (Ql Zv rfl G.isi cZ (Qa (2:) (Qa (Zb (v:=.ty "str") rfl G.str PyProof.Rows.boot_str rfl) Qc))))) (pw_or1 (Q1 (QF (Ql Zv rfl G.isi cZ (Qa (2:) (Qa (Zb (v:=.ty "bool") rfl G.boo PyProof.Rows.boot_bool rfl) Qc))))))))) (Qi (Qn ZN)) Qr)
  (Qg (QM (PW.pt (pw_or (Q1 (QF (Qt RH hr (Qa (2:) Qc) (dH 1 n)))) (pw_or1 (Q1 (QF (Ql Zr rfl G.isi cZ (Qa (2:) (Qa (Zb (v:=.ty "tuple") rfl G.tup cK rfl) Qc)))))))) (Qi (Qn ZN)) Qr)
  (Qi (Qn (Z8 ZX (Ql Qm rfl G.len bO (Qa (QO (CompG.many (xs:=["_law_part"]) (caps:=["_law_branches","_law_modes"]) (cap:=[1,2]) (cs:=[_,_]) rfl rfl (1:) (1:) (1:) (1:) (1:) (1:) rfl rfl rfl) rfl (YQ (2:)) (YZ (CompG.many (xs:=["_law_part"]) (caps:=["_law_branches","_law_modes"]) (cap:=[1,2]) (cs:=[_,_]) rfl rfl (1:) (1:) (1:) (1:) (1:) (1:) rfl rfl rfl)) (λ_ _ _ _=>WC (Q1 (QF (Qt R hr (Qa (pv 0) (Qa (pv 1) (Qa (pv 2) Qc))) (4:))))) (λ_ _ _ _=>pv 0)) Qc)) Qh (QA _)))))))),?_⟩
 refine L2.let4 ?_
 intros
 rcases Ya ht with⟨a,m,b,rfl,rfl,h1⟩ | ⟨a,b,vs,nm,k,ad,rfl,et,h1,h2,h3,h4⟩
 .obtain⟨mi,bi,z,em,eb,e1,e2⟩:=hc (m,b) (by simp [Ub,cls,lcl]);have em:m=(mi:Int):=em;have eb:b=(bi:Int):=eb;subst em eb;obtain⟨md,f1,f2⟩:=P4 e1;have ak:=(aU.mp f1).1;have al:=(aU.mp e2).1;refine⟨_,rfl,a,_,.inr ⟨rfl,h1⟩,_,rfl,QT ⟨_,rfl,a,_,rfl,.inr h1,(by show 2<=sizeLine;decide),λp hp=>?_⟩⟩;have g1:=Qd hp (.tup [.int 3,.int 5]);have J:=g1.seqT h1;have L:=ab.same g1;have U:=g1.seqT aa;have d1:=(L.2 md (aL f1)).1;refine⟨p,_,rfl,.inr (SqT.of Qb),rfl,rfl,_,rfl,QT ⟨_,rfl,a,_,0,_,rfl,rfl,J,rfl,_,"str",_,true,rfl,.str _,rfl,_,rfl,QT ?_⟩⟩;refine⟨_,rfl,a,_,rfl,.inr J,rfl,_,rfl,R1 rfl ?_⟩;refine⟨_,rfl,a,_,0,_,rfl,rfl,J,rfl,rfl,_,rfl,Vj rfl ⟨_,rfl,a,_,1,_,rfl,rfl,J,rfl,_,rfl,_,rfl,QT ⟨_,rfl,a,_,2,_,rfl,rfl,J,rfl,_,rfl,_,rfl,QT ?_⟩⟩⟩;refine⟨_,rfl,a,_,1,_,rfl,rfl,J,rfl,_,_,rfl,rfl,_,rfl,JD (5:) ⟨_,rfl,a,_,1,_,rfl,rfl,J,rfl,_,rfl,lm,_,rfl,.inl L.1,_,_,rfl,rfl,_,rfl,JD (17:) ⟨_,rfl,a,_,2,_,rfl,rfl,J,rfl,_,_,rfl,rfl,_,rfl,JD (5:) ⟨_,rfl,a,_,2,_,rfl,rfl,J,rfl,_,rfl,M,_,rfl,.inr U,_,_,rfl,rfl,_,rfl,JD (17:) ?_⟩⟩⟩⟩;refine⟨_,rfl,_,rfl,a,_,1,_,rfl,rfl,J,rfl,lm,_,_,.ref md.1,rfl,rfl,L.1,Qo (by rw [aK,f1];rfl),md.1,_,0,_,rfl,rfl,d1,rfl,_,rfl,_,rfl,a,_,2,_,rfl,rfl,J,rfl,M,_,_,.str z,rfl,rfl,U,Qo (by rw [aK,e2];rfl),rfl,?_⟩;rw [f2];have e:decide (V.str z=V.str z)=true:=bK rfl;show Q (.bl (decide (V.str z=V.str z))) _;rw [e];exact q _ g1
 have ai:=h3.length;rw [lv_bs]at af;rw [et]at hc;refine⟨_,rfl,a,_,.inr ⟨rfl,h1⟩,_,rfl,QT ⟨_,rfl,a,_,rfl,.inr h1,(by show 2<=sizeLine;decide),λp hp=>?_⟩⟩;have g1:=Qd hp (.tup [.int 3,.int 5]);have J:=g1.seqT h1;have ac:=g1.seqT h2;refine⟨p,_,rfl,.inr (SqT.of Qb),rfl,rfl,_,rfl,QT ⟨_,rfl,a,_,0,_,rfl,rfl,J,rfl,_,"str",_,true,rfl,.str _,rfl,_,rfl,QT ?_⟩⟩;refine⟨_,rfl,a,_,rfl,.inr J,rfl,_,rfl,JD (λz=>by injection z with z;exact absurd z (by show ¬((5:Nat):Int)=3;decide)) ?_⟩;refine⟨_,rfl,a,_,0,_,rfl,rfl,J,rfl,rfl,_,rfl,Vj rfl ⟨_,rfl,a,_,1,_,rfl,rfl,J,rfl,_,"str",_,true,rfl,.str _,rfl,_,rfl,QT ⟨_,rfl,a,_,2,_,rfl,rfl,J,rfl,_,"bool",_,true,rfl,.bl _,rfl,_,rfl,QT ?_⟩⟩⟩;refine⟨_,rfl,a,_,3,_,rfl,rfl,J,rfl,ad,rfl,_,rfl,QT ⟨_,rfl,a,_,4,_,rfl,rfl,J,rfl,b,_,.inr ⟨rfl,ac⟩,_,rfl,QT ?_⟩⟩;refine⟨_,rfl,a,_,4,_,rfl,rfl,J,rfl,b,rfl,⟨_,ac⟩,λacc ae=>?_⟩;refine let J_:JC:=(λi ys H'=>ys=[]/\H' acc=some (.lst ys)/\Same H H');Ux (K:=K) (xs:=vs) (cs:=[some (.ref M),some (.ref lm)]) J_ ⟨rfl,Qb,g1.trans (Qd ae _)⟩ ?_ ?_ ?_
 .rintro i ys H' _ ⟨_,_,g⟩;exact g.seqT h2
 .rintro i x ys H' hi hx ⟨rfl,Y,g⟩;have Z:i<t.bs.length:=by lia
  obtain⟨cv,ag,ah⟩:=h3.get (aD Z);obtain rfl:cv=x:=aI (ag.symm.trans hx);have a1:=ZL (aQ Z);refine⟨_,rfl,_,rfl,_,rfl,cv,M,lm,t.bs[i],bs,ms,rfl,ah.mono λ_ _=>g.seqT,by lia,g.seqT aa,ab.same g,hc.bs _ (aQ Z),λH4 g4=>⟨_,rfl,QT (Yy hi ⟨rfl,g4 _ _ Y,g.trans g4⟩)⟩⟩
 rintro ys H2 ⟨rfl,Y,g⟩;exact⟨acc,_,rfl,.inl (SqL.of Y),rfl,q H2 g⟩
end
end K40
namespace K40
open PySem L2 TM TT ST K9 K11
mutual
theorem MV{g:Ky->Int}{c:Int×Int}:∀{x:TX},c∈cls (mpX g x)->∃c'∈clX x,c=(g c'.1,c'.2)
 | .node (.call q b) _ _,h=>by
  simp only [mpX,cls,lcl,Q5,dG,bJ]at h;exact⟨(q,b),by simp [clX],h⟩
 | .node (.put n k a) _ bs,h=>by
  simp only [mpX,cls,lcl,dO]at h;simp only [clX];exact GF h
theorem GF{g:Ky->Int}{c:Int×Int}:∀{xs:List TX},c∈Q5 (YG g xs)->∃c'∈QY xs,c=(g c'.1,c'.2)
 | [],h=>by simp [YG,Q5]at h
 | x::r,h=>by
  simp only [YG,Q5,aX]at h;rcases h with h | h
  .obtain⟨c',h1,h2⟩:=MV h;exact⟨c',by rw [QY];exact cT _ h1,h2⟩
  .obtain⟨c',h1,h2⟩:=GF h;exact⟨c',by rw [QY];exact bY _ h1,h2⟩
end
mutual
theorem VN(g:Ky->Int):∀x:TX,lv (mpX g x)<=lv x
 | .node (.call q b) _ _=>by simp only [mpX,lv,lvs];lia
 | .node (.put n k a) _ bs=>by simp only [mpX,lv];have:=LJ g bs;lia
theorem LJ(g:Ky->Int):∀xs:List TX,lvs (YG g xs)<=lvs xs
 | []=>by simp only [YG,lvs];lia
 | x::r=>by simp only [YG,lvs];have:=VN g x;have:=LJ g r;lia
end
mutual
noncomputable def NX:TX->Prop
 | .node (.call _ _) _ _=>True
 | .node (.put n _ _) _ bs=>PyData.strOk n=true/\NXs bs
noncomputable def NXs:List TX->Prop
 | []=>True
 | x::r=>NX x/\NXs r
end
mutual
theorem G7(g:Ky->Int):∀{x:TX},NX x->(tmd (mpX g x)).canLay0=true
 | .node (.call q b) _ _,_=>by simp only [mpX,tmd,tdl,PyData.canLay0,PyData.canLayAll0,WQ,cH]
 | .node (.put n k a) _ bs,h=>by
  simp only [NX]at h;have:=JF g h.2;simp only [mpX,tmd,tdl,PyData.canLay0,PyData.canLayAll0,GY,h.1,this,cH]
theorem JF(g:Ky->Int):∀{xs:List TX},NXs xs->PyData.canLayAll0 (tmds (YG g xs))=true
 | [],_=>by simp [YG,tmds,PyData.canLayAll0]
 | x::r,h=>by
  simp only [NXs]at h;simp only [YG,tmds,PyData.canLayAll0,G7 g h.1,JF g h.2,cH]
end
theorem Gz:∀{xs:List TX},NXs xs↔ ∀x∈xs,NX x
 | []=>by simp [NXs]
 | x::r=>by simp only [NXs,Gz (xs:=r),aM,forall_eq_or_imp]
mutual
theorem Gj{m b:Int}:∀{s:Stp}{p:List Nat},SOk s->NX (stX m b p s)
 | .op,p,_=>by simp only [stX,NX]
 | .put n a ps,p,h=>by
  simp only [SOk]at h;simp only [stX,NX];exact⟨h.1,G5 h.2.2⟩
theorem G5{m b:Int}:∀{ps:List Stp}{p:List Nat}{i:Nat},Yr ps->NXs (ZZ m b p i ps)
 | [],_,_,_=>by simp only [ZZ,NXs]
 | s::r,p,i,h=>by
  simp only [Yr]at h;simp only [ZZ,NXs];exact⟨Gj h.1,G5 h.2⟩
end
theorem Oz:∀{p:List Nat}{s u:Stp},SOk s->stA s p=some u->SOk u
 | [],s,u,h,e=>by
  rw [Zk]at e;rw [<-aI e];exact h
 | i::p,.op,u,h,e=>by simp [stA]at e
 | i::p,.put n m ps,u,h,e=>by
  simp only [stA]at e;obtain⟨c,G,e⟩:=cI.mp e;simp only [SOk]at h;exact Oz ((ZS ps).mp h.2.2 c (aL G)) e
mutual
theorem VT{S:Int->Stp}(hS:∀m,SOk (S m)){p:Int->Int->Prop}:∀{t:Tm},K51.TPr p t->NX (sin S t)
 | .node (.call m b) _ _,_=>by simp only [sin];exact Gj (hS m)
 | .node (.put n k a) _ bs,h=>by
  simp only [K51.TPr]at h;simp only [sin,NX];exact⟨h.1,GN hS h.2.2⟩
theorem GN{S:Int->Stp}(hS:∀m,SOk (S m)){p:Int->Int->Prop}:∀{ts:List Tm},K51.TPrs p ts->NXs (Uj S ts)
 | [],_=>by simp only [Uj,NXs]
 | t::r,h=>by
  simp only [K51.TPrs]at h;simp only [Uj,NXs];exact⟨VT hS h.1,GN hS h.2⟩
end
theorem SF{S:Int->Stp}(hS:∀m,SOk (S m)){pr:Int->Int->Prop}:∀{p:List Nat}{t:Tm}{x:TX},K51.TPr pr t->eT S t p=some x->NX x
 | [],t,x,G,h=>by
  rw [Z3]at h;rw [<-aI h];exact VT hS G
 | i::p,.node (.call m b) z bs,x,G,h=>by
  rw [Ui]at h;obtain⟨s,L,rfl⟩:=cL.mp h;exact Gj (Oz (hS m) L)
 | i::p,.node (.put n k a) z bs,x,G,h=>by
  rw [JT]at h;obtain⟨t,J,M⟩:=cI.mp h;simp only [K51.TPr]at G;exact SF hS ((K51.TPrs_iff pr bs).mp G.2.2 t (aL J)) M
structure Res(S:List Stp)(st:Tm)(ms:List MdT)(qs:List Ky)(ms':List MdT):Prop where
 y:Hy (ms.map MdT.md) S
 o:∀m,SOk (lookS S m)
 n:qs.length<=200
 m:dM ms'=dQ (mkE (ms.map MdT.md) S) qs
 g:∀q∈qs,Gd (ms.map MdT.md) S q
 s:∀c∈clX (sin (lookS S) st),c.1∈qs
 c:∀q∈qs,∀c∈clL (mkE (ms.map MdT.md) S q).2,c∈qs
section
variable{S:List Stp}{st:Tm}
theorem Res.at(R:Res S st ms qs ms'){k:Nat}{q:Ky}(h:qs[k]?=some q):∃md md',ms[q.1.toNat]?=some md/\ms'[k]?=some md'/\md'.2.1=md.2.1/\md'.2.2.2.2=(mkE (ms.map MdT.md) S q).2.map (mpX (ixP qs))/\P8 S q.2 md.2.2.2.2 (mkE (ms.map MdT.md) S q).2:=by
 have g:=R.g q (aL h);obtain⟨d,L⟩:=g.d;have G:=L;rw [aK]at G;obtain⟨md,M,rfl⟩:=cL.mp G;obtain⟨U,a2⟩:=Oc R.y g L;have e:(dM ms')[k]?=some ((mkE (ms.map MdT.md) S q).1,(mkE (ms.map MdT.md) S q).2.map (mpX (ixP qs))):=by
  rw [R.m];unfold dQ;rw [aK,h];rfl
 unfold dM at e;rw [aK]at e;obtain⟨md',J,Y⟩:=cL.mp e;injection Y with Z e4;exact⟨md,md',M,J,by rw [Z,U];rfl,e4,a2⟩
theorem Res.len(R:Res S st ms qs ms'):ms'.length=qs.length:=by
 have:=congrArg List.length R.m;unfold dM dQ at this
 rwa [aE,aE]at this
theorem SZ(h:q∈qs):qs[(ixP qs q).toNat]?=some q:=by
 unfold ixP;rw [a_,aD (List.idxOf_lt_length_of_mem h),List.getElem_idxOf]
theorem Res.fc(R:Res S st ms qs ms'){bs:List Str}(hq:q∈qs){b:Int}(h:Fc (kns ms) bs q.1 b):Fc (kns ms') bs (ixP qs q) b:=by
 obtain⟨k,j,z,J,L,G,M⟩:=h;obtain⟨md,Y,h1,h2,U,_⟩:=R.at (SZ hq);refine⟨(ixP qs q).toNat,j,z,?_,L,?_,M⟩
 .unfold ixP;rw [a_]
 .rw [J,a_]at h1;rw [aK,h1]at G;rw [aK,h2];exact congrArg some (U.trans (aI G))
theorem Res.cpr(R:Res S st ms qs ms'){bs:List Str}{t:Tm}(ht:K51.TPr (Fc (kns ms) bs) t){p:List Nat}{x:TX}(hx:eT (lookS S) t p=some x)(hc:∀c∈clX x,c.1∈qs):CPr (Fc (kns ms') bs) (mpX (ixP qs) x):=λc G=>by
 obtain⟨J,h1,rfl⟩:=MV G;exact R.fc (hc J h1) (TPr.cl ht _ (OF hx J h1).1)
theorem Res.ft(R:Res S st ms qs ms'){ks:List KdT}(hW:WD ks)(hT:T51 ks st ms):FtC ks (mpX (ixP qs) (sin (lookS S) st)) ms':=by
 have e0:=Z3 (lookS S) st;refine⟨λk0 L=>R.cpr (hT.sf k0 L) e0 R.s,?_,λm' ad=>?_,by rw [R.len];exact R.n⟩
 .have h1:=(WN (A:=18) (B:=4) R.y.big (12:) (12:) e0).2;have h2:=VN (ixP qs) (sin (lookS S) st);have:=hT.sl.1.1;lia
 .obtain⟨k,L,ek⟩:=bW ad;have U:k<qs.length:=by rw [<-R.len];exact L
  have hq:=aD U;have Y:=aQ U;generalize qs[k]=q at hq Y;obtain⟨md,af,h1,h2,h3,h4,h5,h6⟩:=R.at hq;rw [aD L,ek]at h2;obtain rfl:=aI h2;have Z:=aL h1;obtain⟨kd,aa,e1,hf⟩:=hT.ft md Z;obtain⟨ab,ac,ae,hl,hz⟩:=hT.md md Z;obtain rfl:ab=kd:=Ur hW.ok.nd ac aa (by rw [e1,ae]);refine⟨ab,aa,by rw [h3,e1],by rw [h4,aE,h5,hl],?_,λj r t hr ht=>?_⟩
  .rw [h4,<-Yx];simp only [PyData.canLay0];refine JF _ (Gz.mpr λx J=>?_);obtain⟨i,hi,ei⟩:=bW J;have G:i<md.2.2.2.2.length:=by lia
   obtain⟨_,_,M,_⟩:=h6 i _ _ (aD G) ((aD hi).trans (congrArg some ei));exact SF R.o (hz _ (aQ G)).1 M
  .rw [h4,aK]at ht;obtain⟨x,J,rfl⟩:=cL.mp ht;have hi:=(aU.mp J).1;have G:j<md.2.2.2.2.length:=by lia
   have et:=aD G;obtain⟨q1,_,M,_,q5⟩:=h6 j _ _ et J;have h7:=(WN (A:=18) (B:=4) R.y.big (12:) (12:) M).2;have h8:=VN (ixP qs) x;refine⟨by lia,R.cpr (hf j r _ hr et) M λc hc=>R.c q Y _ ?_⟩;unfold clL;exact aJ.mpr ⟨c,U4 (aL J) hc,rfl⟩
end
mutual
theorem GH:∀t:Tm,(tmd t).depth<=2*lv t
 | .node (.call m b) _ bs=>by simp only [tmd,tdl,PyData.depth,PyData.depthAll,lv];lia
 | .node (.put n k a) _ bs=>by have:=Jv bs;simp only [tmd,tdl,PyData.depth,PyData.depthAll,lv];lia
theorem Jv:∀ts:List Tm,PyData.depthAll (tmds ts)<=2*lvs ts
 | []=>by simp only [tmds,PyData.depthAll];lia
 | t::r=>by have:=GH t;have:=Jv r;simp only [tmds,PyData.depthAll,lvs];lia
end
theorem OX:∀{ts:List Tm},(∀t∈ts,lv t<=L)->lvs ts<=L
 | [],_=>by simp only [lvs];lia
 | t::r,h=>by
  have:=h t aR;have:=OX λu G=>h u (bR t G);simp only [lvs];lia
def Tq(m:Md):Prop:=PyData.strOk m.1=true/\PyData.canLayAll0 (tmds m.2)=true/\lvs m.2<=8
theorem ND:∀{ms:List Md},(∀m∈ms,Tq m)->PyData.canLayAll0 (ms.map MG)=true/\PyData.depthAll (ms.map MG)<=19
 | [],_=>by simp [PyData.canLayAll0,PyData.depthAll]
 | m::r,h=>by
  obtain⟨a,b⟩:=ND λx G=>h x (23:);obtain⟨J,L,M⟩:=h m aR;have:=Jv m.2;simp only [aS,PyData.canLayAll0,PyData.depthAll,MG,PyData.canLay0,PyData.depth,J,L,a,cH,true_and];lia
def tuX(kw:List (Str×List PNx))(st:Tm)(ds:List Md):PyData:=.tuple [.list (kw.map ZJ),tmd st,.list (ds.map MG)]
theorem O8{ks:List KdT}{st:Tm}{ds:List Md}(hW:WD ks)(h1:(tmd st).canLay0=true)(h2:lv st<=8)(h3:∀m∈ds,Tq m):(tuX (ks.map QR) st ds).canLay0=true/\(tuX (ks.map QR) st ds).depth<=40:=by
 have G:=UF hW.nm hW.ok.rows;have a2:=Yw (ks.map QR);obtain⟨J,L⟩:=ND h3;have:=GH st;constructor
 .simp only [tuX,PyData.canLay0,PyData.canLayAll0,G,h1,J,cH]
 .simp only [tuX,PyData.depth,PyData.depthAll];lia
theorem Yt{K:Fg}{ks:List KdT}{st:Tm}(h:TurnD K H tu wd lm sv ks st ms){kw:List (Str×List PNx)}{ds:List Md}(e1:ks.map QR=kw)(e2:ms.map MdT.md=ds):RdV K H (.ref tu) (tuX kw st ds):=by
 rw [<-e1,<-e2];exact R0 h
theorem Vo{ks:List KdT}(hW:WD ks)(h:∀m∈ms,∃kd∈ks,kd.2.1=m.2.1/\PyData.canLayAll0 (tmds m.2.2.2.2)=true/\∀t∈m.2.2.2.2,lv t<=8):∀m∈ms.map MdT.md,Tq m:=λm G=>by
 obtain⟨x,J,rfl⟩:=aJ.mp G;obtain⟨kd,L,e,a,b⟩:=h x J;exact⟨by show PyData.strOk x.2.1=true;rw [<-e];exact hW.nm kd L,a,OX b⟩
theorem S8{ks:List KdT}{st:Tm}(hW:WD ks)(h:T51 ks st ms):(tuX (ks.map QR) st (ms.map MdT.md)).canLay0=true/\(tuX (ks.map QR) st (ms.map MdT.md)).depth<=40:=by
 obtain⟨J,U⟩: ∃J,ks[0]?=some J:=⟨_,aD hW.pos⟩;refine O8 hW (TPr.dr (h.sf J U) λc L=>L).mok.1 (by have:=h.sl.1.1;lia) (Vo hW λm Y=>?_);obtain⟨Z,M,e,_,z⟩:=h.md m Y;exact⟨Z,M,e,(U9 (d:=8) _ λt G=>(TPr.dr (z t G).1 λc L=>L).mok.mono (by have:=(z t G).2.1;lia)).1,λt G=>by have:=(z t G).2.1;lia⟩
theorem Cf{ks:List KdT}{st st':Tm}{ms ms':List MdT}{S:List Stp}{qs:List Ky}(hW:WD ks)(hD:T51 ks st ms)(R:Res S st ms qs ms'):(tuX (ks.map QR) (mpX (ixP qs) (sin (lookS S) st)) (ms'.map MdT.md)).canLay0=true/\(tuX (ks.map QR) (mpX (ixP qs) (sin (lookS S) st)) (ms'.map MdT.md)).depth<=40:=by
 have J:=R.ft hW hD;obtain⟨G,Y⟩: ∃G,ks[0]?=some G:=⟨_,aD hW.pos⟩;refine O8 hW (G7 _ (VT R.o (hD.sf G Y))) J.l (Vo hW λm Z=>?_);obtain⟨L,M,e,el,U,z⟩:=J.m m Z;refine⟨L,M,e,by simpa only [PyData.canLay0]using U,λt ht=>?_⟩;obtain⟨j,hj,ej⟩:=bW ht;exact(z j _ t (aD (show j<L.2.2.2.length by lia)) (by rw [aD hj,ej])).1
theorem Go{rl:Rls}(h:D rl (n+1)=D rl n):∀k,D rl (n+k)=D rl n
 | 0=>rfl
 | k+1=>by
  have e:=Go h k;show rl.map (YN (D rl (n+k)))=_;rw [e];exact h
theorem TK{rl:Rls}{m:Nat}(h:D rl (n+1)=D rl n)(k:D rl (m+1)=D rl m):D rl m=D rl n:=by
 have a:=Go h m;have b:=Go k n;rw [Nat.add_comm]at b;rw [<-a,<-b]
theorem Y8{ks:List KdT}(e1:hs.map QR=ks.map QR)(e2:ms'.map MdT.md=ms.map MdT.md):rlOf hs ms'=rlOf ks ms:=by
 have e:∀(ks:List KdT)(ms:List MdT),rlOf ks ms=(ms.map MdT.md).map λd=>QX (QV ks d.1) d.2:=λks ms=>by
  unfold rlOf;rw [bX];rfl
 rw [e,e,e2];refine fJ λd _=>?_;rw [Nq e1]
def Qs(ds:List Md)(S:List Stp)(st:Tm):List Ky:=ZC (mkE ds S) 201 0 (Qp [] ((clX (sin (lookS S) st)).map (·.1)))
theorem Sr{ks:List KdT}{st:Tm}(hW:WD ks)(hD:T51 ks st ms)(e1:hs.map QR=ks.map QR)(e2:ms'.map MdT.md=ms.map MdT.md)(hDn:D (rlOf ks ms) (n+1)=D (rlOf ks ms) n):(∀s∈D (rlOf ks ms) n,SOk s/\sl s<=4)/\Eb (D (rlOf ks ms) n) st ms' (sin (lookS (D (rlOf ks ms) n)) st) (mkE (ms.map MdT.md) (D (rlOf ks ms) n)) (Qs (ms.map MdT.md) (D (rlOf ks ms) n) st)/\Hy (ms.map MdT.md) (D (rlOf ks ms) n)/\∀q∈Qs (ms.map MdT.md) (D (rlOf ks ms) n) st,Gd (ms.map MdT.md) (D (rlOf ks ms) n) q:=by
 have J:=K40c.tu_copy e1 e2 (OC hW hD);have d3:=hD.three;have ln:ms'.length=ms.length:=by have:=congrArg List.length e2;simpa using this
 have k0:=aD hW.pos;have hz:∀m∈ms',∀t∈m.2.2.2.2,Lz 4 t:=λm hm t ht=>by
  have z:m.md∈ms.map MdT.md:=by rw [<-e2];exact aJ.mpr ⟨m,hm,rfl⟩
  obtain⟨M,U,e⟩:=aJ.mp z;have e2:M.2.2.2.2=m.2.2.2.2:=congrArg (λx:Md=>x.2) e;obtain⟨_,_,_,_,hz⟩:=hD.md M U;exact(hz t (by rw [e2];exact ht)).2
 have Y:CallsIn (ms.map MdT.md).length st:=λc hc=>by
  obtain⟨c1,c2,_⟩:=TPr.cl (hD.sc _ k0) c hc;rw [aE];exact⟨c1,by lia⟩
 have G:=hDn;rw [<-Y8 e1 e2]at G;have L:=A3 J (5:) hz G;rw [e2,Y8 e1 e2]at L;have Z:=Ae J.rl.ok (K40c.leaf_ok J) n;rw [Y8 e1 e2]at Z;obtain⟨qs,hE,hG⟩:=BN L hD.sl.1 Y e2;have eq:qs=Qs (ms.map MdT.md) (D (rlOf ks ms) n) st:=hE.eqq;subst eq;exact⟨Z,hE,L,hG⟩
structure Mu(A B H H':Hp):Prop where
 n:∀b u,H b=some u->¬(A b=none/\∃ys,B b=some (.lst ys))->H' b=some u
 d:∀b,H' b=none->H b=none
 p:∀b ys,A b=none->B b=some (.lst ys)->∃zs,H b=some (.lst zs)
section
variable{K:Fg}{A B X:Hp}
theorem Mu.same(m:Mu A B H H')(g:Same H' H''):Mu A B H H'':=⟨λb u e z=>g _ _ (m.n b u e z),λb e=>m.d b (Same.none g e),m.p⟩
theorem Mu.put(m:Mu A B H H')(h1:A b=none)(h2:B b=some (.lst ys)):Mu A B H (upd H' b (.lst zs)):=
 ⟨λc u e z=>by rw [Qe (λx=>z (by rw [x];exact⟨h1,_,h2⟩))];exact m.n c u e z,λc e=>by
  by_cases x:c=b
  .rw [x,Qb]at e;cases e
  .rw [Qe x]at e;exact m.d c e,m.p⟩
theorem Mu.nl(m:Mu A B H H'){b:Addr}{u:HO}(h:H b=some u)(n:∀zs,u≠.lst zs):H' b=some u:=m.n b u h λ⟨G,ys,J⟩=>by
 obtain⟨zs,e⟩:=m.p b ys G J;rw [h]at e;exact n zs (aI e)
theorem Mu.t(m:Mu A B H H'):∀a xs,SqT K H a xs->SqT K H' a xs:=λa xs q=>by
 rcases q with(q | ⟨o,q⟩) | q
 .exact .inl (.inl (m.nl q (by intro z;nofun)))
 .exact .inl (.inr ⟨o,m.nl q (by intro z;nofun)⟩)
 .exact .inr q
theorem Mu.tb(m:Mu A B H H'){p:Pos}{q:Str}(h:TbS H T p q):TbS H' T p q:=by
 rcases h with h | ⟨c,h,h2⟩
 .exact .inl (m.nl h (by intro z;nofun))
 .exact .inr ⟨c,m.nl h (by intro z;nofun),m.nl h2 (by intro z;nofun)⟩
theorem Mu.kf(m:Mu A B H H')(h:∀b,X b=none->B b=none):KeepF K X H H':=⟨m.t,λb ys n e=>m.n b _ e λ⟨_,zs,z⟩=>by rw [h b n]at z;cases z⟩
theorem Mu.x(m:Mu A B H H')(g:SameX T X H)(h:∀b u,X b=some u->A b≠none):SameX T X H':=λb u n e=>m.n b u (g b u n e) λ⟨z,_⟩=>h b u e z
theorem Mu.kA(m:Mu A B H H')(k:KeepF K X A H):KeepF K X A H':=⟨λa xs q=>m.t _ _ (k.t _ _ q),λb ys n e=>m.n b _ (k.l b ys n e) λ⟨z,_⟩=>by rw [e]at z;cases z⟩
theorem kfX{ps:Array Value}(h:H T=some (.tbl ps))(g:SameX T H H'):KeepF K X H H':=⟨λa xs=>Nf h g,λb ys _ e=>g _ _ (QB e h (14:)) e⟩
theorem AL{ps:Array Value}(h:H' T=some (.tbl ps))(g:SameX T H H'):∀b,H' b=none->H b=none:=λb e=>by
 cases z:H b with
 | none=>rfl
 | some u=>rw [g b u (λx=>by rw [x,h]at e;cases e) z]at e;cases e
end
end K40
namespace K40
open K51
open PySem L2 TM TT ST K9 K11
theorem M3{K:Fg}{m:MdT}(h:MdAt K H m):SqT K H m.1 [.str m.2.1,.ref m.2.2.1]/\SqL K H m.2.2.1 m.2.2.2.1/\TmAll K H m.2.2.2.1 m.2.2.2.2:=h
section
variable{K:Fg}
theorem UJ:FnScope ["_law_found","_law_wood_here","_law_mode","_law_kind","_law_rules","_law_row","_law_rule"] ["_law_found","_law_wood_here"] (defScope Pl):=(0:)
theorem PM(F:Fun K "_law_is_turning" "_law_is_turning" Pl f fd)(G:Gm mg)(RR:Fn P w K mg base 1 "_law_rows" ["_law_wood_here","_law_kind"] (Wz K))(RT:Fn P w K mg base 9 "_law_is_term" ["_law_found","_law_branches","_law_modes"] (WA K 8)):FnOk P w K mg base CX0 10 f fd ["_law_found","_law_wood_here"] (V2 K):=by
 refine F.ok UJ (7:) (λav A outer s H vs Q E hr h=>?_)
 .obtain⟨tu,wd,lm,wh,sv,aj,ks,st,ms,rfl,_⟩:=h
  rfl
 obtain⟨tu,wd,lm,wh,sv,aj,ks,st,ms,rfl,L,hw,hW,ek,hF,q⟩:=h;refine⟨_,(Qg (QM (PW.pt (pw_or (Q1 (QF (Ql Zr rfl G.isi cZ (Qa (pv 0) (Qa (Zb (v:=.ty "tuple") rfl G.tup cK rfl) Qc))))) (pw_or (Qw J1 (Ql Qm rfl G.len bO (Qa (pv 0) Qc)) Qh (QA _)) (pw_or (Q1 (QF (Ql Zr rfl G.isi cZ (Qa (2:) (Qa (Zb (v:=.ty "list") rfl G.lst eB rfl) Qc))))) (pw_or1 (Qw X9 (2:) (pv 1) (QA _))))))) (Qi (Qn ZN)) Qr)
  (Qg (QM (Q1 (QF (Ql Zr rfl G.isi cZ (Qa (2:) (Qa (Zb (v:=.ty "list") rfl G.lst eB rfl) Qc))))) (Qi (Qn ZN)) Qr)
  (Qg (Wy (QG bV rfl (QJ (2:)) (Qq (i:=2) UJ.nd rfl (18:)) (Qg (QM (PW.pt (pw_or (Q1 (QF (Ql Zr rfl G.isi cZ (Qa (pv 2) (Qa (Zb (v:=.ty "tuple") rfl G.tup cK rfl) Qc))))) (pw_or (Qw J1 (Ql Qm rfl G.len bO (Qa (pv 2) Qc)) Qh (QA _)) (pw_or1 (Q1 (QF (Ql Zr rfl G.isi cZ (Qa (Qk Qj (pv 2) Qh (λ_ _=>rfl)) (Qa (Zb (v:=.ty "list") rfl G.lst eB rfl) Qc))))))))) (Qi (Qn ZN)) Qr)
  (Qi (QM (PW.pt (pw_or (Qw J1 (Ql Qm rfl G.len bO (Qa (Qt RR hr (Qa (pv 1) (Qa (Qk Qj (pv 2) Qh (λ_ _=>rfl)) Qc)) (12:)) Qc)) (Ql Qm rfl G.len bO (Qa (Qk Qj (pv 2) Qh (λ_ _=>rfl)) Qc)) (QA _)) (pw_or1 (Qw Pp (Qk Qj (pv 2) Qh (λ_ _=>rfl)) (Zs Qc) (QA _))))) (Qi (Qn ZN)) Qr)))))
  (Qg (Wy (QG bV rfl (QJ (2:)) (Zp rfl (Qv (Qq (i:=3) UJ.nd rfl (18:)) (Qv (Qq (i:=4) UJ.nd rfl (18:)) Za)))
   (Qi (QG bV rfl (NJ rfl G.zip (Qa (Qt RR hr (Qa (pv 1) (Qa (pv 3) Qc)) (12:)) (Qa (pv 4) Qc))) (Zp rfl (Qv (Qq (i:=5) UJ.nd rfl (18:)) (Qv (Qq (i:=6) UJ.nd rfl (18:)) Za)))
    (Qi (QM (Q1 (QF (Qt RT hr (Qa (pv 6) (Qa (Qk Qj (pv 5) Qh (λ_ _=>rfl)) (Qa (2:) Qc)))))) (Qi (Qn ZN)) Qr))))))
  (Qi (Qn (Qt RT hr (Qa (2:) (Qa ((QE (Qa (Qk Qj (Qk QL (pv 1) Qh (λ_ _=>rfl)) Qh (λ_ _=>rfl)) Qc))) (Qa (2:) Qc)))))))))),?_⟩
 refine L2.let4 ?_
 intros
 have ed:Yh aj=Yh ks:=by unfold Yh;rw [ek]
 have ak:=Lu L.w;rw [ed]at ak;have ac:=Oi hW;have aw:(Yh ks).depth<=10:=by
  have:=Yw (ks.map QR);show PyData.depthAll _+1<=10;lia
 refine⟨_,rfl,tu,_,.inr ⟨rfl,L.tu⟩,_,rfl,QT ⟨_,rfl,tu,_,rfl,.inr L.tu,rfl,_,rfl,Vj rfl ⟨_,rfl,tu,_,0,_,rfl,rfl,L.tu,rfl,wd,_,.inl ⟨rfl,L.w.1⟩,_,rfl,QT ⟨_,rfl,tu,_,0,_,rfl,rfl,L.tu,rfl,_,rfl,Yh ks,Yh ks,ak,Lu hw,ac,ac,hr.fit (by have:=Nat.min_le_left (Yh ks).depth (Yh ks).depth;lia),_,rfl,?_⟩⟩⟩⟩;rw [aG rfl,ZH _ ac];refine QT ⟨_,rfl,tu,_,2,_,rfl,rfl,L.tu,rfl,lm,_,.inl ⟨rfl,L.m.1⟩,_,rfl,QT ?_⟩;refine let J_:J2:=(λae H'=>∃c2:Option V,ae=[some (.ref tu),some (.ref wh),c2,none,none,none,none]/\Same H H');⟨J_,?_,?_⟩
 .refine⟨_,rfl,tu,_,2,_,rfl,rfl,L.tu,rfl,lm,rfl,⟨_,L.m.1⟩,?_⟩;refine let J_:J3:=(λi σ H'=>∃c2:Option V,σ=[some (.ref tu),some (.ref wh),c2,none,none,none,none]/\Same H H');Q2 (K:=K) (xs:=ms.map λm=>V.ref m.1) J_ ⟨none,rfl,λ_ _ e=>e⟩ ?_ ?_ ?_
  .rintro i σ H' _ ⟨_,_,g⟩;exact g.seq L.m.1
  .rintro i x σ H' hx ⟨c2,rfl,g⟩;have ab:i<ms.length:=by have:=(aU.mp hx).1;simpa using this
   have Y:=aQ ab;obtain rfl:x=.ref ms[i].1:=by
    rw [aK,aD ab]at hx;exact(aI hx).symm
   generalize ms[i]=md at Y;obtain⟨d1,d2,d3⟩:=M3 ((L.m.2 md Y).same g);obtain⟨J,aa,af,hl,al,am⟩:=hF.m md Y;have ap:=d3.length;have ax:=(hW.rws J aa).1;have w1:=((hw.same g).2 J aa).2.1;refine⟨_,rfl,md.1,_,.inr ⟨rfl,d1⟩,_,rfl,QT ⟨_,rfl,md.1,_,rfl,.inr d1,rfl,_,rfl,Vj rfl ⟨_,rfl,md.1,_,1,_,rfl,rfl,d1,rfl,md.2.2.1,_,.inl ⟨rfl,d2⟩,_,rfl,QT ?_⟩⟩⟩;refine⟨_,rfl,_,rfl,md.1,_,0,_,rfl,rfl,d1,rfl,wh,ks,J,by rw [af];rfl,hw.same g,hW.ok.nd,aa,J.2.2.1,_,rfl,.inl w1,_,rfl,md.1,_,1,_,rfl,rfl,d1,rfl,md.2.2.1,_,rfl,.inl d2,rfl,_,rfl,Vj (congrArg (λn:Nat=>V.int (n:Int)) (17:)) ?_⟩;refine⟨_,rfl,md.1,_,1,_,rfl,rfl,d1,rfl,(by show 0<=sizeLine;decide),λpe aq=>?_⟩;have ge:=Qd aq (.lst []);refine⟨.list (tmds md.2.2.2.2),.list [],.lst (ge.seq d2) (d3.mono λ_ _=>ge.seqT).rd,.lst (SqL.of Qb) .nil,al,by decide,hr.fit (bT (Nat.min_le_right _ _) (by simp [PyData.depth,PyData.depthAll])),_,rfl,?_⟩;have ee:PyData.eqv (.list (tmds md.2.2.2.2)) (.list [])=false:=by
    rw [WJ];cases e:md.2.2.2.2 with
    | nil=>rw [e]at hl;simp at hl;lia
    | cons _ _=>rfl
   rw [aF (12:),ee];exact QT ⟨_,rfl,g.trans ge⟩
  .rintro σ H' ⟨c2,rfl,g⟩;exact⟨c2,rfl,g⟩
 rintro ae H1 ⟨c2,rfl,g1⟩;have Z:=L.same g1;have ag:=hw.same g1;refine let J_:J2:=(λae H'=>∃c3 c4 M U:Option V,ae=[some (.ref tu),some (.ref wh),c2,c3,c4,M,U]/\Same H1 H');⟨J_,?_,?_⟩
 .refine⟨_,rfl,tu,_,2,_,rfl,rfl,Z.tu,rfl,lm,rfl,⟨_,Z.m.1⟩,?_⟩;refine let J_:J3:=(λi σ H'=>∃c3 c4 M U:Option V,σ=[some (.ref tu),some (.ref wh),c2,c3,c4,M,U]/\Same H1 H');Q2 (K:=K) (xs:=ms.map λm=>V.ref m.1) J_ ⟨_,_,_,_,rfl,λ_ _ e=>e⟩ ?_ ?_ ?_
  .rintro i σ H' _ ⟨_,_,_,_,_,g⟩;exact g.seq Z.m.1
  .rintro i x σ H' hx ⟨c3,c4,M,U,rfl,g⟩;have ab:i<ms.length:=by have:=(aU.mp hx).1;simpa using this
   have Y:=aQ ab;obtain rfl:x=.ref ms[i].1:=by
    rw [aK,aD ab]at hx;exact(aI hx).symm
   generalize ms[i]=md at Y;obtain⟨d1,d2,d3⟩:=M3 ((Z.m.2 md Y).same g);obtain⟨J,aa,af,hl,al,am⟩:=hF.m md Y;have ap:=d3.length;obtain⟨w1,w2⟩:=((ag.same g).2 J aa).2;refine⟨md.1,_,rfl,d1,rfl,_,_,rfl,_,_,rfl,rfl,?_⟩;refine⟨_,rfl,_,rfl,wh,ks,J,by rw [af];rfl,ag.same g,hW.ok.nd,aa,_,rfl,J.2.2.1,md.2.2.1,_,_,rfl,w1,d2,?_⟩;refine Sa (K:=K) (xs:=J.2.2.2.map λt=>V.ref t.1) (ys:=md.2.2.2.1) (17:) (λj σ H''=>∃M U:Option V,σ=[some (.ref tu),some (.ref wh),c2,some (.str md.2.1),some (.ref md.2.2.1),M,U]/\Same H' H'') ⟨_,_,rfl,λ_ _ e=>e⟩ ?_ ?_ ?_
   .rintro j σ H'' _ ⟨_,_,_,gx⟩;exact⟨gx.seq w1,gx.seq d2⟩
   .rintro j u v p σ H'' hu hv hp ⟨M,U,rfl,gx⟩;have ah:j<J.2.2.2.length:=by have:=(aU.mp hu).1;simpa using this
    have an:j<md.2.2.2.2.length:=by lia
    obtain rfl:u=.ref J.2.2.2[j].1:=by
     rw [aK,aD ah]at hu;exact(aI hu).symm
    obtain⟨cv,ar,as⟩:=d3.get (aD an);obtain rfl:cv=v:=aI (ar.symm.trans hv);have gp:=Qd hp (.tup [.ref J.2.2.2[j].1,cv]);have gg:=gx.trans gp;obtain⟨r1,r2⟩:=(w2 _ (aQ ah)).same gg;obtain⟨u1,u2⟩:=am j _ _ (aD ah) (aD an);refine⟨p,_,rfl,SqT.of Qb,rfl,_,_,rfl,_,_,rfl,rfl,?_⟩;exact⟨_,rfl,_,rfl,J.2.2.2[j].1,_,1,_,rfl,rfl,r1,rfl,_,rfl,tu,_,2,_,rfl,rfl,(g.trans gg).seqT Z.tu,rfl,cv,J.2.2.2[j].2.2.1,lm,_,J.2.2.2[j].2.2.2,ms,rfl,as.mono λ_ _=>gg.seqT,u1,r2,Z.m.same (g.trans gg),u2,λH4 g4=>⟨_,rfl,QT ⟨_,_,rfl,gg.trans g4⟩⟩⟩
   .rintro σ H'' ⟨M,U,rfl,gx⟩;exact⟨_,_,M,U,rfl,g.trans gx⟩
  .rintro σ H' ⟨c3,c4,M,U,rfl,g⟩;exact⟨c3,c4,M,U,rfl,g⟩
 rintro ae H2 ⟨c3,c4,M,U,rfl,g2⟩;have ad:=Z.same g2;have ao:=ag.same g2;obtain⟨k0,ai⟩: ∃k0,ks[0]?=some k0:=⟨_,aD hW.pos⟩;refine⟨_,rfl,tu,_,1,_,rfl,rfl,ad.tu,rfl,_,rfl,wh,_,0,.ref k0.1,rfl,rfl,ao.1,Qo (j:=0) (by rw [aK,ai];rfl),k0.1,_,0,_,rfl,rfl,(ao.2 k0 (aL ai)).1,rfl,(by show 1<=sizeLine;decide),λpb au=>?_⟩;have g3:=Qd au (.tup [.str k0.2.1]);exact⟨_,rfl,tu,_,2,_,rfl,rfl,g3.seqT ad.tu,rfl,sv,pb,lm,st,[k0.2.1],ms,rfl,ad.s.mono λ_ _=>g3.seqT,hF.l,SqT.of Qb,ad.m.same g3,hF.s k0 ai,λH4 g4=>q H4 (g1.trans (g2.trans (g3.trans g4)))⟩
end
end K40
namespace K40
open PySem L2 TM TT ST K9 K11
def SO(K:Fg):List V->Hp->VK->Prop:=G3.on1 λx H Q=>tyV K "list" x H/\Ot x [] H Q
theorem N2(X:Cx):G3.NodeOk X (G3.shM0 "clear") (SO X.K):=.m0 cS PySem.F.slot_list_clear PySem.F.type_list_clear NF
theorem neS{K:Fg}{x:V}{Q:VK}{d:PyData}(h1:RdV K H x d)(h2:RdV K H y d)(c:d.canLay0=true/\d.depth<=40)(q:Q (.bl false) H):G3.EqD K true x y H Q:=.e d d h1 h2 c.1 c.1 (by have:=c.2;lia) (by rw [ZH _ c.1];exact q)
theorem eqS{K:Fg}{x:V}{Q:VK}{d:PyData}(h1:RdV K H x d)(h2:RdV K H y d)(c:d.canLay0=true/\d.depth<=40)(q:Q (.bl true) H):G3.EqD K false x y H Q:=.e d d h1 h2 c.1 c.1 (by have:=c.2;lia) (by rw [ZH _ c.1];exact q)
structure Du(K:Fg)(X H:Hp)(tu wd lm:Addr)(sv:V)(st:Tm)(ms:List MdT):Prop where
 t:SqT K H tu [.ref wd,sv,.ref lm]
 s:TmV K H sv st
 m:NewMo K X H lm ms
theorem Du.keep{K:Fg}{X:Hp}{st:Tm}(h:Du K X H tu wd lm sv st ms)(k:KeepF K X H H'):Du K X H' tu wd lm sv st ms:=⟨k.t _ _ h.t,h.s.mono k.t,h.m.keep k⟩
theorem Du.rd{K:Fg}{X:Hp}{ks:List KdT}{st:Tm}{ds:List Md}(h:Du K X H tu wd lm sv st ms)(w:WoodAt K H wd ks)(e:dM ms=ds):RdV K H (.ref tu) (tuX (ks.map QR) st ds):=Yt ⟨h.t,w,h.s,SqL.of h.m.at0,λm G=>⟨(h.m.mo m G).1,SqL.of (h.m.mo m G).2.1,(h.m.mo m G).2.2.2.2⟩⟩ rfl e
theorem JR{K:Fg}{ks:List KdT}{st:Tm}{R:Addr->Hp->Prop}(hW:WD ks)(hD:T51 ks st ms)(e1:hs.map QR=ks.map QR)(e2:ms'.map MdT.md=ms.map MdT.md)
 (q:∀n,D (rlOf ks ms) (n+1)=D (rlOf ks ms) n->∀(tE wE lE:Addr)(sE:V)(kE:List KdT)(mE:List MdT)(H':Hp),SameX T H H'->TbS H' T pL qL->FrT K H H' tE wE lE sE kE (mpX (ixP (Qs (ms.map MdT.md) (D (rlOf ks ms) n) st)) (sin (lookS (D (rlOf ks ms) n)) st)) mE->kE.map QR=ks.map QR->Res (D (rlOf ks ms) n) st ms (Qs (ms.map MdT.md) (D (rlOf ks ms) n) st) mE->R tE H'):
 K40c.TuOk hs ms'/\∀n,D (rlOf hs ms') (n+1)=D (rlOf hs ms') n->(∀s∈D (rlOf hs ms') n,SOk s/\sl s<=4)/\∃x0 mk qs,Eb (D (rlOf hs ms') n) st ms' x0 mk qs/\∀(tu':Addr)(H':Hp),T5 K T H hs x0 mk qs tu' H'->R tu' H':=by
 refine⟨K40c.tu_copy e1 e2 (OC hW hD),λn G=>?_⟩;rw [Y8 e1 e2]at G ⊢;obtain⟨J,hE,L,M⟩:=Sr hW hD e1 e2 G;refine⟨J,_,_,_,hE,λtE H' ⟨wE,lE,sE,kE,mE,U,a2,Y,Z,a5,a6,a7⟩=>q n G tE wE lE sE kE mE H' U a2 Y (Z.trans e1) ⟨L,λm=>?_,hE.ln,a5,M,a6,a7⟩⟩;unfold lookS;cases e:(D (rlOf ks ms) n)[m.toNat]? with
 | none=>simp only [Option.getD_none,SOk]
 | some s=>exact(J s (aL e)).1
abbrev TZ:List G3.S:=[.ex (.meth 0 (.v 7) [.tup [.k (.str "zz"),.tup []]])]
abbrev cF:List G3.S:=[.ret (.k (.bl false))]
def C5:List G3.S:=[.set 1 (.call 0 [.v 0]),.set 2 (.call 1 [.v 0,.v 1]),.set 3 (.call 2 [.v 2]),.set 4 (.call 3 [.v 3]),.set 5 (.call 4 [.v 2,.call 5 [.call 2 [.v 2]]]),.ite (.oo (.no (.call 6 [.v 4,.v 1])) (.oo (.nd 0 [.v 4,.v 5]) (.nd 0 [.v 3,.v 2]))) cF [],.ex (.meth 0 (.ix (.ix (.ix (.v 3) (.k (.int 0))) (.k (.int 0))) (.k (.int 1))) [.tup [.k (.str "zz"),.tup []]]),.ex (.nd 2 [.ix (.ix (.ix (.v 3) (.k (.int 2))) (.k (.int 0))) (.k (.int 1))]),.ex (.nd 2 [.ix (.v 3) (.k (.int 2))]),.ite (.nd 0 [.v 4,.v 5]) cF [],.set 3 (.call 2 [.v 2]),.forU [6,7] (.ix (.v 4) (.k (.int 0))) TZ,.forU [6,8] (.ix (.v 4) (.k (.int 2))) [.ex (.nd 2 [.v 8])],.ex (.nd 2 [.ix (.v 4) (.k (.int 2))]),.set 4 (.call 3 [.v 3]),.ite (.oo (.nd 0 [.v 4,.v 5]) (.nd 0 [.v 3,.v 2])) cF [],.forU [6,7] (.ix (.v 4) (.k (.int 0))) TZ,.ex (.nd 2 [.ix (.v 4) (.k (.int 0))]),.ret (.an (.nd 1 [.v 3,.v 2]) (.nd 1 [.call 3 [.v 3],.v 5]))]
def Bu(K:Fg)(T:Addr):G3.En:=⟨K,[λ_ vs H Q=>VD K vs H Q E0,λ_ vs H Q=>Gq K vs H Q E0,λ_ vs H Q=>Wo K vs H Q E0,λ_ vs H Q=>Wa K T vs H Q E0,λ_ vs H Q=>NS K vs H Q E0,λ_ vs H Q=>K40c.spCm K vs H Q E0,λ_ vs H Q=>V2 K vs H Q E0],[G3.mApp K],[G3.on2 (G3.EqD K true),G3.on2 (G3.EqD K false),SO K],[]⟩
def Lw(K:Fg)(T:Addr):Sp:=λvs H Q _=>∃(a:Addr)(ns:List Int),vs=[.ref a]/\SqL K H a (ns.map V.int)/\ns.length<=63/\H T=some (.tbl #[])/\∀H',Q (.bl true) H'
theorem XF{K:Fg}{A B:Hp}{ks:List KdT}{a0 a1 a2 a3 a4 a5 c6 c7 c8:Option V}{D:Ends}(mu:Mu A B H0 H)(hw:H wd=some (.lst (ks.map λk=>V.ref k.1)))(h3:ks.length<=3)
 (hk:∀k∈ks,SqT K H k.1 [.str k.2.1,.ref k.2.2.1]/\(∃ys,H k.2.2.1=some (.lst ys)/\ys.length<=100)/\A k.2.2.1=none/\(∃ys,B k.2.2.1=some (.lst ys))/\k.2.2.1≠wd)
 (hd:∀c6 c7 H',Mu A B H0 H'->(∀b u,(∀k∈ks,k.2.2.1≠b)->H b=some u->H' b=some u)->(∀a xs,SqT K H a xs->SqT K H' a xs)->D.nx [a0,a1,a2,a3,a4,a5,c6,c7,c8] H'):G3.ForU K [6,7] wd (G3.ES (Bu K T) TZ) D [a0,a1,a2,a3,a4,a5,c6,c7,c8] H:=by
 refine let J_:J3:=(λj σ H'=>∃c6 c7,σ=[a0,a1,a2,a3,a4,a5,c6,c7,c8]/\Mu A B H0 H'/\(∀b u,(∀k∈ks,k.2.2.1≠b)->H b=some u->H' b=some u)/\(∀a xs,SqT K H a xs->SqT K H' a xs)/\∀k∈ks,∃ys,H' k.2.2.1=some (.lst ys)/\ys.length<=100+j);.f (ks.map λk=>V.ref k.1) J_ ⟨c6,c7,rfl,mu,λ_ _ _ e=>e,λ_ _ e=>e,λk G=>(hk k G).2.1⟩ ?_ ?_ ?_
 .rintro j σ H' _ ⟨_,_,_,_,s,_⟩;exact SqL.of (s _ _ (λk G=>(hk k G).2.2.2.2) hw)
 .rintro j x σ H' G ⟨c6,c7,rfl,m,s,t,l⟩;rw [aK]at G;obtain⟨k,L,rfl⟩:=cL.mp G;have M:=aL L;have hj:=(aU.mp L).1;obtain⟨b1,_,b3,⟨zs,b4⟩,_⟩:=hk k M;obtain⟨ys,e,hy⟩:=l k M;refine⟨k.1,_,rfl,t _ _ b1,G3.tyL e,⟨λp0 X0 J d0 _=>⟨λp1 X1 k1 d1 _=>?_⟩⟩⟩;have U:=k1 _ _ (J _ _ e);refine⟨k.2.2.1,ys,_,rfl,rfl,U,by rw [show sizeLine=16777216 by decide];lia,_,_,rfl,((m.same J).same k1).put b3 b4,λb u n eb=>?_,λa xs q=>((J.trans k1).seqT (t _ _ q)).put U,λk' Y=>?_⟩
  .rw [Qe (n k M).symm];exact k1 _ _ (J _ _ (s b u n eb))
  .by_cases z:k'.2.2.1=k.2.2.1
   .rw [z,Qb];exact⟨_,rfl,by rw [aW,cM];lia⟩
   .obtain⟨Z,e',aa⟩:=l k' Y;exact⟨Z,by rw [Qe z];exact k1 _ _ (J _ _ e'),by lia⟩
 .rintro σ H' ⟨c6,c7,rfl,m,s,t,_⟩;exact hd c6 c7 H' m s t
section
variable{K:Fg}
theorem Bl:FnScope ["_law_script","_law_wood_here","_law_turning_here","_law_handed","_law_found","_law_due","_law_kind","_law_rows_here","_law_rules"] ["_law_script"] (defScope Gf):=(0:)
theorem T9(F:Fun K "law" "law" Gf f fd)(G:Gm mg)(RW:Fn P w K mg base 2 "_law_wood" ["_law_script"] (VD K))(RTu:Fn P w K mg base 5 "_law_turning" ["_law_script","_law_wood_here"] (Gq K))(RA:Fn P w K mg base 1 "_law_again" ["_law_turning_here"] (Wo K))(RE:Fn P w K mg base 41 "early" ["turning"] (Wa K T))(RL:Fn P w K mg base 12 "_law_early" ["_law_turning_here","_law_stumps"] (NS K))(RC:Fn P w K mg base 10 "commons" ["turning"] (K40c.spCm K))(RI:Fn P w K mg base 10 "_law_is_turning" ["_law_found","_law_wood_here"] (V2 K)):FnOk P w K mg base CX0 53 f fd ["_law_script"] (Lw K T):=by
 refine G3.Fun.okC F Bl (Bu K T) C5 (nk:=[G3.shCmp .NotEq,G3.shCmp .Eq,G3.shM0 "clear"]) (λX c=>⟨.cons (c.fn RW) (.cons (c.fn RTu) (.cons (c.fn RA) (.cons (c.fn RE) (.cons (c.fn RL) (.cons (c.fn RC) (.cons (c.fn RI) .nil)))))),.cons (c.meth G3.m_append) .nil,.cons c.neD (.cons c.eqD (.cons (c.node (r:=SO) N2) .nil))⟩) (7:) (λH vs Q E h=>?_) G.rng
 .obtain⟨a,ns,rfl,_⟩:=h
  rfl
 obtain⟨a,ns,rfl,hS,dg,bp,q⟩:=h;refine⟨a,ns,rfl,hS,λwd ks H1 g1 hw U=>⟨a,ns,wd,ks,rfl,g1.seq hS,hw,U,λt2 an s2 st ms H2 g2 ab hD=>?_⟩⟩;have d3:=hD.three;have dp:=hD.pos;have w3:=U.three;have az:=S8 U hD;refine⟨t2,wd,an,s2,ks,st,ms,rfl,ab,U.ok,by lia,λtA wA lA kA mA H3 g3 fA ao a0=>?_⟩;have bq:TbS H3 T pL qL:=.inl (g3 _ _ (g2 _ _ (g1 _ _ bp)));obtain⟨b3,a1⟩:=bq.at;have cm:kA.length<=100:=by have:=congrArg List.length ao;simp only [aE]at this;lia
 refine⟨tA,wA,lA,s2,kA,st,mA,rfl,bq,fA.td,cm,JR U hD ao a0 λn br tE wE lE sE kE mE H5 x5 bt fE ap ae=>?_⟩;have a3:∀m,D (rlOf ks ms) (m+1)=D (rlOf ks ms) m->D (rlOf ks ms) m=D (rlOf ks ms) n:=λm k=>TK br k;have aq:=Cf (st':=st) U hD ae;have hF:=ae.ft U hD;obtain⟨ho,cn,_⟩:=Sr U hD rfl rfl br;generalize D (rlOf ks ms) n=S at*;have a4:=TurnD.keep (KeepS.tb a1 x5) (ab.same g3);refine⟨t2,wd,an,s2,ks,st,ms,rfl,a4,U.ok,by lia,λtB wB lB kB mB H6 g6 fB bu bv=>?_⟩;refine⟨tB,wB,lB,s2,kB,st,mB,rfl,fB.td,K40c.tu_copy bu bv (OC U hD),λls us n' H7 g7 dh co a5 a6=>?_⟩;rw [Y8 bu bv]at a5 a6;rw [a3 _ a6]at a5;refine⟨t2,wd,an,ls,s2,ks,st,ms,us,S,_,_,_,rfl,(a4.same g6).same g7,⟨SqL.of co,a5,ho⟩,cn,λtD lD sD mD H8 g8 dD cp nD cq=>?_⟩;have a7:Same H5 H8:=g6.trans (g7.trans g8);refine⟨tE,wE,lE,wd,sE,kE,ks,_,mE,rfl,(fE.td).same a7,(a4.same a7).w,U,ap,hF,λH9 g9=>?_⟩;have af:=a7.trans g9;have bw:Du K H5 H9 tD wd lD sD _ mD:=⟨g9.seqT dD,cp.mono λ_ _=>g9.seqT,⟨Same.none (g6.trans g7) nD.n0,g9 _ _ nD.at0,λm hm=>by
  obtain⟨z1,z2,z3,z4,z5⟩:=nD.mo m hm;exact⟨g9.seqT z1,g9 _ _ z2,Same.none (g6.trans g7) z3,z4,z5.mono λ_ _=>g9.seqT⟩⟩⟩
 have ar:dM mD=mE.map MdT.md:=cq.trans ae.m.symm;have bx:=fE.keep (KeepF.same (K:=K) (H0:=H3) af);have x39:SameX T H3 H9:=λb u nb e=>af _ _ (x5 b u nb e);have aa:=fA.keep (kfX (X:=H2) a1 x39);have x29:SameX T H2 H9:=λb u nb e=>x39 b u nb (g3 _ _ e);have ag:H2 T=some (.tbl #[]):=g2 _ _ (g1 _ _ bp);have bz:=TurnD.keep (KeepS.tb ag x29) ab;refine neS (Yt bx.td ap rfl) (bw.rd bz.w ar) aq ?_;refine neS (Yt aa.td ao a0) (Yt bz rfl rfl) az ?_;have as:∀hs:List KdT,hs.map QR=ks.map QR->hs.length=ks.length/\∀k∈hs,k.2.2.2.length<=3:=λhs e=>by
  refine⟨by have:=congrArg List.length e;simpa using this,λk L=>?_⟩;have z:QR k∈ks.map QR:=by rw [<-e];exact aJ.mpr ⟨k,L,rfl⟩
  obtain⟨k',a8,e'⟩:=aJ.mp z;have e2:k'.2.2.2=k.2.2.2:=congrArg (λx:Str×List PNx=>x.2) e';rw [<-e2];exact(U.rws k' a8).2
 obtain⟨di,cr⟩:=as kA ao;obtain⟨dj,ct⟩:=as kE ap;have dk:mA.length=ms.length:=by have:=congrArg List.length a0;simpa using this
 obtain⟨M,b0⟩: ∃k,kA[0]?=some k:=⟨_,aD (by have:=U.pos;lia)⟩;obtain⟨Y,b1⟩: ∃m,mA[0]?=some m:=⟨_,aD (5:)⟩;have au:=aL b0;have a9:=aL b1;have r0:=cr M au;obtain⟨i1,i2,i3,_⟩:=aa.w.kd M au;obtain⟨j1,j2,j3,j4,_⟩:=aa.m.mo Y a9;obtain⟨cu,cv⟩:=fA.d2 M au;have cw:Mu H2 H3 H9 H9:=⟨λ_ _ e _=>e,λ_ e=>e,λb ys _ e=>⟨ys,x39 b _ (λz=>by rw [z,a1]at e;cases e) e⟩⟩;refine .t _ _ aa.tu rfl<| .l _ (.ref M.1) (SqL.of aa.w.at0) (Qo (j:=0) (by rw [aK,b0];rfl))<| .t _ _ i1 rfl ⟨G3.tyL i2,⟨λp0 X0 k0 d0 _=>⟨λp1 X1 k1 d1 _=>⟨M.2.2.1,_,_,rfl,rfl,k1 _ _ (k0 _ _ i2),by rw [aE,show sizeLine=16777216 by decide];lia,?_⟩⟩⟩⟩;have av:=((cw.same k0).same k1).put (zs:=M.2.2.2.map (λt=>V.ref t.1)++[.ref p1]) i3 (fA.w.kd M au).2.1;have e1:upd X1 M.2.2.1 (.lst (M.2.2.2.map (λt=>V.ref t.1)++[.ref p1])) lA=some (.lst (mA.map λm=>V.ref m.1)):=by rw [Qe cu.symm];exact k1 _ _ (k0 _ _ aa.m.at0)
 have e2:upd X1 M.2.2.1 (.lst (M.2.2.2.map (λt=>V.ref t.1)++[.ref p1])) Y.2.2.1=some (.lst Y.2.2.2.1):=by rw [Qe (cv Y a9).symm];exact k1 _ _ (k0 _ _ j2)
 generalize upd X1 M.2.2.1 (.lst (M.2.2.2.map (λt=>V.ref t.1)++[.ref p1]))=b4 at av e1 e2;refine .t _ _ (av.t _ _ aa.tu) rfl<| .l _ (.ref Y.1) (SqL.of e1) (Qo (j:=0) (by rw [aK,b1];rfl))<| .t _ _ (av.t _ _ j1) rfl ⟨G3.tyL e2,Y.2.2.1,_,rfl,rfl,e2,?_⟩;have ba:=av.put (zs:=[]) j3 (fA.m.mo Y a9).2.1;have e3:upd b4 Y.2.2.1 (.lst []) lA=some (.lst (mA.map λm=>V.ref m.1)):=by rw [Qe j4.symm];exact e1
 generalize upd b4 Y.2.2.1 (.lst [])=cx at ba e3;refine .t _ _ (ba.t _ _ aa.tu) rfl ⟨G3.tyL e3,lA,_,rfl,rfl,e3,?_⟩;have ac:=ba.put (zs:=[]) fA.m.n0 fA.m.at0;generalize upd cx lA (.lst [])=aw at ac;have bo:∀b,H5 b=none->H3 b=none:=by
  obtain⟨p5,cy⟩:=bt.at;exact AL cy x5
 have bb:=bx.keep (ac.kf (X:=H3) λ_ e=>e);have bc:=bw.keep (ac.kf (X:=H5) bo);have x212:SameX T H2 aw:=ac.x x29 λb u e z=>by rw [e]at z;cases z
 have bd:=TurnD.keep (KeepS.tb ag x212) ab;refine neS (Yt bb.td ap rfl) (bc.rd bd.w ar) aq ?_;refine⟨t2,wd,an,s2,ks,st,ms,rfl,bd,U.ok,by lia,λtC wC lC kC mC be ah fC ai ax=>?_⟩;obtain⟨dl,dm⟩:=as kC ai;have cz:Mu H3 H5 be be:=⟨λ_ _ e _=>e,λ_ e=>e,λb ys n e=>⟨ys,ah _ _ (ac.n b _ (af _ _ e) λ⟨_,zs,z⟩=>by rw [n]at z;cases z)⟩⟩;have J:=bb.keep (KeepF.same (K:=K) (H0:=H3) ah);refine .t _ _ J.tu rfl ?_;refine XF cz J.w.at0 (5:) (λk L=>⟨(J.w.kd k L).1,⟨_,(J.w.kd k L).2.1,by have:=ct k L;rw [aE];lia⟩,(J.w.kd k L).2.2.1,⟨_,(fE.w.kd k L).2.1⟩,J.w.na k L⟩) λc6 c7 c0 c1 b5 t4=>?_;have c2:c0 lE=some (.lst (mE.map λm=>V.ref m.1)):=b5 _ _ (λk L=>(J.d2 k L).1) J.m.at0;refine .t _ _ (t4 _ _ J.tu) rfl<|let J_:J3:=(λj σ H'=>∃c6 c8,σ=[some (.ref a),some (.ref wd),some (.ref t2),some (.ref tC),some (.ref tE),some (.ref tD),c6,c7,c8]/\Mu H3 H5 be H'/\H' lE=some (.lst (mE.map λm=>V.ref m.1))/\∀m∈mE,∃ys,H' m.2.2.1=some (.lst ys));.f (mE.map λm=>V.ref m.1) J_ ⟨c6,_,rfl,c1,c2,λm hm=>⟨_,b5 _ _ (λk L=>(J.d2 k L).2 m hm) (J.m.mo m hm).2.1⟩⟩ ?_ ?_ ?_
 .rintro j σ H' _ ⟨_,_,_,_,e,_⟩;exact SqL.of e
 .rintro j x σ H' hx ⟨c6,c8,rfl,m,e,l⟩;rw [aK]at hx;obtain⟨k,c3,rfl⟩:=cL.mp hx;have hm:=aL c3;obtain⟨z1,z2,z3,z4,_⟩:=J.m.mo k hm;obtain⟨ys,ey⟩:=l k hm;refine⟨k.1,_,rfl,m.t _ _ z1,G3.tyL ey,k.2.2.1,ys,rfl,rfl,ey,_,_,rfl,m.put z3 (fE.m.mo k hm).2.1,by rw [Qe z4.symm];exact e,λk' a8=>?_⟩
  by_cases z:k'.2.2.1=k.2.2.1
  .rw [z,Qb];exact⟨_,rfl⟩
  .rw [Qe z];exact l k' a8
 rintro σ H' ⟨c6,c8,rfl,m5,e5,_⟩;refine .t _ _ (m5.t _ _ J.tu) rfl ⟨G3.tyL e5,lE,_,rfl,rfl,e5,?_⟩;have aj:=m5.put (zs:=[]) fE.m.n0 fE.m.at0;generalize upd H' lE (.lst [])=b6 at aj;have am:=fC.keep (aj.kf (X:=aw) λb e=>Same.none af (ac.d b e));have bf:=aj.tb ((ac.tb (bt.same af)).same ah);refine⟨tC,wC,lC,s2,kC,st,mC,rfl,bf,am.td,by lia,JR U hD ai ax λn2 ca tG wG lG sG kG mG ay ak cb Z b7 RG=>?_⟩;rw [a3 _ ca]at Z RG;obtain⟨dq,c4⟩:=as kG b7;obtain⟨dt,ad⟩:=bf.at;have bg:=(bc.keep (KeepF.same (K:=K) (H0:=H5) ah)).keep (aj.kf (X:=H5) λ_ e=>e);have cc:=bg.keep (kfX (X:=H5) ad ak);have x215:SameX T H2 b6:=aj.x (λb u nb e=>ah _ _ (x212 b u nb e)) λb u e z=>by rw [g3 _ _ e]at z;cases z
 have x216:SameX T H2 ay:=λb u nb e=>ak b u nb (x215 b u nb e);have bh:=TurnD.keep (KeepS.tb ag x216) ab;have ce:=am.keep (kfX (X:=aw) ad ak);refine neS (Yt Z.td b7 (RG.m.trans ae.m.symm)) (cc.rd bh.w ar) aq ?_;refine neS (Yt ce.td ai ax) (Yt bh rfl rfl) az ?_;have c5:Mu b6 ay ay ay:=⟨λ_ _ e _=>e,λ_ e=>e,λb ys _ e=>⟨ys,e⟩⟩;refine .t _ _ Z.tu rfl ?_;refine XF c5 Z.w.at0 (5:) (λk L=>⟨(Z.w.kd k L).1,⟨_,(Z.w.kd k L).2.1,by have:=c4 k L;rw [aE];lia⟩,(Z.w.kd k L).2.2.1,⟨_,(Z.w.kd k L).2.1⟩,Z.w.na k L⟩) λc6 c7 c9 da db t7=>?_;have b8:=db _ _ (λk L=>Z.w.na k L) Z.w.at0;refine .t _ _ (t7 _ _ Z.tu) rfl ⟨G3.tyL b8,wG,_,rfl,rfl,b8,?_⟩;have al:=da.put (zs:=[]) Z.w.n0 Z.w.at0;generalize upd c9 wG (.lst [])=dc at al;have bi:=am.keep (al.kA (kfX (X:=aw) ad ak));have bj:SameX T H2 dc:=al.x x216 λb u e z=>by
  by_cases x:b=T
  .rw [x,ad]at z;cases z
  .rw [x215 b u x e]at z;cases z
 have cf:=TurnD.keep (KeepS.tb ag bj) ab;refine eqS (Yt bi.td ai ax) (Yt cf rfl rfl) az ?_;have bn:=al.tb cb;refine⟨tC,wC,lC,s2,kC,st,mC,rfl,bn,bi.td,by lia,JR U hD ai ax λn3 cg tI wI lI sI kI mI dd b9 df fI de R3=>?_⟩;rw [a3 _ cg]at fI R3;obtain⟨du,ch⟩:=bn.at;have ci:=(bg.keep (al.kA (kfX (X:=H5) ad ak))).keep (kfX (X:=H5) ch b9);have cj:SameX T H2 dd:=λb u nb e=>b9 b u nb (bj b u nb e);have ck:=TurnD.keep (KeepS.tb ag cj) ab;exact eqS (Yt fI.td de (R3.m.trans ae.m.symm)) (ci.rd ck.w ar) aq (q _)
end
end K40
namespace L2
theorem ln1{α:Type}{us:List α}(h:us.length=1):∃a,us=[a]:=fV.mp h
theorem ln2{α:Type}{us:List α}(h:us.length=2):∃a b,us=[a,b]:=by
 match us,h with
 | [a,b],_=>exact⟨a,b,rfl⟩
theorem ln4{α:Type}{us:List α}(h:us.length=4):∃a b c d,us=[a,b,c,d]:=by
 match us,h with
 | [a,b,c,d],_=>exact⟨a,b,c,d,rfl⟩
end L2
namespace L2
open PySem
structure MethAt(K:Fg)(C:Addr)(m qual:Str)(st:Stmt):Prop where
 ex:∃(f:Addr)(oc:Value)(od:Option Addr)(kV doc pm:Value)(an:Option Addr)(cdv ct:Value)(osl:Array (Option Value)),
  PySem.W.findIn K (.ref C) m=some (some (.ref f))/\PySem.W.isFn K (.ref f)=true/\K.lookup f=some ⟨oc,od,.func (PySem.W.fnOf m qual (defArgs st) (defBody st) (defScope st) .none kV doc pm an cdv ct),osl⟩/\PySem.W.codeIn K cdv qual=true/\PySem.W.keepIn K (.ref f)=true
theorem MethAt.mk'{K:Fg}{C:Addr}{m:Str}{st:Stmt}{kV:Value}
 (a:PySem.W.findIn K (.ref C) m=some (some (.ref f))) (i:PySem.W.isFn K (.ref f)=true) (l:K.lookup f=some ⟨oc,od,.func (PySem.W.fnOf m qual (defArgs st) (defBody st) (defScope st) .none kV doc pm an cdv ct),osl⟩) (c:PySem.W.codeIn K cdv qual=true) (k:PySem.W.keepIn K (.ref f)=true):MethAt K C m qual st:=
 ⟨f,oc,od,kV,doc,pm,an,cdv,ct,osl,a,i,l,c,k⟩
end L2
namespace K40c
open PySem L2 K40
structure StgK(K:Fg):Prop where
 ex:∃C:Addr,PySem.W.nsIn K mainGlobals "Stages"=some (some (.ref C))/\Cls K C/\NoAttr K C "modes"/\ NoAttr K C "callers"/\ NoAttr K C "stumps"/\ NoAttr K C "waiting"/\ PySem.W.makesIn K C=true/\PySem.W.keepIn K (.ref C)=true/\
  MethAt K C "__init__" "Stages.__init__" Vm/\MethAt K C "is_last" "Stages.is_last" Y6/\MethAt K C "go_on" "Stages.go_on" WK
theorem StgK.mk'{K:Fg}{C:Addr}(aC:PySem.W.nsIn K mainGlobals "Stages"=some (some (.ref C)))(pg:PySem.W.plainGet K C Str.empty=true)(hd:PySem.W.hasDictIn K C=true)(po:PySem.W.plainOver K C=true)
 (sa:PySem.W.findIn K (.ref C) "__setattr__"=some (some (.builtin "object.__setattr__"))) (n1:PySem.W.findIn K (.ref C) "modes"=some none) (n2:PySem.W.findIn K (.ref C) "callers"=some none) (n3:PySem.W.findIn K (.ref C) "stumps"=some none) (n4:PySem.W.findIn K (.ref C) "waiting"=some none)
 (mk:PySem.W.makesIn K C=true) (kc:PySem.W.keepIn K (.ref C)=true) (m1:MethAt K C "__init__" "Stages.__init__" Vm) (m2:MethAt K C "is_last" "Stages.is_last" Y6) (m3:MethAt K C "go_on" "Stages.go_on" WK):StgK K:=
 ⟨C,aC,⟨pg,hd,po,sa⟩,n1,n2,n3,n4,mk,kc,m1,m2,m3⟩
theorem StgK.m{P:Program}{w:World}{K:Fg}{mg:Str->Option Value}{base h:Heap}(S:StgK K)(X:K.In h)(N:h.Ns mainGlobals mg)(G:Gm mg)(RC:Fn P w K mg base 6 "callers_by_modes" ["modes"] (S9 K))(RL:Fn P w K mg base 7 "leaf_stump" ["wood","kind","rules"] (Sh K))
 (RA:Fn P w K mg base 1 "all_rules" ["modes"] (Se K)) (RM:Fn P w K mg base 6 "met" ["one","other"] (spMet K 5)) (RR:Fn P w K mg base 5 "rule_stump" ["rule","stumps"] (spRS K 4)):∃C,StgM P w K mg base C:=by
 obtain⟨C,aC,cl,n1,n2,n3,n4,mk,kc,m1,m2,m3⟩:=S.ex;have T:StgT K mg C:=⟨cl,n1,n2,n3,n4,ef X N aC⟩;obtain⟨f1,aj,ak,al,aa,am,an,ab,ao,ac,L,i1,l1,c1,k1⟩:=m1.ex;obtain⟨f2,ap,aq,ar,ad,as,au,ae,av,af,a2,i2,l2,c2,M⟩:=m2.ex;obtain⟨f3,aw,ax,ay,ag,az,a0,ah,a4,ai,a3,i3,l3,c3,U⟩:=m3.ex;have Y:=YX (st:=Vm) l1 c1 k1;have Z:=YX (st:=Y6) l2 c2 M;have F3:=YX (st:=WK) l3 c3 U;have b1:Binds K _ ["self","turning"] []:=Y.binds λ_ _ _ _ _ _ us J=>by obtain⟨L,a2,rfl⟩:=ln2 J;rfl
 have b2:Binds K _ ["self"] []:=Z.binds λ_ _ _ _ _ _ us J=>by obtain⟨L,rfl⟩:=ln1 J;rfl
 have b3:Binds K _ ["self"] []:=F3.binds λ_ _ _ _ _ _ us J=>by obtain⟨L,rfl⟩:=ln1 J;rfl
 exact⟨C,T,⟨f1,_,⟨mk,L,i1,kc⟩,Sb Y G T RC RL RA,b1⟩,⟨f2,_,⟨a2,i2,M⟩,BL Z G T,b2⟩,⟨f3,_,⟨a3,i3,U⟩,Bn F3 G T RM RR,b3⟩⟩
end K40c
namespace L2
open PySem PySem.Spec PyProof.Rows
structure Cc(P:Program)(w:World)(K:Fg)(mg:Str->Option Value)(base h:Heap):Prop where
 x:K.In h
 n:h.Ns mainGlobals mg
section
variable{K:Fg}{k:Nat}{x p1 p2 p3 p4 p5 p6:Str}{st:Stmt}
abbrev FOk(P:Program)(w:World)(K:Fg)(mg:Str->Option Value)(base:Heap)(k:Nat)(x:Str)(st:Stmt)(sp:Sp)(ps:List Str):Prop:=∀(f:Addr)(fd:FuncData),Fun K x x st f fd->Binds K fd ps []->mg x=some (.ref f)->FnOk P w K mg base CX0 k f fd ps sp
abbrev BOk(x:Str)(st:Stmt)(ps:List Str)(us:List Value):Prop:=∀(kV doc pm:Value)(an:Option Addr)(cdv ct:Value),bindArgs (PySem.W.fnOf x x (defArgs st) (defBody st) (defScope st) .none kV doc pm an cdv ct) ⟨us,[]⟩=pure (ps.zip us)
theorem DefAt.fr(D:DefAt K x st)(C:Cc P w K mg base h)(ok:FOk P w K mg base k x st sp ps)(hb:∀us:List Value,us.length=ps.length->BOk x st ps us):Fn P w K mg base k x ps sp:=by
 obtain⟨f,U,Y,kV,J,Z,an,L,ct,M,a,l,c,kp⟩:=D.ex;have F:=YX (st:=st) l c kp;have b:=F.binds (ps:=ps) λ_ _ _ _ _ _ us G=>hb us G _ _ _ _ _ _;have m:=ef C.x C.n a;exact⟨f,_,ok f _ F b m,b,kp,m⟩
theorem DefAt.f1(D:DefAt K x st)(C:Cc P w K mg base h)(ok:FOk P w K mg base k x st sp [p1])(hb:∀a,BOk x st [p1] [a]:=by intros;exact λ_ _ _ _ _ _=>rfl):Fn P w K mg base k x [p1] sp:=D.fr C ok λG h=>match G,h with | [a],_=>hb a
theorem DefAt.f2(D:DefAt K x st)(C:Cc P w K mg base h)(ok:FOk P w K mg base k x st sp [p1,p2])(hb:∀a b,BOk x st [p1,p2] [a,b]:=by intros;exact λ_ _ _ _ _ _=>rfl):Fn P w K mg base k x [p1,p2] sp:=D.fr C ok λG h=>match G,h with | [a,b],_=>hb a b
theorem DefAt.f3(D:DefAt K x st)(C:Cc P w K mg base h)(ok:FOk P w K mg base k x st sp [p1,p2,p3])(hb:∀a b c,BOk x st [p1,p2,p3] [a,b,c]:=by intros;exact λ_ _ _ _ _ _=>rfl):Fn P w K mg base k x [p1,p2,p3] sp:=D.fr C ok λG h=>match G,h with | [a,b,c],_=>hb a b c
theorem DefAt.f4(D:DefAt K x st)(C:Cc P w K mg base h)(ok:FOk P w K mg base k x st sp [p1,p2,p3,p4])(hb:∀a b c d,BOk x st [p1,p2,p3,p4] [a,b,c,d]:=by intros;exact λ_ _ _ _ _ _=>rfl):Fn P w K mg base k x [p1,p2,p3,p4] sp:=D.fr C ok λG h=>match G,h with | [a,b,c,d],_=>hb a b c d
theorem DefAt.f5(D:DefAt K x st)(C:Cc P w K mg base h)(ok:FOk P w K mg base k x st sp [p1,p2,p3,p4,p5])(hb:∀a b c d e,BOk x st [p1,p2,p3,p4,p5] [a,b,c,d,e]:=by intros;exact λ_ _ _ _ _ _=>rfl):Fn P w K mg base k x [p1,p2,p3,p4,p5] sp:=D.fr C ok λG h=>match G,h with | [a,b,c,d,e],_=>hb a b c d e
theorem rr{s:Nat->Sp}{b:Nat}(h0:∀vs H Q E,¬s 0 vs H Q E)(hs:∀{f:Addr}{fd:FuncData}{n:Nat},Fun K x x st f fd->Fn P w K mg base (n+b) x ps (s n)->FnOk P w K mg base CX0 (n+b+1) f fd ps (s (n+1)))(n:Nat):FOk P w K mg base (n+b) x st (s n) ps:=λf fd F G J=>by
 induction n with
 | zero=>exact⟨λvs H Q E h=>absurd h (h0 vs H Q E),λA outer s H L U vs Q E _ _ _ _ h=>absurd h (h0 vs H Q E)⟩
 | succ n M=>
  rw [Nat.add_right_comm];exact hs F ⟨f,fd,M,G,F.kp,J⟩
end
end L2
namespace L2
theorem nl{α:Type}{t:TM.Tree α}(h:TM.lv t<=0):False:=by rw [TM.lv_bs]at h;lia
theorem ns{s:ST.Stp}(h:ST.sl s<=0):False:=by have:=ST.sl_pos s;lia
end L2
namespace K40
open PySem L2
theorem all_mk{l:PySem.W.OpenLaw}{K:Fg}(X:K.In h)(N:h.Ns mainGlobals mg)(hfa:mg "law"=some (.ref fa))
 (d1:DefAt K "is_open" K40c.sIsO) (d2:DefAt K "head" K40c.sHead) (d3:DefAt K "met" K40c.sMet) (d4:DefAt K "stump_at" sSA) (d5:DefAt K "is_call" Mp) (d6:DefAt K "term_size" S2) (d7:DefAt K "term_levels" Tj) (d8:DefAt K "calls_of" sCO) (d9:DefAt K "down_to" sDn) (d10:DefAt K "with_modes" sWM) (d11:DefAt K "with_parts" sWP) (d12:DefAt K "own_wood" TJ) (d13:DefAt K "rows_of" K40c.sRowsOf) (d14:DefAt K "commons" K40c.sCommons) (d15:DefAt K "all_rules" K40c.sAR) (d16:DefAt K "callers_by_modes" K40c.sCB) (d17:DefAt K "leaf_stump" K40c.sLS) (d18:DefAt K "rule_stump" K40c.sRS) (d19:DefAt K "as_met" Wn) (d20:DefAt K "number_calls" O5) (d21:DefAt K "numbered_mode" NP) (d22:DefAt K "early" sEa) (d23:DefAt K "early_by" sEB) (d24:DefAt K "early_mode" sEM) (d25:DefAt K "early_term" sET) (d26:DefAt K "stumps_in" sSI) (d27:DefAt K "stump_term" sST) (d28:DefAt K "_law_cell_at" NE) (d29:DefAt K "_law_stream" XY) (d30:DefAt K "_law_names" VS) (d31:DefAt K "_law_wood" M5) (d32:DefAt K "_law_rows" M7) (d33:DefAt K "_law_calls" Gh) (d34:DefAt K "_law_term" MY) (d35:DefAt K "_law_unkept" Aw) (d36:DefAt K "_law_turning" Oq) (d37:DefAt K "_law_again" VQ) (d38:DefAt K "_law_is_whole" sWh) (d39:DefAt K "_law_is_term" T0) (d40:DefAt K "_law_is_turning" Pl) (d41:DefAt K "_law_in_stump" Ar) (d42:DefAt K "_law_filled" T6) (d43:DefAt K "_law_below" To) (d44:DefAt K "_law_numbered" Aj) (d45:DefAt K "_law_early" sEL) (d46:DefAt K "law" Gf)
 (z1:PySem.W.nsIn K mainGlobals "len"=some none) (z2:PySem.W.nsIn K mainGlobals "isinstance"=some none) (z3:PySem.W.nsIn K mainGlobals "bool"=some none) (z4:PySem.W.nsIn K mainGlobals "int"=some none) (z5:PySem.W.nsIn K mainGlobals "str"=some none) (z6:PySem.W.nsIn K mainGlobals "tuple"=some none) (z7:PySem.W.nsIn K mainGlobals "list"=some none) (z8:PySem.W.nsIn K mainGlobals "range"=some none) (z9:PySem.W.nsIn K mainGlobals "sum"=some none) (z10:PySem.W.nsIn K mainGlobals "max"=some none) (z11:PySem.W.nsIn K mainGlobals "sorted"=some none) (z12:PySem.W.nsIn K mainGlobals "zip"=some none) (z13:PySem.W.nsIn K mainGlobals "all"=some none) (z14:PySem.W.nsIn K mainGlobals "any"=some none) (z15:PySem.W.nsIn K mainGlobals "enumerate"=some none) (z16:PySem.W.nsIn K mainGlobals "dict"=some none)  (o1:OneAt K "OPEN" UD) (ht1:PySem.W.tabIn K "early_by"=some (c1,T1)) (hh1:PySem.W.codeHdIn K c1 T1=true)  {tA tB tC:Tok} (gA:PySem.W.nsIn K mainGlobals "MOST_SIZE"=some (some (.int 400 tA))) (gB:PySem.W.nsIn K mainGlobals "MOST_LEVELS"=some (some (.int 60 tB))) (gC:PySem.W.nsIn K mainGlobals "MOST_MODES"=some (some (.int 200 tC))) (s1:K40c.StgK K):
 ∃fd:FuncData,(∀(s:Shared)(v:Value),BindsTo s fd ⟨[v],[]⟩ [("_law_script",v)])/\∀base:Heap,K.In base->base.Ns mainGlobals mg->X5 mg base->FnOk l.prog w K mg base CX0 53 fa fd ["_law_script"] (Lw K T1):=by
 have G:Gm mg:=⟨cE X N z1,cE X N z2,cE X N z3,cE X N z4,cE X N z5,cE X N z6,cE X N z7,cE X N z8,cE X N z9,cE X N z10,cE X N z11,cE X N z12,cE X N z13,cE X N z14,cE X N z15,cE X N z16⟩;have J:∀g:Heap,Cc l.prog w K mg g h:=λ_=>⟨X,N⟩;obtain⟨f,oc,od,kV,U,pm,an,Y,ct,aj,a,lk,c,kp⟩:=d46.ex;have e:=hfa.symm.trans (ef X N a);cases e;have F:=YX (st:=Gf) lk c kp;refine⟨PySem.W.fnOf "law" "law" (defArgs Gf) (defBody Gf) (defScope Gf) .none kV U pm an Y ct,λs v=>.of_eq rfl,λbase _ _ hB=>?_⟩;obtain⟨br,Z,M⟩:=o1.at X N;have rO:=d1.f1 (J base) λf fd F _ _=>K40c.ok_isO F;have rH:=d2.f1 (J base) λf fd F _ _=>K40c.ok_head F G;have rM:=d3.f2 (k:=6) (J base) (rr (s:=K40c.spMet K) (b:=1) (λ_ _ _ _ h=>by obtain⟨_,_,_,_,_,_,_,_,_,h,_⟩:=h;exact ns h) (λF R=>K40c.ok_met F G Z M rO rH R) 5);have aa:=d5.f1 (J base) λf fd F _ _=>K40c.ok_isC F;have ak:=d8.f1 (k:=5) (J base) (rr (s:=K40c.spCO K) (b:=1) (λ_ _ _ _ h=>by obtain⟨_,_,_,_,h,_⟩:=h;exact nl h) (λF R=>K40c.ok_co F G aa R) 4);have al:=d13.f2 (J base) λf fd F _ _=>K40c.ok_rowsOf F G;have ab:=d18.f2 (k:=5) (J base) (rr (s:=K40c.spRS K) (b:=1) (λ_ _ _ _ h=>by obtain⟨_,_,_,_,_,_,_,_,_,h,_⟩:=h;exact nl h) (λF R=>K40c.ok_rs F G Z M aa R) 4);have am:=d17.f3 (J base) λf fd F _ _=>K40c.ok_ls F G al ab rM;have ac:=d15.f1 (J base) λf fd F _ _=>K40c.ok_ar F G;have ao:=d16.f1 (J base) λf fd F _ _=>K40c.ok_cb F G ac ak;have ap:mg "MOST_SIZE"=some (.int 400 tA):=ef X N gA;have aq:mg "MOST_LEVELS"=some (.int 60 tB):=ef X N gB;have ar:mg "MOST_MODES"=some (.int 200 tC):=ef X N gC;obtain⟨C,MC⟩:=s1.m (P:=l.prog) (w:=w) (base:=base) X N G ao am ac rM ab;have L:=λg:Heap=>d5.f1 (J g) λf fd F _ _=>Tz F G;have ad:=λg:Heap=>d11.f2 (J g) λf fd F _ _=>A7 F G;have as:=λg:Heap=>d6.f1 (k:=11) (J g) (rr (s:=OE K) (b:=1) (λ_ _ _ _ h=>by obtain⟨_,_,_,_,h,_⟩:=h;exact nl h) (λF R=>A9 F G (L g) R) 10);have au:=λg:Heap=>d7.f1 (k:=11) (J g) (rr (s:=Pb K) (b:=1) (λ_ _ _ _ h=>by obtain⟨_,_,_,_,h,_⟩:=h;exact nl h) (λF R=>AS F G (L g) R) 10);have av:=λg:Heap=>d8.f1 (k:=11) (J g) (rr (s:=NB K) (b:=1) (λ_ _ _ _ h=>by obtain⟨_,_,_,_,h,_⟩:=h;exact nl h) (λF R=>AK F G (L g) R) 10);have ae:=λg:Heap=>d10.f2 (k:=11) (J g) (rr (s:=Gb l.prog w K) (b:=1) (λ_ _ _ _ h=>by obtain⟨_,_,_,_,_,_,h,_⟩:=h;exact nl h) (λF R=>BV F G (L g) (ad g) R) 10);have aw:=λg:Heap=>d12.f1 (J g) λf fd F _ _=>Rg F G;have ax:=λg:Heap=>d20.f3 (J g) λf fd F _ _=>AH F G (av g);have ay:=λg:Heap=>d21.f2 (J g) λf fd F _ _=>AT F G (ae g);have az:=λg:Heap=>d1.f1 (J g) λf fd F _ _=>K40c.ok_isO F;have a0:=λg:Heap=>d4.f2 (J g) λf fd F _ _=>BB F G;have a5:=λg:Heap=>d9.f2 (J g) λf fd F _ _=>BI F G (L g);have a6:=λg:Heap=>d27.f4 (k:=5) (J g) (rr (s:=JJ K) (b:=1) (λ_ _ _ _ h=>by obtain⟨_,_,_,_,_,_,_,_,_,h,_⟩:=h;exact ns h) (λF R=>Bx F G (az g) R) 4);have a7:=λg:Heap=>d26.f3 (k:=9) (J g) (rr (s:=M4 K) (b:=5) (λ_ _ _ _ h=>by obtain⟨_,_,_,_,_,_,_,_,_,_,h,_⟩:=h;exact nl h) (λF R=>Be F G (L g) (a6 g) (a0 g) (ad g) R) 4);have af:=λg:Heap=>d25.f3 (J g) λf fd F _ _=>AN F ap aq (a5 g) (a7 g) (as g) (au g);have a8:=λg:Heap=>d24.f3 (J g) λf fd F _ _=>AJ F G (af g);obtain⟨fA,bt,bu,bv,bo,bw,bx,bp,bz,bq,aA,a9,cA,ag⟩:=d19.ex;have ah:=YX (st:=Wn) a9 cA ag;have ba:=ef X N aA;have bA:Binds K _ ["wood","start","mode_by","most"] []:=ah.binds (λ_ _ _ _ _ _ us hl=>by obtain⟨a1,a2,a3,a4,rfl⟩:=ln4 hl;rfl);have FA:=λg:Heap=>Bt (P:=l.prog) (w:=w) (mg:=mg) (base:=g) (k:=14) (n:=10) ah G (ax g) (aw g) (ae g) (ay g);have ai:=d14.f1 (J base) λf fd F _ _=>K40c.ok_cm F G MC;have bb:Fn l.prog w K mg base 40 "early_by" ["turning","stumps"] (Tw K T1):=by
  obtain⟨f,oc,od,kV,U,pm,an,Y,ct,aj,a,lk,c,kp⟩:=d23.ex;have F:=YX (st:=sEB) lk c kp;have hb:Binds K _ ["turning","stumps"] []:=F.binds λ_ _ _ _ _ _ us hl=>by obtain⟨a1,a2,rfl⟩:=ln2 hl;rfl
  exact⟨f,_,AU F a ht1 hh1 hB (af base) ar FA ba ag bA a8,hb,kp,ef X N a⟩
 have bc:=d22.f1 (J base) λf fd F _ _=>AY F ai bb;have rC:=d28.f2 (J base) λf fd F _ _=>RV F G;have rS:=d29.f2 (J base) λf fd F _ _=>L4 F G;have rN:=d30.f2 (J base) λf fd F _ _=>NZ F G;have rW:=d31.f1 (J base) λf fd F _ _=>R4 F G rC rS rN;have rR:=d32.f2 (J base) λf fd F _ _=>Rb F;have rL:=d33.f2 (J base) λf fd F _ _=>Nd F G;have rT:=d34.f5 (k:=4) (J base) (rr (s:=Ul K) (b:=1) (λ_ _ _ _ h=>by obtain⟨_,_,_,_,_,_,_,_,_,_,_,_,_,_,_,_,_,_,_,_,_,_,h0,_⟩:=h;lia) (λF R=>PQ F G R) 3);have rU:=d35.f1 (k:=4) (J base) (rr (s:=Xu K) (b:=0) (λ_ _ _ _ h=>by obtain⟨_,_,_,_,_,_,h,_⟩:=h;exact nl h) (λF R=>T4 F G R) 4);have bd:=d36.f2 (J base) λf fd F _ _=>R8 F G rC rS rN rR rL rT rU;have rA:=d37.f1 (J base) λf fd F _ _=>O9 F G;have be:=d38.f1 (J base) λf fd F _ _=>A1 F G;have bf:=d39.f3 (k:=9) (J base) (rr (s:=WA K) (b:=1) (λ_ _ _ _ h=>by obtain⟨_,_,_,_,_,_,_,_,h,_⟩:=h;exact nl h) (λF R=>Al F G be R) 8);have bg:=d40.f2 (J base) λf fd F _ _=>PM F G rR bf;have rIn:=d41.f4 (k:=5) (J base) (rr (s:=JJ K) (b:=1) (λ_ _ _ _ h=>by obtain⟨_,_,_,_,_,_,_,_,_,h,_⟩:=h;exact ns h) (λF R=>Th F G R) 4);have bh:=d42.f2 (k:=9) (J base) (rr (s:=XO K) (b:=5) (λ_ _ _ _ h=>by obtain⟨_,_,_,_,_,_,_,h,_⟩:=h;exact nl h) (λF R=>Av F G rIn R) 4);have bi:=d43.f2 (J base) λf fd F _ _=>TQ F G;have bj:=d44.f2 (k:=11) (J base) (rr (s:=XE K) (b:=1) (λ_ _ _ _ h=>by obtain⟨_,_,_,_,_,_,_,h,_⟩:=h;exact nl h) (λF R=>Ai F G R) 10);have bn:=d45.f2 (J base) λf fd F _ _=>SX F G bj bh bi;exact T9 F G rW bd rA bc bn ai bg
theorem walk{l:PySem.W.OpenLaw}{q:Program}{d:DefRec}{K:Params->Fg}(hn:l.most=some 63)(hdf:d.params.defaults=[])
 (hY:∀(w:World)(h:Heap),YP w h->(K w.params).In h) (tb1:∀w:World,TabAt q (K w.params) "early_by" c1 T1)
 (F:∀(w:World)(mg:Str->Option Value)(fa:Addr)(h:Heap),(K w.params).In h->h.Ns mainGlobals mg->mg d.name=some (.ref fa)->
  ∃fd:FuncData,(∀(s:Shared)(u:Value),BindsTo s fd ⟨[u],[]⟩ [("_law_script",u)])/\∀base:Heap,(K w.params).In base->base.Ns mainGlobals mg->X5 mg base->FnOk l.prog w (K w.params) mg base CX0 53 fa fd ["_law_script"] (Lw (K w.params) T1)):
 PySem.W.WalkO q loose XP YP l.row.toRowW d [] (λf vs=>PySem.call f vs):=
 L2.walk_ofT (n:=63) (k:=53) (x:="_law_script") (tabs:=[("early_by",c1,T1)]) (sp:=λw=>Lw (K w.params) T1) hn (12:) hdf ⟨rfl,by decide,by decide⟩ hY (λw p hp=>by
  simp only [aM,List.not_mem_nil,bP]at hp;rcases hp with rfl
  .exact tb1 w) F (λ_ _ a ns G J L=>⟨a,ns,rfl,J,G,L ("early_by",c1,T1) (16:),λ_=>rfl⟩)
end K40
section
open PySem
def K40.vS(x:String)(n:Nat):Value:=.str (gW x) n
def K40.mN:Value:=.str (gW "law_turnery_k40_early_told") 498
def K40.vR(a:Nat):Value:=.ref a
def K40.vI(i:Int)(n:Nat):Value:=.int i n
def K40.hE(P:Params)(x:String)(n:Nat)(v:Value):DictEntry:=⟨PyData.keyHash P (gW x),.str (gW x) n,v⟩
def K40.vN:Value:=.none
def K40.vF:Value:=.type "function"
def K40.vT:Value:=.bool true
def K40.i0:Value:=.int 0 0
def K40.i3:Value:=.int 3 0
def K40.i1:Value:=.int 181 0
def K40.cP(k:Nat):Value:=.str (gW "/claim/cut.py") k
def K40.oT(x:Array Value):Obj:=Obj.mk (Value.type "tuple") none (Data.seq x) #[]
def K40.oC(x:Array Value):Obj:=Obj.mk (Value.type "code") none (Data.fields x) #[]
def K40.oD(n q:String)(a:Nat)(b c:Int)(d e:Nat):Obj:=oC #[vS n a,vS q (a+1),cP (a+2),vI b 0,vI c 0,i0,i0,i3,vR d,vT,i1,vR (d+1),vN,vR (d+2),vR (d+3),vR (d+4),vI (Int.ofNat e) 0,vI b 0,cP (e+1)]
def K40.oZ(n q:String)(a:Nat)(b c:Int)(d e f:Nat):Obj:=oC #[vS n a,vS q (a+1),cP (a+2),vI b 0,vI c 0,i0,i0,i3,vR d,vT,i1,vR (d+1),vN,vN,vN,vR f,vI (Int.ofNat e) 0,vI b 0,cP (e+1)]
def K40.oF(c:Value)(x y:String)(s:Stmt)(k:Nat)(pm cd:Value):Obj:=Obj.mk c none (Data.func (FuncData.mk (gW x) (gW y) (L2.defArgs s) (.stmts (L2.defBody s)) (L2.defScope s) k [] Value.none Value.none Value.none pm none cd Value.none 0)) #[]
open K40
def K40.oE:Obj:={ cls:=vN,data:=Data.fields #[] }
def K40.o1(n:String)(a:Nat)(b c:Int)(d e:Nat):gS->gU:=λ_=>oD n n a b c d e
def K40.o2(n:String)(a:Nat)(b c:Int)(d e f:Nat):gS->gU:=λ_=>oZ n n a b c d e f
def K40.oL(n:String)(i:Nat)(m:Value)(j:Nat):gS->gU:=λ_=>oF vF n n (top i) 3 m (vR j)
def K40.oN(n:String)(i:Nat):gS->gU:=λ_=>oF vN n n (top i) 0 vN vN
def K40.l3(P:gS):List DictEntry:=[hE P "__doc__" 166 vN,hE P "__package__" 167 vN,hE P "__loader__" 168 (Value.builtin "__main__.__loader__#opaque"),hE P "__spec__" 169 vN,hE P "__annotations__" 170 (vR 6),hE P "__builtins__" 171 (vR 4),hE P "__file__" 173 (cP 172),hE P "__cached__" 174 vN,hE P "OPEN" 190 (vR 15),hE P "is_open" 197 (vR 22),hE P "head" 204 (vR 29),hE P "met" 210 (vR 34),hE P "stump_at" 220 (vR 41),hE P "is_call" 229 (vR 48),hE P "term_size" 235 (vR 53),hE P "term_levels" 241 (vR 58),hE P "calls_of" 250 (vR 65),hE P "down_to" 261 (vR 72),hE P "with_modes" 267 (vR 77),hE P "with_parts" 275 (vR 84),hE P "TurnError" 295 (vR 94),hE P "TooGreat" 311 (vR 107),hE P "own_wood" 319 (vR 114),hE P "rows_of" 327 (vR 121),hE P "commons" 337 (vR 128),hE P "Stages" 386 (vR 157),hE P "all_rules" 392 (vR 166),hE P "callers_by_modes" 398 (vR 171),hE P "leaf_stump" 404 (vR 176),hE P "rule_stump" 410 (vR 181),hE P "as_met" 418 (vR 186),hE P "number_calls" 429 (vR 193),hE P "numbered_mode" 435 (vR 198),hE P "MOST_MODES" 439 (vI 200 438),hE P "MOST_SIZE" 441 (vI 400 440),hE P "MOST_LEVELS" 443 (vI 60 442),hE P "early" 450 (vR 205),hE P "early_by" 461 (vR 212),hE P "early_mode" 467 (vR 217),hE P "early_term" 478 (vR 224),hE P "stumps_in" 484 (vR 229),hE P "stump_term" 497 (vR 236),hE P "_law_cell_at" 507 (vR 243),hE P "_law_stream" 518 (vR 250),hE P "_law_names" 534 (vR 257),hE P "_law_wood" 551 (vR 264),hE P "_law_rows" 561 (vR 271),hE P "_law_calls" 572 (vR 278),hE P "_law_term" 578 (vR 283),hE P "_law_unkept" 584 (vR 288),hE P "_law_turning" 590 (vR 293),hE P "_law_again" 596 (vR 298),hE P "_law_is_whole" 603 (vR 305),hE P "_law_is_term" 609 (vR 310),hE P "_law_is_turning" 622 (vR 317),hE P "_law_in_stump" 628 (vR 322),hE P "_law_filled" 634 (vR 327),hE P "_law_below" 643 (vR 334),hE P "_law_numbered" 649 (vR 339),hE P "_law_early" 655 (vR 344),hE P "law" 670 (vR 351)]
def K40.x3(P:gS):gU:=Obj.mk (Value.type "dict") none (Data.dict (hE P "__name__" 165 mN::l3 P).toArray 62) #[]
def K40.x21:=o1 "is_open" 191 3 1 16 195
def K40.x22:=oL "is_open" 2 (vS "turnery.stumps" 187) 21
def K40.x28:=o1 "head" 198 5 1 23 202
def K40.x29:=oL "head" 3 (vS "turnery.stumps" 187) 28
def K40.x33:=o2 "met" 205 7 2 30 208 32
def K40.x34:=oL "met" 4 (vS "turnery.stumps" 187) 33
def K40.x37(P:gS):gU:=oT #[vS "stump" 214,vS "place" 215,vS "here" 216,vS "number" 217]
def K40.x40:=o1 "stump_at" 211 11 2 35 218
def K40.x41:=oL "stump_at" 5 (vS "turnery.stumps" 187) 40
def K40.x47:=o1 "is_call" 223 17 1 42 227
def K40.x48:=oL "is_call" 7 (vS "turnery.terms" 221) 47
def K40.x52:=o2 "term_size" 230 19 1 49 233 51
def K40.x53:=oL "term_size" 8 (vS "turnery.terms" 221) 52
def K40.x57:=o2 "term_levels" 236 23 1 54 239 56
def K40.x58:=oL "term_levels" 9 (vS "turnery.terms" 221) 57
def K40.x61(P:gS):gU:=oT #[vS "term" 245,vS "told" 246,vS "part" 247]
def K40.x64:=o1 "calls_of" 242 27 1 59 248
def K40.x65:=oL "calls_of" 10 (vS "turnery.terms" 221) 64
def K40.x68(P:gS):gU:=oT #[vS "term" 254,vS "place" 255,vS "here" 256,vS "gone" 257,vS "number" 258]
def K40.x71:=o1 "down_to" 251 34 2 66 259
def K40.x72:=oL "down_to" 11 (vS "turnery.terms" 221) 71
def K40.x76:=o2 "with_modes" 262 41 2 73 265 75
def K40.x77:=oL "with_modes" 12 (vS "turnery.terms" 221) 76
def K40.x83:=o1 "with_parts" 268 45 2 78 273
def K40.x84:=oL "with_parts" 13 (vS "turnery.terms" 221) 83
def K40.x93(P:gS):gU:=Obj.mk (Value.type "dict") none (Data.dict #[hE P "__module__" 285 (vS "turnery.errors" 276),hE P "__firstlineno__" 289 (vI 48 288),hE P "__static_attributes__" 290 (vR 92),hE P "__weakref__" 292 (vR 95),hE P "__doc__" 293 vN] 3) #[]
def K40.x94(P:gS):gU:=Obj.mk (Value.type "type") none (Data.cls (ClassData.mk (gW "TurnError") [Value.type "ValueError"] [vR 94,Value.type "ValueError",Value.type "Exception",Value.type "BaseException",Value.type "object"] 93 (gW "TurnError") true [] [vR 107] false none false)) #[some (vR 85),none,some (vS "TurnError" 278),some (vS "TurnError" 286),some (Value.builtin "ValueError.__new__"),some (Value.bool true)]
def K40.x95(P:gS):gU:=Obj.mk (Value.type "getset_descriptor") none (Data.fields #[vS "__weakref__" 291,vR 94,Value.builtin "ExceptionGroup.__weakref__",vN]) #[]
def K40.x106(P:gS):gU:=Obj.mk (Value.type "dict") none (Data.dict #[hE P "__module__" 303 (vS "turnery.errors" 276),hE P "__firstlineno__" 307 (vI 50 306),hE P "__static_attributes__" 308 (vR 105),hE P "__doc__" 309 vN] 2) #[]
def K40.x107(P:gS):gU:=Obj.mk (Value.type "type") none (Data.cls (ClassData.mk (gW "TooGreat") [vR 94] [vR 107,vR 94,Value.type "ValueError",Value.type "Exception",Value.type "BaseException",Value.type "object"] 106 (gW "TooGreat") true [] [] false none false)) #[some (vR 98),none,some (vS "TooGreat" 296),some (vS "TooGreat" 304),some (Value.builtin "ValueError.__new__"),some (Value.bool true)]
def K40.x113:=o2 "own_wood" 314 53 1 110 317 112
def K40.x114:=oL "own_wood" 18 (vS "turnery.woods" 312) 113
def K40.x120:=o1 "rows_of" 320 55 2 115 325
def K40.x121:=oL "rows_of" 19 (vS "turnery.woods" 312) 120
def K40.x127:=o1 "commons" 330 58 1 122 335
def K40.x128:=oL "commons" 21 (19:) 127
def K40.x139(P:gS):gU:=oZ "__init__" "Stages.__init__" 350 65 2 136 353 138
def K40.x140(P:gS):gU:=oF vF "__init__" "Stages.__init__" (L2.inClass (top 22) 0) 3 (19:) (vR 139)
def K40.x146(P:gS):gU:=oD "is_last" "Stages.is_last" 356 71 1 141 360
def K40.x147(P:gS):gU:=oF vF "is_last" "Stages.is_last" (L2.inClass (top 22) 1) 3 (19:) (vR 146)
def K40.x150(P:gS):gU:=oT #[vS "self" 366,vS "stumps" 367,vS "mode" 368,vS "number" 369,vS "callers" 370,vS "stump" 371]
def K40.x153(P:gS):gU:=oD "go_on" "Stages.go_on" 363 74 1 148 372
def K40.x154(P:gS):gU:=oF vF "go_on" "Stages.go_on" (L2.inClass (top 22) 2) 3 (19:) (vR 153)
def K40.x155(P:gS):gU:=oT #[vS "callers" 375,vS "modes" 376,vS "stumps" 377,vS "waiting" 378]
def K40.x156(P:gS):gU:=Obj.mk (Value.type "dict") none (Data.dict #[hE P "__module__" 345 (19:),hE P "__firstlineno__" 349 (vI 63 348),hE P "__init__" 355 (vR 140),hE P "is_last" 362 (vR 147),hE P "go_on" 374 (vR 154),hE P "__static_attributes__" 379 (vR 155),hE P "__dict__" 381 (vR 158),hE P "__weakref__" 383 (vR 159),hE P "__doc__" 384 vN] 4) #[]
def K40.x157(P:gS):gU:=Obj.mk (Value.type "type") none (Data.cls (ClassData.mk (gW "Stages") [Value.type "object"] [vR 157,Value.type "object"] 156 (gW "Stages") true [] [] false none false)) #[none,none,some (vS "Stages" 338),some (vS "Stages" 346),some (Value.builtin "object.__new__"),some (Value.bool true)]
def K40.x158(P:gS):gU:=Obj.mk (Value.type "getset_descriptor") none (Data.fields #[vS "__dict__" 380,vR 157,Value.builtin "function.__dict__",Value.builtin "function.__dict__#set"]) #[]
def K40.x159(P:gS):gU:=Obj.mk (Value.type "getset_descriptor") none (Data.fields #[vS "__weakref__" 382,vR 157,Value.builtin "ExceptionGroup.__weakref__",vN]) #[]
def K40.x165:=o2 "all_rules" 387 84 1 162 390 164
def K40.x166:=oL "all_rules" 23 (19:) 165
def K40.x170:=o2 "callers_by_modes" 393 89 1 167 396 169
def K40.x171:=oL "callers_by_modes" 24 (19:) 170
def K40.x175:=o2 "leaf_stump" 399 95 3 172 402 174
def K40.x176:=oL "leaf_stump" 25 (19:) 175
def K40.x180:=o2 "rule_stump" 405 101 2 177 408 179
def K40.x181:=oL "rule_stump" 26 (19:) 180
def K40.x185:=o2 "as_met" 413 108 4 182 416 184
def K40.x186:=oL "as_met" 28 (vS "turnery.numbering" 411) 185
def K40.x189(P:gS):gU:=oT #[vS "numbers" 422,vS "term" 423,vS "most" 424,vS "mode" 425,vS "branch" 426]
def K40.x192:=o1 "number_calls" 419 119 3 187 427
def K40.x193:=oL "number_calls" 29 (vS "turnery.numbering" 411) 192
def K40.x197:=o2 "numbered_mode" 430 125 2 194 433 196
def K40.x198:=oL "numbered_mode" 30 (vS "turnery.numbering" 411) 197
def K40.x204:=o1 "early" 444 131 1 199 448
def K40.x205:=oL "early" 35 (vS "turnery.early" 436) 204
def K40.x208(P:gS):gU:=oT #[vS "turning" 454,vS "stumps" 455,vS "start" 456]
def K40.x211:=o1 "early_by" 451 133 2 206 459
def K40.x212:=oL "early_by" 36 (vS "turnery.early" 436) 211
def K40.x216:=o2 "early_mode" 462 136 3 213 465 215
def K40.x217:=oL "early_mode" 37 (vS "turnery.early" 436) 216
def K40.x220(P:gS):gU:=oT #[vS "term" 471,vS "place" 472,vS "stumps" 473,vS "found" 474,vS "told" 475]
def K40.x223:=o1 "early_term" 468 139 3 218 476
def K40.x224:=oL "early_term" 38 (vS "turnery.early" 436) 223
def K40.x228:=o2 "stumps_in" 479 147 3 225 482 227
def K40.x229:=oL "stumps_in" 39 (vS "turnery.early" 436) 228
def K40.x232(P:gS):gU:=oT #[vS "stump" 488,vS "mode" 489,vS "place" 490,vS "branch" 491,vS "parts" 492,vS "number" 493,vS "part" 494]
def K40.x235:=o1 "stump_term" 485 151 4 230 495
def K40.x236:=oL "stump_term" 40 (vS "turnery.early" 436) 235
def K40.x239(P:gS):gU:=oT #[vS "_law_script" 503,vS "_law_k" 504]
def K40.x242:=o1 "_law_cell_at" 500 159 2 237 505
def K40.x243:=oL "_law_cell_at" 42 mN 242
def K40.x246(P:gS):gU:=oT #[vS "_law_cell" 511,vS "_law_count" 512,vS "_law_found" 513,vS "_law_x" 514,vS "_law_k" 515]
def K40.x249:=o1 "_law_stream" 508 163 2 244 516
def K40.x250:=oL "_law_stream" 43 mN 249
def K40.x253(P:gS):gU:=oT #[vS "_law_cell" 522,vS "_law_count" 523,vS "_law_letters" 524,vS "_law_long" 525,vS "_law_spot" 526,vS "_law_found" 527,vS "_law_k" 528,vS "_law_name" 529,vS "_law_j" 530,vS "_law_step" 531]
def K40.x256:=o1 "_law_names" 519 170 2 251 532
def K40.x257:=oL "_law_names" 44 mN 256
def K40.x260(P:gS):gU:=oT #[vS "_law_script" 538,vS "_law_names_here" 539,vS "_law_xs" 540,vS "_law_kinds" 541,vS "_law_wood_here" 542,vS "_law_kind" 543,vS "_law_first" 544,vS "_law_rows_here" 545,vS "_law_k" 546,vS "_law_branches" 547,vS "_law_j" 548]
def K40.x263:=o1 "_law_wood" 535 184 1 258 549
def K40.x264:=oL "_law_wood" 45 mN 263
def K40.x267(P:gS):gU:=oT #[vS "_law_wood_here" 555,vS "_law_kind" 556,vS "_law_told" 557,vS "_law_rows_here" 558]
def K40.x270:=o1 "_law_rows" 552 199 2 265 559
def K40.x271:=oL "_law_rows" 46 mN 270
def K40.x274(P:gS):gU:=oT #[vS "_law_branches" 565,vS "_law_kinds" 566,vS "_law_found" 567,vS "_law_j" 568,vS "_law_k" 569]
def K40.x277:=o1 "_law_calls" 562 204 2 272 570
def K40.x278:=oL "_law_calls" 47 mN 277
def K40.x282:=o2 "_law_term" 573 211 5 279 576 281
def K40.x283:=oL "_law_term" 48 mN 282
def K40.x287:=o2 "_law_unkept" 579 220 1 284 582 286
def K40.x288:=oL "_law_unkept" 49 mN 287
def K40.x292:=o2 "_law_turning" 585 224 2 289 588 291
def K40.x293:=oL "_law_turning" 50 mN 292
def K40.x297:=o2 "_law_again" 591 242 1 294 594 296
def K40.x298:=oL "_law_again" 51 mN 297
def K40.x304:=o1 "_law_is_whole" 597 245 1 299 601
def K40.x305:=oL "_law_is_whole" 52 mN 304
def K40.x309:=o2 "_law_is_term" 604 247 3 306 607 308
def K40.x310:=oL "_law_is_term" 53 mN 309
def K40.x313(P:gS):gU:=oT #[vS "_law_found" 613,vS "_law_wood_here" 614,vS "_law_mode" 615,vS "_law_kind" 616,vS "_law_rules" 617,vS "_law_row" 618,vS "_law_rule" 619]
def K40.x316:=o1 "_law_is_turning" 610 261 2 311 620
def K40.x317:=oL "_law_is_turning" 54 mN 316
def K40.x321:=o2 "_law_in_stump" 623 276 4 318 626 320
def K40.x322:=oL "_law_in_stump" 55 mN 321
def K40.x326:=o2 "_law_filled" 629 281 2 323 632 325
def K40.x327:=oL "_law_filled" 56 mN 326
def K40.x330(P:gS):gU:=oT #[vS "_law_term_here" 638,vS "_law_place" 639,vS "_law_k" 640]
def K40.x333:=o1 "_law_below" 635 285 2 328 641
def K40.x334:=oL "_law_below" 57 mN 333
def K40.x338:=o2 "_law_numbered" 644 289 2 335 647 337
def K40.x339:=oL "_law_numbered" 58 mN 338
def K40.x343:=o2 "_law_early" 650 295 2 340 653 342
def K40.x344:=oL "_law_early" 59 mN 343
def K40.x347(P:gS):gU:=oT #[vS "_law_script" 659,vS "_law_wood_here" 660,vS "_law_turning_here" 661,vS "_law_handed" 662,vS "_law_found" 663,vS "_law_due" 664,vS "_law_kind" 665,vS "_law_rows_here" 666,vS "_law_rules" 667]
def K40.x350:=o1 "law" 656 305 1 345 668
def K40.x351(P:gS):gU:=oF vF "law" "law" (L2.inClass (top 22) 0) 3 mN (vR 350)
def K40.hp:Params->Fg:=λP=>[(2,Obj.mk vN none (Data.dict #[]) #[]),(3,x3 P),(15,oT #[vS "open" 189]),(16,oT #[]),(18,oT #[vS "stump" 194]),(19,oT #[]),(21,x21 P),(22,x22 P),(23,oT #[]),(25,oT #[vS "stump" 201]),(26,oT #[]),(28,x28 P),(29,x29 P),(30,oT #[]),(33,x33 P),(34,x34 P),(35,oT #[]),(37,x37 P),(38,oT #[]),(40,x40 P),(41,x41 P),(42,oT #[]),(44,oT #[vS "term" 226]),(45,oT #[]),(47,x47 P),(48,x48 P),(49,oT #[]),(52,x52 P),(53,x53 P),(54,oT #[]),(57,x57 P),(58,x58 P),(59,oT #[]),(61,x61 P),(62,oT #[]),(64,x64 P),(65,x65 P),(66,oT #[]),(68,x68 P),(69,oT #[]),(71,x71 P),(72,x72 P),(73,oT #[]),(76,x76 P),(77,x77 P),(78,oT #[]),(80,oT #[vS "term" 271,vS "parts" 272]),(81,oT #[]),(83,x83 P),(84,x84 P),(85,oT #[Value.type "ValueError"]),(92,oT #[]),(93,x93 P),(94,x94 P),(95,x95 P),(98,oT #[vR 94]),(105,oT #[]),(106,x106 P),(107,x107 P),(110,oT #[]),(113,x113 P),(114,x114 P),(115,oT #[]),(117,oT #[vS "wood" 323,vS "kind" 324]),(118,oT #[]),(120,x120 P),(121,x121 P),(122,oT #[]),(124,oT #[vS "turning" 333,vS "stages" 334]),(125,oT #[]),(127,x127 P),(128,x128 P),(136,oT #[]),(139,x139 P),(140,x140 P),(141,oT #[]),(143,oT #[vS "self" 359]),(144,oT #[]),(146,x146 P),(147,x147 P),(148,oT #[]),(150,x150 P),(151,oT #[]),(153,x153 P),(154,x154 P),(155,x155 P),(156,x156 P),(157,x157 P),(158,x158 P),(159,x159 P),(162,oT #[]),(165,x165 P),(166,x166 P),(167,oT #[]),(170,x170 P),(171,x171 P),(172,oT #[]),(175,x175 P),(176,x176 P),(177,oT #[]),(180,x180 P),(181,x181 P),(182,oT #[]),(185,x185 P),(186,x186 P),(187,oT #[]),(189,x189 P),(190,oT #[]),(192,x192 P),(193,x193 P),(194,oT #[]),(197,x197 P),(198,x198 P),(199,oT #[]),(201,oT #[vS "turning" 447]),(202,oT #[]),(204,x204 P),(205,x205 P),(206,oT #[]),(208,x208 P),(209,oT #[vS "turning" 457,vS "stumps" 458]),(211,x211 P),(212,x212 P),(213,oT #[]),(216,x216 P),(217,x217 P),(218,oT #[]),(220,x220 P),(221,oT #[]),(223,x223 P),(224,x224 P),(225,oT #[]),(228,x228 P),(229,x229 P),(230,oT #[]),(232,x232 P),(233,oT #[]),(235,x235 P),(236,x236 P),(237,oT #[]),(239,x239 P),(240,oT #[]),(242,x242 P),(243,x243 P),(244,oT #[]),(246,x246 P),(247,oT #[]),(249,x249 P),(250,x250 P),(251,oT #[]),(253,x253 P),(254,oT #[]),(256,x256 P),(257,x257 P),(258,oT #[]),(260,x260 P),(261,oT #[]),(263,x263 P),(264,x264 P),(265,oT #[]),(267,x267 P),(268,oT #[]),(270,x270 P),(271,x271 P),(272,oT #[]),(274,x274 P),(275,oT #[]),(277,x277 P),(278,x278 P),(279,oT #[]),(282,x282 P),(283,x283 P),(284,oT #[]),(287,x287 P),(288,x288 P),(289,oT #[]),(292,x292 P),(293,x293 P),(294,oT #[]),(297,x297 P),(298,x298 P),(299,oT #[]),(301,oT #[vS "_law_found" 600]),(302,oT #[]),(304,x304 P),(305,x305 P),(306,oT #[]),(309,x309 P),(310,x310 P),(311,oT #[]),(313,x313 P),(314,oT #[]),(316,x316 P),(317,x317 P),(318,oT #[]),(321,x321 P),(322,x322 P),(323,oT #[]),(326,x326 P),(327,x327 P),(328,oT #[]),(330,x330 P),(331,oT #[]),(333,x333 P),(334,x334 P),(335,oT #[]),(338,x338 P),(339,x339 P),(340,oT #[]),(343,x343 P),(344,x344 P),(345,oT #[]),(347,x347 P),(348,oT #[]),(350,x350 P),(351,x351 P)]
end
def PySem.W.Fast.tw10423076509916659321:PySem.Params->Fg:=K40.hp
def PySem.W.Fast.te10423076509916659321:=@rfl _ PySem.W.Fast.tw10423076509916659321
namespace PySem.W.Fast
open PySem K40
def tw17384292835049330822:=oN "is_open" 2
def te17384292835049330822:=@rfl _ tw17384292835049330822
def tw4136268226344495962:=oN "is_call" 7
def te4136268226344495962:=@rfl _ tw4136268226344495962
def tw7733847926230924045:=x121
def te7733847926230924045:=@rfl _ tw7733847926230924045
def tw897640378317833811:=x181
def te897640378317833811:=@rfl _ tw897640378317833811
def tw306239653698664336:=x243
def te306239653698664336:=@rfl _ tw306239653698664336
def tw14060086500214875434:=x278
def te14060086500214875434:=@rfl _ tw14060086500214875434
def tw18110526971217182356:=oN "_law_again" 51
def te18110526971217182356:=@rfl _ tw18110526971217182356
def tw4326270842302615498:=oN "_law_cell_at" 42
def te4326270842302615498:=@rfl _ tw4326270842302615498
def tw9054357134803814469:=oN "_law_calls" 47
def te9054357134803814469:=@rfl _ tw9054357134803814469
def tw16084840308021431187:=oN "head" 3
def te16084840308021431187:=@rfl _ tw16084840308021431187
def tw7180167093926161252:=oN "numbered_mode" 30
def te7180167093926161252:=@rfl _ tw7180167093926161252
def tw16544961786058409221:=x317
def te16544961786058409221:=@rfl _ tw16544961786058409221
def tw16482551895505887952:=oN "_law_is_whole" 52
def te16482551895505887952:=@rfl _ tw16482551895505887952
def tw17463956055251687079:=oN "early_by" 36
def te17463956055251687079:=@rfl _ tw17463956055251687079
def tw10508248035858793914:=oN "_law_in_stump" 55
def te10508248035858793914:=@rfl _ tw10508248035858793914
def tw7811716112400265491:=oN "early_term" 38
def te7811716112400265491:=@rfl _ tw7811716112400265491
def tw8413688913037413236:=oN "commons" 21
def te8413688913037413236:=@rfl _ tw8413688913037413236
def tw4293254370620730304:=oN "_law_is_turning" 54
def te4293254370620730304:=@rfl _ tw4293254370620730304
def tw14518636551505322543:=oN "term_levels" 9
def te14518636551505322543:=@rfl _ tw14518636551505322543
def tw15153457198319903899:=x198
def te15153457198319903899:=@rfl _ tw15153457198319903899
def tw4739912374936735073:=x48
def te4739912374936735073:=@rfl _ tw4739912374936735073
def tw11627514406296959329:=oN "_law_numbered" 58
def te11627514406296959329:=@rfl _ tw11627514406296959329
def tw3037043091181154086:=x186
def te3037043091181154086:=@rfl _ tw3037043091181154086
def tw11557218948539819088:=oN "as_met" 28
def te11557218948539819088:=@rfl _ tw11557218948539819088
def tw3873823089256375951:gS->gU:=λP=>oF vN "go_on" "Stages.go_on" (L2.inClass (top 22) 2) 0 vN vN
def te3873823089256375951:=@rfl _ tw3873823089256375951
def tw243488541076455470:=oN "_law_term" 48
def te243488541076455470:=@rfl _ tw243488541076455470
def tw9194424104636033646:=oN "stump_term" 40
def te9194424104636033646:=@rfl _ tw9194424104636033646
def tw18129234450002693201:=oN "_law_wood" 45
def te18129234450002693201:=@rfl _ tw18129234450002693201
def tw17530256478592675514:=oN "_law_early" 59
def te17530256478592675514:=@rfl _ tw17530256478592675514
def tw5509107301726109160:=x271
def te5509107301726109160:=@rfl _ tw5509107301726109160
def tw8936585343056371759:=x322
def te8936585343056371759:=@rfl _ tw8936585343056371759
def tw12345258776484834792:=x128
def te12345258776484834792:=@rfl _ tw12345258776484834792
def tw4691242336883094644:=x176
def te4691242336883094644:=@rfl _ tw4691242336883094644
def tw7488762602093484424:=x293
def te7488762602093484424:=@rfl _ tw7488762602093484424
def tw13494936235566698139:=x283
def te13494936235566698139:=@rfl _ tw13494936235566698139
def tw12070768988838472887:=x65
def te12070768988838472887:=@rfl _ tw12070768988838472887
def tw2911836940590067508:=x310
def te2911836940590067508:=@rfl _ tw2911836940590067508
def tw11738052427362843916:=x58
def te11738052427362843916:=@rfl _ tw11738052427362843916
def tw16516205938109698768:gS->gU:=λP=>oF vN "law" "law" (L2.inClass (top 22) 0) 0 vN vN
def te16516205938109698768:=@rfl _ tw16516205938109698768
def tw15887187104813435996:=oN "term_size" 8
def te15887187104813435996:=@rfl _ tw15887187104813435996
def tw10482430542251093623:=oN "met" 4
def te10482430542251093623:=@rfl _ tw10482430542251093623
def tw6607858454721068349:=oN "early" 35
def te6607858454721068349:=@rfl _ tw6607858454721068349
def tw14548436191333822866:=oN "_law_rows" 46
def te14548436191333822866:=@rfl _ tw14548436191333822866
def tw2721905733850791461:=x77
def te2721905733850791461:=@rfl _ tw2721905733850791461
def tw302163012825785666:=x166
def te302163012825785666:=@rfl _ tw302163012825785666
def tw2180607311551198954:=x53
def te2180607311551198954:=@rfl _ tw2180607311551198954
def tw11301929831041413149:gS->gU:=λP=>oF vN "is_last" "Stages.is_last" (L2.inClass (top 22) 1) 0 vN vN
def te11301929831041413149:=@rfl _ tw11301929831041413149
def tw6560057461171261321:=oN "calls_of" 10
def te6560057461171261321:=@rfl _ tw6560057461171261321
def tw16856762610230418453:=x305
def te16856762610230418453:=@rfl _ tw16856762610230418453
def tw3874724821540454684:=oN "rows_of" 19
def te3874724821540454684:=@rfl _ tw3874724821540454684
def tw806720889772799257:=oN "callers_by_modes" 24
def te806720889772799257:=@rfl _ tw806720889772799257
def tw17525364488514649613:=x84
def te17525364488514649613:=@rfl _ tw17525364488514649613
def tw10779457153954099280:=x147
def te10779457153954099280:=@rfl _ tw10779457153954099280
def tw8747322704310962941:=x34
def te8747322704310962941:=@rfl _ tw8747322704310962941
def tw15513622341159551565:=x236
def te15513622341159551565:=@rfl _ tw15513622341159551565
def tw6315803739817396292:=x250
def te6315803739817396292:=@rfl _ tw6315803739817396292
def tw13541708524580718707:=oN "rule_stump" 26
def te13541708524580718707:=@rfl _ tw13541708524580718707
def tw12216556219417271523:=oN "leaf_stump" 25
def te12216556219417271523:=@rfl _ tw12216556219417271523
def tw3095300673341666529:=oN "with_parts" 13
def te3095300673341666529:=@rfl _ tw3095300673341666529
def tw12068040077002041873:=oN "own_wood" 18
def te12068040077002041873:=@rfl _ tw12068040077002041873
def tw9461544469448110811:=x140
def te9461544469448110811:=@rfl _ tw9461544469448110811
def tw17107157916032365576:=x334
def te17107157916032365576:=@rfl _ tw17107157916032365576
def tw3566432318685469700:=x72
def te3566432318685469700:=@rfl _ tw3566432318685469700
def tw11273117683891450294:=x288
def te11273117683891450294:=@rfl _ tw11273117683891450294
def tw9488053887859137547:=x114
def te9488053887859137547:=@rfl _ tw9488053887859137547
def tw14951158198278404126:=x257
def te14951158198278404126:=@rfl _ tw14951158198278404126
def tw17643295387204629737:=oN "_law_unkept" 49
def te17643295387204629737:=@rfl _ tw17643295387204629737
def tw8103623648377247859:=oN "_law_below" 57
def te8103623648377247859:=@rfl _ tw8103623648377247859
def tw15347834781418125249:=x212
def te15347834781418125249:=@rfl _ tw15347834781418125249
def tw13344090535295507526:=x298
def te13344090535295507526:=@rfl _ tw13344090535295507526
def tw625613801414525919:=x41
def te625613801414525919:=@rfl _ tw625613801414525919
def tw12360585642875663144:=x29
def te12360585642875663144:=@rfl _ tw12360585642875663144
def tw10050234993528590226:=oN "_law_stream" 43
def te10050234993528590226:=@rfl _ tw10050234993528590226
def tw3748977850584204789:=oN "_law_names" 44
def te3748977850584204789:=@rfl _ tw3748977850584204789
def tw4516148366121521207:=oN "all_rules" 23
def te4516148366121521207:=@rfl _ tw4516148366121521207
def tw8039173864101872121:=x22
def te8039173864101872121:=@rfl _ tw8039173864101872121
def tw14560299246123828638:=x193
def te14560299246123828638:=@rfl _ tw14560299246123828638
def tw309134439288693812:=x339
def te309134439288693812:=@rfl _ tw309134439288693812
def tw757669219640520491:=x217
def te757669219640520491:=@rfl _ tw757669219640520491
def tw3095598234913536169:=oN "down_to" 11
def te3095598234913536169:=@rfl _ tw3095598234913536169
def tw6919215087451336272:=oN "_law_turning" 50
def te6919215087451336272:=@rfl _ tw6919215087451336272
def tw302693382443555882:=oN "stump_at" 5
def te302693382443555882:=@rfl _ tw302693382443555882
def tw2631874363521028694:=x171
def te2631874363521028694:=@rfl _ tw2631874363521028694
def tw16267647197655449580:=x327
def te16267647197655449580:=@rfl _ tw16267647197655449580
def tw17638768305217280362:=x351
def te17638768305217280362:=@rfl _ tw17638768305217280362
def tw1643189190249992119:=x224
def te1643189190249992119:=@rfl _ tw1643189190249992119
def tw9539910224086046745:=x154
def te9539910224086046745:=@rfl _ tw9539910224086046745
def tw16124672014728869118:=oN "number_calls" 29
def te16124672014728869118:=@rfl _ tw16124672014728869118
def tw8248147686747271216:=oN "early_mode" 37
def te8248147686747271216:=@rfl _ tw8248147686747271216
def tw7984605499485382070:=oN "_law_is_term" 53
def te7984605499485382070:=@rfl _ tw7984605499485382070
def tw6490512788876854717:=oN "stumps_in" 39
def te6490512788876854717:=@rfl _ tw6490512788876854717
def tw6387622554856944859:=x205
def te6387622554856944859:=@rfl _ tw6387622554856944859
def tw12686161373951842909:=oN "_law_filled" 56
def te12686161373951842909:=@rfl _ tw12686161373951842909
def tw6496375373134213964:=x264
def te6496375373134213964:=@rfl _ tw6496375373134213964
def tw2858755591001803375:=oN "with_modes" 12
def te2858755591001803375:=@rfl _ tw2858755591001803375
def tw11399536014409532313:=x229
def te11399536014409532313:=@rfl _ tw11399536014409532313
def tw8045433033726067114:=x344
def te8045433033726067114:=@rfl _ tw8045433033726067114
def tw12651305337101563954:gS->gU:=λP=>oF vN "__init__" "Stages.__init__" (L2.inClass (top 22) 0) 0 vN vN
def te12651305337101563954:=@rfl _ tw12651305337101563954
end PySem.W.Fast
def PySem.W.Fast.tw12274830166261757306:PySem.Program:=PySem.Challenge.pw_turnery_k40_early_told
def PySem.W.Fast.te12274830166261757306:=@rfl _ PySem.W.Fast.tw12274830166261757306
def PySem.W.Fast.tw18360322003793977652:PySem.Program:={ PySem.Challenge.pw_turnery_k40_early_told with main:={ PySem.Challenge.pw_turnery_k40_early_told.main with body:=[K40.top 1,K40.top 2,K40.top 3,K40.top 4,K40.top 5,K40.top 7,K40.top 8,K40.top 9,K40.top 10,K40.top 11,K40.top 12,K40.top 13,K40.top 15,K40.top 16,K40.top 18,K40.top 19,K40.top 21,K40.top 22,K40.top 23,K40.top 24,K40.top 25,K40.top 26,K40.top 28,K40.top 29,K40.top 30,K40.top 32,K40.top 33,K40.top 34,K40.top 35,K40.top 36,K40.top 37,K40.top 38,K40.top 39,K40.top 40,K40.top 42,K40.top 43,K40.top 44,K40.top 45,K40.top 46,K40.top 47,K40.top 48,K40.top 49,K40.top 50,K40.top 51,K40.top 52,K40.top 53,K40.top 54,K40.top 55,K40.top 56,K40.top 57,K40.top 58,K40.top 59,K40.top 60] } }
def PySem.W.Fast.te18360322003793977652:=@rfl _ PySem.W.Fast.tw18360322003793977652
def PySem.W.Fast.tw18215713650630410128:List PySem.Stmt:=(gX.drop 0).take 15
def PySem.W.Fast.te18215713650630410128:=@rfl _ PySem.W.Fast.tw18215713650630410128
def PySem.W.Fast.tw12885671577205457648:List PySem.Stmt:=(gX.drop 15).take 2
def PySem.W.Fast.te12885671577205457648:=@rfl _ PySem.W.Fast.tw12885671577205457648
def PySem.W.Fast.tw4273543800970432601:List PySem.Stmt:=(gX.drop 17).take 6
def PySem.W.Fast.te4273543800970432601:=@rfl _ PySem.W.Fast.tw4273543800970432601
def PySem.W.Fast.tw12634461349332973893:List PySem.Stmt:=(gX.drop 23).take 17
def PySem.W.Fast.te12634461349332973893:=@rfl _ PySem.W.Fast.tw12634461349332973893
def PySem.W.Fast.tw710147229713275349:List PySem.Stmt:=(gX.drop 40).take 13
def PySem.W.Fast.te710147229713275349:=@rfl _ PySem.W.Fast.tw710147229713275349
def PySem.W.Fast.tw5359284401142020087:List PySem.Stmt:=(gX.drop 53).take 8
def PySem.W.Fast.te5359284401142020087:=@rfl _ PySem.W.Fast.tw5359284401142020087
section
open PySem
open K40
def K40.x11(P:gS):gU:={ cls:=Value.type "tuple",data:=Data.seq #[] }
def K40.l12:List Value:=[vI 3 0,vI 0 0,vR 21,vI 5 0,vI 0 0,vR 28,vI 7 0,vI 0 0,vR 33,vI 11 0,vI 0 0,vR 40,vI 17 0,vI 0 0,vR 47,vI 19 0,vI 0 0,vR 52,vI 23 0,vI 0 0,vR 57,vI 27 0,vI 0 0,vR 64,vI 34 0,vI 0 0,vR 71,vI 41 0,vI 0 0,vR 76,vI 45 0,vI 0 0,vR 83,vI 48 0,vI 0 0,vR 90,vI 50 0,vI 0 0,vR 103,vI 53 0,vI 0 0,vR 113,vI 55 0,vI 0 0,vR 120,vI 58 0,vI 0 0,vR 127,vI 63 0,vI 0 0,vR 134,vI 84 0,vI 0 0,vR 165,vI 89 0,vI 0 0,vR 170,vI 95 0,vI 0 0,vR 175,vI 101 0,vI 0 0,vR 180,vI 108 0,vI 0 0,vR 185,vI 119 0,vI 0 0,vR 192,vI 125 0,vI 0 0,vR 197,vI 131 0,vI 0 0,vR 204,vI 133 0,vI 0 0,vR 211,vI 136 0,vI 0 0,vR 216,vI 139 0,vI 0 0,vR 223,vI 147 0,vI 0 0,vR 228,vI 151 0,vI 0 0,vR 235,vI 159 0,vI 0 0,vR 242,vI 163 0,vI 0 0,vR 249,vI 170 0,vI 0 0,vR 256,vI 184 0,vI 0 0,vR 263,vI 199 0,vI 0 0,vR 270,vI 204 0,vI 0 0,vR 277,vI 211 0,vI 0 0,vR 282,vI 220 0,vI 0 0,vR 287,vI 224 0,vI 0 0,vR 292,vI 242 0,vI 0 0,vR 297,vI 245 0,vI 0 0,vR 304,vI 247 0,vI 0 0,vR 309,vI 261 0,vI 0 0,vR 316,vI 276 0,vI 0 0,vR 321,vI 281 0,vI 0 0,vR 326,vI 285 0,vI 0 0,vR 333,vI 289 0,vI 0 0,vR 338,vI 295 0,vI 0 0,vR 343,vI 305 0,vI 0 0,vR 350]
def K40.x12(P:gS):gU:={ cls:=vN,data:=Data.fields l12.toArray }
def K40.x13(P:gS):gU:={ cls:=Value.type "code",data:=Data.fields #[vS "<module>" 182,vS "<module>" 183,vS "/claim/cut.py" 184,vI 1 0,vI 0 0,vI 0 0,vI 0 0,vI 0 0,vR 11,Value.bool false,vI 181 0,vR 12,vN,vN,vN,vN,vI 185 0,vI 1 0,vS "/claim/cut.py" 186] }
def K40.x14(P:gS):gU:={ cls:=Value.type "frame",slots:=#[some (vR 13),some (vR 3),some (vR 3),none,some (vS "__main__" 164),none,some (vR 0)] }
def K40.x20:=W.Fast.tw17384292835049330822
def K40.x27:=W.Fast.tw16084840308021431187
def K40.x32:=W.Fast.tw10482430542251093623
def K40.x39:=W.Fast.tw302693382443555882
def K40.x46:=W.Fast.tw4136268226344495962
def K40.x51:=W.Fast.tw15887187104813435996
def K40.x56:=W.Fast.tw14518636551505322543
def K40.x63:=W.Fast.tw6560057461171261321
def K40.x70:=W.Fast.tw3095598234913536169
def K40.x75:=W.Fast.tw2858755591001803375
def K40.x82:=W.Fast.tw3095300673341666529
def K40.x86(P:gS):gU:={ cls:=Value.type "builtin_function_or_method",data:=Data.fields #[Value.builtin "type.__prepare__",Value.type "type"] }
def K40.x87(P:gS):gU:={ cls:=Value.type "dict",data:=Data.dict #[hE P "__module__" 285 (vS "turnery.errors" 276),hE P "__qualname__" 287 (vS "TurnError" 286),hE P "__firstlineno__" 289 (vI 48 288),hE P "__static_attributes__" 290 (vR 92)] 4 }
def K40.x88(P:gS):gU:={ cls:=Value.type "tuple",data:=Data.seq #[] }
def K40.x90(P:gS):gU:={ cls:=Value.type "code",data:=Data.fields #[vS "TurnError" 280,vS "TurnError" 281,vS "/claim/cut.py" 282,vI 48 0,vI 0 0,vI 0 0,vI 0 0,vI 0 0,vR 88,Value.bool false,vI 181 0,vR 89,vN,vN,vN,vN,vI 283 0,vI 48 0,vS "/claim/cut.py" 284] }
def K40.x91(P:gS):gU:={ cls:=Value.type "frame",slots:=#[some (vR 90),some (vR 3),some (vR 87),none,some (vS "turnery.errors" 276),none,some (vR 0)] }
def K40.x96(P:gS):gU:={ cls:=Value.type "super",data:=Data.fields #[vR 94,vR 94,vR 94] }
def K40.x97(P:gS):gU:={ cls:=Value.type "builtin_function_or_method",data:=Data.fields #[Value.builtin "object.__init_subclass__",vR 94] }
def K40.x99(P:gS):gU:={ cls:=Value.type "builtin_function_or_method",data:=Data.fields #[Value.builtin "type.__prepare__",Value.type "type"] }
def K40.x100(P:gS):gU:={ cls:=Value.type "dict",data:=Data.dict #[hE P "__module__" 303 (vS "turnery.errors" 276),hE P "__qualname__" 305 (vS "TooGreat" 304),hE P "__firstlineno__" 307 (vI 50 306),hE P "__static_attributes__" 308 (vR 105)] 4 }
def K40.x101(P:gS):gU:={ cls:=Value.type "tuple",data:=Data.seq #[] }
def K40.x103(P:gS):gU:={ cls:=Value.type "code",data:=Data.fields #[vS "TooGreat" 298,vS "TooGreat" 299,vS "/claim/cut.py" 300,vI 50 0,vI 0 0,vI 0 0,vI 0 0,vI 0 0,vR 101,Value.bool false,vI 181 0,vR 102,vN,vN,vN,vN,vI 301 0,vI 50 0,vS "/claim/cut.py" 302] }
def K40.x104(P:gS):gU:={ cls:=Value.type "frame",slots:=#[some (vR 103),some (vR 3),some (vR 100),none,some (vS "turnery.errors" 276),none,some (vR 0)] }
def K40.x108(P:gS):gU:={ cls:=Value.type "super",data:=Data.fields #[vR 107,vR 107,vR 107] }
def K40.x109(P:gS):gU:={ cls:=Value.type "builtin_function_or_method",data:=Data.fields #[Value.builtin "object.__init_subclass__",vR 107] }
def K40.x112:=W.Fast.tw12068040077002041873
def K40.x119:=W.Fast.tw3874724821540454684
def K40.x126:=W.Fast.tw8413688913037413236
def K40.x129(P:gS):gU:={ cls:=Value.type "tuple",data:=Data.seq #[] }
def K40.x130(P:gS):gU:={ cls:=Value.type "builtin_function_or_method",data:=Data.fields #[Value.builtin "type.__prepare__",Value.type "type"] }
def K40.x131(P:gS):gU:={ cls:=Value.type "dict",data:=Data.dict #[hE P "__module__" 345 (19:),hE P "__qualname__" 347 (vS "Stages" 346),hE P "__firstlineno__" 349 (vI 63 348),hE P "__init__" 355 (vR 140),hE P "is_last" 362 (vR 147),hE P "go_on" 374 (vR 154),hE P "__static_attributes__" 379 (vR 155)] 7 }
def K40.x132(P:gS):gU:={ cls:=Value.type "tuple",data:=Data.seq #[] }
def K40.x133(P:gS):gU:={ cls:=vN,data:=Data.fields #[vI 65 0,vI 4 0,vR 139,vI 71 0,vI 4 0,vR 146,vI 74 0,vI 4 0,vR 153] }
def K40.x134(P:gS):gU:={ cls:=Value.type "code",data:=Data.fields #[vS "Stages" 340,vS "Stages" 341,vS "/claim/cut.py" 342,vI 63 0,vI 0 0,vI 0 0,vI 0 0,vI 0 0,vR 132,Value.bool false,vI 181 0,vR 133,vN,vN,vN,vN,vI 343 0,vI 63 0,vS "/claim/cut.py" 344] }
def K40.x135(P:gS):gU:={ cls:=Value.type "frame",slots:=#[some (vR 134),some (vR 3),some (vR 131),none,some (19:),none,some (vR 0)] }
def K40.x138:=W.Fast.tw12651305337101563954
def K40.x145:=W.Fast.tw11301929831041413149
def K40.x152:=W.Fast.tw3873823089256375951
def K40.x160(P:gS):gU:={ cls:=Value.type "super",data:=Data.fields #[vR 157,vR 157,vR 157] }
def K40.x161(P:gS):gU:={ cls:=Value.type "builtin_function_or_method",data:=Data.fields #[Value.builtin "object.__init_subclass__",vR 157] }
def K40.x164:=W.Fast.tw4516148366121521207
def K40.x169:=W.Fast.tw806720889772799257
def K40.x174:=W.Fast.tw12216556219417271523
def K40.x179:=W.Fast.tw13541708524580718707
def K40.x184:=W.Fast.tw11557218948539819088
def K40.x191:=W.Fast.tw16124672014728869118
def K40.x196:=W.Fast.tw7180167093926161252
def K40.x203:=W.Fast.tw6607858454721068349
def K40.x210:=W.Fast.tw17463956055251687079
def K40.x215:=W.Fast.tw8248147686747271216
def K40.x222:=W.Fast.tw7811716112400265491
def K40.x227:=W.Fast.tw6490512788876854717
def K40.x234:=W.Fast.tw9194424104636033646
def K40.x241:=W.Fast.tw4326270842302615498
def K40.x248:=W.Fast.tw10050234993528590226
def K40.x255:=W.Fast.tw3748977850584204789
def K40.x262:=W.Fast.tw18129234450002693201
def K40.x269:=W.Fast.tw14548436191333822866
def K40.x276:=W.Fast.tw9054357134803814469
def K40.x281:=W.Fast.tw243488541076455470
def K40.x286:=W.Fast.tw17643295387204629737
def K40.x291:=W.Fast.tw6919215087451336272
def K40.x296:=W.Fast.tw18110526971217182356
def K40.x303:=W.Fast.tw16482551895505887952
def K40.x308:=W.Fast.tw7984605499485382070
def K40.x315:=W.Fast.tw4293254370620730304
def K40.x320:=W.Fast.tw10508248035858793914
def K40.x325:=W.Fast.tw12686161373951842909
def K40.x332:=W.Fast.tw8103623648377247859
def K40.x337:=W.Fast.tw11627514406296959329
def K40.x342:=W.Fast.tw17530256478592675514
def K40.x349:=W.Fast.tw16516205938109698768
def PySem.W.Fast.tw13704175404583092436:Params->Heap:=λP=>{ objs:=⟨[W.boot_o_0 P,W.boot_o_1 P,Obj.mk vN none (Data.dict #[]) #[],x3 P,W.boot_o_4 P,W.boot_o_5 P,W.boot_o_6 P,W.boot_o_7 P,W.boot_o_8 P,W.boot_o_9 P,W.boot_o_10 P,x11 P,x12 P,x13 P,x14 P,oT #[vS "open" 189],oT #[],oE,oT #[vS "stump" 194],oT #[],x20 P,x21 P,x22 P,oT #[],oE,oT #[vS "stump" 201],oT #[],x27 P,x28 P,x29 P,oT #[],oE,x32 P,x33 P,x34 P,oT #[],oE,x37 P,oT #[],x39 P,x40 P,x41 P,oT #[],oE,oT #[vS "term" 226],oT #[],x46 P,x47 P,x48 P,oT #[],oE,x51 P,x52 P,x53 P,oT #[],oE,x56 P,x57 P,x58 P,oT #[],oE,x61 P,oT #[],x63 P,x64 P,x65 P,oT #[],oE,x68 P,oT #[],x70 P,x71 P,x72 P,oT #[],oE,x75 P,x76 P,x77 P,oT #[],oE,oT #[vS "term" 271,vS "parts" 272],oT #[],x82 P,x83 P,x84 P,oT #[Value.type "ValueError"],x86 P,x87 P,x88 P,oE,x90 P,x91 P,oT #[],x93 P,x94 P,x95 P,x96 P,x97 P,oT #[vR 94],x99 P,x100 P,x101 P,oE,x103 P,x104 P,oT #[],x106 P,x107 P,x108 P,x109 P,oT #[],oE,x112 P,x113 P,x114 P,oT #[],oE,oT #[vS "wood" 323,vS "kind" 324],oT #[],x119 P,x120 P,x121 P,oT #[],oE,oT #[vS "turning" 333,vS "stages" 334],oT #[],x126 P,x127 P,x128 P,x129 P,x130 P,x131 P,x132 P,x133 P,x134 P,x135 P,oT #[],oE,x138 P,x139 P,x140 P,oT #[],oE,oT #[vS "self" 359],oT #[],x145 P,x146 P,x147 P,oT #[],oE,x150 P,oT #[],x152 P,x153 P,x154 P,x155 P,x156 P,x157 P,x158 P,x159 P,x160 P,x161 P,oT #[],oE,x164 P,x165 P,x166 P,oT #[],oE,x169 P,x170 P,x171 P,oT #[],oE,x174 P,x175 P,x176 P,oT #[],oE,x179 P,x180 P,x181 P,oT #[],oE,x184 P,x185 P,x186 P,oT #[],oE,x189 P,oT #[],x191 P,x192 P,x193 P,oT #[],oE,x196 P,x197 P,x198 P,oT #[],oE,oT #[vS "turning" 447],oT #[],x203 P,x204 P,x205 P,oT #[],oE,x208 P,oT #[vS "turning" 457,vS "stumps" 458],x210 P,x211 P,x212 P,oT #[],oE,x215 P,x216 P,x217 P,oT #[],oE,x220 P,oT #[],x222 P,x223 P,x224 P,oT #[],oE,x227 P,x228 P,x229 P,oT #[],oE,x232 P,oT #[],x234 P,x235 P,x236 P,oT #[],oE,x239 P,oT #[],x241 P,x242 P,x243 P,oT #[],oE,x246 P,oT #[],x248 P,x249 P,x250 P,oT #[],oE,x253 P,oT #[],x255 P,x256 P,x257 P,oT #[],oE,x260 P,oT #[],x262 P,x263 P,x264 P,oT #[],oE,x267 P,oT #[],x269 P,x270 P,x271 P,oT #[],oE,x274 P,oT #[],x276 P,x277 P,x278 P,oT #[],oE,x281 P,x282 P,x283 P,oT #[],oE,x286 P,x287 P,x288 P,oT #[],oE,x291 P,x292 P,x293 P,oT #[],oE,x296 P,x297 P,x298 P,oT #[],oE,oT #[vS "_law_found" 600],oT #[],x303 P,x304 P,x305 P,oT #[],oE,x308 P,x309 P,x310 P,oT #[],oE,x313 P,oT #[],x315 P,x316 P,x317 P,oT #[],oE,x320 P,x321 P,x322 P,oT #[],oE,x325 P,x326 P,x327 P,oT #[],oE,x330 P,oT #[],x332 P,x333 P,x334 P,oT #[],oE,x337 P,x338 P,x339 P,oT #[],oE,x342 P,x343 P,x344 P,oT #[],oE,x347 P,oT #[],x349 P,x350 P,x351 P]⟩ }
def _root_.PySem.W.Fast.te13704175404583092436:=@rfl _ PySem.W.Fast.tw13704175404583092436
def K40.N:gS->W.BT:=λ_=>.nil
def K40.B(o:gS->gU)(l r:gS->W.BT):gS->W.BT:=λP=>.node (o P) (l P) (r P)
def K40.zA(o:gS->gU):=B o N N
def K40.zB(o l):=B o l N
def K40.zC:gS->gU:=λ_=>oT #[vS "open" 189]
def K40.zD:gS->gU:=λ_=>oE
def K40.zE:gS->gU:=λ_=>oT #[vS "self" 359]
def K40.zF:gS->gU:=λ_=>oT #[]
def K40.zG:gS->gU:=λ_=>oT #[vS "turning" 457,vS "stumps" 458]
def K40.zH:gS->gU:=λ_=>oT #[vS "stump" 201]
def K40.zI:gS->gU:=λ_=>oT #[vS "turning" 447]
def K40.zJ:gS->gU:=λ_=>oT #[Value.type "ValueError"]
def K40.zK:gS->gU:=λ_=>oT #[vS "wood" 323,vS "kind" 324]
def K40.zL:gS->gU:=λ_=>oT #[vS "_law_found" 600]
def K40.zM:gS->gU:=λ_=>Obj.mk vN none (Data.dict #[]) #[]
def K40.zN:gS->gU:=λ_=>oT #[vS "term" 271,vS "parts" 272]
def K40.zO:gS->gU:=λ_=>oT #[vS "term" 226]
def K40.zP:gS->gU:=λ_=>oT #[vS "turning" 333,vS "stages" 334]
def K40.zQ:gS->gU:=λ_=>oT #[vS "stump" 194]
def K40.zR:gS->gU:=λ_=>oT #[vR 94]
def PySem.W.Fast.tw13440947609108077541:=B W.boot_o_0 (B W.boot_o_1 (B x3 (B W.boot_o_7 (B zC (B zD (B x63 (zB x127 (zA x255)) (zB x191 (zA zD))) (B x95 (zB x159 (zA x287)) (zB x223 (zA x351)))) (B x47 (B zD (zB zE (zA x271)) (zB zD (zA zF))) (B zD (zB x175 (zA x303)) (zA x239)))) (B zF (B x39 (B x71 (zB x135 (zA x263)) (zB zF (zA x327))) (B x103 (zB zF (zA zD)) (zA zD))) (B zD (B x87 (zB zF (zA zF)) (zB x215 (zA x343))) (B x119 (zB zD (zA zF)) (zA zF))))) (B x11 (B zF (B zF (B zD (zB x131 (zA zD)) (zB zD (zA zF))) (B x99 (zB zD (zA x291)) (zA x227))) (B x51 (B x83 (zB x147 (zA zF)) (zB x211 (zA x339))) (B zF (zB x179 (zA zD)) (zA x243)))) (B x27 (B zD (B x75 (zB x139 (zA x267)) (zB x203 (zA zF))) (B x107 (zB x171 (zA zF)) (zA x235))) (B zF (B x91 (zB x155 (zA x283)) (zB zD (zA x347))) (B zD (zB zF (zA x315)) (zA zF)))))) (B W.boot_o_5 (B W.boot_o_9 (B zD (B x33 (B x65 (zB x129 (zA x257)) (zB x193 (zA x321))) (B x97 (zB x161 (zA zF)) (zA zF))) (B zF (B zF (zB x145 (zA zD)) (zB zG (zA x337))) (B x113 (zB zF (zA x305)) (zA x241)))) (B zH (B x41 (B zF (zB zD (zA zF)) (zB zI (zA zD))) (B zF (zB x169 (zA x297)) (zA zF))) (B x57 (B zD (zB x153 (zA x281)) (zB x217 (zA zF))) (B x121 (zB x185 (zA x313)) (zA x249))))) (B x13 (B x21 (B x37 (B zF (zB x133 (zA zF)) (zB x197 (zA x325))) (B x101 (zB x165 (zA x293)) (zA x229))) (B x53 (B zJ (zB zD (zA x277)) (zB zF (zA zD))) (B zK (zB x181 (zA x309)) (zA zD)))) (B x29 (B zF (B x77 (zB zF (zA x269)) (zB x205 (zA x333))) (B x109 (zB zD (zA zL)) (zA zF))) (B x61 (B x93 (zB x157 (zA zD)) (zB zF (zA x349))) (B zF (zB x189 (zA x317)) (zA x253))))))) (B zM (B W.boot_o_4 (B W.boot_o_8 (B zF (B x32 (B x64 (zB x128 (zA x256)) (zB x192 (zA x320))) (B x96 (zB x160 (zA x288)) (zA x224))) (B x48 (B zN (zB zF (zA zF)) (zB x208 (zA zD))) (B x112 (zB x176 (zA x304)) (zA zF)))) (B zD (B x40 (B x72 (zB zF (zA x264)) (zB zD (zA zF))) (B x104 (zB zD (zA x296)) (zA x232))) (B x56 (B x88 (zB x152 (zA zD)) (zB x216 (zA x344))) (B x120 (zB x184 (zA zD)) (zA x248))))) (B x12 (B x20 (B zD (B x68 (zB x132 (zA x260)) (zB x196 (zA zD))) (B x100 (zB x164 (zA x292)) (zA x228))) (B x52 (B x84 (zB zF (zA x276)) (zB x212 (zA zF))) (B zD (zB x180 (zA x308)) (zA zF)))) (B x28 (B zO (B x76 (zB x140 (zA zF)) (zB x204 (zA x332))) (B x108 (zB zF (zA zD)) (zA x236))) (B zD (B zF (zB x156 (zA zF)) (zB x220 (zA zF))) (B zP (zB zD (zA x316)) (zA zD)))))) (B W.boot_o_6 (B W.boot_o_10 (B zQ (B x34 (B zF (zB x130 (zA zF)) (zB zF (zA x322))) (B zR (zB zF (zA zD)) (zA zD))) (B zD (B x82 (zB x146 (zA x274)) (zB x210 (zA x338))) (B x114 (zB zD (zA zF)) (zA x242)))) (B zF (B zF (B zD (zB x138 (zA zD)) (zB zF (zA x330))) (B x106 (zB x170 (zA x298)) (zA x234))) (B x58 (B x90 (zB x154 (zA x282)) (zB zF (zA zD))) (B zF (zB x186 (zA zF)) (zA x250))))) (B x14 (B x22 (B zF (B x70 (zB x134 (zA x262)) (zB x198 (zA x326))) (B zD (zB x166 (zA zF)) (zA zF))) (B zF (B x86 (zB x150 (zA x278)) (zB zD (zA x342))) (B zF (zB zF (zA x310)) (zA x246)))) (B zF (B x46 (B zF (zB zD (zA x270)) (zB zF (zA x334))) (B zF (zB x174 (zA zF)) (zA zD))) (B zF (B x94 (zB x158 (zA x286)) (zB x222 (zA x350))) (B x126 (zB zF (zA zF)) (zA zF)))))))
def _root_.PySem.W.Fast.te13440947609108077541:=@rfl _ PySem.W.Fast.tw13440947609108077541
def K40.y3_349(P:gS):gU:={ cls:=Value.type "dict",data:=Data.dict (hE P "__name__" 165 mN::(l3 P).take 53).toArray 54 }
def K40.y12_349(P:gS):gU:={ cls:=vN,data:=Data.fields (l12.take 123).toArray }
def PySem.W.Fast.tw3224896515079954342:=B W.boot_o_0 (B W.boot_o_1 (B y3_349 (B W.boot_o_7 (B zC (B zD (B x63 (zB x127 (zA x255)) (zA x191)) (B x95 (zB x159 (zA x287)) (zA x223))) (B x47 (B zD (zB zE (zA x271)) (zA zD)) (B zD (zB x175 (zA x303)) (zA x239)))) (B zF (B x39 (B x71 (zB x135 (zA x263)) (zA zF)) (B x103 (zB zF (zA zD)) (zA zD))) (B zD (B x87 (zB zF (zA zF)) (zA x215)) (B x119 (zA zD) (zA zF))))) (B x11 (B zF (B zF (B zD (zB x131 (zA zD)) (zA zD)) (B x99 (zB zD (zA x291)) (zA x227))) (B x51 (B x83 (zB x147 (zA zF)) (zA x211)) (B zF (zA x179) (zA x243)))) (B x27 (B zD (B x75 (zB x139 (zA x267)) (zA x203)) (B x107 (zB x171 (zA zF)) (zA x235))) (B zF (B x91 (zB x155 (zA x283)) (zA zD)) (B zD (zA zF) (zA zF)))))) (B W.boot_o_5 (B W.boot_o_9 (B zD (B x33 (B x65 (zB x129 (zA x257)) (zA x193)) (B x97 (zB x161 (zA zF)) (zA zF))) (B zF (B zF (zB x145 (zA zD)) (zA zG)) (B x113 (zB zF (zA x305)) (zA x241)))) (B zH (B x41 (B zF (zB zD (zA zF)) (zA zI)) (B zF (zB x169 (zA x297)) (zA zF))) (B x57 (B zD (zB x153 (zA x281)) (zA x217)) (B x121 (zA x185) (zA x249))))) (B x13 (B x21 (B x37 (B zF (zB x133 (zA zF)) (zA x197)) (B x101 (zB x165 (zA x293)) (zA x229))) (B x53 (B zJ (zB zD (zA x277)) (zA zF)) (B zK (zA x181) (zA zD)))) (B x29 (B zF (B x77 (zB zF (zA x269)) (zA x205)) (B x109 (zB zD (zA zL)) (zA zF))) (B x61 (B x93 (zB x157 (zA zD)) (zA zF)) (B zF (zA x189) (zA x253))))))) (B zM (B W.boot_o_4 (B W.boot_o_8 (B zF (B x32 (B x64 (zB x128 (zA x256)) (zA x192)) (B x96 (zB x160 (zA x288)) (zA x224))) (B x48 (B zN (zB zF (zA zF)) (zA x208)) (B x112 (zB x176 (zA x304)) (zA zF)))) (B zD (B x40 (B x72 (zB zF (zA x264)) (zA zD)) (B x104 (zB zD (zA x296)) (zA x232))) (B x56 (B x88 (zB x152 (zA zD)) (zA x216)) (B x120 (zA x184) (zA x248))))) (B y12_349 (B x20 (B zD (B x68 (zB x132 (zA x260)) (zA x196)) (B x100 (zB x164 (zA x292)) (zA x228))) (B x52 (B x84 (zB zF (zA x276)) (zA x212)) (B zD (zA x180) (zA zF)))) (B x28 (B zO (B x76 (zB x140 (zA zF)) (zA x204)) (B x108 (zB zF (zA zD)) (zA x236))) (B zD (B zF (zB x156 (zA zF)) (zA x220)) (B zP (zA zD) (zA zD)))))) (B W.boot_o_6 (B W.boot_o_10 (B zQ (B x34 (B zF (zB x130 (zA zF)) (zA zF)) (B zR (zB zF (zA zD)) (zA zD))) (B zD (B x82 (zB x146 (zA x274)) (zA x210)) (B x114 (zA zD) (zA x242)))) (B zF (B zF (B zD (zB x138 (zA zD)) (zA zF)) (B x106 (zB x170 (zA x298)) (zA x234))) (B x58 (B x90 (zB x154 (zA x282)) (zA zF)) (B zF (zA x186) (zA x250))))) (B x14 (B x22 (B zF (B x70 (zB x134 (zA x262)) (zA x198)) (B zD (zB x166 (zA zF)) (zA zF))) (B zF (B x86 (zB x150 (zA x278)) (zA zD)) (B zF (zA zF) (zA x246)))) (B zF (B x46 (B zF (zB zD (zA x270)) (zA zF)) (B zF (zB x174 (zA zF)) (zA zD))) (B zF (B x94 (zB x158 (zA x286)) (zA x222)) (B x126 (zA zF) (zA zF)))))))
def _root_.PySem.W.Fast.te3224896515079954342:=@rfl _ PySem.W.Fast.tw3224896515079954342
def K40.y3_271(P:gS):gU:={ cls:=Value.type "dict",data:=Data.dict (hE P "__name__" 165 (vS "turnery.early" 436)::(l3 P).take 41).toArray 42 }
def K40.y12_271(P:gS):gU:={ cls:=vN,data:=Data.fields (l12.take 87).toArray }
def PySem.W.Fast.tw4052009567895541871:=B W.boot_o_0 (B W.boot_o_1 (B y3_271 (B W.boot_o_7 (B zC (B zD (B x63 (zA x127) (zA x191)) (B x95 (zA x159) (zA x223))) (B x47 (B zD (zA zE) (zA zD)) (zB zD (zA x175)))) (B zF (B x39 (B x71 (zA x135) (zA zF)) (zB x103 (zA zF))) (B zD (B x87 (zA zF) (zA x215)) (zB x119 (zA zD))))) (B x11 (B zF (B zF (B zD (zA x131) (zA zD)) (B x99 (zA zD) (zA x227))) (B x51 (B x83 (zA x147) (zA x211)) (zB zF (zA x179)))) (B x27 (B zD (B x75 (zA x139) (zA x203)) (zB x107 (zA x171))) (B zF (B x91 (zA x155) (zA zD)) (zB zD (zA zF)))))) (B W.boot_o_5 (B W.boot_o_9 (B zD (B x33 (B x65 (zA x129) (zA x193)) (B x97 (zA x161) (zA zF))) (B zF (B zF (zA x145) (zA zG)) (zB x113 (zA zF)))) (B zH (B x41 (B zF (zA zD) (zA zI)) (zB zF (zA x169))) (B x57 (B zD (zA x153) (zA x217)) (zB x121 (zA x185))))) (B x13 (B x21 (B x37 (B zF (zA x133) (zA x197)) (B x101 (zA x165) (zA x229))) (B x53 (B zJ (zA zD) (zA zF)) (zB zK (zA x181)))) (B x29 (B zF (B x77 (zA zF) (zA x205)) (zB x109 (zA zD))) (B x61 (B x93 (zA x157) (zA zF)) (zB zF (zA x189))))))) (B zM (B W.boot_o_4 (B W.boot_o_8 (B zF (B x32 (B x64 (zA x128) (zA x192)) (B x96 (zA x160) (zA x224))) (B x48 (B zN (zA zF) (zA x208)) (zB x112 (zA x176)))) (B zD (B x40 (B x72 (zA zF) (zA zD)) (zB x104 (zA zD))) (B x56 (B x88 (zA x152) (zA x216)) (zB x120 (zA x184))))) (B y12_271 (B x20 (B zD (B x68 (zA x132) (zA x196)) (B x100 (zA x164) (zA x228))) (B x52 (B x84 (zA zF) (zA x212)) (zB zD (zA x180)))) (B x28 (B zO (B x76 (zA x140) (zA x204)) (zB x108 (zA zF))) (B zD (B zF (zA x156) (zA x220)) (zB zP (zA zD)))))) (B W.boot_o_6 (B W.boot_o_10 (B zQ (B x34 (B zF (zA x130) (zA zF)) (B zR (zA zF) (zA zD))) (B zD (B x82 (zA x146) (zA x210)) (zB x114 (zA zD)))) (B zF (B zF (B zD (zA x138) (zA zF)) (zB x106 (zA x170))) (B x58 (B x90 (zA x154) (zA zF)) (zB zF (zA x186))))) (B x14 (B x22 (B zF (B x70 (zA x134) (zA x198)) (zB zD (zA x166))) (B zF (B x86 (zA x150) (zA zD)) (zB zF (zA zF)))) (B zF (B x46 (B zF (zA zD) (zA zF)) (zB zF (zA x174))) (B zF (B x94 (zA x158) (zA x222)) (zB x126 (zA zF)))))))
def _root_.PySem.W.Fast.te4052009567895541871:=@rfl _ PySem.W.Fast.tw4052009567895541871
def K40.y3_201(P:gS):gU:={ cls:=Value.type "dict",data:=Data.dict (hE P "__name__" 165 (19:)::(l3 P).take 26).toArray 27 }
def K40.y12_201(P:gS):gU:={ cls:=vN,data:=Data.fields (l12.take 51).toArray }
def PySem.W.Fast.tw10408925812627581515:=B W.boot_o_0 (B W.boot_o_1 (B y3_201 (B W.boot_o_7 (B zC (B zD (zB x63 (zA x127)) (zB x95 (zA x159))) (B x47 (zB zD (zA zE)) (zA zD))) (B zF (B x39 (zB x71 (zA x135)) (zA x103)) (B zD (zB x87 (zA zF)) (zA x119)))) (B x11 (B zF (B zF (zB zD (zA x131)) (zA x99)) (B x51 (zB x83 (zA x147)) (zA zF))) (B x27 (B zD (zB x75 (zA x139)) (zA x107)) (B zF (zB x91 (zA x155)) (zA zD))))) (B W.boot_o_5 (B W.boot_o_9 (B zD (B x33 (zB x65 (zA x129)) (zB x97 (zA x161))) (B zF (zB zF (zA x145)) (zA x113))) (B zH (B x41 (zB zF (zA zD)) (zA zF)) (B x57 (zB zD (zA x153)) (zA x121)))) (B x13 (B x21 (B x37 (zB zF (zA x133)) (zA x101)) (B x53 (zB zJ (zA zD)) (zA zK))) (B x29 (B zF (zB x77 (zA zF)) (zA x109)) (B x61 (zB x93 (zA x157)) (zA zF)))))) (B zM (B W.boot_o_4 (B W.boot_o_8 (B zF (B x32 (zB x64 (zA x128)) (zB x96 (zA x160))) (B x48 (zB zN (zA zF)) (zA x112))) (B zD (B x40 (zB x72 (zA zF)) (zA x104)) (B x56 (zB x88 (zA x152)) (zA x120)))) (B y12_201 (B x20 (B zD (zB x68 (zA x132)) (zA x100)) (B x52 (zB x84 (zA zF)) (zA zD))) (B x28 (B zO (zB x76 (zA x140)) (zA x108)) (B zD (zB zF (zA x156)) (zA zP))))) (B W.boot_o_6 (B W.boot_o_10 (B zQ (B x34 (zB zF (zA x130)) (zA zR)) (B zD (zB x82 (zA x146)) (zA x114))) (B zF (B zF (zB zD (zA x138)) (zA x106)) (B x58 (zB x90 (zA x154)) (zA zF)))) (B x14 (B x22 (B zF (zB x70 (zA x134)) (zA zD)) (B zF (zB x86 (zA x150)) (zA zF))) (B zF (B x46 (zB zF (zA zD)) (zA zF)) (B zF (zB x94 (zA x158)) (zA x126))))))
def _root_.PySem.W.Fast.te10408925812627581515:=@rfl _ PySem.W.Fast.tw10408925812627581515
def K40.y3_147(P:gS):gU:={ cls:=Value.type "dict",data:=Data.dict (hE P "__name__" 165 (vS "turnery.errors" 276)::(l3 P).take 22).toArray 23 }
def K40.y12_147(P:gS):gU:={ cls:=vN,data:=Data.fields (l12.take 39).toArray }
def PySem.W.Fast.tw7315832106688920202:=B W.boot_o_0 (B W.boot_o_1 (B y3_147 (B W.boot_o_7 (B zC (B zD (zA x63) (zA x95)) (zB x47 (zA zD))) (B zF (B x39 (zA x71) (zA x103)) (zB zD (zA x87)))) (B x11 (B zF (B zF (zA zD) (zA x99)) (zB x51 (zA x83))) (B x27 (B zD (zA x75) (zA x107)) (zB zF (zA x91))))) (B W.boot_o_5 (B W.boot_o_9 (B zD (B x33 (zA x65) (zA x97)) (zB zF (zA zF))) (B zH (B x41 (zA zF) (zA zF)) (zB x57 (zA zD)))) (B x13 (B x21 (B x37 (zA zF) (zA x101)) (zB x53 (zA zJ))) (B x29 (B zF (zA x77) (zA x109)) (zB x61 (zA x93)))))) (B zM (B W.boot_o_4 (B W.boot_o_8 (B zF (B x32 (zA x64) (zA x96)) (zB x48 (zA zN))) (B zD (B x40 (zA x72) (zA x104)) (zB x56 (zA x88)))) (B y12_147 (B x20 (B zD (zA x68) (zA x100)) (zB x52 (zA x84))) (B x28 (B zO (zA x76) (zA x108)) (zB zD (zA zF))))) (B W.boot_o_6 (B W.boot_o_10 (B zQ (B x34 (zA zF) (zA zR)) (zB zD (zA x82))) (B zF (B zF (zA zD) (zA x106)) (zB x58 (zA x90)))) (B x14 (B x22 (B zF (zA x70) (zA zD)) (zB zF (zA x86))) (B zF (zB x46 (zA zF)) (zB zF (zA x94))))))
def _root_.PySem.W.Fast.te7315832106688920202:=@rfl _ PySem.W.Fast.tw7315832106688920202
end
open PySem PySem.W PyProof.Rows
set_option maxRecDepth 100000 in
set_option maxHeartbeats 0 in
theorem PySem.Challenge.cw_turnery_k40_early_told_holds : PySem.Challenge.rw_turnery_k40_early_told.Holds := by
 w_on;o_law;k_head;(case hw=>w_witness2)
 k_fill
 refine K40.walk (c1:=211) (T1:=207) (l:=PySem.Challenge.rw_turnery_k40_early_told) rfl rfl (λw h Y=>PySem.W.km_in_of Y) ?tb1 ?F
 case tb1=>
  intro w;refine' L2.TabAt.mk ⟨_,?a⟩ ?b ?c ?d;(case a=>exact rfl);(case b|c|d=>kernel_rfl)
 case F=>
  intro w mg fa h KX G hmg;refine' K40.all_mk (c1:=211) (T1:=207) KX G hmg ?d1 ?d2 ?d3 ?d4 ?d5 ?d6 ?d7 ?d8 ?d9 ?d10 ?d11 ?d12 ?d13 ?d14 ?d15 ?d16 ?d17 ?d18 ?d19 ?d20 ?d21 ?d22 ?d23 ?d24 ?d25 ?d26 ?d27 ?d28 ?d29 ?d30 ?d31 ?d32 ?d33 ?d34 ?d35 ?d36 ?d37 ?d38 ?d39 ?d40 ?d41 ?d42 ?d43 ?d44 ?d45 ?d46 ?z1 ?z2 ?z3 ?z4 ?z5 ?z6 ?z7 ?z8 ?z9 ?z10 ?z11 ?z12 ?z13 ?z14 ?z15 ?z16 ?o1 ?ht1 ?hh1 ?gA ?gB ?gC ?s1
  (case ht1|hh1=>kernel_rfl)
  (case d1|d2|d3|d4|d5|d6|d7|d8|d9|d10|d11|d12|d13|d14|d15|d16|d17|d18|d19|d20|d21|d22|d23|d24|d25|d26|d27|d28|d29|d30|d31|d32|d33|d34|d35|d36|d37|d38|d39|d40|d41|d42|d43|d44|d45|d46=>refine' L2.DefAt.mk' ?a ?l ?c ?k;(case a|l|c|k=>k_is))
  (case z1|z2|z3|z4|z5|z6|z7|z8|z9|z10|z11|z12|z13|z14|z15|z16|gA|gB|gC=>k_is)
  case s1=>
   refine' K40c.StgK.mk' ?aC ?pg ?hd ?po ?sa ?n1 ?n2 ?n3 ?n4 ?mk ?kc ?m1 ?m2 ?m3
   (case aC|pg|hd|po|sa|n1|n2|n3|n4|mk|kc=>k_is)
   (case m1|m2|m3=>refine' L2.MethAt.mk' ?a ?i ?l ?c ?k;(case a|i|l|c|k=>k_is))
  (case o1=>refine' L2.OneAt.mk' ?a ?l;(case a|l=>k_is))
