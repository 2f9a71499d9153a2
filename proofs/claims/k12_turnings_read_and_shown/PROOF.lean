import PyProof.Rows.All
import Wide.All
import OpenK.AllK
import Wide.FinOn
import Lean
import PyProof.EqAt
import PyProof.EqKinds
import PyProof.TupleCall
import KE.KLam
import KE.KNestM
import KE.KSortTup
import PyProof.DictItems
import PyProof.DictValues
import PyProof.DictWalks
import PyProof.MeetsDict
import KE.KRevIter
import PyProof.MeetsSeq
import PySem.Challenge.RW_turnery_k12_turnings_read_and_shown
set_option hygiene false
set_option compiler.extract_closed false
local macro_rules|`((0:))=>`(⟨rfl,rfl,rfl,by decide +kernel,rfl,by decide +kernel,by decide +kernel⟩)
local macro_rules|`((1:))=>`((by decide +kernel))
local macro_rules|`((2:))=>`((B (oT #[]) N N))
local macro_rules|`((3:))=>`((Qk Qp (pv 0) Qf (fun _ _=>rfl)))
local macro_rules|`((4:))=>`((ps.map fun p=>((Sum.inr (S p.1):Key),V.ref p.2)))
local macro_rules|`((5:))=>`((List Nat))
local macro_rules|`((6:))=>`((model X.prog X.w))
local macro_rules|`((7:))=>`((Or.inl rfl))
local macro_rules|`((8:))=>`((Nat.le_refl _))
local macro_rules|`((9:))=>`((by decide))
local macro_rules|`((10:))=>`((by lia))
local macro_rules|`((11:))=>`((B (oE) N N))
local macro_rules|`((12:))=>`((vS "turnery.readers" 314))
local macro_rules|`((13:))=>`((Addr × Obj))
local macro_rules|`((14:))=>`((fun vs H Q E h=>?_))
local macro_rules|`((15:))=>`((vS "turnery.turntexts" 561))
local macro_rules|`((16:))=>`(((s.heap.update a (Obj.mapSeq fun _=>(#[]:Array Value))).push (seqObj "tuple" vs.toArray 0)))
local macro_rules|`((17:))=>`((QO X (xs ++ caps) scope cl s3.heap.objs.size fp s3 H3))
local macro_rules|`((18:))=>`((by show 2<=sizeLine;decide))
local macro_rules|`((19:))=>`((by simp only [List.length_append,List.length_cons,List.length_nil];lia))
local macro_rules|`((20:))=>`((by show 0<=sizeLine;decide))
local macro_rules|`((21:))=>`((QO X (x :: caps) scope cl F.heap.objs.size fp F U))
local macro_rules|`((22:))=>`((by simp))
local macro_rules|`((23:))=>`((by intro z;cases z))
set_option genSizeOf false
set_option bootstrap.genMatcherCode false
local macro_rules
 | `($m:declModifiers def $i:declId $s:optDeclSig $v:declVal)=>if m.raw.getArgs.all (·.isNone) then `(noncomputable def $i:declId $s:optDeclSig $v:declVal) else Lean.Macro.throwUnsupported
 | `($m:declModifiers abbrev $i:declId $s:optDeclSig $v:declVal)=>if m.raw.getArgs.all (·.isNone) then `(noncomputable abbrev $i:declId $s:optDeclSig $v:declVal) else Lean.Macro.throwUnsupported
abbrev iR:=PySem.Params
abbrev iS:=PySem.Obj
abbrev iT:=@PySem.Str.ofString
abbrev iU:=PySem.Challenge.pw_turnery_k12_turnings_read_and_shown.main.body
abbrev aE:=@List.getElem?_eq_getElem
abbrev aA:=@List.length_map
abbrev aD:=@PySem.wpAny_bind
abbrev aI:=@List.length_append
abbrev aJ:=@List.length_cons
abbrev aL:=@List.mem_cons_self
abbrev aM:=@List.getElem?_map
abbrev aK:=@Option.some.inj
abbrev aT:=@PySem.Heap.get?_push_of_some
abbrev aO:=@List.getElem_mem
abbrev aG:=@PySem.wpAny_pure
abbrev aU:=@List.mem_cons_of_mem
abbrev aS:=@List.map_append
abbrev aQ:=@List.mem_cons
abbrev aN:=@PySem.Heap.lt_size
abbrev aP:=@List.mem_map
abbrev bC:=@List.mem_of_getElem?
abbrev aR:=@List.map_cons
abbrev bT:=@List.getElem?_eq_some_iff
abbrev a_:=@Bool.false_ne_true
abbrev aX:=@List.size_toArray
abbrev bD:=@List.mem_singleton
abbrev aW:=@List.mem_append
abbrev aF:=@if_neg
abbrev bE:=@List.take_add_one
abbrev aV:=@decide_eq_true
abbrev aH:=@if_pos
abbrev bH:=@List.length_take
abbrev bY:=@PySem.F.plainAttrs_list
abbrev bV:=@List.mem_append_right
abbrev bQ:=@PySem.Heap.get?_push_size
abbrev bO:=@List.append_assoc
abbrev bU:=@Nat.lt_of_lt_of_le
abbrev aY:=@Nat.ne_of_lt
abbrev bP:=@List.take_length
abbrev bM:=@decide_eq_false
abbrev bJ:=@PySem.boot_len
abbrev aZ:=@List.map_map
abbrev bR:=@List.getElem_map
abbrev cE:=@PySem.F.slot_list_append
abbrev cF:=@PySem.F.type_list_append
abbrev bS:=@PySem.PassesOwn.never
abbrev bK:=@PySem.W.mg_of
abbrev b_:=@of_decide_eq_true
abbrev bL:=@Nat.le_trans
abbrev cH:=@List.mem_of_mem_take
abbrev b':=@List.length_nil
abbrev cA:=@Int.emod_nonneg
abbrev dA:=@List.getD_eq_getElem?_getD
abbrev cQ:=@List.take_of_length_le
abbrev cC:=@List.append_nil
abbrev cJ:=@List.mem_map_of_mem
abbrev cR:=@PySem.lookup_relabel_local
abbrev cS:=@List.mem_iff_getElem
abbrev cT:=@List.length_singleton
abbrev cG:=@List.mem_nil_iff
abbrev cK:=@Nat.lt_of_le_of_lt
abbrev cL:=@Int.emod_lt_of_pos
abbrev cM:=@PySem.W.mg_none_of
abbrev cU:=@List.mem_append_left
abbrev bX:=@Nat.le_refl
abbrev bZ:=@Nat.zero_le
abbrev cI:=@List.find?_cons
abbrev cV:=@Option.toList_some
abbrev dD:=@List.length_replicate
abbrev cD:=@Nat.le_of_lt
abbrev bN:=@or_false
abbrev cN:=@List.mem_range
abbrev cW:=@List.lookup_cons
abbrev dB:=@List.flatMap_cons
abbrev eJ:=@List.mem_of_find?_eq_some
abbrev cO:=@Nat.lt_irrefl
abbrev cX:=@PySem.W.kia_one
abbrev dC:=@List.length_drop
abbrev dE:=@List.not_mem_nil
abbrev dS:=@PySem.mem_of_lookup
abbrev dI:=@PySem.wpAny_truthy_bool
abbrev dJ:=@Int.toNat_natCast
abbrev cY:=@List.sum_cons
abbrev bW:=@Ne.symm
abbrev dF:=@List.mem_filter
abbrev fJ:=@PyProof.Rows.callWith_type1
abbrev dU:=@List.mem_filterMap
abbrev eY:=@PyProof.Rows.boot_dict
abbrev dX:=@PySem.wpAny_newObj_type
abbrev eM:=@beq_eq_false_iff_ne
abbrev eN:=@List.filterMap_cons
abbrev eP:=@List.map_congr_left
abbrev eQ:=@Int.toNat_of_nonneg
abbrev dN:=@List.length_zip
abbrev eZ:=@List.getElem?_eq_none
abbrev e_:=@PyProof.Rows.boot_str
abbrev dY:=@List.cons_append
abbrev cZ:=@PySem.sizeLine_eq
abbrev fV:=@PySem.F.slot_dict_keyiterator_next
abbrev dZ:=@List.nodup_cons
abbrev d_:=@Nat.min_eq_left
abbrev fA:=@List.replicate_succ
abbrev c_:=@PySem.wpAny_mono
abbrev dO:=@Bool.and_self
abbrev eR:=@List.getElem_inj
abbrev eS:=@List.ext_getElem
abbrev cB:=@Or.inr
abbrev fK:=@List.take_append_drop
abbrev fL:=@PySem.F.slot_dict_get
abbrev fB:=@List.pairwise_map
abbrev eE:=@PySem.wpAny_holding
abbrev hV:=@List.getLast?_eq_some_getLast
abbrev hX:=@PySem.wpAny_typeNameOfWhole_keyiter
abbrev fW:=@PySem.wpAny_callSpecial?_slot
abbrev fX:=@List.length_eq_zero_iff
abbrev fY:=@PyProof.Rows.boot_tuple
abbrev fC:=@PySem.wpAny_call_entry
abbrev fD:=@Bool.and_eq_true
abbrev dP:=@Nat.le_succ
abbrev fZ:=@List.length_eq_one_iff
abbrev f_:=@List.drop_of_length_le
abbrev eG:=@Nat.zero_add
abbrev fE:=@PySem.wpAny_passesOwn
abbrev fF:=@Bool.eq_iff_iff
abbrev fG:=@List.of_mem_zip
abbrev fO:=@List.nodup_append
abbrev dQ:=@True.intro
abbrev gP:=@Nat.pow_le_pow_right
abbrev h_:=@List.pairwise_iff_getElem
abbrev fP:=@Nat.lt_succ_self
abbrev eV:=@PySem.codeAny_mono
abbrev eW:=@List.map_nil
abbrev fQ:=@List.getElem_zip
abbrev eX:=@PySem.F.called_set
abbrev iA:=@PySem.wpAny_typeNameOf_keyiter
abbrev gQ:=@Array.length_toList
abbrev gR:=@List.length_pos_iff
abbrev iN:=@PyProof.Rows.slot_tuple_getitem
abbrev iB:=@PySem.wpAny_getItem_str_slice
abbrev iC:=@PySem.F.plainAttrs_dict
abbrev gT:=@PySem.wpAny_Call_Name_kw
abbrev eI:=@Nat.mod_lt
abbrev fR:=@List.sum_append
abbrev fS:=@PyProof.Rows.KeyOrd.kle_refl
abbrev fT:=@Nat.le_add_left
abbrev gU:=@List.filter_append
abbrev dH:=@if_false
abbrev iD:=@PySem.Calls.callWith_builtin
abbrev iE:=@PySem.F.entry_dict_get
abbrev iF:=@PySem.F.plainAttrs_str
abbrev gW:=@PySem.wpAny_pyIter_list
abbrev gX:=@List.length_range
abbrev fU:=@PySem.Heap.size_push
abbrev iO:=@PyProof.Rows.boot_isinstance
abbrev iG:=@PySem.F.slot_enumerate_next
abbrev iH:=@List.mem_of_mem_drop
abbrev iI:=@PySem.Around.under_plainId
abbrev gY:=@List.any_eq_true
abbrev gZ:=@Nat.min_eq_right
abbrev dR:=@true_and
abbrev g_:=@List.filter_cons
abbrev iP:=@List.getElem?_append_right
abbrev fH:=@Prod.mk.inj
abbrev iJ:=@List.getElem_of_mem
abbrev hG:=@PySem.codeAny_builtin
abbrev hJ:=@List.nil_append
abbrev iQ:=@Decidable.byContradiction
abbrev iK:=@PySem.W.callWith_K
abbrev iL:=@Bool.false_eq_true
abbrev iM:=@List.foldl_append
abbrev Fg:=PySem.W.Frag
noncomputable section
set_option Elab.async false
set_option linter.all false
set_option maxRecDepth 100000
variable{us ds:List PySem.Value}{a b it f l r C dx T d c1 acc I fI lw lm bd fa T1:PySem.Addr}{o ob:PySem.Obj}{u doc pm cdv ct oc vl vu key:PySem.Value}{P prog:PySem.Program}{w:PySem.World}{h' base:PySem.Heap}{x name qual:PySem.Str}{e tg iter value elt e1 e2:PySem.Expr}{s s':PySem.Shared}{g':Array PySem.GenState}{t' i j c n k' k1 ep there first:Nat}{d':PySem.Drawn}{ch fp Ts:List PySem.Addr}{M:PySem.Model}{A:PySem.Around}{E Q QQ:PySem.Value->PySem.Shared->Prop}{t rest L written z cap kd mo kind:List Nat}{pos pos' tpos apos p2 cpos px py p0 p1 p3 p4:PySem.Pos}{op:PySem.Operator}{es ifs elts:List PySem.Expr}{body:List PySem.Stmt}{hi:Option PySem.Expr}{p:Array Nat}{R:PySem.Result->PySem.Shared->Prop}{mA mg:PySem.Str->Option PySem.Value}{pl:PySem.Sem Bool}{ns ps loose caps:List PySem.Str}{kw:List (PySem.Str×PySem.Value)}{env:PySem.Env}{outer:List PySem.Env}{kws:List PySem.Keyword}{kindOf:PySem.Str->Option PySem.NameKind}{sc scope:PySem.Scope}{an od:Option PySem.Addr}{osl sl:Array (Option PySem.Value)}{items its:Array PySem.Value}{q:List Nat×PySem.Addr}{XP:(PySem.Str->Option PySem.Value)->PySem.Heap->Prop}{YP:PySem.World->PySem.Heap->Prop}{cl:List (PySem.Str×PySem.Addr)}{use:Option (PySem.Value->PySem.Sem Unit)}{O:PyProof.Rows.KeyOrd}{fdI:PySem.FuncData}{F:PySem.Str->Bool}{led full:Bool}
namespace L2
open PySem PySem.Spec PyProof.Rows
abbrev Key:=Sum Int Str
def Wv:Key->Value->Bool
 | .inl k,v=>Value.isInt k v
 | .inr x,v=>Value.isStrOf x v
def De(w:World):Key->Int
 | .inl k=>hashInt k
 | .inr x=>hashStr w x
theorem Q4:∀{k:Key}{v:Value},Wv k v=true->(∃i t,k=Sum.inl i/\v=Value.int i t)\/(∃x t,k=Sum.inr x/\v=Value.str x t)
 | .inl i,v,h=>by
  obtain⟨t,e⟩:=Value.isInt_shape (k:=i) (v:=v) h;exact .inl ⟨i,t,rfl,e⟩
 | .inr x,v,h=>by
  obtain⟨t,e⟩:=Value.isStrOf_shape (x:=x) (v:=v) h;exact .inr ⟨x,t,rfl,e⟩
theorem Nn(i:Int)(t:Tok):Wv (.inl i) (.int i t)=true:=by simp [Wv,Value.isInt]
theorem NB(x:Str)(t:Tok):Wv (.inr x) (.str x t)=true:=by simp [Wv,Value.isStrOf]
theorem BG(a b:Int):decide ((Sum.inl a:Key)=Sum.inl b)=(a==b):=by
 by_cases e:a=b
 .subst e;simp
 .have h:¬(Sum.inl a:Key)=Sum.inl b:=λq=>e (Sum.inl.inj q);rw [bM h];exact(eM.mpr e).symm
theorem Bb(a b:Str):decide ((Sum.inr a:Key)=Sum.inr b)=decide (a=b):=by
 by_cases e:a=b
 .subst e;simp
 .have h:¬(Sum.inr a:Key)=Sum.inr b:=λq=>e (Sum.inr.inj q);rw [bM h,bM e]
theorem Bi(a:Int)(b:Str):decide ((Sum.inl a:Key)=Sum.inr b)=false:=bM (λq=>nomatch q)
theorem Bn(a:Str)(b:Int):decide ((Sum.inr a:Key)=Sum.inl b)=false:=bM (λq=>nomatch q)
def QH(prog:Program)(w:World):PySem.KeyKind prog w Key where
 is:=Wv
 hash:=De w
 inj:=λv a b ha hb=>by
  rcases Q4 ha with⟨i,t,rfl,rfl⟩ | ⟨x,t,rfl,rfl⟩
  .rcases Q4 hb with⟨j,u,rfl,e⟩ | ⟨y,u,rfl,e⟩
   .injection e with e1 _;rw [e1]
   .exact nomatch e
  .rcases Q4 hb with⟨j,u,rfl,e⟩ | ⟨y,u,rfl,e⟩
   .exact nomatch e
   .injection e with e1 _;rw [e1]
 byValue:=λk v h=>by
  rcases Q4 h with⟨i,t,rfl,rfl⟩ | ⟨x,t,rfl,rfl⟩<;>rfl
 pyHash:=λhv h=>by
  rcases Q4 hv with⟨i,t,rfl,rfl⟩ | ⟨x,t,rfl,rfl⟩
  .exact wpAny_pyHash_int h
  .exact wpAny_pyHash_str h
 eqBool:=λhu hv h=>by
  rcases Q4 hu with⟨i,t,rfl,rfl⟩ | ⟨x,t,rfl,rfl⟩
  .rcases Q4 hv with⟨j,u,rfl,rfl⟩ | ⟨y,u,rfl,rfl⟩
   .rw [BG]at h;exact wpAny_eqBool_int h
   .rw [Bi]at h;exact SeqAt.EqAt.int_str i t y u _ _ _ _ h
  .rcases Q4 hv with⟨j,u,rfl,rfl⟩ | ⟨y,u,rfl,rfl⟩
   .rw [Bn]at h;exact SeqAt.EqAt.str_int x t j u _ _ _ _ h
   .rw [Bb]at h;exact wpAny_eqBool_str h
 «strs»:=λk x t v h=>by
  rcases Q4 h with⟨i,u,rfl,e⟩ | ⟨y,u,rfl,e⟩
  .exact nomatch e
  .injection e with e1 _;subst e1;cases v<;>rfl
theorem Ga(prog:Program)(w:World)(i:Int)(t:Tok):(QH prog w).is (.inl i) (.int i t)=true:=Nn i t
theorem Go(prog:Program)(w:World)(x:Str)(t:Tok):(QH prog w).is (.inr x) (.str x t)=true:=NB x t
inductive V where
 | non | bl (b:Bool) | int (i:Int) | str (x:Str) | byt (b:Array UInt8) | flt (b:UInt64) | ref (a:Addr) | ty (n:String)
 deriving DecidableEq
def RelV:V->Value->Prop
 | .non,u=>u=Value.none
 | .bl b,u=>u=Value.bool b
 | .int i,u=>∃t,u=Value.int i t
 | .str x,u=>∃t,u=Value.str x t
 | .byt b,u=>∃t,u=Value.bytes b t
 | .flt b,u=>∃t,u=Value.float b t
 | .ref a,u=>u=Value.ref a
 | .ty n,u=>u=Value.type n
abbrev Vals:List V->List Value->Prop:=Paired RelV
theorem Vals.length{xs:List V}(r:Vals xs us):xs.length=us.length:=Paired.length r
theorem Vals.get:∀{xs:List V}{us:List Value}{i:Nat}{x:V},Vals xs us->xs[i]?=some x->∃u,us[i]?=some u/\RelV x u
 | _,_,_,_,.nil,e=>by simp at e
 | _,_,0,_,.cons r _,e=>by simp at e;subst e;exact⟨_,rfl,r⟩
 | _,_,i+1,x,.cons _ t,e=>by
  obtain⟨u,h1,h2⟩:=Vals.get (i:=i) (x:=x) t (by simpa using e);exact⟨u,by simpa using h1,h2⟩
theorem Vals.append:∀{xs ys:List V}{us ws:List Value},Vals xs us->Vals ys ws->Vals (xs++ys) (us++ws)
 | _,_,_,_,.nil,s=>s
 | _,_,_,_,.cons r t,s=>.cons r (Vals.append t s)
theorem Vals.take:∀{xs:List V}{us:List Value}(n:Nat),Vals xs us->Vals (xs.take n) (us.take n)
 | _,_,0,_=>.nil
 | _,_,_+1,.nil=>.nil
 | _,_,n+1,.cons r t=>.cons r (Vals.take n t)
theorem Vals.drop:∀{xs:List V}{us:List Value}(n:Nat),Vals xs us->Vals (xs.drop n) (us.drop n)
 | _,_,0,r=>r
 | _,_,_+1,.nil=>.nil
 | _,_,n+1,.cons _ t=>Vals.drop n t
theorem Vals.none_of:∀{xs:List V}{us:List Value}{i:Nat},Vals xs us->xs[i]?=none->us[i]?=none:=λ{xs us i} r e=>by
 have h1:=r.length;have h2:xs.length<=i:=List.getElem?_eq_none_iff.mp e;exact List.getElem?_eq_none_iff.mpr (10:)
def RelO:Option V->Option Value->Prop
 | some v,some u=>RelV v u
 | none,none=>True
 | _,_=>False
def KV{κ:Type}:List (κ×V)->List (κ×Value)->Prop:=Paired λ(p:κ×V)(q:κ×Value)=>p.1=q.1/\RelV p.2 q.2
def kV:Key->V
 | .inl i=>.int i
 | .inr x=>.str x
inductive HO where
 | lst (xs:List V)
 | tup (xs:List V)
 | dK (kvs:List (Key×V)) | dT (kvs:List (List Key×V))
 | set (S:Int->Bool) (n:Nat)
 | ins (C dx:Addr) (fs:List (Str×V))
 | own (x:Addr)
 | xd (fs:List (Str×V))
 | met (f x:Addr)
 | rng (lo hi:Int)
 | frz (o:Obj) (u:HO)
 | tbl (ps:Array Value)
 | ext (φ:Heap->Prop)
abbrev Hp:=Addr->Option HO
def upd(H:Hp)(a:Addr)(o:HO):Hp:=λb=>if b=a then some o else H b
theorem Qb{H:Hp}{o:HO}:upd H a o a=some o:=by unfold upd;rw [aH rfl]
theorem Qi{H:Hp}{o:HO}(h:b≠a):upd H a o b=H b:=by unfold upd;rw [aF h]
theorem ne_of{H:Hp}{o u:HO}(h:H a=some o)(h':H b=some u)(d:o≠u):a≠b:=by
 intro e;subst e;rw [h]at h';exact d (aK h')
theorem Qg{H:Hp}{o:HO}(h:H a=some o)(h':H b=none):a≠b:=by
 intro e;subst e;rw [h]at h';cases h'
section
variable(P:Program)(w:World)
def ObjOk(H:Hp)(h:Heap)(a:Addr):HO->Prop
 | .lst xs=>xs.length<=sizeLine/\∃(its:List Value)(n:Nat),Vals xs its/\h.get? a=some { cls:=.type "list",data:=.seq its.toArray n }
 | .tup xs=>xs.length<=sizeLine/\∃its:List Value,Vals xs its/\IsTup h a its.toArray
 | .dK kvs=>kvs.length<=sizeLine/\(a==sysModules)=false/\∃vs,KV kvs vs/\h.DictOf (QH P w) a vs
 | .dT kvs=>kvs.length<=sizeLine/\(a==sysModules)=false/\∃xs:List (List Key×Addr×Value),
  Paired (λ(p:List Key×V)(q:List Key×Addr×Value)=>p.1=q.1/\H q.2.1=some (.tup (p.1.map kV))/\RelV p.2 q.2.2) kvs xs/\
  ∃o es ep,h.get? a=some o/\o.ExactDict/\o.data=.dict es ep/\es.toList=xs.map (entryOfKey (tupleKind (QH P w)))/\(xs.map (·.1)).Nodup
 | .set S n=>h.SetOf (intKind P w) a S n
 | .ins C dx fs=>H dx=some (.own a)/\fs.length<=1000/\dx≠a/\h.get? a=some (PySem.W.instObj C dx)/\
  ∃mA,h.Ns1 dx mA/\(∀f,RelO (fs.lookup f) (mA f))/\PySem.Within mA (fs.map (·.1))
 | .own _=>∃o,h.get? a=some o
 | .xd fs=>∃mA,h.Ns1 a mA/\∀f,RelO (fs.lookup f) (mA f)
 | .rng lo hi=>∃t u v,h.get? a=some { cls:=.type "range",data:=.fields #[.int lo t,.int hi u,.int 1 v] }
 | .frz o u=>h.get? a=some o/\ObjOk H h a u
 | .tbl ps=>h.get? a=some { cls:=.none,data:=.fields ps }
 | .met f x=>h.get? a=some (PySem.W.methodObj (.ref f) (.ref x))
 | .ext φ=>φ h/\(∃o,h.get? a=some o)/\∀h1 h2:Heap,φ h1->(∀o,h1.get? a=some o->h2.get? a=some o)->φ h2
def HOk(H:Hp)(h:Heap):Prop:=∀a o,H a=some o->ObjOk P w H h a o
end
section
variable{H H':Hp}{h:Heap}{o:HO}
theorem ObjOk.lt(x:ObjOk P w H h a o):a<h.objs.size:=by
 cases o with
 | lst xs=>obtain⟨_,_,_,_,e⟩:=x;exact aN e
 | tup xs=>obtain⟨_,_,_,p⟩:=x;exact p.lt
 | dK kvs=>obtain⟨_,_,_,_,o,_,_,e,_⟩:=x;exact aN e
 | dT kvs=>obtain⟨_,_,_,_,o,_,_,e,_⟩:=x;exact aN e
 | set S n=>obtain⟨o,_,_,_,e,_⟩:=x;exact aN e
 | ins C dx fs=>obtain⟨_,_,_,e,_⟩:=x;exact aN e
 | own y=>obtain⟨_,e⟩:=x;exact aN e
 | xd fs=>obtain⟨_,⟨_,_,_,e,_⟩,_⟩:=x;exact aN e
 | rng lo hi=>obtain⟨_,_,_,e⟩:=x;exact aN e
 | frz j u=>obtain⟨e,_⟩:=x;exact aN e
 | tbl ps=>exact aN (show h.get? a=some _ from x)
 | met f y=>exact aN (show h.get? a=some _ from x)
 | ext F=>obtain⟨_,⟨_,e⟩,_⟩:=x;exact aN e
theorem Paired.mapP{α β:Type}{F G:α->β->Prop}:∀{l₁:List α}{l₂:List β},Paired F l₁ l₂->(∀a b,F a b->G a b)->Paired G l₁ l₂
 | _,_,.nil,_=>.nil
 | _,_,.cons r t,f=>.cons (f _ _ r) (Paired.mapP t f)
theorem ObjOk.stay(x:ObjOk P w H h a o)(k:∀b u,(b=a\/H b=some (.own a))->h.get? b=some u->h'.get? b=some u)
 (ho:∀b,H b=some (.own a)->H' b=some (.own a)) (ht:∀b xs,H b=some (.tup xs)->H' b=some (.tup xs)):ObjOk P w H' h' a o:=by
 induction o with
 | lst xs=>obtain⟨z,its,n,r,e⟩:=x;exact⟨z,its,n,r,k _ _ (.inl rfl) e⟩
 | tup xs=>obtain⟨z,its,r,j,e,c⟩:=x;exact⟨z,its,r,j,k _ _ (.inl rfl) e,c⟩
 | dK kvs=>obtain⟨z,y,G,r,j,es,ep,e,c⟩:=x;exact⟨z,y,G,r,j,es,ep,k _ _ (.inl rfl) e,c⟩
 | dT kvs=>
  obtain⟨z,y,xs,r,j,es,ep,e,c⟩:=x;exact⟨z,y,xs,Paired.mapP r λp q z=>⟨z.1,ht _ _ z.2.1,z.2.2⟩,j,es,ep,k _ _ (.inl rfl) e,c⟩
 | set S n=>obtain⟨j,es,ep,t,e,c⟩:=x;exact⟨j,es,ep,t,k _ _ (.inl rfl) e,c⟩
 | ins C dx fs=>
  obtain⟨d,z,ne,e,mA,⟨F,es,ep,e2,c⟩,r⟩:=x;exact⟨ho _ d,z,ne,k _ _ (.inl rfl) e,mA,⟨F,es,ep,k _ _ (.inr d) e2,c⟩,r⟩
 | own y=>obtain⟨j,e⟩:=x;exact⟨j,k _ _ (.inl rfl) e⟩
 | xd fs=>obtain⟨mA,⟨F,es,ep,e,c⟩,r⟩:=x;exact⟨mA,⟨F,es,ep,k _ _ (.inl rfl) e,c⟩,r⟩
 | rng lo hi=>obtain⟨t,u,v,e⟩:=x;exact⟨t,u,v,k _ _ (.inl rfl) e⟩
 | frz j u J=>obtain⟨e,q⟩:=x;exact⟨k _ _ (.inl rfl) e,J q⟩
 | tbl ps=>
  have e:h.get? a=some { cls:=.none,data:=.fields ps }:=x;show h'.get? a=some { cls:=.none,data:=.fields ps };exact k a _ (.inl rfl) e
 | met f y=>
  have e:h.get? a=some (PySem.W.methodObj (.ref f) (.ref y)):=x;show h'.get? a=some (PySem.W.methodObj (.ref f) (.ref y));exact k a _ (.inl rfl) e
 | ext L=>obtain⟨p,⟨o,e⟩,st⟩:=x;exact⟨st _ _ p λo q=>k _ _ (.inl rfl) q,⟨o,k _ _ (.inl rfl) e⟩,st⟩
theorem HOk.lt(x:HOk P w H h)(e:H a=some o):a<h.objs.size:=(x a o e).lt
theorem HOk.fresh(x:HOk P w H h)(e:h.objs.size<=a):H a=none:=by
 cases q:H a with
 | none=>rfl
 | some u=>exact absurd (bU (x.lt q) e) (cO _)
theorem HOk.kept(x:HOk P w H h)(k:∀b u,h.get? b=some u->h'.get? b=some u):HOk P w H h':=λa o e=>
 (x a o e).stay (λb u _ q=>k b u q) (λ_ q=>q) λ_ _ q=>q
theorem HOk.laid(x:HOk P w H h)(k:∀b u,h.get? b=some u->h'.get? b=some u)(hp:h.objs.size<=a)(new:ObjOk P w (upd H a o) h' a o):HOk P w (upd H a o) h':=λb u e=>by
 have hn:=x.fresh hp
 by_cases j:b=a
 .subst j;rw [Qb]at e;cases e;exact new
 .rw [Qi j]at e;exact(x b u e).stay (λc v _ q=>k c v q) (λc q=>by rw [Qi (Qg q hn)];exact q) λc xs q=>by rw [Qi (Qg q hn)];exact q
end
def Rd(H:Hp)(a:Addr)(u:HO):Prop:=H a=some u\/∃o,H a=some (.frz o u)
theorem Rd.ok{H:Hp}{h:Heap}{u:HO}(r:Rd H a u)(x:HOk P w H h):ObjOk P w H h a u:=by
 rcases r with r | ⟨o,r⟩
 .exact x a u r
 .obtain⟨_,q⟩:=x a _ r;exact q
def Mut:Option HO->Prop
 | some (.lst _)=>True
 | some (.dK _)=>True
 | some (.dT _)=>True
 | some (.set _ _)=>True
 | some (.ins _ _ _)=>True
 | some (.ext _)=>True
 | _=>False
section
variable{H:Hp}{h:Heap}{x e:Addr}{o':HO}
theorem HOk.write(ok:HOk P w H h)(mu:Mut (H x))(he:e=x\/H e=some (.own x))(k:∀b u,b≠e->h.get? b=some u->h'.get? b=some u)(heo:∃u,h'.get? e=some u)
 (new:ObjOk P w (upd H x o') h' x o'):HOk P w (upd H x o') h':=λb u q=>by
 have F:∀c y,H c=some (.own y)->c≠x:=λc y r z=>by subst z;rw [r]at mu;exact mu
 have J:∀c xs,H c=some (.tup xs)->c≠x:=λc xs r z=>by subst z;rw [r]at mu;exact mu
 by_cases G:b=x
 .subst G;rw [Qb]at q;cases q;exact new
 .rw [Qi G]at q
  by_cases j:b=e
  .have L:H b=some (.own x):=by
    rcases he with z | z
    .exact absurd (j.trans z) G
    .rw [j];exact z
   rw [q]at L;cases L;obtain⟨v,M⟩:=heo;exact⟨v,by rw [j];exact M⟩
  .refine(ok b u q).stay (λc v hc r=>k c v ?_ r) (λc r=>by rw [Qi (F c b r)];exact r) λc xs r=>by rw [Qi (J c xs r)];exact r
   rcases hc with rfl | hc
   .exact j
   .rintro rfl;rcases he with z | z
    .exact F c b hc z
    .rw [hc]at z;cases z;exact G rfl
end
structure Un(fs ex:List Addr)(H H':Hp)(h h':Heap):Prop where
 keep:∀b o,h.get? b=some o->H b=none->b∉fs->b∉ex->h'.get? b=some o
 slot:∀b o,h.get? b=some o->H b=none->b∈fs->b∉ex->∃sl,h'.get? b=some { o with slots:=sl }
 free:∀b o,h.get? b=some o->H b=none->b∉ex->H' b=none
 there:∀b o,h.get? b=some o->b∉ex->∃o',h'.get? b=some o'
 tups:∀b xs,H b=some (.tup xs)->H' b=some (.tup xs)
 frzs:∀b o u,H b=some (.frz o u)->H' b=some (.frz o u)
 tbls:∀b ps,H b=some (.tbl ps)->∃more,H' b=some (.tbl (ps++more))
section
variable{fs fs' ex ex':List Addr}{H H1 H2:Hp}{h h1 h2:Heap}{x e:Addr}{o:HO}
theorem Un.any(u:Un fs ex H H1 h h1)(q:h.get? b=some ob)(n:H b=none)(hx:b∉ex):∃sl,h1.get? b=some { ob with slots:=sl }:=by
 by_cases j:b∈fs
 .exact u.slot b ob q n j hx
 .exact⟨ob.slots,u.keep b ob q n j hx⟩
theorem Un.kept(k:∀b u,h.get? b=some u->h'.get? b=some u):Un fs ex H H h h':=
 ⟨λb j q _ _ _=>k b j q,λb j q _ _ _=>⟨j.slots,k b j q⟩,λ_ _ _ n _=>n,λb j q _=>⟨j,k b j q⟩,λ_ _ q=>q,λ_ _ _ q=>q,λ_ ps q=>⟨#[],by rw [q];simp⟩⟩
theorem Un.refl:Un fs ex H H h h:=Un.kept λ_ _ q=>q
theorem Un.laid(k:∀b u,h.get? b=some u->h'.get? b=some u)(hp:h.objs.size<=a)(hn:H a=none):Un fs ex H (upd H a o) h h' where
 keep:=λb u q _ _ _=>k b u q
 slot:=λb u q _ _ _=>⟨u.slots,k b u q⟩
 free:=λb u q n _=>by rw [Qi (aY (bU (aN q) hp))];exact n
 there:=λb u q _=>⟨u,k b u q⟩
 tups:=λb xs q=>by rw [Qi (Qg q hn)];exact q
 frzs:=λb u xs q=>by rw [Qi (Qg q hn)];exact q
 tbls:=λb ps q=>⟨#[],by rw [Qi (Qg q hn),q];simp⟩
theorem Un.write(mu:Mut (H x))(he:e=x\/H e=some (.own x))(k:∀b u,b≠e->h.get? b=some u->h'.get? b=some u)(heo:∃u,h'.get? e=some u):Un fs ex H (upd H x o) h h':=by
 have G:∀b,H b=none->b≠x:=λb n z=>by subst z;rw [n]at mu;exact mu
 have J:∀b,H b=none->b≠e:=λb n z=>by
  subst z;rcases he with r | r
  .exact G b n r
  .rw [n]at r;cases r
 have F:∀b u,H b=some u->¬Mut (some u)->b≠x:=λb u q nm z=>by subst z;rw [q]at mu;exact nm mu
 refine⟨λb u q n _ _=>k b u (J b n) q,λb u q n _ _=>⟨u.slots,k b u (J b n) q⟩,λb u q n _=>by rw [Qi (G b n)];exact n,λb u q _=>?_,λb xs q=>by rw [Qi (F b _ q λz=>z)];exact q,λb u xs q=>by rw [Qi (F b _ q λz=>z)];exact q,λb ps q=>⟨#[],by rw [Qi (F b _ q λz=>z),q];simp⟩⟩
 by_cases j:b=e
 .subst j;exact heo
 .exact⟨u,k b u j q⟩
end
def trk(h:Heap)(H:Hp):List Addr:=(List.range h.objs.size).filter λa=>(H a).isSome
def XO(h:Heap)(H:Hp):Heap:=PySem.W.hideAll h (trk h H)
theorem NO(h:Heap)(H:Hp):(XO h H).objs.size=h.objs.size:=PySem.W.hideAll_size _ _
theorem Sa{h:Heap}{H:Hp}(e:h.get? b=some o)(n:H b=none):(XO h H).get? b=some o:=
 PySem.W.hideAll_get _ e λj=>by
  have q:(H b).isSome=true:=(dF.mp j).2;rw [n]at q;simp at q
theorem Sk{h:Heap}{H:Hp}(e:(XO h H).get? b=some o):h.get? b=some o/\H b=none:=by
 have j:h.get? b=some o:=PySem.W.of_hideAll (trk h H) e;refine⟨j,?_⟩;cases q:H b with
 | none=>rfl
 | some x=>
  have F:b∈trk h H:=dF.mpr ⟨cN.mpr (aN j),by simp [q]⟩;have z:(XO h H).get? b=none:=PySem.W.hideAll_none (trk h H) F;rw [z]at e;cases e
end L2
variable{xs ys vs dvs zs:List L2.V}{H H' H1 H2 Ho:L2.Hp}{v y:L2.V}{kvs:List (L2.Key×L2.V)}{Pv:Nat->List L2.V->L2.Hp->Prop}{Z:L2.Hp->Prop}
namespace L2
open PySem PySem.Spec PyProof.Rows
structure Mod(K:Fg)(mg:Str->Option Value)(base:Heap):Prop where
 kin:K.In base
 glob:base.Ns mainGlobals mg
 blt:∃mb,base.Ns builtinsNs mb/\∀x:Str,x≠"__name__"->mb x=bootBuiltins x
 nolimit:base.NoLimit
structure Cx where
 prog:Program
 w:World
 K:Fg
 mg:Str->Option Value
 base:Heap
 A:Around
 N:List Str
 s0:Shared
 H₀:Hp
 env:Env
 outer:List Env
 stack:List Env
 ex:List Addr
 fn:Str->Bool
 calm:Bool
 pn:List (13:)
 xe:Value->Shared->Prop
def frs(l:List Env):List Addr:=l.filterMap (·.frame)
abbrev Cx.fs(X:Cx):List Addr:=frs X.outer
def Vis(sc:Scope)(x:Str):Prop:=sc.names.lookup x=some .local\/sc.names.lookup x=some .cell\/sc.names.lookup x=some .free
def Loc(sc:Scope)(x:Str):Prop:=sc.names.lookup x=some .local\/sc.names.lookup x=some .cell
def Dg(env:Env)(h:Heap)(m:Str->Option Value)(x:Str)(u:Value):Prop:=
 (env.kindOf x=some .local/\m x=some u)\/((env.kindOf x=some .cell\/env.kindOf x=some .free)/\∃c,env.cells.lookup x=some c/\h.IsCell c (some u))
structure Cx.Ok(X:Cx):Prop where
 mod:Mod X.K X.mg X.base
 kind:X.env.scope.kind=.function
 glob:X.env.globals=mainGlobals
 blt:X.env.builtins=builtinsNs
 above:X.s0.heap.objs.size<=X.env.locals
 inj:∀x y c,X.env.cells.lookup x=some c->X.env.cells.lookup y=some c->x=y
 has:∀x,(X.env.kindOf x=some .cell\/X.env.kindOf x=some .free)->∃c,X.env.cells.lookup x=some c
 cab:∀x c,X.fn x=true->X.env.cells.lookup x=some c->X.s0.heap.objs.size<=c
 hd:X.calm=true->X.A.handled=none
 frames:X.A.frames=some X.stack
 stk:X.stack=X.outer\/(X.stack=X.env::X.outer/\X.env.frame=some X.env.locals)
 exf:∀b∈X.ex,b≠X.env.locals/\∀x c,X.env.cells.lookup x=some c->c≠b
 bs:∀b o,X.base.get? b=some o->X.s0.heap.get? b=some o/\X.H₀ b=none
 bsz:X.base.objs.size<=X.s0.heap.objs.size
 noex:∀b o,X.base.get? b=some o->b∉X.ex
 exfs:∀b∈X.ex,b∉X.fs
 funs:X.s0.heap.FunFrames X.base X.outer
 frf:∀b∈X.fs,X.H₀ b=none
structure Inv(X:Cx)(pins:List (13:))(σ:List (Option V))(H:Hp)(s:Shared):Prop where
 ok:X.Ok
 os:s.os=X.s0.os
 bare:AllBare s.gens
 base:Un X.fs X.ex X.H₀ H X.s0.heap s.heap
 loc:∃m,s.heap.Ns X.env.locals m/\∀(i:Nat)(x:Str)(v:V),X.N[i]?=some x->σ[i]?=some (some v)->Vis X.env.scope x->∃u,RelV v u/\Dg X.env s.heap m x u
 cell:∀x c,X.env.cells.lookup x=some c->∃v,s.heap.IsCell c v
 free:H X.env.locals=none
 freeC:∀x c,X.env.cells.lookup x=some c->H c=none
 pin:∀p∈X.pn++pins,s.heap.get? p.1=some p.2/\H p.1=none/\p.1≠X.env.locals/\p.1∉X.fs/\∀v,p.2.data≠.cell v
 hok:HOk X.prog X.w H s.heap
 len:σ.length=X.N.length
section
variable{X:Cx}{pins:List (13:)}{σ:List (Option V)}
theorem Cx.Ok.nofr(ok:X.Ok)(e:X.base.get? b=some o):b∉X.fs:=λj=>by
 have:=(ok.funs.mem j).1;rw [e]at this;cases this
theorem Inv.bs(I:Inv X pins σ H s):∀b o,X.base.get? b=some o->s.heap.get? b=some o/\H b=none:=λb o e=>
 ⟨I.base.keep b o (I.ok.bs b o e).1 (I.ok.bs b o e).2 (I.ok.nofr e) (I.ok.noex b o e),I.base.free b o (I.ok.bs b o e).1 (I.ok.bs b o e).2 (I.ok.noex b o e)⟩
theorem Inv.bk(I:Inv X pins σ H s):∀b o,X.base.get? b=some o->s.heap.get? b=some o:=λb o e=>(I.bs b o e).1
theorem Inv.mod(I:Inv X pins σ H s):Mod X.K X.mg X.base:=I.ok.mod
theorem Inv.kIn(I:Inv X pins σ H s):X.K.In s.heap:=I.ok.mod.kin.keeps I.bk
theorem Inv.lt(I:Inv X pins σ H s):X.env.locals<s.heap.objs.size:=let⟨_,hn,_⟩:=I.loc;hn.lt
theorem Inv.sz(I:Inv X pins σ H s):X.s0.heap.objs.size<=s.heap.objs.size:=bL I.ok.above (cD I.lt)
theorem Inv.nofs(I:Inv X pins σ H s)(h:s.heap.objs.size<=a):a∉X.fs:=λj=>by
 obtain⟨_,o,F,_⟩:=I.ok.funs.mem j;exact absurd (bU (aN F) (bL I.sz h)) (cO _)
theorem Inv.cne(I:Inv X pins σ H s):∀x c,X.env.cells.lookup x=some c->c≠X.env.locals:=λx c e z=>by
 obtain⟨v,o,j,F⟩:=I.cell x c e;obtain⟨m,⟨o',es,ep,G,J,_⟩,_⟩:=I.loc;rw [z,G]at j;cases j;rw [J]at F;cases F
theorem Inv.funs(I:Inv X pins σ H s):s.heap.FunFrames X.base X.outer:=by
 have all:∀(l:List Env),(∀b∈frs l,b∈X.fs)->X.s0.heap.FunFrames X.base l->s.heap.FunFrames X.base l:=by
  intro l
  induction l with
  | nil=>intro _ _;trivial
  | cons env r M=>
   intro J hl;obtain⟨U,⟨L,o,j,hn,Y,hd⟩,hr⟩:=hl;have F:L∈X.fs:=J L (by unfold frs;rw [eN,j];exact aL);obtain⟨sl,e⟩:=I.base.slot L o Y (I.ok.frf L F) F λz=>I.ok.exfs L z F;exact⟨U,⟨L,_,j,hn,e,hd⟩,M (λb G=>J b (by unfold frs;rw [eN,j];exact aU _ G)) hr⟩
 exact all X.outer (λ_ G=>G) I.ok.funs
theorem Inv.stack(I:Inv X pins σ H s):s.heap.FunFrames X.base X.stack:=by
 rcases I.ok.stk with e | ⟨e,j⟩
 .rw [e];exact I.funs
 .rw [e];obtain⟨m,hn,_⟩:=I.loc;refine .cons (by rw [I.ok.kind];decide) j hn ?_ I.funs;exact Heap.get?_none_of_le (bL I.ok.bsz I.ok.above)
theorem Inv.stkSub(I:Inv X pins σ H s):∀b∈frs X.stack,b∈X.env.locals::X.fs:=λb j=>by
 rcases I.ok.stk with e | ⟨e,F⟩
 .rw [e]at j;exact aU _ j
 .rw [e]at j;unfold frs at j;rw [eN,F]at j;exact j
theorem Inv.stkFree(I:Inv X pins σ H s):∀b∈frs X.stack,H b=none:=λb hb=>by
 rcases aQ.mp (I.stkSub b hb)with e | hb
 .rw [e];exact I.free
 .obtain⟨_,o,j,_⟩:=I.ok.funs.mem hb;exact I.base.free b o j (I.ok.frf b hb) λz=>I.ok.exfs b z hb
theorem Inv.step(I:Inv X pins σ H s)
 (hch:∀b∈ch,(b∈X.ex\/X.s0.heap.objs.size<=b)/\b≠X.env.locals/\(∀x c,X.env.cells.lookup x=some c->c≠b)/\∀p∈X.pn++pins,p.1≠b)
 (keep:∀b o,b≠X.env.locals->b∉X.fs->b∉ch->s.heap.get? b=some o->H b=none->h'.get? b=some o)
 (slot:∀b o,b≠X.env.locals->b∈X.fs->b∉ch->s.heap.get? b=some o->H b=none->∃sl,h'.get? b=some { o with slots:=sl }) (free:∀b o,b∉ch->s.heap.get? b=some o->H b=none->H' b=none)
 (there:∀b o,b∉ch->s.heap.get? b=some o->∃o',h'.get? b=some o')
 (tups:∀b xs,H b=some (.tup xs)->H' b=some (.tup xs)) (frzs:∀b o u,H b=some (.frz o u)->H' b=some (.frz o u)) (tbls:∀b ps,H b=some (.tbl ps)->∃more,H' b=some (.tbl (ps++more)))
 (ns:∀m,s.heap.Ns X.env.locals m->h'.Ns X.env.locals m) (hok:HOk X.prog X.w H' h') (hg:AllBare g'):
 Inv X pins σ H' { s with heap:=h',gens:=g',drawn:=d',toks:=t' }:=by
 have U:∀b o,X.s0.heap.get? b=some o->b≠X.env.locals:=λb o e=>aY (bU (aN e) I.ok.above);have J:∀b o,X.s0.heap.get? b=some o->b∉X.ex->b∉ch:=λb o e j G=>by
  rcases(hch b G).1 with z | z
  .exact j z
  .exact absurd (bU (aN e) z) (cO _)
 have L:∀x c,X.env.cells.lookup x=some c->∀v,s.heap.IsCell c v->h'.IsCell c v:=λx c e v ⟨o,M,Y⟩=>by
  have F:c∉ch:=λz=>(hch c z).2.2.1 x c e rfl
  by_cases hc:c∈X.fs
  .obtain⟨sl,q⟩:=slot c o (I.cne x c e) hc F M (I.freeC x c e);exact⟨_,q,Y⟩
  .exact⟨o,keep c o (I.cne x c e) hc F M (I.freeC x c e),Y⟩
 refine⟨I.ok,I.os,hg,⟨λb o e n G j=>?_,λb o e n G j=>?_,λb o e n j=>?_,λb o e j=>?_,λb xs e=>tups b xs (I.base.tups b xs e),λb o xs e=>frzs b o xs (I.base.frzs b o xs e),λb ps e=>?_⟩,?_,λx c e=>?_,?_,λx c e=>?_,λp hp=>?_,hok,I.len⟩
 .exact keep b o (U b o e) G (J b o e j) (I.base.keep b o e n G j) (I.base.free b o e n j)
 .obtain⟨sl,e1⟩:=I.base.slot b o e n G j;obtain⟨aa,e2⟩:=slot b _ (U b o e) G (J b o e j) e1 (I.base.free b o e n j);exact⟨aa,e2⟩
 .obtain⟨o',e1⟩:=I.base.there b o e j;exact free b o' (J b o e j) e1 (I.base.free b o e n j)
 .obtain⟨o',e1⟩:=I.base.there b o e j;exact there b o' (J b o e j) e1
 .obtain⟨m1,e1⟩:=I.base.tbls b ps e;obtain⟨m2,e2⟩:=tbls b _ e1;exact⟨m1++m2,by rw [e2,Array.append_assoc]⟩
 .obtain⟨m,hn,hl⟩:=I.loc;refine⟨m,ns m hn,λi x v e1 e2 e3=>?_⟩;obtain⟨u,r,l⟩:=hl i x v e1 e2 e3;refine⟨u,r,?_⟩;rcases l with l | ⟨k,c,e,z⟩
  .exact .inl l
  .exact .inr ⟨k,c,e,L x c e _ z⟩
 .obtain⟨v,z⟩:=I.cell x c e;exact⟨v,L x c e v z⟩
 .obtain⟨m,⟨o,_,_,M,_⟩,_⟩:=I.loc;exact free _ o (λz=>(hch _ z).2.1 rfl) M I.free
 .obtain⟨v,o,M,Y⟩:=I.cell x c e;exact free c o (λz=>(hch c z).2.2.1 x c e rfl) M (I.freeC x c e)
 .obtain⟨e,n,ne,nf,d⟩:=I.pin p hp;have F:p.1∉ch:=λz=>(hch p.1 z).2.2.2 p hp rfl;exact⟨keep p.1 p.2 ne nf F e n,free p.1 p.2 F e n,ne,nf,d⟩
theorem Inv.un(I:Inv X pins σ H s)(u:Un X.fs [] H H' s.heap h')(hok:HOk X.prog X.w H' h'):Inv X pins σ H' { s with heap:=h',toks:=t' }:=by
 obtain⟨m,⟨o,es,ep,G,r⟩,_⟩:=id I.loc;obtain⟨sl,M⟩:=u.any G I.free (22:);exact I.step (g':=s.gens) (d':=s.drawn) (ch:=[]) (λ_ z=>nomatch z) (λb o _ F _ e n=>u.keep b o e n F (22:)) (λb o _ F _ e n=>u.slot b o e n F (22:)) (λb o _ e n=>u.free b o e n (22:)) (λb o _ e=>u.there b o e (22:)) u.tups u.frzs u.tbls (λm' U=>by
  obtain⟨o',J,L,j,Y⟩:=U;rw [G]at j;cases j;exact⟨_,J,L,M,Y⟩) hok I.bare
theorem Inv.call(I:Inv X pins σ H s)(u:Un (frs X.stack) ch H H' s.heap h')(hok:HOk X.prog X.w H' h')(hg:AllBare g')
 (hch:∀b∈ch,(b∈X.ex\/X.s0.heap.objs.size<=b)/\b≠X.env.locals/\(∀x c,X.env.cells.lookup x=some c->c≠b)/\∀p∈X.pn++pins,p.1≠b):
 Inv X pins σ H' { s with heap:=h',gens:=g',drawn:=d',toks:=t' }:=by
 obtain⟨m,⟨o,es,ep,J,r⟩,_⟩:=id I.loc;obtain⟨sl,G⟩:=u.any J I.free λz=>(hch _ z).2.1 rfl;exact I.step (ch:=ch) hch (λb o G U j e n=>u.keep b o e n (λz=>(aQ.mp (I.stkSub b z)).elim G U) j) (λb o _ _ j e n=>u.any e n j) (λb o j e n=>u.free b o e n j) (λb o j e=>u.there b o e j) u.tups u.frzs u.tbls (λm' Y=>by
  obtain⟨o',L,M,F,r'⟩:=Y;rw [J]at F;cases F;exact⟨_,L,M,G,r'⟩) hok hg
theorem Inv.turned(I:Inv X pins σ H s)(k:∀b o,b≠it->s.heap.get? b=some o->h'.get? b=some o)(hn:H it=none)(hL:it≠X.env.locals)
 (h1:it∈X.ex\/X.s0.heap.objs.size<=it) (h2:∀x c,X.env.cells.lookup x=some c->c≠it) (h3:∀p∈X.pn++pins,p.1≠it):Inv X pins σ H { s with heap:=h',toks:=t' }:=by
 have F:∀b u,H b=some u->b≠it:=λb u e z=>by rw [z,hn]at e;cases e
 refine I.step (g':=s.gens) (d':=s.drawn) (ch:=[it]) (λb G=>?_) (λb o _ _ j e _=>k b o (λz=>j (by simp [z])) e) (λb o _ _ j e _=>⟨o.slots,k b o (λz=>j (by simp [z])) e⟩) (λ_ _ _ _ n=>n)
  (λb o j e=>⟨o,k b o (λz=>j (by simp [z])) e⟩) (λ_ _ e=>e) (λ_ _ _ e=>e) (λb ps e=>⟨#[],by rw [e];simp⟩) (λm J=>?_) (λb u e=>?_) I.bare
 .have e:b=it:=by simpa using G
  subst e;exact⟨h1,hL,h2,h3⟩
 .obtain⟨o,es,ep,L,r⟩:=J;exact⟨o,es,ep,k _ o (bW hL) L,r⟩
 .refine(I.hok b u e).stay (λc v j q=>k c v ?_ q) (λ_ q=>q) λ_ _ q=>q;rcases j with z | z
  .rw [z];exact F b u e
  .exact F c _ z
theorem Inv.tok(I:Inv X pins σ H s)(t:Nat):Inv X pins σ H { s with toks:=t }:=I.un (h':=s.heap) (t':=t) Un.refl I.hok
theorem Inv.kept(I:Inv X pins σ H s)(k:∀b u,s.heap.get? b=some u->h'.get? b=some u):Inv X pins σ H { s with heap:=h',toks:=t' }:=I.un (Un.kept k) (I.hok.kept k)
theorem Inv.laid{o:HO}(I:Inv X pins σ H s)(k:∀b u,s.heap.get? b=some u->h'.get? b=some u)(hp:s.heap.objs.size<=a)(new:ObjOk X.prog X.w (upd H a o) h' a o):
 Inv X pins σ (upd H a o) { s with heap:=h',toks:=t' }:=I.un (Un.laid k hp (I.hok.fresh hp)) (I.hok.laid k hp new)
theorem Inv.write{x e:Addr}{o:HO}(I:Inv X pins σ H s)(mu:Mut (H x))(he:e=x\/H e=some (.own x))(k:∀b u,b≠e->s.heap.get? b=some u->h'.get? b=some u)(heo:∃u,h'.get? e=some u)
 (new:ObjOk X.prog X.w (upd H x o) h' x o):Inv X pins σ (upd H x o) { s with heap:=h',toks:=t' }:=I.un (Un.write mu he k heo) (I.hok.write mu he k heo new)
theorem Inv.pins_of{pins':List (13:)}(I:Inv X pins σ H s)(h:∀p∈pins',s.heap.get? p.1=some p.2/\H p.1=none/\p.1≠X.env.locals/\p.1∉X.fs/\∀v,p.2.data≠.cell v):Inv X pins' σ H s:=
 ⟨I.ok,I.os,I.bare,I.base,I.loc,I.cell,I.free,I.freeC,λp hp=>(aW.mp hp).elim (λz=>I.pin p (cU _ z)) (h p),I.hok,I.len⟩
theorem V2{N:List Str}(hN:N.Nodup)(a:N[i]?=some x)(b:N[j]?=some x):i=j:=by
 obtain⟨h1,e1⟩:=bT.mp a;obtain⟨h2,e2⟩:=bT.mp b;exact(eR hN).mp (e1.trans e2.symm)
theorem Wt{Q:Unit->Shared->Prop}(I:Inv X pins σ H s)(hN:X.N.Nodup)(hi:X.N[i]?=some x)(hx:Loc X.env.scope x)(r:RelV v u)
 (h:∀s',Inv X pins (σ.set i (some v)) H s'->(∃a,Heap.SameBut a s.heap s'.heap/\(a=X.env.locals\/X.env.cells.lookup x=some a))->Q () s') (hf:X.fn x=true\/X.env.scope.names.lookup x=some .local:=by first | exact .inl rfl | exact .inr rfl | assumption):wpAny M A (storeName X.env x u) Q E s:=by
 obtain⟨m,hn,hl⟩:=id I.loc;have ae:(X.env.scope.kind== .class||(X.env.scope.kind== .module&&X.env.locals !=X.env.globals))=false:=by rw [I.ok.kind];rfl
 have aa:i<σ.length:=by rw [I.len];exact(bT.mp hi).1
 have cne:=I.cne;have G:∀{a:Addr}{h':Heap},(∃o,s.heap.get? a=some o/\H a=none)->Heap.SameBut a s.heap h'->HOk X.prog X.w H h':=λ{a h'} ha F b ob e=>by
  obtain⟨_,_,U⟩:=ha;refine(I.hok b ob e).stay (λc w' hc q=>(F.2 c ?_).trans q) (λ_ q=>q) λ_ _ q=>q;rintro rfl;rcases hc with rfl | hc
  .rw [U]at e;cases e
  .rw [U]at hc;cases hc
 rcases hx with hk | hk
 .refine wpAny_storeName_local hk hn (λh' ag F=>?_) ae;obtain⟨oL,_,_,ai,_⟩:=id hn;refine h _ ⟨I.ok,I.os,I.bare,⟨λb o e n J hx=>?_,λb o e n J hx=>?_,I.base.free,λb o e hx=>?_,I.base.tups,I.base.frzs,I.base.tbls⟩,⟨_,ag,λj y v' e1 e2 e3=>?_⟩,λy c e=>?_,I.free,I.freeC,λp hp=>?_,G ⟨oL,ai,I.free⟩ F,by simpa using I.len⟩ ⟨_,F,.inl rfl⟩
  .exact(F.2 b (aY (bU (aN e) I.ok.above))).trans (I.base.keep b o e n J hx)
  .obtain⟨sl,e1⟩:=I.base.slot b o e n J hx;exact⟨sl,(F.2 b (aY (bU (aN e) I.ok.above))).trans e1⟩
  .obtain⟨o',e1⟩:=I.base.there b o e hx;exact⟨o',(F.2 b (aY (bU (aN e) I.ok.above))).trans e1⟩
  .by_cases L:j=i
   .subst L;rw [hi]at e1;cases e1;rw [List.getElem?_set_self aa]at e2;cases e2;exact⟨u,r,.inl ⟨hk,by simp⟩⟩
   .rw [List.getElem?_set_ne (bW L)]at e2;obtain⟨u',r',q⟩:=hl j y v' e1 e2 e3;refine⟨u',r',?_⟩;rcases q with⟨k,e⟩ | ⟨k,c,e,z⟩
    .refine .inl ⟨k,?_⟩;have:y≠x:=λe=>L (V2 hN e1 (e ▸ hi));simp [this,e]
    .exact .inr ⟨k,c,e,z.sameBut F (cne y c e)⟩
  .obtain⟨w',z⟩:=I.cell y c e;exact⟨w',z.sameBut F (cne y c e)⟩
  .obtain⟨e,n,ne,nf,d⟩:=I.pin p hp;exact⟨(F.2 p.1 ne).trans e,n,ne,nf,d⟩
 .have Y:X.fn x=true:=by
   rcases hf with z | z
   .exact z
   .rw [z]at hk;cases hk
  obtain⟨c,hc⟩:=I.ok.has x (.inl hk);obtain⟨w',z⟩:=I.cell x c hc;refine wpAny_storeName_cell I.ok.kind hk hc z (λh' ab F=>?_);obtain⟨oc,ac,af⟩:=id z;refine h { s with heap:=h' } ⟨I.ok,I.os,I.bare,⟨λb o e n J hx=>?_,λb o e n J hx=>?_,I.base.free,λb o e hx=>?_,I.base.tups,I.base.frzs,I.base.tbls⟩,⟨m,hn.sameBut F (bW (cne x c hc)),λj y v' e1 e2 e3=>?_⟩,λy c' e=>?_,I.free,I.freeC,λp hp=>?_,G ⟨oc,ac,I.freeC x c hc⟩ F,by simpa using I.len⟩ ⟨c,F,.inr hc⟩
  .exact(F.2 b (aY (bU (aN e) (I.ok.cab x c Y hc)))).trans (I.base.keep b o e n J hx)
  .obtain⟨sl,e1⟩:=I.base.slot b o e n J hx;exact⟨sl,(F.2 b (aY (bU (aN e) (I.ok.cab x c Y hc)))).trans e1⟩
  .obtain⟨o',e1⟩:=I.base.there b o e hx;exact⟨o',(F.2 b (aY (bU (aN e) (I.ok.cab x c Y hc)))).trans e1⟩
  .by_cases L:j=i
   .subst L;rw [hi]at e1;cases e1;rw [List.getElem?_set_self aa]at e2;cases e2;exact⟨u,r,.inr ⟨.inl hk,c,hc,ab⟩⟩
   .rw [List.getElem?_set_ne (bW L)]at e2;obtain⟨u',r',q⟩:=hl j y v' e1 e2 e3;refine⟨u',r',?_⟩;rcases q with q | ⟨k,c',e,z'⟩
    .exact .inl q
    .refine .inr ⟨k,c',e,z'.sameBut F ?_⟩;rintro rfl;exact L (V2 hN e1 (I.ok.inj _ _ _ e hc ▸ hi))
  .by_cases ad:c'=c
   .subst ad;exact⟨_,ab⟩
   .obtain⟨w2,z2⟩:=I.cell y c' e;exact⟨w2,z2.sameBut F ad⟩
  .obtain⟨e,n,ne,nf,d⟩:=I.pin p hp;refine⟨(F.2 p.1 ?_).trans e,n,ne,nf,d⟩;intro q;rw [q,ac]at e;have q':oc=p.2:=aK e;exact d w' (by rw [<-q'];exact af)
theorem UT{Q:Unit->Shared->Prop}(I:Inv X pins σ H s)(hN:X.N.Nodup)(hi:X.N[i]?=some x)(hx:Loc X.env.scope x)(r:RelV v u)
 (h:∀s',Inv X pins (σ.set i (some v)) H s'->Q () s') (hf:X.fn x=true\/X.env.scope.names.lookup x=some .local:=by first | exact .inl rfl | exact .inr rfl | assumption):wpAny M A (storeName X.env x u) Q E s:=
 Wt I hN hi hx r (λs' j _=>h s' j) hf
theorem Inv.call'(I:Inv X pins σ H s)(ho:s'.os=s.os)(u:Un (frs X.stack) ch H H' s.heap s'.heap)(hok:HOk X.prog X.w H' s'.heap)(hg:AllBare s'.gens)
 (hch:∀b∈ch,(b∈X.ex\/X.s0.heap.objs.size<=b)/\b≠X.env.locals/\(∀x c,X.env.cells.lookup x=some c->c≠b)/\∀p∈X.pn++pins,p.1≠b):Inv X pins σ H' s':=by
 obtain⟨h',g',d',t',o'⟩:=s';have e:o'=s.os:=ho;subst e;exact I.call (g':=g') (t':=t') (d':=d') u hok hg hch
end
abbrev XK:=Value->Option Addr->Hp->Prop
abbrev St:=List (Option V)
abbrev VK:=V->Hp->Prop
abbrev TE:=St->Hp->VK->Prop
abbrev TT:=St->Hp->(Bool->Hp->Prop)->Prop
abbrev TA:=St->Hp->(List V->Hp->Prop)->Prop
structure Ends where
 nx:St->Hp->Prop
 rt:VK
 bk:St->Hp->Prop:=λ_ _=>False
 ct:St->Hp->Prop:=λ_ _=>False
abbrev TS:=Ends->St->Hp->Prop
def EP(X:Cx)(pins:List (13:))(σ:St)(Q:VK)(u:Value)(s':Shared):Prop:=∃v H',Inv X pins σ H' s'/\RelV v u/\Q v H'
def TP(X:Cx)(pins:List (13:))(σ:St)(Q:Bool->Hp->Prop)(b:Bool)(s':Shared):Prop:=∃H',Inv X pins σ H' s'/\Q b H'
def AP(X:Cx)(pins:List (13:))(σ:St)(Q:List V->Hp->Prop)(us:List Value)(s':Shared):Prop:=∃vs H',Inv X pins σ H' s'/\Vals vs us/\Q vs H'
def SP(X:Cx)(pins:List (13:))(D:Ends)(f:Flow)(s':Shared):Prop:=
 match f with
 | .next=>∃σ' H',Inv X pins σ' H' s'/\D.nx σ' H'
 | .brk=>∃σ' H',Inv X pins σ' H' s'/\D.bk σ' H'
 | .cont=>∃σ' H',Inv X pins σ' H' s'/\D.ct σ' H'
 | .ret u=>∃v σ' H',Inv X pins σ' H' s'/\RelV v u/\D.rt v H'
def PE(X:Cx)(e:Expr)(t:TE):Prop:=
 ∀(pins:List (13:))(s:Shared)(σ:St)(H:Hp)(Q:VK),Inv X pins σ H s->t σ H Q->wpAny (6:) X.A (eval e X.env) (EP X pins σ Q) X.xe s
def PT(X:Cx)(e:Expr)(t:TT):Prop:=
 ∀(pins:List (13:))(s:Shared)(σ:St)(H:Hp)(Q:Bool->Hp->Prop),Inv X pins σ H s->t σ H Q->wpAny (6:) X.A (isTrue e X.env (eval e X.env)) (TP X pins σ Q) X.xe s
def PW(X:Cx)(e:Expr)(t:TT):Prop:=
 ∀(whole:Sem Value)(pins:List (13:))(s:Shared)(σ:St)(H:Hp)(Q:Bool->Hp->Prop),Inv X pins σ H s->t σ H Q->wpAny (6:) X.A (isTrue e X.env whole) (TP X pins σ Q) X.xe s
theorem PW.pt{X:Cx}{t:TT}(h:PW X e t):PT X e t:=h _
def PA(X:Cx)(es:List Expr)(t:TA):Prop:=
 ∀(pos:Pos)(pins:List (13:))(s:Shared)(σ:St)(H:Hp)(Q:List V->Hp->Prop),Inv X pins σ H s->t σ H Q->wpAny (6:) X.A (spliced (backTo pos (starEach es X.env))) (AP X pins σ Q) X.xe s
def PS(X:Cx)(st:Stmt)(t:TS):Prop:=
 ∀(pins:List (13:))(s:Shared)(σ:St)(H:Hp)(D:Ends),Inv X pins σ H s->t D σ H->wpAny (6:) X.A (exec st X.env) (SP X pins D) X.xe s
def PSs(X:Cx)(st:List Stmt)(t:TS):Prop:=
 ∀(pins:List (13:))(s:Shared)(σ:St)(H:Hp)(D:Ends),Inv X pins σ H s->t D σ H->wpAny (6:) X.A (execs st X.env) (SP X pins D) X.xe s
theorem thn{α:Type}{t:Sem α}{Q Q':α->Shared->Prop}(h:wpAny M A t Q E s)(hQ:∀a s,Q a s->Q' a s):wpAny M A t Q' E s:=c_ h hQ λ_ _ x=>x
end L2
variable{X:L2.Cx}{σ cs as:L2.St}{ta te tl td:L2.TE}{tb a1 a2 a3 a4 a5 a6 a7 a8:L2.TS}{tc tt:L2.TT}{tk:L2.TA}
namespace L2
open PySem PySem.Spec PyProof.Rows
section
def LD(i:Nat):TE:=λσ H Q=>∃v,σ[i]?=some (some v)/\Q v H
def tC(v:V):TE:=λ_ H Q=>Q v H
theorem Rl(hN:X.N[i]?=some x)(hv:Vis X.env.scope x)(hd:(x==("__debug__":Str))=false:=by decide)(hcd:(x==("__classdict__":Str))=false:=by decide):PE X (.Name x pos) (LD i):=by
 intro pins s σ H Q I h;obtain⟨v,e,h⟩:=h;obtain⟨m,hn,hl⟩:=I.loc;obtain⟨u,r,l⟩:=hl i x v hN e hv;have fin:EP X pins σ Q u s:=⟨v,H,I,r,h⟩;rcases l with⟨hk,G⟩ | ⟨hk,c,F,j⟩
 .exact wpAny_Name (wpAny_loadName_local I.ok.kind hk hn G fin) hd
 .rcases hk with hk | hk
  .exact wpAny_Name (wpAny_loadName_cell I.ok.kind hk F j fin) hd
  .exact wpAny_Name (wpAny_loadName_free I.ok.kind hk F j fin hcd) hd
theorem Qf{i j pos}:PE X (.Constant (.int i) j pos) (tC (.int i)):=λ_ _ _ H _ I h=>wpAny_Constant_int ⟨.int i,H,I.tok _,⟨_,rfl⟩,h⟩
theorem Yq{b j pos}:PE X (.Constant (.bool b) j pos) (tC (.bl b)):=λ_ _ _ H _ I h=>Constant_bool ⟨.bl b,H,I,rfl,h⟩
theorem A8{j pos}:PE X (.Constant .none j pos) (tC .non):=λ_ _ _ H _ I h=>Constant_none ⟨.non,H,I,rfl,h⟩
theorem Qj{x j pos}:PE X (.Constant (.str x) j pos) (tC (.str x)):=λ_ _ _ H _ I h=>Calls.Constant_str ⟨.str x,H,I.tok _,⟨_,rfl⟩,h⟩
def Gl(X:Cx)(x:Str):Prop:=X.env.kindOf x=some .globalImplicit
theorem Vq{pins:List (13:)}(I:Inv X pins σ H s)(hg:Gl X x)(hm:X.mg x=some u)(h:Q u s)
 (hd:(x==("__debug__":Str))=false:=by decide):wpAny (6:) X.A (eval (.Name x pos) X.env) Q E s:=
 Calls.Name_function_global I.ok.kind hg (Calls.loadGlobal_global (by rw [I.ok.glob];exact I.mod.glob.keeps I.bk) hm h) hd
theorem YT{pins:List (13:)}(I:Inv X pins σ H s)(hg:Gl X x)(hm:X.mg x=none)(hv:bootBuiltins x=some u)(h:Q u s)
 (hn:x≠"__name__":=by decide) (hd:(x==("__debug__":Str))=false:=by decide):wpAny (6:) X.A (eval (.Name x pos) X.env) Q E s:=by
 obtain⟨j,h1,h2⟩:=I.mod.blt;exact Calls.Name_function_global I.ok.kind hg (Calls.loadGlobal_builtin (by rw [I.ok.glob];exact I.mod.glob.keeps I.bk) hm (by rw [I.ok.blt];exact h1.keeps I.bk) ((h2 x hn).trans hv) h) hd
theorem Zf(hg:Gl X x)(hm:X.mg x=some u)(r:RelV v u)(hd:(x==("__debug__":Str))=false:=by decide):PE X (.Name x pos) (tC v):=
 λ_ _ _ H _ I h=>Vq I hg hm ⟨v,H,I,r,h⟩ hd
theorem Vu(hg:Gl X x)(hm:X.mg x=none)(hv:bootBuiltins x=some u)(r:RelV v u)(hn:x≠"__name__":=by decide)(hd:(x==("__debug__":Str))=false:=by decide):PE X (.Name x pos) (tC v):=
 λ_ _ _ H _ I h=>YT I hg hm hv ⟨v,H,I,r,h⟩ hn hd
variable{a b:Expr}{tb:TE}
def PC(X:Cx)(op:CmpOp)(a b:Expr)(t:TE):Prop:=
 ∀(pins:List (13:))(s:Shared)(σ:St)(H:Hp)(Q:VK),Inv X pins σ H s->t σ H Q->
  wpAny (6:) X.A (eval a X.env) (λv s₁=>wpAny (6:) X.A (eval b X.env) (λu s₂=>wpAny (6:) X.A (compareOp op v u) (EP X pins σ Q) X.xe s₂) X.xe s₁) X.xe s
def tB(t:TE):TT:=λσ H Q=>t σ H λx H1=>∃c,x=.bl c/\Q c H1
theorem Bx{op:CmpOp}{t:TE}(h:PC X op a b t)(h1:behindInMarks op b=false:=by first | exact nobehind _ (9:) (9:) | rfl):PT X (.Compare a [op] [b] pos) (tB t):=by
 intro pins s σ H Q I j;refine wpAny_isTrue_Compare1 (thn (h pins s σ H _ I j) λv L h1=>thn h1 λu M h2=>thn h2 λc U ⟨x,H1,F,G,J⟩=>?_) h1;obtain⟨d,rfl,q⟩:=J;cases G;exact dI ⟨H1,F,q⟩
theorem Q8{t:TE}(h:PE X e t)(he:∀whole,isTrue e X.env whole=(do let v <-whole;standAt e.pos;holding [v] (truthy v)):=by intro _;rfl):PT X e (tB t):=by
 intro pins s σ H Q I j;refine isTrue_plain (thn (h pins s σ H _ I j) λv L ⟨x,H1,F,G,J⟩=>?_) (he _);obtain⟨d,rfl,q⟩:=J;cases G;exact dI ⟨H1,F,q⟩
variable{tA tB':TT}{rest:List Expr}
def Dh(t u:TT):TT:=λσ H Q=>t σ H λc H1=>if c=true then u σ H1 Q else Q false H1
def tOr(t u:TT):TT:=λσ H Q=>t σ H λc H1=>if c=true then Q true H1 else u σ H1 Q
def DC(t:TT):TT:=λσ H Q=>t σ H λc H1=>Q (!c) H1
theorem pw_and1(ha:PT X a tA):PW X (.BoolOp .And [a] pos) tA:=by
 intro j pins s σ H Q I h;refine isTrue_and (thn (ha pins s σ H Q I h) λc F e=>?_);cases c with
 | true=>exact isTrue_and_nil e
 | false=>exact e
theorem pw_or1(ha:PT X a tA):PW X (.BoolOp .Or [a] pos) tA:=by
 intro j pins s σ H Q I h;refine isTrue_or (thn (ha pins s σ H Q I h) λc F e=>?_);cases c with
 | false=>exact isTrue_or_nil e
 | true=>exact e
theorem pw_and(ha:PT X a tA)(hb:PW X (.BoolOp .And (b::rest) pos) tB'):PW X (.BoolOp .And (a::b::rest) pos) (Dh tA tB'):=by
 intro G pins s σ H Q I h;refine isTrue_and (thn (ha pins s σ H _ I h) λc J ⟨H1,j,F⟩=>?_);cases c with
 | true=>exact hb G pins J σ H1 Q j F
 | false=>exact⟨H1,j,F⟩
theorem pw_or(ha:PT X a tA)(hb:PW X (.BoolOp .Or (b::rest) pos) tB'):PW X (.BoolOp .Or (a::b::rest) pos) (tOr tA tB'):=by
 intro G pins s σ H Q I h;refine isTrue_or (thn (ha pins s σ H _ I h) λc J ⟨H1,j,F⟩=>?_);cases c with
 | true=>exact⟨H1,j,F⟩
 | false=>exact hb G pins J σ H1 Q j F
theorem Ya(ha:PT X a tA):PT X (.UnaryOp .Not a pos) (DC tA):=by
 intro pins s σ H Q I h;exact isTrue_not (ha pins s σ H (λc H1=>Q (!c) H1) I h)
def CS(ta tb:TE):TE:=λσ H Q=>ta σ H λx H1=>∃c,x=.bl c/\if c=true then tb σ H1 Q else Q (.bl false) H1
def Dp(ta tb:TE):TE:=λσ H Q=>ta σ H λx H1=>∃c,x=.bl c/\if c=true then Q (.bl true) H1 else tb σ H1 Q
def C5(ta:TE):TE:=λσ H Q=>ta σ H λx H1=>∃c,x=.bl c/\Q (.bl (!c)) H1
theorem J9{op}{t:TE}(h:PE X a t):PE X (.BoolOp op [a] pos) t:=λpins s σ H Q I j=>BoolOp_one (h pins s σ H Q I j)
theorem VR(ha:PE X a ta)(hb:PE X (.BoolOp .And (b::rest) pos) tb):PE X (.BoolOp .And (a::b::rest) pos) (CS ta tb):=by
 intro pins s σ H Q I h;refine BoolOp_and (thn (ha pins s σ H _ I h) λv G ⟨x,H1,F,J,j⟩=>?_);obtain⟨c,rfl,j⟩:=j;cases J;refine dI ?_;cases c with
 | true=>exact hb pins G σ H1 Q F j
 | false=>exact⟨.bl false,H1,F,rfl,j⟩
theorem CG(ha:PE X a ta)(hb:PE X (.BoolOp .Or (b::rest) pos) tb):PE X (.BoolOp .Or (a::b::rest) pos) (Dp ta tb):=by
 intro pins s σ H Q I h;refine BoolOp_or (thn (ha pins s σ H _ I h) λv G ⟨x,H1,F,J,j⟩=>?_);obtain⟨c,rfl,j⟩:=j;cases J;refine dI ?_;cases c with
 | false=>exact hb pins G σ H1 Q F j
 | true=>exact⟨.bl true,H1,F,rfl,j⟩
theorem R5(ha:PE X a ta):PE X (.UnaryOp .Not a pos) (C5 ta):=by
 intro pins s σ H Q I h;refine UnaryOp_ (thn (ha pins s σ H _ I h) λv J ⟨x,H1,F,G,j⟩=>?_);obtain⟨c,rfl,j⟩:=j;cases G;exact not_of (dI ⟨.bl (!c),H1,F,rfl,j⟩)
def tIf(t:TT)(ta tb:TE):TE:=λσ H Q=>t σ H λc H1=>if c=true then ta σ H1 Q else tb σ H1 Q
theorem J5{c:Expr}(hc:PT X c tA)(ha:PE X a ta)(hb:PE X b tb):PE X (.IfExp c a b pos) (tIf tA ta tb):=by
 intro pins s σ H Q I h;refine wpAny_IfExp (thn (hc pins s σ H _ I h) λd j ⟨H1,F,G⟩=>?_);cases d with
 | true=>exact ha pins j σ H1 Q F G
 | false=>exact hb pins j σ H1 Q F G
end
def SqL(K:Fg)(H:Hp)(a:Addr)(xs:List V):Prop:=
 Rd H a (.lst xs) \/
  ∃(o:Obj)(its:Array Value)(n:Nat),K.lookup a=some o/\o.cls=.type "list"/\ o.dict=none/\o.data=.seq its n/\its.size<=sizeLine/\Vals xs its.toList
def SqT(K:Fg)(H:Hp)(a:Addr)(xs:List V):Prop:=
 Rd H a (.tup xs) \/
  ∃(o:Obj)(its:Array Value)(n:Nat),K.lookup a=some o/\o.cls=.type "tuple"/\ o.data=.seq its n/\its.size<=sizeLine/\Vals xs its.toList
def Dn:Value->Option V
 | .none=>some .non
 | .bool b=>some (.bl b)
 | .int i _=>some (.int i)
 | .str x _=>some (.str x)
 | .bytes b _=>some (.byt b)
 | .float b _=>some (.flt b)
 | .ref a=>some (.ref a)
 | .type n=>some (.ty n)
 | _=>none
theorem RelV.abs{x:V}(r:RelV x u):Dn u=some x:=by
 cases x with
 | non=>cases r;rfl
 | bl _=>cases r;rfl
 | int _=>obtain⟨t,rfl⟩:=r;rfl
 | str _=>obtain⟨t,rfl⟩:=r;rfl
 | byt _=>obtain⟨t,rfl⟩:=r;rfl
 | flt _=>obtain⟨t,rfl⟩:=r;rfl
 | ref _=>cases r;rfl
 | ty _=>cases r;rfl
theorem RelV.inj{x:V}(r:RelV x u)(q:RelV y u):x=y:=aK (r.abs.symm.trans q.abs)
theorem Vals.inj:∀{xs ys:List V}{us:List Value},Vals xs us->Vals ys us->xs=ys
 | _,_,_,.nil,.nil=>rfl
 | _,_,_,.cons r t,.cons j F=>by rw [r.inj j,Vals.inj t F]
section
variable{pins:List (13:)}
theorem SqL.of{K:Fg}(h:H a=some (.lst xs)):SqL K H a xs:=.inl (.inl h)
theorem SqT.of{K:Fg}(h:H a=some (.tup xs)):SqT K H a xs:=.inl (.inl h)
theorem Inv.list(I:Inv X pins σ H s)(h:SqL X.K H a xs):∃its:List Value,Vals xs its/\PlainL s.heap a its.toArray/\xs.length<=sizeLine:=by
 rcases h with h | ⟨o,its,n,j,F,G,J,hz,r⟩
 .obtain⟨z,its,n,r,e⟩:=h.ok I.hok;exact⟨its,r,⟨_,n,e,rfl,rfl,rfl⟩,z⟩
 .refine⟨its.toList,r,⟨o,n,I.kIn a o j,F,G,by simpa using J⟩,?_⟩;have e:=r.length;simp only [gQ]at e;lia
theorem Inv.tuple(I:Inv X pins σ H s)(h:SqT X.K H a xs):∃its:List Value,Vals xs its/\IsTup s.heap a its.toArray/\xs.length<=sizeLine:=by
 rcases h with h | ⟨o,its,n,j,F,G,hz,r⟩
 .obtain⟨z,its,r,p⟩:=h.ok I.hok;exact⟨its,r,p,z⟩
 .refine⟨its.toList,r,⟨o,I.kIn a o j,F,n,by simpa using G⟩,?_⟩;have e:=r.length;simp only [gQ]at e;lia
theorem Inv.list_inj(I:Inv X pins σ H s)(h:SqL X.K H a xs)(h':SqL X.K H a ys):xs=ys:=by
 obtain⟨its,r,⟨o,n,e,_,_,d⟩,_⟩:=I.list h;obtain⟨j,J,⟨o',M,F,_,_,G⟩,_⟩:=I.list h';rw [e]at F;cases F;rw [d]at G;injection G with L _;have:its=j:=by simpa using congrArg Array.toList L
 subst this;exact r.inj J
theorem Inv.tuple_inj(I:Inv X pins σ H s)(h:SqT X.K H a xs)(h':SqT X.K H a ys):xs=ys:=by
 obtain⟨its,r,⟨o,e,_,n,d⟩,_⟩:=I.tuple h;obtain⟨j,J,⟨o',F,_,M,G⟩,_⟩:=I.tuple h';rw [e]at F;cases F;rw [d]at G;injection G with L _;have:its=j:=by simpa using congrArg Array.toList L
 subst this;exact r.inj J
end
abbrev Cx.wish(X:Cx)(E:Value->Shared->Prop):Cx:={ X with xe:=E }
abbrev Cx.nox(X:Cx):Cx:=X.wish λ_ _=>False
theorem Cx.Ok.wish(ok:X.Ok)(E:Value->Shared->Prop):(X.wish E).Ok:=
 ⟨ok.mod,ok.kind,ok.glob,ok.blt,ok.above,ok.inj,ok.has,ok.cab,ok.hd,ok.frames,ok.stk,ok.exf,ok.bs,ok.bsz,ok.noex,ok.exfs,ok.funs,ok.frf⟩
theorem Cx.Ok.unwish(ok:(X.wish E).Ok):X.Ok:=
 ⟨ok.mod,ok.kind,ok.glob,ok.blt,ok.above,ok.inj,ok.has,ok.cab,ok.hd,ok.frames,ok.stk,ok.exf,ok.bs,ok.bsz,ok.noex,ok.exfs,ok.funs,ok.frf⟩
section
variable{pins:List (13:)}
theorem Inv.wish(I:Inv X pins σ H s)(E:Value->Shared->Prop):Inv (X.wish E) pins σ H s:=⟨I.ok.wish E,I.os,I.bare,I.base,I.loc,I.cell,I.free,I.freeC,I.pin,I.hok,I.len⟩
theorem Inv.unwish(I:Inv (X.wish E) pins σ H s):Inv X pins σ H s:=⟨I.ok.unwish,I.os,I.bare,I.base,I.loc,I.cell,I.free,I.freeC,I.pin,I.hok,I.len⟩
theorem SP.unwish{D:Ends}{f:Flow}(h:SP (X.wish E) pins D f s'):SP X pins D f s':=by
 cases f with
 | next=>obtain⟨j,H',I,q⟩:=h;exact⟨j,H',I.unwish,q⟩
 | brk=>obtain⟨j,H',I,q⟩:=h;exact⟨j,H',I.unwish,q⟩
 | cont=>obtain⟨j,H',I,q⟩:=h;exact⟨j,H',I.unwish,q⟩
 | ret u=>obtain⟨v,j,H',I,r,q⟩:=h;exact⟨v,j,H',I.unwish,r,q⟩
theorem PE.nox{t:TE}(h:PE X.nox e t):PE X e t:=λpins s σ H Q I j=>
 c_ (h pins s σ H Q (I.wish _) j) (λ_ _ ⟨v,H',F,r,q⟩=>⟨v,H',F.unwish,r,q⟩) λ_ _ z=>False.elim z
theorem PSs.nox{st:List Stmt}{t:TS}(h:PSs X.nox st t):PSs X st t:=λpins s σ H D I j=>
 c_ (h pins s σ H D (I.wish _) j) (λ_ _ q=>q.unwish) λ_ _ z=>False.elim z
end
section
variable{st:Stmt}{rest:List Stmt}{t u:TS}
def Cb:TS:=λD σ H=>D.nx σ H
def Qw(t u:TS):TS:=λD σ H=>t { D with nx:=u D } σ H
theorem Qt:PSs X [] Cb:=λ_ _ σ H _ I h=>wpAny_execs_nil ⟨σ,H,I,h⟩
theorem Qd(h1:PS X st t)(h2:PSs X rest u):PSs X (st::rest) (Qw t u):=by
 intro pins s σ H D I h;refine wpAny_execs_cons (thn (h1 pins s σ H { D with nx:=u D } I h) λf j q=>?_);cases f with
 | next=>
  obtain⟨F,H',G,q⟩:=q;exact h2 pins j F H' D G q
 | ret v=>exact q
 | brk=>exact q
 | cont=>exact q
theorem Qh(h1:PS X st t):PSs X [st] t:=by
 intro pins s σ H D I h;refine wpAny_execs_cons (thn (h1 pins s σ H D I h) λf j q=>?_);cases f with
 | next=>exact wpAny_execs_nil q
 | ret v=>exact q
 | brk=>exact q
 | cont=>exact q
theorem Inv.quiet{pins:List (13:)}(I:Inv X pins σ H s):interactive X.env=false:=by simp [interactive,I.ok.kind]
def CA(te:TE):TS:=λD σ H=>te σ H λ_ H1=>D.nx σ H1
theorem QS(he:PE X e te)(hs:swapsWith e none pos.line X.env=pure false:=by rfl):PS X (.Expr e pos) (CA te):=by
 intro pins s σ H D I h;exact wpAny_Expr_any (thn (he pins s σ H _ I h) λv G ⟨x,H1,j,J,F⟩=>⟨σ,H1,j,F⟩) I.quiet hs
def C9(te:TE):TS:=λD σ H=>te σ H D.rt
theorem Qn(he:PE X e te):PS X (.Return (some e) pos) (C9 te):=by
 intro pins s σ H D I h;exact wpAny_Return_some (thn (he pins s σ H _ I h) λv J ⟨x,H1,j,F,G⟩=>⟨x,σ,H1,j,F,G⟩)
def Di(c:TT)(t u:TS):TS:=λD σ H=>c σ H λb H1=>if b=true then t D σ H1 else u D σ H1
theorem QC{c:Expr}{a b:List Stmt}(hc:PT X c tc)(ha:PSs X a t)(hb:PSs X b u):PS X (.If c a b pos) (Di tc t u):=by
 intro pins s σ H D I h;refine wpAny_If (thn (hc pins s σ H _ I h) λd j ⟨H1,F,G⟩=>?_);cases d with
 | true=>exact ha pins j σ H1 D F G
 | false=>exact hb pins j σ H1 D F G
def AL:TS:=λ_ _ _=>False
theorem QJ{sts:List Stmt}:PSs X sts AL:=λ_ _ _ _ _ _ h=>h.elim
end
abbrev TG:=V->St->Hp->(St->Hp->Prop)->Prop
abbrev TGs:=List V->St->Hp->(St->Hp->Prop)->Prop
def PG(X:Cx)(target:Expr)(t:TG):Prop:=
 ∀(pins:List (13:))(s:Shared)(σ:St)(H:Hp)(v:V)(u:Value)(Q:St->Hp->Prop),Inv X pins σ H s->RelV v u->t v σ H Q->
  wpAny (6:) X.A (assign target X.env u) (λ_ s'=>∃σ' H',Inv X pins σ' H' s'/\Q σ' H') X.xe s
def PGs(X:Cx)(ts:List Expr)(t:TGs):Prop:=
 ∀(pins:List (13:))(s:Shared)(σ:St)(H:Hp)(vs:List V)(us:List Value)(Q:St->Hp->Prop),Inv X pins σ H s->Vals vs us->t vs σ H Q->
  wpAny (6:) X.A (assignInOrder ((assignEach ts X.env).map (·.2)) us) (λ_ s'=>∃σ' H',Inv X pins σ' H' s'/\Q σ' H') X.xe s
abbrev TIp:=V->V->Hp->VK->Prop
def PIp(X:Cx)(op:Operator)(t:TIp):Prop:=
 ∀(pins:List (13:))(s:Shared)(σ:St)(H:Hp)(x y:V)(v u:Value)(Q:VK),Inv X pins σ H s->RelV x v->RelV y u->t x y H Q->
  wpAny (6:) X.A (inplaceOp op v u) (EP X pins σ Q) X.xe s
def Zq(i:Nat):TG:=λv σ H Q=>Q (σ.set i (some v)) H
theorem Qz(hN:X.N.Nodup)(hi:X.N[i]?=some x)(hx:Loc X.env.scope x)(hf:X.fn x=true\/X.env.scope.names.lookup x=some .local:=by first | exact .inl rfl | exact .inr rfl | assumption):PG X (.Name x pos) (Zq i):=by
 intro pins s σ H v u Q I r h;exact wpAny_assign_Name (UT I hN hi hx r (λs' j=>⟨_,H,j,h⟩) hf)
def LA:TGs:=λvs σ H Q=>vs=[]/\Q σ H
def Ye(t:TG)(u:TGs):TGs:=λvs σ H Q=>∃v r,vs=v::r/\t v σ H λσ' H'=>u r σ' H' Q
theorem ZJ:PGs X [] LA:=by
 intro pins s σ H j F Q I r h;obtain⟨e,h⟩:=h;subst e;cases r;exact assignInOrder_nil ⟨σ,H,I,h⟩
theorem QG{t:TG}{u:TGs}(h1:PG X e t)(h2:PGs X es u)
 (hs:(assignEach (e::es) X.env).map (·.2)=assign e X.env::(assignEach es X.env).map (·.2):=by rfl):PGs X (e::es) (Ye t u):=by
 intro pins s σ H M U Q I r h;obtain⟨v,Y,e1,h⟩:=h;subst e1;cases r with
 | cons r j=>
  rw [hs];refine assignInOrder_cons (thn (h1 pins s σ H _ _ _ I r h) λ_ F ⟨G,H1,J,L⟩=>?_);exact h2 pins F G H1 _ _ Q J j L
def Lw(K:Fg)(n:Nat)(t:TGs):TG:=λv σ H Q=>∃a xs,v=.ref a/\SqT K H a xs/\xs.length=n/\t xs σ H Q
theorem Yc{k:Nat}{t:TGs}(hc:X.calm=true)(h:PGs X es t)
 (hn:(assignEach es X.env).length=n:=by rfl) (hst:(assignEach es X.env).findIdx? (·.1)=none:=by rfl):PG X (.Tuple es k pos) (Lw X.K n t):=by
 intro pins s σ H v u Q I r j;obtain⟨a,xs,e1,G,hl,j⟩:=j;subst e1;cases r;obtain⟨its,F,J,hz⟩:=I.tuple G;refine assign_Tuple_tuple (I.ok.hd hc) J (by simp [hn,<-hl,F.length]) hst λh' L=>?_;have M:Inv X pins σ H { s with heap:=h' }:=I.kept (t':=s.toks) λb o e=>L b o (aY (aN e)) e;exact h pins _ σ H xs _ Q M (by simpa using F) j
def Tj(te:TE)(g:TG):TS:=λD σ H=>te σ H λx H1=>g x σ H1 D.nx
theorem OF{g:TG}(he:PE X e te)(hg:PG X tg g)(hs:swapsWithSole [tg] e pos.line X.env=pure false:=by rfl)(hw:swappedStores [tg] e X.env=pure none:=by rfl)
 (h1:(assignEach [tg] X.env).map (·.2)=[assign tg X.env]:=by rfl):PS X (.Assign [tg] e pos) (Tj te g):=by
 intro pins s σ H D I h;refine wpAny_Assign_stores (thn (he pins s σ H _ I h) λv j ⟨x,H1,F,G,J⟩=>?_) hs hw;rw [h1];exact thn (hg pins j σ H1 x v _ F G J) λ_ L q=>q
theorem Qm(hN:X.N.Nodup)(hi:X.N[i]?=some x)(hx:Loc X.env.scope x)(he:PE X e te)(hs:swapsWith e (some (.Name x pos')) pos.line X.env=pure false:=by rfl)(hf:X.fn x=true\/X.env.scope.names.lookup x=some .local:=by first | exact .inl rfl | exact .inr rfl | assumption):
 PS X (.Assign [.Name x pos'] e pos) (Tj te (Zq i)):=by
 intro pins s σ H D I h;refine wpAny_Assign_Name (thn (he pins s σ H _ I h) λv L ⟨y,H1,j,F,G⟩=>?_) hs;exact UT j hN hi hx F (λM J=>⟨_,H1,J,G⟩) hf
def Dz(i:Nat)(te:TE)(ti:TIp):TS:=λD σ H=>∃x,σ[i]?=some (some x)/\te σ H λy H1=>ti x y H1 λz H2=>D.nx (σ.set i (some z)) H2
theorem GP{ti:TIp}(hN:X.N.Nodup)(hi:X.N[i]?=some x)(hx:Loc X.env.scope x)(he:PE X e te)(ho:PIp X op ti)(hf:X.fn x=true\/X.env.scope.names.lookup x=some .local:=by first | exact .inl rfl | exact .inr rfl | assumption):
 PS X (.AugAssign (.Name x pos') op e pos) (Dz i te ti):=by
 intro pins s σ H D I h;obtain⟨v,e1,h⟩:=h;obtain⟨m,hn,hl⟩:=I.loc;have F:Vis X.env.scope x:=by rcases hx with k | k;exact .inl k;exact .inr (.inl k)
 obtain⟨u,r,l⟩:=hl i x v hi e1 F;refine wpAny_AugAssign_Name ?_;have go:wpAny (6:) X.A (eval e X.env) (λw G=>wpAny (6:) X.A (inplaceOp op u w) (λr J=>wpAny (6:) X.A (storeName X.env x r) (λ_=>SP X pins D .next) X.xe J) X.xe G) X.xe s:=by
  refine thn (he pins s σ H _ I h) λw L ⟨y,H1,M,U,Y⟩=>?_;refine thn (ho pins L σ H1 v y u w _ M r U Y) λz s2 ⟨zv,H2,I2,r2,q2⟩=>?_;exact UT I2 hN hi hx r2 (λs3 I3=>⟨_,H2,I3,q2⟩) hf
 rcases l with⟨hk,hm⟩ | ⟨hk,c,hc,j⟩
 .exact wpAny_loadName_local I.ok.kind hk hn hm go
 .rcases hk with hk | hk
  .exact wpAny_loadName_cell I.ok.kind hk hc j go
  .rcases hx with k | k
   .have:X.env.scope.names.lookup x=some .free:=hk;rw [k]at this;cases this
   .have:X.env.scope.names.lookup x=some .free:=hk;rw [k]at this;cases this
def ipI(f:Int->Int->Int):TIp:=λx y H Q=>∃i j,x=.int i/\y=.int j/\Q (.int (f i j)) H
theorem Le:PIp X .Add (ipI λi j=>i+j):=by
 intro pins s σ H x y v u Q I F G h;obtain⟨i,j,e1,e2,q⟩:=h;subst e1;subst e2;obtain⟨t,rfl⟩:=F;obtain⟨J,rfl⟩:=G;exact iadd_int ⟨.int _,H,I.tok _,⟨_,rfl⟩,q⟩
def Bp(c:TT)(tb:TS):TS:=λD σ H=>∃W:Nat->St->Hp->Prop,(∃m,W m σ H)/\∀m σ H,W m σ H->
 c σ H λb H1=>if b=true then ∃N:St->Hp->Prop,(∀σ' H',N σ' H'->∃m',m'<m/\W m' σ' H')/\tb { D with nx:=N,ct:=N,bk:=D.nx } σ H1 else D.nx σ H1
theorem YS{c:Expr}(hp:PassesOwn (6:) X.A X.env X.xe)(hc:PT X c tc)(hb:PSs X body tb):PS X (.While c body [] pos) (Bp tc tb):=by
 intro pins s σ H D I h;obtain⟨W,⟨m0,w0⟩,turn⟩:=h;refine wpAny_While (codeAny_whileLoop (λn s'=>∃aa H',Inv X pins aa H' s'/\W n aa H') ?_ m0 ⟨σ,H,I,w0⟩);rintro n s1 ⟨G,H1,I1,w1⟩;refine fE hp (thn (hc pins s1 G H1 _ I1 (turn n G H1 w1)) λb s2 ⟨H2,I2,J⟩=>?_);cases b with
 | true=>
  obtain⟨N,hN,J⟩:=J;rw [aH rfl];refine fE hp (thn (hb pins s2 G H2 _ I2 J) λf s3 L=>?_);cases f with
  | next=>
   obtain⟨j,F,M,U⟩:=L;obtain⟨Y,hm,w3⟩:=hN j F U;exact⟨Y,hm,j,F,M,w3⟩
  | cont=>
   obtain⟨j,F,M,U⟩:=L;obtain⟨Y,hm,w3⟩:=hN j F U;exact⟨Y,hm,j,F,M,w3⟩
  | brk=>exact L
  | ret v=>exact L
 | false=>
  rw [aF a_];exact wpAny_execs_nil ⟨G,H2,I2,J⟩
structure It where
 go:Nat->Hp->Prop
 yld:Nat->Hp->V->Hp->Prop
 stop:Nat->Hp->Prop
def U4(X:Cx)(pins:List (13:))(H:Hp)(b:Addr):Prop:=
 H b=none/\b≠X.env.locals/\b∉X.fs/\(b∈X.ex\/X.s0.heap.objs.size<=b)/\(∀x c,X.env.cells.lookup x=some c->c≠b)/\∀p∈X.pn++pins,p.1≠b
theorem Inv.fpOk{pins:List (13:)}(I:Inv X pins σ H s)(hb:s.heap.objs.size<=b)(hn:H' b=none):U4 X pins H' b:=by
 refine⟨hn,Nat.ne_of_gt (bU I.lt hb),I.nofs hb,.inr (bL I.sz hb),λx c e z=>?_,λp hp z=>?_⟩
 .obtain⟨v,q⟩:=I.cell x c e;exact absurd (bU q.lt (by rw [z];exact hb)) (cO _)
 .exact absurd (bU (aN (I.pin p hp).1) (by rw [z];exact hb)) (cO _)
structure Turn(P:Program)(w:World)(K:Fg)(tg:Expr)(J:It)(fp:List Addr)(it:Addr)(tn:Nat->Heap->Prop):Prop where
 mem:it∈fp
 obj:∀i h,tn i h->∀b∈fp,∃o,h.get? b=some o/\∀v,o.data≠.cell v
 keep:∀i h h',tn i h->(∀b∈fp,∀o,h.get? b=some o->h'.get? b=some o)->tn i h'
 item:∀(X:Cx),X.prog=P->X.w=w->X.K=K->X.calm=true->∀(i:Nat)(pins:List (13:))(s:Shared)(σ:St)(H:Hp)(E:Value->Shared->Prop),Inv X pins σ H s->(∀b∈fp,U4 X pins H b)->tn i s.heap->J.go i H->
  wpAny (model P w) X.A (pyNext (.ref it)) (λr s1=>∃u,r=some u/\
   wpAny (model P w) X.A (letOwnedTupleGo tg (.ref it) u) (λ_ s2=>∃x H',Inv X pins σ H' s2/\RelV x u/\J.yld i H x H'/\tn (i+1) s2.heap/\∀b∈fp,H' b=none) E s1) E s
 done:∀(X:Cx),X.prog=P->X.w=w->X.K=K->X.calm=true->∀(i:Nat)(pins:List (13:))(s:Shared)(σ:St)(H:Hp)(E:Value->Shared->Prop),Inv X pins σ H s->(∀b∈fp,U4 X pins H b)->tn i s.heap->J.stop i H->
  wpAny (model P w) X.A (pyNext (.ref it)) (λr s1=>r=none/\Inv X pins σ H s1) E s
 self:∀(A:Around)(i:Nat)(s:Shared)(Q:Value->Shared->Prop)(E:Value->Shared->Prop),tn i s.heap->Q (.ref it) s->wpAny (model P w) A (pyIter (.ref it)) Q E s
abbrev TI:=St->Hp->(It->Hp->Prop)->Prop
def PIE(X:Cx)(pins:List (13:))(σ:St)(tg:Expr)(R:It->Hp->Prop)(itv:Value)(s2:Shared):Prop:=
 ∃(it:Addr)(fp:List Addr)(tn:Nat->Heap->Prop)(J:It)(H':Hp),itv=.ref it/\Inv X pins σ H' s2/\Turn X.prog X.w X.K tg J fp it tn/\tn 0 s2.heap/\(∀b∈fp,U4 X pins H' b)/\R J H'
def PI(X:Cx)(tg iter:Expr)(wi:TI):Prop:=
 ∀(pins:List (13:))(s:Shared)(σ:St)(H:Hp)(R:It->Hp->Prop),Inv X pins σ H s->wi σ H R->
  wpAny (6:) X.A (eval iter X.env) (λv s1=>wpAny (6:) X.A (pyIter v) (PIE X pins σ tg R) X.xe s1) X.xe s
theorem MF{n:String}{vs:Array Value}{Q:Unit->Shared->Prop}(ho:s.heap.get? it=some o)(hc:o.cls=.type n)(hd:o.data=.fields vs)
 (hn:["enumerate","zip","dict_itemiterator","dict_reverseitemiterator","odict_iterator","itertools.zip_longest","itertools.pairwise"].contains n=false) (hQ:Q () s):wpAny M A (letOwnedTupleGo tg (.ref it) u) Q E s:=by
 unfold letOwnedTupleGo;cases tg<;>first
  | exact aG hQ
  | (cases u<;>first
   | exact aG hQ
   | (refine aD (wpAny_load ho ?_)
      rw [hc,hd];show wpAny M A (if(["enumerate","zip","dict_itemiterator","dict_reverseitemiterator","odict_iterator","itertools.zip_longest","itertools.pairwise"].contains n&&vs[0]? ==some (rawInt _))=true then _ else _) Q E s;rw [aF (by intro h;rw [hn,Bool.false_and]at h;cases h)];exact aG hQ))
def Itl(K:Fg)(a:Addr):It:=
 ⟨λi H=>∃xs x,SqL K H a xs/\xs[i]?=some x,λi H x H'=>H'=H/\∀xs,SqL K H a xs->xs[i]?=some x,λi H=>∃xs,SqL K H a xs/\xs.length<=i⟩
def Itt(K:Fg)(a:Addr):It:=
 ⟨λi H=>∃xs x,SqT K H a xs/\xs[i]?=some x,λi H x H'=>H'=H/\∀xs,SqT K H a xs->xs[i]?=some x,λi H=>∃xs,SqT K H a xs/\xs.length<=i⟩
def Itr(lo:Int)(n:Nat):It:=⟨λi _=>i<n,λi H x H'=>H'=H/\x=.int (lo+i),λi _=>n<=i⟩
theorem Nz{K:Fg}(a it:Addr):Turn P w K tg (Itl K a) [it] it (λi h=>h.IsListIter it a i) where
 mem:=by simp
 obj:=λi h st b j=>by
  have e:b=it:=by simpa using j
  subst e;obtain⟨o,e,c,d⟩:=st;exact⟨o,e,λv z=>by rw [d]at z;cases z⟩
 keep:=λi h h' st k=>st.at λo e=>k it (22:) o e
 item:=by
  intro X L M hK hc i pins s σ H E I F st U;subst L M hK;obtain⟨xs,x,G,Y⟩:=U;obtain⟨its,rv,p,hz⟩:=I.list G;obtain⟨u,hu,ru⟩:=rv.get Y;obtain⟨f0,f1,f2,f3,f4,f5⟩:=F it (22:);refine wpAny_pyNext_list_item st p.isList (x:=u) (by simpa using hu) λh' J sb=>?_;have I1:Inv X pins σ H { s with heap:=h' }:=I.turned (t':=s.toks) (λb o j e=>(sb.2 b j).trans e) f0 f1 f3 f4 f5;obtain⟨o,e,c,d⟩:=id J;exact⟨u,rfl,MF (s:={ s with heap:=h' }) e c d (9:) ⟨x,H,I1,ru,⟨rfl,λys hy=>by rw [I.list_inj hy G];exact Y⟩,J,λb j=>(F b j).1⟩⟩
 done:=by
  intro X L M hK hc i pins s σ H E I F st U;subst L M hK;obtain⟨xs,G,Y⟩:=U;obtain⟨its,rv,p,hz⟩:=I.list G;obtain⟨f0,f1,f2,f3,f4,f5⟩:=F it (22:);have hl:=rv.length;exact wpAny_pyNext_list_end (I.ok.hd hc) st p.isList (by simp;lia) λh' eb=>⟨rfl,I.turned (t':=s.toks) (λb o j e=>eb b o j e) f0 f1 f3 f4 f5⟩
 self:=λ_ _ _ _ _ st h=>wpAny_pyIter_listiter st h
theorem LB{K:Fg}(a it:Addr):Turn P w K tg (Itt K a) [it] it (λi h=>h.IsTupleIter it a i) where
 mem:=by simp
 obj:=λi h st b j=>by
  have e:b=it:=by simpa using j
  subst e;obtain⟨o,e,c,d⟩:=st;exact⟨o,e,λv z=>by rw [d]at z;cases z⟩
 keep:=λi h h' st k=>st.at λo e=>k it (22:) o e
 item:=by
  intro X L M hK hc i pins s σ H E I F st U;subst L M hK;obtain⟨xs,x,G,Y⟩:=U;obtain⟨its,rv,p,hz⟩:=I.tuple G;obtain⟨u,hu,ru⟩:=rv.get Y;obtain⟨f0,f1,f2,f3,f4,f5⟩:=F it (22:);refine wpAny_pyNext_tuple_item st (show s.heap.IsTuple a its.toArray from p) (x:=u) (by simpa using hu) λh' J sb=>?_;have I1:Inv X pins σ H { s with heap:=h' }:=I.turned (t':=s.toks) (λb o j e=>(sb.2 b j).trans e) f0 f1 f3 f4 f5;obtain⟨o,e,c,d⟩:=id J;exact⟨u,rfl,MF (s:={ s with heap:=h' }) e c d (9:) ⟨x,H,I1,ru,⟨rfl,λys hy=>by rw [I.tuple_inj hy G];exact Y⟩,J,λb j=>(F b j).1⟩⟩
 done:=by
  intro X L M hK hc i pins s σ H E I F st U;subst L M hK;obtain⟨xs,G,Y⟩:=U;obtain⟨its,rv,p,hz⟩:=I.tuple G;obtain⟨f0,f1,f2,f3,f4,f5⟩:=F it (22:);have hl:=rv.length;exact wpAny_pyNext_tuple_end (I.ok.hd hc) st (show s.heap.IsTuple a its.toArray from p) (by simp;lia) λh' eb=>⟨rfl,I.turned (t':=s.toks) (λb o j e=>eb b o j e) f0 f1 f3 f4 f5⟩
 self:=λ_ _ _ _ _ st h=>wpAny_pyIter_tupleiter st h
theorem Ln{K:Fg}(it:Addr)(lo:Int)(n:Nat):Turn P w K tg (Itr lo n) [it] it (λi h=>IsRangeIter h it (lo+(i:Nat)*1) ((n:Int)-(i:Nat)) 1) where
 mem:=by simp
 obj:=λi h st b j=>by
  have e:b=it:=by simpa using j
  subst e;exact⟨_,st,λv z=>by
   have z':Data.fields _=Data.cell v:=z;cases z'⟩
 keep:=λi h h' st k=>k it (22:) _ st
 item:=by
  intro X J L hK M i pins s σ H E I F st U;subst J L hK;obtain⟨Y,f1,f2,f3,f4,f5⟩:=F it (22:);have W:=Walks.range (prog:=X.prog) (w:=X.w) (I.ok.hd M) it lo 1 n;refine W.item i s _ _ U st λv h' tk hv G kk=>?_;obtain⟨t,rfl⟩:=hv;have I1:Inv X pins σ H { s with heap:=h',toks:=tk }:=I.turned (λb o j e=>kk b o (by simpa using j) e) Y f1 f3 f4 f5;refine⟨_,rfl,MF (s:={ s with heap:=h',toks:=tk }) (n:="range_iterator") G rfl rfl (9:) ⟨.int (lo+i),H,I1,⟨t,?_⟩,⟨rfl,rfl⟩,G,λb j=>(F b j).1⟩⟩;rw [Int.mul_one]
 done:=by
  intro X J L hK M i pins s σ H E I F st U;subst J L hK;obtain⟨Y,f1,f2,f3,f4,f5⟩:=F it (22:);exact wpAny_pyNext_range_end (I.ok.hd M) st (by have:n<=i:=U;lia) λh' eb=>⟨rfl,I.turned (t':=s.toks) (λb o j e=>eb b o j e) Y f1 f3 f4 f5⟩
 self:=λ_ _ _ _ _ st h=>wpAny_pyIter_rangeiter st h
end L2
variable{g:L2.TG}{wi:L2.TI}
namespace L2
open PySem PySem.Spec PyProof.Rows
def Cj(K:Fg)(tl:TE):TI:=λσ H R=>tl σ H λx H1=>∃a,x=.ref a/\(∃xs,SqL K H1 a xs)/\R (Itl K a) H1
def Dk(K:Fg)(tl:TE):TI:=λσ H R=>tl σ H λx H1=>∃a,x=.ref a/\(∃xs,SqT K H1 a xs)/\R (Itt K a) H1
theorem QZ{l:Expr}(hl:PE X l tl):PI X tg l (Cj X.K tl):=by
 intro pins s σ H R I h;refine thn (hl pins s σ H _ I h) λv j ⟨x,H1,F,G,J⟩=>?_;obtain⟨a,e,⟨xs,L⟩,q⟩:=J;subst e;cases G;obtain⟨its,U,p,hz⟩:=F.list L;refine gW p.isList ?_;refine⟨j.heap.objs.size,[j.heap.objs.size],_,_,H1,rfl,F.kept (t':=j.toks) λb o e=>aT _ e,Nz a _,⟨_,bQ _ rfl,rfl,rfl⟩,λb M=>?_,q⟩;have e:b=j.heap.objs.size:=by simpa using M
 subst e;exact F.fpOk (8:) (F.hok.fresh (8:))
theorem YO{l:Expr}(hl:PE X l tl):PI X tg l (Dk X.K tl):=by
 intro pins s σ H R I h;refine thn (hl pins s σ H _ I h) λv j ⟨x,H1,F,G,J⟩=>?_;obtain⟨a,e,⟨xs,L⟩,q⟩:=J;subst e;cases G;obtain⟨its,U,p,hz⟩:=F.tuple L;refine wpAny_pyIter_tuple (show j.heap.IsTuple a its.toArray from p) ?_;refine⟨j.heap.objs.size,[j.heap.objs.size],_,_,H1,rfl,F.kept (t':=j.toks) λb o e=>aT _ e,LB a _,⟨_,bQ _ rfl,rfl,rfl⟩,λb M=>?_,q⟩;have e:b=j.heap.objs.size:=by simpa using M
 subst e;exact F.fpOk (8:) (F.hok.fresh (8:))
theorem Gi{pins:List (13:)}{R:It->Hp->Prop}{lo hi:Int}{t u v:Tok}{tk:Nat}(I:Inv X pins σ H s)(h1:-(2^62)<=lo)(h2:lo<2^62)(h3:-(2^62)<=hi)(h4:hi<2^62)
 (q:R (Itr lo (hi-lo).toNat) H):wpAny (6:) X.A (pyIter (.ref s.heap.objs.size)) (PIE X pins σ tg R) E { s with heap:=s.heap.push { cls:=.type "range",data:=.fields #[.int lo t,.int hi u,.int 1 v] },toks:=tk }:=by
 refine wpAny_pyIter_range (IsRange.new ..) (small_one h1 h2 h3 h4) ?_;have j:Inv X pins σ H { s with heap:=s.heap.push { cls:=.type "range",data:=.fields #[.int lo t,.int hi u,.int 1 v] },toks:=tk }:=I.kept λb o e=>aT _ e;refine⟨(s.heap.push { cls:=.type "range",data:=.fields #[.int lo t,.int hi u,.int 1 v] }).objs.size,[(s.heap.push { cls:=.type "range",data:=.fields #[.int lo t,.int hi u,.int 1 v] }).objs.size],_,_,H,rfl,j.kept (t':=tk) λb o e=>aT _ e,Ln _ lo (hi-lo).toNat,?_,λb F=>?_,q⟩
 .have e1:lo+((0:Nat):Int)*1=lo:=by simp
  have e2:(((hi-lo).toNat:Nat):Int)-((0:Nat):Int)=Builtin.Range.rangeSize lo hi 1:=by rw [rangeSize_one];split<;>lia
  show IsRangeIter _ _ (lo+((0:Nat):Int)*1) ((((hi-lo).toNat:Nat):Int)-((0:Nat):Int)) 1;rw [e1,e2];exact bQ _ rfl
 .have e:b=(s.heap.push { cls:=.type "range",data:=.fields #[.int lo t,.int hi u,.int 1 v] }).objs.size:=by simpa using F
  subst e;exact j.fpOk (8:) (j.hok.fresh (8:))
def C1(ta:TA):TI:=λσ H R=>ta σ H λvs H1=>∃j:Int,vs=[.int j]/\-(2^62)<=j/\j<2^62/\R (Itr 0 j.toNat) H1
def C3(ta:TA):TI:=λσ H R=>ta σ H λvs H1=>∃i j:Int,vs=[.int i,.int j]/\(-(2^62)<=i/\i<2^62/\-(2^62)<=j/\j<2^62)/\R (Itr i (j-i).toNat) H1
theorem Zr{a:Expr}{ta:TA}{p:Pos}(hg:Gl X "range")(hm:X.mg "range"=none)(ha:PA X [a] ta)(hs:starEach [a] X.env=[(false,eval a X.env)]:=by rfl):PI X tg (.Call (.Name "range" p) [a] [] pos) (C1 ta):=by
 intro pins s σ H R I h;refine Call_ (YT I hg hm boot_range (fJ (thn (ha pos pins s σ H _ I h) λU Y ⟨vs,H1,G,J,F⟩=>?_) hs rfl));obtain⟨j,e,F,L,q⟩:=F;subst e;cases J with
 | cons r M=>
  cases M;obtain⟨t,rfl⟩:=r;exact call_range_1 (Gi G (10:) (10:) F L (by simpa using q))
theorem NI{a b:Expr}{ta:TA}{p:Pos}(hg:Gl X "range")(hm:X.mg "range"=none)(ha:PA X [a,b] ta)(hs:starEach [a,b] X.env=[(false,eval a X.env),(false,eval b X.env)]:=by rfl)(hs2:starEach [b] X.env=[(false,eval b X.env)]:=by rfl):
 PI X tg (.Call (.Name "range" p) [a,b] [] pos) (C3 ta):=by
 intro pins s σ H R I h;refine Call_ (YT I hg hm boot_range (fJ (thn (ha pos pins s σ H _ I h) λus s1 ⟨vs,H1,J,L,F⟩=>?_) (by rw [hs,hs2]) (by rw [hs2];rfl)));obtain⟨i,j,e,⟨F,M,U,Y⟩,q⟩:=F;subst e;cases L with
 | cons r G=>
  cases G with
  | cons r' G=>
   cases G;obtain⟨t,rfl⟩:=r;obtain⟨t',rfl⟩:=r';exact call_range_2 (Gi J F M U Y q)
def CL(wi:TI)(g:TG)(tb:TS):TS:=λD σ H=>wi σ H λJ H1=>∃W:Nat->Nat->St->Hp->Prop,(∃m,W 0 m σ H1)/\∀i m σ H,W i m σ H->
 (J.stop i H/\D.nx σ H)\/(J.go i H/\∃N:St->Hp->Prop,(∀σ' H',N σ' H'->∃m',m'<m/\W (i+1) m' σ' H')/\∀x H',J.yld i H x H'->g x σ H' λσ2 H2=>tb { D with nx:=N,ct:=N,bk:=D.nx } σ2 H2)
def Uq(fp:List Addr)(h:Heap):List (13:):=fp.filterMap λb=>(h.get? b).map λo=>(b,o)
theorem ZS{h:Heap}(hb:b∈fp)(e:h.get? b=some o):(b,o)∈Uq fp h:=dU.mpr ⟨b,hb,by rw [e];rfl⟩
theorem N0{h:Heap}{p:Addr×Obj}(hp:p∈Uq fp h):p.1∈fp/\h.get? p.1=some p.2:=by
 obtain⟨b,j,e⟩:=dU.mp hp;cases q:h.get? b with
 | none=>rw [q]at e;cases e
 | some o=>
  rw [q]at e;have F:(b,o)=p:=aK e;subst F;exact⟨j,q⟩
theorem Inv.pinned{pins:List (13:)}(I:Inv X pins σ H s)(hf:∀b∈fp,U4 X pins H b)(ho:∀b∈fp,∃o,s.heap.get? b=some o/\∀v,o.data≠.cell v):Inv X (pins++Uq fp s.heap) σ H s:=
 I.pins_of λp hp=>(aW.mp hp).elim (λz=>I.pin p (bV _ z)) λz=>by
  obtain⟨j,e⟩:=N0 z;obtain⟨G,J,L,_⟩:=hf p.1 j;obtain⟨o,F,d⟩:=ho p.1 j;rw [e]at F;cases F;exact⟨e,G,J,L,d⟩
theorem Inv.unpinned{pins pl:List (13:)}(I:Inv X (pins++pl) σ H s):Inv X pins σ H s:=I.pins_of λp hp=>I.pin p (bV _ (cU _ hp))
theorem Ze(hp:PassesOwn (6:) X.A X.env X.xe)(hc:X.calm=true)(hi:PI X tg iter wi)(hg:PG X tg g)(hb:PSs X body tb)
 (hs:∀x,foldedSetIterable iter X.env x=pure x:=by intro _;rfl):PS X (.For tg iter body [] pos) (CL wi g tb):=by
 intro pins s σ H D I h;refine wpAny_For (thn (hi pins s σ H _ I h) λv s1 h1=>thn h1 λak s2 h2=>?_) hs;obtain⟨it,fp,tn,J,H2,e,I2,T,af,f2,W,⟨m0,w0⟩,turn⟩:=h2;subst e;have M:∀{H':Hp},(∀b∈fp,H' b=none)->∀b∈fp,U4 X pins H' b:=λhn b hb=>⟨hn b hb,(f2 b hb).2⟩;refine codeAny_forLoop_any (λn s'=>∃i Y H',Inv X pins Y H' s'/\tn i s'.heap/\(∀b∈fp,H' b=none)/\W i n Y H') ?_ m0 ⟨0,σ,H2,I2,af,λb hb=>(f2 b hb).1,w0⟩;rintro n s3 ⟨i,aa,H3,I3,ac,ad,w3⟩;rcases turn i n aa H3 w3 with⟨ae,qn⟩ | ⟨go,N,hN,step⟩
 .refine fE hp (thn (T.done X rfl rfl rfl hc i pins s3 aa H3 X.xe I3 (M ad) ac ae) λr s4 ⟨hr,I4⟩=>?_);subst hr;exact wpAny_execs_nil ⟨aa,H3,I4,qn⟩
 .refine fE hp (thn (T.item X rfl rfl rfl hc i pins s3 aa H3 X.xe I3 (M ad) ac go) λr s4 ⟨u,hr,h4⟩=>?_);subst hr;refine fE hp (thn h4 λ_ s5 ⟨x,H5,I5,r5,y5,ab,ag⟩=>?_);have ai:=I5.pinned (M ag) (T.obj _ _ ab);refine fE hp (thn (hg _ s5 aa H5 x u _ ai r5 (step x H5 y5)) λ_ s6 ⟨aj,H6,I6,q6⟩=>?_);refine fE hp (thn (hb _ s6 aj H6 _ I6 q6) λf s7 L=>?_);have U:∀{j:St}{F:Hp},Inv X (pins++Uq fp s5.heap) j F s7->N j F->∃m,m<n/\∃i Y H',Inv X pins Y H' s7/\tn i s7.heap/\(∀b∈fp,H' b=none)/\W i m Y H':=λ{j F} G n7=>by
   obtain⟨m',hm,w7⟩:=hN j F n7;refine⟨m',hm,i+1,j,F,G.unpinned,T.keep _ _ _ ab λb hb o e=>(G.pin (b,o) (bV _ (bV _ (ZS hb e)))).1,λb hb=>?_,w7⟩;obtain⟨o,e,d⟩:=T.obj _ _ ab b hb;exact(G.pin (b,o) (bV _ (bV _ (ZS hb e)))).2.1
  cases f with
  | next=>obtain⟨j,F,G,n7⟩:=L;exact U G n7
  | cont=>obtain⟨j,F,G,n7⟩:=L;exact U G n7
  | brk=>obtain⟨j,F,G,L⟩:=L;exact⟨j,F,G.unpinned,L⟩
  | ret v=>obtain⟨x7,j,F,G,r7,L⟩:=L;exact⟨x7,j,F,G.unpinned,r7,L⟩
theorem Zn{K:Fg}{D:Ends}(Pv:Nat->St->Hp->Prop)(h0:Pv 0 σ H)(hl:∀i σ H,i<=xs.length->Pv i σ H->SqL K H a xs)
 (hs:∀i x σ H,xs[i]?=some x->Pv i σ H->g x σ H λσ2 H2=>tb { D with nx:=Pv (i+1),ct:=Pv (i+1),bk:=D.nx } σ2 H2) (hd:∀σ H,Pv xs.length σ H->D.nx σ H):
 ∃W:Nat->Nat->St->Hp->Prop,(∃m,W 0 m σ H)/\∀i m σ H,W i m σ H->
  ((Itl K a).stop i H/\D.nx σ H)\/((Itl K a).go i H/\∃N:St->Hp->Prop,(∀σ' H',N σ' H'->∃m',m'<m/\W (i+1) m' σ' H')/\∀x H',(Itl K a).yld i H x H'->g x σ H' λσ2 H2=>tb { D with nx:=N,ct:=N,bk:=D.nx } σ2 H2):=by
 refine⟨λi m σ H=>m=xs.length-i/\i<=xs.length/\Pv i σ H,⟨xs.length,by simp,bZ _,h0⟩,?_⟩;rintro i m σ H ⟨rfl,hi,p⟩;have q:=hl i σ H hi p
 by_cases j:i<xs.length
 .refine .inr ⟨⟨xs,xs[i],q,by simp [j]⟩,Pv (i+1),λσ' H' F=>⟨xs.length-(i+1),by lia,rfl,j,F⟩,λx H' y=>?_⟩;obtain⟨e,y⟩:=y;subst e;exact hs i x σ _ (y xs q) p
 .have e:i=xs.length:=by lia
  subst e;exact .inl ⟨⟨xs,q,bX _⟩,hd σ H p⟩
theorem MX{K:Fg}{D:Ends}(Pv:Nat->St->Hp->Prop)(h0:Pv 0 σ H)(hl:∀i σ H,i<=xs.length->Pv i σ H->SqT K H a xs)
 (hs:∀i x σ H,xs[i]?=some x->Pv i σ H->g x σ H λσ2 H2=>tb { D with nx:=Pv (i+1),ct:=Pv (i+1),bk:=D.nx } σ2 H2) (hd:∀σ H,Pv xs.length σ H->D.nx σ H):
 ∃W:Nat->Nat->St->Hp->Prop,(∃m,W 0 m σ H)/\∀i m σ H,W i m σ H->
  ((Itt K a).stop i H/\D.nx σ H)\/((Itt K a).go i H/\∃N:St->Hp->Prop,(∀σ' H',N σ' H'->∃m',m'<m/\W (i+1) m' σ' H')/\∀x H',(Itt K a).yld i H x H'->g x σ H' λσ2 H2=>tb { D with nx:=N,ct:=N,bk:=D.nx } σ2 H2):=by
 refine⟨λi m σ H=>m=xs.length-i/\i<=xs.length/\Pv i σ H,⟨xs.length,by simp,bZ _,h0⟩,?_⟩;rintro i m σ H ⟨rfl,hi,p⟩;have q:=hl i σ H hi p
 by_cases j:i<xs.length
 .refine .inr ⟨⟨xs,xs[i],q,by simp [j]⟩,Pv (i+1),λσ' H' F=>⟨xs.length-(i+1),by lia,rfl,j,F⟩,λx H' y=>?_⟩;obtain⟨e,y⟩:=y;subst e;exact hs i x σ _ (y xs q) p
 .have e:i=xs.length:=by lia
  subst e;exact .inl ⟨⟨xs,q,bX _⟩,hd σ H p⟩
theorem ZE{lo:Int}{D:Ends}(Pv:Nat->St->Hp->Prop)(h0:Pv 0 σ H)
 (hs:∀i σ H,i<n->Pv i σ H->g (.int (lo+i)) σ H λσ2 H2=>tb { D with nx:=Pv (i+1),ct:=Pv (i+1),bk:=D.nx } σ2 H2) (hd:∀σ H,Pv n σ H->D.nx σ H):
 ∃W:Nat->Nat->St->Hp->Prop,(∃m,W 0 m σ H)/\∀i m σ H,W i m σ H->
  ((Itr lo n).stop i H/\D.nx σ H)\/((Itr lo n).go i H/\∃N:St->Hp->Prop,(∀σ' H',N σ' H'->∃m',m'<m/\W (i+1) m' σ' H')/\∀x H',(Itr lo n).yld i H x H'->g x σ H' λσ2 H2=>tb { D with nx:=N,ct:=N,bk:=D.nx } σ2 H2):=by
 refine⟨λi m σ H=>m=n-i/\i<=n/\Pv i σ H,⟨n,by simp,bZ _,h0⟩,?_⟩;rintro i m σ H ⟨rfl,hi,p⟩
 by_cases j:i<n
 .refine .inr ⟨j,Pv (i+1),λσ' H' F=>⟨n-(i+1),by lia,rfl,j,F⟩,λx H' y=>?_⟩;obtain⟨e,y⟩:=y;subst e y;exact hs i σ _ j p
 .have e:i=n:=by lia
  subst e;exact .inl ⟨bX _,hd σ H p⟩
abbrev R2:=V->V->Hp->VK->Prop
def OpR(X:Cx)(f:Value->Value->Sem Value)(r:R2):Prop:=
 ∀(pins:List (13:))(s:Shared)(σ:St)(H:Hp)(x y:V)(v u:Value)(Q:VK),Inv X pins σ H s->RelV x v->RelV y u->r x y H Q->
  wpAny (6:) X.A (f v u) (EP X pins σ Q) X.xe s
def UnR(X:Cx)(f:Value->Sem Value)(r:V->Hp->VK->Prop):Prop:=
 ∀(pins:List (13:))(s:Shared)(σ:St)(H:Hp)(x:V)(v:Value)(Q:VK),Inv X pins σ H s->RelV x v->r x H Q->
  wpAny (6:) X.A (f v) (EP X pins σ Q) X.xe s
def ZO(X:Cx)(f:Value)(r:List V->Hp->VK->Prop):Prop:=
 ∀(pins:List (13:))(s:Shared)(σ:St)(H:Hp)(xs:List V)(us:List Value)(Q:VK),Inv X pins σ H s->Vals xs us->r xs H Q->
  wpAny (6:) X.A (call f us) (EP X pins σ Q) X.xe s
def tOp(r:R2)(ta tb:TE):TE:=λσ H Q=>ta σ H λx H1=>tb σ H1 λy H2=>r x y H2 Q
def tUn(r:V->Hp->VK->Prop)(ta:TE):TE:=λσ H Q=>ta σ H λx H1=>r x H1 Q
def rI(C:Int->Int->Prop)(g:Int->Int->V):R2:=λx y H Q=>∃i j,x=.int i/\y=.int j/\C i j/\Q (g i j) H
def rI0(g:Int->Int->V):R2:=λx y H Q=>∃i j,x=.int i/\y=.int j/\Q (g i j) H
def rU(g:Int->V):V->Hp->VK->Prop:=λx H Q=>∃i,x=.int i/\Q (g i) H
section
variable{a b c:Expr}{tb tc:TE}
theorem BC(ha:PE X a ta)(hb:PE X b tb){pins:List (13:)}{R:V->V->Hp->Prop}(I:Inv X pins σ H s)
 (h:ta σ H λx H1=>tb σ H1 λy H2=>R x y H2)  {f:Value->Value->Sem Value}
 (hf:∀v u s2 x y H2,Inv X pins σ H2 s2->RelV x v->RelV y u->R x y H2->wpAny (6:) X.A (f v u) Q X.xe s2):
 wpAny (6:) X.A (eval a X.env) (λv s₁=>wpAny (6:) X.A (eval b X.env) (λu s₂=>wpAny (6:) X.A (f v u) Q X.xe s₂) X.xe s₁) X.xe s:=by
 refine thn (ha pins s σ H _ I h) λv j ⟨x,H1,F,G,J⟩=>?_;refine thn (hb pins j σ H1 _ F J) λu s2 ⟨y,H2,L,M,U⟩=>?_;exact hf v u s2 x y H2 L G M U
theorem Ql{r:R2}(ho:OpR X (binaryOp op) r)(ha:PE X a ta)(hb:PE X b tb):PE X (.BinOp a op b pos) (tOp r ta tb):=by
 intro pins s σ H Q I h;exact wpAny_BinOp (BC ha hb I h λv u j x y H2 F G J q=>ho pins j σ H2 x y v u Q F G J q)
theorem Au{op:UnaryOp}{r:V->Hp->VK->Prop}(ho:UnR X (unaryOp op) r)(ha:PE X a ta):PE X (.UnaryOp op a pos) (tUn r ta):=by
 intro pins s σ H Q I h;exact UnaryOp_ (thn (ha pins s σ H _ I h) λv j ⟨x,H1,F,G,J⟩=>ho pins j σ H1 x v Q F G J)
theorem opI{f:Value->Value->Sem Value}{C:Int->Int->Prop}{g:Int->Int->Int}
 (rule:∀(i j:Int)(t u:Tok)(s:Shared)(Q:Value->Shared->Prop)(E:Value->Shared->Prop),C i j->Q (.int (g i j) s.toks) { s with toks:=s.toks+1 }->wpAny (6:) X.A (f (.int i t) (.int j u)) Q E s):
 OpR X f (rI C λi j=>.int (g i j)):=by
 intro pins s σ H x y v u Q I F G h;obtain⟨i,j,rfl,rfl,J,q⟩:=h;obtain⟨t,rfl⟩:=F;obtain⟨L,rfl⟩:=G;exact rule i j t L s _ _ J ⟨.int (g i j),H,I.tok _,⟨_,rfl⟩,q⟩
theorem Cf{f:Value->Value->Sem Value}{g:Int->Int->Int}
 (rule:∀(i j:Int)(t u:Tok)(s:Shared)(Q:Value->Shared->Prop)(E:Value->Shared->Prop),Q (.int (g i j) s.toks) { s with toks:=s.toks+1 }->wpAny (6:) X.A (f (.int i t) (.int j u)) Q E s):
 OpR X f (rI0 λi j=>.int (g i j)):=by
 intro pins s σ H x y v u Q I F G h;obtain⟨i,j,rfl,rfl,q⟩:=h;obtain⟨t,rfl⟩:=F;obtain⟨J,rfl⟩:=G;exact rule i j t J s _ _ ⟨.int (g i j),H,I.tok _,⟨_,rfl⟩,q⟩
theorem A0{f:Value->Value->Sem Value}{g:Int->Int->Bool}
 (rule:∀(i j:Int)(t u:Tok)(s:Shared)(Q:Value->Shared->Prop)(E:Value->Shared->Prop),Q (.bool (g i j)) s->wpAny (6:) X.A (f (.int i t) (.int j u)) Q E s):
 OpR X f (rI0 λi j=>.bl (g i j)):=by
 intro pins s σ H x y v u Q I F G h;obtain⟨i,j,rfl,rfl,q⟩:=h;obtain⟨t,rfl⟩:=F;obtain⟨J,rfl⟩:=G;exact rule i j t J s _ _ ⟨.bl (g i j),H,I,rfl,q⟩
def Co(i j:Int):Prop:=0<j/\j<1073741824
def Lu(i j:Int):Prop:=0<=j/\j<=1000000/\i.natAbs<2^64
def CMul(i j:Int):Prop:=(-(2^64)<i/\i<2^64)\/(-(2^64)<j/\j<2^64)
theorem CMul.ok{i j:Int}(h:CMul i j):IntMulOk i j:=by
 rcases h with⟨h1,h2⟩ | ⟨h1,h2⟩
 .exact .of_left (intBits_le_64 h1 h2)
 .exact .of_right (intBits_le_64 h1 h2)
theorem Zx:OpR X (binaryOp .Add) (rI0 λi j=>.int (i+j)):=Cf λ_ _ _ _ _ _ _ q=>add_int q
theorem Jd:OpR X (binaryOp .Sub) (rI0 λi j=>.int (i-j)):=Cf λ_ _ _ _ _ _ _ q=>sub_int q
theorem JY:OpR X (binaryOp .Mult) (rI CMul λi j=>.int (i*j)):=opI λ_ _ _ _ _ _ _ F q=>mul_int q F.ok
theorem Zu:OpR X (binaryOp .FloorDiv) (rI Co λi j=>.int (i/j)):=opI λi j _ _ _ _ _ F q=>by
 have h1:(0:Int)<j:=F.1;have h2:j<1073741824:=F.2;exact floordiv_int (10:) (by rw [Int.fdiv_eq_ediv_of_nonneg i (10:)];exact q) (.inl (PyProof.noPylong_small (10:)))
theorem QP:OpR X (binaryOp .Mod) (rI (λ_ j=>0<j) λi j=>.int (i%j)):=opI λi j _ _ _ _ _ F q=>by
 have h1:(0:Int)<j:=F;exact mod_int' (10:) (by rw [Int.fmod_eq_emod_of_nonneg i (10:)];exact q)
theorem Z8:OpR X (binaryOp .Pow) (rI Lu λi j=>.int (i^j.toNat)):=opI λ_ _ _ _ _ _ _ F q=>pow_int_small F.1 F.2.1 F.2.2 q
theorem unI{f:Value->Sem Value}{g:Int->Int}
 (rule:∀(i:Int)(t:Tok)(s:Shared)(Q:Value->Shared->Prop)(E:Value->Shared->Prop),Q (.int (g i) s.toks) { s with toks:=s.toks+1 }->wpAny (6:) X.A (f (.int i t)) Q E s):
 UnR X f (rU λi=>.int (g i)):=by
 intro pins s σ H x v Q I j h;obtain⟨i,rfl,q⟩:=h;obtain⟨t,rfl⟩:=j;exact rule i t s _ _ ⟨.int (g i),H,I.tok _,⟨_,rfl⟩,q⟩
theorem Om:UnR X (unaryOp .USub) (rU λi=>.int (-i)):=unI λ_ _ _ _ _ q=>neg_int q
end
def CK:V->V->Bool
 | .non,.non=>true | .non,.int _=>true | .int _,.non=>true | .non,.bl _=>true | .bl _,.non=>true | .non,.str _=>true | .str _,.non=>true
 | .int _,.int _=>true | .bl _,.bl _=>true | .str _,.str _=>true | .byt _,.byt _=>true
 | .int _,.str _=>true | .str _,.int _=>true | .bl _,.str _=>true | .str _,.bl _=>true
 | _,_=>false
def rEq:R2:=λx y H Q=>CK x y=true/\Q (.bl (decide (x=y))) H
def rNe:R2:=λx y H Q=>CK x y=true/\Q (.bl (!decide (x=y))) H
theorem L8{i j:Int}:decide (V.int i=V.int j)=(i==j):=by
 rw [fF];simp
theorem PR{i j:Bool}:decide (V.bl i=V.bl j)=(i==j):=by
 rw [fF];simp
theorem Ma{i j:Str}:decide (V.str i=V.str j)=(i==j):=by
 rw [fF];simp
theorem Mi{i j:Array UInt8}:decide (V.byt i=V.byt j)=(i.toList==j.toList):=by
 rw [fF];cases i;cases j;simp
section
variable{a b c:Expr}{tb tc:TE}
theorem QR{pins:List (13:)}{Q:VK}{k k':Bool}(I:Inv X pins σ H s)(q:Q (.bl k) H)(e:k=k'):EP X pins σ Q (.bool k') s:=by
 subst e;exact⟨.bl k,H,I,rfl,q⟩
theorem Zw:OpR X (compareOp .Eq) rEq:=by
 intro pins s σ H x y v u Q I L F h;obtain⟨J,q⟩:=h;cases x with
 | non=>
  cases L;cases y with
  | non=>cases F;exact PySem.EqNone.eq_none_none (QR I q (22:))
  | bl j=>cases F;exact PySem.EqNone.eq_none_bool (QR I q (22:))
  | int j=>obtain⟨G,rfl⟩:=F;exact PySem.EqNone.eq_none_int (QR I q (22:))
  | str j=>obtain⟨G,rfl⟩:=F;exact PySem.EqNone.eq_none_str (QR I q (22:))
  | _=>exact absurd (show false=true from J) a_
 | bl i=>
  cases L;cases y with
  | non=>cases F;exact PySem.EqNone.eq_bool_none (QR I q (22:))
  | bl j=>cases F;exact eq_bool (QR I q PR)
  | str j=>obtain⟨G,rfl⟩:=F;exact PySem.EqMixed.eq_bool_str (QR I q (22:))
  | _=>exact absurd (show false=true from J) a_
 | int i=>
  obtain⟨t,rfl⟩:=L;cases y with
  | non=>cases F;exact PySem.EqNone.eq_int_none (QR I q (22:))
  | int j=>obtain⟨G,rfl⟩:=F;exact eq_int (QR I q L8)
  | str j=>obtain⟨G,rfl⟩:=F;exact PySem.EqMixed.eq_int_str (QR I q (22:))
  | _=>exact absurd (show false=true from J) a_
 | str i=>
  obtain⟨t,rfl⟩:=L;cases y with
  | non=>cases F;exact PySem.EqNone.eq_str_none (QR I q (22:))
  | bl j=>cases F;exact PySem.EqMixed.eq_str_bool (QR I q (22:))
  | int j=>obtain⟨G,rfl⟩:=F;exact PySem.EqMixed.eq_str_int (QR I q (22:))
  | str j=>obtain⟨G,rfl⟩:=F;exact eq_str (QR I q Ma)
  | _=>exact absurd (show false=true from J) a_
 | byt i=>
  obtain⟨t,rfl⟩:=L;cases y with
  | byt j=>obtain⟨G,rfl⟩:=F;exact PySem.W.eq_bytes (QR I q Mi)
  | _=>exact absurd (show false=true from J) a_
 | _=>cases y<;>exact absurd (show false=true from J) a_
theorem Jq:OpR X (compareOp .NotEq) rNe:=by
 intro pins s σ H x y v u Q I L F h;obtain⟨J,q⟩:=h;cases x with
 | non=>
  cases L;cases y with
  | non=>cases F;exact PySem.EqNone.ne_none_none (QR I q (22:))
  | bl j=>cases F;exact PySem.EqNone.ne_none_bool (QR I q (22:))
  | int j=>obtain⟨G,rfl⟩:=F;exact PySem.EqNone.ne_none_int (QR I q (22:))
  | str j=>obtain⟨G,rfl⟩:=F;exact PySem.EqNone.ne_none_str (QR I q (22:))
  | _=>exact absurd (show false=true from J) a_
 | bl i=>
  cases L;cases y with
  | non=>cases F;exact PySem.EqNone.ne_bool_none (QR I q (22:))
  | bl j=>cases F;exact ne_bool (QR I q (congrArg not PR))
  | str j=>obtain⟨G,rfl⟩:=F;exact PySem.EqMixed.ne_bool_str (QR I q (22:))
  | _=>exact absurd (show false=true from J) a_
 | int i=>
  obtain⟨t,rfl⟩:=L;cases y with
  | non=>cases F;exact PySem.EqNone.ne_int_none (QR I q (22:))
  | int j=>obtain⟨G,rfl⟩:=F;exact ne_int (QR I q (congrArg not L8))
  | str j=>obtain⟨G,rfl⟩:=F;exact PySem.EqMixed.ne_int_str (QR I q (22:))
  | _=>exact absurd (show false=true from J) a_
 | str i=>
  obtain⟨t,rfl⟩:=L;cases y with
  | non=>cases F;exact PySem.EqNone.ne_str_none (QR I q (22:))
  | bl j=>cases F;exact PySem.EqMixed.ne_str_bool (QR I q (22:))
  | int j=>obtain⟨G,rfl⟩:=F;exact PySem.EqMixed.ne_str_int (QR I q (22:))
  | str j=>obtain⟨G,rfl⟩:=F;exact ne_str (QR I q (congrArg not Ma))
  | _=>exact absurd (show false=true from J) a_
 | byt i=>
  obtain⟨t,rfl⟩:=L;cases y with
  | byt j=>obtain⟨G,rfl⟩:=F;exact PySem.W.ne_bytes (QR I q (congrArg not Mi))
  | _=>exact absurd (show false=true from J) a_
 | _=>cases y<;>exact absurd (show false=true from J) a_
theorem Jk:OpR X (compareOp .Lt) (rI0 λi j=>.bl (decide (i<j))):=A0 λ_ _ _ _ _ _ _ q=>lt_int q
theorem Az:OpR X (compareOp .LtE) (rI0 λi j=>.bl (decide (i<=j))):=A0 λ_ _ _ _ _ _ _ q=>le_int q
theorem XE:OpR X (compareOp .Gt) (rI0 λi j=>.bl (decide (j<i))):=A0 λ_ _ _ _ _ _ _ q=>gt_int q
theorem Ng:OpR X (compareOp .In) (λx y H Q=>∃i j,x=.str i/\y=.str j/\Q (.bl (!(Builtin.Str.occurrences j i 0 j.length 1).isEmpty)) H):=by
 intro pins s σ H x y v u Q I F G h;obtain⟨i,j,rfl,rfl,q⟩:=h;obtain⟨t,rfl⟩:=F;obtain⟨J,rfl⟩:=G;exact in_str (QR I q rfl)
theorem AM:OpR X (compareOp .Is) (λx y H Q=>y=.non/\Q (.bl (decide (x=.non))) H):=by
 intro pins s σ H x y v u Q I j F h;obtain⟨rfl,q⟩:=h;cases F;refine is_none_gen (QR I q ?_);cases x<;>first
  | (cases j;rfl)
  | (obtain⟨t,rfl⟩:=j;rfl)
theorem QB(b:Expr){op:CmpOp}(h:op≠.In:=by decide)(h2:op≠.NotIn:=by decide):behindInMarks op b=false:=by
 have e1:(op==CmpOp.In)=false:=by cases op<;>first | rfl | exact absurd rfl h
 have e2:(op==CmpOp.NotIn)=false:=by cases op<;>first | rfl | exact absurd rfl h2
 cases b<;>simp [behindInMarks,e1,e2]
theorem Z0{op:CmpOp}{r:R2}(ho:OpR X (compareOp op) r)(ha:PE X a ta)(hb:PE X b tb)(hm:behindInMarks op b=false):PE X (.Compare a [op] [b] pos) (tOp r ta tb):=by
 intro pins s σ H Q I h;exact wpAny_Compare1 (BC ha hb I h λv u j x y H2 F G J q=>ho pins j σ H2 x y v u Q F G J q) hm
def T7(t:TE):TT:=λσ H Q=>t σ H λx H'=>∃k,x=.bl k/\Q k H'
theorem Qu{op:CmpOp}{r:R2}(ho:OpR X (compareOp op) r)(ha:PE X a ta)(hb:PE X b tb)(hm:behindInMarks op b=false):PT X (.Compare a [op] [b] pos) (T7 (tOp r ta tb)):=by
 intro pins s σ H Q I h;refine wpAny_isTrue_Compare1 (thn (ha pins s σ H _ I h) λv j ⟨x,H1,F,G,J⟩=>thn (hb pins j σ H1 _ F J) λu L ⟨y,H2,M,U,Y⟩=>
  thn (ho pins L σ H2 x y v u _ M G U Y) λc s3 ⟨z,H3,I3,r3,k,e,q3⟩=>?_) hm
 subst e;cases r3;exact dI ⟨H3,I3,q3⟩
def BF(r r':R2)(ta tb tc:TE):TE:=λσ H Q=>ta σ H λx H1=>tb σ H1 λy H2=>r x y H2 λz H3=>∃k,z=.bl k/\
 (if k=true then tc σ H3 λw' H4=>r' y w' H4 Q else Q (.bl false) H3)
theorem GH{op op':CmpOp}{r r':R2}(ho:OpR X (compareOp op) r)(ho':OpR X (compareOp op') r')(ha:PE X a ta)(hb:PE X b tb)(hc:PE X c tc)
 (hm:lastMarks [op,op'] [b,c]=false:=by with_unfolding_all rfl):PT X (.Compare a [op,op'] [b,c] pos) (T7 (BF r r' ta tb tc)):=by
 intro pins s σ H Q I h;refine isTrue_chain (thn (ha pins s σ H _ I h) λv L ⟨x,H1,M,U,Y⟩=>test_link (thn (hb pins L σ H1 _ M Y) λu s2 ⟨y,H2,I2,j,q2⟩=>
  thn (ho pins s2 σ H2 x y v u _ I2 U j q2) λd s3 ⟨z,F,G,r3,k,e,J⟩=>?_)) hm
 subst e;cases r3;refine dI ?_;cases k with
 | false=>
  obtain⟨k',e',q'⟩:=J;cases e';exact ite_ff ⟨F,G,q'⟩
 | true=>
  refine ite_tt (test_last (thn (hc pins s3 σ F _ G J) λw' s4 ⟨z',H4,I4,r4,q4⟩=>thn (ho' pins s4 σ H4 y z' u w' _ I4 j r4 q4) λd' s5 ⟨z2,H5,I5,r5,k2,e2,q5⟩=>?_));subst e2;cases r5;exact dI ⟨H5,I5,q5⟩
theorem Xz:(sizeLine:Nat)<2^63:=by rw [cZ];decide
theorem Qq:OpR X (binaryOp .Add) (λx y H Q=>∃i j,x=.str i/\y=.str j/\i.length+j.length<=sizeLine/\Q (.str (i++j)) H):=by
 intro pins s σ H x y v u Q I F G h;obtain⟨i,j,rfl,rfl,hz,q⟩:=h;obtain⟨t,rfl⟩:=F;obtain⟨J,rfl⟩:=G;exact add_str (λJ tk=>⟨.str (i++j),H,I.tok _,⟨_,rfl⟩,q⟩) hz
theorem Uj{x:V}(r:Vals [x] us):∃u,us=[u]/\RelV x u:=by
 cases r with
 | cons j F=>cases F;exact⟨_,rfl,j⟩
theorem Ra{x:V}(r:Vals [x,y] us):∃u w',us=[u,w']/\RelV x u/\RelV y w':=by
 cases r with
 | cons j F=>
  cases F with
  | cons G J=>cases J;exact⟨_,_,rfl,j,G⟩
theorem NG:ZO X (.type "int") (λxs H Q=>(∃i,xs=[.int i]/\Q (.int i) H)\/∃k,xs=[.bl k]/\Q (.int (if k then 1 else 0)) H):=by
 intro pins s σ H xs F Q I r h;rcases h with⟨i,rfl,q⟩ | ⟨k,rfl,q⟩
 .obtain⟨u,rfl,t,rfl⟩:=Uj r;exact call_int_int ⟨.int i,H,I,⟨_,rfl⟩,q⟩
 .obtain⟨u,rfl,j⟩:=Uj r;cases j;exact call_int_bool ⟨.int (if k then 1 else 0),H,I.tok _,⟨_,rfl⟩,q⟩
theorem Zt:ZO X (.type "str") (λxs H Q=>∃i,xs=[.int i]/\i.natAbs.log2<1920/\Q (.str (toString i)) H):=by
 intro pins s σ H xs j Q I r h;obtain⟨i,rfl,hz,q⟩:=h;obtain⟨u,rfl,t,rfl⟩:=Uj r;exact PySem.P.str_of_int hz ⟨.str _,H,I.tok _,⟨_,rfl⟩,q⟩
end
structure ObjM(h:Heap)(x dx C:Addr)(mA:Str->Option Value):Prop where
 obj:h.get? x=some (PySem.W.instObj C dx)
 ns:h.Ns1 dx mA
 ne:dx≠x
theorem NA{h:Heap}(n:h.Ns1 dx mA):∃od,h.get? dx=some od/\∀name,PySem.W.lookIn name od=some (mA name):=by
 obtain⟨o,es,ep,F,G,J,_,L⟩:=n;refine⟨o,F,λname=>?_⟩;have e:=L name;unfold nsFind findBy at e;rw [<-Array.find?_toList]at e;unfold PySem.W.lookIn;rw [G];dsimp only;split
 .rename_i y q;rw [q]at e;exact congrArg some e
 .rename_i q;rw [q]at e;have a:es.toList.any (·.refKey)=false:=by
   rw [List.any_eq_false];intro y M;obtain⟨z,t,j⟩:=J y (Array.mem_toList_iff.mp M);simp [DictEntry.refKey,j]
  have U:¬es.toList.any (·.refKey)=true:=by rw [a];exact a_
  rw [aF U];exact congrArg some e
theorem ObjM.look{h:Heap}{x:Addr}(I:ObjM h x dx C mA):∃od,PySem.W.InstAt h x (PySem.W.instObj C dx) C (some od)/\∀name,PySem.W.lookIn name od=some (mA name):=
 let⟨od,j,hl⟩:=NA I.ns
 ⟨od,⟨I.obj,rfl,rfl,j⟩,hl⟩
section
variable{K:Fg}{x:Addr}{v:Value}
theorem TY{expr:Bool}(X:K.In s.heap)(I:ObjM s.heap x dx C mA)(hg:PySem.W.plainGet K C name=true)(hh:PySem.W.hasDictIn K C=true)
 (ha:PySem.W.findIn K (.ref C) name=some none) (hv:mA name=some v) (hv':PySem.W.handedIn v=true) (h:Q v { s with toks:=s.toks+1 }):
 wpAny (model prog w) A (getAttr (.ref x) name expr) Q E s:=by
 obtain⟨j,J,hl⟩:=I.look;exact PySem.W.get_value X J (PySem.W.plainGet_of hg).1 (PySem.W.findObj_own hh ha rfl (by rw [hl,hv])) hv' h
theorem OA{Q:Value×List Value->Shared->Prop}(X:K.In s.heap)(I:ObjM s.heap x dx C mA)(hg:PySem.W.plainGet K C name=true)
 (hf:PySem.W.findIn K (.ref C) name=some (some (.ref f))) (ht:PySem.W.isFn K (.ref f)=true) (hv:mA name=none) (h:Q (.ref f,[.ref x]) s):
 wpAny (model prog w) A (getMethod (.ref x) name pl) Q E s:=by
 obtain⟨j,J,hl⟩:=I.look;exact PySem.W.method_fn X J (PySem.W.plainGet_of hg).1 (PySem.W.plainGet_of hg).2 hf (beq_iff_eq.mp ht) (by show(PySem.W.lookIn name j).map (·.isSome)=some false;rw [hl,hv];rfl) h
theorem SL{Q:Unit->Shared->Prop}(X:K.In s.heap)(I:ObjM s.heap x dx C mA)
 (hs:PySem.W.findIn K (.ref C) "__setattr__"=some (some (.builtin "object.__setattr__"))) (hp:PySem.W.plainOver K C=true) (ht:PySem.W.takerIn K C name=some none) (hh:PySem.W.hasDictIn K C=true)
 (hw:PySem.Within mA ns) (hsz:ns.length<=sizeLine)
 (h:∀h',ObjM h' x dx C (λy=>if y=name then some v else mA y)->Heap.SameBut dx s.heap h'->Q () { s with heap:=h',toks:=s.toks+2 }):
 wpAny (model prog w) A (setAttr (.ref x) name v) Q E s:=by
 obtain⟨od,J,hl⟩:=I.look;refine PySem.W.set_plain X J hs (PySem.W.osa_open (s:={ s with toks:=s.toks+1 }) (r:=none) X J hp ht λb=>?_);obtain⟨cd,Y,G⟩:=PySem.W.any_some hh;have hx:s.heap.get? x=some ⟨.ref C,some dx,.plain,#[]⟩:=I.obj;refine aD (aG (aD (aD (wpAny_loadPart hx (aD (PySem.W.Looks.here (s:={ s with toks:=s.toks+1 }) (PySem.W.looks_clsIn X Y) ?_))))));rw [G];refine aG (a:=some dx) (aD (aG (aD ?_)));refine wpAny_nsSet1 (s:={ s with toks:=s.toks+1 }) I.ns λh' j F=>?_;obtain⟨oD,aa,ab,L,M,U⟩:=j.count (PySem.Within.cons name v hw);refine aD (wpAny_lookBehind L (by rw [M];exact pastItsLine_dict (bL U (by rw [aJ];lia))) ?_);exact aG (h _ ⟨(F.2 _ (bW I.ne)).trans I.obj,j,I.ne⟩ F)
theorem P8{vs:List Value}(X:K.In s.heap)(hm:PySem.W.makesIn K C=true)
 (hi:PySem.W.findIn K (.ref C) "__init__"=some (some (.ref f))) (hf:PySem.W.typeIn K (.ref f)=some (.type "function"))
 (h:codeAny (model prog w) (A.under (.builtin "type.__call__" ⟨.ref C::vs,kw⟩)) (.call (.ref f) ⟨.ref (s.heap.objs.size+1)::vs,kw⟩) (PySem.W.InitBack (s.heap.objs.size+1) R)
  { s with heap:=(s.heap.push PySem.W.emptyDict).push (PySem.W.instObj C s.heap.objs.size) }):
 codeAny (model prog w) A (.call (.ref C) ⟨vs,kw⟩) R s:=by
 obtain⟨F,g,d,t,G⟩:=s;exact PySem.W.make_core (PySem.W.makes_of X hm) (PySem.W.looks_findIn X hi) (λj=>PySem.W.bind_fn X j hf) (.inl rfl) h
end
def ZW(f:Str)(v:V):List (Str×V)->List (Str×V)
 | []=>[(f,v)]
 | (g,x)::r=>if g=f then(g,v)::r else(g,x)::ZW f v r
theorem Jm(f g:Str)(v:V):∀fs:List (Str×V),(ZW f v fs).lookup g=if g=f then some v else fs.lookup g
 | []=>by
  show List.lookup g [(f,v)]=_
  by_cases h:g=f
  .have j:(g==f)=true:=beq_iff_eq.mpr h;simp only [List.lookup,j,aH h]
  .have j:(g==f)=false:=eM.mpr h;simp only [List.lookup,j,aF h]
 | (k,x)::r=>by
  have G:=Jm f g v r;rw [show ZW f v ((k,x)::r)=(if k=f then(k,v)::r else(k,x)::ZW f v r)from rfl]
  by_cases F:k=f
  .rw [aH F]
   by_cases h:g=k
   .have j:(g==k)=true:=beq_iff_eq.mpr h;simp only [List.lookup,j,aH (h.trans F)]
   .have j:(g==k)=false:=eM.mpr h;simp only [List.lookup,j,aF (λe:g=f=>h (e.trans F.symm))]
  .rw [aF F]
   by_cases h:g=k
   .have j:(g==k)=true:=beq_iff_eq.mpr h;simp only [List.lookup,j,aF (λe:g=f=>F (h.symm.trans e))]
   .have j:(g==k)=false:=eM.mpr h;simp only [List.lookup,j];exact G
theorem Jc(f:Str)(v:V):∀fs:List (Str×V),f∈(ZW f v fs).map (·.1)/\∀g,g∈fs.map (·.1)->g∈(ZW f v fs).map (·.1)
 | []=>⟨by simp [ZW],λg h=>by simp at h⟩
 | (k,x)::r=>by
  obtain⟨i1,F⟩:=Jc f v r;rw [show ZW f v ((k,x)::r)=(if k=f then(k,v)::r else(k,x)::ZW f v r)from rfl]
  by_cases j:k=f
  .rw [aH j];subst j;exact⟨by simp,λg h=>by simpa using h⟩
  .rw [aF j];refine⟨?_,λg h=>?_⟩
   .rw [aR];exact aU _ i1
   .rw [aR]at h ⊢;rcases aQ.mp h with e | e
    .exact aQ.mpr (.inl e)
    .exact aU _ (F g e)
theorem Jn(f:Str)(v:V):∀fs:List (Str×V),(ZW f v fs).length<=fs.length+1
 | []=>by simp [ZW]
 | (k,x)::r=>by
  have F:=Jn f v r;rw [show ZW f v ((k,x)::r)=(if k=f then(k,v)::r else(k,x)::ZW f v r)from rfl]
  by_cases j:k=f
  .rw [aH j,aJ,aJ];lia
  .rw [aF j,aJ,aJ];lia
theorem RelO.some_of{o:Option Value}(r:RelO (some v) o):∃u,o=some u/\RelV v u:=by
 cases o with
 | none=>exact(show False from r).elim
 | some u=>exact⟨u,rfl,r⟩
theorem RelO.none_of{o:Option Value}(r:RelO none o):o=none:=by
 cases o with
 | none=>rfl
 | some u=>exact(show False from r).elim
theorem Nh(r:RelV v u):PySem.W.handedIn u=true:=by
 cases v with
 | non=>cases (show u=Value.none from r);rfl
 | bl b=>cases (show u=Value.bool b from r);rfl
 | int i=>obtain⟨t,e⟩:=(show ∃t,u=Value.int i t from r);cases e;rfl
 | str x=>obtain⟨t,e⟩:=(show ∃t,u=Value.str x t from r);cases e;rfl
 | byt b=>obtain⟨t,e⟩:=(show ∃t,u=Value.bytes b t from r);cases e;rfl
 | flt b=>obtain⟨t,e⟩:=(show ∃t,u=Value.float b t from r);cases e;rfl
 | ref a=>cases (show u=Value.ref a from r);rfl
 | ty n=>cases (show u=Value.type n from r);rfl
section
variable{h:Heap}{fs fs':List (Str×V)}
theorem JH(hok:HOk P w H h)(e:H a=some (.ins C dx fs)):∃mA,ObjM h a dx C mA/\(∀f,RelO (fs.lookup f) (mA f))/\PySem.Within mA (fs.map (·.1))/\fs.length<=1000/\H dx=some (.own a):=by
 obtain⟨d,z,ne,j,mA,n,r,q⟩:=(show ObjOk P w H h a (.ins C dx fs)from hok a _ e);exact⟨mA,⟨j,n,ne⟩,r,q,z,d⟩
end
structure Cls(K:Fg)(C:Addr):Prop where
 pg:PySem.W.plainGet K C Str.empty=true
 hd:PySem.W.hasDictIn K C=true
 po:PySem.W.plainOver K C=true
 sa:PySem.W.findIn K (.ref C) "__setattr__"=some (some (.builtin "object.__setattr__"))
theorem Cls.get{K:Fg}(c:Cls K C)(f:Str):PySem.W.plainGet K C f=true:=c.pg
def NoAttr(K:Fg)(C:Addr)(f:Str):Prop:=PySem.W.findIn K (.ref C) f=some none
theorem NoAttr.taker{K:Fg}{f:Str}(n:NoAttr K C f):PySem.W.takerIn K C f=some none:=by
 unfold PySem.W.takerIn;rw [show PySem.W.findIn K (.ref C) f=some none from n]
 rfl
structure Meth(K:Fg)(C:Addr)(m:Str)(f:Addr):Prop where
 at_:PySem.W.findIn K (.ref C) m=some (some (.ref f))
 fn:PySem.W.isFn K (.ref f)=true
 kp:PySem.W.keepIn K (.ref f)=true
section
variable{pins:List (13:)}{fs:List (Str×V)}{f:Str}
theorem J2{b:Bool}(I:Inv X pins σ H s)(e:H a=some (.ins C dx fs))(c:Cls X.K C)(n:NoAttr X.K C f)(l:fs.lookup f=some v)
 (h:∀u s',Inv X pins σ H s'->RelV v u->Q u s'):wpAny (6:) A (getAttr (.ref a) f b) Q E s:=by
 obtain⟨mA,O,r,_,_,_⟩:=JH I.hok e;obtain⟨u,j,ru⟩:=RelO.some_of (v:=v) (o:=mA f) (by rw [<-l];exact r f);exact TY I.kIn O (c.get f) c.hd n j (Nh ru) (h u _ (I.tok _) ru)
theorem Ur{m:Str}{g:Addr}{Q:Value×List Value->Shared->Prop}(I:Inv X pins σ H s)(e:H a=some (.ins C dx fs))(c:Cls X.K C)(k:Meth X.K C m g)(l:fs.lookup m=none)
 (h:Q (.ref g,[.ref a]) s):wpAny (6:) A (getMethod (.ref a) m pl) Q E s:=by
 obtain⟨mA,O,r,_,_,_⟩:=JH I.hok e;have hn:mA m=none:=RelO.none_of (by rw [<-l];exact r m);exact OA I.kIn O (c.get m) k.at_ k.fn hn h
theorem J7{Q:Unit->Shared->Prop}(I:Inv X pins σ H s)(e:H a=some (.ins C dx fs))(c:Cls X.K C)(n:NoAttr X.K C f)(hl:fs.length<1000)(ry:RelV y u)
 (h:∀s',Inv X pins σ (upd H a (.ins C dx (ZW f y fs))) s'->Q () s'):wpAny (6:) A (setAttr (.ref a) f u) Q E s:=by
 obtain⟨mA,O,r,F,_,G⟩:=JH I.hok e;have hz:(fs.map (·.1)).length<=sizeLine:=by rw [aA,cZ];lia
 refine SL I.kIn O c.sa c.po n.taker c.hd F hz λh' j J=>h _ ?_;have L:∃o,h'.get? dx=some o:=let⟨o,_,_,M,_⟩:=j.ns;⟨o,M⟩
 refine I.write (x:=a) (e:=dx) (by rw [e];exact dQ) (.inr G) (λb q U z=>(J.2 b U).trans z) L ?_;refine⟨by rw [Qi O.ne];exact G,?_,O.ne,j.obj,_,j.ns,λg=>?_,λg Y=>?_⟩
 .have:=Jn f y fs;lia
 .show RelO ((ZW f y fs).lookup g) (if g=f then some u else mA g);rw [Jm]
  by_cases q:g=f
  .rw [aH q,aH q];exact ry
  .rw [aF q,aF q];exact r g
 .by_cases q:g=f
  .rw [q];exact(Jc f y fs).1
  .refine(Jc f y fs).2 g (F g λz=>Y ?_);show(if g=f then some u else mA g)=none;rw [aF q];exact z
theorem Inv.made(I:Inv X pins σ H s):Inv X pins σ (upd (upd H s.heap.objs.size (.own (s.heap.objs.size+1))) (s.heap.objs.size+1) (.ins C s.heap.objs.size []))
 { s with heap:=(s.heap.push PySem.W.emptyDict).push (PySem.W.instObj C s.heap.objs.size) }:=by
 have e1:(s.heap.push PySem.W.emptyDict).get? s.heap.objs.size=some PySem.W.emptyDict:=bQ s.heap rfl;have e2:((s.heap.push PySem.W.emptyDict).push (PySem.W.instObj C s.heap.objs.size)).get? (s.heap.objs.size+1)=some (PySem.W.instObj C s.heap.objs.size):=by
  have:=bQ (s.heap.push PySem.W.emptyDict) (o:=PySem.W.instObj C s.heap.objs.size) rfl
  rwa [fU]at this
 have e3:(s.heap.push PySem.W.emptyDict).Ns s.heap.objs.size (λ_=>none):=⟨PySem.W.emptyDict,#[],_,e1,rfl,(λe j=>absurd j (22:)),λ_=>rfl⟩;have F:=I.laid (a:=s.heap.objs.size) (o:=.own (s.heap.objs.size+1)) (h':=s.heap.push PySem.W.emptyDict) (t':=s.toks) (λb u q=>aT _ q) (8:) ⟨_,e1⟩;refine F.laid (a:=s.heap.objs.size+1) (o:=.ins C s.heap.objs.size []) (t':=s.toks) (λb u q=>aT _ q) (Nat.le_of_eq (fU _ _)) ?_;have ne:s.heap.objs.size≠s.heap.objs.size+1:=aY (fP _);refine⟨by rw [Qi ne,Qb],bZ _,ne,e2,λ_=>none,(Heap.Ns1.of_empty e3).at λo q=>aT _ q,λ_=>dQ,λy G=>absurd rfl G⟩
theorem Sl{f:Str}(hb:attributeBase e f env (eval e env)=eval e env)
 (h:wpAny (model prog w) A (eval e env) (λo s₁=>wpAny (model prog w) A (getAttr o f true) Q E s₁) E s):wpAny (model prog w) A (eval (.Attribute e f pos) env) Q E s:=
 Attribute_any_ h (by rw [arm_eval_Attribute,hb])
end
def Df(K:Fg)(ta:TE)(f:Str):TE:=λσ H Q=>ta σ H λx H1=>∃a C dx fs v,x=.ref a/\H1 a=some (.ins C dx fs)/\Cls K C/\NoAttr K C f/\fs.lookup f=some v/\Q v H1
def Ds(K:Fg)(ta tv:TE)(f:Str):TS:=λD σ H=>tv σ H λy H1=>ta σ H1 λx H2=>∃a C dx fs,x=.ref a/\H2 a=some (.ins C dx fs)/\Cls K C/\NoAttr K C f/\fs.length<1000/\
 D.nx σ (upd H2 a (.ins C dx (ZW f y fs)))
def Cy(X:Cx)(op:Operator)(rd:V->V->Hp->VK->Prop):Prop:=
 ∀(pins:List (13:))(s:Shared)(σ:St)(H:Hp)(x y:V)(u v:Value)(Q:VK),Inv X pins σ H s->RelV x u->RelV y v->rd x y H Q->wpAny (6:) X.A (inplaceOp op u v) (EP X pins σ Q) X.xe s
def Sw(K:Fg)(ta tv:TE)(rd:V->V->Hp->VK->Prop)(f:Str):TS:=λD σ H=>ta σ H λx H1=>∃a C dx fs v,x=.ref a/\H1 a=some (.ins C dx fs)/\Cls K C/\NoAttr K C f/\fs.lookup f=some v/\
 tv σ H1 λy H2=>rd v y H2 λz H3=>∃dx' fs',H3 a=some (.ins C dx' fs')/\fs'.length<1000/\D.nx σ (upd H3 a (.ins C dx' (ZW f z fs')))
section
variable{o:Expr}{f:Str}{tv:TE}
theorem Vc(he:PE X e ta)(hb:attributeBase e f X.env (eval e X.env)=eval e X.env):PE X (.Attribute e f pos) (Df X.K ta f):=by
 intro pins s σ H Q I h;refine Sl hb (thn (he pins s σ H _ I h) λu L ⟨x,H1,j,F,a,C,dx,fs,v,ex,G,c,n,l,q⟩=>?_);subst ex;obtain rfl:u=Value.ref a:=F;exact J2 j G c n l λM U J ru=>⟨v,H1,J,ru,q⟩
theorem P9(ha:PE X o ta)(hv:PE X value tv)(hs:swapsWith value (some (.Attribute o f pos')) pos.line X.env=pure false):PS X (.Assign [.Attribute o f pos'] value pos) (Ds X.K ta tv f):=by
 intro pins s σ H D I h;refine plainObj_wpAny_Assign_Attribute (thn (hv pins s σ H _ I h) λu j ⟨y,H1,F,G,q⟩=>thn (ha pins j σ H1 _ F q) λJ s2 ⟨x,H2,L,M,a,C,dx,fs,ex,U,c,n,l,Y⟩=>?_) hs;subst ex;obtain rfl:J=Value.ref a:=M;exact J7 L U c n l G λs3 I3=>⟨σ,_,I3,Y⟩
theorem X0{rd:V->V->Hp->VK->Prop}(ha:PE X o ta)(hv:PE X value tv)(hop:Cy X op rd):PS X (.AugAssign (.Attribute o f tpos) op value pos) (Sw X.K ta tv rd f):=by
 intro pins s σ H D I h;refine wpAny_AugAssign_AttributeAny (thn (ha pins s σ H _ I h) λF s1 ⟨x,H1,G,J,a,C,dx,fs,v,ex,L,c,n,l,q⟩=>?_);subst ex;obtain rfl:F=Value.ref a:=J;refine J2 G L c n l λu M U ru=>thn (hv pins M σ H1 _ U q) λY s3 ⟨y,H2,I3,ry,q3⟩=>thn (hop pins s3 σ H2 v y u Y _ I3 ru ry q3) λw4 s4 ⟨z,H3,I4,rz,aa,fs',j,l',q4⟩=>?_;exact J7 I4 j c n l' rz λs5 I5=>⟨σ,_,I5,q4⟩
def Db:V->V->Hp->VK->Prop:=λx y H Q=>∃i j,x=.int i/\y=.int j/\Q (.int (i+j)) H
theorem OY:Cy X .Add Db:=by
 rintro pins s σ H x y u v Q I G J ⟨i,j,rfl,rfl,q⟩;obtain⟨t,rfl⟩:=(show ∃t,u=Value.int i t from G);obtain⟨F,rfl⟩:=(show ∃F,v=Value.int j F from J);exact PyProof.Rows.iadd_int ⟨.int (i+j),H,I.tok _,⟨_,rfl⟩,q⟩
end
section
variable{pins:List (13:)}{c:Value}{b:Bool}
inductive TyOf(K:Fg)(H:Hp):V->Value->Prop where
 | non:TyOf K H .non (.type "NoneType")
 | bl (x:Bool):TyOf K H (.bl x) (.type "bool")
 | int (i:Int):TyOf K H (.int i) (.type "int")
 | str (x:Str):TyOf K H (.str x) (.type "str")
 | flt (x:UInt64):TyOf K H (.flt x) (.type "float")
 | lst {a:Addr} {xs:List V} (e:H a=some (.lst xs)):TyOf K H (.ref a) (.type "list")
 | frz {a:Addr} {o:Obj} {xs:List V} (e:H a=some (.frz o (.lst xs))):TyOf K H (.ref a) (.type "list")
 | tup {a:Addr} {xs:List V} (e:H a=some (.tup xs)):TyOf K H (.ref a) (.type "tuple")
 | dK {a:Addr} {kvs:List (Key×V)} (e:H a=some (.dK kvs)):TyOf K H (.ref a) (.type "dict")
 | dT {a:Addr} {kvs:List (List Key×V)} (e:H a=some (.dT kvs)):TyOf K H (.ref a) (.type "dict")
 | ins {a C dx:Addr} {fs:List (Str×V)} (e:H a=some (.ins C dx fs)) (cl:Cls K C) (ha:PySem.W.findIn K (.ref C) "__class__"=some (some (.builtin "object.__class__")))
  (hn:PySem.W.specialIn K (.builtin "object.__class__") "__get__"=some (some (.builtin "getset_descriptor.__get__"))) (htk:PySem.W.takesIn K (.builtin "object.__class__")=some true)
  (hm:PySem.W.mroIn K C (.type "object")=some true):TyOf K H (.ref a) (.ref C)
theorem NC{x:V}{t:Value}(I:Inv X pins σ H s)(rx:RelV x u)(ty:TyOf X.K H x t)(e:PySem.W.kitOne X.K t c=some b)(h:∀tk,Q (.bool b) { s with toks:=tk }):
 wpAny (6:) A (call (.builtin "isinstance") [u,c]) Q E s:=by
 cases ty with
 | non=>cases (show u=Value.none from rx);exact cX PySem.W.kitx_none I.kIn dQ e (λz=>nomatch z) h
 | bl y=>cases (show u=Value.bool y from rx);exact cX PySem.W.kitx_bool I.kIn dQ e (λz=>nomatch z) h
 | int i=>obtain⟨t,q⟩:=(show ∃t,u=Value.int i t from rx);cases q;exact cX PySem.W.kitx_int I.kIn dQ e (λz=>nomatch z) h
 | str y=>obtain⟨t,q⟩:=(show ∃t,u=Value.str y t from rx);cases q;exact cX PySem.W.kitx_str I.kIn dQ e (λz=>nomatch z) h
 | flt y=>obtain⟨t,q⟩:=(show ∃t,u=Value.float y t from rx);cases q;exact cX PySem.W.kitx_float I.kIn dQ e (λz=>nomatch z) h
 | @lst a xs j=>
  cases (show u=Value.ref a from rx);obtain⟨_,_,n,_,h1⟩:=(show ObjOk X.prog X.w H s.heap a (.lst xs)from I.hok a _ j);exact cX PySem.W.kitx_list I.kIn ⟨_,h1,rfl⟩ e (λz=>nomatch z) h
 | @frz a G xs j=>
  cases (show u=Value.ref a from rx);obtain⟨_,_,_,n,_,h1⟩:=(show ObjOk X.prog X.w H s.heap a (.frz G (.lst xs))from I.hok a _ j);exact cX PySem.W.kitx_list I.kIn ⟨_,h1,rfl⟩ e (λz=>nomatch z) h
 | @tup a xs j=>
  cases (show u=Value.ref a from rx);obtain⟨_,_,_,p⟩:=(show ObjOk X.prog X.w H s.heap a (.tup xs)from I.hok a _ j);obtain⟨o,h1,h2,_⟩:=p;exact cX PySem.W.kitx_tuple I.kIn ⟨o,h1,h2⟩ e (λz=>nomatch z) h
 | @dK a kvs j=>
  cases (show u=Value.ref a from rx);obtain⟨_,_,U,_,p⟩:=(show ObjOk X.prog X.w H s.heap a (.dK kvs)from I.hok a _ j);obtain⟨o,es,ep,h1,h2,_⟩:=p;exact cX PySem.W.kitx_dict I.kIn ⟨o,h1,h2.1⟩ e (λz=>nomatch z) h
 | @dT a kvs j=>
  cases (show u=Value.ref a from rx);obtain⟨_,_,xs,_,o,es,ep,h1,h2,_⟩:=(show ObjOk X.prog X.w H s.heap a (.dT kvs)from I.hok a _ j);exact cX PySem.W.kitx_dict I.kIn ⟨o,h1,h2.1⟩ e (λz=>nomatch z) h
 | @ins a C dx fs j cl L hn F M=>
  cases (show u=Value.ref a from rx);obtain⟨mA,O,_⟩:=JH I.hok j;obtain⟨Y,J,_⟩:=O.look;exact cX (PySem.W.kitx_own (cl.get _) cl.hd L hn F M) I.kIn J e (λz=>nomatch z) h
end
structure Room(k:Nat)(A:Around):Prop where
 hd:A.handled=none
 dp:A.depth+3*k+5<recursionLimit
 un:A.units+16*k+200<cLine
theorem Room.mono{k:Nat}(r:Room k A)(h:j<=k):Room j A:=⟨r.hd,by have:=r.dp;lia,by have:=r.un;lia⟩
theorem Room.deeper{k:Nat}(r:Room (k+1) A)(env:Env):Room k (A.deeper env):=
 ⟨r.hd,by have:=r.dp;show A.depth+1+3*k+5<_;lia,by have:=r.un;show A.units+3+16*k+200<_;lia⟩
theorem LQ:(A.under (.builtin "type.__call__" ⟨.ref C::us,kw⟩)).depth=A.depth+1:=by
 first | rfl | simp [Around.under,Code.weight,Code.isCreation,Code.isGuard,Code.isCaller,Code.frames,Code.isFrame,guardIds]
theorem Lj:(A.under (.builtin "type.__call__" ⟨.ref C::us,kw⟩)).units=A.units+1:=by
 first | rfl | simp [Around.under,Code.cUnits,Code.frames,Code.isFrame]
theorem Room.make{k:Nat}(r:Room (k+1) A)(C:Addr)(us:List Value)(kw:List (Str×Value)):Room k (A.under (.builtin "type.__call__" ⟨.ref C::us,kw⟩)):=
 ⟨r.hd,by have:=r.dp;rw [LQ];lia,by have:=r.un;rw [Lj];lia⟩
theorem Room.depth{k:Nat}(r:Room k A):A.depth<recursionLimit:=by have:=r.dp;lia
theorem Room.units{k:Nat}(r:Room k A):A.units+64<cLine:=by have:=r.un;lia
def V7:TA:=λ_ H Q=>Q [] H
def Xp(ta:TE)(tr:TA):TA:=λσ H Q=>ta σ H λx H1=>tr σ H1 λxs H2=>Q (x::xs) H2
section
variable{t:TA}
theorem Qc:PA X [] V7:=λ_ _ _ _ H Q I h=>Calls.spliced_nil ⟨[],H,I,.nil,h⟩
theorem Qa(ha:PE X e te)(hr:PA X es t)(hs:starEach (e::es) X.env=(false,eval e X.env)::starEach es X.env:=by rfl):PA X (e::es) (Xp te t):=by
 intro pos pins s σ H Q I h;rw [hs];show wpAny _ _ (spliced ((false,eval e X.env)::backTo pos (starEach es X.env))) _ _ s;refine Calls.spliced_cons (thn (ha pins s σ H _ I h) λu j ⟨x,H1,F,G,J⟩=>?_);exact thn (hr pos pins j σ H1 _ F J) λY s2 ⟨xs,H2,L,M,U⟩=>⟨x::xs,H2,L,.cons G M,U⟩
def CC(t:TA):TE:=λσ H Q=>t σ H λxs H1=>xs.length<=sizeLine/\∀p,H1 p=none->Q (.ref p) (upd H1 p (.tup xs))
def CM(t:TA):TE:=λσ H Q=>t σ H λxs H1=>xs.length<=sizeLine/\∀p,H1 p=none->Q (.ref p) (upd H1 p (.lst xs))
theorem QF{x1}(h:PA X es t):PE X (.Tuple es x1 pos) (CC t):=by
 intro pins s σ H Q I G;refine wpAny_Tuple_spliced (thn (h pos pins s σ H _ I G) λJ j ⟨xs,H1,F,r,z,q⟩=>⟨by rw [<-r.length];exact z,?_⟩);have L:H1 j.heap.objs.size=none:=F.hok.fresh (8:);refine⟨.ref j.heap.objs.size,upd H1 j.heap.objs.size (.tup xs),F.laid (t':=j.toks) (λb u e=>aT _ e) (8:) ?_,rfl,q _ L⟩;exact⟨z,J,r,⟨_,bQ _ rfl,rfl,_,rfl⟩⟩
theorem Q0(h:PA X es t):PE X (.List es pos) (CM t):=by
 intro pins s σ H Q I G;refine wpAny_List_spliced (thn (h pos pins s σ H _ I G) λJ j ⟨xs,H1,F,r,z,q⟩=>⟨by rw [<-r.length];exact z,?_⟩);have L:H1 j.heap.objs.size=none:=F.hok.fresh (8:);refine⟨.ref j.heap.objs.size,upd H1 j.heap.objs.size (.lst xs),F.laid (t':=j.toks) (λb u e=>aT _ e) (8:) ?_,rfl,q _ L⟩;exact⟨z,J,0,r,bQ _ rfl⟩
end
abbrev Sp:=List V->Hp->VK->XK->Prop
abbrev CXT:=List Env->Hp->Shared->XK->Value->Shared->Prop
structure Env0(P:Program)(w:World)(K:Fg)(mg:Str->Option Value)(base:Heap)(A:Around)(outer:List Env)(s:Shared)(H:Hp):Prop where
 frames:A.frames=some outer
 mod:Mod K mg base
 bs:∀b o,base.get? b=some o->s.heap.get? b=some o/\H b=none
 bsz:base.objs.size<=s.heap.objs.size
 funs:s.heap.FunFrames base outer
 frf:∀b∈frs outer,H b=none
 hok:HOk P w H s.heap
 bare:AllBare s.gens
def CE(outer:List Env)(P:Program)(w:World)(H:Hp)(s:Shared)(Q:VK)(u:Value)(s':Shared):Prop:=
 ∃v H',s'.os=s.os/\AllBare s'.gens/\Un (frs outer) [] H H' s.heap s'.heap/\HOk P w H' s'.heap/\RelV v u/\Q v H'
def CR(CX:CXT)(outer:List Env)(P:Program)(w:World)(H:Hp)(s:Shared)(Q:VK)(E:XK)(r:Result)(s':Shared):Prop:=
 match r with
 | .ok (.ret u)=>CE outer P w H s Q u s'
 | .ok _=>False
 | .error e=>CX outer H s E e s'
structure FnOk(P:Program)(w:World)(K:Fg)(mg:Str->Option Value)(base:Heap)(CX:CXT)(k:Nat)(f:Addr)(fd:FuncData)(ps:List Str)(sp:Sp):Prop where
 len:∀vs H Q E,sp vs H Q E->vs.length=ps.length
 run:∀(A:Around)(outer:List Env)(s:Shared)(H:Hp)(args:Args)(us:List Value)(vs:List V)(Q:VK)(E:XK),Room k A->Env0 P w K mg base A outer s H->BindsTo s fd args (ps.zip us)->Vals vs us->sp vs H Q E->
  codeAny (model P w) A (.call (.ref f) args) (CR CX outer P w H s Q E) s
theorem Env0.make{K:Fg}(e:Env0 P w K mg base A outer s H)(C:Addr)(us:List Value)(kw:List (Str×Value)):
 Env0 P w K mg base (A.under (.builtin "type.__call__" ⟨.ref C::us,kw⟩)) outer s H:=⟨by first | exact e.frames | (simpa [Around.under,Code.envs,Code.isFrame,pushEnvs]using e.frames),e.mod,e.bs,e.bsz,e.funs,e.frf,e.hok,e.bare⟩
section
variable{pins:List (13:)}
theorem Inv.env0(I:Inv X pins σ H s):Env0 X.prog X.w X.K X.mg X.base X.A X.stack s H:=
 ⟨I.ok.frames,I.ok.mod,I.bs,bL I.ok.bsz I.sz,I.stack,I.stkFree,I.hok,I.bare⟩
theorem Inv.after{Q:VK}(I:Inv X pins σ H s)(h:CE X.stack X.prog X.w H s Q u s'):EP X pins σ Q u s':=by
 obtain⟨v,H',J,j,un,F,r,q⟩:=h;obtain⟨L,g,d,t,G⟩:=s';obtain rfl:G=s.os:=J;exact⟨v,H',I.call (h':=L) (g':=g) (d':=d) (t':=t) (ch:=[]) un F j (λb z=>absurd z (22:)),r,q⟩
end
def XX(sp:Sp)(dvs:List V)(E:XK)(t:TA):TE:=λσ H Q=>t σ H λvs H1=>sp (vs++dvs) H1 Q E
def Mm(C:Addr)(m:Str)(sp:Sp)(dvs:List V)(E:XK)(ta:TE)(t:TA):TE:=λσ H Q=>ta σ H λx H1=>∃a dx fs,x=.ref a/\H1 a=some (.ins C dx fs)/\fs.lookup m=none/\
 t σ H1 λvs H2=>sp (x::(vs++dvs)) H2 Q E
def Cs(C:Addr)(sp:Sp)(dvs:List V)(E:XK)(t:TA):TE:=λσ H Q=>t σ H λvs H1=>∀x dx,H1 x=none->H1 dx=none->dx≠x->
 sp (.ref x::(vs++dvs)) (upd (upd H1 dx (.own x)) x (.ins C dx [])) (λv H2=>v=.non/\Q (.ref x) H2) E
def Binds(K:Fg)(fd:FuncData)(ps:List Str)(ds:List Value):Prop:=
 ∀(s:Shared)(us:List Value),K.In s.heap->(us++ds).length=ps.length->BindsTo s fd ⟨us,[]⟩ (ps.zip (us++ds))
theorem Binds.all{K:Fg}{fd:FuncData}(h:∀us:List Value,us.length=ps.length->bindArgs fd ⟨us,[]⟩=pure (ps.zip us)):Binds K fd ps []:=λs us _ hl=>by
 rw [cC]at hl ⊢;exact .of_eq (h us hl)
def Ux(CX:CXT)(X:Cx)(E:XK):Prop:=∀(pins:List (13:))(σ:St)(H:Hp)(s:Shared)(e:Value)(s':Shared),Inv X pins σ H s->CX X.stack H s E e s'->X.xe e s'
section
variable{CX:CXT}{k:Nat}{fd:FuncData}{sp:Sp}{E:XK}{m:Str}{p:Pos}{o:Expr}{t:TA}
theorem Ly{pins:List (13:)}{Q:VK}(F:FnOk X.prog X.w X.K X.mg X.base CX k f fd ps sp)(hr:Room k X.A)(hb:Binds X.K fd ps ds)(hd:Vals dvs ds)(hx:Ux CX X E)
 (I:Inv X pins σ H s) (r:Vals vs us) (h:sp (vs++dvs) H Q E):wpAny (6:) X.A (call (.ref f) us) (EP X pins σ Q) X.xe s:=by
 have G:Vals (vs++dvs) (us++ds):=r.append hd;have hl:(us++ds).length=ps.length:=by rw [<-G.length];exact F.len _ _ _ _ h
 refine wpAny_call (eV (F.run X.A X.stack s H ⟨us,[]⟩ (us++ds) (vs++dvs) Q E hr I.env0 (hb s us I.kIn hl) G h) λr s' j=>?_);cases r with
 | error e=>exact hx pins σ H s e s' I j
 | ok J=>
  cases J with
  | ret u=>exact I.after j
  | next=>exact False.elim j
  | brk=>exact False.elim j
  | cont=>exact False.elim j
theorem Su(F:FnOk X.prog X.w X.K X.mg X.base CX k f fd ps sp)(hr:Room k X.A)(hg:Gl X x)(hm:X.mg x=some (.ref f))(hk:PySem.W.keepIn X.K (.ref f)=true)(hb:Binds X.K fd ps ds)(hd:Vals dvs ds)(hx:Ux CX X E)
 (ha:PA X (e::es) t) (hdb:(x==("__debug__":Str))=false:=by decide) (he:starEach (e::es) X.env=(false,eval e X.env)::starEach es X.env:=by rfl) (hpl:(backTo pos (starEach es X.env)).any (·.1)=false:=by rfl):
 PE X (.Call (.Name x p) (e::es) [] pos) (XX sp dvs E t):=by
 intro pins s σ H Q I h;refine gT (Vq I hg hm ?_ hdb);refine iK (h₀:=X.base) I.ok.mod.kin hk (thn (ha pos pins s σ H _ I h) λG J ⟨L,H1,j,r,q⟩=>⟨j.kIn,?_⟩) he hpl;exact Ly F hr hb hd hx j r q
theorem T0(he:PE X o ta)(c:Cls X.K C)(hm:Meth X.K C m f)(F:FnOk X.prog X.w X.K X.mg X.base CX k f fd ps sp)(hr:Room k X.A)(hb:Binds X.K fd ps ds)(hd:Vals dvs ds)(hx:Ux CX X E)(ha:PA X (e::es) t)
 (hst:starEach (e::es) X.env=(false,eval e X.env)::starEach es X.env:=by rfl) (hpl:(backTo pos (starEach es X.env)).any (·.1)=false:=by rfl)
 (ht:eval (.Call (.Attribute o m apos) (e::es) [] pos) X.env=(do
  let ov <-eval o X.env
  standAt apos.atName
  let(f,first) <-holding [ov] (getMethod ov m pl)
  callWith pos f first (backTo pos (starEach (e::es) X.env)) (backToKw pos (keywordEach [] X.env))):=by rfl):
 PE X (.Call (.Attribute o m apos) (e::es) [] pos) (Mm C m sp dvs E ta t):=by
 intro pins s σ H Q I h;refine PySem.W.methodCall_KW (pl:=pl) (thn (he pins s σ H _ I h) λu J ⟨x,H1,j,L,a,dx,fs,ex,M,l,q⟩=>?_) ht;subst ex;obtain rfl:u=Value.ref a:=L;refine Ur j M c hm l ?_;refine iK (first:=[.ref a]) (h₀:=X.base) I.ok.mod.kin hm.kp (thn (ha pos pins J σ H1 _ j q) λus Y ⟨vs,H2,G,r,U⟩=>⟨G.kIn,?_⟩) hst hpl;exact Ly (us:=.ref a::us) (vs:=.ref a::vs) F hr hb hd hx G (.cons rfl r) U
theorem RP(he:PE X o ta)(c:Cls X.K C)(hm:Meth X.K C m f)(F:FnOk X.prog X.w X.K X.mg X.base CX k f fd ps sp)(hr:Room k X.A)(hb:Binds X.K fd ps ds)(hd:Vals dvs ds)(hx:Ux CX X E)
 (ht:eval (.Call (.Attribute o m apos) [] [] pos) X.env=(do
  let ov <-eval o X.env
  standAt apos.atName
  let(f,first) <-holding [ov] (getMethod ov m pl)
  callWith pos f first (backTo pos (starEach [] X.env)) (backToKw pos (keywordEach [] X.env))):=by rfl):
 PE X (.Call (.Attribute o m apos) [] [] pos) (Mm C m sp dvs E ta V7):=by
 intro pins s σ H Q I h;refine PySem.W.methodCall_KW (pl:=pl) (thn (he pins s σ H _ I h) λu L ⟨x,H1,j,G,a,dx,fs,ex,J,l,q⟩=>?_) ht;subst ex;obtain rfl:u=Value.ref a:=G;refine Ur j J c hm l ?_;exact PySem.W.callWith_K0 (first:=[.ref a]) j.kIn hm.kp (Ly (us:=[.ref a]) (vs:=[.ref a]) F hr hb hd hx j (.cons rfl .nil) q)
structure Mk(K:Fg)(C f:Addr):Prop where
 makes:PySem.W.makesIn K C=true
 init:PySem.W.findIn K (.ref C) "__init__"=some (some (.ref f))
 fn:PySem.W.isFn K (.ref f)=true
 kp:PySem.W.keepIn K (.ref C)=true
theorem Rk{pins:List (13:)}{Q:VK}(M:Mk X.K C f)(F:FnOk X.prog X.w X.K X.mg X.base CX k f fd ps sp)(hr:Room (k+1) X.A)(hb:Binds X.K fd ps ds)(hd:Vals dvs ds)
 (hx:Ux CX X E) (I:Inv X pins σ H s) (r:Vals vs us)
 (h:∀x dx,H x=none->H dx=none->dx≠x->sp (.ref x::(vs++dvs)) (upd (upd H dx (.own x)) x (.ins C dx [])) (λv H2=>v=.non/\Q (.ref x) H2) E):
 wpAny (6:) X.A (call (.ref C) us) (EP X pins σ Q) X.xe s:=by
 have J:=h (s.heap.objs.size+1) s.heap.objs.size (I.hok.fresh (dP _)) (I.hok.fresh (8:)) (aY (fP _));have G:=Inv.made (C:=C) I;have L:Vals (V.ref (s.heap.objs.size+1)::(vs++dvs)) (Value.ref (s.heap.objs.size+1)::(us++ds)):=.cons rfl (r.append hd);have hl:(Value.ref (s.heap.objs.size+1)::us++ds).length=ps.length:=by
  have e:=L.length;rw [F.len _ _ _ _ J]at e;exact e.symm
 refine wpAny_call (P8 (f:=f) I.kIn M.makes M.init (beq_iff_eq.mp M.fn) (eV (F.run _ X.stack _ _ ⟨Value.ref (s.heap.objs.size+1)::us,[]⟩ (Value.ref (s.heap.objs.size+1)::(us++ds)) _ _ E (hr.make C us [])
  (G.env0.make C us []) (hb _ (Value.ref (s.heap.objs.size+1)::us) G.kIn hl) L J) λr s' j=>?_))
 cases r with
 | error e=>exact hx pins σ _ _ e s' G j
 | ok U=>
  cases U with
  | ret u=>
   obtain⟨v,H',Y,rv,ev,q3⟩:=G.after j;subst ev;exact⟨rv,⟨V.ref (s.heap.objs.size+1),H',Y,rfl,q3⟩⟩
  | next=>exact False.elim j
  | brk=>exact False.elim j
  | cont=>exact False.elim j
theorem SM(M:Mk X.K C f)(F:FnOk X.prog X.w X.K X.mg X.base CX k f fd ps sp)(hr:Room (k+1) X.A)(hg:Gl X x)(hm:X.mg x=some (.ref C))(hb:Binds X.K fd ps ds)(hd:Vals dvs ds)(hx:Ux CX X E)
 (ha:PA X (e::es) t) (hdb:(x==("__debug__":Str))=false:=by decide) (he:starEach (e::es) X.env=(false,eval e X.env)::starEach es X.env:=by rfl) (hpl:(backTo pos (starEach es X.env)).any (·.1)=false:=by rfl):
 PE X (.Call (.Name x p) (e::es) [] pos) (Cs C sp dvs E t):=by
 intro pins s σ H Q I h;refine gT (Vq I hg hm ?_ hdb);refine iK (h₀:=X.base) I.ok.mod.kin M.kp (thn (ha pos pins s σ H _ I h) λG J ⟨L,H1,j,r,q⟩=>⟨j.kIn,?_⟩) he hpl;exact Rk M F hr hb hd hx j r q
end
section
variable{CX:CXT}{k:Nat}{fd:FuncData}{ks:List Str}{sp:Sp}{E:XK}{m:Str}{p kpos:Pos}{o:Expr}{t:TA}{nm:Option Str}
variable{g:List Value->List Value->List Value}{gV:List V->List V->List V}
end
structure FnScope(N P:List Str)(sc:Scope):Prop where
 kind:sc.kind=.function
 co:sc.isCoroutine=false
 gen:sc.isGenerator=false
 nd:N.Nodup
 pre:N.take P.length=P
 par:∀x∈P,sc.names.lookup x=some .local\/sc.names.lookup x=some .cell
 nofree:∀y∈sc.names,y.2≠.free
theorem Wx:∀{binds:List (Str×Value)}{m:Str->Option Value},(∀v,(x,v)∉binds)->bindL kindOf binds m x=m x
 | [],_,_=>rfl
 | (n,v)::r,m,h=>by
  unfold bindL;rw [Wx λw j=>h w (aU _ j)];split
  .have:x≠n:=by rintro rfl;exact h v aL
   simp [this]
  .rfl
theorem Ww:∀{binds:List (Str×Value)}{m:Str->Option Value},(∀v,(x,v)∉binds)->bindC kindOf binds m x=m x
 | [],_,_=>rfl
 | (n,v)::r,m,h=>by
  unfold bindC;rw [Ww λw j=>h w (aU _ j)];split
  .rfl
  .have:x≠n:=by rintro rfl;exact h v aL
   simp [this]
theorem Ws{v:Value}:∀{P:List Str}{vs:List Value}{i:Nat}{m:Str->Option Value},P.Nodup->P[i]?=some x->vs[i]?=some v->kindOf x=some .local->
 bindL kindOf (P.zip vs) m x=some v
 | [],_,_,_,_,h,_,_=>by simp at h
 | _::_,[],_,_,_,_,h,_=>by simp at h
 | p::P,w::vs,0,m,nd,h1,h2,hk=>by
  simp at h1 h2;subst h1;subst h2;show bindL kindOf ((p,w)::P.zip vs) m p=_;unfold bindL;rw [Wx λv j=>(dZ.mp nd).1 (fG j).1,aH hk];simp
 | p::P,w::vs,i+1,m,nd,h1,h2,hk=>by
  show bindL kindOf ((p,w)::P.zip vs) m x=_;unfold bindL;exact Ws (i:=i) (dZ.mp nd).2 (by simpa using h1) (by simpa using h2) hk
theorem Wj{v:Value}:∀{P:List Str}{vs:List Value}{i:Nat}{m:Str->Option Value},P.Nodup->P[i]?=some x->vs[i]?=some v->kindOf x≠some .local->
 bindC kindOf (P.zip vs) m x=some v
 | [],_,_,_,_,h,_,_=>by simp at h
 | _::_,[],_,_,_,_,h,_=>by simp at h
 | p::P,w::vs,0,m,nd,h1,h2,hk=>by
  simp at h1 h2;subst h1;subst h2;show bindC kindOf ((p,w)::P.zip vs) m p=_;unfold bindC;rw [Ww λv j=>(dZ.mp nd).1 (fG j).1,aF hk];simp
 | p::P,w::vs,i+1,m,nd,h1,h2,hk=>by
  show bindC kindOf ((p,w)::P.zip vs) m x=_;unfold bindC;exact Wj (i:=i) (dZ.mp nd).2 (by simpa using h1) (by simpa using h2) hk
def start(N:List Str)(vs:List V):St:=vs.map some++List.replicate (N.length-vs.length) none
def QW(CX:CXT)(P:Program)(w:World)(K:Fg)(mg:Str->Option Value)(base:Heap)(N:List Str)(qual:Str)(scope:Scope)(f:Addr)(cd:Value)(A:Around)(outer:List Env)(s:Shared)(H:Hp)(E:XK):Cx where
 prog:=P
 w:=w
 K:=K
 mg:=mg
 base:=base
 A:=A.deeper (envOfC qual scope s.heap.objs.size f cd)
 N:=N
 s0:=s
 H₀:=H
 env:=envOfC qual scope s.heap.objs.size f cd
 outer:=outer
 stack:=envOfC qual scope s.heap.objs.size f cd::outer
 ex:=[]
 calm:=true
 fn:=λ_=>true
 pn:=[]
 xe:=λe s'=>wpAny (model P w) (A.deeper (envOfC qual scope s.heap.objs.size f cd)) (leaving (envOfC qual scope s.heap.objs.size f cd) e) (λ_ s''=>CX outer H s E e s'') (λe' s''=>CX outer H s E e' s'') s'
theorem Gy(h:sc.names.lookup x=some .cell):∃c,(cellsFrom n sc.names []).lookup x=some c:=by
 have q:=PySem.W.cellsFrom_some sc.names n [] (.inl h);exact Option.isSome_iff_exists.mp q
theorem Ny{CX:CXT}{K:Fg}{N:List Str}{cd:Value}{s1:Shared}{E:XK}
 (S:FnScope N ps scope) (hd:A.handled=none) (e0:Env0 P w K mg base A outer s H) (hl:vs.length=ps.length) (r:Vals vs us)
 (x:InCallC s s.heap.objs.size (bindL (envOfC qual scope s.heap.objs.size f cd).kindOf (ps.zip us) λ_=>none) (cellsFrom (s.heap.objs.size+1) scope.names []) (bindC (envOfC qual scope s.heap.objs.size f cd).kindOf (ps.zip us) λ_=>none) s1):
 Inv (QW CX P w K mg base N qual scope f cd A outer s H E) [] (start N vs) H s1:=by
 have U:ps.length<=N.length:=by have:=congrArg List.length S.pre;rw [bH]at this;lia
 obtain⟨h1,tk,rfl,G⟩:=x.done;have j:∀b:Addr,b∉(QW CX P w K mg base N qual scope f cd A outer s H E).ex:=λb z=>absurd (show b∈([]:List Addr)from z) (22:);refine⟨⟨e0.mod,S.kind,rfl,rfl,bX _,λy z c h1 h2=>?_,λy hy=>?_,λy c _ h=>?_,λ_=>hd,Around.frames_deeper e0.frames,.inr ⟨rfl,rfl⟩,λb z=>absurd z (j b),e0.bs,e0.bsz,λb _ _=>j b,λb z=>absurd z (j b),e0.funs,e0.frf⟩,rfl,e0.bare,Un.kept G,⟨_,x.toInCall.ns,λi y v h1 h2 Y=>?_⟩,λy c h=>⟨_,x.cell y c h⟩,e0.hok.fresh (8:),λy c h=>?_,λp hp=>absurd (show p∈([]:List (13:))from hp) (22:),e0.hok.kept G,?_⟩
 .exact name_of_addr x.apart (dS h1) (dS h2)
 .have hy:scope.names.lookup y=some .cell\/scope.names.lookup y=some .free:=hy;rcases hy with hy | hy
  .exact Gy hy
  .exact absurd rfl (S.nofree _ (dS hy))
 .exact cD (x.above y c (dS h))
 .have hi:i<vs.length:=by
   unfold start at h2
   by_cases hi:i<vs.length
   .exact hi
   .rw [iP (by simpa using hi)]at h2;rw [List.getElem?_replicate]at h2;split at h2<;>cases h2
  have L:vs[i]?=some v:=by
   unfold start at h2;rw [List.getElem?_append_left (by simpa using hi),aM]at h2;cases e:vs[i]? with
   | none=>rw [e]at h2;cases h2
   | some a=>rw [e]at h2;cases h2;rfl
  obtain⟨u,J,M⟩:=r.get L;have hp:ps[i]?=some y:=by
   rw [<-S.pre,List.getElem?_take_of_lt (10:)];exact h1
  have F:ps.Nodup:=by rw [<-S.pre];exact S.nd.sublist (List.take_sublist _ _)
  refine⟨u,M,?_⟩;rcases S.par y (bC hp)with k | k
  .exact .inl ⟨k,Ws F hp J k⟩
  .obtain⟨c,e⟩:=Gy (n:=s.heap.objs.size+1) k;refine .inr ⟨.inl k,c,e,?_⟩;have q:=x.cell y c e;rw [Wj F hp J (by show scope.names.lookup y≠_;rw [k];decide)]at q;exact q
 .exact e0.hok.fresh (cD (x.above y c (dS h)))
 .unfold start;show _=N.length;rw [aI,aA,dD];lia
theorem Ay{CX:CXT}{K:Fg}{k:Nat}{params:Arguments}{dV kV:Value}
  {N:List Str} {sp:Sp} (lk:K.lookup f=some ⟨oc,od,.func (PySem.W.fnOf name qual params body scope dV kV doc pm an cdv ct),osl⟩) (hcd:PySem.W.codeIn K cdv qual=true) (S:FnScope N ps scope)
 (len:∀vs H Q E,sp vs H Q E->vs.length=ps.length)
 (hbody:∀(A:Around)(outer:List Env)(s:Shared)(H:Hp)(vs:List V)(Q:VK)(E:XK),Room k (A.deeper (envOfC qual scope s.heap.objs.size f cdv))->sp vs H Q E->
  ∃t,PSs (QW CX P w K mg base N qual scope f cdv A outer s H E) body t/\t { nx:=λ_ H'=>Q .non H',rt:=Q } (start N vs) H):
 FnOk P w K mg base CX (k+1) f (PySem.W.fnOf name qual params body scope dV kV doc pm an cdv ct) ps sp:=by
 refine⟨len,λA outer s H ab us vs Q E U F hb r M=>?_⟩;have hl:=len _ _ _ _ M;have KX:K.In s.heap:=F.mod.kin.keeps λb o e=>(F.bs b o e).1;have aa:s.heap.NoLimit:=F.mod.nolimit.keeps λb o e=>(F.bs b o e).1;have G:∀y∈ps.zip us,scope.names.lookup y.1=some .local\/(scope.names.lookup y.1=some .cell/\((cellsFrom (s.heap.objs.size+1) scope.names []).lookup y.1).isSome=true):=λ⟨n,v⟩ hy=>by
  rcases S.par n (fG hy).1 with q | q
  .exact .inl q
  .exact .inr ⟨q,PySem.W.cellsFrom_some _ _ _ (.inl q)⟩
 refine codeAny_call_function U.depth (KX _ _ lk) rfl S.co S.gen rfl (PySem.W.codeRec_of KX hcd) (hb _ _ _ _ ?_);refine wpAny_newFunctionEnv_cells S.kind G λenv he s1 x=>?_;subst he;refine⟨aa.keeps x.toInCall.keep,codeAny_func ?_⟩;obtain⟨t,ht,hq⟩:=hbody A outer s H vs Q E (U.deeper _) M;have I:Inv (QW CX P w K mg base N qual scope f cdv A outer s H E) [] (start N vs) H s1:=Ny S U.hd F hl r x;refine c_ (ht [] s1 (start N vs) H _ I hq) (λfl s' j=>?_) λe s' j=>j;have fin:∀{L:St}{H':Hp}{v:V}{u:Value},Inv (QW CX P w K mg base N qual scope f cdv A outer s H E) [] L H' s'->RelV v u->Q v H'->CE outer P w H s Q u s':=
  λ{L H' v u} J Y q=>⟨v,H',J.os,J.bare,J.base,J.hok,Y,q⟩
 cases fl with
 | ret u=>
  obtain⟨v,L,H',J,Y,q⟩:=j;exact fin J Y q
 | next=>
  obtain⟨L,H',J,q⟩:=j;exact fin (v:=V.non) (u:=Value.none) J rfl q
 | brk=>
  obtain⟨_,_,_,q⟩:=j;exact False.elim q
 | cont=>
  obtain⟨_,_,_,q⟩:=j;exact False.elim q
end L2
variable{CX:L2.CXT}{sp:L2.Sp}
namespace L2
open PySem PySem.Spec PyProof.Rows
section
variable{p:Pos}{t:TA}{id T:String}{r:List V->Hp->VK->Prop}
def tCB(r:List V->Hp->VK->Prop)(t:TA):TE:=λσ H Q=>t σ H λvs H1=>r vs H1 Q
theorem Qv(hc:ZO X (.builtin id) r)(hg:Gl X x)(hm:X.mg x=none)(hv:bootBuiltins x=some (.builtin id))(ha:PA X (e::es) t)(hn:x≠"__name__":=by decide)(hdb:(x==("__debug__":Str))=false:=by decide)
 (he:starEach (e::es) X.env=(false,eval e X.env)::starEach es X.env:=by rfl) (hpl:(backTo pos (starEach es X.env)).any (·.1)=false:=by rfl):PE X (.Call (.Name x p) (e::es) [] pos) (tCB r t):=by
 intro pins s σ H Q I h;refine gT (YT I hg hm hv ?_ hn hdb);exact PyProof.Rows.callWith_builtin1 (thn (ha pos pins s σ H _ I h) λj F ⟨G,H1,J,L,M⟩=>hc pins F σ H1 G j Q J L M) he hpl
theorem QE(hc:ZO X (.type T) r)(hg:Gl X x)(hm:X.mg x=none)(hv:bootBuiltins x=some (.type T))(ha:PA X (e::es) t)(hn:x≠"__name__":=by decide)(hdb:(x==("__debug__":Str))=false:=by decide)
 (he:starEach (e::es) X.env=(false,eval e X.env)::starEach es X.env:=by rfl) (hpl:(backTo pos (starEach es X.env)).any (·.1)=false:=by rfl):PE X (.Call (.Name x p) (e::es) [] pos) (tCB r t):=by
 intro pins s σ H Q I h;refine gT (YT I hg hm hv ?_ hn hdb);exact fJ (thn (ha pos pins s σ H _ I h) λj F ⟨G,H1,J,L,M⟩=>hc pins F σ H1 G j Q J L M) he hpl
end
end L2
namespace HT
open PySem PyProof.Rows
section
open PySem.SeqAt
open PySem.AutoSeq1 (wpAny_loadPart')
open PySem.MeetsSeq PySem.MeetsSeq2 PySem.MeetsSeq3
end
theorem cat_tup{t:Addr}{vs ws:List Value}(ht:IsTup s.heap t vs.toArray)(hb:IsTup s.heap b ws.toArray)(hv:vs≠[])
 (h1:ws=[]->Q (.ref t) s) (h2:ws≠[]->Q (.ref s.heap.objs.size) { s with heap:=s.heap.push { cls:=.type "tuple",data:=.seq (vs++ws).toArray } })
 (hsz:vs.length+ws.length<=sizeLine):wpAny (model prog w) A (binaryOp .Add (.ref t) (.ref b)) Q E s:=by
 obtain⟨⟨cls,dd,data,sl⟩,G,hc,n,hd⟩:=id ht;obtain⟨⟨ab,L,aa,M⟩,j,U,n2,Y⟩:=id hb;simp only at hc hd U Y;subst hc hd U Y;have e:vs.toArray++ws.toArray=(vs++ws).toArray:=by simp
 by_cases J:ws=[]
 .exact concat_meets ⟨_,G,rfl⟩ ⟨_,j,rfl⟩ noFill_tuple_add seq_tuple_add PySem.F.slot_tuple_add PySem.F.entry_tuple_add (PySem.F.args_tuple_add_2 _ _)
   (tuple_addW1 t b vs.toArray ws.toArray n n2 dd L sl M (by simpa using hv) (by simp [J])) ⟨G,j,h1 J⟩
 .refine concat_meets ⟨_,G,rfl⟩ ⟨_,j,rfl⟩ noFill_tuple_add seq_tuple_add PySem.F.slot_tuple_add PySem.F.entry_tuple_add (PySem.F.args_tuple_add_2 _ _)
   (tuple_addW2 t b vs.toArray ws.toArray n n2 dd L sl M (by simpa using hv) (by simpa using J) (by rw [aX,aX];exact hsz)) ⟨G,j,?_⟩
  rw [e];exact h2 J
def sIx(n d:Nat):Option Int->Nat
 | none=>d
 | some v=>if v<0 then(v+(n:Int)).toNat else min v.toNat n
theorem sIx_none(n d:Nat):sIx n d none=d:=rfl
theorem sIx_nat(n d k:Nat):sIx n d (some (k:Int))=min k n:=by
 show(if(k:Int)<0 then((k:Int)+(n:Int)).toNat else min (k:Int).toNat n)=min k n;rw [aF (10:),dJ]
theorem sIx_le(n d:Nat)(hd:d<=n)(o:Option Int):sIx n d o<=n:=by
 cases o with
 | none=>exact hd
 | some v=>
  show(if v<0 then(v+(n:Int)).toNat else min v.toNat n)<=n
  by_cases j:v<0
  .rw [aH j];lia
  .rw [aF j];exact Nat.min_le_right _ _
theorem Mn(v:Int)(n d:Nat):(if v<0 then max (v+(n:Int)) 0 else min v (n:Int))=((sIx n d (some v):Nat):Int):=by
 show(if v<0 then max (v+(n:Int)) 0 else min v (n:Int))=(((if v<0 then(v+(n:Int)).toNat else min v.toNat n):Nat):Int)
 by_cases j:v<0
 .simp only [aH j];lia
 .simp only [aF j];lia
theorem LW(lo hi:Option Int)(n:Nat):Builtin.Slice.sliceAdjust lo hi 1 (n:Int)=(((sIx n 0 lo:Nat):Int),((sIx n n hi:Nat):Int)):=by
 have h1:¬((1:Int)<0):=by lia
 unfold Builtin.Slice.sliceAdjust;simp only [h1,dH];refine Prod.ext ?_ ?_
 .cases lo with
  | none=>rfl
  | some v=>exact Mn v n 0
 .cases hi with
  | none=>rfl
  | some v=>exact Mn v n n
theorem GW(i j:Nat):Builtin.Slice.slicePlaces (i:Int) (j:Int) 1=j-i:=by
 unfold Builtin.Slice.slicePlaces;have h1:(1:Int)>0:=by lia
 simp only [h1,if_true,Int.ediv_one];split<;>lia
theorem Xx{v:Value}{o:Option Int}{Q:Option Int->Shared->Prop}(p:IsPart v o)(h:Q o s):wpAny (model prog w) A (Builtin.Slice.slicePartIndex v) Q E s:=by
 cases p with
 | none=>exact slicePart_none h
 | int i t=>exact slicePart_int h
theorem U8{sl:Addr}{lo hi:Option Int}{Q:Int×Int×Nat->Shared->Prop}(hs:s.heap.IsSliceOf sl vl vu .none)(pl:IsPart vl lo)(pu:IsPart vu hi)
 (h:Q (((sIx n 0 lo:Nat):Int),1,sIx n n hi-sIx n 0 lo) s):wpAny (model prog w) A (Builtin.Slice.sliceApplied (.ref sl) (pure (n:Int))) Q E s:=by
 obtain⟨J,j,G,F⟩:=id hs;unfold Builtin.Slice.sliceApplied Builtin.Slice.sliceFields;refine aD (aD (wpAny_field j F (x:=vl) rfl (aD (wpAny_field j F (x:=vu) rfl (aD (wpAny_field j F (x:=.none) rfl (aG ?_)))))));refine aD (slicePart_none ?_);show wpAny _ _ (if((1:Int)==0)=true then _ else _) _ _ s;rw [aF (9:)];refine aD (Xx pl (aD (Xx pu (aD (aG ?_)))));show wpAny _ _ (match Builtin.Slice.sliceAdjust lo hi 1 (n:Int)with | (lo,hi)=>pure (lo,(1:Int),Builtin.Slice.slicePlaces lo hi 1)) _ _ s;rw [LW lo hi n];show wpAny _ _ (pure (((sIx n 0 lo:Nat):Int),(1:Int),Builtin.Slice.slicePlaces ((sIx n 0 lo:Nat):Int) ((sIx n n hi:Nat):Int) 1)) _ _ s;rw [GW];exact aG h
theorem Rm(xs:Array Value)(i k:Nat):((List.range k).filterMap λ(m:Nat)=>xs[((i:Int)+(m:Int)*1).toNat]?).toArray=((xs.toList.drop i).take k).toArray:=by
 have e:(λ(m:Nat)=>xs[((i:Int)+(m:Int)*1).toNat]?)=λm=>xs[i+m]?:=by
  funext m
  have:((i:Int)+(m:Int)*1).toNat=i+m:=by lia
  rw [this]
 rw [e];have:=pick_run xs i k;rw [List.filterMap_map]at this;have e2:((λx=>xs[x]?)∘λx=>i+x)=λm=>xs[i+m]?:=rfl;rw [e2]at this;rw [this]
theorem getItem_tuple_cut{t sl:Addr}{lo hi:Option Int}(ht:IsTup s.heap t items)(hs:s.heap.IsSliceOf sl vl vu .none)(pl:IsPart vl lo)(pu:IsPart vu hi)
 (hw:¬(sIx items.size 0 lo=0/\sIx items.size items.size hi=items.size))
 (h:Q (.ref s.heap.objs.size) { s with heap:=s.heap.push { cls:=.type "tuple",data:=.seq ((items.toList.drop (sIx items.size 0 lo)).take (sIx items.size items.size hi-sIx items.size 0 lo)).toArray } })
 (hsz:items.size<=sizeLine):wpAny (model prog w) A (getItem (.ref t) (.ref sl)) Q E s:=by
 have j:sizeOk (.seq ((items.toList.drop (sIx items.size 0 lo)).take (sIx items.size items.size hi-sIx items.size 0 lo)).toArray):=by
  show((items.toList.drop (sIx items.size 0 lo)).take (sIx items.size items.size hi-sIx items.size 0 lo)).toArray.size<=sizeLine;rw [aX,bH,dC,gQ];lia
 have Y:sIx items.size items.size hi<=items.size:=sIx_le _ _ (8:) hi;obtain⟨M,F,G,U⟩:=id hs;have J:s.TypeIs (.ref sl) "slice":=⟨M,F,G⟩;unfold getItem
 try with_reducible refine eE ?_
 first | refine aD (aG ?_) | skip
 refine aD (wpAny_sequenceKey ht.typeIs (9:) ?_);refine aD (fW (name:=Str.ofString "__getitem__") ht.typeIs iN
  (fC iN ht.typeIs entry_tuple_getitem ?_ (args_tuple_getitem _ _)))
 show wpAny _ _ (Builtin.Tuple.tupleItemsOf (.ref t)>>=_) _ _ s;refine aD (tupleItemsOf_ ht ?_);refine aD (wpAny_typeOf J ?_);rw [aH (9:)];refine aD (U8 hs pl pu ?_);have L:¬((((sIx items.size 0 lo:Nat):Int)==0&&(1:Int)==1&&(sIx items.size items.size hi-sIx items.size 0 lo)==items.size)=true):=by
  intro q;rw [fD,fD]at q;have q1:((sIx items.size 0 lo:Nat):Int)=0:=eq_of_beq q.1.1;have q2:sIx items.size items.size hi-sIx items.size 0 lo=items.size:=eq_of_beq q.2;exact hw ⟨by lia,by lia⟩
 show wpAny _ _ (if(((sIx items.size 0 lo:Nat):Int)==0&&(1:Int)==1&&(sIx items.size items.size hi-sIx items.size 0 lo)==items.size)=true then _ else _) _ _ s;rw [aF L,Rm]
 first
  | exact aD (m:=Builtin.Tuple.tupleExact _) (dX (aG ⟨_,rfl,aG h⟩) j)
  | exact aD (m:=Builtin.Tuple.tupleExact _) (dX (aD (aG (aG ⟨_,rfl,aG h⟩))) j)
  | exact aD (aD (m:=Builtin.Tuple.tupleExact _) (dX (aG (aG ⟨_,rfl,aG h⟩)) j))
  | exact aD (aD (m:=Builtin.Tuple.tupleExact _) (dX (aG ⟨_,rfl,aG h⟩) j))
end HT
namespace L2
open PySem PySem.Spec PyProof.Rows
abbrev TO:=St->Hp->(Option Int->Hp->Prop)->Prop
def PO(X:Cx)(e:Option Expr)(t:TO):Prop:=
 ∀(pins:List (13:))(s:Shared)(σ:St)(H:Hp)(Q:Option Int->Hp->Prop),Inv X pins σ H s->t σ H Q->
  wpAny (6:) X.A (evalPart e X.env) (λu s'=>∃o H',Inv X pins σ H' s'/\IsPart u o/\Q o H') X.xe s
def TJ:TO:=λ_ H Q=>Q none H
def Ca(t:TE):TO:=λσ H Q=>t σ H λx H1=>∃i,x=.int i/\Q (some i) H1
section
variable{lo:Option Expr}{tl th:TO}
theorem Zv:PO X none TJ:=by
 intro pins s σ H Q I h;rw [evalPart_none];exact aG ⟨none,H,I,.none,h⟩
theorem Za(h:PE X e te):PO X (some e) (Ca te):=by
 intro pins s σ H Q I j;rw [evalPart_some];refine thn (h pins s σ H _ I j) λu L ⟨x,H1,F,G,J⟩=>?_;obtain⟨i,rfl,q⟩:=J;obtain⟨t,rfl⟩:=G;exact⟨some i,H1,F,.int i t,q⟩
def SlR(X:Cx)(r:V->Option Int->Option Int->Hp->VK->Prop):Prop:=
 ∀(pins:List (13:))(s:Shared)(σ:St)(H:Hp)(x:V)(v vl vu:Value)(lo hi:Option Int)(sl:Addr)(Q:VK),Inv X pins σ H s->RelV x v->s.heap.IsSliceOf sl vl vu .none->IsPart vl lo->IsPart vu hi->r x lo hi H Q->
  ∃T id,typeLookup (.type T) "__getitem__"=pure (some (.builtin id))/\s.TypeIs v T/\wpAny (6:) X.A (getItem v (.ref sl)) (EP X pins σ Q) X.xe s
def tSl(r:V->Option Int->Option Int->Hp->VK->Prop)(te:TE)(tl th:TO):TE:=λσ H Q=>te σ H λx H1=>tl σ H1 λl H2=>th σ H2 λu H3=>r x l u H3 Q
theorem Zo{r:V->Option Int->Option Int->Hp->VK->Prop}(hr:SlR X r)(he:PE X e te)(hl:PO X lo tl)(hu:PO X hi th):PE X (.Subscript e (.Slice lo hi none p2) pos) (tSl r te tl th):=by
 intro pins s σ H Q I h;refine Subscript_ (thn (he pins s σ H _ I h) λv L ⟨x,H1,M,U,Y⟩=>?_);refine wpAny_Slice (thn (hl pins L σ H1 _ M Y) λF s2 ⟨l,H2,I2,pl,q2⟩=>thn (hu pins s2 σ H2 _ I2 q2) λG j ⟨u,J,I3,pu,q3⟩=>?_);rw [evalPart_none];refine aG ?_;have I4:Inv X pins σ J { j with heap:=j.heap.push { cls:=.type "slice",data:=.fields #[F,G,.none] } }:=I3.kept (t':=j.toks) λb ob q=>aT _ q;obtain⟨T,id,hT,ht,hg⟩:=hr pins { j with heap:=j.heap.push { cls:=.type "slice",data:=.fields #[F,G,.none] } } σ J x v F G l u j.heap.objs.size Q I4 U (Heap.IsSliceOf.new ..) pl pu q3;show wpAny (6:) X.A (subscriptTail e (.Slice lo hi none p2) v (.ref j.heap.objs.size)) (EP X pins σ Q) X.xe { j with heap:=j.heap.push { cls:=.type "slice",data:=.fields #[F,G,.none] } };exact tail_any (ops:=[.ref j.heap.objs.size,v]) ht hT hg (by with_unfolding_all rfl)
def cutV(xs:List V)(lo hi:Option Int):List V:=(xs.drop (HT.sIx xs.length 0 lo)).take (HT.sIx xs.length xs.length hi-HT.sIx xs.length 0 lo)
theorem Jj(xs:List V)(lo hi:Option Int):(cutV xs lo hi).length<=xs.length:=by
 unfold cutV;rw [bH,dC];lia
def Dy(K:Fg):V->Option Int->Option Int->Hp->VK->Prop:=λx lo hi H Q=>∃a xs,x=.ref a/\SqT K H a xs/\
 ¬(HT.sIx xs.length 0 lo=0/\HT.sIx xs.length xs.length hi=xs.length)/\∀p,H p=none->Q (.ref p) (upd H p (.tup (cutV xs lo hi)))
theorem AZ:SlR X (Dy X.K):=by
 intro pins s σ H x v vl vu lo hi sl Q I G J L M h;obtain⟨a,xs,rfl,U,Y,q⟩:=h;cases G;obtain⟨its,r,F,hz⟩:=I.tuple U;have j:its.toArray.size=xs.length:=by rw [aX];exact r.length.symm
 refine⟨"tuple",_,iN.lookup,F.typeIs,?_⟩;refine HT.getItem_tuple_cut F J L M (by rw [j];exact Y) ?_ (by rw [j];exact hz);rw [j];refine⟨.ref s.heap.objs.size,_,I.laid (t':=s.toks) (o:=.tup (cutV xs lo hi)) (λb ob q=>aT _ q) (8:) ?_,rfl,q _ (I.hok.fresh (8:))⟩;exact⟨bL (Jj xs lo hi) hz,_,(r.drop (HT.sIx xs.length 0 lo)).take (HT.sIx xs.length xs.length hi-HT.sIx xs.length 0 lo),IsTup.new _ _⟩
def CI(K:Fg):R2:=λx y H Q=>∃a b xs ys,x=.ref a/\y=.ref b/\SqT K H a xs/\SqT K H b ys/\xs≠[]/\xs.length+ys.length<=sizeLine/\
 (ys=[]->Q (.ref a) H)/\(ys≠[]->∀p,H p=none->Q (.ref p) (upd H p (.tup (xs++ys))))
theorem Vals.nil_iff(r:Vals xs us):us=[]↔xs=[]:=by
 cases r with
 | nil=>simp
 | cons _ _=>simp
theorem Tw:OpR X (binaryOp .Add) (CI X.K):=by
 intro pins s σ H x y v u Q I G J h;obtain⟨a,b,xs,ys,rfl,rfl,L,M,U,hz,Y,q2⟩:=h;cases G;cases J;obtain⟨its,F,p1,_⟩:=I.tuple L;obtain⟨aa,j,p2,_⟩:=I.tuple M;refine HT.cat_tup p1 p2 (λz=>U (F.nil_iff.mp z)) (λz=>⟨.ref a,H,I,rfl,Y (j.nil_iff.mp z)⟩) (λz=>?_) (by rw [<-F.length,<-j.length];exact hz);refine⟨.ref s.heap.objs.size,_,I.laid (t':=s.toks) (o:=.tup (xs++ys)) (λb ob q=>aT _ q) (8:) ?_,rfl,q2 (λw=>z (j.nil_iff.mpr w)) _ (I.hok.fresh (8:))⟩;exact⟨by rw [aI];exact hz,_,F.append j,IsTup.new _ _⟩
end
end L2
variable{th:L2.TO}
namespace L2
open PySem PySem.Spec PyProof.Rows
def ixN(n:Nat)(i:Int):Option Nat:=if 0<=i then(if i<n then some i.toNat else none)else if-(n:Int)<=i then some (i+n).toNat else none
def atI{α:Type}(xs:List α)(i:Int):Option α:=(ixN xs.length i).bind λj=>xs[j]?
theorem SV{i:Int}(h:ixN n i=some j):seqIndex? i n=some j/\j<n/\-(n:Int)<=i/\i<n:=by
 unfold ixN at h
 by_cases F:0<=i
 .rw [aH F]at h
  by_cases h1:i<n
  .rw [aH h1]at h;have e:i.toNat=j:=aK h;exact⟨by rw [seqIndex_of F h1,e],by lia,by lia,h1⟩
  .rw [aF h1]at h;cases h
 .rw [aF F]at h
  by_cases h1:-(n:Int)<=i
  .rw [aH h1]at h;have e:(i+n).toNat=j:=aK h;exact⟨by rw [seqIndex_neg (10:) h1,e],by lia,h1,by lia⟩
  .rw [aF h1]at h;cases h
theorem VD{α:Type}{xs:List α}{i:Int}{v:α}(h:atI xs i=some v):∃j,seqIndex? i xs.length=some j/\xs[j]?=some v/\j<xs.length/\-(xs.length:Int)<=i/\i<xs.length:=by
 unfold atI at h;cases e:ixN xs.length i with
 | none=>rw [e]at h;cases h
 | some j=>
  rw [e]at h;obtain⟨h1,h2,F,G⟩:=SV e;exact⟨j,h1,h,h2,F,G⟩
theorem QL{α:Type}{xs:List α}{v:α}(h:xs[j]?=some v):atI xs (j:Int)=some v:=by
 have F:j<xs.length:=(bT.mp h).1;have e:ixN xs.length (j:Int)=some j:=by
  unfold ixN;rw [aH (10:),aH (10:)];simp
 unfold atI;rw [e];exact h
theorem Pz{α:Type}(xs:List α)(v:α):atI (xs++[v]) (-1)=some v:=by
 have hl:(xs++[v]).length=xs.length+1:=by simp
 have e:ixN (xs++[v]).length (-1)=some xs.length:=by
  unfold ixN;rw [hl,aF (9:),aH (10:)]
  congr 1
  lia
 unfold atI;rw [e];show(xs++[v])[xs.length]?=some v;simp
def Tz(b:Expr):Prop:=∀o i,subscripted b false o i=operate [o,i] (getItem o i)
def IxR(X:Cx)(r:R2):Prop:=
 ∀(value slice:Expr)(pins:List (13:))(s:Shared)(σ:St)(H:Hp)(x y:V)(v u:Value)(Q:VK),Inv X pins σ H s->RelV x v->RelV y u->r x y H Q->
  subscripted slice false v u=operate [v,u] (getItem v u)->wpAny (6:) X.A (subscriptTail value slice v u) (EP X pins σ Q) X.xe s
def MtR(X:Cx)(id:String)(r:V->List V->Hp->VK->Prop):Prop:=
 ∀(pins:List (13:))(s:Shared)(σ:St)(H:Hp)(x:V)(xs:List V)(v:Value)(us:List Value)(Q:VK),Inv X pins σ H s->RelV x v->Vals xs us->r x xs H Q->
  wpAny (6:) X.A (call (.builtin id) (v::us)) (EP X pins σ Q) X.xe s
section
variable{a b:Expr}{tb:TE}
theorem Qk{r:R2}(hr:IxR X r)(ha:PE X a ta)(hb:PE X b tb)(hs:Tz b):PE X (.Subscript a b pos) (tOp r ta tb):=by
 intro pins s σ H Q I h;exact Subscript_ (BC ha hb I h λv u j x y H2 F G J q=>hr a b pins j σ H2 x y v u Q F G J q (hs _ _))
def BA(K:Fg):R2:=λx y H Q=>∃p xs i v,x=.ref p/\y=.int i/\SqL K H p xs/\atI xs i=some v/\Q v H
def LK(K:Fg):R2:=λx y H Q=>∃p xs i v,x=.ref p/\y=.int i/\SqT K H p xs/\atI xs i=some v/\Q v H
def Dm:R2:=λx y H Q=>∃z i c,x=.str z/\y=.int i/\z.length<=sizeLine/\atI z.cps.toList i=some c/\Q (.str ⟨#[c]⟩) H
theorem QD:IxR X (BA X.K):=by
 intro value Y pins s σ H x y v u Q I rx ry h J;obtain⟨p,xs,i,z,rfl,rfl,hq,he,q⟩:=h;cases rx;obtain⟨t,rfl⟩:=ry;obtain⟨its,r,F,hz⟩:=I.list hq;obtain⟨j,h1,h2,h3,h4,h5⟩:=VD he;obtain⟨w,L,M⟩:=r.get h2;have hl:=r.length;have hn:=Xz;have fin:EP X pins σ Q w s:=⟨z,H,I,M,q⟩
 by_cases U:0<=i
 .have G:i.toNat=j:=by
   rw [seqIndex_of U h5]at h1;exact aK h1
  exact item_listR F.isList U (10:) (by rw [G];simpa using L) fin J
 .have G:(i+(its.toArray.size:Int)).toNat=j:=by
   rw [seqIndex_neg (10:) h4]at h1;rw [aX,<-hl];exact aK h1
  exact subscriptTail_builtinR (x:=w) F.isList.typeIs slot_list_getitem.lookup
   (wpAny_getItem_list_neg (Q:=λr s'=>r=w/\EP X pins σ Q r s') F.isList (10:) (by rw [aX]<;>lia) (10:) (by rw [G];simpa using L) ⟨rfl,fin⟩) J
theorem Qp:IxR X (LK X.K):=by
 intro value J pins s σ H x y v u Q I L M h U;obtain⟨p,xs,i,z,rfl,rfl,Y,he,q⟩:=h;cases L;obtain⟨t,rfl⟩:=M;obtain⟨its,r,F,hz⟩:=I.tuple Y;obtain⟨j,h1,h2,h3,h4,h5⟩:=VD he;obtain⟨w,ew,G⟩:=r.get h2;have hl:=r.length;have hn:=Xz;have fin:EP X pins σ Q w s:=⟨z,H,I,G,q⟩;exact subscriptTail_builtinR (x:=w) F.typeIs slot_tuple_getitem.lookup
  (getItem_tuple (j:=j) (Q:=λr s'=>r=w/\EP X pins σ Q r s') F (10:) (10:) (by rw [aX,<-hl];exact h1) (by simpa using ew) ⟨rfl,fin⟩) U
theorem ZG:IxR X Dm:=by
 intro value F pins s σ H x y v u Q I G J h L;obtain⟨z,i,c,rfl,rfl,hz,M,q⟩:=h;obtain⟨t,rfl⟩:=G;obtain⟨t',rfl⟩:=J;obtain⟨j,h1,h2,h3,U,Y⟩:=VD M;have hl:z.cps.toList.length=z.length:=by simp [Str.length]
 rw [hl]at h1 U Y;have hn:=Xz;exact tail_any (typeIs_str s z t) slot_str_getitem.lookup (getItem_str (c:=c) (by
  have e1:decide (i< -(2^63:Int))=false:=bM (10:);have e2:decide (i>=2^63)=false:=bM (10:);rw [e1,e2,Bool.or_false]) (by rw [h1];simpa using h2) ⟨.str ⟨#[c]⟩,H,I.tok _,⟨_,rfl⟩,q⟩) L
theorem WQ(lo hi:Option Int)(n:Nat):(sliceBounds lo hi none n).1=((HT.sIx n 0 lo:Nat):Int)/\(sliceBounds lo hi none n).2.1=((HT.sIx n n hi:Nat):Int)/\(sliceBounds lo hi none n).2.2=1:=by
 refine⟨?_,?_,rfl⟩
 .cases lo with
  | none=>simp [sliceBounds,HT.sIx]
  | some i=>
   simp only [sliceBounds,HT.sIx,Option.getD_none,show(1:Int)>0 by decide,if_true]
   by_cases h:i<0
   .simp only [h,if_true]<;>lia
   .simp only [h,dH]<;>lia
 .cases hi with
  | none=>simp [sliceBounds,HT.sIx]
  | some i=>
   simp only [sliceBounds,HT.sIx,Option.getD_none,show(1:Int)>0 by decide,if_true]
   by_cases h:i<0
   .simp only [h,if_true]<;>lia
   .simp only [h,dH]<;>lia
theorem XN(its:List Value)(lo hi:Option Int):slicePick its.toArray lo hi none=((its.drop (HT.sIx its.length 0 lo)).take (HT.sIx its.length its.length hi-HT.sIx its.length 0 lo)).toArray:=by
 obtain⟨h1,h2,j⟩:=WQ lo hi its.toArray.size;unfold slicePick;rw [h1,h2,j];simp only [sliceRange_one,pick_run,aX]<;>rfl
def Dj(K:Fg):V->Option Int->Option Int->Hp->VK->Prop:=λx lo hi H Q=>∃a xs,x=.ref a/\SqL K H a xs/\∀p,H p=none->Q (.ref p) (upd H p (.lst (cutV xs lo hi)))
theorem YF:SlR X (Dj X.K):=by
 intro pins s σ H x v Y vu lo hi sl Q I G J L M h;obtain⟨a,xs,rfl,U,q⟩:=h;cases G;obtain⟨its,r,F,hz⟩:=I.list U;have j:=r.length;refine⟨"list",_,slot_list_getitem.lookup,F.isList.typeIs,?_⟩;refine wpAny_getItem_list_slice F.isList J L M .none (22:) ?_ (by rw [aX]<;>lia);rw [XN,<-j];refine⟨.ref s.heap.objs.size,_,I.laid (t':=s.toks) (o:=.lst (cutV xs lo hi)) (λb ob q=>aT _ q) (8:) ?_,rfl,q _ (I.hok.fresh (8:))⟩;exact⟨bL (Jj xs lo hi) hz,_,0,(r.drop (HT.sIx xs.length 0 lo)).take (HT.sIx xs.length xs.length hi-HT.sIx xs.length 0 lo),bQ _ rfl⟩
def U1:V->Bool
 | .non=>true
 | .bl _=>true
 | .int _=>true
 | .str _=>true
 | _=>false
def eqV:V->V->Bool
 | .non,.non=>true
 | .bl a,.bl b=>a==b
 | .bl a,.int b=>(if a then 1 else 0)==b
 | .int a,.bl b=>a==(if b then 1 else 0)
 | .int a,.int b=>a==b
 | .str a,.str b=>a==b
 | _,_=>false
theorem Bw{x:V}{v:Value}(ry:RelV y u)(rx:RelV x v)(fy:U1 y=true)(fx:U1 x=true):SeqAt.EqAt A s u v (eqV y x):=by
 cases y with
 | non=>
  cases ry;cases x with
  | non=>cases rx;exact SeqAt.EqAt.same _
  | bl b=>cases rx;exact SeqAt.EqAt.none_bool b
  | int b=>obtain⟨t,rfl⟩:=rx;exact SeqAt.EqAt.none_int b t
  | str b=>obtain⟨t,rfl⟩:=rx;exact SeqAt.EqAt.none_str b t
  | _=>exact absurd (show false=true from fx) a_
 | bl a=>
  cases ry;cases x with
  | non=>cases rx;exact SeqAt.EqAt.bool_none a
  | bl b=>cases rx;exact SeqAt.EqAt.bool_bool a b
  | int b=>obtain⟨t,rfl⟩:=rx;exact SeqAt.EqAt.bool_int a b t
  | str b=>obtain⟨t,rfl⟩:=rx;exact SeqAt.EqAt.bool_str a b t
  | _=>exact absurd (show false=true from fx) a_
 | int a=>
  obtain⟨j,rfl⟩:=ry;cases x with
  | non=>cases rx;exact SeqAt.EqAt.int_none a j
  | bl b=>cases rx;exact SeqAt.EqAt.int_bool a j b
  | int b=>obtain⟨t,rfl⟩:=rx;exact SeqAt.EqAt.int_int a j b t
  | str b=>obtain⟨t,rfl⟩:=rx;exact SeqAt.EqAt.int_str a j b t
  | _=>exact absurd (show false=true from fx) a_
 | str a=>
  obtain⟨j,rfl⟩:=ry;cases x with
  | non=>cases rx;exact SeqAt.EqAt.str_none a j
  | bl b=>cases rx;exact SeqAt.EqAt.str_bool a j b
  | int b=>obtain⟨t,rfl⟩:=rx;exact SeqAt.EqAt.str_int a j b t
  | str b=>obtain⟨t,rfl⟩:=rx;exact SeqAt.EqAt.str_str a j b t
  | _=>exact absurd (show false=true from fx) a_
 | _=>exact absurd (show false=true from fy) a_
def eqU(x:V)(u:Value):Bool:=match u with
 | .none=>eqV .non x
 | .bool b=>eqV (.bl b) x
 | .int i _=>eqV (.int i) x
 | .str z _=>eqV (.str z) x
 | _=>false
theorem Rr{x:V}(r:RelV y u)(f:U1 y=true):eqU x u=eqV y x:=by
 cases y with
 | non=>cases r;rfl
 | bl b=>cases r;rfl
 | int i=>obtain⟨t,rfl⟩:=r;rfl
 | str z=>obtain⟨t,rfl⟩:=r;rfl
 | _=>exact absurd (show false=true from f) a_
theorem WR{x:V}:∀{xs:List V}{us:List Value},Vals xs us->xs.all U1=true->us.any (eqU x)=xs.any λy=>eqV y x
 | _,_,.nil,_=>rfl
 | y::xs,u::us,.cons r t,f=>by
  rw [List.all_cons,fD]at f;rw [List.any_cons,List.any_cons,Rr r f.1,WR t f.2]
theorem J0{x:V}{v:Value}(rx:RelV x v)(fx:U1 x=true):∀{xs:List V}{us:List Value},Vals xs us->xs.all U1=true->∀u∈us,SeqAt.EqAt A s u v (eqU x u)
 | _,_,.nil,_=>λu hu=>by cases hu
 | y::xs,u::us,.cons r t,f=>λj hu=>by
  rw [List.all_cons,fD]at f;rcases aQ.mp hu with rfl | hu
  .rw [Rr r f.1];exact Bw r rx f.1 fx
  .exact J0 rx fx t f.2 j hu
def inV(x:V)(xs:List V):Bool:=xs.any λy=>eqV y x
def rIn(K:Fg)(neg:Bool):R2:=λx y H Q=>∃p xs,y=.ref p/\(SqL K H p xs\/SqT K H p xs)/\U1 x=true/\xs.all U1=true/\Q (.bl (if neg then !inV x xs else inV x xs)) H
theorem Vt:OpR X (compareOp .NotIn) (rIn X.K true):=by
 intro pins s σ H x y v u Q I G L h;obtain⟨p,xs,rfl,hq,J,fs,q⟩:=h;cases L;rcases hq with hq | hq
 .obtain⟨its,r,j,hz⟩:=I.list hq;refine SeqAt.notIn_listAt (eqU x) j.isList (λw F=>J0 G J r fs w (by simpa using F)) ⟨.bl _,H,I,rfl,?_⟩;rw [show its.toArray.any (eqU x)=its.any (eqU x)by simp,WR r fs];exact q
 .obtain⟨its,r,j,hz⟩:=I.tuple hq;refine SeqAt.notIn_tupleAt (eqU x) j (λw F=>J0 G J r fs w (by simpa using F)) ⟨.bl _,H,I,rfl,?_⟩;rw [show its.toArray.any (eqU x)=its.any (eqU x)by simp,WR r fs];exact q
theorem Z7:OpR X (compareOp .NotIn) (λx y H Q=>∃i j,x=.str i/\y=.str j/\Q (.bl (!(!(Builtin.Str.occurrences j i 0 j.length 1).isEmpty))) H):=by
 intro pins s σ H x y v u Q I F G h;obtain⟨i,j,rfl,rfl,q⟩:=h;obtain⟨t,rfl⟩:=F;obtain⟨J,rfl⟩:=G;exact notIn_str ⟨.bl _,H,I,rfl,q⟩
theorem Qy:ZO X (.builtin "len") (λxs H Q=>∃p ys,xs=[.ref p]/\(SqL X.K H p ys\/SqT X.K H p ys)/\Q (.int ys.length) H):=by
 intro pins s σ H xs L Q I r h;obtain⟨p,ys,rfl,hq,q⟩:=h;obtain⟨u,rfl,J⟩:=Uj r;cases J;have hn:=Xz;rcases hq with hq | hq
 .obtain⟨its,F,G,hz⟩:=I.list hq;have j:=F.length;exact Calls.call_len_list G.isList (by simp only [aX]<;>lia) ⟨.int ys.length,H,I.tok _,⟨s.toks+1,by rw [aX,j]⟩,q⟩
 .obtain⟨its,F,G,hz⟩:=I.tuple hq;have j:=F.length;exact len_tuple G (by simp only [aX]<;>lia) ⟨.int ys.length,H,I.tok _,⟨s.toks+1,by rw [aX,j]⟩,q⟩
theorem Zb:ZO X (.builtin "len") (λxs H Q=>∃z,xs=[.str z]/\z.length<=sizeLine/\Q (.int z.length) H):=by
 intro pins s σ H xs j Q I r h;obtain⟨z,rfl,hz,q⟩:=h;obtain⟨u,rfl,t,rfl⟩:=Uj r;have hn:=Xz;exact len_str (10:) ⟨.int z.length,H,I.tok _,⟨_,rfl⟩,q⟩
theorem UE:ZO X (.type "list") (λxs H Q=>∃p ys,xs=[.ref p]/\(SqL X.K H p ys\/SqT X.K H p ys)/\∀l,H l=none->Q (.ref l) (upd H l (.lst ys))):=by
 intro pins s σ H xs us Q I r h;obtain⟨p,ys,rfl,hq,q⟩:=h;obtain⟨u,rfl,rx⟩:=Uj r;cases rx;have fin:∀(its:List Value),Vals ys its->ys.length<=sizeLine->∀(h':Heap)(j:Nat),(∀b o',s.heap.get? b=some o'->h'.get? b=some o')->
  h'.get? s.heap.objs.size=some { cls:=.type "list",dict:=none,data:=.seq its.toArray j,slots:=#[] }->EP X pins σ Q (.ref s.heap.objs.size) { s with heap:=h' }:=λits F hz h' j G e=>
  ⟨.ref s.heap.objs.size,_,I.laid (t':=s.toks) G (8:) (show ObjOk X.prog X.w _ h' _ (.lst ys)from⟨hz,its,j,F,e⟩),rfl,q _ (I.hok.fresh (8:))⟩
 rcases hq with hq | hq
 .obtain⟨its,F,J,hz⟩:=I.list hq;have L:=F.length;obtain⟨o,M,U,n,Y⟩:=J.isList;exact call_list_seq p (.inl rfl) M U Y (λh' j G e=>fin its F hz h' j G e) (by simp only [aX]<;>lia)
 .obtain⟨its,F,J,hz⟩:=I.tuple hq;have L:=F.length;obtain⟨o,M,U,n,Y⟩:=J;exact call_list_seq p (.inr rfl) M U Y (λh' j G e=>fin its F hz h' j G e) (by simp only [aX]<;>lia)
theorem ZT:ZO X (.type "tuple") (λxs H Q=>∃p ys,xs=[.ref p]/\((SqL X.K H p ys/\∀l,H l=none->Q (.ref l) (upd H l (.tup ys)))\/(SqT X.K H p ys/\Q (.ref p) H))):=by
 intro pins s σ H xs us Q I r h;obtain⟨p,ys,rfl,h⟩:=h;obtain⟨u,rfl,L⟩:=Uj r;cases L;rcases h with⟨j,q⟩ | ⟨j,q⟩
 .obtain⟨its,F,G,hz⟩:=I.list j;have M:=F.length;refine call_tuple_list G.isList (λh' U=>?_) (by simp only [aX]<;>lia);have J:Inv X pins σ H { s with heap:=h' }:=I.kept (t':=s.toks) U;have Y:Inv X pins σ (upd H h'.objs.size (.tup ys)) { s with heap:=h'.push { cls:=.type "tuple",data:=.seq its.toArray } }:=
   J.laid (t':=s.toks) (λb o e=>aT _ e) (8:) (show ObjOk X.prog X.w _ _ _ (.tup ys)from⟨hz,its,F,IsTup.new _ _⟩)
  exact⟨.ref h'.objs.size,_,Y,rfl,q _ (J.hok.fresh (8:))⟩
 .obtain⟨its,F,G,hz⟩:=I.tuple j;exact call_tuple_same G ⟨.ref p,H,I,rfl,q⟩
def tyV(K:Fg)(T:String)(x:V)(H:Hp):Prop:=match x with
 | .str _=>T="str"
 | .int _=>T="int"
 | .ref p=>(T="list"/\ ∃xs,SqL K H p xs)\/(T="tuple"/\ ∃o,K.lookup p=some o/\o.cls=.type "tuple"/\ o.dict=none) \/
  (T="dict"/\ ((∃kvs,H p=some (.dK kvs))\/∃kvs,H p=some (.dT kvs)))\/(T="set"/\ ∃S n,H p=some (.set S n))
 | _=>False
theorem PB{pins:List (13:)}{T:String}{x:V}{v:Value}(I:Inv X pins σ H s)(r:RelV x v)(ty:tyV X.K T x H):
 s.TypeIs v T/\∀a,v=.ref a->∃ob,s.heap.get? a=some ob/\ob.dict=none:=by
 cases x with
 | str z=>
  obtain⟨t,rfl⟩:=r;cases (show T="str" from ty);exact⟨typeIs_str s z t,λ_ e=>nomatch e⟩
 | int i=>
  obtain⟨t,rfl⟩:=r;cases (show T="int" from ty);exact⟨typeIs_int s i t,λ_ e=>nomatch e⟩
 | ref p=>
  cases r;rcases ty with⟨rfl,xs,J⟩ | ⟨rfl,o,j,L,F⟩ | ⟨rfl,j⟩ | ⟨rfl,S,n,j⟩
  .obtain⟨its,_,G,_⟩:=I.list J;refine⟨G.isList.typeIs,λa e=>?_⟩;cases e;obtain⟨o,n,e,c,F,_⟩:=G;exact⟨o,e,F⟩
  .refine⟨⟨o,I.kIn p o j,L⟩,λa e=>?_⟩;cases e;exact⟨o,I.kIn _ o j,F⟩
  .have z:∃o,s.heap.get? p=some o/\o.ExactDict:=by
    rcases j with⟨kvs,j⟩ | ⟨kvs,j⟩
    .obtain⟨_,_,_,_,o,_,_,e,ex,_⟩:=I.hok p _ j;exact⟨o,e,ex⟩
    .obtain⟨_,_,_,_,o,_,_,e,ex,_⟩:=I.hok p _ j;exact⟨o,e,ex⟩
   obtain⟨o,e,ex⟩:=z;refine⟨⟨o,e,ex.1⟩,λa e2=>?_⟩;cases e2;exact⟨o,e,ex.2.1⟩
  .obtain⟨o,_,_,_,e,ex,_⟩:=I.hok p _ j;refine⟨⟨o,e,ex.1⟩,λa e2=>?_⟩;cases e2;exact⟨o,e,ex.2.1⟩
 | _=>exact False.elim ty
def DG(K:Fg)(T:String)(r:V->List V->Hp->VK->Prop)(to:TE):TE:=λσ H Q=>to σ H λx H1=>tyV K T x H1/\r x [] H1 Q
def tBM(K:Fg)(T:String)(r:V->List V->Hp->VK->Prop)(to:TE)(t:TA):TE:=λσ H Q=>to σ H λx H1=>tyV K T x H1/\t σ H1 λxs H2=>r x xs H2 Q
variable{o:Expr}{to:TE}{t:TA}{T id:String}{r:V->List V->Hp->VK->Prop}
theorem Se(pa:PlainAttrs T)(slot:Slot T name id)(hty:typeOf (.builtin id)=pure (.type "method_descriptor"))(hm:MtR X id r)(ho:PE X o to)
 (hbase:attributeBase o name X.env (eval o X.env)=eval o X.env:=by rfl) (hline:(apos.endLine==cpos.line)=true:=by rfl):PE X (.Call (.Attribute o name apos) [] [] cpos) (DG X.K T r to):=by
 intro pins s σ H Q I h;refine wpAny_Call_method0_late hbase hline (thn (ho pins s σ H _ I h) λv G ⟨x,H1,j,F,ty,J⟩=>?_);obtain⟨h1,h2⟩:=PB j F ty;exact⟨T,id,pa,slot,hty,h1,h2,iD rfl (PySem.evalArgs_none (hm pins G σ H1 x [] v [] Q j F .nil J))⟩
theorem Zi(pa:PlainAttrs T)(slot:Slot T name id)(hty:typeOf (.builtin id)=pure (.type "method_descriptor"))(hm:MtR X id r)(ho:PE X o to)(ha:PA X (e::es) t)
 (hbase:attributeBase o name X.env (eval o X.env)=eval o X.env:=by rfl)
 (hfew:((backTo cpos (starEach (e::es) X.env)).all (λx=>!x.1)&&(backToKw cpos (keywordEach [] X.env)).all (λx=>x.1.isSome)
  &&decide ((e::es).length+([]:List Keyword).length+(if([]:List Keyword).isEmpty then 0 else 1)<30))=true:=by rfl)
 (hline:(apos.endLine==cpos.line)=true:=by rfl) (hs:starEach (e::es) X.env=(false,eval e X.env)::starEach es X.env:=by rfl) (hplain:(backTo cpos (starEach es X.env)).any (·.1)=false:=by rfl):
 PE X (.Call (.Attribute o name apos) (e::es) [] cpos) (tBM X.K T r to t):=by
 intro pins s σ H Q I h;refine wpAny_Call_method_late hbase hfew hline rfl (thn (ho pins s σ H _ I h) λv J ⟨x,H1,j,F,ty,L⟩=>?_);obtain⟨h1,h2⟩:=PB j F ty;refine⟨T,id,pa,slot,hty,h1,h2,?_⟩;have G:=ha cpos pins J σ H1 _ j L;rw [hs]at G ⊢;refine iD (by show(false||(backTo cpos (starEach es X.env)).any (·.1))=false;rw [hplain]<;>rfl) (Calls.evalArgs_plain ?_);exact thn G λM U ⟨Y,H2,I2,r2,q2⟩=>hm pins U σ H2 x Y v M Q I2 F r2 q2
end
def MtM(X:Cx)(id:String)(r:V->List V->Hp->VK->Prop):Prop:=
 ∀(pins:List (13:))(s:Shared)(σ:St)(H:Hp)(x:V)(xs:List V)(v:Value)(us:List Value)(Q:VK),Inv X pins σ H s->RelV x v->Vals xs us->r x xs H Q->
  wpAny (6:) X.A (call (.builtin id) (v::us)) (EP X pins σ Q) X.xe s
theorem Vals.one:∀{x:V}{us:List Value},Vals [x] us->∃u,us=[u]/\RelV x u
 | _,_,.cons r .nil=>⟨_,rfl,r⟩
theorem Vals.two:∀{x y:V}{us:List Value},Vals [x,y] us->∃u v,us=[u,v]/\RelV x u/\RelV y v
 | _,_,_,.cons r (.cons q .nil)=>⟨_,_,rfl,r,q⟩
theorem Vals.zero:∀{us:List Value},Vals [] us->us=[]
 | _,.nil=>rfl
section
variable{pins:List (13:)}
theorem Inv.lset{its its':List Value}{f:Array Value->Array Value}(I:Inv X pins σ H s)(hH:H l=some (.lst xs))
 (e:s.heap.get? l=some { cls:=.type "list",data:=.seq its.toArray n }) (hf:f its.toArray=its'.toArray) (hv:Vals ys its') (hz:ys.length<=sizeLine):
 Inv X pins σ (upd H l (.lst ys)) { s with heap:=s.heap.update l (Obj.mapSeq f),toks:=t' }:=by
 have q:=PySem.IsL.update e f;rw [hf]at q;refine I.write (x:=l) (e:=l) (by rw [hH];exact trivial) (.inl rfl) (λG u j F=>(Heap.get?_update_other s.heap (Obj.mapSeq f) (bW j)).trans F) ⟨_,q⟩ ?_;exact⟨hz,its',_,hv,q⟩
theorem Inv.lnew{its:List Value}(I:Inv X pins σ H s)(hv:Vals ys its)(hz:ys.length<=sizeLine):
 Inv X pins σ (upd H s.heap.objs.size (.lst ys)) { s with heap:=s.heap.push { cls:=.type "list",data:=.seq its.toArray },toks:=t' }:=
 I.laid (λ_ _ q=>aT _ q) (8:) ⟨hz,its,0,hv,bQ _ rfl⟩
theorem Inv.fresh(I:Inv X pins σ H s):H s.heap.objs.size=none:=I.hok.fresh (8:)
theorem Inv.lstM(I:Inv X pins σ H s)(hH:H l=some (.lst xs)):xs.length<=sizeLine/\∃(its:List Value)(n:Nat),Vals xs its/\xs.length=its.length/\s.heap.get? l=some { cls:=.type "list",data:=.seq its.toArray n }:=by
 obtain⟨z,its,n,r,e⟩:=I.hok l _ hH;exact⟨z,its,n,r,r.length,e⟩
theorem PM(h:n<=sizeLine):Builtin.List.listTooLong n=false:=by
 unfold Builtin.List.listTooLong;exact bM (10:)
end
def TB:V->List V->Hp->VK->Prop:=λx vs H Q=>∃l xs y,x=.ref l/\vs=[y]/\H l=some (.lst xs)/\xs.length<sizeLine/\Q .non (upd H l (.lst (xs++[y])))
theorem QM:MtM X "list.append" TB:=by
 intro pins s σ H x L v M Q I G J h;obtain⟨l,xs,y,rfl,rfl,j,hz,q⟩:=h;cases G;obtain⟨u,rfl,ru⟩:=J.one;obtain⟨z,its,n,r,hl,e⟩:=I.lstM j;refine call_meets F.slot_list_append ⟨_,e,rfl⟩ F.entry_list_append (F.args_list_append_2 _ _) (PySem.list_append l its.toArray n u (by rw [aX];lia)) ⟨e,?_⟩;refine⟨.non,_,I.lset (its':=its++[u]) j e (22:) (r.append (.cons ru .nil)) ?_,rfl,q⟩;rw [aI,cT];lia
def TL:V->List V->Hp->VK->Prop:=λx vs H Q=>∃l b xs zs,x=.ref l/\vs=[.ref b]/\H l=some (.lst xs)/\H b=some (.lst zs)/\xs.length+zs.length<=sizeLine/\Q .non (upd H l (.lst (xs++zs)))
theorem Wq:MtM X "list.extend" TL:=by
 intro pins s σ H x vs v us Q I M U h;obtain⟨l,b,xs,zs,rfl,rfl,J,Y,hz,q⟩:=h;cases M;obtain⟨u,rfl,ru⟩:=U.one;cases ru;obtain⟨z,its,n,r,hl,e⟩:=I.lstM J;obtain⟨z2,j,n2,r2,aa,e2⟩:=I.lstM Y;have L:its.toArray.size+j.toArray.size<=sizeLine:=by rw [aX,aX];lia
 have G:¬(!its.toArray.isEmpty&&Builtin.List.listTooLong (its.toArray.size+j.toArray.size))=true:=by
  rw [PM L,Bool.and_false];exact a_
 refine call_meets F.slot_list_extend ⟨_,e,rfl⟩ F.entry_list_extend (F.args_list_extend_2 _ _)
  (AutoSeq1.list_extend_list_list_0 l its.toArray n b j.toArray n2 G (by rw [aX];lia) (10:)) ⟨e,e2,?_⟩
 refine⟨.non,_,I.lset (its':=its++j) J e (22:) (r.append r2) ?_,rfl,q⟩;rw [aI];lia
def AH:V->List V->Hp->VK->Prop:=λx vs H Q=>∃l xs,x=.ref l/\vs=[]/\H l=some (.lst xs)/\Q .non (upd H l (.lst []))
theorem Rg:MtM X "list.clear" AH:=by
 intro pins s σ H x M v U Q I J L h;obtain⟨l,xs,rfl,rfl,j,q⟩:=h;cases J;have G:=L.zero;subst G;obtain⟨z,its,n,r,hl,e⟩:=I.lstM j;refine call_meets F.slot_list_clear ⟨_,e,rfl⟩ F.entry_list_clear (F.args_list_clear_1 _) (AutoSeq1.list_clear_list_0 l its.toArray n (by rw [aX];lia)) ⟨e,?_⟩;exact⟨.non,_,I.lset (its':=[]) (ys:=[]) j e rfl .nil (bZ _),rfl,q⟩
theorem Ty{α:Type}(xs:List α)(k:Nat):(List.replicate k xs).flatten.length=k*xs.length:=by
 induction k with
 | zero=>simp
 | succ k j=>rw [fA,List.flatten_cons,aI,j,Nat.succ_mul,Nat.add_comm]
end L2
namespace Att
open PySem PySem.W PySem.Calls PyProof.Rows
theorem Jt{P:Params}{h:Heap}:∀(ns:List Int)(vs:List Value),WellAll P h vs (ns.map WData.int)->IntsAre vs ns:=by
 intro ns
 induction ns with
 | nil=>
  intro vs w;rw [eW]at w;cases w;exact .nil
 | cons n ns j=>
  intro vs w;rw [aR]at w;cases w with
  | cons a b=>
   cases a;exact .cons _ _ (j _ b)
theorem Nj{l:OpenLaw}(hn:l.most=some n){P:Params}{h:Heap}{args:List WData}{vals:List Value}
 (hpre:l.row.toRowW.claim.pre args=true) (hwl:WellAll P h vals args):
 ∃a vs ns,vals=[Value.ref a]/\args=[WData.list (ns.map WData.int)]/\h.get? a=some { cls:=.type "list",data:=.seq vs.toArray }/\IntsAre vs ns/\ns.length<=n:=by
 have L:WShape.hasAll [] args [.list .int]=true:=(pre_splitW hpre).1;have M:l.pre.holds [] { args:=args }=true:=(pre_splitW hpre).2;obtain⟨d,r,rfl,h1,h2⟩:=hasAllW_cons L;obtain rfl:=hasAllW_nil h2;obtain⟨xs,rfl,U⟩:=hasW_list h1;obtain⟨ns,rfl⟩:=items_int U;have G:ns.length<=n:=by
  unfold OpenLaw.pre at M;have j:(WTm.not (.lt (.lit (.int (n:Int))) (.len (.arg 0)))).holds [] { args:=[.list (ns.map .int)] }=true:=by
   have j:=(holds_andW M).1;rw [hn]at j;exact j
  have F:=condW_of j (w_not (w_lt w_lit (w_len_list (w_arg rfl))));rw [aA]at F;refine Nat.le_of_not_lt λq=>?_;have Y:(n:Int)<((ns.length:Nat):Int):=by lia
  first
   | (rw [aV Y]at F;exact absurd F (9:))
   | (simp at F;lia)
 cases hwl with
 | cons w1 w2=>
  cases w2;cases w1 with
  | list ho J=>exact⟨_,_,ns,rfl,rfl,ho,Jt ns _ J,G⟩
theorem NF(l:OpenLaw)(args:List WData):l.row.toRowW.claim.post args (.bool true) args=true:=
 postW_of (r:=l.row.toRowW) (X:=(true==true))
  (show WShape.has [] (.bool true) .bool=true by first | rfl | decide | simp [WShape.has,WShape.arms,WShape.armsAll])
  (show(WTm.eq .res (.lit (.bool true))).value [] { args:=args,res:=some (.bool true),after:=args }=some (.bool (true==true))from w_eq_bool (w_res rfl) w_lit) rfl
theorem attach_call{l:OpenLaw}{q:Program}{d:DefRec}
 (hn:l.most=some n) (hdf:d.params.defaults=[])
 (call:∀(w:World)(s0 s₁:Shared)(mg mb:Str->Option Value)(fa:Addr)(o:Obj)(pm cd doc:Value)(a:Addr)(vs:List Value)(ns:List Int),Ground q loose [] XP w s0 mg mb s₁.heap->YP w s₁.heap->
  s₁.heap.get? fa=some o->o.data=.func (docDef d.name d.params d.body d.scope pm cd doc)->s₁.heap.CodeRec cd d.name->mg d.name=some (.ref fa)->
  s₁.heap.get? a=some { cls:=.type "list",data:=.seq vs.toArray }->IntsAre vs ns->ns.length<=n->s₁.gens=#[]->
  codeAny (model l.prog w) callerA (.call (.ref fa) ⟨[.ref a],[]⟩) (λr s'=>r=.ok (.ret (.bool true))/\OldK s₁.heap s'.heap/\s'.os=s₁.os/\AllBare s'.gens) s₁):
 WalkO q loose XP YP l.row.toRowW d [] (λf vs=>PySem.call f vs):=by
 intro w s0 s₁ mg mb G Y fa o pm cd doc dV kV ho hd M hD U hg ab ac as F ad ae aa af;obtain rfl:dV=.none:=Dflts.none hD hdf;obtain rfl:kV=.none:=Dflts.noKw hD;obtain⟨a,vs,ns,rfl,rfl,J,j,L⟩:=Nj hn F aa;refine enter_call (eV (call w s0 s₁ mg mb fa o pm cd doc a vs ns G Y ho (fd_plain hd) M U J j L hg) λr s' hq=>?_);obtain⟨rfl,h2,h3,h4⟩:=hq;exact⟨.inl ⟨.bool true,.bool true,[],rfl,λ_=>rfl,.bool true,NF l _,λ_=>⟨List.Pairwise.nil,λ_ hm=>(nomatch hm)⟩⟩,h2,h3,h4⟩
section
variable{K:Frag}
end
end Att
namespace L2
open PySem PySem.Spec PyProof.Rows
theorem Wr:∀{vs:List Value}{ns:List Int},IntsAre vs ns->Vals (ns.map V.int) vs
 | _,_,.nil=>.nil
 | _,_,.cons n t h=>.cons ⟨t,rfl⟩ (Wr h)
def inClass(s:Stmt)(j:Nat):Stmt:=match s with
 | .ClassDef _ _ _ body _ _ _ _ _ _ _=>body.getD j (.Pass ⟨0,0,0,0⟩)
 | _=>.Pass ⟨0,0,0,0⟩
def defArgs(s:Stmt):Arguments:=match s with
 | .FunctionDef _ a _ _ _ _ _ _ _ _=>a
 | _=>{ posonlyargs:=[],args:=[],vararg:=none,kwonlyargs:=[],kw_defaults:=[],kwarg:=none,defaults:=[] }
def defBody(s:Stmt):List Stmt:=match s with
 | .FunctionDef _ _ b _ _ _ _ _ _ _=>b
 | _=>[]
def defScope(s:Stmt):Scope:=match s with
 | .FunctionDef _ _ _ _ _ _ sc _ _ _=>sc
 | _=>{ kind:=.function,names:=[],isGenerator:=false,isCoroutine:=false }
abbrev CX0:CXT:=λ_ _ _ _ _ _=>False
abbrev E0:XK:=λ_ _ _=>False
theorem Mo:Ux CX0 X E0:=λ_ _ _ _ _ _ _ h=>h.elim
structure Fun(K:Fg)(x qual:Str)(st:Stmt)(f:Addr)(fd:FuncData):Prop where
 ex:∃(oc:Value)(od:Option Addr)(kV doc pm:Value)(an:Option Addr)(cdv ct:Value)(osl:Array (Option Value)),
  fd=PySem.W.fnOf x qual (defArgs st) (defBody st) (defScope st) .none kV doc pm an cdv ct/\K.lookup f=some ⟨oc,od,.func fd,osl⟩/\PySem.W.codeIn K cdv qual=true
 kp:PySem.W.keepIn K (.ref f)=true
section
variable{K:Fg}
theorem Fun.ok{st:Stmt}{fd:FuncData}{N:List Str}{k:Nat}(F:Fun K x qual st f fd)(S:FnScope N ps (defScope st))(len:∀vs H Q E,sp vs H Q E->vs.length=ps.length)
 (hbody:∀(cdv:Value)(A:Around)(outer:List Env)(s:Shared)(H:Hp)(vs:List V)(Q:VK)(E:XK),Room k (A.deeper (envOfC qual (defScope st) s.heap.objs.size f cdv))->sp vs H Q E->
  ∃t,PSs (QW CX0 P w K mg base N qual (defScope st) f cdv A outer s H E).nox (defBody st) t/\t { nx:=λ_ H'=>Q .non H',rt:=Q } (start N vs) H):FnOk P w K mg base CX0 (k+1) f fd ps sp:=by
 obtain⟨Y,od,kV,M,pm,an,cdv,ct,U,rfl,J,j⟩:=F.ex;refine Ay J j S len λA outer s H vs Q E L G=>?_;obtain⟨t,h,q⟩:=hbody cdv A outer s H vs Q E L G;exact⟨t,h.nox,q⟩
theorem Fun.binds{st:Stmt}{fd:FuncData}(F:Fun K x qual st f fd)
 (h:∀(kV doc pm:Value)(an:Option Addr)(cdv ct:Value)(us:List Value),us.length=ps.length->bindArgs (PySem.W.fnOf x qual (defArgs st) (defBody st) (defScope st) .none kV doc pm an cdv ct) ⟨us,[]⟩=pure (ps.zip us)):Binds K fd ps []:=by
 obtain⟨J,L,kV,doc,pm,an,cdv,ct,j,rfl,M,G⟩:=F.ex;exact .all (h kV doc pm an cdv ct)
theorem ZK{st:Stmt}{kV:Value}(l:K.lookup f=some ⟨oc,od,.func (PySem.W.fnOf x qual (defArgs st) (defBody st) (defScope st) .none kV doc pm an cdv ct),osl⟩)
 (c:PySem.W.codeIn K cdv qual=true) (k:PySem.W.keepIn K (.ref f)=true):Fun K x qual st f (PySem.W.fnOf x qual (defArgs st) (defBody st) (defScope st) .none kV doc pm an cdv ct):=⟨⟨oc,od,kV,doc,pm,an,cdv,ct,osl,rfl,l,c⟩,k⟩
end
theorem pv(i:Nat)(hN:X.N[i]?=some x:=by rfl)(hv:Vis X.env.scope x:=by first | exact Or.inl rfl | exact cB (7:) | exact cB (cB rfl))(hd:(x==("__debug__":Str))=false:=by decide)
 (hcd:(x==("__classdict__":Str))=false:=by decide):PE X (.Name x pos) (LD i):=Rl hN hv hd hcd
theorem Q7{A B:Prop}(h:B):if false=true then A else B:=by
 rw [aF a_];exact h
theorem Q2{A B:Prop}(h:A):if true=true then A else B:=by
 rw [aH rfl];exact h
theorem Ui{c A B:Prop} [Decidable c] (h1:c->A) (h2:¬c->B):if c then A else B:=by
 by_cases h:c
 .rw [aH h];exact h1 h
 .rw [aF h];exact h2 h
theorem P4{c A B:Prop} [Decidable c] (hc:c) (h:B):if(!decide c)=true then A else B:=by
 rw [aV hc];exact Q7 h
def Same(H H':Hp):Prop:=∀b o,H b=some o->H' b=some o
theorem Same.refl(H:Hp):Same H H:=λ_ _ h=>h
theorem Same.trans(a:Same H H1)(b:Same H1 H2):Same H H2:=λc o h=>b c o (a c o h)
theorem Same.free(e:Same H H')(h:H' l=Option.none):H l=Option.none:=by
 cases q:H l with
 | none=>rfl
 | some o=>
  rw [e l o q]at h;cases h
theorem Same.seq{K:Fg}(e:Same H H')(h:SqL K H a xs):SqL K H' a xs:=by
 rcases h with(h | ⟨o,h⟩) | h
 .exact .inl (.inl (e _ _ h))
 .exact .inl (.inr ⟨o,e _ _ h⟩)
 .exact .inr h
end L2
set_option maxHeartbeats 4000000
namespace L2
open PySem PySem.Spec PyProof.Rows
theorem Gk:ZO X (.builtin "isinstance") (λxs H Q=>∃x T t b,xs=[x,.ty T]/\TyOf X.K H x t/\PySem.W.kitOne X.K t (.type T)=some b/\Q (.bl b) H):=by
 intro pins s σ H xs G Q I r h;obtain⟨x,T,t,b,rfl,ty,e,q⟩:=h;obtain⟨u,c,rfl,j,F⟩:=Ra r;cases (show c=Value.type T from F);exact NC I j ty e λtk=>⟨.bl b,H,I.tok tk,rfl,q⟩
def Jr(z:Str)(lo hi:Option Int):Str:=⟨((z.cps.toList.drop (HT.sIx z.length 0 lo)).take (HT.sIx z.length z.length hi-HT.sIx z.length 0 lo)).toArray⟩
theorem UG(n d:Nat)(v:Int):max (0:Int) (min (if v<0 then v+(n:Int)else v) (n:Int))=((HT.sIx n d (some v):Nat):Int):=by
 show _=(((if v<0 then(v+(n:Int)).toNat else min v.toNat n):Nat):Int)
 by_cases j:v<0
 .simp only [aH j];lia
 .simp only [aF j];lia
theorem Gj(lo hi:Option Int)(n:Nat):Builtin.Str.strSliceIndices lo hi 1 n=(List.range (HT.sIx n n hi-HT.sIx n 0 lo)).map (λk=>HT.sIx n 0 lo+k):=by
 have h1:(1:Int)>0:=by decide
 have j:HT.sIx n n hi<=n:=HT.sIx_le _ _ (8:) hi;have F:HT.sIx n 0 lo<=n:=HT.sIx_le _ _ (bZ _) lo;have key:∀a b:Nat,sliceRange (a:Int) (b:Int) 1=(List.range (b-a)).map (λk=>a+k):=λa b=>sliceRange_one a b;unfold Builtin.Str.strSliceIndices;simp only [h1,if_true];cases lo with
 | none=>
  cases hi with
  | none=>exact key 0 n
  | some v=>
   dsimp only;rw [UG n n v];exact key 0 _
 | some u=>
  cases hi with
  | none=>
   dsimp only;rw [UG n 0 u];exact key _ n
  | some v=>
   dsimp only;rw [UG n n v,UG n 0 u];exact key _ _
theorem Lr(z:Str)(lo hi:Option Int):(Builtin.Str.strSliceIndices lo hi 1 z.length).filterMap (z.cps[·]?)=(z.cps.toList.drop (HT.sIx z.length 0 lo)).take (HT.sIx z.length z.length hi-HT.sIx z.length 0 lo):=by
 rw [Gj];exact pick_run z.cps _ _
theorem VS(z:Str)(lo hi:Option Int):(if((1:Int)==1&&(Builtin.Str.strSliceIndices lo hi 1 z.length).length==z.length)=true then z else⟨((Builtin.Str.strSliceIndices lo hi 1 z.length).filterMap (z.cps[·]?)).toArray⟩)=Jr z lo hi:=by
 rw [Lr];split
 .rename_i h;have hl:HT.sIx z.length z.length hi-HT.sIx z.length 0 lo=z.length:=by
   rw [Gj]at h
   simpa using h
  have F:HT.sIx z.length z.length hi<=z.length:=HT.sIx_le _ _ (8:) hi;have j:HT.sIx z.length 0 lo=0:=by
   by_cases q:z.length=0
   .have G:HT.sIx z.length 0 lo<=z.length:=HT.sIx_le _ _ (bZ _) lo;lia
   .lia
  unfold Jr;rw [hl,j,List.drop_zero,cQ (by simp [Str.length])]
 .rfl
def DD:V->Option Int->Option Int->Hp->VK->Prop:=λx lo hi H Q=>∃z,x=.str z/\z.length<=sizeLine/\Q (.str (Jr z lo hi)) H
theorem Op(z:Str)(lo hi:Option Int):(Jr z lo hi).length<=z.length:=by
 show(List.take _ (List.drop _ z.cps.toList)).toArray.size<=z.cps.size;rw [aX,bH,dC,gQ];lia
theorem WB:SlR X DD:=by
 intro pins s σ H x v vl vu lo hi sl Q I U J Y M h;obtain⟨z,rfl,hz,q⟩:=h;obtain⟨t,rfl⟩:=U;refine⟨"str",_,F.slot_str_getitem.lookup,typeIs_str _ _ _,?_⟩;have fin:∀(l u:Option (Int×Tok)),l.map (·.1)=lo->u.map (·.1)=hi->(sliceMade z t l u none).post (EP X pins σ Q) s:=λl u el eu=>by
  subst el;subst eu;refine post_val_or_str ?_;have e:=VS z (l.map (·.1)) (u.map (·.1));have e':(if(((none:Option (Int×Tok)).map (·.1)).getD 1==1&&(slicePicked z l u none).length==z.length)=true then z else⟨((slicePicked z l u none).filterMap (z.cps[·]?)).toArray⟩)=Jr z (l.map (·.1)) (u.map (·.1)):=e;rw [e'];exact⟨bL (Op _ _ _) hz,λt' k=>⟨.str _,H,I.tok k,⟨t',rfl⟩,q⟩⟩
 cases Y with
 | none=>
  cases M with
  | none=>exact iB (l:=none) (u:=none) (st:=none) J rfl (fin none none rfl rfl)
  | int j G=>exact iB (l:=none) (u:=some (j,G)) (st:=none) J rfl (fin none (some (j,G)) rfl rfl)
 | int i L=>
  cases M with
  | none=>exact iB (l:=some (i,L)) (u:=none) (st:=none) J rfl (fin (some (i,L)) none rfl rfl)
  | int j G=>exact iB (l:=some (i,L)) (u:=some (j,G)) (st:=none) J rfl (fin (some (i,L)) (some (j,G)) rfl rfl)
mutual
inductive RdV(K:Fg)(H:Hp):V->PyData->Prop where
 | non:RdV K H .non .none
 | bl (b:Bool):RdV K H (.bl b) (.bool b)
 | int (i:Int):RdV K H (.int i) (.int i)
 | str (x:Str):RdV K H (.str x) (.str x)
 | lst {a:Addr} {xs:List V} {ds:List PyData}:SqL K H a xs->RdAll K H xs ds->RdV K H (.ref a) (.list ds)
 | tup {a:Addr} {xs:List V} {ds:List PyData}:SqT K H a xs->RdAll K H xs ds->RdV K H (.ref a) (.tuple ds)
inductive RdAll(K:Fg)(H:Hp):List V->List PyData->Prop where
 | nil:RdAll K H [] []
 | cons {v:V} {vs:List V} {d:PyData} {ds:List PyData}:RdV K H v d->RdAll K H vs ds->RdAll K H (v::vs) (d::ds)
end
section
variable{pins:List (13:)}
mutual
theorem RdV.reads(I:Inv X pins σ H s):∀{v:V}{d:PyData}{u:Value},RdV X.K H v d->RelV v u->∃as,Reads s.heap u d as
 | _,_,u,.non,r=>by cases (show u=Value.none from r);exact⟨_,.none⟩
 | _,_,u,.bl b,r=>by cases (show u=Value.bool b from r);exact⟨_,.bool b⟩
 | _,_,u,.int i,r=>by obtain⟨t,e⟩:=(show ∃t,u=Value.int i t from r);cases e;exact⟨_,.int i t⟩
 | _,_,u,.str x,r=>by obtain⟨t,e⟩:=(show ∃t,u=Value.str x t from r);cases e;exact⟨_,.str x t⟩
 | _,_,u,@RdV.lst _ _ a xs ds j F,r=>by
  cases (show u=Value.ref a from r);obtain⟨its,G,⟨o,n,e,c,_,J⟩,_⟩:=I.list j;obtain⟨as,q⟩:=RdAll.reads I F G;exact⟨_,.list e c J (by simpa using q)⟩
 | _,_,u,@RdV.tup _ _ a xs ds j F,r=>by
  cases (show u=Value.ref a from r);obtain⟨its,G,⟨o,e,c,n,J⟩,_⟩:=I.tuple j;obtain⟨as,q⟩:=RdAll.reads I F G;exact⟨_,.tuple e c J (by simpa using q)⟩
theorem RdAll.reads(I:Inv X pins σ H s):∀{vs:List V}{ds:List PyData}{us:List Value},RdAll X.K H vs ds->Vals vs us->∃as,ReadsAll s.heap us ds as
 | _,_,_,.nil,r=>by cases r;exact⟨_,.nil⟩
 | _,_,_,.cons h t,r=>by
  cases r with
  | cons j F=>
   obtain⟨as,q⟩:=RdV.reads I h j;obtain⟨bs,G⟩:=RdAll.reads I t F;exact⟨_,.cons q G⟩
end
end
def CB(K:Fg)(A:Around)(neg:Bool):R2:=λx y H Q=>∃d e:PyData,RdV K H x d/\RdV K H y e/\d.canLay0=true/\e.canLay0=true/\A.units+min d.depth e.depth<cLine/\Q (.bl (if neg then !PyData.eqv d e else PyData.eqv d e)) H
theorem PU:OpR X (compareOp .Eq) (CB X.K X.A false):=by
 intro pins s σ H x y v u Q I j F h;obtain⟨d,e,G,J,L,M,U,q⟩:=h;obtain⟨as,Y⟩:=G.reads I j;obtain⟨bs,q2⟩:=J.reads I F;exact SeqAt.compareEq_reads Y q2 L M U ⟨.bl _,H,I,rfl,q⟩
theorem XA:OpR X (compareOp .NotEq) (CB X.K X.A true):=by
 intro pins s σ H x y v u Q I j F h;obtain⟨d,e,G,J,L,M,U,q⟩:=h;obtain⟨as,Y⟩:=G.reads I j;obtain⟨bs,q2⟩:=J.reads I F;exact SeqAt.compareNe_reads Y q2 L M U ⟨.bl _,H,I,rfl,q⟩
mutual
theorem Yn:∀d:PyData,d.canLay0=true->PyData.eqv d d=true
 | .none,_=>by simp [PyData.eqv]
 | .bool _,_=>by simp [PyData.eqv]
 | .int _,_=>by simp [PyData.eqv]
 | .str _,_=>by simp [PyData.eqv]
 | .list xs,h=>by
  simp only [PyData.eqv];exact YR xs (by simpa [PyData.canLay0]using h)
 | .tuple xs,h=>by
  simp only [PyData.eqv];exact YR xs (by simpa [PyData.canLay0]using h)
 | .dict _,h=>by simp [PyData.canLay0]at h
theorem YR:∀ds:List PyData,PyData.canLayAll0 ds=true->PyData.eqvAll ds ds=true
 | [],_=>by simp [PyData.eqvAll]
 | d::ds,h=>by
  simp only [PyData.canLayAll0,fD]at h;simp only [PyData.eqvAll,fD];exact⟨Yn d h.1,YR ds h.2⟩
end
theorem LX(z:Str)(c:Nat):(!(Builtin.Str.occurrences z ⟨#[c]⟩ 0 z.length 1).isEmpty)=decide (c∈z.cps.toList):=PySem.StrLaws.found_one z c
theorem Yt:OpR X (compareOp .In) (λx y H Q=>∃c z,x=.str ⟨#[c]⟩/\y=.str z/\Q (.bl (decide (c∈z.cps.toList))) H):=by
 intro pins s σ H x y v u Q I j F h;obtain⟨c,z,e1,e2,q⟩:=h;exact Ng pins s σ H x y v u Q I j F ⟨_,_,e1,e2,by rw [LX];exact q⟩
structure Fn(P:Program)(w:World)(K:Fg)(mg:Str->Option Value)(base:Heap)(k:Nat)(x:Str)(ps:List Str)(sp:Sp):Prop where
 ex:∃(f:Addr)(fd:FuncData),FnOk P w K mg base CX0 k f fd ps sp/\Binds K fd ps []/\PySem.W.keepIn K (.ref f)=true/\mg x=some (.ref f)
theorem Qs{k:Nat}{p:Pos}{t:TA}(F:Fn X.prog X.w X.K X.mg X.base k x ps sp)(hr:Room k' X.A)(ha:PA X (e::es) t)(hk:k<=k':=by decide)(hg:Gl X x:=by rfl)
 (hdb:(x==("__debug__":Str))=false:=by decide) (he:starEach (e::es) X.env=(false,eval e X.env)::starEach es X.env:=by rfl) (hpl:(backTo pos (starEach es X.env)).any (·.1)=false:=by rfl):
 PE X (.Call (.Name x p) (e::es) [] pos) (XX sp [] E0 t):=by
 obtain⟨f,fd,h1,h2,j,G⟩:=F.ex;exact Su h1 (hr.mono hk) hg G j h2 .nil Mo ha hdb he hpl
theorem XF{c A B:Prop} [Decidable c] (hc:c) (h:A):if decide c=true then A else B:=by
 rw [aV hc];exact Q2 h
theorem Z9{c A B:Prop} [Decidable c] (hc:¬c) (h:B):if decide c=true then A else B:=by
 rw [bM hc];exact Q7 h
theorem Qe{p:Addr}(h:H p=Option.none)(o:HO):Same H (upd H p o):=λb u q=>by rw [Qi (Qg q h)];exact q
def S(l:List Nat):Str:=⟨l.toArray⟩
theorem Q3(l:List Nat):(S l).cps.toList=l:=by simp [S]
theorem Qo(l:List Nat):(S l).length=l.length:=by simp [S,Str.length]
theorem Xt(z:Str):S z.cps.toList=z:=by cases z;simp [S]
theorem XV{a b:List Nat}(h:S a=S b):a=b:=by
 have:=congrArg (λz:Str=>z.cps.toList) h
 simpa [Q3]using this
theorem QV(a b:List Nat):S a++S b=S (a++b):=by
 show Str.append (S a) (S b)=S (a++b);simp [Str.append,S]
def Da(t:TS):TS:=λD σ H=>∃R:St->Hp->Prop,t { D with nx:=R } σ H/\∀σ' H',R σ' H'->D.nx σ' H'
theorem Yf{st:Stmt}{t:TS}(h:PS X st t):PS X st (Da t):=by
 intro pins s σ H D I j;obtain⟨R,h1,h2⟩:=j;refine thn (h pins s σ H { D with nx:=R } I h1) λf J q=>?_;cases f with
 | next=>
  obtain⟨F,H',G,q⟩:=q;exact⟨F,H',G,h2 _ _ q⟩
 | brk=>exact q
 | cont=>exact q
 | ret v=>exact q
theorem JP:∀xs:List Str,PyData.depthAll (xs.map PyData.str)=0
 | []=>by simp [PyData.depthAll]
 | x::r=>by simp [PyData.depthAll,PyData.depth,JP r]
structure DefAt(K:Fg)(x:Str)(st:Stmt):Prop where
 ex:∃(f:Addr)(oc:Value)(od:Option Addr)(kV doc pm:Value)(an:Option Addr)(cdv ct:Value)(osl:Array (Option Value)),
  PySem.W.nsIn K mainGlobals x=some (some (.ref f))/\K.lookup f=some ⟨oc,od,.func (PySem.W.fnOf x x (defArgs st) (defBody st) (defScope st) .none kV doc pm an cdv ct),osl⟩/\PySem.W.codeIn K cdv x=true/\PySem.W.keepIn K (.ref f)=true
theorem DefAt.mk'{K:Fg}{st:Stmt}{kV:Value}
 (a:PySem.W.nsIn K mainGlobals x=some (some (.ref f))) (l:K.lookup f=some ⟨oc,od,.func (PySem.W.fnOf x x (defArgs st) (defBody st) (defScope st) .none kV doc pm an cdv ct),osl⟩) (c:PySem.W.codeIn K cdv x=true) (k:PySem.W.keepIn K (.ref f)=true):DefAt K x st:=
 ⟨f,oc,od,kV,doc,pm,an,cdv,ct,osl,a,l,c,k⟩
theorem DefAt.fn{P:Program}{w:World}{K:Fg}{mg:Str->Option Value}{base h:Heap}{k:Nat}{x:Str}{st:Stmt}{ps:List Str}{sp:Sp}(D:DefAt K x st)(X:K.In h)(G:h.Ns mainGlobals mg)
 (ok:∀(f:Addr)(fd:FuncData),Fun K x x st f fd->FnOk P w K mg base CX0 k f fd ps sp)
 (hb:∀(kV doc pm:Value)(an:Option Addr)(cdv ct:Value)(us:List Value),us.length=ps.length->bindArgs (PySem.W.fnOf x x (defArgs st) (defBody st) (defScope st) .none kV doc pm an cdv ct) ⟨us,[]⟩=pure (ps.zip us)):Fn P w K mg base k x ps sp:=by
 obtain⟨f,L,M,kV,doc,pm,an,cdv,ct,J,a,l,c,j⟩:=D.ex;have F:=ZK (st:=st) l c j;exact⟨f,_,ok f _ F,F.binds hb,j,bK X G a⟩
end L2
namespace L2
open PySem
theorem let1{b:TS}{D:Ends}(h:let B1:TS:=b;Qw a1 B1 D σ H):(Qw a1 (b)) D σ H:=h
theorem let2{b:TS}{D:Ends}(h:let B2:TS:=b;let B1:TS:=Qw a2 B2;Qw a1 B1 D σ H):(Qw a1 (Qw a2 (b))) D σ H:=h
theorem let3{b:TS}{D:Ends}(h:let B3:TS:=b;let B2:TS:=Qw a3 B3;let B1:TS:=Qw a2 B2;Qw a1 B1 D σ H):(Qw a1 (Qw a2 (Qw a3 (b)))) D σ H:=h
theorem let4{b:TS}{D:Ends}(h:let B4:TS:=b;let B3:TS:=Qw a4 B4;let B2:TS:=Qw a3 B3;let B1:TS:=Qw a2 B2;Qw a1 B1 D σ H):(Qw a1 (Qw a2 (Qw a3 (Qw a4 (b))))) D σ H:=h
theorem let5{b:TS}{D:Ends}(h:let B5:TS:=b;let B4:TS:=Qw a5 B5;let B3:TS:=Qw a4 B4;let B2:TS:=Qw a3 B3;let B1:TS:=Qw a2 B2;Qw a1 B1 D σ H):(Qw a1 (Qw a2 (Qw a3 (Qw a4 (Qw a5 (b)))))) D σ H:=h
theorem let6{b:TS}{D:Ends}(h:let B6:TS:=b;let B5:TS:=Qw a6 B6;let B4:TS:=Qw a5 B5;let B3:TS:=Qw a4 B4;let B2:TS:=Qw a3 B3;let B1:TS:=Qw a2 B2;Qw a1 B1 D σ H):(Qw a1 (Qw a2 (Qw a3 (Qw a4 (Qw a5 (Qw a6 (b))))))) D σ H:=h
theorem let7{b:TS}{D:Ends}(h:let B7:TS:=b;let B6:TS:=Qw a7 B7;let B5:TS:=Qw a6 B6;let B4:TS:=Qw a5 B5;let B3:TS:=Qw a4 B4;let B2:TS:=Qw a3 B3;let B1:TS:=Qw a2 B2;Qw a1 B1 D σ H):(Qw a1 (Qw a2 (Qw a3 (Qw a4 (Qw a5 (Qw a6 (Qw a7 (b)))))))) D σ H:=h
theorem let8{b:TS}{D:Ends}(h:let B8:TS:=b;let B7:TS:=Qw a8 B8;let B6:TS:=Qw a7 B7;let B5:TS:=Qw a6 B6;let B4:TS:=Qw a5 B5;let B3:TS:=Qw a4 B4;let B2:TS:=Qw a3 B3;let B1:TS:=Qw a2 B2;Qw a1 B1 D σ H):(Qw a1 (Qw a2 (Qw a3 (Qw a4 (Qw a5 (Qw a6 (Qw a7 (Qw a8 (b))))))))) D σ H:=h
theorem let19{a9 a10 a11 a12 a13 a14 a15 a16 a17 a18 a19 b:TS}{D:Ends}(h:let B19:TS:=b;let B18:TS:=Qw a19 B19;let B17:TS:=Qw a18 B18;let B16:TS:=Qw a17 B17;let B15:TS:=Qw a16 B16;let B14:TS:=Qw a15 B15;let B13:TS:=Qw a14 B14;let B12:TS:=Qw a13 B13;let B11:TS:=Qw a12 B12;let B10:TS:=Qw a11 B11;let B9:TS:=Qw a10 B10;let B8:TS:=Qw a9 B9;let B7:TS:=Qw a8 B8;let B6:TS:=Qw a7 B7;let B5:TS:=Qw a6 B6;let B4:TS:=Qw a5 B5;let B3:TS:=Qw a4 B4;let B2:TS:=Qw a3 B3;let B1:TS:=Qw a2 B2;Qw a1 B1 D σ H):(Qw a1 (Qw a2 (Qw a3 (Qw a4 (Qw a5 (Qw a6 (Qw a7 (Qw a8 (Qw a9 (Qw a10 (Qw a11 (Qw a12 (Qw a13 (Qw a14 (Qw a15 (Qw a16 (Qw a17 (Qw a18 (Qw a19 (b)))))))))))))))))))) D σ H:=h
end L2
namespace K3
def QK:List Nat:=[97,98,99,100,101,102,103,104,105,106,107,108,109,110,111,112,113,114,115,116,117,118,119,120,121,122]
def Zc:List Nat:=[48,49,50,51,52,53,54,55,56,57]
def VC:List Nat:=[40,41,59,58,61,124,42]
theorem Tt:∀c∈QK,c∉VC:=by decide
theorem Tu:∀c∈QK,c∉Zc:=by decide
theorem SF:∀c∈Zc,c∉VC:=by decide
theorem Vd:∀c∈Zc,c∉QK:=by decide
theorem Ba:∀c∈VC,c≠32/\c≠45:=by decide
theorem AQ:∀c∈QK,c≠32/\c≠45:=by decide
theorem Pl:∀c∈Zc,c≠32/\c≠45:=by decide
theorem n45:45∉VC/\45∉QK/\(45:Nat)≠32:=by decide
theorem n32:32∉QK/\32∉Zc:=by decide
structure Num(w:List Nat):Prop where
 ne:w≠[]
 len:w.length<=60
 all:∀c∈w,c∈Zc
 lead:w[0]?=some 48->w.length=1
inductive Word:List Nat->Prop where
 | sign {c:Nat}:c∈VC->Word [c]
 | name {w:List Nat}:w≠[]->w.length<=8->(∀c∈w,c∈QK)->Word w
 | num {w:List Nat}:Num w->Word w
 | neg {w:List Nat}:Num w->w≠[48]->Word (45::w)
def Sep(w rest:List Nat):Prop:=∀a b,w.getLast?=some a->rest[0]?=some b->¬(a∈QK/\b∈QK)/\¬(a∈Zc/\b∈Zc)
theorem Sep.nil(w:List Nat):Sep w []:=λa b _ h=>by simp at h
theorem Sep.blank(w r:List Nat):Sep w (32::r):=λa b _ h=>by
 have e:32=b:=by simpa using h
 subst e;exact⟨λq=>n32.1 q.2,λq=>n32.2 q.2⟩
theorem Word.ne{w:List Nat}(h:Word w):w≠[]:=by
 cases h with
 | sign _=>simp
 | name h _ _=>exact h
 | num h=>exact h.ne
 | neg _ _=>simp
theorem Word.len{w:List Nat}(h:Word w):w.length<=61:=by
 cases h with
 | sign _=>simp
 | name _ h _=>lia
 | num h=>have:=h.len;lia
 | neg h _=>have:=h.len;simp only [aJ];lia
theorem Word.head{w:List Nat}(h:Word w):∃c r,w=c::r/\c≠32:=by
 cases h with
 | @sign c h=>exact⟨c,[],rfl,(Ba c h).1⟩
 | name h _ a=>
  cases w with
  | nil=>exact absurd rfl h
  | cons c r=>exact⟨c,r,rfl,(AQ c (a c (22:))).1⟩
 | num h=>
  cases w with
  | nil=>exact absurd rfl h.ne
  | cons c r=>exact⟨c,r,rfl,(Pl c (h.all c (22:))).1⟩
 | @neg w h _=>exact⟨45,w,rfl,n45.2.2⟩
def run(L:List Nat)(t:List Nat):List Nat:=t.takeWhile λc=>decide (c∈L)
theorem Vk{w:List Nat}(h:∀c∈w,c∈L)(hr:∀b,rest[0]?=some b->b∉L):run L (w++rest)=w:=by
 unfold run
 induction w with
 | nil=>
  cases rest with
  | nil=>rfl
  | cons b r=>
   have:=hr b (22:);simp [this]
 | cons c w j=>
  have F:c∈L:=h c (22:);rw [dY,List.takeWhile_cons,aH (by simpa using F),j (λd G=>h d (by simp [G]))]
theorem Mh{w:List Nat}(h:w≠[]):∃a,w.getLast?=some a/\a∈w:=by
 refine⟨w.getLast h,hV h,List.getLast_mem h⟩
theorem Sep.let_of{w:List Nat}(s:Sep w rest)(h:w≠[])(a:∀c∈w,c∈QK):∀b,rest[0]?=some b->b∉QK:=λb j q=>by
 obtain⟨x,F,G⟩:=Mh h;exact(s x b F j).1 ⟨a x G,q⟩
theorem Sep.fig_of{w:List Nat}(s:Sep w rest)(h:w≠[])(a:∀c∈w,c∈Zc):∀b,rest[0]?=some b->b∉Zc:=λb j q=>by
 obtain⟨x,F,G⟩:=Mh h;exact(s x b F j).2 ⟨a x G,q⟩
theorem Sep.tail{w:List Nat}(s:Sep (c::w) rest)(h:w≠[]):Sep w rest:=λa b j F=>s a b (by
 cases w with
 | nil=>exact absurd rfl h
 | cons d w=>rw [List.getLast?_cons_cons];exact j) F
inductive Writ:List Nat->List (5:)->Prop where
 | nil:Writ [] []
 | blank {t ws}:Writ t ws->Writ (32::t) ws
 | word {w t ws}:Word w->Sep w t->Writ t ws->Writ (w++t) (w::ws)
theorem Writ.blanks{ws:List (5:)}(h:Writ t ws):∀k:Nat,Writ (List.replicate k 32++t) ws
 | 0=>h
 | k+1=>by rw [fA];exact .blank (Writ.blanks h k)
structure Built(written:List Nat)(due:List (5:)):Prop where
 go:∀rest ws,Writ rest ws->(∀w,due.getLast?=some w->Sep w rest)->Writ (written++rest) (due++ws)
theorem Built.start:Built [] []:=⟨λ_ _ h _=>h⟩
theorem Built.turn{due:List (5:)}(b:Built written due){w:List Nat}(hw:Word w)(k:Nat)
 (h:k=0->∀l,due.getLast?=some l->Sep l w):Built (written++List.replicate k 32++w) (due++[w]):=⟨λrest j J L=>by
 have M:Sep w rest:=L w (22:);have h1:Writ (List.replicate k 32++(w++rest)) (w::j):=(Writ.word hw M J).blanks k;have h2:=b.go (List.replicate k 32++(w++rest)) (w::j) h1 (λl hl=>by
  cases k with
  | zero=>
   obtain⟨c,r,e,_⟩:=hw.head;intro x y U F;rw [e]at F;have G:w[0]?=some y:=by rw [e];simpa using F
   exact h rfl l hl x y U G
  | succ k=>rw [fA];exact Sep.blank _ _)
 simpa [bO]using h2⟩
theorem Built.all{due:List (5:)}(b:Built written due)(k:Nat):Writ (written++List.replicate k 32) due:=by
 have h:=b.go (List.replicate k 32) [] (by simpa using(Writ.nil).blanks k) (λl _=>by
  cases k with
  | zero=>exact Sep.nil _
  | succ k=>rw [fA];exact Sep.blank _ _)
 simpa using h
def D(n:Nat):List Nat:=(Nat.toDigits 10 n).map Char.toNat
theorem dig(d:Nat)(h:d<10):(Nat.digitChar d).toNat=48+d:=by
 have:∀d:Nat,d<10->(Nat.digitChar d).toNat=48+d:=by decide
 exact this d h
theorem fig_of(d:Nat)(h:d<10):48+d∈Zc:=by
 have:∀d:Nat,d<10->48+d∈Zc:=by decide
 exact this d h
theorem W8(h:n<10):D n=[48+n]:=by
 unfold D;rw [Nat.toDigits_of_lt_base h];simp [dig n h]
theorem AF(h:¬n<10):D n=D (n/10)++[48+n%10]:=by
 have j:n%10<10:=eI n (9:);have t:Nat.toDigits 10 (n/10)++Nat.toDigits 10 (n%10)=Nat.toDigits 10 (10*(n/10)+n%10):=Nat.toDigits_append_toDigits (9:) (10:) j;rw [Nat.div_add_mod]at t;unfold D;rw [<-t,aS,Nat.toDigits_of_lt_base j];simp [dig _ j]
theorem Z5:∀(k n:Nat),n<10^(k+1)->D n≠[]/\(D n).length<=k+1/\(∀c∈D n,c∈Zc)/\(n≠0->(D n)[0]?≠some 48)
 | 0,n,h=>by
  have h':n<10:=by simpa using h
  rw [W8 h'];refine⟨by simp,by simp,λc F=>?_,λhn=>?_⟩
  .have:c=48+n:=by simpa using F
   rw [this];exact fig_of n h'
  .simp;exact hn
 | k+1,n,h=>by
  by_cases j:n<10
  .rw [W8 j];refine⟨by simp,by simp,λc F=>?_,λhn=>?_⟩
   .have:c=48+n:=by simpa using F
    rw [this];exact fig_of n j
   .simp;exact hn
  .have G:n/10<10^(k+1):=by
    have:n<10*10^(k+1):=by rw [Nat.pow_succ]at h;lia
    lia
   obtain⟨a,b,c,d⟩:=Z5 k (n/10) G;rw [AF j];refine⟨by simp,by simp;lia,λx J=>?_,λ_=>?_⟩
   .rcases aW.mp J with q | q
    .exact c x q
    .have:x=48+n%10:=by simpa using q
     rw [this];exact fig_of _ (eI n (9:))
   .have e:(D (n/10)++[48+n%10])[0]?=(D (n/10))[0]?:=by
     cases q:D (n/10)with
     | nil=>exact absurd q a
     | cons x r=>simp
    rw [e];exact d (10:)
theorem Ax(h:n<10^60):Num (D n):=by
 obtain⟨a,b,c,d⟩:=Z5 59 n h;refine⟨a,b,c,λq=>?_⟩
 by_cases hn:n=0
 .subst hn;rw [W8 (9:)];rfl
 .exact absurd q (d hn)
theorem Du(h:n<10^60)(hn:n≠0):D n≠[48]:=λq=>by
 obtain⟨a,b,c,d⟩:=Z5 59 n h;exact d hn (by rw [q];rfl)
theorem Pg{k e:Nat}(hk:k<=e)(he:L[e]?=some c):(L.drop k).take (e+1-k)=(L.drop k).take (e-k)++[c]:=by
 have h1:e+1-k=(e-k)+1:=by lia
 rw [h1,bE,List.getElem?_drop,show k+(e-k)=e by lia,he]
 rfl
theorem Pk{sg:List Nat}{k e:Nat}(hk:k<=e)(hall:∀c∈(L.drop k).take (e-k),c∈sg)(hstop:∀c,L[e]?=some c->c∉sg):run sg (L.drop k)=(L.drop k).take (e-k):=by
 have h:=Vk (L:=sg) (w:=(L.drop k).take (e-k)) (rest:=(L.drop k).drop (e-k)) hall (λb j=>by
  rw [List.drop_drop,show k+(e-k)=e by lia]at j;exact hstop b (by simpa [List.getElem?_drop]using j))
 rw [fK]at h;exact h
theorem Writ.len{ws:List (5:)}(h:Writ t ws):ws.length<=t.length:=by
 induction h with
 | nil=>simp
 | blank _ j=>simp only [aJ];lia
 | word F _ _ j=>
  have:0<(_:List Nat).length:=gR.mpr F.ne;simp only [aJ,aI];lia
theorem Writ.words{ws:List (5:)}(h:Writ t ws):∀w∈ws,Word w:=by
 induction h with
 | nil=>intro w j;cases j
 | blank _ F=>exact F
 | word j _ _ F=>
  intro w h;rcases aQ.mp h with q | q
  .rw [q];exact j
  .exact F w q
theorem Writ.step{ws:List (5:)}(h:Writ t ws)(ht:t≠[]):
 (∃r,t=32::r/\Writ r ws)\/∃w r vs,t=w++r/\ws=w::vs/\Word w/\Sep w r/\Writ r vs:=by
 cases h with
 | nil=>exact absurd rfl ht
 | blank h=>exact .inl ⟨_,rfl,h⟩
 | word a b c=>exact .inr ⟨_,_,_,rfl,rfl,a,b,c⟩
theorem NT(h:n<10^61):n.log2<1920:=by
 by_cases j:n=0
 .subst j;decide
 .have h1:10^61<=2^203:=by decide
  have h2:2^203<=2^1920:=gP (9:) (9:);exact(Nat.log2_lt j).mpr (bU h (bL h1 h2))
end K3
namespace K12
open PySem L2 K3
def top(i:Nat):Stmt:=PySem.Challenge.pw_turnery_k12_turnings_read_and_shown.main.body.getD i (.Pass ⟨0,0,0,0⟩)
abbrev Lx:Stmt:=top 11
abbrev Vp:Stmt:=top 12
abbrev WP:Stmt:=top 13
abbrev La:Stmt:=top 14
abbrev JW:Stmt:=top 15
abbrev BB:Stmt:=top 16
abbrev ZN:Stmt:=top 18
abbrev Vy:Stmt:=top 19
abbrev Wz:Stmt:=top 21
abbrev VZ:Stmt:=top 22
abbrev Xj:Stmt:=top 23
abbrev Xr:Stmt:=top 24
abbrev XG:Stmt:=top 25
abbrev G8:Stmt:=top 26
abbrev G4:Stmt:=top 28
abbrev GV:Stmt:=top 29
abbrev LI:Stmt:=top 31
abbrev Pa:Stmt:=top 32
abbrev VB:Stmt:=top 33
abbrev LC:Stmt:=top 34
abbrev Lv:Stmt:=top 36
abbrev WF:Stmt:=top 37
abbrev VO:Stmt:=top 38
abbrev LH:Stmt:=top 39
abbrev RI:Stmt:=top 44
abbrev LU:Stmt:=top 45
abbrev Uw:Stmt:=top 46
abbrev RZ:Stmt:=top 47
abbrev LM:Stmt:=top 48
abbrev LJ:Stmt:=top 49
abbrev Oi:Stmt:=top 50
abbrev Pp:Stmt:=top 51
abbrev L6:Stmt:=top 52
abbrev LR:Stmt:=top 53
abbrev UJ:Stmt:=top 54
abbrev WL:Stmt:=top 55
abbrev OU:Stmt:=top 57
abbrev Lc:Stmt:=top 58
abbrev MB:Stmt:=top 59
abbrev Ms:Stmt:=top 60
abbrev Rc:Stmt:=top 61
abbrev YY:Stmt:=top 62
abbrev WW:Stmt:=top 63
abbrev U9:Stmt:=top 64
abbrev Xv:Stmt:=top 65
abbrev G0:Stmt:=top 66
abbrev Lq:Stmt:=top 67
abbrev AI:Stmt:=top 68
abbrev Rh:Stmt:=top 69
abbrev V1:Stmt:=top 70
abbrev ZU:Str:=Str.ofString "abcdefghijklmnopqrstuvwxyz"
abbrev L4:Str:=Str.ofString "0123456789"
abbrev O8:Str:=Str.ofString "();:=|*"
theorem U6:ZU=S QK:=by decide+kernel
theorem GM:L4=S Zc:=by decide+kernel
theorem Be:O8=S VC:=by decide+kernel
theorem U2:ZU.cps.toList=QK:=by rw [U6,Q3]
theorem TX:L4.cps.toList=Zc:=by rw [GM,Q3]
theorem S2:O8.cps.toList=VC:=by rw [Be,Q3]
theorem YX:Str.ofString "-"=S [45]:=by decide+kernel
theorem VX:Str.ofString " "=S [32]:=by decide+kernel
theorem WD:Str.ofString "0"=S [48]:=by decide+kernel
theorem Yg:Str.ofString ""=S []:=by decide+kernel
theorem Wn:sizeLine=16777216:=by decide
structure Gm(mg:Str->Option Value):Prop where
 len:mg "len"=none
 isi:mg "isinstance"=none
 str:mg "str"=none
 lst:mg "list"=none
 rng:mg "range"=none
 tup:mg "tuple"=none
 int:mg "int"=none
 sum:mg "sum"=none
 lets:∃t,mg "LETTERS"=some (.str ZU t)
 figs:∃t,mg "FIGURES"=some (.str L4 t)
 sgns:∃t,mg "SIGNS"=some (.str O8 t)
 ml:∃t,mg "MOST_LETTERS"=some (.int 8 t)
 mf:∃t,mg "MOST_FIGURES"=some (.int 60 t)
def MQ:Sp:=λvs H Q _=>∃(z:List Nat)(k:Nat)(sg:List Nat),vs=[.str (S z),.int k,.str (S sg)]/\z.length<=5000/\k<=z.length/\Q (.str (S (run sg (z.drop k)))) H
def Ml:Sp:=λvs H Q _=>∃(z:List Nat)(k:Nat),vs=[.str (S z),.int k]/\z.length<=5000/\k<=z.length/\Num (run Zc (z.drop k))/\Q (.str (S (run Zc (z.drop k)))) H
def Vx:Sp:=λvs H Q _=>∃(z:List Nat)(k:Nat),vs=[.str (S z),.int k]/\z.length<=5000/\k<=z.length/\Num (run Zc (z.drop k))/\run Zc (z.drop k)≠[48]/\Q (.str (S (run Zc (z.drop k)))) H
def Xo:Sp:=λvs H Q _=>∃(z:List Nat)(k:Nat),vs=[.str (S z),.int k]/\z.length<=5000/\k<=z.length/\(run QK (z.drop k)).length<=8/\Q (.str (S (run QK (z.drop k)))) H
def Xd:Sp:=λvs H Q _=>∃(z:List Nat)(k:Nat)(w r:List Nat),vs=[.str (S z),.int k]/\z.length<=5000/\z.drop k=w++r/\Word w/\Sep w r/\Q (.str (S w)) H
def W(ws:List (5:)):List V:=ws.map λw=>V.str (S w)
def JI:Sp:=λvs H Q _=>∃(z:List Nat)(ws:List (5:)),vs=[.str (S z)]/\z.length<=5000/\Writ z ws/\∀(l:Addr)(H':Hp),Same H H'->H' l=some (.lst (W ws))->H l=none->Q (.ref l) H'
theorem QA(h:n<=5000):n<=sizeLine:=by rw [Wn];lia
theorem atS{k:Nat}(h:z[k]?=some c):atI (S z).cps.toList (k:Int)=some c:=by
 rw [Q3];exact QL h
theorem Yb(c:Nat):(⟨#[c]⟩:Str)=S [c]:=rfl
theorem Uk{a b:List Nat}(h:a≠b):¬V.str (S a)=V.str (S b):=λq=>h (XV (by injection q))
section
variable{K:Fg}{fd:FuncData}
theorem OP:FnScope ["text","start","signs","end"] ["text","start","signs"] (defScope BB):=(0:)
theorem SR(z:List Nat){k e:Nat}(hk:k<=e)(he:e<=z.length):Jr (S z) (some (k:Int)) (some (e:Int))=S ((z.drop k).take (e-k)):=by
 unfold Jr;rw [HT.sIx_nat,HT.sIx_nat,Q3,Qo,d_ he,d_ (bL hk he)]
 rfl
theorem AS(F:Fun K "run_at" "run_at" BB f fd)(G:Gm mg):FnOk P w K mg base CX0 1 f fd ["text","start","signs"] MQ:=by
 refine F.ok OP (14:) (λab A aa s H vs Q E hr h=>?_)
 .obtain⟨z,k,j,rfl,_⟩:=h
  rfl
 obtain⟨z,k,j,rfl,hz,hk,q⟩:=h;have L:(S z).length<=sizeLine:=by rw [Qo];exact QA hz
 refine⟨_,Qd (Qm (i:=3) OP.nd rfl (7:) (pv 1))
  (Qd (YS bS (PW.pt (pw_and (Qu Jk (pv 3) (Qv Zb rfl G.len bJ (Qa (pv 0) Qc)) (QB _))
   (pw_and1 (Qu Yt (Qk ZG (pv 0) (pv 3) (λ_ _=>rfl)) (pv 2) (by with_unfolding_all rfl)))))
   (Qh (GP (i:=3) OP.nd rfl (7:) Qf Le)))
  (Qh (Qn (Zo WB (pv 0) (Za (pv 1)) (Za (pv 3)))))),?_⟩
 refine⟨_,rfl,?_⟩;have fin:∀e:Nat,k<=e->e<=z.length->(∀c∈(z.drop k).take (e-k),c∈j)->(∀c,z[e]?=some c->c∉j)->Q (.str (Jr (S z) (some (k:Int)) (some (e:Int)))) H:=λe h1 h2 M h4=>by
  rw [SR z h1 h2,<-Pk h1 M h4];exact q
 refine⟨λm σ H'=>∃e:Nat,σ=[some (.str (S z)),some (.int (k:Int)),some (.str (S j)),some (.int (e:Int))]/\H'=H/\k<=e/\e<=z.length/\(∀c∈(z.drop k).take (e-k),c∈j)/\m=z.length-e,⟨_,k,rfl,rfl,bX _,hk,(by intro c hc;simp at hc),rfl⟩,?_⟩;rintro m σ H' ⟨e,rfl,rfl,h1,h2,M,rfl⟩;refine⟨_,rfl,_,rfl,_,rfl,L,_,_,rfl,rfl,_,rfl,?_⟩;refine Ui (λc=>?_) (λc=>?_)
 .have c':(e:Int)<(((S z).length:Nat):Int):=b_ c;rw [Qo]at c';have he:e<z.length:=by lia
  have U:z[e]?=some z[e]:=aE he;refine⟨_,rfl,_,rfl,_,_,_,rfl,rfl,L,atS U,_,rfl,_,_,rfl,rfl,_,rfl,?_⟩;refine Ui (λd=>?_) (λd=>?_)
  .have Y:z[e]∈(S j).cps.toList:=b_ d;rw [Q3]at Y;refine⟨_,λad ac q'=>q',_,rfl,_,_,rfl,rfl,?_⟩;refine⟨z.length-(e+1),by lia,e+1,rfl,rfl,by lia,by lia,?_,rfl⟩;rw [Pg h1 U];intro x J;rcases aW.mp J with y | y
   .exact M x y
   .have:x=z[e]:=by simpa using y
    rw [this];exact Y
  .have Y:¬z[e]∈(S j).cps.toList:=of_decide_eq_false (Bool.eq_false_iff.mpr d);rw [Q3]at Y;refine⟨_,rfl,_,rfl,_,rfl,_,rfl,_,rfl,_,rfl,L,?_⟩;exact fin e h1 h2 M (λx J=>by rw [U]at J;cases J;exact Y)
 .have c':¬(e:Int)<(((S z).length:Nat):Int):=of_decide_eq_false (Bool.eq_false_iff.mpr c);rw [Qo]at c';refine⟨_,rfl,_,rfl,_,rfl,_,rfl,_,rfl,_,rfl,L,?_⟩;exact fin e h1 h2 M (λx J=>by rw [eZ (10:)]at J;cases J)
theorem Av:FnScope ["text","start","figures"] ["text","start"] (defScope JW):=(0:)
theorem BI(F:Fun K "figures_at" "figures_at" JW f fd)(G:Gm mg)(R:Fn P w K mg base 1 "run_at" ["text","start","signs"] MQ):FnOk P w K mg base CX0 2 f fd ["text","start"] Ml:=by
 obtain⟨tf,U⟩:=G.figs;obtain⟨tm,Y⟩:=G.mf;refine F.ok Av (14:) (λaa A M s H vs Q E hr h=>?_)
 .obtain⟨z,k,rfl,_⟩:=h
  rfl
 obtain⟨z,k,rfl,hz,hk,hn,q⟩:=h;refine⟨_,Qd (Qm (i:=2) Av.nd rfl (7:) (Qs R hr (Qa (pv 0) (Qa (pv 1) (Qa (Zf (v:=.str L4) rfl U ⟨_,rfl⟩) Qc)))))
  (Qd (QC (Qu Zw (pv 2) Qj (QB _)) QJ Qt)
  (Qd (QC (Qu XE (Qv Zb rfl G.len bJ (Qa (pv 2) Qc)) (Zf (v:=.int 60) rfl Y ⟨_,rfl⟩) (QB _)) QJ Qt)
  (Qd (QC (PW.pt (pw_and (Qu Zw (Qk ZG (pv 2) Qf (λ_ _=>rfl)) Qj (QB _)) (pw_and1 (Qu XE (Qv Zb rfl G.len bJ (Qa (pv 2) Qc)) Qf (QB _))))) QJ Qt)
  (Qh (Qn (pv 2)))))),?_⟩
 refine⟨_,rfl,_,rfl,z,k,Zc,by rw [<-GM];rfl,hz,hk,?_⟩;have j:(S (run Zc (z.drop k))).length<=sizeLine:=by rw [Qo];exact QA (bL hn.len (10:))
 obtain⟨c,r,hc⟩: ∃c r,run Zc (z.drop k)=c::r:=by
  cases e:run Zc (z.drop k)with
  | nil=>exact absurd e hn.ne
  | cons c r=>exact⟨c,r,rfl⟩
 have L:(run Zc (z.drop k))[0]?=some c:=by rw [hc];rfl
 refine⟨_,rfl,rfl,_,rfl,Z9 (by rw [Yg];exact Uk hn.ne) ?_⟩;refine⟨_,rfl,_,rfl,j,_,_,rfl,rfl,_,rfl,Z9 (by rw [Qo];have:=hn.len;lia) ?_⟩;refine⟨_,rfl,_,0,c,rfl,rfl,j,atS L,rfl,_,rfl,?_⟩
 by_cases J:c=48
 .have hl:(run Zc (z.drop k)).length=1:=hn.lead (by rw [L,J]);refine XF (by rw [J,Yb,WD]) ⟨_,rfl,_,rfl,j,_,_,rfl,rfl,_,rfl,Z9 (by rw [Qo,hl];decide) ?_⟩;exact⟨_,rfl,q⟩
 .refine Z9 (by rw [Yb,WD];exact Uk (by simpa using J)) (Q7 ?_);exact⟨_,rfl,q⟩
theorem Mq:FnScope ["text","start","figures"] ["text","start"] (defScope La):=(0:)
theorem Og(F:Fun K "below_zero_at" "below_zero_at" La f fd)(R:Fn P w K mg base 2 "figures_at" ["text","start"] Ml):FnOk P w K mg base CX0 3 f fd ["text","start"] Vx:=by
 refine F.ok Mq (λJ H Q E h=>?_) (λU A G s H J Q E L h=>?_)
 .obtain⟨z,k,rfl,_⟩:=h
  rfl
 obtain⟨z,k,rfl,hz,M,hn,j,q⟩:=h;refine⟨_,Qd (Qm (i:=2) Mq.nd rfl (7:) (Qs R L (Qa (pv 0) (Qa (pv 1) Qc))))
  (Qd (QC (Qu Zw (pv 2) Qj (QB _)) QJ Qt)
  (Qh (Qn (pv 2)))),?_⟩
 refine⟨_,rfl,_,rfl,z,k,rfl,hz,M,hn,?_⟩;refine⟨_,rfl,rfl,_,rfl,Z9 (by rw [WD];exact Uk j) ?_⟩;exact⟨_,rfl,q⟩
theorem Gq:FnScope ["text","start","name"] ["text","start"] (defScope WP):=(0:)
theorem N8(F:Fun K "name_at" "name_at" WP f fd)(G:Gm mg)(R:Fn P w K mg base 1 "run_at" ["text","start","signs"] MQ):FnOk P w K mg base CX0 2 f fd ["text","start"] Xo:=by
 obtain⟨tf,L⟩:=G.lets;obtain⟨tm,M⟩:=G.ml;refine F.ok Gq (λU H Q E h=>?_) (λaa A J s H U Q E Y h=>?_)
 .obtain⟨z,k,rfl,_⟩:=h
  rfl
 obtain⟨z,k,rfl,hz,hk,hn,q⟩:=h;refine⟨_,Qd (Qm (i:=2) Gq.nd rfl (7:) (Qs R Y (Qa (pv 0) (Qa (pv 1) (Qa (Zf (v:=.str ZU) rfl L ⟨_,rfl⟩) Qc)))))
  (Qd (QC (Qu XE (Qv Zb rfl G.len bJ (Qa (pv 2) Qc)) (Zf (v:=.int 8) rfl M ⟨_,rfl⟩) (QB _)) QJ Qt)
  (Qh (Qn (pv 2)))),?_⟩
 refine⟨_,rfl,_,rfl,z,k,QK,by rw [<-U6];rfl,hz,hk,?_⟩;have j:(S (run QK (z.drop k))).length<=sizeLine:=by rw [Qo];exact QA (10:)
 refine⟨_,rfl,_,rfl,j,_,_,rfl,rfl,_,rfl,Z9 (by rw [Qo];lia) ?_⟩;exact⟨_,rfl,q⟩
theorem V8:FnScope ["text","start","first"] ["text","start"] (defScope Vp):=(0:)
theorem SK{k:Nat}{r:List Nat}(h:z.drop k=c::r):z[k]?=some c/\k<z.length/\z.drop (k+1)=r:=by
 have h1:z[k]?=some c:=by
  have:(z.drop k)[0]?=some c:=by rw [h];rfl
  simpa [List.getElem?_drop]using this
 refine⟨h1,(bT.mp h1).1,?_⟩;rw [<-List.tail_drop,h];rfl
theorem NS(F:Fun K "word_at" "word_at" Vp f fd)(G:Gm mg)(RN:Fn P w K mg base 2 "name_at" ["text","start"] Xo)(RF:Fn P w K mg base 2 "figures_at" ["text","start"] Ml)
 (RB:Fn P w K mg base 3 "below_zero_at" ["text","start"] Vx):FnOk P w K mg base CX0 4 f fd ["text","start"] Xd:=by
 obtain⟨ts,hs⟩:=G.sgns;obtain⟨tl,hl⟩:=G.lets;obtain⟨tf,hf⟩:=G.figs;refine F.ok V8 (14:) (λaj A ai s H vs Q E hr h=>?_)
 .obtain⟨z,k,u,r,rfl,_⟩:=h
  rfl
 obtain⟨z,k,u,r,rfl,hz,hd,hw,J,q⟩:=h;have aa:(S z).length<=sizeLine:=by rw [Qo];exact QA hz
 refine⟨_,Qd (Qm (i:=2) V8.nd rfl (7:) (Qk ZG (pv 0) (pv 1) (λ_ _=>rfl)))
  (Qd (QC (Qu Yt (pv 2) (Zf (v:=.str O8) rfl hs ⟨_,rfl⟩) (by with_unfolding_all rfl)) (Qh (Qn (pv 2))) Qt)
  (Qd (QC (Qu Yt (pv 2) (Zf (v:=.str ZU) rfl hl ⟨_,rfl⟩) (by with_unfolding_all rfl)) (Qh (Qn (Qs RN hr (Qa (pv 0) (Qa (pv 1) Qc))))) Qt)
  (Qd (QC (Qu Zw (pv 2) Qj (QB _)) (Qh (Qn (Ql Qq Qj (Qs RB hr (Qa (pv 0) (Qa (Ql Zx (pv 1) Qf) Qc)))))) Qt)
  (Qd (QC (Qu Yt (pv 2) (Zf (v:=.str L4) rfl hf ⟨_,rfl⟩) (by with_unfolding_all rfl)) (Qh (Qn (Qs RF hr (Qa (pv 0) (Qa (pv 1) Qc))))) Qt)
  QJ)))),?_⟩
 obtain⟨c,u',U,_⟩:=hw.head;have ab:z.drop k=c::(u'++r):=by rw [hd,U];rfl
 obtain⟨ac,Y,ad⟩:=SK ab;refine⟨_,rfl,_,rfl,_,_,_,rfl,rfl,aa,atS ac,?_⟩;refine⟨_,rfl,_,_,rfl,rfl,_,rfl,?_⟩;rw [S2];cases hw with
 | @sign d ae=>
  have e:d=c:=by injection U
  subst e;exact XF ae ⟨_,rfl,q⟩
 | name af h8 L=>
  have M:c∈QK:=L c (by rw [U];simp);have j:run QK (z.drop k)=u:=by rw [hd];exact Vk L (J.let_of af L)
  refine Z9 (Tt c M) ⟨_,rfl,_,_,rfl,rfl,_,rfl,?_⟩;rw [U2];refine XF M ⟨_,rfl,_,rfl,z,k,rfl,hz,cD Y,by rw [j];exact h8,?_⟩;rw [j];exact q
 | num hn=>
  have M:c∈Zc:=hn.all c (by rw [U];simp);have j:run Zc (z.drop k)=u:=by rw [hd];exact Vk hn.all (J.fig_of hn.ne hn.all)
  refine Z9 (SF c M) ⟨_,rfl,_,_,rfl,rfl,_,rfl,?_⟩;rw [U2];refine Z9 (Vd c M) ⟨_,rfl,rfl,_,rfl,Z9 (by rw [Yb,YX];exact Uk (by simpa using(Pl c M).2)) ⟨_,rfl,_,_,rfl,rfl,_,rfl,?_⟩⟩;rw [TX];refine XF M ⟨_,rfl,_,rfl,z,k,rfl,hz,cD Y,by rw [j];exact hn,?_⟩;rw [j];exact q
 | @neg v hn ag=>
  have e:45=c/\v=u':=by injection U with h1 h2;exact⟨h1,h2⟩
  obtain⟨e1,e2⟩:=e;subst e1;subst e2;have j:run Zc (z.drop (k+1))=v:=by rw [ad];exact Vk hn.all ((J.tail hn.ne).fig_of hn.ne hn.all)
  refine Z9 n45.1 ⟨_,rfl,_,_,rfl,rfl,_,rfl,?_⟩;rw [U2];refine Z9 n45.2.1 ⟨_,rfl,rfl,_,rfl,XF (by rw [Yb,YX]) ?_⟩;refine⟨_,rfl,_,rfl,_,_,rfl,rfl,z,k+1,rfl,hz,Y,by rw [j];exact hn,by rw [j];exact ag,?_⟩;rw [j];refine⟨_,_,rfl,rfl,?_,?_⟩
  .rw [YX,Qo,Qo];have:=hn.len;exact QA (by simp;lia)
  .rw [YX,QV];exact q
end
section
variable{K:Fg}{fd:FuncData}
theorem YZ:FnScope ["text","told","start","word"] ["text"] (defScope Lx):=(0:)
theorem Cl(a b:List (5:)):W (a++b)=W a++W b:=by simp [W]
theorem An(a:List (5:)):(W a).length=a.length:=by simp [W]
theorem Sd(F:Fun K "words" "words" Lx f fd)(G:Gm mg)(R:Fn P w K mg base 4 "word_at" ["text","start"] Xd):FnOk P w K mg base CX0 5 f fd ["text"] JI:=by
 refine F.ok YZ (14:) (λap A ao s H vs Q E hr h=>?_)
 .obtain⟨z,ws,rfl,_⟩:=h
  rfl
 obtain⟨z,ws,rfl,hz,hW,q⟩:=h;have ac:(S z).length<=sizeLine:=by rw [Qo];exact QA hz
 refine⟨_,Qd (QC (Ya (Q8 (Qv Gk rfl G.isi iO (Qa (pv 0) (Qa (Vu (v:=.ty "str") rfl G.str e_ rfl) Qc))))) QJ Qt)
  (Qd (Qm (i:=1) YZ.nd rfl (7:) (Q0 Qc))
  (Qd (Qm (i:=2) YZ.nd rfl (7:) Qf)
  (Qd (YS bS (Qu Jk (pv 2) (Qv Zb rfl G.len bJ (Qa (pv 0) Qc)) (QB _))
   (Qh (QC (Qu Zw (Qk ZG (pv 0) (pv 2) (λ_ _=>rfl)) Qj (QB _))
    (Qh (GP (i:=2) YZ.nd rfl (7:) Qf Le))
    (Qd (Qm (i:=3) YZ.nd rfl (7:) (Qs R hr (Qa (pv 0) (Qa (pv 2) Qc))))
    (Qd (QS (Zi bY cE cF QM (pv 1) (Qa (pv 3) Qc)))
    (Qh (GP (i:=2) YZ.nd rfl (7:) (Qv Zb rfl G.len bJ (Qa (pv 3) Qc)) Le)))))))
  (Qh (Qn (pv 1)))))),?_⟩
 refine⟨_,rfl,_,"str",_,true,rfl,.str _,rfl,_,rfl,Q7 ?_⟩;refine⟨(20:),λl hl=>?_⟩;have aq:=hW.len;refine⟨λm σ H'=>∃(k:Nat)(j rest:List (5:))(wd:Option V),σ=[some (.str (S z)),some (.ref l),some (.int (k:Int)),wd]/\Same H H'/\H' l=some (.lst (W j))/\j++rest=ws/\Writ (z.drop k) rest/\k<=z.length/\m=z.length-k,⟨_,0,[],ws,none,rfl,Qe hl _,Qb,rfl,hW,bZ _,rfl⟩,?_⟩;rintro m σ H' ⟨k,j,rest,wd,rfl,J,U,L,Y,hk,rfl⟩;refine⟨_,rfl,_,rfl,_,rfl,ac,_,_,rfl,rfl,_,rfl,?_⟩;refine Ui (λc=>?_) (λc=>?_)
 .have c':(k:Int)<(((S z).length:Nat):Int):=b_ c;rw [Qo]at c';have ad:k<z.length:=by lia
  have aj:z[k]?=some z[k]:=aE ad;have aa:z.drop k=z[k]::z.drop (k+1):=List.drop_eq_getElem_cons ad;refine⟨_,λaw ar q'=>q',?_⟩;refine⟨_,rfl,_,rfl,_,_,_,rfl,rfl,ac,atS aj,rfl,_,rfl,?_⟩;rcases Y.step (by rw [aa];exact List.cons_ne_nil _ _)with⟨r,M,ab⟩ | ⟨u,r,vs,M,ev,hu,af,ab⟩
  .have ae:z[k]=32/\z.drop (k+1)=r:=by rw [aa]at M;injection M with h1 h2;exact⟨h1,h2⟩
   refine XF (by rw [ae.1,Yb,VX]) ⟨_,rfl,_,_,rfl,rfl,?_⟩;exact⟨z.length-(k+1),by lia,k+1,j,rest,wd,rfl,J,U,L,by rw [ae.2];exact ab,by lia,rfl⟩
  .obtain⟨c0,u',ak,al⟩:=hu.head;have ec:z[k]=c0:=by
    rw [aa,ak]at M;injection M
   have as:0<u.length:=gR.mpr hu.ne;have au:z.length-k=u.length+r.length:=by
    have:=congrArg List.length M;rw [dC,aI]at this;exact this
   refine Z9 (by rw [ec,Yb,VX];exact Uk (by simpa using al)) ?_;refine⟨_,rfl,_,rfl,z,k,u,r,rfl,hz,M,hu,af,?_⟩;have av:j.length<5000:=by
    have h1:(j++rest).length=ws.length:=by rw [L]
    rw [aI,ev,aJ]at h1;lia
   refine⟨_,rfl,.inl ⟨rfl,_,SqL.of U⟩,_,rfl,l,_,_,rfl,rfl,U,by rw [An,Wn];lia,?_⟩;have ag:(S u).length<=sizeLine:=by rw [Qo];exact QA (bL hu.len (10:))
   refine⟨_,rfl,_,rfl,_,rfl,ag,_,_,rfl,rfl,?_⟩;refine⟨z.length-(k+u.length),by lia,k+u.length,j++[u],vs,some (.str (S u)),?_,?_,?_,?_,?_,by lia,rfl⟩
   .rw [Qo];rfl
   .intro b o hb;have am:b≠l:=Qg hb hl;rw [Qi am];exact J b o hb
   .rw [Qb,Cl];rfl
   .rw [<-L,ev,bO];rfl
   .rw [<-List.drop_drop,M,List.drop_left];exact ab
 .have c':¬(k:Int)<(((S z).length:Nat):Int):=of_decide_eq_false (Bool.eq_false_iff.mpr c);rw [Qo]at c';have ai:z.drop k=[]:=List.drop_eq_nil_of_le (10:);rw [ai]at Y;have an:rest=[]:=by
   have:=Y.len;exact fX.mp (by simpa using this)
  rw [an,cC]at L;refine⟨_,rfl,q l H' J (by rw [<-L];exact U) hl⟩
end
end K12
namespace L2
open PySem PySem.Spec PyProof.Rows
section
variable{κ:Type} [DecidableEq κ]
def YD(kvs:List (κ×V))(k:κ):Option V:=(kvs.find? λkv=>decide (kv.1=k)).map (·.2)
def A7(kvs:List (κ×V))(k:κ)(v:V):List (κ×V):=
 if(kvs.any λkv=>decide (kv.1=k))=true then kvs.map (λkv=>if kv.1=k then(kv.1,v)else kv)else kvs++[(k,v)]
theorem Xm{p:κ×V}{r:List (κ×V)}{k:κ}(e:p.1=k):YD (p::r) k=some p.2:=by simp [YD,cI,e]
theorem JR{p:κ×V}{r:List (κ×V)}{k:κ}(e:¬p.1=k):YD (p::r) k=YD r k:=by simp [YD,cI,e]
theorem RelO.isSome_eq{o:Option V}{u:Option Value}(r:RelO o u):o.isSome=u.isSome:=by
 cases o with
 | none=>cases u with
  | none=>rfl
  | some _=>exact(show False from r).elim
 | some _=>cases u with
  | none=>exact(show False from r).elim
  | some _=>rfl
theorem RelO.getD{o:Option V}{u:Option Value}{d:V}{d':Value}(r:RelO o u)(rd:RelV d d'):RelV (o.getD d) (u.getD d'):=by
 cases o with
 | none=>cases u with
  | none=>exact rd
  | some _=>exact(show False from r).elim
 | some _=>cases u with
  | none=>exact(show False from r).elim
  | some _=>exact r
theorem KV.val{kvs:List (κ×V)}{vs:List (κ×Value)}(r:KV kvs vs)(k:κ):RelO (YD kvs k) (valueAt vs k):=by
 unfold KV at r
 induction r with
 | nil=>exact dQ
 | @cons p q ps j h t G=>
  obtain⟨h1,h2⟩:=h
  by_cases e:p.1=k
  .have F:q.1=k:=h1.symm.trans e;have b:valueAt (q::j) k=some q.2:=by simp [valueAt,cI,F]
   rw [Xm e,b];exact h2
  .have F:¬q.1=k:=λz=>e (h1.trans z);have b:valueAt (q::j) k=valueAt j k:=by simp [valueAt,cI,F]
   rw [JR e,b];exact G
theorem KV.any{kvs:List (κ×V)}{vs:List (κ×Value)}(r:KV kvs vs)(k:κ):(kvs.any λkv=>decide (kv.1=k))=vs.any λkv=>decide (kv.1=k):=by
 unfold KV at r
 induction r with
 | nil=>rfl
 | cons h t j=>rw [List.any_cons,List.any_cons,j,h.1]
theorem KV.repl{kvs:List (κ×V)}{vs:List (κ×Value)}(r:KV kvs vs)(k:κ)(ry:RelV y u):
 KV (kvs.map λkv=>if kv.1=k then(kv.1,y)else kv) (vs.map λkv=>if kv.1=k then(kv.1,u)else kv):=by
 unfold KV at r ⊢
 induction r with
 | nil=>exact .nil
 | @cons p q ps F h t j=>
  rw [aR,aR];refine .cons ?_ j;obtain⟨h1,h2⟩:=h
  by_cases e:p.1=k
  .rw [aH e,aH (h1.symm.trans e)];exact⟨h1,ry⟩
  .rw [aF e,aF (λz=>e (h1.trans z))];exact⟨h1,h2⟩
theorem KV.put{kvs:List (κ×V)}{vs:List (κ×Value)}(r:KV kvs vs)(k:κ)(ry:RelV y u):KV (A7 kvs k y) (stored vs k u):=by
 unfold A7 stored;rw [r.any k]
 by_cases e:(vs.any λj=>decide (j.1=k))=true
 .rw [aH e,aH e];exact r.repl k ry
 .rw [aF e,aF e];exact Paired.snoc r ⟨rfl,ry⟩
theorem KV.keys{kvs:List (κ×V)}{vs:List (κ×Value)}(r:KV kvs vs):kvs.map (·.1)=vs.map (·.1):=by
 unfold KV at r
 induction r with
 | nil=>rfl
 | cons h t j=>rw [aR,aR,j,h.1]
theorem KV.length{kvs:List (κ×V)}{vs:List (κ×Value)}(r:KV kvs vs):kvs.length=vs.length:=Paired.length r
end
theorem Xn{k:Key}(r:RelV (kV k) u):(QH P w).is k u=true:=by
 cases k with
 | inl i=>obtain⟨t,e⟩:=(show ∃t,u=Value.int i t from r);subst e;exact Ga P w i t
 | inr x=>obtain⟨t,e⟩:=(show ∃t,u=Value.str x t from r);subst e;exact Go P w x t
theorem Wp:∀{ks:List Key}{us:List Value},Vals (ks.map kV) us->ItemsAre (QH P w) ks us
 | [],_,r=>by rw [eW]at r;cases r;exact .nil
 | k::ks,_,r=>by
  rw [aR]at r;cases r with
  | cons h t=>exact .cons (Xn h) (Wp t)
abbrev KT(H:Hp):List (List Key×V)->List (List Key×Addr×Value)->Prop:=Paired λp q=>p.1=q.1/\H q.2.1=some (.tup (p.1.map kV))/\RelV p.2 q.2.2
theorem KT.val{kvs:List (List Key×V)}{xs:List (List Key×Addr×Value)}(r:KT H kvs xs)(k:List Key):RelO (YD kvs k) ((atKey xs k).map (·.2)):=by
 induction r with
 | nil=>exact dQ
 | @cons p q ps j h t G=>
  obtain⟨h1,_,h2⟩:=h
  by_cases e:p.1=k
  .have F:q.1=k:=h1.symm.trans e;have b:atKey (q::j) k=some q.2:=by simp [atKey,cI,F]
   rw [Xm e,b];exact h2
  .have F:¬q.1=k:=λz=>e (h1.trans z);have b:atKey (q::j) k=atKey j k:=by simp [atKey,cI,F]
   rw [JR e,b];exact G
section
variable{h:Heap}
theorem T5{u:HO}(ok:HOk P w H h)(e:Rd H a u):ObjOk P w H h a u:=e.ok ok
theorem XI(ok:HOk P w H h)(e:Rd H a (.dK kvs)):kvs.length<=sizeLine/\(a==sysModules)=false/\∃vs,KV kvs vs/\h.DictOf (QH P w) a vs:=
 show ObjOk P w H h a (.dK kvs)from T5 ok e
theorem MC(ok:HOk P w H h)(e:H a=some (.dK kvs)):kvs.length<=sizeLine/\(a==sysModules)=false/\∃vs,KV kvs vs/\h.DictOf (QH P w) a vs:=XI ok (.inl e)
theorem XJ{ks:List Key}(ok:HOk P w H h)(e:H a=some (.tup (ks.map kV))):(tupleKind (QH P w)).is h ks a:=by
 obtain⟨_,its,r,o,h1,h2,n,j⟩:=(show ObjOk P w H h a (.tup (ks.map kV))from ok a _ e);exact⟨o,its.toArray,n,h1,h2,j,by simpa using Wp r⟩
theorem We{kvs:List (List Key×V)}(ok:HOk P w H h)(e:Rd H a (.dT kvs)):kvs.length<=sizeLine/\(a==sysModules)=false/\
 ∃xs,KT H kvs xs/\h.DictOfH (tupleKind (QH P w)) a xs:=by
 obtain⟨z,y,xs,r,o,es,ep,h1,h2,F,G,J⟩:=(show ObjOk P w H h a (.dT kvs)from T5 ok e);refine⟨z,y,xs,r,o,es,ep,h1,h2,F,G,λx hx=>?_,J⟩;have all:∀{l:List (List Key×V)}{m:List (List Key×Addr×Value)},KT H l m->∀x∈m,(tupleKind (QH P w)).is h x.1 x.2.1:=by
  intro l m q
  induction q with
  | nil=>intro x hx;exact nomatch hx
  | @cons p q ps M j t L=>
   intro x hx;rcases aQ.mp hx with e | hx
   .subst e;exact XJ ok (by rw [<-j.1];exact j.2.1)
   .exact L x hx
 exact all r x hx
end
def DGet(H:Hp)(a:Addr)(y:V)(r:Option V):Prop:=
 (∃kvs k,Rd H a (.dK kvs)/\y=kV k/\r=YD kvs k)\/∃kvs k b,Rd H a (.dT kvs)/\y=.ref b/\H b=some (.tup (k.map kV))/\r=YD kvs k
theorem DGet.k{k:Key}(e:H a=some (.dK kvs)):DGet H a (kV k) (YD kvs k):=.inl ⟨kvs,k,.inl e,rfl,rfl⟩
section
variable{pins:List (13:)}{r:Value}{o:Option V}
theorem Inv.big(I:Inv X pins σ H s):sysModules<s.heap.objs.size:=by
 have h:mainGlobals<s.heap.objs.size:=(I.mod.glob.keeps I.bk).lt;exact Nat.lt_trans (9:) h
theorem NY(hu:A.units+1<cLine)(I:Inv X pins σ H s)(g:DGet H a y (some v))(ry:RelV y u)(h:∀w' s',Inv X pins σ H s'->RelV v w'->Q w' s'):
 wpAny (6:) A (getItem (.ref a) u) Q E s:=by
 rcases g with⟨kvs,k,e,G,l⟩ | ⟨kvs,k,b,e,G,U,l⟩
 .subst G;obtain⟨z,Y,vs,j,J⟩:=XI I.hok e;obtain⟨w',L,F⟩:=RelO.some_of (v:=v) (o:=valueAt vs k) (by rw [l];exact j.val k);exact wpAny_getItem_of (Xn ry) J.mapOf L (h w' _ (I.tok _) F)
 .subst G;cases (show u=Value.ref b from ry);obtain⟨z,Y,xs,j,J⟩:=We I.hok e;obtain⟨w',L,F⟩:=RelO.some_of (v:=v) (o:=(atKey xs k).map (·.2)) (by rw [l];exact j.val k);obtain⟨p,hp,M⟩:=Option.map_eq_some_iff.mp L;refine wpAny_getItem_heap (tupleKind_room_in1 hu) (XJ I.hok U) J hp ?_;rw [M];exact h w' _ (I.tok _) F
theorem Th(hu:A.units+1<cLine)(I:Inv X pins σ H s)(g:DGet H a y o)(ry:RelV y u)(h:∀s',Inv X pins σ H s'->Q (.bool (!o.isSome)) s'):
 wpAny (6:) A (compareOp .NotIn u (.ref a)) Q E s:=by
 rcases g with⟨kvs,k,e,F,l⟩ | ⟨kvs,k,b,e,F,L,l⟩
 .subst F;obtain⟨z,G,M,j,J⟩:=XI I.hok e;refine wpAny_notIn_of (Xn ry) G J.mapOf ?_;rw [<-(j.val k).isSome_eq,<-l];exact h _ (I.tok _)
 .subst F;cases (show u=Value.ref b from ry);obtain⟨z,G,xs,j,J⟩:=We I.hok e;refine wpAny_notIn_heap (tupleKind_room_in1 hu) (XJ I.hok L) G J ?_;have q:=(j.val k).isSome_eq;rw [Option.isSome_map]at q;rw [<-q,<-l];exact h _ (I.tok _)
theorem Sn{ob:HO}(I:Inv X pins σ H s)(mu:Mut (H a))(hs:Heap.SameBut a s.heap h')(he:∃q,h'.get? a=some q)(new:ObjOk X.prog X.w (upd H a ob) h' a ob):
 Inv X pins σ (upd H a ob) { s with heap:=h',toks:=t' }:=
 I.write (x:=a) (e:=a) mu (.inl rfl) (λb q j z=>(hs.2 b j).trans z) he new
theorem Rj{vs:List (Key×Value)}(z:kvs.length<=sizeLine)(hd:(a==sysModules)=false)(rel:KV kvs vs)(dd:h'.DictOf (QH P w) a vs):
 ObjOk P w H' h' a (.dK kvs):=⟨z,hd,vs,rel,dd⟩
end
section
variable{pins:List (13:)}{k:Key}
end
def CY(i:Expr):Prop:=∀ov iv,subscripted i false ov iv=operate [ov,iv] (getItem ov iv)
theorem S1{slice:Expr}{T id:String}
 (hl:typeLookup (.type T) "__getitem__"=pure (some (.builtin id))) (hs:CY slice)
 (h:wpAny (model prog w) A (eval value env) (λo s₁=>wpAny (model prog w) A (eval slice env) (λi s₂=>s₂.TypeIs o T/\wpAny (model prog w) A (getItem o i) Q E s₂) E s₁) E s):
 wpAny (model prog w) A (eval (.Subscript value slice pos) env) Q E s:=by
 refine Subscript_ (c_ h (λo s₁ J=>c_ J (λi s₂ j=>?_) λ_ _ x=>x) λ_ _ x=>x);obtain⟨F,j⟩:=j;unfold subscriptTail;refine aD ?_;rw [getitemInPython_of_ne F.not_modules];refine aD (wpAny_specialOf F hl ?_);have fin:wpAny (model prog w) A (subscripted slice false o i) (λr G=>wpAny (model prog w) A (letTemporaryGo value o r>>=λ_=>pure r) Q E G) E s₂:=by
  rw [hs o i];exact wpAny_operating (c_ j (λr G L=>aD (wpAny_letTemporaryGo (aG L))) λ_ _ x=>x)
 first
  | exact aG (aD fin)
  | exact aD (aG (aD fin))
  | exact aD fin
theorem V9{pins:List (13:)}{o:Option V}(I:Inv X pins σ H s)(g:DGet H a y o):s.TypeIs (.ref a) "dict":=by
 rcases g with⟨kvs,k,e,_,_⟩ | ⟨kvs,k,b,e,_,_,_⟩
 .obtain⟨_,_,F,_,j⟩:=XI I.hok e;exact j.typeIs
 .obtain⟨_,_,xs,_,j⟩:=We I.hok e;exact j.typeIs
def Cd(td ty:TE):TE:=λσ H Q=>td σ H λx H1=>ty σ H1 λy H2=>∃a v,x=.ref a/\DGet H2 a y (some v)/\Q v H2
def Td(ty td:TE):TE:=λσ H Q=>ty σ H λy H1=>td σ H1 λx H2=>∃a o,x=.ref a/\DGet H2 a y o/\Q (.bl (!o.isSome)) H2
section
variable{o i:Expr}{ty tv:TE}
theorem UM(hu:X.A.units+1<cLine)(ho:PE X o td)(hi:PE X i ty)(hs:CY i):PE X (.Subscript o i pos) (Cd td ty):=by
 intro pins s σ H Q I h;refine S1 PySem.F.slot_dict_getitem.lookup hs (thn (ho pins s σ H _ I h) λu J ⟨x,H1,L,M,U⟩=>thn (hi pins J σ H1 _ L U) λiv s2 ⟨y,H2,j,Y,a,v,ex,g,q2⟩=>?_);subst ex;obtain rfl:u=Value.ref a:=M;exact⟨V9 j g,NY hu j g Y λw' s3 I3 G=>⟨v,H2,I3,G,q2⟩⟩
theorem Nd(hu:X.A.units+1<cLine)(hi:PE X i ty)(ho:PE X o td):PC X .NotIn i o (Td ty td):=by
 intro pins s σ H Q I h;refine thn (hi pins s σ H _ I h) λiv j ⟨y,H1,F,G,J⟩=>thn (ho pins j σ H1 _ F J) λu s2 ⟨x,H2,L,M,a,U,ex,g,Y⟩=>?_;subst ex;obtain rfl:u=Value.ref a:=M;exact Th hu L g G λs3 I3=>⟨.bl (!U.isSome),H2,I3,rfl,Y⟩
end
theorem OH(h:Heap)(hb:sysModules<h.objs.size):ObjOk P w H (h.push { cls:=.type "dict",data:=.dict #[] }) h.objs.size (.dK []):=
 ⟨bZ _,eM.mpr (bW (aY hb)),[],.nil,Heap.DictOf.new h⟩
def A3:TE:=λ_ H Q=>∀p,H p=none->Q (.ref p) (upd H p (.dK []))
theorem O3:PE X (.Dict [] [] pos) A3:=λpins s σ H Q I h=>
 wpAny_Dict_empty ⟨.ref s.heap.objs.size,_,I.laid (a:=s.heap.objs.size) (o:=.dK []) (t':=s.toks) (λ_ _ q=>aT _ q) (8:) (OH s.heap I.big),rfl,h _ (I.hok.fresh (8:))⟩
structure M1(X:Cx)(o:Expr)(m:Str)(apos:Pos)(e:Expr)(cpos:Pos):Prop where
 base:attributeBase o m X.env (eval o X.env)=eval o X.env
 few:((backTo cpos (starEach [e] X.env)).all (λx=>!x.1)&&(backToKw cpos (keywordEach [] X.env)).all (λx=>x.1.isSome)
  &&decide (([e]:List Expr).length+([]:List Keyword).length+(if([]:List Keyword).isEmpty then 0 else 1)<30))=true
 line:(apos.endLine==cpos.line)=true
 trees:backTo cpos (starEach [e] X.env)=[(false,eval e X.env)]
structure M2(X:Cx)(o:Expr)(m:Str)(apos:Pos)(e f:Expr)(cpos:Pos):Prop where
 base:attributeBase o m X.env (eval o X.env)=eval o X.env
 few:((backTo cpos (starEach [e,f] X.env)).all (λx=>!x.1)&&(backToKw cpos (keywordEach [] X.env)).all (λx=>x.1.isSome)
  &&decide (([e,f]:List Expr).length+([]:List Keyword).length+(if([]:List Keyword).isEmpty then 0 else 1)<30))=true
 line:(apos.endLine==cpos.line)=true
 trees:backTo cpos (starEach [e,f] X.env)=[(false,eval e X.env),(false,eval f X.env)]
def IsD(H:Hp)(a:Addr):Prop:=(∃kvs,Rd H a (.dK kvs))\/∃kvs,Rd H a (.dT kvs)
theorem Pj{pins:List (13:)}(I:Inv X pins σ H s)(d:IsD H a):
 s.TypeIs (.ref a) "dict"/\ (∀b,Value.ref a=.ref b->∃ob,s.heap.get? b=some ob/\ob.dict=none)/\(a==sysModules)=false:=by
 rcases d with⟨kvs,e⟩ | ⟨kvs,e⟩
 .obtain⟨_,F,G,_,j⟩:=XI I.hok e;refine⟨j.typeIs,λb q=>?_,F⟩;cases q;obtain⟨ob,_,_,h1,h2,_⟩:=j;exact⟨ob,h1,h2.2.1⟩
 .obtain⟨_,F,xs,_,j⟩:=We I.hok e;refine⟨j.typeIs,λb q=>?_,F⟩;cases q;obtain⟨ob,_,_,h1,h2,_⟩:=j;exact⟨ob,h1,h2.2.1⟩
section
variable{pins:List (13:)}{d:V}{r:Value}{o:Option V}
theorem BW(hu:A.units+1<cLine)(I:Inv X pins σ H s)(g:DGet H a y o)(ry:RelV y u)(h:∀w' s',Inv X pins σ H s'->RelV (o.getD .non) w'->Q w' s'):
 wpAny (6:) A (call (.builtin "dict.get") [.ref a,u]) Q E s:=by
 rcases g with⟨kvs,k,e,J,l⟩ | ⟨kvs,k,b,e,J,M,l⟩
 .subst J;obtain⟨z,L,U,j,G⟩:=XI I.hok e;refine call_meetsIn fL G.typeIs iE (PySem.F.args_dict_get_2 _ _) (meets_dict_get (QH X.prog X.w) a (Xn ry) L) ⟨_,G.mapOf,h _ _ (I.tok _) ?_⟩;rw [l];exact(j.val k).getD rfl
 .subst J;cases (show u=Value.ref b from ry);obtain⟨z,L,xs,j,G⟩:=We I.hok e;refine call_meetsIn fL G.typeIs iE (PySem.F.args_dict_get_2 _ _) (meetsH_dict_get (tupleKind (QH X.prog X.w)) a b L) ⟨tupleKind_room_in1 hu,k,xs,XJ I.hok M,G,h _ _ (I.tok _) ?_⟩;rw [l];exact(j.val k).getD rfl
theorem Bg(hu:A.units+1<cLine)(I:Inv X pins σ H s)(g:DGet H a y o)(ry:RelV y u)(rd:RelV d r)(h:∀w' s',Inv X pins σ H s'->RelV (o.getD d) w'->Q w' s'):
 wpAny (6:) A (call (.builtin "dict.get") [.ref a,u,r]) Q E s:=by
 rcases g with⟨kvs,k,e,J,l⟩ | ⟨kvs,k,b,e,J,M,l⟩
 .subst J;obtain⟨z,L,U,j,G⟩:=XI I.hok e;refine call_meetsIn fL G.typeIs iE (PySem.F.args_dict_get_3 _ _ _) (meets_dict_get_default (QH X.prog X.w) a (Xn ry) L r) ⟨_,G.mapOf,h _ _ (I.tok _) ?_⟩;rw [l];exact(j.val k).getD rd
 .subst J;cases (show u=Value.ref b from ry);obtain⟨z,L,xs,j,G⟩:=We I.hok e;refine call_meetsIn fL G.typeIs iE (PySem.F.args_dict_get_3 _ _ _) (meetsH_dict_get_default (tupleKind (QH X.prog X.w)) a b L r) ⟨tupleKind_room_in1 hu,k,xs,XJ I.hok M,G,h _ _ (I.tok _) ?_⟩;rw [l];exact(j.val k).getD rd
end
def AE(td ty:TE):TE:=λσ H Q=>td σ H λx H1=>∃a,x=.ref a/\IsD H1 a/\ty σ H1 λy H2=>∃o,DGet H2 a y o/\Q (o.getD .non) H2
def BS(td ty tx:TE):TE:=λσ H Q=>td σ H λx H1=>∃a,x=.ref a/\IsD H1 a/\ty σ H1 λy H2=>tx σ H2 λz H3=>∃o,DGet H3 a y o/\Q (o.getD z) H3
section
variable{o f:Expr}{ty tx:TE}
theorem Ol(hu:X.A.units+1<cLine)(ho:PE X o td)(he:PE X e ty)(m:M1 X o "get" apos e cpos):PE X (.Call (.Attribute o "get" apos) [e] [] cpos) (AE td ty):=by
 intro pins s σ H Q I h;refine wpAny_Call_method m.base m.few m.line iC fL PySem.F.type_dict_get (thn (ho pins s σ H _ I h) λu J ⟨x,H1,j,L,a,ex,d,M⟩=>?_);subst ex;obtain rfl:u=Value.ref a:=L;obtain⟨t1,t2,_⟩:=Pj j d;refine⟨t1,t2,?_⟩;rw [m.trees];refine iD rfl (Calls.evalArgs_plain (Calls.spliced_cons (thn (he pins J σ H1 _ j M) λiv s2 ⟨y,H2,U,Y,ov,g,q2⟩=>Calls.spliced_nil ?_)));exact BW hu U g Y λw' s3 I3 G=>⟨_,H2,I3,G,q2⟩
theorem Rs(hu:X.A.units+1<cLine)(ho:PE X o td)(he:PE X e ty)(hf:PE X f tx)(m:M2 X o "get" apos e f cpos):PE X (.Call (.Attribute o "get" apos) [e,f] [] cpos) (BS td ty tx):=by
 intro pins s σ H Q I h;refine wpAny_Call_method m.base m.few m.line iC fL PySem.F.type_dict_get (thn (ho pins s σ H _ I h) λu J ⟨x,H1,j,L,a,ex,d,M⟩=>?_);subst ex;obtain rfl:u=Value.ref a:=L;obtain⟨t1,t2,_⟩:=Pj j d;refine⟨t1,t2,?_⟩;rw [m.trees];refine iD rfl (Calls.evalArgs_plain (Calls.spliced_cons (thn (he pins J σ H1 _ j M) λiv U ⟨y,H2,Y,ry,q2⟩=>
  Calls.spliced_cons (thn (hf pins U σ H2 _ Y q2) λfv s3 ⟨z,H3,I3,rz,ov,g,q3⟩=>Calls.spliced_nil ?_))))
 exact Bg hu I3 g ry rz λw' s4 I4 G=>⟨_,H3,I4,G,q3⟩
end
section
variable{pins:List (13:)}
end
section
variable{pins:List (13:)}
end
theorem Same.seqT{K:Fg}(e:Same H H')(h:SqT K H a xs):SqT K H' a xs:=by
 rcases h with(h | ⟨o,h⟩) | h
 .exact .inl (.inl (e _ _ h))
 .exact .inl (.inr ⟨o,e _ _ h⟩)
 .exact .inr h
end L2
namespace TM
inductive Tree(α:Type) where
 | node (name:α) (mark:Int) (bs:List (Tree α))
variable{α:Type}
def Tree.bs:Tree α->List (Tree α)
 | .node _ _ bs=>bs
structure Rows(α:Type) where
 n:Nat
 nm:Nat->α
 mr:Nat->Int
 up:Nat->Nat
variable{R:Rows α}
section
variable{K:Nat->List Int}{B:Nat->Tree α}{o0:Tree α}
variable{B':Nat->Tree α}{o:Tree α}{s:Nat}
end
end TM
namespace L2
open PySem PySem.Spec PyProof.Rows TM
theorem SqT.put{K:Fg}{o:HO}(h:SqT K H a xs)(hd:H d=some (.lst ys)):SqT K (upd H d o) a xs:=by
 rcases h with(h | ⟨j,h⟩) | h
 .exact .inl (.inl (by rw [Qi (ne_of h hd (23:))];exact h))
 .exact .inl (.inr ⟨j,by rw [Qi (ne_of h hd (23:))];exact h⟩)
 .exact .inr h
end L2
namespace L2
open PySem
def SameX(x:Addr)(H H':Hp):Prop:=∀b u,b≠x->H b=some u->H' b=some u
theorem SameX.trans{x:Addr}(a:SameX x H H1)(b:SameX x H1 H2):SameX x H H2:=λc u n e=>b c u n (a c u n e)
theorem SameX.of{x:Addr}(h:Same H H'):SameX x H H':=λb u _ e=>h b u e
theorem SameX.upd{x:Addr}{o:HO}:SameX x H (upd H x o):=λb u n e=>by rw [Qi n];exact e
theorem Pc{f g:Str}{r:List (Str×V)}(h:¬g=f):ZW f v ((g,y)::r)=(g,y)::ZW f v r:=by
 show(if g=f then _ else _)=_;rw [aF h]
theorem Sz{f:Str}{r:List (Str×V)}:ZW f v ((f,y)::r)=(f,v)::r:=by
 show(if f=f then _ else _)=_;rw [aH rfl]
end L2
namespace L2
open PySem PySem.Spec PyProof.Rows
def S5(e:Expr):Arguments:=match e with
 | .Lambda a _ _ _=>a
 | _=>{ posonlyargs:=[],args:=[],vararg:=none,kwonlyargs:=[],kw_defaults:=[],kwarg:=none,defaults:=[] }
def Mx(e:Expr):Expr:=match e with
 | .Lambda _ b _ _=>b
 | _=>e
def Q1(e:Expr):Scope:=match e with
 | .Lambda _ _ s _=>s
 | _=>{ kind:=.function,names:=[],isGenerator:=false,isCoroutine:=false }
def Li(e:Expr):Pos:=match e with
 | .Lambda _ _ _ p=>p
 | _=>⟨0,0,0,0⟩
def Cg(s:Stmt):Expr:=match(defBody s).getLast? with
 | some (.Return (some e) _)=>e
 | _=>.Name "" ⟨0,0,0,0⟩
def CQ(e:Expr)(i:Nat):Expr:=match e with
 | .Call _ as _ _=>as.getD i e
 | _=>e
def ND(f:Addr)(fd:FuncData):HO:=.ext λh=>h.get? f=some { cls:=.type "function",data:=.func fd }
def O6(c:Addr)(qual:Str):HO:=.ext λh=>h.CodeRec (.ref c) qual
def TbS(H:Hp)(T:Addr)(pos:Pos)(qual:Str):Prop:=H T=some (.tbl #[])\/∃c,H T=some (.tbl #[rawInt pos.line,rawInt pos.col,.ref c])/\H c=some (O6 c qual)
theorem TbS.at(h:TbS H T pos qual):∃ps,H T=some (.tbl ps):=by
 rcases h with h | ⟨c,h,_⟩
 .exact⟨_,h⟩
 .exact⟨_,h⟩
theorem TbS.same(g:Same H H')(h:TbS H T pos qual):TbS H' T pos qual:=by
 rcases h with h | ⟨c,h,h2⟩
 .exact .inl (g _ _ h)
 .exact .inr ⟨c,g _ _ h,g _ _ h2⟩
def BtAt(mg:Str->Option Value)(base:Heap):Prop:=∃bm o,mg "__builtins__"=some (.ref bm)/\bm≠builtinsNs/\bm≠mainGlobals/\base.get? bm=some o/\o.cls=.type "module"/\ o.dict=some builtinsNs/\o.data=.plain
theorem M7{h:Heap}{fd:FuncData}(e:h.get? f=some { cls:=.type "function",data:=.func fd }):ObjOk P w H h f (ND f fd):=⟨e,⟨_,e⟩,λ_ _ e1 k=>k _ e1⟩
theorem SU{h:Heap}{c:Addr}(e:h.CodeRec (.ref c) qual):ObjOk P w H h c (O6 c qual):=by
 refine⟨e,?_,λh1 h2 e1 k=>?_⟩
 .obtain⟨L,F,G,J,z,j,_⟩:=e;cases z;exact⟨_,j⟩
 .obtain⟨L,F,G,J,z,j,r⟩:=e1;cases z;exact⟨c,F,G,J,rfl,k _ j,r⟩
section
variable{K:Fg}
theorem SQ{c:Addr}{fd:FuncData}(hn:PySem.W.nsIn K mainGlobals x=some (some (.ref f)))(lk:K.lookup f=some ⟨oc,od,.func fd,sl⟩)(h:PySem.W.tabIn K x=some (c,T)):fd.code=.ref c:=by
 unfold PySem.W.tabIn at h;rw [hn]at h;simp only [lk]at h;split at h
 .rename_i F j;split at h
  .split at h
   .cases h;exact j
   .cases h
  .cases h
 .cases h
theorem Fun.okC{st:Stmt}{c:Addr}{fd:FuncData}{N:List Str}{k:Nat}(F:Fun K x qual st f fd)(hn:PySem.W.nsIn K mainGlobals x=some (some (.ref f)))(hT:PySem.W.tabIn K x=some (c,T))(S:FnScope N ps (defScope st))(len:∀vs H Q E,sp vs H Q E->vs.length=ps.length)
 (hbody:∀(A:Around)(outer:List Env)(s:Shared)(H:Hp)(vs:List V)(Q:VK)(E:XK),Room k (A.deeper (envOfC qual (defScope st) s.heap.objs.size f (.ref c)))->sp vs H Q E->
  ∃t,PSs (QW CX0 P w K mg base N qual (defScope st) f (.ref c) A outer s H E).nox (defBody st) t/\t { nx:=λ_ H'=>Q .non H',rt:=Q } (start N vs) H):FnOk P w K mg base CX0 (k+1) f fd ps sp:=by
 obtain⟨oc,od,kV,U,pm,an,j,ct,Y,rfl,G,J⟩:=F.ex;have e:j=.ref c:=SQ hn G hT;subst e;refine Ay G J S len λA outer s H vs Q E M L=>?_;obtain⟨t,h,q⟩:=hbody A outer s H vs Q E M L;exact⟨t,h.nox,q⟩
end
def Ge(h:Heap)(H:Hp)(l:List Addr):Heap:=PySem.W.hideAll h (trk h H++l)
theorem N3(h:Heap)(H:Hp)(l:List Addr):(Ge h H l).objs.size=h.objs.size:=PySem.W.hideAll_size _ _
theorem GB{h:Heap}{l:List Addr}(e:h.get? b=some o)(n:H b=none)(m:b∉l):(Ge h H l).get? b=some o:=
 PySem.W.hideAll_get _ e λhm=>by
  rcases aW.mp hm with hm | hm
  .have q:(H b).isSome=true:=(dF.mp hm).2;rw [n]at q;simp at q
  .exact m hm
theorem WN{h:Heap}{l:List Addr}(e:(Ge h H l).get? b=some o):h.get? b=some o/\H b=none/\b∉l:=by
 have j:h.get? b=some o:=PySem.W.of_hideAll (trk h H++l) e;have F:∀m:b∈trk h H++l,False:=λm=>by
  have z:(Ge h H l).get? b=none:=PySem.W.hideAll_none (trk h H++l) m;rw [z]at e;cases e
 refine⟨j,?_,λm=>F (bV _ m)⟩;cases q:H b with
 | none=>rfl
 | some x=>exact(F (cU _ (dF.mpr ⟨cN.mpr (aN j),by simp [q]⟩))).elim
def Sub(g h:Heap):Prop:=∀b o,g.get? b=some o->h.get? b=some o
theorem Mod.sub{K:Fg}{g h:Heap}(s:Sub g h)(m:Mod K mg g):Mod K mg h:=
 ⟨m.kin.keeps s,m.glob.keeps s,let⟨j,F,q⟩:=m.blt;⟨j,F.keeps s,q⟩,m.nolimit.keeps s⟩
theorem BtAt.sub{g h:Heap}(s:Sub g h)(b:BtAt mg g):BtAt mg h:=by
 obtain⟨j,F,G,J,L,M,r⟩:=b;exact⟨j,F,G,J,L,s _ _ M,r⟩
theorem Mz{h g:Heap}:∀{l:List Env},h.FunFrames base l->(∀b∈frs l,g.get? b=none)->h.FunFrames g l
 | [],_,_=>trivial
 | env::rest,hf,hn=>by
  obtain⟨h1,⟨L,o,e1,e2,e3,e4⟩,r⟩:=hf;refine⟨h1,⟨L,o,e1,hn L ?_,e3,e4⟩,Mz r λb j=>hn b ?_⟩
  .exact dU.mpr ⟨env,aL,e1⟩
  .obtain⟨e,F,q⟩:=dU.mp j;exact dU.mpr ⟨e,aU _ F,q⟩
theorem Env0.sub{K:Fg}(e:Env0 P w K mg base A outer s H):Sub base (Ge s.heap H (frs outer)):=λb o h=>
 GB (e.bs b o h).1 (e.bs b o h).2 λm=>by
  have:=(e.funs.mem m).1;rw [h]at this;cases this
theorem Env0.big{K:Fg}(e:Env0 P w K mg base A outer s H):Env0 P w K mg (Ge s.heap H (frs outer)) A outer s H:=
 ⟨e.frames,e.mod.sub e.sub,λb o h=>⟨(WN h).1,(WN h).2.1⟩,Nat.le_of_eq (N3 _ _ _),Mz e.funs λb j=>by
  cases q:(Ge s.heap H (frs outer)).get? b with
  | none=>rfl
  | some o=>exact absurd j (WN q).2.2,e.frf,e.hok,e.bare⟩
def R0(X:Cx)(σ:St)(g:Heap):Prop:=∀(i:Nat)(x:Str)(v:V),X.N[i]?=some x->σ[i]?=some (some v)->X.env.scope.names.lookup x=some .cell->∃c u,X.env.cells.lookup x=some c/\g.IsCell c (some u)/\RelV v u
section
variable{pins:List (13:)}
theorem Inv.cells(I:Inv X pins σ H s)(hfn:∀x,X.fn x=true):R0 X σ (Ge s.heap H (frs X.stack)):=by
 intro i x v h1 h2 L;obtain⟨m,M,hl⟩:=I.loc;obtain⟨u,Y,lk⟩:=hl i x v h1 h2 (.inr (.inl L));rcases lk with⟨k,_⟩ | ⟨_,c,F,ic⟩
 .have k':X.env.scope.names.lookup x=some .local:=k;rw [L]at k';cases k'
 refine⟨c,u,F,?_,Y⟩;obtain⟨o,G,r⟩:=ic;refine⟨o,GB G (I.freeC x c F) (λm=>?_),r⟩;have j:=I.ok.cab x c (hfn x) F;have lt:∀b∈frs X.outer,b<X.s0.heap.objs.size:=λb hb=>by
  obtain⟨_,o',U,_⟩:=I.ok.funs.mem hb;exact aN U
 rcases I.ok.stk with e | ⟨e,e2⟩
 .rw [e]at m;exact absurd (lt c m) (Nat.not_lt.mpr j)
 .rw [e]at m;rcases dU.mp m with⟨env,he,J⟩;rcases aQ.mp he with rfl | he
  .rw [e2]at J;obtain rfl:=aK J;obtain⟨o2,es,ep,h5,h6,_⟩:=M;rw [h5]at G;obtain rfl:=aK G;rw [h6]at r;cases r
  .exact absurd (lt c (dU.mpr ⟨env,he,J⟩)) (Nat.not_lt.mpr j)
end
abbrev Ja(qual:Str)(e:Expr)(cl:List (Str×Addr))(pm:Value)(c:Addr)(ctv:Value):FuncData:=PySem.W.kla_fn "<lambda>" qual (S5 e) (Mx e) (Q1 e) cl pm (.ref c) ctv
structure LamAtC(H:Hp)(f:Addr)(e:Expr)(cl:List (Str×Addr)):Prop where
 ex:∃qual pm c ctv,H f=some (ND f (Ja qual e cl pm c ctv))/\H c=some (O6 c qual)
theorem LamAtC.same(g:Same H H')(h:LamAtC H f e cl):LamAtC H' f e cl:=by
 obtain⟨q,F,c,j,h1,h2⟩:=h.ex;exact⟨q,F,c,j,g _ _ h1,g _ _ h2⟩
def C7(T:Addr)(qual:Str)(e:Expr)(cl:List (Str×Addr)):TE:=λσ H Q=>TbS H T (Li e) qual/\∀f H',SameX T H H'->H f=none->LamAtC H' f e cl->TbS H' T (Li e) qual->Q (.ref f) H'
theorem Sv{a:Arguments}{b:Expr}{c:Addr}(hcode:X.env.code=.ref c)(hC:PySem.W.codeHdIn X.K c T=true)(hB:BtAt X.mg X.base)(hcl:closureFor sc X.env=pure cl:=by rfl)(hdef:defaultsOf a X.env=([],[]):=by rfl):
 PE X (.Lambda a b sc pos) (C7 T (X.env.qual++"<lambda>") (.Lambda a b sc pos) cl):=by
 intro pins s σ H Q I h;obtain⟨ht,q⟩:=h;obtain⟨aw,Y⟩:=ht.at;obtain⟨bm,ob,b1,b2,b3,b4,b5,b6,b7⟩:=hB;have am:bm≠T:=λz=>by have:=(I.bs _ _ b4).2;rw [z,Y]at this;cases this
 have hg:s.heap.Ns mainGlobals X.mg:=I.mod.glob.keeps I.bk;have an:mainGlobals≠T:=λz=>by
  obtain⟨o,es,ep,e,_⟩:=I.mod.glob;have:=(I.bs _ _ e).2;rw [z,Y]at this;cases this
 have hb:s.heap.BuiltinsAt X.mg T:=⟨bm,ob,b1,b2,b3,am,I.bk _ _ b4,b5,b6,b7⟩;have af:PySem.W.CodeHd s.heap c T:=PySem.W.codeHd_of_K I.kIn hC;have ao:X.env.locals≠T:=λz=>by have:=I.free;rw [z,Y]at this;cases this
 refine PySem.W.kla_eval hdef ?_;rcases ht with L | ⟨j,L,ag⟩
 .have hP:s.heap.get? T=some (PySem.W.tabObj #[]):=I.hok T _ L;refine PySem.W.kla_makeFunction (mg:=X.mg) hcl I.ok.glob hg hcode af hP trivial rfl an hb λj M h' tk hx aa ac ad ap=>?_;obtain⟨qual,G⟩: ∃qual,qual=X.env.qual++"<lambda>":=⟨_,rfl⟩;rw [<-G]at ad ⊢;have ai:H j=none:=I.hok.fresh aa;have U:H h'.objs.size=none:=I.hok.fresh (cD (cK aa ac));have aq:T≠j:=Qg L ai;have ar:T≠h'.objs.size:=Qg L U;have as:j≠h'.objs.size:=aY ac;obtain⟨fd,aj⟩: ∃fd:FuncData,fd=Ja qual (.Lambda a b sc pos) cl ((X.mg "__name__").getD .none) j M:=⟨_,rfl⟩;have au:PySem.W.kla_obj "<lambda>" qual a b sc cl ((X.mg "__name__").getD .none) j M={ cls:=.type "function",data:=.func fd }:=by rw [aj];rfl
  rw [au];obtain⟨ps,ak⟩: ∃ps:Array Value,ps=#[rawInt pos.line,rawInt pos.col,.ref j]:=⟨_,rfl⟩;have ae:h'.get? T=some { cls:=.none,data:=.fields ps }:=by rw [ak];exact ap
  obtain⟨H',ab⟩: ∃H':Hp,H'=upd (upd (upd H T (.tbl ps)) j (O6 j qual)) h'.objs.size (ND h'.objs.size fd):=⟨_,rfl⟩;have eF:H' h'.objs.size=some (ND h'.objs.size fd):=by rw [ab];exact Qb
  have eC:H' j=some (O6 j qual):=by rw [ab,Qi as];exact Qb
  have eT:H' T=some (.tbl ps):=by rw [ab,Qi ar,Qi aq];exact Qb
  have eO:∀x,x≠T->x≠j->x≠h'.objs.size->H' x=H x:=λx n1 n2 n3=>by rw [ab,Qi n3,Qi n2,Qi n1]
  have eK:∀x u,H x=some u->x≠T->H' x=some u:=λx u e n1=>by rw [eO x n1 (Qg e ai) (Qg e U)];exact e
  have F:∀x o,h'.get? x=some o->(h'.push { cls:=.type "function",data:=.func fd }).get? x=some o:=λx o e=>aT _ e;have J:Inv X pins σ H' { s with heap:=h'.push { cls:=.type "function",data:=.func fd },toks:=tk }:=by
   refine I.step (g':=s.gens) (d':=s.drawn) (ch:=[]) (λ_ z=>nomatch z) (λx o _ _ _ e n=>?_) (λx o _ _ _ e n=>?_) (λx o _ e n=>?_) (λx o _ e=>?_) (λx xs e=>?_) (λx o u e=>?_) (λx qs e=>?_) (λm hn=>?_) (λx o e=>?_) I.bare
   .exact F _ _ (hx _ _ (λz=>by rw [z,Y]at n;cases n) e)
   .exact⟨o.slots,F _ _ (hx _ _ (λz=>by rw [z,Y]at n;cases n) e)⟩
   .have lx:=aN e;rw [eO x (λz=>by rw [z,Y]at n;cases n) (aY (bU lx aa)) (aY (Nat.lt_trans (bU lx aa) ac))];exact n
   .by_cases z:x=T
    .exact⟨_,F _ _ (z ▸ ae)⟩
    .exact⟨o,F _ _ (hx _ _ z e)⟩
   .exact eK x _ e (ne_of e L (23:))
   .exact eK x _ e (ne_of e L (23:))
   .by_cases z:x=T
    .subst z;rw [L]at e;cases e;exact⟨ps,by rw [eT];simp⟩
    .exact⟨#[],by rw [eK x _ e z];simp⟩
   .exact(hn.extBut hx ao).push _
   .by_cases z1:x=h'.objs.size
    .subst z1;rw [eF]at e;cases e;exact M7 (bQ _ rfl)
    by_cases z2:x=j
    .subst z2;rw [eC]at e;cases e;refine SU ?_;obtain⟨c2,oc,vs,tq,z,av,r⟩:=ad;exact⟨c2,oc,vs,tq,z,F _ _ av,r⟩
    by_cases z3:x=T
    .subst z3;rw [eT]at e;cases e;exact F _ _ ae
    rw [eO x z3 z2 z1]at e;refine(I.hok x o e).stay (λy u hy r=>?_) (λy r=>?_) λy xs r=>?_
    .refine F _ _ (hx _ _ (λz=>?_) r);rcases hy with hy | hy
     .exact z3 (hy.symm.trans z)
     .rw [z,Y]at hy;cases hy
    .exact eK y _ r (ne_of r L (23:))
    .exact eK y _ r (ne_of r L (23:))
  refine⟨.ref h'.objs.size,H',J,rfl,q h'.objs.size H' (λx u n e=>eK x u e n) U ⟨qual,_,j,M,by rw [eF,aj],eC⟩ ?_⟩;refine .inr ⟨j,?_,by rw [<-G];exact eC⟩;rw [eT,ak];rfl
 .have hP:s.heap.get? T=some (PySem.W.tabObj #[rawInt pos.line,rawInt pos.col,.ref j]):=I.hok T _ L;have hf:codeAmong pos (#[rawInt pos.line,rawInt pos.col,Value.ref j]:Array Value).toList=some (.ref j):=by
   show(if((pos.line:Int)==(pos.line:Int)&&(pos.col:Int)==(pos.col:Int))=true then some (Value.ref j)else _)=_;simp
  refine PySem.W.kla_makeFunctionHit (mg:=X.mg) hcl I.ok.glob hg hcode af hP trivial hf hb λM h' tk hk al=>?_;obtain⟨qual,G⟩: ∃qual,qual=X.env.qual++"<lambda>":=⟨_,rfl⟩;rw [<-G];have U:H h'.objs.size=none:=I.hok.fresh al;refine⟨.ref h'.objs.size,upd H h'.objs.size (ND h'.objs.size (Ja qual (.Lambda a b sc pos) cl ((X.mg "__name__").getD .none) j M)),I.laid (t':=tk) (λx o e=>aT _ (hk _ _ e)) al (M7 (bQ _ rfl)),rfl,?_⟩;have g:=Qe U (ND h'.objs.size (Ja qual (.Lambda a b sc pos) cl ((X.mg "__name__").getD .none) j M));refine q h'.objs.size _ (SameX.of g) U ⟨qual,_,j,M,Qb,g _ _ (by rw [G];exact ag)⟩ (.inr ⟨j,g _ _ L,g _ _ ag⟩)
abbrev N5(qual:Str)(scope:Scope)(cl:List (Str×Addr))(L f:Addr)(cd:Value):Env:=newEnv scope L mainGlobals cl (qual++Str.ofString ".<locals>.") (some f) cd none builtinsNs
def cxL(CX:CXT)(P:Program)(w:World)(K:Fg)(mg:Str->Option Value)(base:Heap)(N:List Str)(qual:Str)(scope:Scope)(cl:List (Str×Addr))(f:Addr)(cd:Value)(A:Around)(outer:List Env)(s:Shared)(H:Hp)(E:XK):Cx:=
 { prog:=P,w:=w,K:=K,mg:=mg,base:=base,A:=A.deeper (N5 qual scope cl s.heap.objs.size f cd),N:=N,s0:=s,H₀:=H,env:=N5 qual scope cl s.heap.objs.size f cd,outer:=outer,stack:=N5 qual scope cl s.heap.objs.size f cd::outer,ex:=[],fn:=λ_=>false,calm:=true,pn:=[],xe:=λe s'=>wpAny (model P w) (A.deeper (N5 qual scope cl s.heap.objs.size f cd)) (leaving (N5 qual scope cl s.heap.objs.size f cd) e) (λ_ s''=>CX outer H s E e s'') (λe' s''=>CX outer H s E e' s'') s' }
structure ClAt(base:Heap)(N:List Str)(cl:List (Str×Addr))(vs:List V):Prop where
 len:vs.length=N.length
 val:∀(i:Nat)(x:Str)(v:V),N[i]?=some x->vs[i]?=some v->∃c u,cl.lookup x=some c/\base.IsCell c (some u)/\RelV v u
 cel:∀x c,cl.lookup x=some c->∃u,base.IsCell c u
 inj:∀x y c,cl.lookup x=some c->cl.lookup y=some c->x=y
def Bh(P:Program)(w:World)(K:Fg)(mg:Str->Option Value)(base:Heap)(k:Nat)(e:Expr)(cl:List (Str×Addr))(sp:Sp):Prop:=
 ∀(f:Addr)(A:Around)(outer:List Env)(s:Shared)(H:Hp)(Q:VK)(E:XK),Room k A->Env0 P w K mg base A outer s H->LamAtC H f e cl->sp [] H Q E->
  codeAny (model P w) A (.call (.ref f) ⟨[],[]⟩) (CR CX0 outer P w H s Q E) s
theorem ClAt.two{x1 x2:Str}{c2:Addr}{v1 v2:V}{u1 u2:Value}(hx:x1≠x2)(hc:c1≠c2)(h1:base.IsCell c1 (some u1))(h2:base.IsCell c2 (some u2))(r1:RelV v1 u1)(r2:RelV v2 u2):ClAt base [x1,x2] [(x2,c2),(x1,c1)] [v1,v2]:=by
 have j:List.lookup x1 [(x2,c2),(x1,c1)]=some c1:=by
  rw [cW];have:(x1==x2)=false:=by simpa using hx
  rw [this];simp [List.lookup]
 have F:List.lookup x2 [(x2,c2),(x1,c1)]=some c2:=by simp [List.lookup]
 have any:∀x c,List.lookup x [(x2,c2),(x1,c1)]=some c->(x=x2/\c=c2)\/(x=x1/\c=c1):=λx c h=>by
  by_cases e2:x=x2
  .subst e2;rw [F]at h;exact .inl ⟨rfl,(aK h).symm⟩
  by_cases e1:x=x1
  .subst e1;rw [j]at h;exact .inr ⟨rfl,(aK h).symm⟩
  .have a:(x==x2)=false:=by simpa using e2
   have b:(x==x1)=false:=by simpa using e1
   simp [List.lookup,a,b]at h
 refine⟨rfl,λi x v e1 e2=>?_,λx c h=>?_,λx y c a b=>?_⟩
 .match i,e1,e2 with
  | 0,e1,e2=>cases e1;cases e2;exact⟨c1,u1,j,h1,r1⟩
  | 1,e1,e2=>cases e1;cases e2;exact⟨c2,u2,F,h2,r2⟩
  | i+2,e1,e2=>cases e1
 .rcases any x c h with⟨_,rfl⟩ | ⟨_,rfl⟩
  .exact⟨_,h2⟩
  .exact⟨_,h1⟩
 .rcases any x c a with⟨rfl,rfl⟩ | ⟨rfl,rfl⟩<;>rcases any y c b with⟨rfl,e⟩ | ⟨rfl,e⟩
  .rfl
  .exact absurd e.symm hc
  .exact absurd e hc
  .rfl
theorem Rt{K:Fg}{k:Nat}{N:List Str}(hk:(Q1 e).kind=ScopeKind.function)(hco:(Q1 e).isCoroutine=false)(hge:(Q1 e).isGenerator=false)(hfree:∀y∈(Q1 e).names,y.2≠NameKind.cell/\y.2≠NameKind.local)
 (hN:∀x,(Q1 e).names.lookup x=some .free->∃c,cl.lookup x=some c) (hC:ClAt base N cl vs)
 (hbind:∀(qual:Str)(pm:Value)(c:Addr)(ctv:Value),bindArgs (Ja qual e cl pm c ctv) ⟨[],[]⟩=pure [])
 (hbody:∀(qual:Str)(f c:Addr)(A:Around)(outer:List Env)(s:Shared)(H:Hp)(Q:VK)(E:XK),Room k (A.deeper (N5 qual (Q1 e) cl s.heap.objs.size f (.ref c)))->sp [] H Q E->
  ∃t,PE (cxL CX0 P w K mg base N qual (Q1 e) cl f (.ref c) A outer s H E).nox (Mx e) t/\t (vs.map some) H Q):Bh P w K mg base (k+1) e cl sp:=by
 intro f A outer s H Q E M j hL aa;obtain⟨qual,pm,c,ctv,hf,hc⟩:=hL.ex;have ab:s.heap.get? f=some { cls:=.type "function",data:=.func (Ja qual e cl pm c ctv) }:=(j.hok f _ hf).1;have U:s.heap.CodeRec (.ref c) qual:=(j.hok c _ hc).1;have ac:s.heap.NoLimit:=j.mod.nolimit.keeps λb o e=>(j.bs b o e).1;refine PySem.W.kla_callFunE M.depth ab rfl hco hge rfl U ?_;rw [hbind qual pm c ctv];refine aG ?_;refine wpAny_newFunctionEnv (λy hy=>(hfree y hy).1) (by intro y hy;simp at hy) (λh1 ad ae=>?_) hk;have keep:∀b o,s.heap.get? b=some o->h1.get? b=some o:=λb o e=>(ae.2 b (aY (aN e))).trans (aT _ e);refine⟨ac.keeps keep,PySem.W.kla_codeExpr ?_⟩;obtain⟨t,ht,hq⟩:=hbody qual f c A outer s H Q E (M.deeper _) aa;have G:∀{x:Str}{F:Addr}{u:Option Value},base.IsCell F u->h1.IsCell F u/\H F=none/\F<s.heap.objs.size:=λ{x F u} ⟨o,Y,r⟩=>⟨⟨o,keep _ _ (j.bs _ _ Y).1,r⟩,(j.bs _ _ Y).2,aN (j.bs _ _ Y).1⟩;have L:∀b:Addr,b∉(cxL CX0 P w K mg base N qual (Q1 e) cl f (.ref c) A outer s H E).ex:=λb z=>absurd (show b∈([]:List Addr)from z) (22:);have I:Inv (cxL CX0 P w K mg base N qual (Q1 e) cl f (.ref c) A outer s H E) [] (vs.map some) H { s with heap:=h1,toks:=s.toks+0 }:=by
  refine⟨⟨j.mod,hk,rfl,rfl,bX _,λy z F h1 h2=>hC.inj y z F h1 h2,λy hy=>?_,λy F h _=>?_,λ_=>M.hd,Around.frames_deeper j.frames,.inr ⟨rfl,rfl⟩,λb z=>absurd z (L b),j.bs,j.bsz,λb _ _=>L b,λb z=>absurd z (L b),j.funs,j.frf⟩,rfl,j.bare,Un.kept keep,⟨_,ad,λi y v h1 h2 h3=>?_⟩,λy F h=>?_,j.hok.fresh (8:),λy F h=>?_,λp hp=>absurd (show p∈([]:List (13:))from hp) (22:),j.hok.kept keep,?_⟩
  .have hy:(Q1 e).names.lookup y=some .cell\/(Q1 e).names.lookup y=some .free:=hy;rcases hy with hy | hy
   .exact absurd rfl (hfree _ (dS hy)).1
   .exact hN y hy
  .cases h
  .have hv:vs[i]?=some v:=by
    rw [aM]at h2;cases q:vs[i]? with
    | none=>rw [q]at h2;cases h2
    | some a=>rw [q]at h2;cases h2;rfl
   obtain⟨F,u,e1,e2,e3⟩:=hC.val i y v h1 hv;have h3:(Q1 e).names.lookup y=some .local\/(Q1 e).names.lookup y=some .cell\/(Q1 e).names.lookup y=some .free:=h3;rcases h3 with k | k | k
   .exact absurd rfl (hfree _ (dS k)).2
   .exact absurd rfl (hfree _ (dS k)).1
   .exact⟨u,e3,.inr ⟨.inr k,F,e1,(G (x:=y) e2).1⟩⟩
  .obtain⟨u,hu⟩:=hC.cel y F h;exact⟨u,(G (x:=y) hu).1⟩
  .obtain⟨u,hu⟩:=hC.cel y F h;exact(G (x:=y) hu).2.1
  .rw [aA];exact hC.len
 refine c_ (ht.nox [] _ (vs.map some) H _ I hq) (λu s' hs=>?_) λe s' hs=>hs;obtain⟨v,H',J,rv,q⟩:=hs;exact⟨v,H',J.os,J.bare,J.base,J.hok,rv,q⟩
def S6(i:Nat)(e:Expr)(cl:List (Str×Addr))(sp:Sp):TE:=λσ H Q=>∃f,σ[i]?=some (some (.ref f))/\LamAtC H f e cl/\sp [] H Q E0
theorem Wf{k:Nat}{p:Pos}(C:Bh X.prog X.w X.K X.mg X.base k e cl sp)(hr:Room k X.A)(hN:X.N[i]?=some x:=by rfl)(hv:Vis X.env.scope x:=by first | exact Or.inl rfl | exact cB (7:) | exact cB (cB rfl))
 (hd:(x==("__debug__":Str))=false:=by decide) (hcd:(x==("__classdict__":Str))=false:=by decide):
 PE X (.Call (.Name x p) [] [] pos) (S6 i e cl sp):=by
 intro pins s σ H Q I h;obtain⟨f,L,J,M⟩:=h;refine gT (thn (Rl (pos:=p) hN hv hd hcd pins s σ H (λv H1=>v=.ref f/\H1=H) I ⟨.ref f,L,rfl,rfl⟩) λu U ⟨v,H1,F,Y,ev,eH⟩=>?_);subst ev eH;obtain rfl:u=Value.ref f:=Y;refine PySem.W.callWith_of (P:=λh=>∃fd,h.get? f=some { cls:=.type "function",data:=.func fd }) rfl
  (λh ⟨fd,G⟩=>⟨.frame,.inl rfl,(PySem.W.Looks.ld (part:=none) G).andThen .now⟩) (PySem.evalArgs_none ⟨?_,?_⟩)
 .obtain⟨aa,pm,c,ab,G,hc⟩:=J.ex;exact⟨_,(F.hok f _ G).1⟩
 .refine wpAny_call (eV (C f X.A X.stack U H1 Q E0 hr F.env0 J M) λr s' j=>?_);cases r with
  | error e=>exact j.elim
  | ok fl=>
   cases fl with
   | ret u=>exact F.after j
   | next=>exact False.elim j
   | brk=>exact False.elim j
   | cont=>exact False.elim j
def BE(X:Cx)(C:Addr)(m:Str)(sp:Heap->Sp)(dvs:List V)(ta:TE)(t:TA):TE:=λσ H Q=>ta σ H λx H1=>∃a dx fs,x=.ref a/\H1 a=some (.ins C dx fs)/\fs.lookup m=none/\
 t σ H1 λvs H2=>∀g:Heap,Sub X.base g->R0 X σ g->sp g (.ref a::vs++dvs) H2 Q E0
theorem SI{fd:FuncData}{k:Nat}{sp:Heap->Sp}{pins:List (13:)}{Q:VK}(F:∀g:Heap,Sub X.base g->FnOk X.prog X.w X.K X.mg g CX0 k f fd ps (sp g))(hr:Room k X.A)(hb:Binds X.K fd ps ds)(hd:Vals dvs ds)(hfn:∀x,X.fn x=true)
 (I:Inv X pins σ H s) (r:Vals vs us) (h:∀g:Heap,Sub X.base g->R0 X σ g->sp g (vs++dvs) H Q E0):wpAny (6:) X.A (call (.ref f) us) (EP X pins σ Q) X.xe s:=by
 have G:Vals (vs++dvs) (us++ds):=r.append hd;have h':=h _ I.env0.sub (I.cells hfn);have hl:(us++ds).length=ps.length:=by rw [<-G.length];exact(F _ I.env0.sub).len _ _ _ _ h'
 refine wpAny_call (eV ((F _ I.env0.sub).run X.A X.stack s H ⟨us,[]⟩ (us++ds) (vs++dvs) Q E0 hr I.env0.big (hb s us I.kIn hl) G h') λr s' j=>?_);cases r with
 | error e=>exact j.elim
 | ok J=>
  cases J with
  | ret u=>exact I.after j
  | next=>exact False.elim j
  | brk=>exact False.elim j
  | cont=>exact False.elim j
theorem OT{o:Expr}{m:Str}{fd:FuncData}{k:Nat}{sp:Heap->Sp}{t:TA}(he:PE X o ta)(c:Cls X.K C)(hm:Meth X.K C m f)(F:∀g:Heap,Sub X.base g->FnOk X.prog X.w X.K X.mg g CX0 k f fd ps (sp g))(hr:Room k X.A)(hb:Binds X.K fd ps ds)(hd:Vals dvs ds)(hfn:∀x,X.fn x=true)(ha:PA X (e::es) t)
 (hst:starEach (e::es) X.env=(false,eval e X.env)::starEach es X.env:=by rfl) (hpl:(backTo pos (starEach es X.env)).any (·.1)=false:=by rfl)
 (ht:eval (.Call (.Attribute o m apos) (e::es) [] pos) X.env=(do
  let ov <-eval o X.env
  standAt apos.atName
  let(f,first) <-holding [ov] (getMethod ov m pl)
  callWith pos f first (backTo pos (starEach (e::es) X.env)) (backToKw pos (keywordEach [] X.env))):=by rfl):
 PE X (.Call (.Attribute o m apos) (e::es) [] pos) (BE X C m sp dvs ta t):=by
 intro pins s σ H Q I h;refine PySem.W.methodCall_KW (pl:=pl) (thn (he pins s σ H _ I h) λu J ⟨x,H1,j,L,a,dx,fs,ex,M,l,q⟩=>?_) ht;subst ex;obtain rfl:u=Value.ref a:=L;refine Ur j M c hm l ?_;refine iK (first:=[.ref a]) (h₀:=X.base) I.ok.mod.kin hm.kp (thn (ha pos pins J σ H1 _ j q) λus Y ⟨vs,H2,G,r,U⟩=>⟨G.kIn,?_⟩) hst hpl;exact SI (us:=.ref a::us) (vs:=.ref a::vs) F hr hb hd hfn G (.cons rfl r) U
structure Mt(P:Program)(w:World)(K:Fg)(mg:Str->Option Value)(base:Heap)(C:Addr)(k:Nat)(m:Str)(ps:List Str)(sp:Sp):Prop where
 ex:∃f fd,Meth K C m f/\FnOk P w K mg base CX0 k f fd ps sp/\Binds K fd ps []
section
variable{k:Nat}{m:Str}{o:Expr}{t:TA}
theorem Zp(M:Mt X.prog X.w X.K X.mg X.base C k m ps sp)(c:Cls X.K C)(hr:Room k' X.A)(he:PE X o ta)(hk:k<=k':=by decide)
 (ht:eval (.Call (.Attribute o m apos) [] [] pos) X.env=(do
  let ov <-eval o X.env
  standAt apos.atName
  let(f,first) <-holding [ov] (getMethod ov m pl)
  callWith pos f first (backTo pos (starEach [] X.env)) (backToKw pos (keywordEach [] X.env))):=by rfl):
 PE X (.Call (.Attribute o m apos) [] [] pos) (Mm C m sp [] E0 ta V7):=by
 obtain⟨f,fd,h1,h2,j⟩:=M.ex;exact RP (pl:=pl) he c h1 h2 (hr.mono hk) j .nil Mo ht
theorem Xk(M:Mt X.prog X.w X.K X.mg X.base C k m ps sp)(c:Cls X.K C)(hr:Room k' X.A)(he:PE X o ta)(ha:PA X (e::es) t)(hk:k<=k':=by decide)
 (hst:starEach (e::es) X.env=(false,eval e X.env)::starEach es X.env:=by rfl) (hpl:(backTo pos (starEach es X.env)).any (·.1)=false:=by rfl)
 (ht:eval (.Call (.Attribute o m apos) (e::es) [] pos) X.env=(do
  let ov <-eval o X.env
  standAt apos.atName
  let(f,first) <-holding [ov] (getMethod ov m pl)
  callWith pos f first (backTo pos (starEach (e::es) X.env)) (backToKw pos (keywordEach [] X.env))):=by rfl):
 PE X (.Call (.Attribute o m apos) (e::es) [] pos) (Mm C m sp [] E0 ta t):=by
 obtain⟨f,fd,h1,h2,j⟩:=M.ex;exact T0 (pl:=pl) he c h1 h2 (hr.mono hk) j .nil Mo ha hst hpl ht
theorem Nw:ZO X (.type "int") (λxs H Q=>∃(x:Str)(n:Int),xs=[.str x]/\intText? x=some n/\x.length<=640/\Q (.int n) H):=by
 intro pins s σ H xs j Q I r h;obtain⟨x,n,rfl,h1,h2,q⟩:=h;obtain⟨u,rfl,t,rfl⟩:=Uj r;exact PySem.W.KIN.call_text h1 h2 ⟨.int n,H,I.tok _,⟨_,rfl⟩,q⟩
end
end L2
namespace K3
open PySem L2
def sh(m:Int):List Nat:=if m<0 then 45::D m.natAbs else D m.natAbs
theorem Al(n:Nat):NumText.AllDigits (D n):=λc j=>by
 have h:c∈Zc:=by
  obtain⟨k,F⟩: ∃k,n<10^(k+1):=⟨n,bU (Nat.lt_pow_self (by decide:1<10)) (gP (9:) (dP n))⟩;exact(Z5 k n F).2.2.1 c j
 have:∀c∈Zc,48<=c/\c<=57:=by decide
 exact this c h
theorem OK(n:Nat):D n≠[]:=by
 obtain⟨k,j⟩: ∃k,n<10^(k+1):=⟨n,bU (Nat.lt_pow_self (by decide:1<10)) (gP (9:) (dP n))⟩;exact(Z5 k n j).1
theorem CF(h:n<10^60):(D n).length<=60:=(Z5 59 n h).2.1
theorem Ak(n:Nat):NumText.digitsVal (D n)=n:=PySem.W.KIN.val_back n
theorem Mg{m:Int}(h:m.natAbs<10^60):intText? (S (sh m))=some m:=by
 have hl:=CF h;unfold sh
 by_cases c:m<0
 .rw [aH c];have:=intText_neg (x:=S (45::D m.natAbs)) (cs:=D m.natAbs) (Q3 _) (Al _) (OK _) (by rw [Qo];simp only [aJ];lia);rw [this,Ak]
  congr 1;lia
 .rw [aF c];have:=intText_digits (x:=S (D m.natAbs)) (by rw [Q3];exact Al _) (by rw [Q3];exact OK _) (by rw [Qo];lia);rw [this,Q3,Ak]
  congr 1;lia
theorem W3{m:Int}(h:m.natAbs<10^60):Word (sh m):=by
 unfold sh
 by_cases c:m<0
 .rw [aH c];exact .neg (Ax h) (Du h (10:))
 .rw [aF c];exact .num (Ax h)
theorem Ug(m:Int):∃c r,sh m=c::r/\(c∈Zc\/c=45):=by
 unfold sh
 by_cases c:m<0
 .rw [aH c];exact⟨45,_,rfl,.inr rfl⟩
 .rw [aF c];cases q:D m.natAbs with
  | nil=>exact absurd q (OK _)
  | cons x r=>
   obtain⟨k,j⟩: ∃k,m.natAbs<10^(k+1):=⟨m.natAbs,bU (Nat.lt_pow_self (by decide:1<10)) (gP (9:) (dP _))⟩;exact⟨x,r,rfl,.inl ((Z5 k _ j).2.2.1 x (by rw [q];exact aL))⟩
theorem Vl(m:Int):∃a,(sh m).getLast?=some a/\a∈Zc:=by
 obtain⟨k,F⟩: ∃k,m.natAbs<10^(k+1):=⟨m.natAbs,bU (Nat.lt_pow_self (by decide:1<10)) (gP (9:) (dP _))⟩;have j:=Z5 k _ F;have e:(sh m).getLast?=(D m.natAbs).getLast?:=by
  unfold sh;split
  .cases q:D m.natAbs with
   | nil=>exact absurd q j.1
   | cons x r=>rw [List.getLast?_cons_cons]
  .rfl
 rw [e];exact⟨_,hV j.1,j.2.2.1 _ (List.getLast_mem j.1)⟩
end K3
namespace K12
open PySem L2 K3
abbrev Gu:Stmt:=inClass ZN 0
abbrev WU:Stmt:=inClass ZN 1
abbrev JG:Stmt:=inClass ZN 2
abbrev Vv:Stmt:=inClass ZN 3
abbrev JE:Stmt:=inClass ZN 4
abbrev M4:Stmt:=inClass ZN 5
abbrev UF:Stmt:=inClass ZN 6
abbrev Y8:Stmt:=inClass ZN 7
abbrev Uz:Stmt:=inClass ZN 8
abbrev Ud:Stmt:=inClass ZN 9
abbrev Ri:Stmt:=inClass ZN 10
def rdV(l:Addr)(v:V):List (Str×V):=[("found",.ref l),("spot",v)]
def rd(l:Addr)(n:Nat):List (Str×V):=rdV l (.int (n:Int))
theorem P5(l:Addr)(n:Nat)(v:V):ZW "spot" v (rd l n)=rdV l v:=by
 unfold rd rdV;rw [Pc (1:),Sz]
structure RdAt(C:Addr)(H:Hp)(r l:Addr)(ws:List (5:))(n:Nat):Prop where
 ins:∃dx,H r=some (.ins C dx (rd l n))
 fl:H l=some (.lst (W ws))
theorem RdAt.same{ws:List (5:)}(g:Same H H')(h:RdAt C H r l ws n):RdAt C H' r l ws n:=by
 obtain⟨⟨dx,h1⟩,h2⟩:=h;exact⟨⟨dx,g _ _ h1⟩,g _ _ h2⟩
structure RdT(K:Fg)(mg:Str->Option Value)(C:Addr):Prop where
 cl:Cls K C
 nf:NoAttr K C "found"
 ns:NoAttr K C "spot"
 mgC:mg "Reader"=some (.ref C)
def ah(ws:List (5:))(n:Nat):List Nat:=(ws[n]?).getD []
def beg(w sg:List Nat):Bool:=match w with
 | []=>false
 | c::_=>decide (c∈sg)
def Us:List Nat:=Zc++[45]
def VW:Sp:=λvs H Q _=>∃(w sg:List Nat),vs=[.str (S w),.str (S sg)]/\w.length<=100/\Q (.bl (beg w sg)) H
def Ub(C:Addr):Sp:=λvs H Q _=>∃(r l:Addr)(ws:List (5:))(n:Nat),vs=[.ref r]/\RdAt C H r l ws n/\n<=ws.length/\Q (.str (S (ah ws n))) H
def Nv(C:Addr)(sg:List Nat):Sp:=λvs H Q _=>∃(r l:Addr)(ws:List (5:))(n:Nat),vs=[.ref r]/\RdAt C H r l ws n/\n<=ws.length/\(ah ws n).length<=100/\Q (.bl (beg (ah ws n) sg)) H
def YI(C:Addr):Sp:=λvs H Q _=>∃(r l:Addr)(ws:List (5:))(n:Nat)(c:List Nat),vs=[.ref r,.str (S c)]/\RdAt C H r l ws n/\n<=ws.length/\(ah ws n≠c->Q (.bl false) H)/\(ah ws n=c->∀H',SameX r H H'->RdAt C H' r l ws (n+1)->Q (.bl true) H')
def OL(C:Addr):Sp:=λvs H Q _=>∃(r l:Addr)(ws:List (5:))(n:Nat)(c:List Nat),vs=[.ref r,.str (S c)]/\RdAt C H r l ws n/\n<=ws.length/\ah ws n=c/\∀H',SameX r H H'->RdAt C H' r l ws (n+1)->Q .non H'
def T8(C:Addr):Sp:=λvs H Q _=>∃(r l:Addr)(ws:List (5:))(n:Nat),vs=[.ref r]/\RdAt C H r l ws n/\n=ws.length/\Q .non H
def Vn(C:Addr):Sp:=λvs H Q _=>∃(r l:Addr)(ws:List (5:))(n:Nat),vs=[.ref r]/\RdAt C H r l ws n/\n<=ws.length/\∀H',SameX r H H'->RdAt C H' r l ws (n+1)->Q (.str (S (ah ws n))) H'
def VJ(C:Addr):Sp:=λvs H Q _=>∃(r l:Addr)(ws:List (5:))(n:Nat),vs=[.ref r]/\RdAt C H r l ws n/\n<=ws.length/\(ah ws n).length<=100/\beg (ah ws n) QK=true/\∀H',SameX r H H'->RdAt C H' r l ws (n+1)->Q (.str (S (ah ws n))) H'
def Vf(C:Addr):Sp:=λvs H Q _=>∃(r l:Addr)(ws:List (5:))(n:Nat)(i:Int),vs=[.ref r]/\RdAt C H r l ws n/\n<=ws.length/\(ah ws n).length<=100/\beg (ah ws n) Us=true/\intText? (S (ah ws n))=some i/\∀H',SameX r H H'->RdAt C H' r l ws (n+1)->Q (.int i) H'
def GY(C:Addr):Sp:=λvs H Q _=>∃(r dx:Addr)(z:List Nat)(ws:List (5:)),vs=[.ref r,.str (S z)]/\H r=some (.ins C dx [])/\z.length<=5000/\Writ z ws/\∀(l:Addr)(H':Hp),SameX r H H'->RdAt C H' r l ws 0->Q .non H'
theorem RdAt.step{ws:List (5:)}(h:RdAt C H r l ws n)(hx:H r=some (.ins C dx (rd l n))):RdAt C (upd H r (.ins C dx (ZW "spot" (.int ((n:Int)+1)) (rd l n)))) r l ws (n+1):=by
 refine⟨⟨dx,?_⟩,?_⟩
 .rw [Qb,P5];rfl
 .rw [Qi (ne_of h.fl hx (23:))];exact h.fl
theorem ah_at{ws:List (5:)}(h:n<ws.length):(W ws)[n]?=some (.str (S (ah ws n))):=by
 unfold W ah;rw [aM,aE h];rfl
section
variable{K:Fg}{fd:FuncData}
theorem Pb:FnScope ["word","signs"] ["word","signs"] (defScope Vy):=(0:)
theorem No(F:Fun K "begins_in" "begins_in" Vy f fd):FnOk P w K mg base CX0 1 f fd ["word","signs"] VW:=by
 refine F.ok Pb (λG H Q E h=>?_) (λL A j s H G Q E M h=>?_)
 .obtain⟨u,J,rfl,_⟩:=h
  rfl
 obtain⟨u,J,rfl,U,q⟩:=h;refine⟨_,(Qh (Qn (VR (Z0 Jq (pv 0) Qj (QB _)) (J9 (Z0 Yt (Qk ZG (pv 0) Qf (λ_ _=>rfl)) (pv 1) (by with_unfolding_all rfl)))))),?_⟩
 try dsimp only [QW,Cx.nox]
 cases u with
 | nil=>
  refine⟨_,rfl,rfl,_,rfl,?_⟩;have e:decide (V.str (S [])=V.str (Str.ofString ""))=true:=aV (by rw [Yg]);rw [e];exact Q7 q
 | cons c u=>
  refine⟨_,rfl,rfl,_,rfl,?_⟩;have e:decide (V.str (S (c::u))=V.str (Str.ofString ""))=false:=bM (by rw [Yg];exact Uk (22:));rw [e];refine Q2 ⟨_,rfl,_,_,c,rfl,rfl,(by rw [Qo];exact QA (10:)),atS (k:=0) rfl,_,rfl,_,_,rfl,rfl,?_⟩;rw [Q3];exact q
theorem T4:FnScope ["self"] ["self"] (defScope WU):=(0:)
theorem OM(F:Fun K "ahead" "Reader.ahead" WU f fd)(G:Gm mg)(T:RdT K mg C):FnOk P w K mg base CX0 1 f fd ["self"] (Ub C):=by
 refine F.ok T4 (λU H Q E h=>?_) (λY A M s H U Q E hr h=>?_)
 .obtain⟨r,l,J,n,rfl,_⟩:=h
  rfl
 obtain⟨r,l,J,n,rfl,L,hn,q⟩:=h;refine⟨_,(Qd (QC (Qu Zw (Vc (pv 0) rfl) (Qv Qy rfl G.len bJ (Qa (Vc (pv 0) rfl) Qc)) (QB _)) (Qh (Qn Qj)) Qt)
  (Qh (Qn (Qk QD (Vc (pv 0) rfl) (Vc (pv 0) rfl) (λ_ _=>rfl))))),?_⟩
 try dsimp only [QW,Cx.nox]
 refine L2.let1 ?_
 intros
 obtain⟨dx,j⟩:=L.ins;refine⟨_,rfl,r,C,dx,_,_,rfl,j,T.cl,T.ns,rfl,_,rfl,r,C,dx,_,_,rfl,j,T.cl,T.nf,rfl,l,_,rfl,.inl (SqL.of L.fl),rfl,_,rfl,?_⟩;rw [An]
 by_cases h:n=J.length
 .refine XF (by rw [h]) ?_;have e:ah J n=[]:=by unfold ah;rw [eZ (10:)];rfl
  rw [e]at q;show Q (.str (Str.ofString "")) H;rw [Yg];exact q
 .refine Z9 (λz=>h (by injection z with z;lia)) ⟨_,rfl,r,C,dx,_,_,rfl,j,T.cl,T.nf,rfl,_,rfl,r,C,dx,_,_,rfl,j,T.cl,T.ns,rfl,l,_,_,_,rfl,rfl,SqL.of L.fl,QL (ah_at (10:)),q⟩
theorem Oc:FnScope ["self"] ["self"] (defScope JG):=(0:)
theorem Np(F:Fun K "at_name" "Reader.at_name" JG f fd)(G:Gm mg)(T:RdT K mg C)(RB:Fn P w K mg base 1 "begins_in" ["word","signs"] VW)(MA:Mt P w K mg base C 1 "ahead" ["self"] (Ub C)):FnOk P w K mg base CX0 2 f fd ["self"] (Nv C QK):=by
 obtain⟨tl,hl⟩:=G.lets;refine F.ok Oc (λU H Q E h=>?_) (λaa A M s H U Q E J h=>?_)
 .obtain⟨r,l,j,n,rfl,_⟩:=h
  rfl
 obtain⟨r,l,j,n,rfl,L,hn,Y,q⟩:=h;refine⟨_,(Qh (Qn (Qs RB J (Qa (Zp MA T.cl J (pv 0)) (Qa (Zf (v:=.str ZU) rfl hl ⟨_,rfl⟩) Qc))))),?_⟩
 try dsimp only [QW,Cx.nox]
 obtain⟨dx,hx⟩:=L.ins;refine⟨_,rfl,r,dx,_,rfl,hx,rfl,r,l,j,n,rfl,L,hn,ah j n,QK,?_,Y,q⟩;rw [<-U6];rfl
theorem SJ:FnScope ["self"] ["self"] (defScope Vv):=(0:)
theorem PD(F:Fun K "at_number" "Reader.at_number" Vv f fd)(G:Gm mg)(T:RdT K mg C)(RB:Fn P w K mg base 1 "begins_in" ["word","signs"] VW)(MA:Mt P w K mg base C 1 "ahead" ["self"] (Ub C)):FnOk P w K mg base CX0 2 f fd ["self"] (Nv C Us):=by
 obtain⟨tl,hl⟩:=G.figs;refine F.ok SJ (λU H Q E h=>?_) (λaa A M s H U Q E J h=>?_)
 .obtain⟨r,l,j,n,rfl,_⟩:=h
  rfl
 obtain⟨r,l,j,n,rfl,L,hn,Y,q⟩:=h;refine⟨_,(Qh (Qn (Qs RB J (Qa (Zp MA T.cl J (pv 0)) (Qa (Ql Qq (Zf (v:=.str L4) rfl hl ⟨_,rfl⟩) Qj) Qc))))),?_⟩
 try dsimp only [QW,Cx.nox]
 obtain⟨dx,hx⟩:=L.ins;refine⟨_,rfl,r,dx,_,rfl,hx,rfl,r,l,j,n,rfl,L,hn,_,_,rfl,rfl,(1:),ah j n,Us,?_,Y,q⟩;rw [GM,YX,QV];rfl
theorem PJ:FnScope ["self","sign"] ["self","sign"] (defScope JE):=(0:)
theorem Ni(F:Fun K "passed" "Reader.passed" JE f fd)(T:RdT K mg C)(MA:Mt P w K mg base C 1 "ahead" ["self"] (Ub C)):FnOk P w K mg base CX0 2 f fd ["self","sign"] (YI C):=by
 refine F.ok PJ (λM H Q E h=>?_) (λaa A L s H M Q E U h=>?_)
 .obtain⟨r,l,j,n,c,rfl,_⟩:=h
  rfl
 obtain⟨r,l,j,n,c,rfl,J,hn,Y,q2⟩:=h;refine⟨_,(Qd (QC (Qu Jq (Zp MA T.cl U (pv 0)) (pv 1) (QB _)) (Qh (Qn Yq)) Qt)
  (Qd (X0 (pv 0) Qf OY)
  (Qh (Qn Yq)))),?_⟩
 try dsimp only [QW,Cx.nox]
 refine L2.let2 ?_
 intros
 obtain⟨dx,G⟩:=J.ins;refine⟨_,rfl,r,dx,_,rfl,G,rfl,r,l,j,n,rfl,J,hn,_,rfl,rfl,_,rfl,?_⟩
 by_cases h:ah j n=c
 .refine P4 (by rw [h]) ⟨_,rfl,r,C,dx,_,_,rfl,G,T.cl,T.ns,rfl,_,_,rfl,rfl,dx,_,G,(by show 2<1000;decide),?_⟩;exact q2 h _ SameX.upd (J.step G)
 .have e:decide (V.str (S (ah j n))=V.str (S c))=false:=bM (Uk h);rw [e];exact Q2 (Y h)
theorem J4:FnScope ["self","word"] ["self"] (defScope Ud):=(0:)
theorem GI(F:Fun K "take_word" "Reader.take_word" Ud f fd)(T:RdT K mg C)(MA:Mt P w K mg base C 1 "ahead" ["self"] (Ub C)):FnOk P w K mg base CX0 2 f fd ["self"] (Vn C):=by
 refine F.ok J4 (λM H Q E h=>?_) (λY A L s H M Q E U h=>?_)
 .obtain⟨r,l,J,n,rfl,_⟩:=h
  rfl
 obtain⟨r,l,J,n,rfl,G,hn,q⟩:=h;refine⟨_,(Qd (Qm (i:=1) J4.nd rfl (7:) (Zp MA T.cl U (pv 0)))
  (Qd (X0 (pv 0) Qf OY)
  (Qh (Qn (pv 1))))),?_⟩
 try dsimp only [QW,Cx.nox]
 refine L2.let2 ?_
 intros
 obtain⟨dx,j⟩:=G.ins;refine⟨_,rfl,r,dx,_,rfl,j,rfl,r,l,J,n,rfl,G,hn,?_⟩;refine⟨_,rfl,r,C,dx,_,_,rfl,j,T.cl,T.ns,rfl,_,_,rfl,rfl,dx,_,j,(by show 2<1000;decide),_,rfl,?_⟩;exact q _ SameX.upd (G.step j)
theorem LS:FnScope ["self"] ["self"] (defScope Y8):=(0:)
theorem Gc(F:Fun K "take_name" "Reader.take_name" Y8 f fd)(T:RdT K mg C)(MN:Mt P w K mg base C 2 "at_name" ["self"] (Nv C QK))(MW:Mt P w K mg base C 2 "take_word" ["self"] (Vn C)):FnOk P w K mg base CX0 3 f fd ["self"] (VJ C):=by
 refine F.ok LS (λU H Q E h=>?_) (λaa A M s H U Q E J h=>?_)
 .obtain⟨r,l,j,n,rfl,_⟩:=h
  rfl
 obtain⟨r,l,j,n,rfl,G,hn,Y,hb,q⟩:=h;refine⟨_,(Qd (QC (Ya (Q8 (Zp MN T.cl J (pv 0)))) QJ Qt)
  (Qh (Qn (Zp MW T.cl J (pv 0))))),?_⟩
 try dsimp only [QW,Cx.nox]
 refine L2.let1 ?_
 intros
 obtain⟨dx,L⟩:=G.ins;refine⟨_,rfl,r,dx,_,rfl,L,rfl,r,l,j,n,rfl,G,hn,Y,_,rfl,?_⟩;rw [hb];exact Q7 ⟨_,rfl,r,dx,_,rfl,L,rfl,r,l,j,n,rfl,G,hn,q⟩
theorem N6:FnScope ["self"] ["self"] (defScope Uz):=(0:)
theorem Ll(F:Fun K "take_number" "Reader.take_number" Uz f fd)(G:Gm mg)(T:RdT K mg C)(MN:Mt P w K mg base C 2 "at_number" ["self"] (Nv C Us))(MW:Mt P w K mg base C 2 "take_word" ["self"] (Vn C)):FnOk P w K mg base CX0 3 f fd ["self"] (Vf C):=by
 refine F.ok N6 (14:) (λaa A Y s H vs Q E L h=>?_)
 .obtain⟨r,l,j,n,i,rfl,_⟩:=h
  rfl
 obtain⟨r,l,j,n,i,rfl,J,hn,hw,hb,hi,q⟩:=h;refine⟨_,(Qd (QC (Ya (Q8 (Zp MN T.cl L (pv 0)))) QJ Qt)
  (Qh (Qn (QE Nw rfl G.int PyProof.Rows.boot_int (Qa (Zp MW T.cl L (pv 0)) Qc))))),?_⟩
 try dsimp only [QW,Cx.nox]
 refine L2.let1 ?_
 intros
 obtain⟨dx,M⟩:=J.ins;refine⟨_,rfl,r,dx,_,rfl,M,rfl,r,l,j,n,rfl,J,hn,hw,_,rfl,?_⟩;rw [hb];exact Q7 ⟨_,rfl,r,dx,_,rfl,M,rfl,r,l,j,n,rfl,J,hn,λH' g' U=>⟨_,i,rfl,hi,(by rw [Qo];lia),q H' g' U⟩⟩
theorem A9:FnScope ["self","sign"] ["self","sign"] (defScope M4):=(0:)
theorem Ta(F:Fun K "need" "Reader.need" M4 f fd)(T:RdT K mg C)(MP:Mt P w K mg base C 2 "passed" ["self","sign"] (YI C)):FnOk P w K mg base CX0 3 f fd ["self","sign"] (OL C):=by
 refine F.ok A9 (λM H Q E h=>?_) (λaa A L s H M Q E U h=>?_)
 .obtain⟨r,l,j,n,c,rfl,_⟩:=h
  rfl
 obtain⟨r,l,j,n,c,rfl,G,hn,Y,q⟩:=h;refine⟨_,(Qh (QC (Ya (Q8 (Xk MP T.cl U (pv 0) (Qa (pv 1) Qc)))) QJ Qt)),?_⟩
 try dsimp only [QW,Cx.nox]
 obtain⟨dx,hx⟩:=G.ins;exact⟨_,rfl,r,dx,_,rfl,hx,rfl,_,rfl,r,l,j,n,c,rfl,G,hn,λz=>absurd Y z,λ_ H' g' J=>⟨_,rfl,Q7 (q H' g' J)⟩⟩
theorem Wd:FnScope ["self","word"] ["self"] (defScope UF):=(0:)
theorem LP(F:Fun K "need_end" "Reader.need_end" UF f fd)(T:RdT K mg C)(MA:Mt P w K mg base C 1 "ahead" ["self"] (Ub C)):FnOk P w K mg base CX0 2 f fd ["self"] (T8 C):=by
 refine F.ok Wd (λL H Q E h=>?_) (λY A J s H L Q E M h=>?_)
 .obtain⟨r,l,j,n,rfl,_⟩:=h
  rfl
 obtain⟨r,l,j,n,rfl,G,hn,q⟩:=h;refine⟨_,(Qd (Qm (i:=1) Wd.nd rfl (7:) (Zp MA T.cl M (pv 0)))
  (Qh (QC (Qu Jq (pv 1) Qj (QB _)) QJ Qt))),?_⟩
 try dsimp only [QW,Cx.nox]
 refine L2.let1 ?_
 intros
 obtain⟨dx,U⟩:=G.ins;have e:ah j n=[]:=by unfold ah;rw [eZ (10:)];rfl
 refine⟨_,rfl,r,dx,_,rfl,U,rfl,r,l,j,n,rfl,G,by lia,_,rfl,rfl,_,rfl,P4 ?_ q⟩;rw [e,Yg]
theorem Bz:FnScope ["self","text"] ["self","text"] (defScope Gu):=(0:)
theorem Ss(F:Fun K "__init__" "Reader.__init__" Gu f fd)(T:RdT K mg C)(RW:Fn P w K mg base 5 "words" ["text"] JI):FnOk P w K mg base CX0 6 f fd ["self","text"] (GY C):=by
 refine F.ok Bz (λY H Q E h=>?_) (λaa A U s H Y Q E hr h=>?_)
 .obtain⟨r,dx,z,G,rfl,_⟩:=h
  rfl
 obtain⟨r,dx,z,G,rfl,J,hz,hw,q⟩:=h;refine⟨_,(Qd (P9 (pv 0) (Qs RW hr (Qa (pv 1) Qc)) rfl)
  (Qh (P9 (pv 0) Qf rfl))),?_⟩
 try dsimp only [QW,Cx.nox]
 refine L2.let1 ?_
 intros
 refine⟨_,rfl,z,G,rfl,hz,hw,λl H' L hl j=>?_⟩;have M:=L _ _ J;have ne:l≠r:=λe=>by rw [e,J]at j;cases j
 refine⟨_,rfl,r,C,dx,_,rfl,M,T.cl,T.nf,(by show 0<1000;decide),?_⟩;refine⟨_,rfl,r,C,dx,_,rfl,Qb,T.cl,T.ns,(by show 1<1000;decide),?_⟩;refine q l _ (((SameX.of L).trans SameX.upd).trans SameX.upd) ⟨⟨dx,?_⟩,?_⟩
 .rw [Qb];show some (HO.ins C dx (ZW "spot" _ (ZW "found" _ [])))=_;rw [show ZW "found" (V.ref l) []=([("found",V.ref l)]:List (Str×V))from rfl,Pc (1:)];rfl
 .rw [Qi ne,Qi ne];exact hl
end
end K12
namespace TM
variable{α:Type}
mutual
noncomputable def sz:Tree α->Nat
 | .node _ _ bs=>1+szs bs
noncomputable def szs:List (Tree α)->Nat
 | []=>0
 | t::r=>sz t+szs r
end
mutual
noncomputable def lv:Tree α->Nat
 | .node _ _ bs=>1+lvs bs
noncomputable def lvs:List (Tree α)->Nat
 | []=>0
 | t::r=>max (lv t) (lvs r)
end
theorem AC(t:Tree α):sz t=1+szs t.bs:=by cases t;simp [sz,Tree.bs]
theorem ZP(t:Tree α):lv t=1+lvs t.bs:=by cases t;simp [lv,Tree.bs]
theorem Uc:∀ts:List (Tree α),((ts.map λt=>(sz t:Int)).sum)=(szs ts:Int)
 | []=>by simp [szs]
 | t::r=>by rw [aR,cY,Uc r];simp [szs]
theorem T9{ts:List (Tree α)}{t:Tree α}(h:t∈ts):sz t<=szs ts:=by
 induction ts with
 | nil=>cases h
 | cons u r j=>
  simp only [szs];rcases aQ.mp h with rfl | h
  .lia
  .have:=j h;lia
theorem UX{ts:List (Tree α)}{t:Tree α}(h:t∈ts):lv t<=lvs ts:=by
 induction ts with
 | nil=>cases h
 | cons u r j=>
  simp only [lvs];rcases aQ.mp h with rfl | h
  .lia
  .have:=j h;lia
variable{R:Rows α}{K:Nat->List Int}{B:Nat->Tree α}{o0:Tree α}
end TM
namespace L2
open PySem PySem.Spec PyProof.Rows
def QO(X:Cx)(N':List Str)(scope:Scope)(cl:List (Str×Addr))(C:Addr)(fp:List Addr)(s0:Shared)(H₀:Hp):Cx:=
 { X with N:=N',s0:=s0,H₀:=H₀,env:=compEnvC scope cl C X.env,outer:=X.stack,ex:=fp,fn:=λ_=>false,pn:=[],xe:=λ_ _=>False }
def PF(X:Cx)(ifs:List Expr)(t:TT):Prop:=
 ∀(pins:List (13:))(s:Shared)(σ:St)(H:Hp)(Q:Bool->Hp->Prop),Inv X pins σ H s->t σ H Q->
  wpAny (6:) X.A (forIn ifs true λc r=>if r=true then do let ok <-isTrue c X.env (eval c X.env);pure (ForInStep.yield ok)else pure (ForInStep.yield r)) (TP X pins σ Q) X.xe s
theorem Zg:PF X [] (λ_ H Q=>Q true H):=by
 intro pins s σ H Q I h;rw [List.forIn_nil];exact aG ⟨H,I,h⟩
theorem AX{c:Expr}{t:TT}(hc:PT X c t):PF X [c] t:=by
 intro pins s σ H Q I h;rw [List.forIn_cons];refine aD ?_;rw [aH rfl];refine aD (thn (hc pins s σ H Q I h) λok j q=>aG ?_);dsimp only;rw [List.forIn_nil];exact aG q
def T6(wi:TI)(cap:List Nat)(tt:TT)(te:TE):TE:=λσ H Q=>wi σ H λJ H1=>∀acc,H1 acc=none->∃W:Nat->Nat->Hp->Prop,(∃m,W 0 m (upd H1 acc (.lst [])))/\∀i m H2,W i m H2->
 (J.stop i H2/\Q (.ref acc) H2)\/(J.go i H2/\∀x H3,J.yld i H2 x H3->tt (some x::cap.map λj=>(σ[j]?).getD none) H3 λok H4=>if ok=true then
  te (some x::cap.map λj=>(σ[j]?).getD none) H4 (λy H5=>∃ys,H5 acc=some (.lst ys)/\ys.length<sizeLine/\∃m',m'<m/\W (i+1) m' (upd H5 acc (.lst (ys++[y]))))
  else ∃m',m'<m/\W (i+1) m' H4)
structure CompOk(X:Cx)(x:Str)(caps:List Str)(cap:List Nat)(scope:Scope)(cl:List (Str×Addr)):Prop where
 clos:closureFor scope X.env=pure cl
 cell:∀y∈scope.names,y.2≠.cell
 kind:scope.kind=.function
 names:∀y∈scope.names,y.2=.local->scope.names.lookup y.1=some .local
 lx:scope.names.lookup x=some .local
 nd:(x::caps).Nodup
 from_:∀y c,cl.lookup y=some c->X.env.cells.lookup y=some c
 has:∀y,((relabel scope X.env).names.lookup y=some .cell\/(relabel scope X.env).names.lookup y=some .free)->∃c,cl.lookup y=some c
 len:cap.length=caps.length
 cps:∀(i:Nat)(y:Str),caps[i]?=some y->∃j,cap[i]?=some j/\X.N[j]?=some y/\X.env.scope.names.lookup y=some .cell/\(relabel scope X.env).names.lookup y=some .cell
structure OwnAt(X:Cx)(pins:List (13:))(H:Hp)(s:Shared)(C:Addr):Prop where
 ns:∃m,s.heap.Ns C m
 free:H C=none
 loc:C≠X.env.locals
 above:X.s0.heap.objs.size<=C
 cells:∀x c,X.env.cells.lookup x=some c->c≠C
 pins:∀p∈X.pn++pins,p.1≠C
theorem N2
 (O:CompOk X x caps cap scope cl) (hc:X.calm=true) (hi:PI X (.Name x px) iter wi)
 (ht:∀C fp s0 H₀,PF (QO X (x::caps) scope cl C fp s0 H₀) ifs tt) (he:∀C fp s0 H₀,PE (QO X (x::caps) scope cl C fp s0 H₀) elt te)
 (hs:∀x,foldedSetIterable iter X.env x=pure x) {pins:List (13:)}    {Q:VK}   (I:Inv X pins σ H s)
 (h:T6 wi cap tt te σ H Q)
 (hfin:∀D C H' s',Inv X pins σ H' s'->OwnAt X pins H' s' C->Q (.ref D) H'->compPost (6:) X.A X.xe use QQ (.ref D) C (.ok .next) s'):
 wpAny (6:) X.A (comprehension (.ListComp elt [⟨.Name x px,iter,ifs,0⟩] scope pos) scope X.env pos' (newList []) false (eval iter X.env) use) QQ X.xe s:=by
 refine wpAny_comprehension_free rfl hs O.clos O.kind O.names (thn (hi pins s σ H _ I h) λv s1 h1=>thn h1 λbj s2 h2=>?_);obtain⟨it,fp,tn,J,H1,e,I2,T,t0,f2,hR⟩:=h2;subst e;refine dX (wpAny_newFunctionEnv O.cell (by intro y hy;simp at hy) (λao ap aq=>?_) O.kind);have aj:H1 s2.heap.objs.size=none:=I2.fresh;obtain⟨W,⟨m0,w0⟩,turn⟩:=hR s2.heap.objs.size aj;have G:Inv X pins σ (upd H1 s2.heap.objs.size (.lst [])) { s2 with heap:=s2.heap.push { cls:=.type "list",data:=.seq ([]:List Value).toArray } }:=I2.lnew (t':=s2.toks) (ys:=[]) (its:=[]) .nil (bZ _);generalize ar:({ s2 with heap:=s2.heap.push { cls:=.type "list",data:=.seq ([]:List Value).toArray } }:Shared)=F at ap aq G ⊢;generalize hD:s2.heap.objs.size=D at G w0 turn aj ⊢;generalize a6:upd H1 D (.lst [])=U at G w0;have Y:∀b o,F.heap.get? b=some o->ao.get? b=some o:=λb o e=>(aq.2 b (aY (aN e))).trans (aT _ e);have az:∀b∈fp,U b=none:=λb L=>by
  rw [<-a6,Qi]
  .exact(f2 b L).1
  .intro z;obtain⟨o,e,_⟩:=T.obj _ _ t0 b L;exact absurd (aN e) (by rw [z,hD];exact cO _)
 have ai:U F.heap.objs.size=none:=G.fresh;have ak:∀b∈fp,b≠F.heap.objs.size:=λb L z=>by
  obtain⟨o,e,_⟩:=T.obj _ _ t0 b L;have h2:F.heap.objs.size=s2.heap.objs.size+1:=by rw [<-ar];exact fU ..
  exact absurd (aN e) (by rw [z,h2];exact Nat.not_lt.mpr (dP _))
 have t3:tn 0 ao:=T.keep _ _ _ t0 λb L o e=>Y b o (by rw [<-ar];exact aT _ e);have as:(21:).Ok:=by
  refine⟨G.ok.mod,O.kind,G.ok.glob,G.ok.blt,bX _,λy z c e1 e2=>G.ok.inj y z c (O.from_ y c e1) (O.from_ z c e2),λy hy=>O.has y hy,λy c z _=>(nomatch z),G.ok.hd,G.ok.frames,.inl rfl,λb L=>⟨ak b L,λy c e=>?_⟩,G.bs,bL G.ok.bsz G.sz,λb o e L=>?_,λb L z=>?_,G.stack,G.stkFree⟩
  .exact(f2 b L).2.2.2.2.1 y c (O.from_ y c e)
  .rcases(f2 b L).2.2.2.1 with q | q
   .exact G.ok.noex b o e q
   .exact absurd (bU (aN e) (bL G.ok.bsz q)) (cO _)
  .rcases aQ.mp (G.stkSub b z)with q | q
   .exact(f2 b L).2.1 q
   .exact(f2 b L).2.2.1 q
 have I4:Inv (21:) [] (none::cap.map λj=>(σ[j]?).getD none) U { F with heap:=ao,toks:=F.toks+([]:List (Str×Value)).length }:=by
  obtain⟨m,hn,hl⟩:=id G.loc;refine⟨as,rfl,G.bare,Un.kept Y,⟨_,ap,λi y v e1 e2 e3=>?_⟩,λy c e=>?_,ai,λy c e=>G.freeC y c (O.from_ y c e),λp hp=>(nomatch hp),G.hok.kept Y,?_⟩
  .cases i with
   | zero=>simp at e2
   | succ i=>
    have a7:caps[i]?=some y:=by
     have a0:(x::caps)[i+1]?=some y:=e1
     simpa using a0
    obtain⟨j,hj,hN,hk,au⟩:=O.cps i y a7;have af:(σ[j]?).getD none=some v:=by simpa [hj]using e2
    have a1:σ[j]?=some (some v):=by
     cases q:σ[j]? with
     | none=>rw [q]at af;cases af
     | some a=>rw [q]at af;exact congrArg some af
    obtain⟨u,r,l⟩:=hl j y v hN a1 (.inr (.inl hk));refine⟨u,r,?_⟩;rcases l with⟨k,_⟩ | ⟨k,c,e,z⟩
    .have k':X.env.scope.names.lookup y=some .local:=k;rw [hk]at k';cases k'
    .obtain⟨c',av⟩:=O.has y (.inl au);have:c'=c:=aK ((O.from_ y c' av).symm.trans e);subst this;refine .inr ⟨.inl au,c',av,?_⟩;obtain⟨o,ho,hd⟩:=z;exact⟨o,Y _ _ ho,hd⟩
  .obtain⟨v,o,ho,hd⟩:=G.cell y c (O.from_ y c e);exact⟨v,o,Y _ _ ho,hd⟩
  .show(none::cap.map _).length=(x::caps).length;simp [O.len]
 have fin:∀(H':Hp)(a8:St)(s':Shared),Inv (21:) [] a8 H' s'->Q (.ref D) H'->
  compPost (6:) X.A X.xe use QQ (.ref D) F.heap.objs.size (.ok .next) s':=λH' a8 s' I' q=>by
  obtain⟨m,hn,_⟩:=id I'.loc;have hU:Un (frs X.stack) fp U H' F.heap s'.heap:=I'.base;have a2:HOk X.prog X.w H' s'.heap:=I'.hok;have a9:s'.os=F.os:=I'.os;have I6:Inv X pins σ H' s':=G.call' (ch:=fp) a9 hU a2 I'.bare (λb L=>⟨(f2 b L).2.2.2.1,(f2 b L).2.1,(f2 b L).2.2.2.2⟩);refine hfin D _ H' s' I6 ⟨⟨m,hn⟩,I'.free,Nat.ne_of_gt G.lt,G.sz,λy c e z=>?_,λp hp z=>?_⟩ q
  .obtain⟨v,hv⟩:=G.cell y c e;exact absurd hv.lt (by rw [z];exact cO _)
  .exact absurd (aN (G.pin p hp).1) (by rw [z];exact cO _)
 have ae:∀{H':Hp},(∀b∈fp,H' b=none)->∀b∈fp,U4 (21:) [] H' b:=λhn b L=>
  ⟨hn b L,ak b L,as.exfs b L,.inl L,λy c e=>(f2 b L).2.2.2.2.1 y c (O.from_ y c e),λp hp=>(nomatch hp)⟩
 have al:codeAny (6:) X.A (.compLoop (.ListComp elt [⟨.Name x px,iter,ifs,0⟩] scope pos) 0 (.ref it) (.ref D) (compEnvC scope cl F.heap.objs.size X.env))
  (compPost (6:) X.A X.xe use QQ (.ref D) F.heap.objs.size) { F with heap:=ao,toks:=F.toks+([]:List (Str×Value)).length }:=by
  refine codeAny_loop rfl (λn s'=>∃i a H',Inv (21:) [] (a::cap.map λj=>(σ[j]?).getD none) H' s'/\tn i s'.heap/\(∀b∈fp,H' b=none)/\W i n H') ?_ m0 ⟨0,none,U,I4,t3,az,w0⟩;rintro n s5 ⟨i,a,H5,I5,aw,ax,w5⟩;show wpAny _ _ ((compTurn (.ListComp elt [⟨.Name x px,iter,ifs,0⟩] scope pos) 0 (.ref it) (.ref D) (compEnvC scope cl F.heap.objs.size X.env)).onRaise (λx=>do noteFrame x (compEnvC scope cl F.heap.objs.size X.env);theTreesLotGoes x)) _ _ s5;refine wpAny_noted ?_;rw [compTurn_list];refine aD (wpAny_standAt (aD ?_));have aa:∀{M:Model}{A:Around}{α:Type}{t:Sem α}{P:α->Shared->Prop}{E':Value->Shared->Prop}{s':Shared},wpAny M A t P (λ_ _=>False) s'->wpAny M A t P E' s':=λh=>c_ h (λ_ _ q=>q) λ_ _ z=>z.elim;rcases turn i n H5 w5 with⟨a3,qn⟩ | ⟨go,step⟩
  .refine aa (thn (T.done (21:) rfl rfl rfl hc i [] s5 _ H5 (λ_ _=>False) I5 (ae ax) aw a3) λr s6 ⟨hr,I6⟩=>?_);subst hr;exact aG (fin H5 _ s6 I6 qn)
  .refine aa (thn (T.item (21:) rfl rfl rfl hc i [] s5 _ H5 (λ_ _=>False) I5 (ae ax) aw go) λr s6 ⟨u,hr,h6⟩=>?_);subst hr;refine aD (aa (thn h6 λ_ s7 ⟨y,H7,I7,r7,y7,am,ba⟩=>?_));have bb:=I7.pinned (ae ba) (T.obj _ _ am);have a4:=step y H7 y7;have bc:Loc (21:).env.scope x:=.inl (cR O.lx);refine aD (wpAny_assign_Name (UT (i:=0) bb O.nd rfl bc r7 (λs8 I8=>?_) (.inr (cR O.lx))));have bd:Inv (21:) ([]++Uq fp s7.heap) (some y::cap.map λj=>(σ[j]?).getD none) H7 s8:=I8;refine aD (aa (thn (ht F.heap.objs.size fp F U _ s8 _ H7 _ bd a4) λbe s9 ⟨H9,I9,q9⟩=>?_));have ag:∀{ab:Hp}{ac:Shared}{m':Nat},Inv (21:) ([]++Uq fp s7.heap) (some y::cap.map λj=>(σ[j]?).getD none) ab ac->m'<n->W (i+1) m' ab->
    ∃m,m<n/\∃i a H',Inv (21:) [] (a::cap.map λj=>(σ[j]?).getD none) H' ac/\tn i ac.heap/\(∀b∈fp,H' b=none)/\W i m H':=λ{ab ac m'} ad hm an=>by
    refine⟨m',hm,i+1,some y,ab,ad.unpinned,T.keep _ _ _ am λb L o e=>(ad.pin (b,o) (bV _ (bV _ (ZS L e)))).1,λb L=>?_,an⟩;obtain⟨o,e,d⟩:=T.obj _ _ am b L;exact(ad.pin (b,o) (bV _ (bV _ (ZS L e)))).2.1
   cases be with
   | false=>
    rw [aF a_]at q9;obtain⟨m',hm,w9⟩:=q9;exact aG ⟨rfl,ag I9 hm w9⟩
   | true=>
    rw [aH rfl]at q9;refine aD (aD (aa (thn (he F.heap.objs.size fp F U _ s9 _ H9 _ I9 q9) λyv ac ⟨yy,ab,ad,bf,ys,bg,a5,m',hm,an⟩=>?_)));refine aD (aa (thn (QM (X:=QO X (x::caps) scope cl F.heap.objs.size fp F U) _ ac _ ab (.ref D) [yy] (.ref D) [yv] (λ_ ay=>W (i+1) m' ay) ad rfl (.cons bf .nil) ⟨D,ys,yy,rfl,rfl,bg,a5,an⟩) λ_ bm ⟨_,ay,bh,_,bi⟩=>?_));exact aG (aG ⟨rfl,ag bh hm bi⟩)
 refine codeAny_compStart_list al (T.self _ 0 _ _ _ t3 al)
theorem OwnAt.go{pins:List (13:)}(I:Inv X pins σ H s)(o:OwnAt X pins H s C)(hb:Heap.SameBut C s.heap h'):Inv X pins σ H { s with heap:=h' }:=
 I.turned (t':=s.toks) (λb u j e=>(hb.2 b j).trans e) o.free o.loc (.inr o.above) o.cells o.pins
theorem Xs
 (O:CompOk X x caps cap scope cl) (hc:X.calm=true) (hi:PI X (.Name x px) iter wi)
 (ht:∀C fp s0 H₀,PF (QO X (x::caps) scope cl C fp s0 H₀) ifs tt) (he:∀C fp s0 H₀,PE (QO X (x::caps) scope cl C fp s0 H₀) elt te)
 (hs:∀x,foldedSetIterable iter X.env x=pure x:=by intro _;rfl):
 PE X (.ListComp elt [⟨.Name x px,iter,ifs,0⟩] scope pos) (T6 wi cap tt te):=by
 intro pins s σ H Q I h;rw [eval_ListComp];exact N2 (use:=none) O hc hi ht he hs I h λD C H' s' j o q=>by
  obtain⟨m,hn⟩:=o.ns;exact⟨m,hn,λh' F=>⟨.ref D,H',o.go j F,rfl,q⟩⟩
def JT(n:Nat)(Pv:Nat->List V->Hp->Prop):Nat->Nat->Hp->Prop:=λi m H=>m=n-i/\i<=n/\∃ys,Pv i ys H
def M3(n:Nat)(Pv:Nat->List V->Hp->Prop)(acc:Addr)(i m:Nat):VK:=λy H5=>∃ys,H5 acc=some (.lst ys)/\ys.length<sizeLine/\∃m',m'<m/\JT n Pv (i+1) m' (upd H5 acc (.lst (ys++[y])))
theorem QI{H5:Hp}(hi:i<n)(hacc:H5 acc=some (.lst ys))(hl:ys.length<5000)(hP:Pv (i+1) (ys++[y]) (upd H5 acc (.lst (ys++[y])))):M3 n Pv acc i (n-i) y H5:=
 ⟨ys,hacc,Nat.lt_trans hl (9:),n-(i+1),by lia,rfl,hi,_,hP⟩
theorem XT(hi:i<n)(hP:Pv (i+1) ys H):∃m',m'<n-i/\JT n Pv (i+1) m' H:=⟨n-(i+1),by lia,rfl,hi,ys,hP⟩
theorem Uu{k:NameKind}{y:Str}:∀{l:List (Str×NameKind)},l.lookup y=some k->∃z∈l,z.2=k
 | [],h=>by simp at h
 | (n,j)::r,h=>by
  cases F:y==n with
  | true=>
   simp only [cW,F]at h;exact⟨(n,j),aL,by cases h;rfl⟩
  | false=>
   simp only [cW,F]at h;obtain⟨z,h1,h2⟩:=Uu h;exact⟨z,aU _ h1,h2⟩
theorem CompOk.plain(hk:scope.kind=.function)(hn:∀z∈scope.names,z.2≠.cell/\z.2≠.free)(hl:∀y∈scope.names,y.2=.local->scope.names.lookup y.1=some .local)(hx:scope.names.lookup x=some .local):
 CompOk X x [] [] scope []:=by
 have e:(relabel scope X.env).names=scope.names:=map_eq_self λz hz=>by
  obtain⟨n,k⟩:=z;have:(k==NameKind.free)=false:=by simpa using(hn _ hz).2
  simp [this]
 refine⟨closureFor_none λz hz=>(hn z hz).2,λz hz=>(hn z hz).1,hk,hl,hx,by simp,λy c h=>(nomatch h),λy j=>?_,rfl,λi y h=>by simp at h⟩;rw [e]at j;rcases j with h | h
 .obtain⟨z,h1,h2⟩:=Uu h;exact absurd h2 (hn z h1).1
 .obtain⟨z,h1,h2⟩:=Uu h;exact absurd h2 (hn z h1).2
theorem J8:∀{ns:List Int}{us:List Value},Vals (ns.map V.int) us->∃xs:List (Int×Tok),us=xs.map (λp=>Value.int p.1 p.2)/\xs.map (·.1)=ns
 | [],_,.nil=>⟨[],rfl,rfl⟩
 | n::ns,_,.cons r rr=>by
  obtain⟨t,e⟩:=r;obtain⟨xs,e1,e2⟩:=J8 rr;exact⟨(n,t)::xs,by rw [e,e1];rfl,by rw [aR,e2]⟩
theorem NL(xs:List (Int×Tok)):intItems xs.toArray=(xs.map (λp=>Value.int p.1 p.2)).toArray:=by
 simp [intItems]
theorem Bl(xs:List (Int×Tok))(j:Nat):numAt xs.toArray j=(xs.map (·.1)).getD j 0:=by rw [numAt_eq]
theorem Mr(xs:List (Int×Tok))(j:Nat):preSum (numAt xs.toArray) j=((xs.map (·.1)).take j).sum:=by rw [preSum_eq]
def Fits(ns:List Int):Prop:=(∀n∈ns,0<=n)/\ns.sum<=1000000000
theorem Uv:∀{ns:List Int},(∀n∈ns,0<=n)->0<=ns.sum
 | [],_=>by simp
 | n::ns,h=>by
  have h1:=h n aL;have h2:=Uv (ns:=ns) λm j=>h m (aU _ j);rw [cY];lia
theorem Fits.le{ns:List Int}(h:Fits ns)(j:Nat):0<=(ns.take j).sum/\(ns.take j).sum<=ns.sum:=by
 have h1:=Uv (ns:=ns.take j) λm F=>h.1 m (cH F);have h2:=Uv (ns:=ns.drop j) λm F=>h.1 m (iH F);have G:ns.sum=(ns.take j).sum+(ns.drop j).sum:=by rw [<-fR,fK]
 lia
theorem GJ(hc:X.calm=true):ZO X (.builtin "sum") (λxs H Q=>∃l ns,xs=[.ref l]/\SqL X.K H l (ns.map V.int)/\Fits ns/\Q (.int ns.sum) H):=by
 intro pins s σ H xs us Q I r h;obtain⟨l,ns,rfl,hl,G,q⟩:=h;cases r with
 | cons r J=>
  cases J;obtain rfl:_=Value.ref l:=r;obtain⟨its,L,p,_⟩:=I.list hl;obtain⟨ys,rfl,e2⟩:=J8 L;have M:s.heap.IsList l (intItems ys.toArray):=by rw [NL];exact p.isList
  refine sum_intList (I.ok.hd hc) M (λj U=>?_) λh' tk t' Y=>⟨.int ns.sum,H,I.kept (t':=tk) Y,⟨t',?_⟩,q⟩
  .have F:j<ns.length:=by rw [<-e2];simpa using U
   have a:=G.le (j+1);have b:=G.1 _ (aO F);have c:=G.le j;have d:(ns.take (j+1)).sum=(ns.take j).sum+ns[j]:=by rw [bE,aE F,fR];simp
   have e:=G.2;rw [Bl,Mr,e2];have f:ns.getD j 0=ns[j]:=by simp [List.getD,aE F]
   rw [f];exact⟨⟨by lia,by lia⟩,⟨by lia,by lia⟩⟩
  .rw [Mr,e2,cQ];rw [<-e2];simp
section
variable{wr:List Addr}{P:Nat->Value->Prop}{St:Nat->Heap->Prop}
end
end L2
namespace Srt
open PySem PySem.W PyProof.Rows
variable{α β:Type}{key:Nat->O.α}
def Ok(O:KeyOrd)(key:Nat->O.α)(n:Nat)(Q:α->Prop):KasT α->Prop
 | .ret a=>Q a
 | .ask i j k=>i<n/\j<n/\Ok O key n Q (k (O.blt (key i) (key j)))
theorem Ok.bind{t:KasT α}{f:α->KasT β}{Q:β->Prop}:Ok O key n (λa=>Ok O key n Q (f a)) t->Ok O key n Q (t.bind f):=by
 induction t with
 | ret a=>exact id
 | ask i j k F=>exact λh=>⟨h.1,h.2.1,F _ h.2.2⟩
theorem Ok.wp{cmp:Nat->Nat->(Bool->Shared->Prop)->Shared->Prop}(hc:∀i j C,i<n->j<n->C (O.blt (key i) (key j)) s->cmp i j C s){G:α->Shared->Prop}{Q:α->Prop}(hq:∀a,Q a->G a s){t:KasT α}:Ok O key n Q t->t.kasWp cmp G s:=by
 induction t with
 | ret a=>exact hq a
 | ask i j k F=>exact λh=>hc i j _ h.1 h.2.1 (F _ h.2.2)
def Pm(n:Nat)(p:Array Nat):Prop:=p.toList.Perm (List.range n)
theorem Pm.size(h:Pm n p):p.size=n:=by
 have:=h.length_eq
 simpa using this
theorem Pm.lt(h:Pm n p)(hi:i<n):p.getD i 0<n:=by
 have j:i<p.size:=by rw [h.size];exact hi
 have e:p.getD i 0=p[i]:=by simp [Array.getD,j]
 rw [e];have:p[i]∈p.toList:=by simp
 exact cN.mp (h.mem_iff.mp this)
theorem Pm.of{q:Array Nat}(h:Pm n p)(e:q.Perm p):Pm n q:=(Array.perm_iff_toList_perm.mp e).trans h
variable(key) in
def kk(p:Array Nat)(i:Nat):O.α:=key (p.getD i 0)
theorem YL{q:Array Nat}(h:p[i]?=q[j]?):kk key p i=kk key q j:=by
 unfold kk;rw [Array.getD_eq_getD_getElem?,Array.getD_eq_getD_getElem?,h]
variable(key) in
def Up(p:Array Nat)(k:Nat):Prop:=∀i j,i<=j->j<k->O.kle (kk key p i) (kk key p j)
variable(key) in
def N1(p:Array Nat)(k:Nat):Prop:=∀i j,i<=j->j<k->O.kle (kk key p j) (kk key p i)
theorem L0(hj:j<=p.size)(k:Nat):kk key (kas_rev p i j) k=if i<=k/\k<j then kk key p (i+j-1-k)else kk key p k:=by
 have e:=getElem?_mirror_all (xs:=p) (i:=i) hj k;unfold kas_rev
 by_cases h:i<=k/\k<j
 .rw [aH h]at e ⊢;exact YL e
 .rw [aF h]at e ⊢;exact YL e
theorem JN(hj:j<=p.size)(heq:∀k,i<=k->k<j->kk key p k=kk key p (j-1))(k:Nat):kk key (kas_rev p i j) k=kk key p k:=by
 rw [L0 hj]
 by_cases h:i<=k/\k<j
 .rw [aH h,heq _ (10:) (10:),heq k h.1 h.2]
 .rw [aF h]
theorem Pm.rev(h:Pm n p)(i j:Nat):Pm n (kas_rev p i j):=h.of (mirror_perm _ _ _ _)
theorem SX{m:Nat}(h1:1<=m)(hs:Up key p m)(h:O.kle (kk key p (m-1)) (kk key p m)):Up key p (m+1):=λi j F J=>by
 by_cases G:j<m
 .exact hs i j F G
 .have:j=m:=by lia
  subst this
  by_cases hi:i=j
  .subst hi;exact fS _
  .exact KeyOrd.kle_trans (hs i (j-1) (10:) (10:)) h
theorem Ua{m:Nat}(h1:1<=m)(hs:N1 key p m)(h:O.kle (kk key p m) (kk key p (m-1))):N1 key p (m+1):=λi j F J=>by
 by_cases G:j<m
 .exact hs i j F G
 .have:j=m:=by lia
  subst this
  by_cases hi:i=j
  .subst hi;exact fS _
  .exact KeyOrd.kle_trans h (hs i (j-1) (10:) (10:))
theorem LF(hP:Pm n p){Q:Nat->Prop}:∀(f m:Nat),1<=m->m+f<=n->Up key p m->(∀m',m<=m'->m'<=m+f->Up key p m'->(m'=m+f\/O.klt (kk key p m') (kk key p (m'-1)))->Q m')->Ok O key n Q (kas_asc p f m)
 | 0,m,_,_,j,h=>h m (8:) (8:) j (.inl rfl)
 | f+1,m,h1,hn,j,h=>by
  refine⟨hP.lt (10:),hP.lt (10:),?_⟩;show Ok O key n Q (if O.blt (kk key p m) (kk key p (m-1))=true then .ret m else kas_asc p f (m+1));cases F:O.blt (kk key p m) (kk key p (m-1))with
  | true=>
   rw [aH rfl];exact h m (8:) (10:) j (.inr F)
  | false=>
   rw [aF a_];exact LF hP f (m+1) (10:) (10:) (SX h1 j F) λm' a b c d=>h m' (10:) (10:) c (by rcases d with d | d;exact .inl (10:);exact .inr d)
variable(key) in
def AY(p:Array Nat)(m q:Nat):Prop:=q+1<=m/\∀i,m-(q+1)<=i->i<m->kk key p i=kk key p (m-1)
theorem Jy{Q:Array Nat×Nat×Nat->Prop}:∀(f:Nat)(p:Array Nat)(m q:Nat),Pm n p->1<=m->m+f<=n->N1 key p m->AY key p m q->
 (∀p' m' q',Pm n p'->m<=m'->m'<=m+f->N1 key p' m'->AY key p' m' q'->Q (p',m',q'))->Ok O key n Q (kas_desc f p m q)
 | 0,p,m,q,F,_,_,J,G,h=>h p m q F (8:) (8:) J G
 | f+1,p,m,q,F,h1,hn,J,G,h=>by
  have aa:=F.size;refine⟨F.lt (10:),F.lt (10:),?_⟩;show Ok O key n Q (if O.blt (kk key p m) (kk key p (m-1))=true then(if q>0 then kas_desc f (kas_rev p (m-(q+1)) m) (m+1) 0 else kas_desc f p (m+1) 0)
   else .ask (p.getD (m-1) 0) (p.getD m 0) λd=>if d=true then .ret (p,m,q)else kas_desc f p (m+1) (q+1))
  have one:∀p':Array Nat,AY key p' (m+1) 0:=λp'=>⟨by lia,λi a b=>by congr 1;lia⟩;cases L:O.blt (kk key p m) (kk key p (m-1))with
  | true=>
   rw [aH rfl];have M:=Ua h1 J (KeyOrd.kle_of_klt L)
   by_cases U:q>0
   .rw [aH U];have e:=JN (key:=key) (p:=p) (i:=m-(q+1)) (j:=m) (10:) G.2;refine Jy f _ (m+1) 0 (F.rev _ _) (10:) (10:) (λi j a b=>by rw [e,e];exact M i j a b) (one _) λp' m' q' a b c d g=>h p' m' q' a (10:) (10:) d g
   .rw [aF U];exact Jy f p (m+1) 0 F (10:) (10:) M (one _) λp' m' q' a b c d g=>h p' m' q' a (10:) (10:) d g
  | false=>
   rw [aF a_];refine⟨F.lt (10:),F.lt (10:),?_⟩;show Ok O key n Q (if O.blt (kk key p (m-1)) (kk key p m)=true then .ret (p,m,q)else kas_desc f p (m+1) (q+1));cases Y:O.blt (kk key p (m-1)) (kk key p m)with
   | true=>
    rw [aH rfl];exact h p m q F (8:) (10:) J G
   | false=>
    rw [aF a_];have he:kk key p m=kk key p (m-1):=KeyOrd.kle_antisymm Y L;refine Jy f p (m+1) (q+1) F (10:) (10:) (Ua h1 J Y) ⟨by have:=G.1;lia,λi a b=>?_⟩ λp' m' q' a b c d g=>h p' m' q' a (10:) (10:) d g;rw [Nat.add_sub_cancel]
    by_cases hi:i=m
    .rw [hi]
    .rw [he];exact G.2 i (10:) (10:)
theorem MG{m:Nat}(hP:Pm n p)(h1:1<=m)(hm:m<=n)(hs:N1 key p m){Q:Nat×Array Nat->Prop}(h:∀m' p',Pm n p'->1<=m'->m'<=n->Up key p' m'->Q (m',p')):Ok O key n Q (kas_tail3 m n p):=by
 have F:=hP.size;refine Ok.bind (LF (hP.rev 0 m) (n-m) m h1 (10:) (λi j G J=>?_) λm' a b c _=>h m' _ (hP.rev 0 m) (10:) (10:) c);rw [L0 (10:),L0 (10:),aH (10:),aH (10:)];exact hs _ _ (10:) (10:)
theorem Jl{m:Nat}(hP:Pm n p)(h1:1<=m)(hm:m+1<=n)(hs:N1 key p (m+1)){Q:Nat×Array Nat->Prop}(h:∀m' p',Pm n p'->1<=m'->m'<=n->Up key p' m'->Q (m',p')):Ok O key n Q (kas_descPart m n p):=by
 refine Ok.bind (Jy (n-(m+1)) p (m+1) 0 hP (10:) (10:) hs ⟨by lia,λi a b=>by congr 1;lia⟩ λp' m' F a b c d g=>?_);have J:=a.size;show Ok O key n Q (if F>0 then kas_tail3 m' n (kas_rev p' (m'-(F+1)) m')else kas_tail3 m' n p')
 by_cases G:F>0
 .rw [aH G];have e:=JN (key:=key) (p:=p') (i:=m'-(F+1)) (j:=m') (10:) g.2;exact MG (a.rev _ _) (10:) (10:) (λi j x y=>by rw [e,e];exact d i j x y) h
 .rw [aF G];exact MG a (10:) (10:) d h
theorem RV(hP:Pm n p)(h1:1<=n){Q:Nat×Array Nat->Prop}(h:∀m' p',Pm n p'->1<=m'->m'<=n->Up key p' m'->Q (m',p')):Ok O key n Q (kas_count n p):=by
 have Y:=hP.size;refine Ok.bind (LF hP (n-1) 1 (8:) (10:) (λi j a b=>?_) λm a b c d=>?_)
 .have:i=j:=by lia
  subst this;exact fS _
 .show Ok O key n Q (if(m==n)=true then .ret (m,p)else if m>1 then .ask (p.getD 0 0) (p.getD (m-1) 0) λc=>if c=true then .ret (m,p)else kas_descPart m n (kas_rev p 0 m)else kas_descPart m n p)
  by_cases J:m=n
  .rw [aH (by simpa using J)];exact h m p hP a (10:) c
  .rw [aF (by simpa using J)];have G:O.klt (kk key p m) (kk key p (m-1)):=by
    rcases d with d | d
    .exact absurd (10:) J
    .exact d
   by_cases L:m>1
   .rw [aH L];refine⟨hP.lt (10:),hP.lt (10:),?_⟩;show Ok O key n Q (if O.blt (kk key p 0) (kk key p (m-1))=true then .ret (m,p)else kas_descPart m n (kas_rev p 0 m));cases M:O.blt (kk key p 0) (kk key p (m-1))with
    | true=>
     rw [aH rfl];exact h m p hP a (10:) c
    | false=>
     rw [aF a_];have F:∀k,0<=k->k<m->kk key p k=kk key p (m-1):=λk _ U=>
      KeyOrd.kle_antisymm (c k (m-1) (10:) (10:)) (KeyOrd.kle_trans M (c 0 k (10:) U))
     have e:=JN (key:=key) (p:=p) (i:=0) (j:=m) (10:) F;refine Jl (hP.rev _ _) (10:) (10:) (Ua (10:) (λi j x y=>?_) ?_) h
     .rw [e,e,F i (10:) (10:),F j (10:) y];exact fS _
     .rw [e,e];exact KeyOrd.kle_of_klt G
   .rw [aF L];have:m=1:=by lia
    subst this;refine Jl hP (8:) (10:) (Ua (8:) (λi j x y=>?_) (KeyOrd.kle_of_klt G)) h;have:i=j:=by lia
    subst this;exact fS _
theorem Xb{k:Nat}(hP:Pm n p)(hk:k<n)(hs:Up key p k){Q:Nat->Prop}
 (h:∀l,l<=k->(∀i,i<l->O.kle (kk key p i) (kk key p k))->(∀i,l<=i->i<k->O.klt (kk key p k) (kk key p i))->Q l):∀(f l r:Nat),l<=r->r<=k->r-l<=f->
  (∀i,i<l->O.kle (kk key p i) (kk key p k))->(∀i,r<=i->i<k->O.klt (kk key p k) (kk key p i))->Ok O key n Q (kas_place p k f l r)
 | 0,l,r,a,b,c,d,e=>by
  have:l=r:=by lia
  subst this;exact h l b d e
 | f+1,l,r,a,b,c,d,e=>by
  show Ok O key n Q (if l>=r then .ret l else .ask (p.getD k 0) (p.getD ((l+r)/2) 0) λc=>if c=true then kas_place p k f l ((l+r)/2)else kas_place p k f ((l+r)/2+1) r)
  by_cases j:l>=r
  .rw [aH j];have:l=r:=by lia
   subst this;exact h l b d e
  .rw [aF j];refine⟨hP.lt hk,hP.lt (10:),?_⟩;show Ok O key n Q (if O.blt (kk key p k) (kk key p ((l+r)/2))=true then kas_place p k f l ((l+r)/2)else kas_place p k f ((l+r)/2+1) r);cases F:O.blt (kk key p k) (kk key p ((l+r)/2))with
   | true=>
    rw [aH rfl];exact Xb hP hk hs h f l ((l+r)/2) (10:) (10:) (10:) d λi x y=>KeyOrd.klt_of_klt_of_kle F (hs _ _ x y)
   | false=>
    rw [aF a_];exact Xb hP hk hs h f ((l+r)/2+1) r (10:) b (10:) (λi x=>KeyOrd.kle_trans (hs i ((l+r)/2) (10:) (10:)) F) e
theorem Wu{k d:Nat}(hs:k<p.size)(hd:d<=k)(i:Nat):kk key (bubble p k d) i=if i=k-d then kk key p k else if k-d<i/\i<=k then kk key p (i-1)else kk key p i:=by
 have e:=getElem?_bubble hs d hd i
 by_cases h1:i=k-d
 .rw [aH h1]at e ⊢;exact YL e
 .rw [aF h1]at e ⊢
  by_cases h2:k-d<i/\i<=k
  .rw [aH h2]at e ⊢;exact YL e
  .rw [aF h2]at e ⊢;exact YL e
theorem PL{Q:Array Nat->Prop}:∀(f:Nat)(p:Array Nat)(k:Nat),Pm n p->1<=k->k+f=n->Up key p k->(∀p',Pm n p'->Up key p' n->Q p')->Ok O key n Q (kas_bin f p k)
 | 0,p,k,F,_,hn,G,h=>h p F (by rw [<-hn];exact G)
 | f+1,p,k,F,h1,hn,G,h=>by
  have L:=F.size;have J:k<n:=by lia
  refine Ok.bind (Xb F J G (λl a b c=>?_) k 0 k (bZ _) (8:) (10:) (λi x=>by lia) λi x y=>by lia);refine PL f _ (k+1) (F.of (bubble_perm _ _ _)) (10:) (10:) (λi j M U=>?_) h;rw [Wu (10:) (10:),Wu (10:) (10:),show k-(k-l)=l by lia]
  repeat' split
  all_goals first
   | (exfalso;lia)
   | exact fS _
   | exact b _ (10:)
   | exact KeyOrd.kle_of_klt (c _ (10:) (10:))
   | exact G _ _ (10:) (10:)
theorem sort_ok(h1:1<=n){Q:Array Nat->Prop}(h:∀p,Pm n p->Up key p n->Q p):Ok O key n Q (kas_sort n):=by
 have F:Pm n (List.toArray (List.range n)):=List.Perm.refl _;refine Ok.bind (RV F h1 λm p a b c d=>?_);show Ok O key n Q (if m<n then kas_bin (n-max m 1) p (max m 1)else .ret p);have G:max m 1=m:=by lia
 by_cases j:m<n
 .rw [aH j,G];exact PL (n-m) p m a b (10:) d h
 .rw [aF j];have:m=n:=by lia
  subst this;exact h p a d
end Srt
namespace L2
open PySem PySem.Spec PyProof.Rows PySem.W
theorem O2{vs:List Value}{P:PySem.Fin->Shared->Prop}(O:KeyOrd)(key:Nat->O.α)(κ:SortKind)(ho:s.heap.get? a=some (seqObj "list" vs.toArray n))(h64:vs.length<64)
 (hk:∀(s':Shared)(Q:SortKind->Shared->Prop),(∀b o,b≠a->s.heap.get? b=some o->s'.heap.get? b=some o)->2<=vs.length->Q κ s'->wpAny (model prog w) A (keyKind' vs.toArray) Q E s')
 (hc:∀(s':Shared)(i j:Nat)(C:Bool->Shared->Prop),(∀b o,b≠a->s.heap.get? b=some o->s'.heap.get? b=some o)->i<vs.length->j<vs.length->C (O.blt (key i) (key j)) s'->wpAny (model prog w) A (keyLt' κ (vs.getD i Value.none) (vs.getD j Value.none)) C (λ_ _=>False) s')
 (h:∀p:Array Nat,Srt.Pm vs.length p->Srt.Up (O:=O) key p vs.length->P (.done (.ret .none)) { s with heap:=sortedHeap s.heap a vs (p.toList.map λi=>vs.getD i Value.none).toArray }):
 wpAny (model prog w) A (Builtin.«list.sort» ⟨[.ref a],[]⟩) P E s:=by
 have aa:a<s.heap.objs.size:=aN ho;rw [list_sort_plain];refine aD (listItems_at ho rfl ?_);refine aD (listUpdate_at ho rfl ?_ (by rw [aX,cZ];lia) (bZ _));obtain⟨e1,L⟩: ∃e1,(s.heap.update a (Obj.mapSeq λ_=>(#[]:Array Value))).get? a=some (seqObj "list" #[] e1):=⟨_,get?_update_seq ho λ_=>#[]⟩;refine aD (seqEpoch_at L rfl (aD (wpAny_newTuple ?_ (by show vs.length<=_;rw [cZ];lia))));refine aD (wpAny_newList (eE ?_) (bZ _));have keep:∀b o,b≠a->s.heap.get? b=some o->((16:).push (seqObj "list" #[] 0)).get? b=some o:=λb o hb e=>
  aT _ (aT _ ((Heap.get?_update_ne _ _ _ _ hb).trans e))
 have F:((16:).push (seqObj "list" #[] 0)).get? a=some (seqObj "list" #[] e1):=aT _ (aT _ L);show wpAny (model prog w) A _ P E { s with heap:=(16:).push (seqObj "list" #[] 0) };dsimp only;have hz:vs.toArray.size=vs.length:=aX
 by_cases h2:vs.toArray.size<2
 .rw [aH h2,aH h2];refine aD (aG ?_);rw [StateT.run_pure];refine aD (aG ?_);dsimp only;refine aD (seqEpoch_at F rfl ?_);have e2:(arrOf (SortSt.mk' general' (vs.toArray.zip vs.toArray) #[] 7 none)).map (·.2)=vs.toArray:=by
   show(vs.toArray.zip vs.toArray).map (·.2)=vs.toArray;apply Array.toList_inj.mp;rw [Array.toList_map,Array.toList_zip];exact List.map_snd_zip (8:)
  rw [e2];refine aD (listUpdate_at F rfl ?_ (hsz2:=by show vs.toArray.size<=_;rw [cZ];lia));simp only [bne_self_eq_false,iL,dH];have:=h (List.range vs.length).toArray (List.Perm.refl _) (λi j ab M=>by
   have:i=j:=by lia
   subst this;exact O.irrefl _)
  have e3:((List.range vs.length).toArray.toList.map λi=>vs.getD i Value.none)=vs:=by
   apply eS (22:);intro i a b;simp at a;simp [a]
  rw [e3]at this;exact aG this
 .rw [aF h2,aF h2];refine aD ?_;refine hk { s with heap:=(16:).push (seqObj "list" #[] 0) } _ keep (10:) ?_;refine aD (c_ (kat_run (Q:=λJ s'=>∃p:Array Nat,Srt.Pm vs.length p/\Srt.Up (O:=O) key p vs.length/\(arrOf J).map (·.2)=(p.toList.map λi=>vs.getD i Value.none).toArray/\failedOf J=none/\
   s'={ s with heap:=(16:).push (seqObj "list" #[] 0) })
   (G:=λp s'=>Srt.Pm vs.length p/\Srt.Up (O:=O) key p vs.length/\s'={ s with heap:=(16:).push (seqObj "list" #[] 0) })
   (vs:=vs) (ks:=vs) rfl (10:) (10:) (λp J s' ac U Y hg=>?_) ?_) (λr s' hq=>?_) λ_ _ e=>e)
  .obtain⟨hP,hU,es⟩:=hg;exact⟨p,hP,hU,kat_snds rfl U,Y,es⟩
  .refine Srt.Ok.wp (O:=O) (key:=key) (n:=vs.length) (λi j C hi M hC=>?_) (Q:=λp=>Srt.Pm vs.length p/\Srt.Up (O:=O) key p vs.length) (λp hp=>⟨hp.1,hp.2,rfl⟩) (Srt.sort_ok (10:) λp a b=>⟨a,b⟩);exact hc { s with heap:=(16:).push (seqObj "list" #[] 0) } i j C keep hi M hC
  .obtain⟨p,o1,o2,o3,o4,rfl⟩:=hq;obtain⟨⟨⟩,J⟩:=r;dsimp only at o3 o4 ⊢;refine aD (seqEpoch_at F rfl ?_);rw [o3];refine aD (listUpdate_at F rfl ?_ (hsz2:=by show(p.toList.map λi=>vs.getD i Value.none).toArray.size<=_;rw [aX,aA,o1.length_eq,gX,cZ];lia));rw [o4];simp only [bne_self_eq_false,iL,dH];exact aG (h p o1 o2)
theorem GK{vs:List Value}(O:KeyOrd)(key:Nat->O.α)(κ:SortKind)(hl:s.heap.IsList l vs.toArray)(h64:vs.length<64)
 (hk:∀(s':Shared)(E':Value->Shared->Prop)(Q:SortKind->Shared->Prop),(∀b o,s.heap.get? b=some o->s'.heap.get? b=some o)->2<=vs.length->Q κ s'->wpAny (model prog w) A.in1.in1 (keyKind' vs.toArray) Q E' s')
 (hc:∀(s':Shared)(i j:Nat)(C:Bool->Shared->Prop),(∀b o,s.heap.get? b=some o->s'.heap.get? b=some o)->i<vs.length->j<vs.length->C (O.blt (key i) (key j)) s'->wpAny (model prog w) A.in1.in1 (keyLt' κ (vs.getD i Value.none) (vs.getD j Value.none)) C (λ_ _=>False) s')
 (h:∀p:Array Nat,Srt.Pm vs.length p->Srt.Up (O:=O) key p vs.length->Q (.ref (s.heap.objs.size+1)) { s with heap:=sortedAll s.heap vs (p.toList.map λi=>vs.getD i Value.none).toArray }):
 wpAny (model prog w) A (call (.builtin "sorted") [.ref l]) Q E s:=by
 refine Calls.call_function_entry kind_sorted plain_sorted entry_sorted (args_sorted1 _) ?_;unfold Builtin.«sorted»;refine aD (m:=checkCount "sorted" 1 1 _) (aG ?_);refine aD (collect_list hl ?_ (by rw [cZ];lia));refine aD (wpAny_newList ?_ (by rw [cZ];lia));have G:((s.heap.push (seqObj "list" #[] 0)).update s.heap.objs.size (Obj.mapSeq (· ++vs.toArray))).objs.size=s.heap.objs.size+1:=by rw [Heap.size_update,size_push']
 have J:(((s.heap.push (seqObj "list" #[] 0)).update s.heap.objs.size (Obj.mapSeq (· ++vs.toArray))).push (seqObj "list" vs.toArray 0)).get? (s.heap.objs.size+1)=some (seqObj "list" vs.toArray 0):=by
  rw [<-G];exact bQ _ rfl
 have keep:∀b o,s.heap.get? b=some o->(((s.heap.push (seqObj "list" #[] 0)).update s.heap.objs.size (Obj.mapSeq (· ++vs.toArray))).push (seqObj "list" vs.toArray 0)).get? b=some o:=λb o e=>by
  have F:b<s.heap.objs.size:=aN e;exact aT _ ((Heap.get?_update_ne _ _ _ _ (aY F)).trans (aT _ e))
 show wpAny _ _ _ _ _ { s with heap:=((s.heap.push (seqObj "list" #[] 0)).update s.heap.objs.size (Obj.mapSeq (· ++vs.toArray))).push (seqObj "list" vs.toArray 0) };rw [G];refine aD (eE (fC slot_list_sort ⟨_,J,rfl⟩ entry_list_sort ?_ (args_list_sort _)));have old:∀(s':Shared),(∀b o,b≠s.heap.objs.size+1->(((s.heap.push (seqObj "list" #[] 0)).update s.heap.objs.size (Obj.mapSeq (· ++vs.toArray))).push (seqObj "list" vs.toArray 0)).get? b=some o->s'.heap.get? b=some o)->∀b o,s.heap.get? b=some o->s'.heap.get? b=some o:=λs' h b o e=>by
  have F:b<s.heap.objs.size:=aN e;exact h b o (λz=>by rw [z]at F;exact absurd F (Nat.not_lt.mpr (dP _))) (keep b o e)
 refine O2 (A:=A.in1.in1) O key κ J h64 (λs' M L h2 U=>hk s' _ M (old s' L) h2 U) (λs' i j C L hi Y hC=>hc s' i j C (old s' L) hi Y hC) λp o1 o2=>⟨_,rfl,aG ⟨_,rfl,h p o1 o2⟩⟩
theorem TF{x y:Addr}{fx sx fy sy:Value}{b:Bool}{C:Bool->Shared->Prop}(hx:s.heap.IsTuple x [fx,sx].toArray)(hy:s.heap.IsTuple y [fy,sy].toArray)
 (hne:x≠y->SeqAt.EqAt A s fx fy false/\wpAny (model prog w) A (oneLt' b fx fy) C (λ_ _=>False) s) (heq:x=y->SeqAt.EqAt A s fx fx true/\SeqAt.EqAt A s sx sx true/\C false s):
 wpAny (model prog w) A (keyLt' (tuples' b) (.ref x) (.ref y)) C E s:=by
 obtain⟨ox,J,cx,nx,dx⟩:=hx;obtain⟨oy,L,cy,ny,j⟩:=hy;refine kat_lt J dx L j ?_
 by_cases h:x=y
 .subst h;obtain rfl:=aK (J.symm.trans L);rw [dx]at j;injection j with e1 e2;have e3:[fx,sx]=[fy,sy]:=by simpa using congrArg Array.toList e1
  injection e3 with e4 M;injection M with U e7;subst e4 U;obtain⟨F,G,Y⟩:=heq rfl;show KatLex prog w A b _ C [(fx,fx),(sx,sx)] 0 s;refine kat_cons (F _ _ _ _ (kat_yes (kat_cons (G _ _ _ _ (kat_yes (kat_nil ?_))))));exact Y
 .obtain⟨F,G⟩:=hne h;show KatLex prog w A b _ C [(fx,fy),(sx,sy)] 0 s;refine kat_cons (F _ _ _ _ (kat_no ?_));have:(b&&(0:Nat)==0)=b:=by simp
  rw [this];exact G
theorem Tp{α:Type}{ts:List α}{d:α}{key:α->O.α}(hP:Srt.Pm ts.length p)(hU:Srt.Up (O:=O) (λi=>key (ts.getD i d)) p ts.length):
 (p.toList.map λi=>ts.getD i d).Perm ts/\(p.toList.map λi=>ts.getD i d).Pairwise λx y=>O.blt (key y) (key x)=false:=by
 constructor
 .have h1:=List.Perm.map (λi=>ts.getD i d) hP;have e:(List.range ts.length).map (λi=>ts.getD i d)=ts:=by
   apply eS (22:);intro i a b;simp at a;simp [a]
  rwa [e]at h1
 .rw [h_];intro i j hi F G;have M:=hP.size;simp only [aA,gQ]at hi F;have:=hU i j (cD G) (10:);unfold KeyOrd.kle Srt.kk at this;have J:p.getD i 0=p[i]:=by simp [Array.getD,hi]
  have L:p.getD j 0=p[j]:=by simp [Array.getD,F]
  rw [J,L]at this
  simpa using this
theorem IsTuple.keeps{h:Heap}{xs:Array Value}(k:∀b o,h.get? b=some o->h'.get? b=some o)(x:h.IsTuple a xs):h'.IsTuple a xs:=by
 obtain⟨o,e,r⟩:=x;exact⟨o,k _ _ e,r⟩
theorem U3{α:Type}{f:α->Addr}:∀{ts:List α}{us:List Value},Vals (ts.map λt=>V.ref (f t)) us->us=ts.map λt=>Value.ref (f t)
 | [],_,.nil=>rfl
 | t::ts,_,.cons r rr=>by
  have e:_=Value.ref (f t):=r;rw [aR,<-U3 rr,<-e]
theorem Wm{α:Type}{f:α->Addr}:∀ts:List α,Vals (ts.map λt=>V.ref (f t)) (ts.map λt=>Value.ref (f t))
 | []=>.nil
 | t::ts=>.cons rfl (Wm ts)
end L2
namespace L2
open PySem PySem.Spec PyProof.Rows
theorem ZH:plainId "dict.update.loop"=true:=by decide+kernel
theorem YM:entryFor table "dict.update.loop"=some Builtin.«dict.update.loop»:=entryFor_of_tree (by kernel_rfl)
theorem Xh:typeLookup (.type "list") "keys"=pure none:=by rw [typeLookup_type,builtinLookup_eq_fast];kernel_rfl
theorem NX{xs:Array Value}{k:Nat}{Q:Option Value->Shared->Prop}(hx:s.heap.get? a=some { cls:=.type "list",dict:=none,data:=.seq xs k,slots:=sl })(hA:A.handled=none)
 (h:∀h' tk,(∀b o,s.heap.get? b=some o->h'.get? b=some o)->Q none { s with heap:=h',toks:=tk }):wpAny (model prog w) A (getAttr? (.ref a) "keys") Q E s:=by
 obtain⟨hp,g,d,tk,L⟩:=s;have J:∀j,(⟨hp,g,d,j,L⟩:Shared).TypeIs (.ref a) "list":=λ_=>⟨_,hx,rfl⟩;have M:=sub_AttributeError;have U:=F.slot_list_getattribute.lookup;have Y:=F.slot_list_getattribute.bind (.ref a);have f5:=am_list_getattr_none;unfold getAttr? getAttrBy? getAttrBy
 repeat (any_goals (first | assumption | exact J _ | ((with_reducible show wpAny _ _ (call (Value.builtin "list.__getattribute__") _ _) _ _ _);refine call_meets F.slot_list_getattribute (J _) am_entry_list_getattribute (F.args_list_getattribute_2 _ _) (meets_getattribute_miss_list a xs k sl "keys" _ Xh (1:)) ⟨hx,hA,λh' j e G=>?_⟩) | wp_step))
 obtain⟨t',u',he⟩:=G.there;show wpAny _ _ (getattributeRaised _ _ _ _ _ _ _) _ _ _;unfold getattributeRaised
 repeat (any_goals (first | assumption | wp_step))
 exact h _ _ G.keeps
theorem Xw{h:Heap}{u:Obj}(ha:h.get? a=some o)(hb:h.get? b=some u)(hc:o.cls≠u.cls):a≠b:=λe=>by
 subst e;rw [ha]at hb;exact hc (congrArg Obj.cls (aK hb))
def Ym(kvs:List (Key×Value)):List (Key×Value)->List (Key×Value)
 | []=>kvs
 | p::r=>Ym (stored kvs p.1 p.2) r
theorem Gw(hA:A.handled=none)(hli:l≠it)(hd0:(d==sysModules)=false):∀(ps:List (Key×Value))(i:Nat)(s:Shared)(kvs:List (Key×Value)),i+ps.length=items.size->s.heap.IsListIter it l i->s.heap.IsList l items->s.heap.DictOf (QH prog w) d kvs->kvs.length+ps.length<=sizeLine->
 (∀(j:Nat)(q:Key×Value),ps[j]?=some q->∃p u,items[i+j]?=some (.ref p)/\(QH prog w).is q.1 u=true/\s.heap.IsTuple p #[u,q.2])->
 (∀h' tk,h'.DictOf (QH prog w) d (Ym kvs ps)->(∀b o,b≠it->b≠d->s.heap.get? b=some o->h'.get? b=some o)->R (.ok (.ret .none)) { s with heap:=h',toks:=tk })->
 codeAny (model prog w) A (.builtin "dict.update.loop" ⟨[.ref d,.ref it,rawInt (i:Int),.none],[]⟩) R s
 | [],i,s,kvs,hk,M,hL,hD,hz,hp,hR=>by
  have W:=Walks.list (prog:=prog) (w:=w) (A:=A.in1) hA it l hli items;have an:i=items.size:=by simpa using hk
  subst an;refine hG YM ?_;rw [iI ZH _];show wpAny _ A.in1 (pyNext (.ref it)>>=_) _ _ s;refine aD (W.done s _ _ ⟨M,hL⟩ λh' tk U=>?_);show wpAny _ A.in1 (Builtin.Dict.addKeywords d []>>=_) _ _ _;refine aD (aG (aG ?_));have Y:d≠it:=by
   obtain⟨o,es,ep,F,L,_⟩:=hD;obtain⟨o2,G,J,_⟩:=M;exact Xw F G (by rw [L.1,J];intro z;injection z with z;exact absurd z (9:))
  exact hR h' tk (hD.extBut (b:=it) (λa o ab e=>U a o (by simpa using ab) e) Y) (λb o h1 _ e=>U b o (by simpa using h1) e)
 | q::ps,i,s,kvs,hk,M,hL,hD,hz,hp,hR=>by
  have W:=Walks.list (prog:=prog) (w:=w) (A:=A.in1) hA it l hli items;obtain⟨p,u,ag,ao,ai⟩:=hp 0 q rfl;rw [Nat.add_zero]at ag;have ap:i<items.size:=by rw [aJ]at hk;lia
  have Y:d≠it:=by
   obtain⟨o,es,ep,F,L,_⟩:=hD;obtain⟨o2,G,J,_⟩:=M;exact Xw F G (by rw [L.1,J];intro z;injection z with z;exact absurd z (9:))
  have aq:d≠l:=by
   obtain⟨o,es,ep,F,L,_⟩:=hD;obtain⟨o2,G,J,_⟩:=hL;exact Xw F G (by rw [L.1,J];intro z;injection z with z;exact absurd z (9:))
  have ac:∀{p:Addr}{xs:Array Value},s.heap.IsTuple p xs->p≠it/\p≠d:=λ{p xs} ht=>by
   obtain⟨o,F,L,_⟩:=ht;obtain⟨o2,G,J,_⟩:=id M;obtain⟨o3,es,ep,ar,as,_⟩:=id hD;exact⟨Xw F G (by rw [L,J];intro z;injection z with z;exact absurd z (9:)),Xw F ar (by rw [L,as.1];intro z;injection z with z;exact absurd z (9:))⟩
  refine hG YM ?_;rw [iI ZH _];show wpAny _ A.in1 (pyNext (.ref it)>>=_) _ _ s;refine aD (W.item i s _ _ ap ⟨M,hL⟩ λv h' tk hP ad U=>?_);obtain rfl:v=.ref p:=aK ((show items[i]?=some v from hP).symm.trans ag);have ae:∀b o,b≠it->s.heap.get? b=some o->h'.get? b=some o:=λb o hb e=>U b o (by simpa using hb) e;have aj:h'.IsTuple p #[u,q.2]:=by
   obtain⟨o,F,r⟩:=id ai;exact⟨o,ae _ _ (ac ai).1 F,r⟩
  obtain⟨o,F,L,n,ak⟩:=id aj;refine aD (eE ?_);refine aD (wpAny_tryCatch ?_);unfold Builtin.Dict.pairItems;refine aD (wpAny_typeOf (T:="tuple") (s:={ s with heap:=h',toks:=tk }) ⟨o,F,L⟩ ?_);rw [aH (1:)];refine aD ?_;show wpAny _ A.in1 (load p>>=_) _ _ _;refine aD (wpAny_load F ?_);rw [ak];refine aG (aG ?_);have au:h'.DictOf (QH prog w) d kvs:=hD.extBut (b:=it) (λa o ab e=>ae a o ab e) Y;refine eE (wpAny_dictSet_pairs (s:={ s with heap:=h',toks:=tk }) ao au (λaf al hs=>?_) (by rw [aJ]at hz;lia));have am:af.IsListIter it l (i+1):=by
   obtain⟨o,F,r⟩:=ad.1;exact⟨o,(hs.2 it (bW Y)).trans F,r⟩
  have av:af.IsList l items:=by
   obtain⟨o,F,r⟩:=ad.2;exact⟨o,(hs.2 l (bW aq)).trans F,r⟩
  have aa:∀b o,b≠it->b≠d->s.heap.get? b=some o->af.get? b=some o:=λb o h1 h2 e=>(hs.2 b h2).trans (ae b o h1 e);have az:(stored kvs q.1 q.2).length<=kvs.length+1:=by
   unfold stored;split
   .rw [aA];lia
   .rw [aI];simp
  refine aG ⟨plainId_quiet ZH _,?_⟩;refine Gw hA hli hd0 ps (i+1) _ (stored kvs q.1 q.2) (by rw [aJ]at hk;lia) am av al (by rw [aJ]at hz;lia) (λj r hj=>?_) λh3 aw ax ay=>?_
  .obtain⟨p',u',e1,e2,e3⟩:=hp (j+1) r (by simpa using hj);refine⟨p',u',by rw [<-e1];congr 1;lia,e2,?_⟩;obtain⟨o,F,rr⟩:=id e3;exact⟨o,aa _ _ (ac e3).1 (ac e3).2 F,rr⟩
  .exact hR h3 aw ax λb o h1 h2 e=>ay b o h1 h2 (aa b o h1 h2 e)
theorem GN{ps:List (Key×Value)}(hA:A.handled=none)(hb:sysModules<s.heap.objs.size){ol:Obj}{nl:Nat}(hl:s.heap.get? l=some ol)(hlc:ol.cls=.type "list")(hld:ol.dict=none)(hlt:ol.data=.seq items nl)(hz:ps.length<=sizeLine)(hn:ps.length=items.size)
 (hp:∀(j:Nat)(q:Key×Value),ps[j]?=some q->∃p u,items[j]?=some (.ref p)/\(QH prog w).is q.1 u=true/\s.heap.IsTuple p #[u,q.2])
 (h:∀h' tk,h'.DictOf (QH prog w) s.heap.objs.size (Ym [] ps)->(∀b o,s.heap.get? b=some o->h'.get? b=some o)->Q (.ref s.heap.objs.size) { s with heap:=h',toks:=tk }):
 wpAny (model prog w) A (call (.type "dict") [.ref l]) Q E s:=by
 refine callType_codes (Q₁:=λU ab=>U=.ref s.heap.objs.size/\ab={ s with heap:=s.heap.push { cls:=.type "dict",data:=.dict #[] } }) F.kt_called_dict (F.kt_typeCall_dict_1 _) F.entry_dict_init (kt_code_dict_new _ ⟨rfl,rfl⟩) ?_;rintro U ab ⟨rfl,rfl⟩;have G:(s.heap.push { cls:=.type "dict",data:=.dict #[] }).DictOf (QH prog w) s.heap.objs.size []:=Heap.DictOf.new s.heap;have L:(s.heap.push { cls:=.type "dict",data:=.dict #[] }).get? l=some ol:=aT _ hl;have hT:({ s with heap:=s.heap.push { cls:=.type "dict",data:=.dict #[] } }:Shared).TypeIs (.ref l) "list":=⟨_,L,hlc⟩;obtain⟨c1,d1,t1,s1⟩:=ol;simp only at hlc hld hlt;subst hlc hld hlt;refine⟨G.typeIs,F.args_dict_init_2 _ _,?_⟩;unfold Builtin.«dict.__init__»;refine aD ?_;unfold Builtin.Dict.selfAndRest;refine aD (wpAny_notOrdered_dict G.typeIs ?_);show wpAny _ _ (pure (s.heap.objs.size,[Value.ref l])) _ _ _;refine aG ?_;show wpAny _ _ (Builtin.Dict.updateFrom "dict.__init__" s.heap.objs.size (.ref l) [] .none) _ _ _;unfold Builtin.Dict.updateFrom;refine aD (wpAny_typeOf hT ?_);rw [aH (9:)];refine aD (NX L hA λh2 ac J=>?_);simp only [Option.isNone_none,if_true];refine aD (wpAny_rule ?_);have Y:h2.IsList l items:=⟨_,J _ _ L,rfl,nl,rfl⟩;refine aD (gW (s:={ s with heap:=h2,toks:=ac }) Y ?_);have aa:l<h2.objs.size:=aN (J _ _ L);have ae:s.heap.objs.size<h2.objs.size:=by
  obtain⟨o,es,ep,M,_⟩:=id G;exact aN (J _ _ M)
 have ad:h2.DictOf (QH prog w) s.heap.objs.size []:=by
  obtain⟨o,es,ep,M,r⟩:=id G;exact⟨o,es,ep,J _ _ M,r⟩
 have old:∀b o,s.heap.get? b=some o->h2.get? b=some o:=λb o e=>J b o (aT _ e);refine aG ⟨plainId_quiet ZH _,Gw (A:=A.in1) (it:=h2.objs.size) (l:=l) (items:=items) hA (aY aa) (eM.mpr (bW (aY hb))) ps 0 _ [] (by simpa using hn) ⟨_,bQ _ rfl,rfl,rfl⟩ (Y.push _) (ad.push _) (by simpa using hz) (λj q hq=>?_) λh' tk hD hk=>⟨rfl,?_⟩⟩
 .obtain⟨p,u,e1,e2,o,M,r⟩:=hp j q hq;exact⟨p,u,by rw [eG];exact e1,e2,o,aT _ (old _ _ M),r⟩
 .refine h h' tk hD λb o e=>hk b o ?_ ?_ (aT _ (old b o e))
  .exact aY (aN (old b o e))
  .exact aY (aN e)
theorem Lm{kvs:List (Key×Value)}{k:Key}{v:Value}(h:k∉kvs.map (·.1)):stored kvs k v=kvs++[(k,v)]:=by
 unfold stored;rw [aF];intro z;obtain⟨j,h1,h2⟩:=gY.mp z;exact h (aP.mpr ⟨j,h1,b_ h2⟩)
theorem UH:∀(ps kvs:List (Key×Value)),((kvs++ps).map (·.1)).Nodup->Ym kvs ps=kvs++ps
 | [],kvs,_=>by simp [Ym]
 | p::r,kvs,h=>by
  have hn:p.1∉kvs.map (·.1):=λj=>by
   rw [aS,fO]at h;exact h.2.2 _ j _ (22:) rfl
  show Ym (stored kvs p.1 p.2) r=_;rw [Lm hn];have e:kvs++[(p.1,p.2)]++r=kvs++p::r:=by simp
  rw [UH r _ (by rw [e];exact h),e]
theorem Gv{pins:List (13:)}(I:Inv X pins σ H s):∀ts:List (Addr×Str×V),(∀t∈ts,SqT X.K H t.1 [.str t.2.1,t.2.2])->
 ∃ps:List (Key×Value),KV (ts.map λt=>((Sum.inr t.2.1:Key),t.2.2)) ps/\∀(j:Nat)(q:Key×Value),ps[j]?=some q->∃p u,(ts.map λt=>Value.ref t.1)[j]?=some (.ref p)/\(QH X.prog X.w).is q.1 u=true/\s.heap.IsTuple p #[u,q.2]
 | [],_=>⟨[],.nil,λj q h=>by simp at h⟩
 | t::r,h=>by
  obtain⟨ps,h1,h2⟩:=Gv I r λu J=>h u (aU _ J);obtain⟨its,L,p,_⟩:=I.tuple (h t aL);obtain⟨u,v,rfl,ru,F⟩:=L.two;refine⟨(Sum.inr t.2.1,v)::ps,.cons ⟨rfl,F⟩ h1,λj q G=>?_⟩;cases j with
  | zero=>
   have:q=(Sum.inr t.2.1,v):=by simpa using G.symm
   subst this;exact⟨t.1,u,rfl,Xn (k:=Sum.inr t.2.1) ru,p⟩
  | succ j=>
   obtain⟨M,U,e1,e2,e3⟩:=h2 j q (by simpa using G);exact⟨M,U,by simpa using e1,e2,e3⟩
theorem KV.keys'{ps:List (Key×Value)}(r:KV kvs ps):ps.map (·.1)=kvs.map (·.1):=by
 induction r with
 | nil=>rfl
 | cons h _ j=>rw [aR,aR,j,h.1]
theorem ZB(hc:X.calm=true):ZO X (.type "dict") (λxs H Q=>∃(l:Addr)(ts:List (Addr×Str×V)),xs=[.ref l]/\SqL X.K H l (ts.map λt=>V.ref t.1)/\(∀t∈ts,SqT X.K H t.1 [.str t.2.1,t.2.2])/\(ts.map λt=>t.2.1).Nodup/\ts.length<=1000/\
 ∀d,H d=none->Q (.ref d) (upd H d (.dK (ts.map λt=>((Sum.inr t.2.1:Key),t.2.2))))):=by
 intro pins s σ H xs us Q I r h;obtain⟨l,ts,rfl,hl,ht,J,hz,q⟩:=h;cases r with
 | cons r rr=>
  cases rr;obtain rfl:_=Value.ref l:=r;obtain⟨its,rv,⟨o,n,e,c,dn,dt⟩,_⟩:=I.list hl;obtain rfl:=U3 rv;obtain⟨ps,F,L⟩:=Gv I ts ht;have G:ps.length=ts.length:=by have:=F.length;rw [aA]at this;exact this.symm
  have M:ps.length<=sizeLine:=by rw [G,cZ];lia
  refine GN (I.ok.hd hc) I.big e c dn dt M (by rw [aX,aA];exact G) (λj q hq=>by simpa using L j q hq) λh' tk hD hk=>?_;have U:((([]:List (Key×Value))++ps).map (·.1)).Nodup:=by
   rw [hJ,KV.keys' F,aZ];have e2:(ts.map ((λx:Key×V=>x.1)∘λt=>((Sum.inr t.2.1:Key),t.2.2)))=(ts.map λt=>t.2.1).map (Sum.inr:Str->Key):=by rw [aZ];rfl
   rw [e2];exact List.Pairwise.map _ (λa b Y z=>Y (by injection z)) J
  rw [UH ps [] U,hJ]at hD;have aa:=I.hok.fresh (bX s.heap.objs.size);refine⟨.ref s.heap.objs.size,_,I.laid (a:=s.heap.objs.size) (o:=.dK (ts.map λt=>((Sum.inr t.2.1:Key),t.2.2))) (t':=tk) hk (8:) (Rj (by rw [aA,cZ];lia) (eM.mpr (bW (aY I.big))) F hD),rfl,q _ aa⟩
theorem Um:∀{bs:List Bool}{us:List Value},Vals (bs.map V.bl) us->us=bs.map Value.bool
 | [],_,.nil=>rfl
 | b::bs,_,.cons r rr=>by
  have e:_=Value.bool b:=r;rw [aR,<-Um rr,<-e]
theorem U5(hc:X.calm=true):ZO X (.builtin "all") (λxs H Q=>∃(l:Addr)(bs:List Bool),xs=[.ref l]/\SqL X.K H l (bs.map V.bl)/\Q (.bl (bs.all id)) H):=by
 intro pins s σ H xs us Q I r h;obtain⟨l,bs,rfl,hl,q⟩:=h;cases r with
 | cons r U=>
  cases U;obtain rfl:_=Value.ref l:=r;obtain⟨its,Y,p,_⟩:=I.list hl;obtain rfl:=Um Y;have L:=p.isList;have M:l<s.heap.objs.size:=by obtain⟨_,e,_⟩:=L;exact aN e
  refine call_all_walk (gW L ?_);refine⟨s.heap.objs.size,[s.heap.objs.size,l],[s.heap.objs.size],(bs.map Value.bool).toArray.size,_,_,λi=>(bs[i]?).getD true,rfl,Walks.list (A:=X.A.in1) (I.ok.hd hc) _ l (aY M) (bs.map Value.bool).toArray,⟨⟨_,bQ _ rfl,rfl,rfl⟩,L.push _⟩,λi v s' Q' E' hP hQ=>?_,λh' tk hk=>?_⟩
  .have j:(bs.map Value.bool)[i]?=some v:=by simpa using hP
   rw [aM]at j;cases F:bs[i]? with
   | none=>rw [F]at j;simp at j
   | some b=>
    rw [F]at j;obtain rfl:Value.bool b=v:=by simpa using j
    have G:Q' ((bs[i]?).getD true) s':=hQ;rw [F]at G;exact dI G
  .have e:((List.range (bs.map Value.bool).toArray.size).all λi=>(bs[i]?).getD true)=bs.all id:=by
    rw [aX,aA,fF,List.all_eq_true,List.all_eq_true];constructor
    .intro h x hx;obtain⟨i,hi,rfl⟩:=iJ hx;have:=h i (cN.mpr hi);rw [aE hi]at this;exact this
    .intro h i hi;have J:=cN.mp hi;rw [aE J];exact h _ (aO J)
   rw [e];exact⟨.bl _,H,I.kept (t':=tk) (λb o F=>hk b o (λhm=>by rw [bD.mp hm]at F;exact cO _ (aN F)) (aT _ F)),rfl,q⟩
end L2
namespace L2
open PySem PySem.Spec PyProof.Rows PySem.W
@[reducible] def strOrd:KeyOrd:=⟨List Nat,λa b=>decide (a<b),λa=>strKind.irrefl a,λa b c=>strKind.trans a b c,λa b c=>strKind.negTrans a b c,λa b=>strKind.total a b⟩
abbrev PNx:=Addr×Str×Addr×List Str
def PairN(h:Heap)(t:PNx):Prop:=∃(tk:Tok)(as:List Addr),h.IsTuple t.1 [Value.str t.2.1 tk,Value.ref t.2.2.1].toArray/\Reads h (.ref t.2.2.1) (.tuple (t.2.2.2.map PyData.str)) as
theorem PairN.keeps{h:Heap}{t:PNx}(k:∀b o,h.get? b=some o->h'.get? b=some o)(x:PairN h t):PairN h' t:=by
 obtain⟨tk,j,h1,h2⟩:=x;exact⟨tk,j,IsTuple.keeps k h1,Reads.keeps k h2⟩
theorem MZ{K:Fg}:∀p:List Str,RdAll K H (p.map V.str) (p.map PyData.str)
 | []=>.nil
 | i::r=>.cons (.str i) (MZ r)
theorem Gh:∀p:List Str,(∀x∈p,PyData.strOk x=true)->PyData.canLayAll0 (p.map PyData.str)=true
 | [],_=>by simp [PyData.canLayAll0]
 | i::r,h=>by simp only [aR,PyData.canLayAll0,PyData.canLay0,Gh r λx j=>h x (aU _ j),h i aL,dO]
theorem XC{h:Heap}:∀{ts:List PNx},(∀t∈ts,PairN h t)->∃fs:List Value,KatTups h (ts.map λt=>Value.ref t.1) fs/\(∀v∈fs,∃x t,v=Value.str x t)/\fs.length=ts.length
 | [],_=>⟨[],KatTups.nil,λv hv=>(nomatch hv),rfl⟩
 | t::r,ht=>by
  obtain⟨tk,L,⟨o,go,j,n,F⟩,_⟩:=ht t aL;obtain⟨fs,h1,h2,G⟩:=XC λu J=>ht u (aU _ J);refine⟨Value.str t.2.1 tk::fs,KatTups.cons go j F rfl h1,λv hv=>?_,by simp [G]⟩;rcases aQ.mp hv with rfl | hv
  .exact⟨_,_,rfl⟩
  .exact h2 v hv
theorem O9{t u:PNx}{C:Bool->Shared->Prop}(ht:PairN s.heap t)(hu:PairN s.heap u)(hok:∀x∈t.2.2.2,PyData.strOk x=true)(hd:t.1≠u.1->t.2.1≠u.2.1)(hA:A.units+2<cLine)(h:C (decide (t.2.1.cps.toList<u.2.1.cps.toList)) s):wpAny (model prog w) A (keyLt' (tuples' true) (.ref t.1) (.ref u.1)) C E s:=by
 obtain⟨tk,as,h1,G⟩:=ht;obtain⟨F,aa,J,g4⟩:=hu;have j:(PyData.tuple (t.2.2.2.map PyData.str)).canLay0=true:=by simp only [PyData.canLay0];exact Gh _ hok
 have ab:(PyData.tuple (t.2.2.2.map PyData.str)).depth<=1:=by simp only [PyData.depth,JP];lia
 refine TF h1 J (λL=>?_) (λM=>?_)
 .refine⟨?_,oneLt_str h⟩;have e:=(eqGives_str t.2.1 u.2.1 tk F).at A s;have:(t.2.1==u.2.1)=false:=by simpa using hd L
  rw [this]at e;exact e
 .refine⟨?_,?_,?_⟩
  .have e:=(eqGives_str t.2.1 t.2.1 tk tk).at A s
   simpa using e
  .have e:=SeqAt.eqAt_reads _ _ A s _ _ _ _ G G j j (10:);rw [Yn _ j]at e;exact e
  .have e1:t.2.1=u.2.1:=by
    obtain⟨o,e,_,n,d⟩:=h1;obtain⟨o2,e2,_,n2,U⟩:=J;rw [M,e2]at e;cases e;rw [d]at U;injection U with Y z2;have z3:[Value.str t.2.1 tk,Value.ref t.2.2.1]=[Value.str u.2.1 F,Value.ref u.2.2.1]:=by simpa using congrArg Array.toList Y
    injection z3 with z4 z5;injection z4
   rw [<-e1,bM (List.lt_irrefl _)]at h;exact h
theorem VH(hu:X.A.units+4<cLine):ZO X (.builtin "sorted") (λxs H Q=>∃(l:Addr)(ts:List PNx),xs=[.ref l]/\SqL X.K H l (ts.map λt=>V.ref t.1)/\(∀t∈ts,SqT X.K H t.1 [.str t.2.1,.ref t.2.2.1]/\SqT X.K H t.2.2.1 (t.2.2.2.map V.str)/\∀x∈t.2.2.2,PyData.strOk x=true)/\(ts.map λt=>t.2.1).Nodup/\ts.length<64/\
 ∀(out:List PNx) p,out.Perm ts->(out.Pairwise λx y=>¬y.2.1.cps.toList<x.2.1.cps.toList)->H p=none->Q (.ref p) (upd H p (.lst (out.map λt=>V.ref t.1)))):=by
 intro pins s σ H xs us Q I r h;obtain⟨l,ts,rfl,hl,ht,aa,ab,q⟩:=h;cases r with
 | cons r rr=>
  cases rr;obtain rfl:_=Value.ref l:=r;obtain⟨its,L,p,_⟩:=I.list hl;obtain rfl:=U3 L;have M:∀t∈ts,PairN s.heap t:=λt F=>by
   obtain⟨h1,h2,_⟩:=ht t F;obtain⟨af,r1,p1,_⟩:=I.tuple h1;obtain⟨u,v,rfl,ru,L⟩:=r1.two;cases (show v=Value.ref _ from L);obtain⟨tk,rfl⟩:=(show ∃tk,u=Value.str _ tk from ru);obtain⟨as,q4⟩:=(RdV.tup h2 (MZ _)).reads I (show RelV (.ref t.2.2.1) (.ref t.2.2.1)from rfl);exact⟨tk,as,p1,q4⟩
  let d:PNx:=(0,⟨#[]⟩,0,[])
  have U:∀i,i<ts.length->(ts.map λt=>Value.ref t.1).getD i Value.none=.ref (ts.getD i d).1:=λi hi=>by simp [dA,hi]
  have Y:∀i,i<ts.length->ts.getD i d∈ts:=λi hi=>by simp [dA,hi]
  have ek:(Value.type "str" !=Value.type "tuple")=true:=by decide+kernel
  refine GK strOrd (λi=>(ts.getD i d).2.1.cps.toList) (tuples' true) p.isList (by simpa using ab) (λs' E' Q' J h2 hq=>?_) (λs' i j C J hi G hC=>?_) λpp o1 o2=>?_
  .obtain⟨fs,f1,f2,f3⟩:=XC (h:=s'.heap) λt F=>(M t F).keeps J;refine kat_kind (T:=.type "str") f1 (by rw [f3];rw [aA]at h2;lia) (λv hv=>?_) (1:) (by rw [ek];exact hq);obtain⟨x,t,rfl⟩:=f2 v hv;exact .now
  .rw [aA]at hi G;rw [U i hi,U j G];refine O9 ((M _ (Y i hi)).keeps J) ((M _ (Y j G)).keeps J) (ht _ (Y i hi)).2.2 (λac he=>ac ?_) (by show X.A.units+1+1+2<cLine;lia) hC;have ad:i=j:=by
    have a1:(ts.map λt=>t.2.1)[i]'(by simpa using hi)=(ts.getD i d).2.1:=by simp [dA,hi]
    have a2:(ts.map λt=>t.2.1)[j]'(by simpa using G)=(ts.getD j d).2.1:=by simp [dA,G]
    exact(eR aa).mp (a1.trans (he.trans a2.symm))
   rw [ad]
  .rw [aA]at o1 o2;obtain⟨w1,w2⟩:=Tp (O:=strOrd) (ts:=ts) (d:=d) (key:=λt=>t.2.1.cps.toList) o1 o2;have em:(pp.toList.map λi=>(ts.map λt=>Value.ref t.1).getD i Value.none)=(pp.toList.map λi=>ts.getD i d).map λt=>Value.ref t.1:=by
    rw [aZ];refine eP λi hi=>?_;exact U i (cN.mp (o1.mem_iff.mp hi))
   rw [em];generalize pp.toList.map (λi=>ts.getD i d)=out at w1 w2;obtain⟨e,he⟩:=sortedAll_at s.heap (ts.map λt=>Value.ref t.1) (out.map λt=>Value.ref t.1).toArray;have ae:H (s.heap.objs.size+1)=none:=I.hok.fresh (dP _);refine⟨.ref (s.heap.objs.size+1),_,I.laid (t':=s.toks) (o:=.lst (out.map λt=>V.ref t.1)) (λb o g=>sortedAll_old g) (dP _) ?_,rfl,q out _ w1 (w2.imp λh=>by simpa using h) ae⟩;exact⟨by rw [aA,w1.length_eq,cZ];lia,_,e,Wm out,he⟩
end L2
namespace L2
open PySem PySem.Spec PyProof.Rows
section
variable{pins:List (13:)}
theorem Inv.turnedL(I:Inv X pins σ H s)(k:∀b o,b∉ch->s.heap.get? b=some o->h'.get? b=some o)(hf:∀b∈ch,U4 X pins H b):Inv X pins σ H { s with heap:=h',toks:=t' }:=by
 have F:∀b u,H b=some u->b∉ch:=λb u e z=>by rw [(hf b z).1]at e;cases e
 refine I.step (g':=s.gens) (d':=s.drawn) (ch:=ch) (λb G=>?_) (λb o _ _ j e _=>k b o j e) (λb o _ _ j e _=>⟨o.slots,k b o j e⟩) (λ_ _ _ _ n=>n)
  (λb o j e=>⟨o,k b o j e⟩) (λ_ _ e=>e) (λ_ _ _ e=>e) (λb ps e=>⟨#[],by rw [e];simp⟩) (λm J=>?_) (λb u e=>?_) I.bare
 .obtain⟨f0,L,f2,M,U,Y⟩:=hf b G;exact⟨M,L,U,Y⟩
 .obtain⟨o,es,ep,ho,r⟩:=J;exact⟨o,es,ep,k _ o (λz=>(hf _ z).2.1 rfl) ho,r⟩
 .refine(I.hok b u e).stay (λc v j q=>k c v ?_ q) (λ_ q=>q) λ_ _ q=>q;rcases j with z | z
  .rw [z];exact F b u e
  .exact F c _ z
theorem Inv.turnedNew{o:HO}(I:Inv X pins σ H s)(k:∀b o,b∉ch->s.heap.get? b=some o->h'.get? b=some o)(hf:∀b∈ch,U4 X pins H b)
 (hp:s.heap.objs.size<=a) (new:ObjOk X.prog X.w (upd H a o) h' a o):Inv X pins σ (upd H a o) { s with heap:=h',toks:=t' }:=by
 have hn:H a=none:=I.hok.fresh hp;have G:∀b u,H b=some u->b∉ch:=λb u e z=>by rw [(hf b z).1]at e;cases e
 have lt:∀b u,s.heap.get? b=some u->b≠a:=λb u e=>aY (bU (aN e) hp);refine I.step (g':=s.gens) (d':=s.drawn) (ch:=ch) (λb F=>?_) (λb o _ _ j e _=>k b o j e) (λb o _ _ j e _=>⟨o.slots,k b o j e⟩) (λb u _ e n=>by rw [Qi (lt b u e)];exact n)
  (λb o j e=>⟨o,k b o j e⟩) (λb xs e=>by rw [Qi (Qg e hn)];exact e) (λb u xs e=>by rw [Qi (Qg e hn)];exact e) (λb ps e=>⟨#[],by rw [Qi (Qg e hn),e];simp⟩) (λm J=>?_) (λb u e=>?_) I.bare
 .obtain⟨f0,L,f2,M,U,Y⟩:=hf b F;exact⟨M,L,U,Y⟩
 .obtain⟨o,es,ep,ho,r⟩:=J;exact⟨o,es,ep,k _ o (λz=>(hf _ z).2.1 rfl) ho,r⟩
 .by_cases F:b=a
  .subst F;rw [Qb]at e;cases e;exact new
  .rw [Qi F]at e;refine(I.hok b u e).stay (λc v j q=>k c v ?_ q) (λc q=>by rw [Qi (Qg q hn)];exact q) λc xs q=>by rw [Qi (Qg q hn)];exact q
   rcases j with z | z
   .rw [z];exact G b u e
   .exact G c _ z
end
def Itz(K:Fg)(a b:Addr)(xs ys:List V):It:=
 ⟨λi H=>SqL K H a xs/\SqL K H b ys/\i<xs.length/\i<ys.length,λi H x H'=>∃p u v,H p=none/\x=.ref p/\H'=upd H p (.tup [u,v])/\xs[i]?=some u/\ys[i]?=some v,λi H=>SqL K H a xs/\SqL K H b ys/\(xs.length<=i\/ys.length<=i)⟩
theorem R9{K:Fg}(a b z:Addr)(xs ys:List V)(TI TO i1 i2:Addr)(Ap:ZipApart z TI TO i1 i2 a b):
 Turn P w K (.Tuple elts k1 pos) (Itz K a b xs ys) [z,TI,TO,i1,i2] z (λi h=>IsZip h z TI TO .none/\IsPair h TI (.ref i1) (.ref i2)/\(∃u v,IsPair h TO u v)/\h.IsListIter i1 a i/\h.IsListIter i2 b i) where
 mem:=by simp
 obj:=λi h st c j=>by
  obtain⟨hz,F,⟨u,v,G⟩,h1,h2⟩:=st;simp only [aQ,cG,bN]at j;rcases j with rfl | rfl | rfl | rfl | rfl
  .exact⟨_,hz,λv z=>by have L:Data.fields _=Data.cell v:=z;cases L⟩
  .exact⟨_,F,λv z=>by have L:Data.seq _ _=Data.cell v:=z;cases L⟩
  .exact⟨_,G,λv z=>by have L:Data.seq _ _=Data.cell v:=z;cases L⟩
  .obtain⟨o,e,c,d⟩:=h1;exact⟨o,e,λv z=>by rw [d]at z;cases z⟩
  .obtain⟨o,e,c,d⟩:=h2;exact⟨o,e,λv z=>by rw [d]at z;cases z⟩
 keep:=λi h h' st k=>by
  obtain⟨hz,F,⟨u,v,G⟩,h1,h2⟩:=st;exact⟨k z (22:) _ hz,k TI (22:) _ F,⟨u,v,k TO (22:) _ G⟩,h1.at λo e=>k i1 (22:) o e,h2.at λo e=>k i2 (22:) o e⟩
 item:=by
  intro X hP hw hK j i pins s σ H E I Y st hg;subst hP hw hK;obtain⟨hz,F,⟨u0,v0,G⟩,h1,h2⟩:=st;obtain⟨qa,qb,lx,ly⟩:=hg;obtain⟨its,rv,p,_⟩:=I.list qa;obtain⟨ab,M,p2,_⟩:=I.list qb;have ex:xs[i]?=some xs[i]:=aE lx;have ey:ys[i]?=some ys[i]:=aE ly;obtain⟨u,hu,ru⟩:=rv.get ex;obtain⟨v,hv,ac⟩:=M.get ey;refine wpAny_pyNext_zip_item Ap hz F G h1 h2 p.isList p2.isList (x:=u) (y:=v) (by simpa using hu) (by simpa using hv) λh' a1 a2 a3 a4 a5 a6 hk=>?_;refine⟨.ref s.heap.objs.size,rfl,wpAny_letOwnedTupleGo_zip (s:={ s with heap:=h' }) a1 λaa ad J=>?_⟩;have lt:∀{c o},s.heap.get? c=some o->c≠s.heap.objs.size:=λe=>aY (aN e);have e5:IsPair aa s.heap.objs.size u v:=(J.2 _ (bW (lt hz))).trans a5;have U:∀c∈[z,TO,i1,i2],U4 X pins H c:=λc j=>Y c (by
   simp only [aQ,cG,bN]at j ⊢;rcases j with rfl | rfl | rfl | rfl<;>simp)
  have I2:Inv X pins σ (upd H s.heap.objs.size (.tup [xs[i],ys[i]])) { s with heap:=aa,toks:=s.toks }:=by
   refine I.turnedNew (ch:=[z,TO,i1,i2]) (λc o j e=>?_) U (8:) ⟨by show 2<=sizeLine;decide,[u,v],.cons ru (.cons ac .nil),⟨_,e5,rfl,_,rfl⟩⟩;simp only [aQ,cG,bN,not_or]at j;exact(J.2 c j.1).trans (hk c o j.1 j.2.1 j.2.2.1 j.2.2.2 e)
  have ae:∀c∈[z,TI,TO,i1,i2],upd H s.heap.objs.size (.tup [xs[i],ys[i]]) c=none:=λc j=>by
   have af:=Y c j;have:c≠s.heap.objs.size:=by
    simp only [aQ,cG,bN]at j;rcases j with rfl | rfl | rfl | rfl | rfl
    .exact lt hz
    .exact lt F
    .exact lt G
    .obtain⟨o,e,_⟩:=h1;exact lt e
    .obtain⟨o,e,_⟩:=h2;exact lt e
   rw [Qi this];exact af.1
  exact⟨.ref s.heap.objs.size,_,I2,rfl,⟨s.heap.objs.size,_,_,I.fresh,rfl,rfl,ex,ey⟩,⟨ad,J.extBut _ _ Ap.TIz (hk _ _ Ap.TIz Ap.TITO Ap.TIi1 Ap.TIi2 F),⟨_,_,J.extBut _ _ Ap.TOz a2⟩,a3.extBut J.extBut Ap.i1z,a4.extBut J.extBut Ap.i2z⟩,ae⟩
 done:=by
  intro X hP hw hK j i pins s σ H E I Y st hg;subst hP hw hK;obtain⟨hz,F,⟨u0,v0,G⟩,h1,h2⟩:=st;obtain⟨qa,qb,hl⟩:=hg;obtain⟨its,rv,p,_⟩:=I.list qa;obtain⟨ab,M,p2,_⟩:=I.list qb;have l1:=rv.length;have l2:=M.length;have U:∀c∈[z,TO,i1,i2],U4 X pins H c:=λc j=>Y c (by
   simp only [aQ,cG,bN]at j ⊢;rcases j with rfl | rfl | rfl | rfl<;>simp)
  refine wpAny_pyNext_zip_end (I.ok.hd j) Ap hz F G h1 h2 p.isList p2.isList ?_ λh' hk=>⟨rfl,I.turnedL (t':=s.toks) (ch:=[z,TO,i1,i2]) (λc o j e=>?_) U⟩
  .rcases hl with q | q
   .exact .inl (by simp;lia)
   .exact .inr (by simp;lia)
  .simp only [aQ,cG,bN,not_or]at j;exact hk c o j.1 j.2.1 j.2.2.1 j.2.2.2 e
 self:=λ_ _ _ _ _ st h=>wpAny_pyIter_zip st.1 h
theorem nne{x y:Nat}(h:x<y\/y<x):x≠y:=by lia
def Dx(K:Fg)(ta:TA):TI:=λσ H R=>ta σ H λvs H1=>∃a b xs ys,vs=[.ref a,.ref b]/\SqL K H1 a xs/\SqL K H1 b ys/\R (Itz K a b xs ys) H1
theorem GO{ta:TA}{p:Pos}(hg:Gl X "zip")(hm:X.mg "zip"=none)(ha:PA X [e1,e2] ta)(hs:starEach [e1,e2] X.env=[(false,eval e1 X.env),(false,eval e2 X.env)]:=by rfl)(hs2:starEach [e2] X.env=[(false,eval e2 X.env)]:=by rfl):
 PI X (.Tuple elts k1 tpos) (.Call (.Name "zip" p) [e1,e2] [] pos) (Dx X.K ta):=by
 intro pins s σ H R I h;refine Call_ (YT I hg hm PyProof.Rows.boot_zip (fJ (thn (ha pos pins s σ H _ I h) λus j ⟨vs,H1,F,r1,q1⟩=>?_) (by rw [hs,hs2]) (by rw [hs2];rfl)));obtain⟨a,b,xs,ys,e,qa,qb,q⟩:=q1;subst e;obtain⟨u1,u2,e3,r3,r4⟩:=r1.two;subst e3;cases (show u1=Value.ref a from r3);cases (show u2=Value.ref b from r4);obtain⟨its,rv,L,_⟩:=F.list qa;obtain⟨aa,ab,G,_⟩:=F.list qb;have la:@LT.lt Nat _ a j.heap.objs.size:=by obtain⟨o,n,e,_⟩:=L;exact aN e
 have lb:@LT.lt Nat _ b j.heap.objs.size:=by obtain⟨o,n,e,_⟩:=G;exact aN e
 refine call_zip_2 L.isList G.isList λh' hz M U h1 h2 ac hk=>?_;refine wpAny_pyIter_zip hz ?_;have I2:Inv X pins σ H1 { j with heap:=h' }:=F.kept (t':=j.toks) hk;refine⟨j.heap.objs.size+4,[j.heap.objs.size+4,j.heap.objs.size+2,j.heap.objs.size+3,j.heap.objs.size,j.heap.objs.size+1],_,_,H1,rfl,I2,R9 a b (j.heap.objs.size+4) xs ys (j.heap.objs.size+2) (j.heap.objs.size+3) j.heap.objs.size (j.heap.objs.size+1) ?_,⟨hz,M,⟨_,_,U⟩,h1,h2⟩,λc Y=>?_,q⟩
 .constructor<;>(refine nne ?_;lia)
 .have J:@LE.le Nat _ j.heap.objs.size c:=by
   simp only [aQ,cG,bN]at Y;rcases Y with rfl | rfl | rfl | rfl | rfl<;>lia
  exact F.fpOk J (F.hok.fresh J)
theorem Tf{K:Fg}{D:Ends}(hlen:xs.length=ys.length)(Pv:Nat->St->Hp->Prop)(h0:Pv 0 σ H)(hl:∀i σ H,i<=xs.length->Pv i σ H->SqL K H a xs/\SqL K H b ys)
 (hs:∀i u v p σ H,xs[i]?=some u->ys[i]?=some v->H p=none->Pv i σ H->g (.ref p) σ (upd H p (.tup [u,v])) λσ2 H2=>tb { D with nx:=Pv (i+1),ct:=Pv (i+1),bk:=D.nx } σ2 H2) (hd:∀σ H,Pv xs.length σ H->D.nx σ H):
 ∃W:Nat->Nat->St->Hp->Prop,(∃m,W 0 m σ H)/\∀i m σ H,W i m σ H->
  ((Itz K a b xs ys).stop i H/\D.nx σ H)\/((Itz K a b xs ys).go i H/\∃N:St->Hp->Prop,(∀σ' H',N σ' H'->∃m',m'<m/\W (i+1) m' σ' H')/\∀x H',(Itz K a b xs ys).yld i H x H'->g x σ H' λσ2 H2=>tb { D with nx:=N,ct:=N,bk:=D.nx } σ2 H2):=by
 refine⟨λi m σ H=>m=xs.length-i/\i<=xs.length/\Pv i σ H,⟨xs.length-0,rfl,bZ _,h0⟩,?_⟩;rintro i m σ H ⟨rfl,hi,p⟩;obtain⟨F,G⟩:=hl i σ H hi p
 by_cases h:i<xs.length
 .refine .inr ⟨⟨F,G,h,by lia⟩,Pv (i+1),λσ' H' j=>⟨xs.length-(i+1),by lia,rfl,h,j⟩,?_⟩;rintro x H' ⟨j,u,v,hp,rfl,rfl,J,L⟩;exact hs i u v j σ H J L hp p
 .have e:i=xs.length:=by lia
  subst e;exact .inl ⟨⟨F,G,.inl (8:)⟩,hd σ H p⟩
section
variable{t:Addr}{x:Value}
end
section
variable{p:Pos}{t:TA}{id:String}{ks:List Str}{r:List V->List V->Hp->VK->Prop}
theorem JV{K:Fg}{cs:List (Option V)}{Q:Hp->Prop}(Pv:Nat->List V->Hp->Prop)(h0:Pv 0 [] (upd H1 acc (.lst [])))
 (hl:∀i ys H,i<=xs.length->Pv i ys H->SqT K H a xs)
 (hs:∀i x ys H,i<xs.length->xs[i]?=some x->Pv i ys H->tt (some x::cs) H λok H4=>if ok=true then te (some x::cs) H4 (M3 xs.length Pv acc i (xs.length-i))else ∃m',m'<xs.length-i/\JT xs.length Pv (i+1) m' H4)
 (hd:∀ys H,Pv xs.length ys H->Q H):
 ∃W:Nat->Nat->Hp->Prop,(∃m,W 0 m (upd H1 acc (.lst [])))/\∀i m H2,W i m H2->
  ((Itt K a).stop i H2/\Q H2)\/((Itt K a).go i H2/\∀x H3,(Itt K a).yld i H2 x H3->tt (some x::cs) H3 λok H4=>if ok=true then
    te (some x::cs) H4 (λy H5=>∃ys,H5 acc=some (.lst ys)/\ys.length<sizeLine/\∃m',m'<m/\W (i+1) m' (upd H5 acc (.lst (ys++[y]))))
    else ∃m',m'<m/\W (i+1) m' H4):=by
 refine⟨JT xs.length Pv,⟨xs.length-0,rfl,bZ _,[],h0⟩,?_⟩;rintro i m H2 ⟨rfl,hi,ys,p⟩;have j:=hl i ys H2 hi p
 by_cases h:i<xs.length
 .refine .inr ⟨⟨xs,xs[i],j,aE h⟩,?_⟩;rintro x H3 ⟨rfl,F⟩;exact hs i x ys _ h (F xs j) p
 .have e:i=xs.length:=by lia
  subst e;exact .inl ⟨⟨xs,j,bX _⟩,hd ys H2 p⟩
end
structure CompG(X:Cx)(xs caps:List Str)(cap:List Nat)(scope:Scope)(cl:List (Str×Addr)):Prop where
 clos:closureFor scope X.env=pure cl
 cell:∀y∈scope.names,y.2≠.cell
 kind:scope.kind=.function
 names:∀y∈scope.names,y.2=.local->scope.names.lookup y.1=some .local
 lx:∀x∈xs,scope.names.lookup x=some .local
 nd:(xs++caps).Nodup
 from_:∀y c,cl.lookup y=some c->X.env.cells.lookup y=some c
 has:∀y,((relabel scope X.env).names.lookup y=some .cell\/(relabel scope X.env).names.lookup y=some .free)->∃c,cl.lookup y=some c
 len:cap.length=caps.length
 cps:∀(i:Nat)(y:Str),caps[i]?=some y->∃j,cap[i]?=some j/\X.N[j]?=some y/\X.env.scope.names.lookup y=some .cell/\(relabel scope X.env).names.lookup y=some .cell
def Vo(cap:List Nat)(σ:St):St:=cap.map λj=>(σ[j]?).getD none
def Ve(n:Nat)(wi:TI)(cap:List Nat)(g:TG)(tt:TT)(te:TE):TE:=λσ H Q=>wi σ H λJ H1=>∀acc,H1 acc=none->∃W:Nat->Nat->Hp->Prop,(∃m,W 0 m (upd H1 acc (.lst [])))/\∀i m H2,W i m H2->
 (J.stop i H2/\Q (.ref acc) H2)\/(J.go i H2/\∀x H3,J.yld i H2 x H3->∀as:St,as.length=n->g x (as++Vo cap σ) H3 λσ4 H4=>(∃bs:St,bs.length=n/\σ4=bs++Vo cap σ)/\tt σ4 H4 λok H5=>if ok=true then
  te σ4 H5 (λy H6=>∃ys,H6 acc=some (.lst ys)/\ys.length<sizeLine/\∃m',m'<m/\W (i+1) m' (upd H6 acc (.lst (ys++[y]))))
  else ∃m',m'<m/\W (i+1) m' H5)
theorem V3{xs:List Str}
 (O:CompG X xs caps cap scope cl) (hc:X.calm=true) (hi:PI X tg iter wi) (hg:∀C fp s0 H₀,PG (QO X (xs++caps) scope cl C fp s0 H₀) tg g)
 (ht:∀C fp s0 H₀,PF (QO X (xs++caps) scope cl C fp s0 H₀) ifs tt)
 (hs:∀x,foldedSetIterable iter X.env x=pure x) {pins:List (13:)}    {Q:VK}   (I:Inv X pins σ H s)
 (h:Ve xs.length wi cap g tt te σ H Q)
 (hfin:∀D C H' s',Inv X pins σ H' s'->OwnAt X pins H' s' C->Q (.ref D) H'->compPost (6:) X.A X.xe use QQ (.ref D) C (.ok .next) s')
 (hw:∀{fp:List Addr}{s3:Shared}{H3:Hp}{D:Value}{p9:List (13:)}{s9:Shared}{σ9:St}{H9:Hp}{Q9:VK},Inv X pins σ H3 s3->(∀b∈fp,(b∈X.ex\/X.s0.heap.objs.size<=b)/\b≠X.env.locals/\(∀x c,X.env.cells.lookup x=some c->c≠b)/\∀p∈X.pn++pins,p.1≠b)->Inv (17:) p9 σ9 H9 s9->te σ9 H9 Q9->
  wpAny (6:) X.A (eval elt (compEnvC scope cl s3.heap.objs.size X.env)) (EP (17:) p9 σ9 Q9) (notedBy (6:) X.A (compEnvC scope cl s3.heap.objs.size X.env) (λx s'=>compPost (6:) X.A X.xe use QQ D s3.heap.objs.size (.error x) s')) s9):
 wpAny (6:) X.A (comprehension (.ListComp elt [⟨tg,iter,ifs,0⟩] scope pos) scope X.env pos' (newList []) false (eval iter X.env) use) QQ X.xe s:=by
 refine wpAny_comprehension_free rfl hs O.clos O.kind O.names (thn (hi pins s σ H _ I h) λv s1 h1=>thn h1 λbo Y h2=>?_);obtain⟨it,fp,tn,J,H1,e,I2,T,t0,U,hR⟩:=h2;subst e;refine dX (wpAny_newFunctionEnv O.cell (by intro y hy;simp at hy) (λao aq ar=>?_) O.kind);have aj:H1 Y.heap.objs.size=none:=I2.fresh;obtain⟨W,⟨m0,w0⟩,turn⟩:=hR Y.heap.objs.size aj;have G:Inv X pins σ (upd H1 Y.heap.objs.size (.lst [])) { Y with heap:=Y.heap.push { cls:=.type "list",data:=.seq ([]:List Value).toArray } }:=I2.lnew (t':=Y.toks) (ys:=[]) (its:=[]) .nil (bZ _);generalize au:({ Y with heap:=Y.heap.push { cls:=.type "list",data:=.seq ([]:List Value).toArray } }:Shared)=s3 at aq ar G ⊢;generalize hD:Y.heap.objs.size=D at G w0 turn aj ⊢;generalize a9:upd H1 D (.lst [])=H3 at G w0;have L:∀b o,s3.heap.get? b=some o->ao.get? b=some o:=λb o e=>(ar.2 b (aY (aN e))).trans (aT _ e);have a2:∀b∈fp,H3 b=none:=λb F=>by
  rw [<-a9,Qi]
  .exact(U b F).1
  .intro z;obtain⟨o,e,_⟩:=T.obj _ _ t0 b F;exact absurd (aN e) (by rw [z,hD];exact cO _)
 have ai:H3 s3.heap.objs.size=none:=G.fresh;have ak:∀b∈fp,b≠s3.heap.objs.size:=λb F z=>by
  obtain⟨o,e,_⟩:=T.obj _ _ t0 b F;have h2:s3.heap.objs.size=Y.heap.objs.size+1:=by rw [<-au];exact fU ..
  exact absurd (aN e) (by rw [z,h2];exact Nat.not_lt.mpr (dP _))
 have t3:tn 0 ao:=T.keep _ _ _ t0 λb F o e=>L b o (by rw [<-au];exact aT _ e);have av:(17:).Ok:=by
  refine⟨G.ok.mod,O.kind,G.ok.glob,G.ok.blt,bX _,λy z c e1 e2=>G.ok.inj y z c (O.from_ y c e1) (O.from_ z c e2),λy hy=>O.has y hy,λy c z _=>(nomatch z),G.ok.hd,G.ok.frames,.inl rfl,λb F=>⟨ak b F,λy c e=>?_⟩,G.bs,bL G.ok.bsz G.sz,λb o e F=>?_,λb F z=>?_,G.stack,G.stkFree⟩
  .exact(U b F).2.2.2.2.1 y c (O.from_ y c e)
  .rcases(U b F).2.2.2.1 with q | q
   .exact G.ok.noex b o e q
   .exact absurd (bU (aN e) (bL G.ok.bsz q)) (cO _)
  .rcases aQ.mp (G.stkSub b z)with q | q
   .exact(U b F).2.1 q
   .exact(U b F).2.2.1 q
 have I4:Inv (17:) [] (List.replicate xs.length none++Vo cap σ) H3 { s3 with heap:=ao,toks:=s3.toks+([]:List (Str×Value)).length }:=by
  obtain⟨m,hn,hl⟩:=id G.loc;refine⟨av,rfl,G.bare,Un.kept L,⟨_,aq,λi y v e1 e2 e3=>?_⟩,λy c e=>?_,ai,λy c e=>G.freeC y c (O.from_ y c e),λp hp=>(nomatch hp),G.hok.kept L,?_⟩
  .by_cases aw:i<xs.length
   .rw [List.getElem?_append_left (by rw [dD];exact aw),List.getElem?_replicate,aH aw]at e2;cases e2
   .have ba:caps[i-xs.length]?=some y:=by
     have a3:(xs++caps)[i]?=some y:=e1
     rwa [iP (10:)]at a3
    obtain⟨j,hj,hN,hk,ax⟩:=O.cps _ y ba;have af:(σ[j]?).getD none=some v:=by
     rw [iP (by rw [dD];lia),dD]at e2;unfold Vo at e2
     simpa [hj]using e2
    have a4:σ[j]?=some (some v):=by
     cases q:σ[j]? with
     | none=>rw [q]at af;cases af
     | some a=>rw [q]at af;exact congrArg some af
    obtain⟨u,r,l⟩:=hl j y v hN a4 (.inr (.inl hk));refine⟨u,r,?_⟩;rcases l with⟨k,_⟩ | ⟨k,c,e,z⟩
    .have k':X.env.scope.names.lookup y=some .local:=k;rw [hk]at k';cases k'
    .obtain⟨c',ay⟩:=O.has y (.inl ax);have:c'=c:=aK ((O.from_ y c' ay).symm.trans e);subst this;refine .inr ⟨.inl ax,c',ay,?_⟩;obtain⟨o,ho,hd⟩:=z;exact⟨o,L _ _ ho,hd⟩
  .obtain⟨v,o,ho,hd⟩:=G.cell y c (O.from_ y c e);exact⟨v,o,L _ _ ho,hd⟩
  .show(List.replicate xs.length none++Vo cap σ).length=(xs++caps).length;simp [Vo,O.len]
 have fin:∀(H':Hp)(bb:St)(s':Shared),Inv (17:) [] bb H' s'->Q (.ref D) H'->
  compPost (6:) X.A X.xe use QQ (.ref D) s3.heap.objs.size (.ok .next) s':=λH' bb s' I' q=>by
  obtain⟨m,hn,_⟩:=id I'.loc;have hU:Un (frs X.stack) fp H3 H' s3.heap s'.heap:=I'.base;have a5:HOk X.prog X.w H' s'.heap:=I'.hok;have bc:s'.os=s3.os:=I'.os;have I6:Inv X pins σ H' s':=G.call' (ch:=fp) bc hU a5 I'.bare (λb F=>⟨(U b F).2.2.2.1,(U b F).2.1,(U b F).2.2.2.2⟩);refine hfin D _ H' s' I6 ⟨⟨m,hn⟩,I'.free,Nat.ne_of_gt G.lt,G.sz,λy c e z=>?_,λp hp z=>?_⟩ q
  .obtain⟨v,hv⟩:=G.cell y c e;exact absurd hv.lt (by rw [z];exact cO _)
  .exact absurd (aN (G.pin p hp).1) (by rw [z];exact cO _)
 have ae:∀{H':Hp},(∀b∈fp,H' b=none)->∀b∈fp,U4 (17:) [] H' b:=λhn b F=>
  ⟨hn b F,ak b F,av.exfs b F,.inl F,λy c e=>(U b F).2.2.2.2.1 y c (O.from_ y c e),λp hp=>(nomatch hp)⟩
 have al:codeAny (6:) X.A (.compLoop (.ListComp elt [⟨tg,iter,ifs,0⟩] scope pos) 0 (.ref it) (.ref D) (compEnvC scope cl s3.heap.objs.size X.env))
  (compPost (6:) X.A X.xe use QQ (.ref D) s3.heap.objs.size) { s3 with heap:=ao,toks:=s3.toks+([]:List (Str×Value)).length }:=by
  refine codeAny_loop rfl (λn s'=>∃i as H',as.length=xs.length/\Inv (17:) [] (as++Vo cap σ) H' s'/\tn i s'.heap/\(∀b∈fp,H' b=none)/\W i n H') ?_ m0 ⟨0,_,H3,dD,I4,t3,a2,w0⟩;rintro n s5 ⟨i,as,H5,has,I5,az,a0,w5⟩;show wpAny _ _ ((compTurn (.ListComp elt [⟨tg,iter,ifs,0⟩] scope pos) 0 (.ref it) (.ref D) (compEnvC scope cl s3.heap.objs.size X.env)).onRaise (λx=>do noteFrame x (compEnvC scope cl s3.heap.objs.size X.env);theTreesLotGoes x)) _ _ s5;refine wpAny_noted ?_;rw [compTurn_list];refine aD (wpAny_standAt (aD ?_));have aa:∀{M:Model}{A:Around}{α:Type}{t:Sem α}{P:α->Shared->Prop}{E':Value->Shared->Prop}{s':Shared},wpAny M A t P (λ_ _=>False) s'->wpAny M A t P E' s':=λh=>c_ h (λ_ _ q=>q) λ_ _ z=>z.elim;rcases turn i n H5 w5 with⟨a6,qn⟩ | ⟨go,step⟩
  .refine aa (thn (T.done (17:) rfl rfl rfl hc i [] s5 _ H5 (λ_ _=>False) I5 (ae a0) az a6) λr s6 ⟨hr,I6⟩=>?_);subst hr;exact aG (fin H5 _ s6 I6 qn)
  .refine aa (thn (T.item (17:) rfl rfl rfl hc i [] s5 _ H5 (λ_ _=>False) I5 (ae a0) az go) λr s6 ⟨u,hr,h6⟩=>?_);subst hr;refine aD (aa (thn h6 λ_ s7 ⟨y,H7,I7,r7,y7,am,bd⟩=>?_));have be:=I7.pinned (ae bd) (T.obj _ _ am);have a7:=step y H7 y7 as has;refine aD (aa (thn (hg s3.heap.objs.size fp s3 H3 _ s7 _ H7 y _ _ be r7 a7) λ_ s8 ⟨bq,H8,I8,⟨bs,bf,bn⟩,ap⟩=>?_));subst bn;refine aD (aa (thn (ht s3.heap.objs.size fp s3 H3 _ s8 _ H8 _ I8 ap) λbg s9 ⟨H9,I9,q9⟩=>?_));have ag:∀{ab:Hp}{ac:Shared}{m':Nat},Inv (17:) ([]++Uq fp s7.heap) (bs++Vo cap σ) ab ac->m'<n->W (i+1) m' ab->
    ∃m,m<n/\∃i as H',as.length=xs.length/\Inv (17:) [] (as++Vo cap σ) H' ac/\tn i ac.heap/\(∀b∈fp,H' b=none)/\W i m H':=λ{ab ac m'} ad hm an=>by
    refine⟨m',hm,i+1,bs,ab,bf,ad.unpinned,T.keep _ _ _ am λb F o e=>(ad.pin (b,o) (bV _ (bV _ (ZS F e)))).1,λb F=>?_,an⟩;obtain⟨o,e,d⟩:=T.obj _ _ am b F;exact(ad.pin (b,o) (bV _ (bV _ (ZS F e)))).2.1
   cases bg with
   | false=>
    rw [aF a_]at q9;obtain⟨m',hm,w9⟩:=q9;exact aG ⟨rfl,ag I9 hm w9⟩
   | true=>
    rw [aH rfl]at q9;refine aD (aD (thn (hw G (λb F=>⟨(U b F).2.2.2.1,(U b F).2.1,(U b F).2.2.2.2⟩) I9 q9) λyv ac ⟨yy,ab,ad,bh,ys,bi,a8,m',hm,an⟩=>?_));refine aD (aa (thn (QM (X:=QO X (xs++caps) scope cl s3.heap.objs.size fp s3 H3) _ ac _ ab (.ref D) [yy] (.ref D) [yv] (λ_ a1=>W (i+1) m' a1) ad rfl (.cons bh .nil) ⟨D,ys,yy,rfl,rfl,bi,a8,an⟩) λ_ bp ⟨_,a1,bj,_,bm⟩=>?_));exact aG (aG ⟨rfl,ag bj hm bm⟩)
 refine codeAny_compStart_list al (T.self _ 0 _ _ _ t3 al)
theorem Xl{xs:List Str}
 (O:CompG X xs caps cap scope cl) (hc:X.calm=true) (hi:PI X tg iter wi) (hg:∀C fp s0 H₀,PG (QO X (xs++caps) scope cl C fp s0 H₀) tg g)
 (ht:∀C fp s0 H₀,PF (QO X (xs++caps) scope cl C fp s0 H₀) ifs tt) (he:∀C fp s0 H₀,PE (QO X (xs++caps) scope cl C fp s0 H₀) elt te)
 (hs:∀x,foldedSetIterable iter X.env x=pure x) {pins:List (13:)}    {Q:VK}   (I:Inv X pins σ H s)
 (h:Ve xs.length wi cap g tt te σ H Q)
 (hfin:∀D C H' s',Inv X pins σ H' s'->OwnAt X pins H' s' C->Q (.ref D) H'->compPost (6:) X.A X.xe use QQ (.ref D) C (.ok .next) s'):
 wpAny (6:) X.A (comprehension (.ListComp elt [⟨tg,iter,ifs,0⟩] scope pos) scope X.env pos' (newList []) false (eval iter X.env) use) QQ X.xe s:=
 V3 O hc hi hg ht hs I h hfin λ_ _ j F=>c_ (he _ _ _ _ _ _ _ _ _ j F) (λ_ _ q=>q) λ_ _ G=>G.elim
theorem QY{xs:List Str}
 (O:CompG X xs caps cap scope cl) (hc:X.calm=true) (hi:PI X tg iter wi) (hg:∀C fp s0 H₀,PG (QO X (xs++caps) scope cl C fp s0 H₀) tg g)
 (ht:∀C fp s0 H₀,PF (QO X (xs++caps) scope cl C fp s0 H₀) ifs tt) (he:∀C fp s0 H₀,PE (QO X (xs++caps) scope cl C fp s0 H₀) elt te)
 (hs:∀x,foldedSetIterable iter X.env x=pure x:=by intro _;rfl):
 PE X (.ListComp elt [⟨tg,iter,ifs,0⟩] scope pos) (Ve xs.length wi cap g tt te):=by
 intro pins s σ H Q I h;rw [eval_ListComp];exact Xl (use:=none) O hc hi hg ht he hs I h λD C H' s' j o q=>by
  obtain⟨m,hn⟩:=o.ns;exact⟨m,hn,λh' F=>⟨.ref D,H',o.go j F,rfl,q⟩⟩
theorem WY{xs:List Str}{y:Str}{spos:Pos}
 (O:CompG X xs caps cap scope cl) (hc:X.calm=true) (hi:PI X tg iter wi) (hg:∀C fp s0 H₀,PG (QO X (xs++caps) scope cl C fp s0 H₀) tg g)
 (ht:∀C fp s0 H₀,PF (QO X (xs++caps) scope cl C fp s0 H₀) ifs tt) (he:∀C fp s0 H₀,PE (QO X (xs++caps) scope cl C fp s0 H₀) elt te)
 (hN:X.N.Nodup) (hy:X.N[i]?=some y) (hl:X.env.scope.names.lookup y=some .local)
 (hsw:swapsWith (.ListComp elt [⟨tg,iter,ifs,0⟩] scope pos) (some (.Name y py)) spos.line X.env=pure true:=by rfl)
 (hs:∀x,foldedSetIterable iter X.env x=pure x:=by intro _;rfl):
 PS X (.Assign [.Name y py] (.ListComp elt [⟨tg,iter,ifs,0⟩] scope pos) spos) (Tj (Ve xs.length wi cap g tt te) (Zq i)):=by
 intro pins s σ H D I h;rw [exec_Assign_Name_used _ _ _ _ hsw];refine aD (wpAny_standAt (aD ?_));show wpAny _ X.A (do let _ <-comprehension (.ListComp elt [⟨tg,iter,ifs,0⟩] scope pos) scope X.env _ (newList []) false (eval iter X.env) (some (assign (.Name y py) X.env))) _ _ s;refine aD (thn (Xl (use:=some (assign (.Name y py) X.env)) (QQ:=λ_ s'=>SP X pins D .next s') O hc hi hg ht he hs I h λG C H' s' J o q=>?_) λ_ s' L=>aG (aG L));obtain⟨m,hn⟩:=o.ns;show wpAny _ X.A (assign (.Name y py) X.env (.ref G)) _ _ s';refine wpAny_assign_Name (Wt (v:=.ref G) J hN hy (.inl hl) rfl (λM U j=>?_) (.inr hl));obtain⟨a,j,Y⟩:=j;have F:C≠a:=by
  rcases Y with z | z
  .rw [z];exact o.loc
  .exact bW (o.cells y a z)
 have o2:OwnAt X pins H' M C:=⟨⟨m,hn.sameBut j F⟩,o.free,o.loc,o.above,o.cells,o.pins⟩;refine⟨m,hn.sameBut j F,λh' hb=>?_⟩;exact⟨_,H',o2.go U hb,q⟩
section
variable{xs:List Str}
theorem UU(O:CompG X [x] caps cap scope cl):∀C fp s0 H₀,PG (QO X ([x]++caps) scope cl C fp s0 H₀) (.Name x px) (Zq 0):=λC fp s0 H₀=>
 Qz (X:=QO X ([x]++caps) scope cl C fp s0 H₀) (i:=0) O.nd rfl (.inl (cR (O.lx x (22:)))) (.inr (cR (O.lx x (22:))))
theorem Ji{y:Str}{k:Nat}(O:CompG X [x,y] caps cap scope cl)(hc:X.calm=true):∀C fp s0 H₀,PG (QO X ([x,y]++caps) scope cl C fp s0 H₀) (.Tuple [.Name x px,.Name y py] k pos) (Lw X.K 2 (Ye (Zq 0) (Ye (Zq 1) LA))):=λC fp s0 H₀=>
 Yc (X:=QO X ([x,y]++caps) scope cl C fp s0 H₀) hc (QG (Qz (i:=0) O.nd rfl (.inl (cR (O.lx x (22:)))) (.inr (cR (O.lx x (22:)))))
  (QG (Qz (i:=1) O.nd rfl (.inl (cR (O.lx y (22:)))) (.inr (cR (O.lx y (22:))))) ZJ))
end
theorem Wi{k:NameKind}{y:Str}:∀{l:List (Str×NameKind)},l.lookup y=some k->(y,k)∈l
 | [],h=>by simp at h
 | (n,j)::r,h=>by
  cases F:y==n with
  | true=>
   simp only [cW,F]at h;have:y=n:=by simpa using F
   cases h;rw [this];exact aL
  | false=>
   simp only [cW,F]at h;exact aU _ (Wi h)
theorem Xg{y:Str}{c:Addr}:∀{l:List (Str×Addr)},l.lookup y=some c->(y,c)∈l
 | [],h=>by simp at h
 | (n,j)::r,h=>by
  cases F:y==n with
  | true=>
   simp only [cW,F]at h;have:y=n:=by simpa using F
   cases h;rw [this];exact aL
  | false=>
   simp only [cW,F]at h;exact aU _ (Xg h)
theorem J3{y:Str}{c:Addr}:∀{l:List (Str×Addr)},(y,c)∈l->∃c',l.lookup y=some c'
 | [],h=>by cases h
 | (n,j)::r,h=>by
  cases F:y==n with
  | true=>exact⟨j,by simp only [cW,F]⟩
  | false=>
   simp only [cW,F];rcases aQ.mp h with z | z
   .have:y=n:=congrArg Prod.fst z;rw [this]at F;simp at F
   .exact J3 z
theorem UW{y:Str}(hf:env.scope.kind=.function)(hy:env.kindOf y=some .cell):∀{names:List (Str×NameKind)},names.lookup y=some .free->
 (names.map λ(n,k)=>if(k==NameKind.free&&env.scope.kind== .function&&env.kindOf n==some .cell)then(n,NameKind.cell)else(n,k)).lookup y=some .cell
 | [],h=>by simp at h
 | (n,k)::r,h=>by
  show List.lookup y ((if(k==NameKind.free&&env.scope.kind== .function&&env.kindOf n==some .cell)=true then(n,NameKind.cell)else(n,k))::_)=_;cases j:y==n with
  | true=>
   simp only [cW,j]at h;have e:y=n:=by simpa using j
   cases h;rw [<-e,hf,hy];simp
  | false=>
   simp only [cW,j]at h;have F:=UW hf hy h;split
   .simp only [cW,j];exact F
   .simp only [cW,j];exact F
def Xc(names:List (Str×NameKind)):List Str:=names.filterMap λz=>if z.2==NameKind.free then some z.1 else none
theorem Ul:∀(names:List (Str×NameKind))(caps:List Str)(cs:List Addr)(acc:List (Str×Addr)),Xc names=caps->caps.map (λy=>env.cells.lookup y)=cs.map some->
 (forIn names acc λ(x:Str×NameKind)(r:List (Str×Addr))=>(if(x.2==NameKind.free)=true then do let a <-cellOf env x.1;pure (ForInStep.yield ((x.1,a)::r))else pure (ForInStep.yield r):Sem (ForInStep (List (Str×Addr)))))=(pure ((caps.zip cs).reverse++acc):Sem (List (Str×Addr)))
 | [],caps,cs,acc,h1,h2=>by
  have:caps=[]:=h1.symm;subst this;simp
 | (n,k)::r,caps,cs,acc,h1,h2=>by
  rw [List.forIn_cons]
  by_cases j:(k==NameKind.free)=true
  .have e1:caps=n::Xc r:=by
    rw [<-h1];unfold Xc;rw [eN];simp only [j,if_true]
   subst e1;cases cs with
   | nil=>simp at h2
   | cons c cs=>
    simp only [aR,List.cons.injEq]at h2;have F:cellOf env n=pure c:=by unfold cellOf;rw [h2.1]
    simp only [j,if_true,F,pure_bind];rw [Ul r _ cs ((n,c)::acc) rfl h2.2];simp
  .have e1:caps=Xc r:=by
    rw [<-h1];unfold Xc;rw [eN];simp only [j]
    rfl
   subst e1;simp only [j,dH,pure_bind];exact Ul r _ cs acc rfl h2
theorem Js{cs:List Addr}(hf:Xc scope.names=caps)(hc:caps.map (λy=>env.cells.lookup y)=cs.map some):closureFor scope env=pure (caps.zip cs).reverse:=by
 have h:=Ul (env:=env) scope.names caps cs [] hf hc;rw [cC]at h;unfold closureFor;simp only [bind_pure];exact h
theorem CompG.many{xs:List Str}{cs:List Addr}(hk:scope.kind=.function)(hf:X.env.scope.kind=.function)(hfr:Xc scope.names=caps)
 (hnc:∀z∈scope.names,z.2≠.cell) (hl:∀y∈scope.names,y.2=.local->scope.names.lookup y.1=some .local) (hlx:∀x∈xs,scope.names.lookup x=some .local) (hnd:(xs++caps).Nodup)
 (hfl:∀y∈caps,scope.names.lookup y=some .free) (hce:caps.map (λy=>X.env.scope.names.lookup y)=caps.map λ_=>some .cell) (hcs:caps.map (λy=>X.env.cells.lookup y)=cs.map some)
 (hN:cap.map (λj=>X.N[j]?)=caps.map some):CompG X xs caps cap scope (caps.zip cs).reverse:=by
 have ab:caps.length=cs.length:=by simpa using congrArg List.length hcs
 have L:∀(i:Nat)(y:Str),caps[i]?=some y->∃c,cs[i]?=some c/\X.env.cells.lookup y=some c:=λi y h=>by
  have e:=congrArg (λl=>l[i]?) hcs;simp only [aM,h]at e;cases q:cs[i]? with
  | none=>rw [q]at e;simp at e
  | some c=>rw [q]at e;exact⟨c,rfl,by simpa using e⟩
 refine⟨Js hfr hcs,hnc,hk,hl,hlx,hnd,λy c h=>?_,λy h=>?_,?_,λi y h=>?_⟩
 .have J:=Xg h;rw [List.mem_reverse]at J;obtain⟨i,hi,e⟩:=iJ J;have Y:i<caps.length:=by rw [dN]at hi;lia
  have M:i<cs.length:=by rw [dN]at hi;lia
  rw [fQ]at e;obtain⟨c',e1,e2⟩:=L i caps[i] (aE Y);have e3:caps[i]=y:=congrArg Prod.fst e;have e4:cs[i]=c:=congrArg Prod.snd e;rw [aE M,e4]at e1;cases e1;rw [<-e3];exact e2
 .have J:y∈caps:=by
   have U:∀k:NameKind,(k=.cell\/k=.free)->(relabel scope X.env).names.lookup y=some k->y∈caps:=λk hk h=>by
    have h1:=Wi h;obtain⟨z,hz,e⟩:=aP.mp h1;obtain⟨n,kk⟩:=z;have F:kk=.free/\n=y:=by
     dsimp only at e;split at e
     .rename_i q;simp only [fD]at q;exact⟨by simpa using q.1.1,congrArg Prod.fst e⟩
     .have e2:kk=k:=congrArg Prod.snd e;refine⟨?_,congrArg Prod.fst e⟩;rcases hk with z | z
      .exact absurd (e2.trans z) (hnc _ hz)
      .exact e2.trans z
    rw [<-hfr];refine dU.mpr ⟨(n,kk),hz,?_⟩;rw [F.1,F.2];rfl
   rcases h with h | h
   .exact U _ (.inl rfl) h
   .exact U _ (.inr rfl) h
  obtain⟨i,hi,e⟩:=iJ J;have M:i<cs.length:=by lia
  refine J3 (c:=cs[i]) ?_;rw [List.mem_reverse];have aa:i<(caps.zip cs).length:=by rw [dN];lia
  have:=aO aa;rw [fQ,e]at this;exact this
 .have:=congrArg List.length hN
  simpa using this
 .have e:=congrArg (λl=>l[i]?) hN;simp only [aM,h]at e;have J:=bC h;cases q:cap[i]? with
  | none=>rw [q]at e;simp at e
  | some j=>
   rw [q]at e;have G:X.env.scope.names.lookup y=some .cell:=by
    have e2:=congrArg (λl=>l[i]?) hce
    simpa only [aM,h,Option.map_some,Option.some.injEq]using e2
   exact⟨j,rfl,by simpa using e,G,UW hf G (hfl y J)⟩
theorem Zj{J:It}{N:Nat}{Q:Hp->Prop}(Pv:Nat->List V->Hp->Prop)(h0:Pv 0 [] (upd H1 acc (.lst [])))
 (hstop:∀ys H,Pv N ys H->J.stop N H/\Q H)
 (hstep:∀i ys H,i<N->Pv i ys H->J.go i H/\∀x H3,J.yld i H x H3->∀as:St,as.length=n->g x (as++cs) H3 λσ4 H4=>(∃bs:St,bs.length=n/\σ4=bs++cs)/\tt σ4 H4 λok H5=>if ok=true then te σ4 H5 (M3 N Pv acc i (N-i))else ∃m',m'<N-i/\JT N Pv (i+1) m' H5):
 ∃W:Nat->Nat->Hp->Prop,(∃m,W 0 m (upd H1 acc (.lst [])))/\∀i m H2,W i m H2->
  (J.stop i H2/\Q H2)\/(J.go i H2/\∀x H3,J.yld i H2 x H3->∀as:St,as.length=n->g x (as++cs) H3 λσ4 H4=>(∃bs:St,bs.length=n/\σ4=bs++cs)/\tt σ4 H4 λok H5=>if ok=true then
   te σ4 H5 (λy H6=>∃ys,H6 acc=some (.lst ys)/\ys.length<sizeLine/\∃m',m'<m/\W (i+1) m' (upd H6 acc (.lst (ys++[y]))))
   else ∃m',m'<m/\W (i+1) m' H5):=by
 refine⟨JT N Pv,⟨N-0,rfl,bZ _,[],h0⟩,?_⟩;rintro i m H2 ⟨rfl,hi,ys,p⟩
 by_cases h:i<N
 .exact .inr (hstep i ys H2 h p)
 .have e:i=N:=by lia
  subst e;exact .inl (hstop ys H2 p)
abbrev GC(N:Nat)(Pv:Nat->List V->Hp->Prop)(acc:Addr)(i:Nat)(te:TE)(σ:St):Bool->Hp->Prop:=λok H5=>if ok=true then te σ H5 (M3 N Pv acc i (N-i))else ∃m',m'<N-i/\JT N Pv (i+1) m' H5
abbrev Jh(J:It)(n:Nat)(cs:St)(g:TG)(tt:TT)(te:TE)(H1:Hp)(acc:Addr)(Q:Hp->Prop):Prop:=
 ∃W:Nat->Nat->Hp->Prop,(∃m,W 0 m (upd H1 acc (.lst [])))/\∀i m H2,W i m H2->
  (J.stop i H2/\Q H2)\/(J.go i H2/\∀x H3,J.yld i H2 x H3->∀as:St,as.length=n->g x (as++cs) H3 λσ4 H4=>(∃bs:St,bs.length=n/\σ4=bs++cs)/\tt σ4 H4 λok H5=>if ok=true then
   te σ4 H5 (λy H6=>∃ys,H6 acc=some (.lst ys)/\ys.length<sizeLine/\∃m',m'<m/\W (i+1) m' (upd H6 acc (.lst (ys++[y]))))
   else ∃m',m'<m/\W (i+1) m' H5)
section
variable{K:Fg}{Q:Hp->Prop}
theorem Vr(Pv:Nat->List V->Hp->Prop)(h0:Pv 0 [] (upd H1 acc (.lst [])))(hl:∀i ys H,i<=xs.length->Pv i ys H->SqL K H a xs)
 (hs:∀i x ys H,i<xs.length->xs[i]?=some x->Pv i ys H->tt (some x::cs) H (GC xs.length Pv acc i te (some x::cs))) (hd:∀ys H,Pv xs.length ys H->Q H):Jh (Itl K a) 1 cs (Zq 0) tt te H1 acc Q:=by
 refine Zj Pv h0 (λys H p=>⟨⟨xs,hl _ _ _ (8:) p,bX _⟩,hd ys H p⟩) λi ys H hi p=>⟨⟨xs,xs[i],hl _ _ _ (cD hi) p,aE hi⟩,?_⟩;rintro x J ⟨rfl,F⟩ G has;obtain⟨j,rfl⟩: ∃j,G=[j]:=fZ.mp has;exact⟨⟨[some x],rfl,rfl⟩,hs i x ys _ hi (F xs (hl _ _ _ (cD hi) p)) p⟩
theorem GL(Pv:Nat->List V->Hp->Prop)(h0:Pv 0 [] (upd H1 acc (.lst [])))(hl:∀i ys H,i<=xs.length->Pv i ys H->SqT K H a xs)
 (hs:∀i x ys H,i<xs.length->xs[i]?=some x->Pv i ys H->tt (some x::cs) H (GC xs.length Pv acc i te (some x::cs))) (hd:∀ys H,Pv xs.length ys H->Q H):Jh (Itt K a) 1 cs (Zq 0) tt te H1 acc Q:=by
 refine Zj Pv h0 (λys H p=>⟨⟨xs,hl _ _ _ (8:) p,bX _⟩,hd ys H p⟩) λi ys H hi p=>⟨⟨xs,xs[i],hl _ _ _ (cD hi) p,aE hi⟩,?_⟩;rintro x J ⟨rfl,F⟩ G has;obtain⟨j,rfl⟩: ∃j,G=[j]:=fZ.mp has;exact⟨⟨[some x],rfl,rfl⟩,hs i x ys _ hi (F xs (hl _ _ _ (cD hi) p)) p⟩
theorem Gf{lo:Int}(Pv:Nat->List V->Hp->Prop)(h0:Pv 0 [] (upd H1 acc (.lst [])))
 (hs:∀i ys H,i<n->Pv i ys H->tt (some (.int (lo+i))::cs) H (GC n Pv acc i te (some (.int (lo+i))::cs))) (hd:∀ys H,Pv n ys H->Q H):Jh (Itr lo n) 1 cs (Zq 0) tt te H1 acc Q:=by
 refine Zj Pv h0 (λys H p=>⟨bX _,hd ys H p⟩) λi ys H hi p=>⟨hi,?_⟩;rintro x G ⟨rfl,rfl⟩ F has;obtain⟨j,rfl⟩: ∃j,F=[j]:=fZ.mp has;exact⟨⟨[some _],rfl,rfl⟩,hs i ys _ hi p⟩
theorem Vh(h:as.length=2):∃a0 a1,as=[a0,a1]:=by
 match as,h with
 | [a0,a1],_=>exact⟨a0,a1,rfl⟩
theorem UQ(Pv:Nat->List V->Hp->Prop)(h0:Pv 0 [] (upd H1 acc (.lst [])))(hl:∀i ys H,i<=xs.length->Pv i ys H->SqL K H a xs)
 (hs:∀i x ys H,i<xs.length->xs[i]?=some x->Pv i ys H->∃p u v,x=.ref p/\SqT K H p [u,v]/\tt (some u::some v::cs) H (GC xs.length Pv acc i te (some u::some v::cs))) (hd:∀ys H,Pv xs.length ys H->Q H):Jh (Itl K a) 2 cs (Lw K 2 (Ye (Zq 0) (Ye (Zq 1) LA))) tt te H1 acc Q:=by
 refine Zj Pv h0 (λys H p=>⟨⟨xs,hl _ _ _ (8:) p,bX _⟩,hd ys H p⟩) λi ys H hi p=>⟨⟨xs,xs[i],hl _ _ _ (cD hi) p,aE hi⟩,?_⟩;rintro x G ⟨rfl,j⟩ J has;obtain⟨L,M,rfl⟩:=Vh has;obtain⟨q,u,v,rfl,F,h⟩:=hs i x ys _ hi (j xs (hl _ _ _ (cD hi) p)) p;exact⟨q,[u,v],rfl,F,rfl,u,[v],rfl,v,[],rfl,rfl,⟨[some u,some v],rfl,rfl⟩,h⟩
theorem OJ(hlen:xs.length=zs.length)(Pv:Nat->List V->Hp->Prop)(h0:Pv 0 [] (upd H1 acc (.lst [])))(hl:∀i ys H,i<=xs.length->Pv i ys H->SqL K H a xs/\SqL K H b zs)
 (hs:∀i u v p ys H,i<xs.length->xs[i]?=some u->zs[i]?=some v->H p=none->Pv i ys H->tt (some u::some v::cs) (upd H p (.tup [u,v])) (GC xs.length Pv acc i te (some u::some v::cs))) (hd:∀ys H,Pv xs.length ys H->Q H):Jh (Itz K a b xs zs) 2 cs (Lw K 2 (Ye (Zq 0) (Ye (Zq 1) LA))) tt te H1 acc Q:=by
 refine Zj (N:=xs.length) Pv h0 (λys H p=>?_) λi ys H hi p=>?_
 .obtain⟨j,F⟩:=hl _ _ _ (8:) p;exact⟨⟨j,F,.inl (8:)⟩,hd ys H p⟩
 .obtain⟨j,F⟩:=hl _ _ _ (cD hi) p;refine⟨⟨j,F,hi,by lia⟩,?_⟩;rintro x M ⟨q,u,v,G,rfl,rfl,J,L⟩ U has;obtain⟨Y,a1,rfl⟩:=Vh has;exact⟨q,[u,v],rfl,SqT.of Qb,rfl,u,[v],rfl,v,[],rfl,rfl,⟨[some u,some v],rfl,rfl⟩,hs i u v q ys _ hi J L G p⟩
end
def Cv(K:Fg):R2:=λx y H Q=>∃l b xs zs,x=.ref l/\y=.ref b/\SqL K H l xs/\SqL K H b zs/\xs.length+zs.length<=sizeLine/\∀p,H p=none->Q (.ref p) (upd H p (.lst (xs++zs)))
theorem Y0:OpR X (binaryOp .Add) (Cv X.K):=by
 intro pins s σ H x y v u Q I rx ry h;obtain⟨l,b,xs,zs,rfl,rfl,ha,hb,hz,q⟩:=h;cases rx;cases ry;obtain⟨its,G,⟨⟨c1,d1,t1,s1⟩,n1,J,e1,L,k1⟩,_⟩:=I.list ha;obtain⟨j,M,⟨⟨c2,d2,t2,s2⟩,n2,U,e2,Y,k2⟩,_⟩:=I.list hb;simp only at e1 L k1 e2 Y k2;subst e1 L k1 e2 Y k2;have l1:=G.length;have l2:=M.length;refine concat_meets ⟨_,J,rfl⟩ ⟨_,U,rfl⟩ noFill_list_add seq_list_add PySem.F.slot_list_add PySem.F.entry_list_add (PySem.F.args_list_add_2 _ _) (list_addW l b _ _ n1 n2 none none s1 s2 (by rw [aX,aX];lia)) ⟨J,U,?_⟩;have ea:its.toArray++j.toArray=(its++j).toArray:=by simp
 rw [ea];exact⟨.ref _,_,I.lnew (t':=s.toks) (G.append M) (by rw [aI];lia),rfl,q _ I.fresh⟩
theorem W7(xs:List V)(k:Nat):cutV xs (some (k:Int)) none=xs.drop k:=by
 unfold cutV;rw [HT.sIx_none,HT.sIx_nat]
 by_cases h:k<=xs.length
 .rw [d_ h];exact cQ (by rw [dC];lia)
 .rw [gZ (10:),f_ (8:),f_ (10:),List.take_nil]
theorem cutTo(xs:List V)(k:Nat):cutV xs none (some (k:Int))=xs.take k:=by
 unfold cutV;rw [HT.sIx_none,HT.sIx_nat,List.drop_zero,Nat.sub_zero]
 by_cases h:k<=xs.length
 .rw [d_ h]
 .rw [gZ (10:),cQ (8:),cQ (10:)]
end L2
namespace K9
open PySem L2 TM
abbrev KdT:=Addr×Str×Addr×List PNx
def RowAt(K:Fg)(H:Hp)(t:PNx):Prop:=SqT K H t.1 [.str t.2.1,.ref t.2.2.1]/\SqT K H t.2.2.1 (t.2.2.2.map V.str)
def RowsL(K:Fg)(H:Hp)(lr:Addr)(rs:List PNx):Prop:=SqL K H lr (rs.map λt=>V.ref t.1)/\∀t∈rs,RowAt K H t
def WoodAt(K:Fg)(H:Hp)(w:Addr)(ks:List KdT):Prop:=SqL K H w (ks.map λk=>V.ref k.1)/\∀k∈ks,SqT K H k.1 [.str k.2.1,.ref k.2.2.1]/\RowsL K H k.2.2.1 k.2.2.2
theorem RowAt.same{K:Fg}{t:PNx}(g:Same H H')(h:RowAt K H t):RowAt K H' t:=⟨g.seqT h.1,g.seqT h.2⟩
theorem RowsL.same{K:Fg}{lr:Addr}{rs:List PNx}(g:Same H H')(h:RowsL K H lr rs):RowsL K H' lr rs:=⟨g.seq h.1,λt j=>(h.2 t j).same g⟩
theorem WoodAt.same{K:Fg}{w:Addr}{ks:List KdT}(g:Same H H')(h:WoodAt K H w ks):WoodAt K H' w ks:=⟨g.seq h.1,λk j=>⟨g.seqT (h.2 k j).1,(h.2 k j).2.same g⟩⟩
structure RowsOk(rs:List PNx):Prop where
 nd:(rs.map λt=>t.2.1).Nodup
 len:rs.length<=10
 nm:∀r∈rs,PyData.strOk r.2.1=true
 kn:∀r∈rs,∀x∈r.2.2.2,PyData.strOk x=true
 kl:∀r∈rs,r.2.2.2.length<=4
structure WoodOk(ks:List KdT):Prop where
 nd:(ks.map λk=>k.2.1).Nodup
 len:ks.length<=10
 rows:∀k∈ks,RowsOk k.2.2.2
def Qr(ks:List KdT)(kind:Str):List PNx:=((ks.find? λk=>decide (k.2.1=kind)).map λk=>k.2.2.2).getD []
def Xq(ks:List KdT)(kind name:Str):Option (List Str):=((Qr ks kind).find? λr=>decide (r.2.1=name)).map λr=>r.2.2.2
theorem YA{α:Type}(f:α->Str)(g:α->V)(z:Str):∀l:List α,YD (l.map λx=>((Sum.inr (f x):Key),g x)) (Sum.inr z)=(l.find? λx=>decide (f x=z)).map g
 | []=>rfl
 | x::r=>by
  rw [aR,cI]
  by_cases e:f x=z
  .rw [Xm (p:=((Sum.inr (f x):Key),g x)) (by rw [e]),aV e];rfl
  .rw [JR (p:=((Sum.inr (f x):Key),g x)) (λq=>e (by injection q)),bM e];exact YA f g z r
theorem Zm{ks:List KdT}(h:WoodOk ks)(kind:Str):RowsOk (Qr ks kind):=by
 unfold Qr;cases e:ks.find? λk=>decide (k.2.1=kind)with
 | none=>exact⟨List.nodup_nil,bZ _,λr j=>(nomatch j),λr j=>(nomatch j),λr j=>(nomatch j)⟩
 | some k=>exact h.rows k (eJ e)
def DE(K:Fg)(H:Hp)(v:V):Option (List Str)->Prop
 | none=>v=.non
 | some ss=>∃b,v=.ref b/\SqT K H b (ss.map V.str)
end K9
variable{ks ks':List K9.KdT}
namespace K12
open PySem L2 K3 TM
structure Nm(w:List Nat):Prop where
 ne:w≠[]
 len:w.length<=8
 all:∀c∈w,c∈QK
theorem QX{ws:List (5:)}{w:List Nat}{r:List (5:)}(h:ws.drop n=w::r):ah ws n=w/\n<ws.length/\ws.drop (n+1)=r/\w∈ws:=by
 have hn:n<ws.length:=by
  rcases Nat.lt_or_ge n ws.length with q | q
  .exact q
  .rw [List.drop_eq_nil_of_le q]at h;cases h
 rw [List.drop_eq_getElem_cons hn]at h;injection h with h1 h2;refine⟨?_,hn,h2,?_⟩
 .unfold ah;rw [aE hn,h1];rfl
 .rw [<-h1];exact aO _
theorem XL{ws a r:List (5:)}(h:ws.drop n=a++r):ws.drop (n+a.length)=r:=by
 rw [<-List.drop_drop,h,List.drop_left]
theorem W0{ws a r:List (5:)}(hn:n<=ws.length)(h:ws.drop n=a++r):n+a.length<=ws.length:=by
 have:=congrArg List.length h;rw [dC,aI]at this;lia
def SXs(Ts:List Addr)(r:Addr)(H H':Hp):Prop:=∀b u,b∉Ts->b≠r->H b=some u->H' b=some u
theorem SXs.of(g:Same H H'):SXs Ts r H H':=λb u _ _ e=>g b u e
theorem SXs.ofT(hT:T∈Ts)(g:SameX T H H'):SXs Ts r H H':=λb u n _ e=>g b u (λz=>n (z ▸ hT)) e
theorem SXs.ofR(g:SameX r H H'):SXs Ts r H H':=λb u _ n e=>g b u n e
theorem SXs.trans(a:SXs Ts r H H1)(b:SXs Ts r H1 H2):SXs Ts r H H2:=λc u n m e=>b c u n m (a c u n m e)
structure TRs(C:Addr)(Ts:List Addr)(r:Addr)(H:Hp):Prop where
 tb:∀T∈Ts,∃ps,H T=some (.tbl ps)
 ins:∃dx fs,H r=some (.ins C dx fs)
section
variable{K:Fg}
theorem TRs.ne{u:HO}(h:TRs C Ts r H)(e:H b=some u)(n1:∀ps,u≠.tbl ps)(n2:∀C dx fs,u≠.ins C dx fs):b∉Ts/\b≠r:=by
 obtain⟨dx,fs,j⟩:=h.ins;refine⟨λz=>?_,λz=>by rw [z,j]at e;exact n2 C dx fs (aK e).symm⟩;obtain⟨ps,F⟩:=h.tb b z;rw [F]at e;exact n1 ps (aK e).symm
theorem TRs.keep{u:HO}(h:TRs C Ts r H)(g:SXs Ts r H H')(e:H b=some u)(n1:∀ps,u≠.tbl ps)(n2:∀C dx fs,u≠.ins C dx fs):H' b=some u:=g b u (h.ne e n1 n2).1 (h.ne e n1 n2).2 e
theorem TRs.seqT(h:TRs C Ts r H)(g:SXs Ts r H H')(q:SqT K H a xs):SqT K H' a xs:=by
 rcases q with(q | ⟨o,q⟩) | q
 .exact .inl (.inl (h.keep g q (λ_ z=>nomatch z) (λ_ _ _ z=>nomatch z)))
 .exact .inl (.inr ⟨o,h.keep g q (λ_ z=>nomatch z) (λ_ _ _ z=>nomatch z)⟩)
 .exact .inr q
theorem TRs.lst(h:TRs C Ts r H)(g:SXs Ts r H H')(q:H a=some (.lst xs)):H' a=some (.lst xs):=h.keep g q (λ_ z=>nomatch z) (λ_ _ _ z=>nomatch z)
theorem TRs.lam(h:TRs C Ts r H)(g:SXs Ts r H H')(q:LamAtC H f e cl):LamAtC H' f e cl:=by
 obtain⟨F,G,c,j,h1,h2⟩:=q.ex;exact⟨F,G,c,j,h.keep g h1 (λ_ z=>nomatch z) (λ_ _ _ z=>nomatch z),h.keep g h2 (λ_ z=>nomatch z) (λ_ _ _ z=>nomatch z)⟩
end
structure ZOk(Ts:List Addr)(Z:Hp->Prop):Prop where
 tb:∀H,Z H->∀T∈Ts,∃ps,H T=some (.tbl ps)
 sm:∀H H',Same H H'->Z H->Z H'
 ins:∀H H' r C dx fs,H r=some (.ins C dx fs)->SameX r H H'->Z H->Z H'
 lst:∀H a xs ys,H a=some (.lst xs)->Z H->Z (upd H a (.lst ys))
structure Rp(C:Addr)(Ts:List Addr){α:Type}(Rv:(Addr->Prop)->Hp->V->α->Prop):Prop where
 sx:∀ok H H' r v x,TRs C Ts r H->SXs Ts r H H'->Rv ok H v x->Rv ok H' v x
 pu:∀(ok:Addr->Prop) a xs ys H v x,(∀b,ok b->b≠a)->H a=some (.lst xs)->Rv ok H v x->Rv ok (upd H a (.lst ys)) v x
 ex:∀ok H v x,Rv ok H v x->Rv (λb=>ok b/\H b≠none) H v x
 wk:∀(ok ok':Addr->Prop) H v x,(∀b,ok b->ok' b)->Rv ok H v x->Rv ok' H v x
inductive RL{α:Type}(Rv:(Addr->Prop)->Hp->V->α->Prop)(ok:Addr->Prop)(H:Hp):List V->List α->Prop where
 | nil:RL Rv ok H [] []
 | cons {v:V} {vs:List V} {x:α} {xs:List α}:Rv ok H v x->RL Rv ok H vs xs->RL Rv ok H (v::vs) (x::xs)
theorem RL.imp{α:Type}{Rv:(Addr->Prop)->Hp->V->α->Prop}{ok ok':Addr->Prop}(k:∀v x,Rv ok H v x->Rv ok' H' v x){xs:List α}(h:RL Rv ok H vs xs):RL Rv ok' H' vs xs:=by
 induction h with
 | nil=>exact .nil
 | cons a r j=>exact .cons (k _ _ a) j
theorem RL.app{α:Type}{Rv:(Addr->Prop)->Hp->V->α->Prop}{ok:Addr->Prop}{ws:List V}{xs ys:List α}(h:RL Rv ok H vs xs)(h2:RL Rv ok H ws ys):RL Rv ok H (vs++ws) (xs++ys):=by
 induction h with
 | nil=>exact h2
 | cons a r j=>exact .cons a j
theorem RL.len{α:Type}{Rv:(Addr->Prop)->Hp->V->α->Prop}{ok:Addr->Prop}{xs:List α}(h:RL Rv ok H vs xs):vs.length=xs.length:=by
 induction h with
 | nil=>rfl
 | cons a r j=>rw [aJ,aJ,j]
def BU{α:Type}(C:Addr)(Ts:List Addr)(Z:Hp->Prop)(r l:Addr)(ws:List (5:))(Rv:(Addr->Prop)->Hp->V->α->Prop)(Tk:α->List (5:)->Prop)(Fo:List (5:)->Prop)(ok:α->Prop):Sp:=λvs H Q _=>∃(m:Nat)(x:α)(a rest:List (5:)),vs=[]/\RdAt C H r l ws m/\m<=ws.length/\ws.drop m=a++rest/\Tk x a/\Fo rest/\ok x/\Z H/\
 ∀(v:V)(H':Hp),SXs Ts r H H'->RdAt C H' r l ws (m+a.length)->Rv (λb=>H b=none) H' v x->Z H'->Q v H'
theorem RdAt.trs{ws:List (5:)}(h:RdAt C H r l ws n)(zo:ZOk Ts Z)(z:Z H):TRs C Ts r H:=by
 obtain⟨dx,j⟩:=h.ins;exact⟨zo.tb H z,dx,_,j⟩
inductive TkL{α:Type}(Tk:α->List (5:)->Prop):List α->List (5:)->Prop where
 | nil:TkL Tk [] []
 | cons {x:α} {xs:List α} {a b:List (5:)}:Tk x a->TkL Tk xs b->TkL Tk (x::xs) (a++b)
def brG{α:Type}(xs:List α)(us:List (5:)):List (5:):=match xs with
 | []=>[]
 | _::_=>[40]::(us++[[41]])
def Of{α:Type}(P:Program)(w:World)(K:Fg)(mg:Str->Option Value)(C:Addr)(Ts:List Addr)(Z:Hp->Prop)(Rv:(Addr->Prop)->Hp->V->α->Prop)(Tk:α->List (5:)->Prop)(Fo:List (5:)->Prop)(ok:α->Prop)(k:Nat)(g:Heap):Sp:=λvs H Q _=>∃(r l L:Addr)(ws:List (5:))(n:Nat)(xs:List α)(us rest:List (5:))(e:Expr)(cl:List (Str×Addr)),vs=[.ref r,.ref L]/\RdAt C H r l ws n/\n<=ws.length/\ws.drop n=brG xs us++rest/\TkL Tk xs us/\(∀x a,Tk x a->∃w q,a=w::q/\w≠[41])/\(∀x a q,Tk x a->Fo (a++q))/\(∀q,Fo ([41]::q))/\(xs=[]->ah ws n≠[40])/\(∀x∈xs,ok x)/\xs.length<=1000/\LamAtC H L e cl/\Bh P w K mg g k e cl (BU C Ts Z r l ws Rv Tk Fo ok)/\Z H/\
 ∀(b:Addr)(vs:List V)(H':Hp),SXs Ts r H H'->RdAt C H' r l ws (n+(brG xs us).length)->SqT K H' b vs->RL Rv (λc=>H c=none) H' vs xs->Z H'->Q (.ref b) H'
section
variable{K:Fg}{fd:FuncData}{α:Type}{Rv:(Addr->Prop)->Hp->V->α->Prop}{Tk:α->List (5:)->Prop}{Fo:List (5:)->Prop}{ok:α->Prop}
theorem TkL.fol{xs:List α}{us:List (5:)}(h:TkL Tk xs us)(h1:∀x a q,Tk x a->Fo (a++q)){r:List (5:)}(hr:Fo r):Fo (us++r):=by
 cases h with
 | nil=>exact hr
 | cons a b=>rw [bO];exact h1 _ _ _ a
theorem Ai:FnScope ["self","take_one","taken"] ["self","take_one"] (defScope Ri):=(0:)
theorem AG{k:Nat}(zo:ZOk Ts Z)(ro:Rp C Ts Rv)(F:Fun K "in_brackets" "Reader.in_brackets" Ri f fd)(G:Gm mg)(TT:RdT K mg C)(MP:Mt P w K mg base C 2 "passed" ["self","sign"] (YI C)):FnOk P w K mg base CX0 (k+3) f fd ["self","take_one"] (Of P w K mg C Ts Z Rv Tk Fo ok (k+2) base):=by
 refine F.ok Ai (14:) (λca A b8 s H vs Q E hr h=>?_)
 .obtain⟨r,l,L,j,n,xs,us,rest,e,cl,rfl,_⟩:=h
  rfl
 obtain⟨r,l,L,j,n,xs,us,rest,e,cl,rfl,hR,hn,hd,ht,bj,a0,as,bg,a1,bm,hL,hC,hZ,q⟩:=h;refine⟨_,(Qd (Qm (i:=2) Ai.nd rfl (7:) (Q0 Qc))
  (Qd (Yf (QC (Q8 (Xk MP TT.cl hr (pv 0) (Qa (Qj) Qc) (10:))) (Qd (QS (Zi bY cE cF QM (pv 2) (Qa (Wf (i:=1) hC hr) Qc)))
  (Qh (YS bS (Ya (Q8 (Xk MP TT.cl hr (pv 0) (Qa (Qj) Qc) (10:)))) (Qh (QS (Zi bY cE cF QM (pv 2) (Qa (Wf (i:=1) hC hr) Qc))))))) Qt))
  (Qh (Qn (QE ZT rfl G.tup fY (Qa (pv 2) Qc)))))),?_⟩
 try dsimp only [QW,Cx.nox]
 refine L2.let2 ?_
 intros
 have a3:S [40]=Str.ofString "(":=by decide+kernel
 have bn:S [41]=Str.ofString ")":=by decide+kernel
 refine⟨(20:),λlt ad=>?_⟩;have s1:=Qe ad (.lst []);have f1:upd H lt (.lst []) lt=some (.lst []):=Qb;have aa:=hR.same s1;have aj:=zo.sm _ _ s1 hZ;have a4:=hL.same s1;generalize upd H lt (.lst [])=H1 at s1 f1 aa aj a4;have free:∀{H':Hp}{m:Nat}{b:Addr},SXs Ts r H H'->Z H'->RdAt C H' r l j m->H' b=none->H b=none:=λ{H' m b} x h2 h3 h4=>by
  cases e:H b with
  | none=>rfl
  | some u=>
   by_cases c1:b∈Ts
   .obtain⟨ps,h⟩:=zo.tb H' h2 b c1;rw [h4]at h;cases h
   .by_cases c2:b=r
    .obtain⟨dx,h⟩:=h3.ins;rw [<-c2,h4]at h;cases h
    .have:=x b u c1 c2 e;rw [h4]at this;cases this
 have bo:l≠lt:=λz=>by have h1:=hR.fl;rw [z,ad]at h1;cases h1
 have bp:r≠lt:=λz=>by
  obtain⟨dx,h1⟩:=hR.ins;rw [z,ad]at h1;cases h1
 have ak:∀{H':Hp}{ys':List V}{p:Nat},RdAt C H' r l j p->RdAt C (upd H' lt (.lst ys')) r l j p:=λ{H' ys' p} h2=>by
  obtain⟨⟨dx,h5⟩,h6⟩:=h2;exact⟨⟨dx,by rw [Qi bp];exact h5⟩,by rw [Qi bo];exact h6⟩
 have al:∀{H':Hp}{ys ys':List V},H' lt=some (.lst ys)->LamAtC H' L e cl->LamAtC (upd H' lt (.lst ys')) L e cl:=λ{H' ys ys'} h1 h4=>by
  obtain⟨qu,pm,c,bq,h5,h6⟩:=h4.ex;exact⟨qu,pm,c,bq,by rw [Qi (ne_of h5 h1 (23:))];exact h5,by rw [Qi (ne_of h6 h1 (23:))];exact h6⟩
 refine⟨λar H'=>∃ys:List V,ar=[some (.ref r),some (.ref L),some (.ref lt)]/\H' lt=some (.lst ys)/\SXs Ts r H H'/\RdAt C H' r l j (n+(brG xs us).length)/\RL Rv (λc=>H c=none/\c≠lt) H' ys xs/\Z H',?_,?_⟩
 case refine_2=>
  rintro σ H2 ⟨ys,rfl,hy,U,ab,am,ac⟩;refine⟨_,rfl,lt,ys,rfl,.inl ⟨SqL.of hy,λtp br=>?_⟩⟩;have s3:=Qe br (.tup ys);have an:=ab.trs zo ac;exact q tp ys _ (U.trans (SXs.of s3)) (ab.same s3) (SqT.of Qb) (am.imp λv x h=>ro.wk _ _ _ _ _ (λb M=>M.1) (ro.sx _ _ _ r v x an (SXs.of s3) h)) (zo.sm _ _ s3 ac)
 obtain⟨dx,hx⟩:=aa.ins;cases ht with
 | nil=>
  exact⟨_,rfl,r,dx,_,rfl,hx,rfl,r,l,j,n,[40],(by rw [a3];rfl),aa,hn,λ_=>⟨_,rfl,Q7 ⟨[],rfl,f1,SXs.of s1,aa,.nil,aj⟩⟩,λz=>absurd z (bg rfl)⟩
 | @cons Y J a b bt am=>
 have bu:j.drop n=[40]::((a++b)++([41]::rest)):=by rw [hd];simp [brG]
 obtain⟨ha,cb,bv,_⟩:=QX bu;refine⟨_,rfl,r,dx,_,rfl,hx,rfl,r,l,j,n,[40],(by rw [a3];rfl),aa,hn,λz=>absurd ha z,λ_ H2 g2 ab=>⟨_,rfl,Q2 ?_⟩⟩;have a5:=aa.trs zo aj;have U:SXs Ts r H1 H2:=SXs.ofR g2;have f2:=a5.lst U f1;have ac:=zo.ins _ _ r C dx _ hx g2 aj;have a6:=a5.lam U a4;have an:=ab.trs zo ac;have a7:=(SXs.of s1 (Ts:=Ts) (r:=r)).trans U;have au:j.drop (n+1)=a++(b++([41]::rest)):=by rw [bv,bO]
 have len:n+1+a.length+b.length+1=n+(brG (Y::J) (a++b)).length:=by simp [brG];lia
 refine⟨_,rfl,.inl ⟨rfl,_,SqL.of f2⟩,L,rfl,a6,n+1,Y,a,b++([41]::rest),rfl,ab,by lia,au,bt,am.fol a0 (as _),a1 Y aL,ac,λv H3 x3 bw bx bz=>?_⟩;have f3:=an.lst x3 f2;have b0:=an.lam x3 a6;refine⟨lt,[],v,rfl,rfl,f3,(by show 0<sizeLine;decide),?_⟩;have av:Rv (λc=>H c=none/\c≠lt) (upd H3 lt (.lst ([]++[v]))) v Y:=ro.pu _ lt [] _ H3 v Y (λb M=>M.2) f3 (ro.wk _ _ _ _ _ (λb M=>⟨free a7 ac ab M,λz=>by rw [z,f2]at M;cases M⟩) bx);have a8:=ak (ys':=[]++[v]) bw;have a9:=zo.lst _ lt [] ([]++[v]) f3 bz;have ba:=al (ys':=[]++[v]) f3 b0;have x14:SXs Ts r H (upd H3 lt (.lst ([]++[v]))):=λc u n1 n2 e=>by
  rw [Qi (Qg e ad)];exact x3 c u n1 n2 (a7 c u n1 n2 e)
 have f4:upd H3 lt (.lst ([]++[v])) lt=some (.lst ([]++[v])):=Qb;generalize upd H3 lt (.lst ([]++[v]))=H4 at a8 a9 ba x14 av f4;refine⟨λm ar H'=>∃(ys:List V)(dn td:List α)(c:List (5:))(p:Nat),ar=[some (.ref r),some (.ref L),some (.ref lt)]/\Y::J=dn++td/\td.length=m/\H' lt=some (.lst ys)/\SXs Ts r H H'/\RdAt C H' r l j p/\p<=j.length/\j.drop p=c++([41]::rest)/\TkL Tk td c/\p+c.length+1=n+(brG (Y::J) (a++b)).length/\RL Rv (λc=>H c=none/\c≠lt) H' ys dn/\Z H'/\LamAtC H' L e cl,⟨J.length,[]++[v],[Y],J,b,n+1+a.length,rfl,rfl,rfl,f4,x14,a8,W0 (10:) au,XL au,am,len,.cons av .nil,a9,ba⟩,?_⟩;rintro m σ H5 ⟨ys,dn,td,c,p,rfl,ae,hm,f5,x5,af,aw,ax,bb,ay,az,ao,bc⟩;obtain⟨bd,be⟩:=af.ins;have ag:=af.trs zo ao;refine⟨_,rfl,r,bd,_,rfl,be,rfl,r,l,j,p,[41],(by rw [bn];rfl),af,aw,λz=>?_,λz H6 g6 ap=>⟨_,rfl,Q7 ?_⟩⟩
 .cases bb with
  | nil=>exact absurd (QX ax).1 z
  | @cons U aq a2 b2 h1 h2=>
  have bh:U∈Y::J:=by rw [ae];exact bV _ aL
  have ai:j.drop p=a2++(b2++([41]::rest)):=by rw [ax,bO]
  have cc:=az.len;have cd:dn.length+(aq.length+1)=J.length+1:=by
   have:=congrArg List.length ae;simp at this;lia
  have b9:J.length+1<=1000:=bm;refine⟨_,rfl,Q2 ⟨λar H'=>∃m',m'<m/\∃(ys:List V)(dn td:List α)(c:List (5:))(p:Nat),ar=[some (.ref r),some (.ref L),some (.ref lt)]/\Y::J=dn++td/\td.length=m'/\H' lt=some (.lst ys)/\SXs Ts r H H'/\RdAt C H' r l j p/\p<=j.length/\j.drop p=c++([41]::rest)/\TkL Tk td c/\p+c.length+1=n+(brG (Y::J) (a++b)).length/\RL Rv (λc=>H c=none/\c≠lt) H' ys dn/\Z H'/\LamAtC H' L e cl,λar H' h=>h,?_⟩⟩;refine⟨_,rfl,.inl ⟨rfl,_,SqL.of f5⟩,L,rfl,bc,p,U,a2,b2++([41]::rest),rfl,af,aw,ai,h1,h2.fol a0 (as _),a1 U bh,ao,λv6 H6 x6 ap b1 b3=>?_⟩;have f6:=ag.lst x6 f5;have b4:=ag.lam x6 bc;refine⟨lt,ys,v6,rfl,rfl,f6,bU (show ys.length<1001 by lia) (9:),?_⟩;have bi:Rv (λc=>H c=none/\c≠lt) H6 v6 U:=ro.wk _ _ _ _ _ (λb M=>⟨free x5 ao af M,λz=>by rw [z,f5]at M;cases M⟩) b1;have b5:RL Rv (λc=>H c=none/\c≠lt) H6 ys dn:=az.imp λv x h=>ro.sx _ _ _ r v x ag x6 h;have bf:∀v x,Rv (λc=>H c=none/\c≠lt) H6 v x->Rv (λc=>H c=none/\c≠lt) (upd H6 lt (.lst (ys++[v6]))) v x:=λv x h=>ro.pu _ lt ys _ H6 v x (λb M=>M.2) f6 h;refine⟨aq.length,?_,ys++[v6],dn++[U],aq,b2,p+a2.length,rfl,by rw [ae];simp,rfl,Qb,λc u n1 n2 e=>?_,ak ap,W0 aw ai,XL ai,h2,?_,(b5.imp bf).app (.cons (bf _ _ bi) .nil),zo.lst _ lt ys _ f6 b3,al f6 b4⟩
  .rw [<-hm];exact fP _
  .rw [Qi (Qg e ad)];exact x6 c u n1 n2 (x5 c u n1 n2 e)
  .rw [aI]at ay;lia
 .have b6:td=[]/\c=[]:=by
   cases bb with
   | nil=>exact⟨rfl,rfl⟩
   | @cons U aq a2 b2 h1 h2=>
    obtain⟨w1,r1,rfl,b7⟩:=bj _ _ h1;have:=(QX (show j.drop p=w1::(r1++(b2++([41]::rest)))by rw [ax];simp)).1;rw [z]at this;exact absurd this.symm b7
  obtain⟨rfl,rfl⟩:=b6;have x6:SXs Ts r H5 H6:=SXs.ofR g6;rw [cC]at ae;have e6:p+1=n+(brG (Y::J) (a++b)).length:=by simpa using ay
  rw [e6]at ap;exact⟨ys,rfl,ag.lst x6 f5,x5.trans x6,ap,by rw [ae];exact az.imp λv x h=>ro.sx _ _ _ r v x ag x6 h,zo.ins _ _ r C bd _ be g6 ao⟩
end
end K12
namespace TT
open TM PySem
variable{R:Rows Lab}
variable{B B':Nat->Tm}{f:Int->Int->Tm}
end TT
namespace L2
open PySem PyProof.Rows TM TT
abbrev CALL:Str:=Str.ofString "call"
abbrev PUT:Str:=Str.ofString "put"
end L2
namespace K12
open PySem L2 K3 TM K9
inductive LN where
 | call (m:List Nat) (b:Int)
 | put (n:List Nat) (k:Bool) (a:Int)
abbrev TN:=Tree LN
mutual
inductive TnV(K:Fg)(H:Hp):V->TN->Prop where
 | call {a:Addr} {m:List Nat} {b:Int}:SqT K H a [.str CALL,.str (S m),.int b]->TnV K H (.ref a) (.node (.call m b) 0 [])
 | put {a b:Addr} {vs:List V} {ts:List TN} {n:List Nat} {k:Bool} {ad:Int}:SqT K H a [.str PUT,.str (S n),.bl k,.int ad,.ref b]->SqT K H b vs->TnAll K H vs ts->vs.length<=1000->TnV K H (.ref a) (.node (.put n k ad) 0 ts)
inductive TnAll(K:Fg)(H:Hp):List V->List TN->Prop where
 | nil:TnAll K H [] []
 | cons {v:V} {vs:List V} {t:TN} {ts:List TN}:TnV K H v t->TnAll K H vs ts->TnAll K H (v::vs) (t::ts)
end
mutual
theorem TnV.mono{K:Fg}{H H':Hp}(k:∀a xs,SqT K H a xs->SqT K H' a xs):∀{v:V}{t:TN},TnV K H v t->TnV K H' v t
 | _,_,.call h=>.call (k _ _ h)
 | _,_,.put h1 h2 j F=>.put (k _ _ h1) (k _ _ h2) (TnAll.mono k j) F
theorem TnAll.mono{K:Fg}{H H':Hp}(k:∀a xs,SqT K H a xs->SqT K H' a xs):∀{vs:List V}{ts:List TN},TnAll K H vs ts->TnAll K H' vs ts
 | _,_,.nil=>.nil
 | _,_,.cons h t=>.cons (TnV.mono k h) (TnAll.mono k t)
end
def kpW(k:Bool):List (5:):=if k=true then [[61]]else []
def Mks(m:Int)(ms:List (5:)):Prop:=ms=[sh m]\/m=0/\ms=[]
mutual
inductive Tkt:TN->List (5:)->Prop where
 | call {m:List Nat} {b:Int}:Nm m->b.natAbs<10^60->Tkt (.node (.call m b) 0 []) [[42],m,sh b]
 | put {n:List Nat} {k:Bool} {ad:Int} {ts:List TN} {ms us:List (5:)}:Nm n->ad.natAbs<10^60->Mks ad ms->TktL ts us->ts.length<=1000->Tkt (.node (.put n k ad) 0 ts) (n::(kpW k++(ms++brG ts us)))
inductive TktL:List TN->List (5:)->Prop where
 | nil:TktL [] []
 | cons {t:TN} {ts:List TN} {a b:List (5:)}:Tkt t a->TktL ts b->TktL (t::ts) (a++b)
end
theorem TktL.all{ts:List TN}:∀{us:List (5:)},TktL ts us->TkL Tkt ts us:=by
 induction ts with
 | nil=>intro us h;cases h;exact .nil
 | cons t ts j=>intro us h;cases h with | cons h1 h2=>exact .cons h1 (j h2)
def Fol(rest:List (5:)):Prop:=∀w,rest[0]?=some w->beg w Us=false/\w≠[40]/\w≠[61]
theorem Fol.nil:Fol []:=λw h=>by simp at h
theorem Fol.cons{u:List Nat}{r:List (5:)}(h:beg u Us=false/\u≠[40]/\u≠[61]):Fol (u::r):=λw e=>by
 have:u=w:=by simpa using e
 rw [<-this];exact h
theorem A1:∀c∈QK,c∉Us/\c≠40/\c≠61/\c≠42/\c≠41:=by decide
theorem Nm.begs{w:List Nat}(h:Nm w):beg w QK=true/\beg w Us=false/\w≠[40]/\w≠[61]/\w≠[42]/\w≠[41]:=by
 cases w with
 | nil=>exact absurd rfl h.ne
 | cons c r=>
  have F:=h.all c aL;obtain⟨a,b,d,e,g⟩:=A1 c F;refine⟨aV F,bM a,λz=>?_,λz=>?_,λz=>?_,λz=>?_⟩
  .injection z with j _;exact b j
  .injection z with j _;exact d j
  .injection z with j _;exact e j
  .injection z with j _;exact g j
theorem Tkt.head{t:TN}{a:List (5:)}(h:Tkt t a):∃w q,a=w::q/\w≠[41]/\beg w Us=false/\w≠[40]/\w≠[61]:=by
 cases h with
 | call h1 h2=>exact⟨_,_,rfl,by decide,by decide,by decide,by decide⟩
 | put h1=>exact⟨_,_,rfl,h1.begs.2.2.2.2.2,h1.begs.2.1,h1.begs.2.2.1,h1.begs.2.2.2.1⟩
theorem Tkt.fol{t:TN}{a:List (5:)}(q:List (5:))(h:Tkt t a):Fol (a++q):=by
 obtain⟨w,r,rfl,_,h1,h2,j⟩:=h.head;exact Fol.cons ⟨h1,h2,j⟩
theorem OO{ws:List (5:)}(h:ws.drop n=[]):ah ws n=[]:=by
 unfold ah;rw [eZ (List.drop_eq_nil_iff.mp h)];rfl
theorem YV{ws:List (5:)}(hW:∀w∈ws,w.length<=61)(n:Nat):(ah ws n).length<=100:=by
 unfold ah;cases e:ws[n]? with
 | none=>simp
 | some w=>have:=hW w (bC e);show w.length<=100;lia
theorem Lp{ws rest:List (5:)}(h:ws.drop n=rest)(hf:Fol rest):beg (ah ws n) Us=false/\ah ws n≠[40]/\ah ws n≠[61]:=by
 cases rest with
 | nil=>rw [OO h];exact⟨rfl,by decide,by decide⟩
 | cons w r=>rw [(QX h).1];exact hf w rfl
theorem Ls(b:Int):beg (sh b) Us=true:=by
 obtain⟨F,G,j,h0⟩:=Ug b;rw [j];refine aV ?_;rcases h0 with h0 | h0
 .exact cU _ h0
 .rw [h0];exact bV _ aL
def CO(e:Expr)(i:Nat):Expr:=match e with
 | .Tuple es ..=>es.getD i (.Constant .none 0 ⟨0,0,0,0⟩)
 | _=>.Constant .none 0 ⟨0,0,0,0⟩
abbrev eL:Expr:=CQ (CO (Cg Uw) 4) 0
abbrev qL:Str:=(PyProof.Rows.envOfC "term_from" (defScope Uw) 0 0 .none).qual++"<lambda>"
abbrev pL:Pos:=Li eL
theorem Tb{fs:List (Str×V)}(hr:H r=some (.ins C dx fs))(g:SameX r H H')(h:TbS H T pos qual):TbS H' T pos qual:=by
 rcases h with q | ⟨c,q,j⟩
 .exact .inl (g _ _ (ne_of q hr (23:)) q)
 .exact .inr ⟨c,g _ _ (ne_of q hr (23:)) q,g _ _ (ne_of j hr (by intro z;cases z)) j⟩
theorem SA(ha:H a=some (.lst xs))(h:TbS H T pos qual):TbS (upd H a (.lst ys)) T pos qual:=by
 rcases h with q | ⟨c,q,j⟩
 .exact .inl (by rw [Qi (ne_of q ha (23:))];exact q)
 .exact .inr ⟨c,by rw [Qi (ne_of q ha (23:))];exact q,by rw [Qi (ne_of j ha (23:))];exact j⟩
def Z1(T:Addr)(H:Hp):Prop:=TbS H T pL qL
theorem U0(T:Addr):ZOk [T] (Z1 T):=by
 refine⟨λH z U j=>?_,λH H' g z=>z.same g,λH H' r C dx fs F g z=>Tb F g z,λH a xs ys G z=>SA G z⟩;obtain rfl:=bD.mp j;exact z.at
def RvT(K:Fg)(_:Addr->Prop)(H:Hp)(v:V)(t:TN):Prop:=TnV K H v t
theorem QU{K:Fg}{o:HO}(h:SqT K H a xs)(hd:H d=some (.lst ys)):SqT K (upd H d o) a xs:=by
 rcases h with(h | ⟨j,h⟩) | h
 .exact .inl (.inl (by rw [Qi (ne_of h hd (23:))];exact h))
 .exact .inl (.inr ⟨j,by rw [Qi (ne_of h hd (23:))];exact h⟩)
 .exact .inr h
theorem rpT(K:Fg)(C:Addr)(Ts:List Addr):Rp C Ts (RvT K):=
 ⟨λ_ _ _ _ _ _ j g h=>TnV.mono (λ_ _ q=>j.seqT g q) h,λ_ _ _ _ _ _ _ _ F h=>TnV.mono (λ_ _ q=>QU q F) h,λ_ _ _ _ h=>h,λ_ _ _ _ _ _ h=>h⟩
theorem Bt{K:Fg}{ok:Addr->Prop}{ts:List TN}(h:RL (RvT K) ok H vs ts):TnAll K H vs ts:=by
 induction h with
 | nil=>exact .nil
 | cons a _ j=>exact .cons a j
def Yi(K:Fg)(C T:Addr)(n:Nat):Sp:=λvs H Q _=>∃(r l:Addr)(ws:List (5:))(m:Nat)(rm:Int)(t:TN)(a rest:List (5:)),vs=[.ref r,.int rm]/\RdAt C H r l ws m/\(∀w∈ws,w.length<=61)/\m<=ws.length/\ws.drop m=a++rest/\Tkt t a/\Fol rest/\lv t<=n/\(lv t:Int)<=rm+1/\Z1 T H/\
 ∀(v:V)(H':Hp),SXs [T] r H H'->RdAt C H' r l ws (m+a.length)->TnV K H' v t->Z1 T H'->Q v H'
section
variable{K:Fg}{fd:FuncData}{c:Addr}
theorem UI:FnScope ["reader","room","mode","name","kept","add"] ["reader","room"] (defScope Uw):=(0:)
theorem Pn:∀y∈(Q1 eL).names,y.2≠NameKind.cell/\y.2≠NameKind.local:=by decide+kernel
theorem TH:∀y∈(Q1 eL).names,y.2=NameKind.free->y.1=Str.ofString "reader" \/y.1=Str.ofString "room":=by decide+kernel
theorem Ci:Str.ofString "reader"≠Str.ofString "room":=by decide+kernel
theorem PH(F:Fun K "term_from" "term_from" Uw f fd)(hn:PySem.W.nsIn K mainGlobals "term_from"=some (some (.ref f)))(hTb:PySem.W.tabIn K "term_from"=some (c,T))(hC:PySem.W.codeHdIn K c T=true)(hB:BtAt mg base)(TT:RdT K mg C)
 (MP:Mt P w K mg base C 2 "passed" ["self","sign"] (YI C)) (MN:Mt P w K mg base C 3 "take_name" ["self"] (VJ C)) (MA:Mt P w K mg base C 2 "at_number" ["self"] (Nv C Us)) (MI:Mt P w K mg base C 3 "take_number" ["self"] (Vf C)) (mI:Meth K C "in_brackets" fI) (bI:Binds K fdI ["self","take_one"] [])
 (FI:∀(ok:TN->Prop)(g:Heap),FnOk P w K mg g CX0 (3*n+3+3) fI fdI ["self","take_one"] (Of P w K mg C [T] (Z1 T) (RvT K) Tkt Fol ok (3*n+3+2) g))
 (R:∀g:Heap,BtAt mg g->Fn P w K mg g (3*n+4) "term_from" ["reader","room"] (Yi K C T n)):FnOk P w K mg base CX0 (3*n+7) f fd ["reader","room"] (Yi K C T (n+1)):=by
 refine Fun.okC F hn hTb UI (14:) (λA bx s H vs Q E hr h=>?_)
 .obtain⟨r,l,j,m,rm,t,a,rest,rfl,_⟩:=h
  rfl
 obtain⟨r,l,j,m,rm,t,a,rest,rfl,hR,hW,a9,hd,ht,hf,ba,bb,tb,q⟩:=h;refine⟨_,(Qd (QC (Qu Jk (pv 1) Qf (QB _)) QJ Qt)
  (Qd (QC (Q8 (Xk MP TT.cl hr (pv 0) (Qa (Qj) Qc) (10:))) (Qd (Qm (i:=2) UI.nd rfl (7:) (Zp MN TT.cl hr (pv 0) (10:)))
  (Qh (Qn (QF (Qa (Qj) (Qa (pv 2) (Qa (Zp MI TT.cl hr (pv 0) (10:)) Qc))))))) Qt)
  (Qd (Qm (i:=3) UI.nd rfl (7:) (Zp MN TT.cl hr (pv 0) (10:)))
  (Qd (Yf (Qm (i:=4) UI.nd rfl (7:) (Xk MP TT.cl hr (pv 0) (Qa (Qj) Qc) (10:))))
  (Qd (Yf (Qm (i:=5) UI.nd rfl (7:) (J5 (Q8 (Zp MA TT.cl hr (pv 0) (10:))) (Zp MI TT.cl hr (pv 0) (10:)) Qf)))
  (Qh (Qn (QF (Qa (Qj) (Qa (pv 3) (Qa (pv 4) (Qa (pv 5) (Qa (OT (pv 0) TT.cl mI (λg _=>FI (λt=>lv t<=n/\(lv t:Int)<=rm) g) hr bI .nil (λ_=>rfl) (Qa (Sv (c:=c) (T:=T) rfl hC hB) Qc)) Qc))))))))))))),?_⟩
 try dsimp only [QW,Cx.nox]
 have b0:1<=lv t:=by rw [ZP];lia
 have zo:=U0 T;have bc:Str.ofString "*"=S [42]:=by decide+kernel
 have bd:Str.ofString "="=S [61]:=by decide+kernel
 rw [bc,bd];refine L2.let5 ?_
 intros
 obtain⟨dx,hx⟩:=hR.ins;refine⟨_,rfl,_,_,rfl,rfl,_,rfl,Z9 (10:) ?_⟩;refine⟨_,rfl,r,dx,_,rfl,hx,rfl,r,l,j,m,[42],rfl,hR,a9,λan=>⟨_,rfl,Q7 ?_⟩,λY H1 g1 ab=>⟨_,rfl,Q2 ?_⟩⟩
 .
  cases ht with
  | call _ _=>exact absurd (QX (show j.drop m=[42]::_ from hd)).1 an
  | @put wn k ad G ms U hw ax ao ay ap=>
  rw [lv]at ba bb;have be:j.drop m=wn::((kpW k++(ms++brG G U))++rest):=hd;obtain⟨ha,bf,ac,_⟩:=QX be;refine⟨_,rfl,r,dx,_,rfl,hx,rfl,r,l,j,m,rfl,hR,by lia,YV hW m,by rw [ha];exact hw.begs.1,λH1 g1 ab=>?_⟩;rw [ha];have z1:Z1 T H1:=zo.ins _ _ r C dx _ hx g1 tb;have x1:SXs [T] r H H1:=SXs.ofR g1;obtain⟨ai,aj⟩:=ab.ins;refine⟨λa6 H'=>∃p:Nat,a6=[some (.ref r),some (.int rm),none,some (.str (S wn)),some (.bl k),none]/\SXs [T] r H H'/\RdAt C H' r l j p/\p<=j.length/\j.drop p=(ms++brG G U)++rest/\p+(ms++brG G U).length=m+(wn::(kpW k++(ms++brG G U))).length/\Z1 T H',?_,?_⟩
  .refine⟨_,rfl,r,ai,_,rfl,aj,rfl,r,l,j,m+1,[61],rfl,ab,by lia,λan=>?_,λY H2 g2 J=>?_⟩
   .cases k with
    | true=>exact absurd (QX (show j.drop (m+1)=[61]::_ from ac)).1 an
    | false=>exact⟨m+1,rfl,x1,ab,by lia,ac,by simp [kpW];lia,z1⟩
   .cases k with
    | false=>
     exfalso;have ak:j.drop (m+1)=(ms++brG G U)++rest:=ac;rcases ao with rfl | ⟨_,rfl⟩
     .have:=(QX (show j.drop (m+1)=sh ad::_ from ak)).1;rw [this]at Y;have:=Ls ad;rw [Y]at this;cases this
     .cases G with
      | nil=>exact(Lp (show j.drop (m+1)=rest from ak) hf).2.2 Y
      | cons t0 bh=>
       rw [(QX (show j.drop (m+1)=[40]::_ from ak)).1]at Y;cases Y
    | true=>
     obtain⟨_,az,ae,_⟩:=QX (show j.drop (m+1)=[61]::((ms++brG G U)++rest)from ac);exact⟨m+1+1,rfl,x1.trans (SXs.ofR g2),J,by lia,ae,by simp [kpW];lia,zo.ins _ _ r C ai _ aj g2 z1⟩
  rintro σ H2 ⟨p,rfl,x2,J,hp,ae,al,z2⟩;obtain⟨af,ag⟩:=J.ins;refine⟨λa6 H'=>∃p:Nat,a6=[some (.ref r),some (.int rm),none,some (.str (S wn)),some (.bl k),some (.int ad)]/\SXs [T] r H H'/\RdAt C H' r l j p/\p<=j.length/\j.drop p=brG G U++rest/\p+(brG G U).length=m+(wn::(kpW k++(ms++brG G U))).length/\Z1 T H',?_,?_⟩
  .refine⟨_,rfl,r,af,_,rfl,ag,rfl,r,l,j,p,rfl,J,hp,YV hW _,_,rfl,?_⟩;rcases ao with rfl | ⟨rfl,rfl⟩
   .have M:j.drop p=sh ad::(brG G U++rest):=ae;obtain⟨hb,az,bi,_⟩:=QX M;have bg:beg (ah j p) Us=true:=by rw [hb];exact Ls ad
    rw [bg];refine Q2 ⟨_,rfl,r,af,_,rfl,ag,rfl,r,l,j,p,ad,rfl,J,hp,YV hW _,bg,by rw [hb];exact Mg ax,λH3 g3 aa=>?_⟩;exact⟨p+1,rfl,x2.trans (SXs.ofR g3),aa,by lia,bi,by simp at al ⊢;lia,zo.ins _ _ r C af _ ag g3 z2⟩
   .have M:j.drop p=brG G U++rest:=ae;have bg:beg (ah j p) Us=false:=by
     cases G with
     | nil=>exact(Lp (show j.drop p=rest from M) hf).1
     | cons t0 bh=>rw [(QX (show j.drop p=[40]::_ from M)).1];decide
    rw [bg];exact Q7 ⟨p,rfl,x2,J,hp,M,by simp at al ⊢;lia,z2⟩
  rintro σ H3 ⟨p,rfl,x3,aa,hp,M,av,z3⟩;obtain⟨a0,am⟩:=aa.ins;refine⟨_,rfl,_,rfl,_,rfl,_,rfl,r,a0,_,rfl,am,rfl,z3,λL H4 x4 b1 bj bm g hs hc=>?_⟩;obtain⟨b2,a1⟩:=TbS.at z3;have nr:r≠T:=λz=>by rw [z,a1]at am;cases am
  have nl:l≠T:=λz=>by have h:=aa.fl;rw [z,a1]at h;cases h
  have bn:RdAt C H4 r l j p:=⟨⟨a0,x4 _ _ nr am⟩,x4 _ _ nl aa.fl⟩;obtain⟨c1,u1,e1,i1,v1⟩:=hc 0 "reader" (.ref r) rfl rfl rfl;obtain⟨c2,u2,e2,i2,v2⟩:=hc 1 "room" (.int rm) rfl rfl rfl;have a7:∀t0∈G,lv t0<=n/\(lv t0:Int)<=rm:=λt0 aq=>by
   have:=UX aq;lia
  refine⟨r,l,L,j,p,G,U,rest,eL,_,rfl,bn,hp,M,ay.all,λx a hx=>?_,λx a q hx=>hx.fol q,λq=>Fol.cons ⟨by decide,by decide,by decide⟩,λa8=>?_,λt0 aq=>a7 t0 aq,ap,bj,?_,bm,λb vs H5 x5 a2 bo a3 z5=>⟨(by show 5<=sizeLine;decide),λtp ar=>?_⟩⟩
  .obtain⟨w0,q0,e0,h0,_⟩:=hx.head;exact⟨w0,q0,e0,h0⟩
  .subst a8;exact(Lp (show j.drop p=rest from M) hf).2.1
  .obtain rfl:s.heap.objs.size+1=c1:=aK e1;obtain rfl:s.heap.objs.size+1+1=c2:=aK e2;have as:=ClAt.two Ci (aY (fP _)) i1 i2 v1 v2;refine Rt (k:=3*n+4) (N:=["reader","room"]) (vs:=[.ref r,.int rm]) rfl rfl rfl Pn (λx hx=>?_) as (λ_ _ _ _=>rfl) (λbz f' c' A' bp s' H' Q' E' bq h'=>?_)
   .rcases TH _ (dS hx) rfl with z | z
    .have z':x=Str.ofString "reader":=z;rw [z'];obtain⟨c0,u0,e0,_⟩:=as.val 0 (Str.ofString "reader") (.ref r) rfl rfl;exact⟨c0,e0⟩
    .have z':x=Str.ofString "room":=z;rw [z'];obtain⟨c0,u0,e0,_⟩:=as.val 1 (Str.ofString "room") (.int rm) rfl rfl;exact⟨c0,e0⟩
   .obtain⟨m',t',a',aw,_,br,bt,bu,bv,bw,au,z',q'⟩:=h';refine⟨_,Qs (R g (hB.sub hs)) bq (Qa (pv 0) (Qa (Ql Jd (pv 1) Qf) Qc)) (8:),?_⟩;exact⟨_,rfl,_,rfl,_,_,rfl,rfl,r,l,j,m',rm-1,t',a',aw,rfl,br,hW,bt,bu,bv,bw,au.1,(by have:=au.2;lia),z',q'⟩
  .have s6:=Qe ar (.tup [.str PUT,.str (S wn),.bl k,.int ad,.ref b]);rw [av]at a2;have b3:=a3.len;exact q _ _ ((x3.trans (SXs.ofT (bD.mpr rfl) x4)).trans (x5.trans (SXs.of s6))) (a2.same s6) (.put (SqT.of Qb) (s6.seqT bo) (TnAll.mono (λ_ _ h=>s6.seqT h) (Bt a3)) (10:)) (zo.sm _ _ s6 z5)
 .
  cases ht with
  | @put wn k ad G ms U hw ax ao ay ap=>
   exfalso;rw [(QX (show j.drop m=wn::_ from hd)).1]at Y;exact hw.begs.2.2.2.2.1 Y
  | @call mn b hw hb=>
   obtain⟨_,bf,ac,_⟩:=QX (show j.drop m=[42]::(mn::sh b::rest)from hd);obtain⟨a4,az,ae,_⟩:=QX ac;obtain⟨a5,b4,M,_⟩:=QX ae;obtain⟨ai,aj⟩:=ab.ins;have z1:Z1 T H1:=zo.ins _ _ r C dx _ hx g1 tb;refine⟨_,rfl,r,ai,_,rfl,aj,rfl,r,l,j,m+1,rfl,ab,by lia,YV hW _,by rw [a4];exact hw.begs.1,λH2 g2 J=>?_⟩;rw [a4];obtain⟨af,ag⟩:=J.ins;have z2:Z1 T H2:=zo.ins _ _ r C ai _ aj g2 z1;refine⟨_,rfl,_,rfl,r,af,_,rfl,ag,rfl,r,l,j,m+1+1,b,rfl,J,by lia,YV hW _,by rw [a5];exact Ls b,by rw [a5];exact Mg hb,λH3 g3 aa=>⟨(by show 3<=sizeLine;decide),λtp ar=>?_⟩⟩;have s6:=Qe ar (.tup [.str CALL,.str (S mn),.int b]);exact q _ _ ((SXs.ofR g1).trans ((SXs.ofR g2).trans ((SXs.ofR g3).trans (SXs.of s6)))) (aa.same s6) (.call (SqT.of Qb)) (zo.sm _ _ s6 (zo.ins _ _ r C af _ ag g3 z2))
theorem L1{k:Nat}:FnOk P w K mg base CX0 k f fd ["reader","room"] (Yi K C T 0):=by
 have F:∀j H Q E,¬Yi K C T 0 j H Q E:=λj H Q E h=>by
  obtain⟨r,l,M,m,U,t,a,rest,_,_,_,_,_,_,_,J,_⟩:=h;rw [ZP]at J;lia
 exact⟨λj H Q E h=>absurd h (F j H Q E),λA G s H L Y j Q E _ _ _ _ h=>absurd h (F j H Q E)⟩
structure RdM(P:Program)(w:World)(K:Fg)(mg:Str->Option Value)(C:Addr):Prop where
 ps:∀g:Heap,Mt P w K mg g C 2 "passed" ["self","sign"] (YI C)
 tn:∀g:Heap,Mt P w K mg g C 3 "take_name" ["self"] (VJ C)
 an:∀g:Heap,Mt P w K mg g C 2 "at_number" ["self"] (Nv C Us)
 ti:∀g:Heap,Mt P w K mg g C 3 "take_number" ["self"] (Vf C)
 nd:∀g:Heap,Mt P w K mg g C 3 "need" ["self","sign"] (OL C)
 en:∀g:Heap,Mt P w K mg g C 2 "need_end" ["self"] (T8 C)
 ib:∃(fI:Addr)(fdI:FuncData),Meth K C "in_brackets" fI/\Binds K fdI ["self","take_one"] []/\∀(T:Addr)(ok:TN->Prop)(k:Nat)(g:Heap),FnOk P w K mg g CX0 (k+3) fI fdI ["self","take_one"] (Of P w K mg C [T] (Z1 T) (RvT K) Tkt Fol ok (k+2) g)
theorem XR(F:Fun K "term_from" "term_from" Uw f fd)(hn:PySem.W.nsIn K mainGlobals "term_from"=some (some (.ref f)))(hTb:PySem.W.tabIn K "term_from"=some (c,T))(hC:PySem.W.codeHdIn K c T=true)(TT:RdT K mg C)(M:RdM P w K mg C)(hb:Binds K fd ["reader","room"] [])(hm:mg "term_from"=some (.ref f)):∀(n:Nat)(g:Heap),BtAt mg g->FnOk P w K mg g CX0 (3*n+4) f fd ["reader","room"] (Yi K C T n)
 | 0,_,_=>L1
 | n+1,g,G=>by
  obtain⟨fI,aa,J,L,U⟩:=M.ib;exact PH F hn hTb hC G TT (M.ps g) (M.tn g) (M.an g) (M.ti g) J L (λok g=>U T ok (3*n+3) g) λY j=>⟨f,fd,XR F hn hTb hC TT M hb hm n Y j,hb,F.kp,hm⟩
structure RuN where
 m:List Nat
 k:List Nat
 n:List Nat
 t:TN
structure RuV(K:Fg)(H:Hp)(v:V)(x:RuN):Prop where
 ex:∃(a:Addr)(tv:V),v=.ref a/\SqT K H a [.str (S x.m),.str (S x.k),.str (S x.n),tv]/\TnV K H tv x.t
inductive TkR(d:Nat):RuN->List (5:)->Prop where
 | mk {m k n:List Nat} {t:TN} {a:List (5:)}:Nm m->Nm k->Nm n->Tkt t a->lv t<=d->TkR d ⟨m,k,n,t⟩ (m::k::n::[58]::a)
def WI(K:Fg)(C T:Addr):Sp:=λvs H Q _=>∃(r l:Addr)(ws:List (5:))(m:Nat)(x:RuN)(a rest:List (5:)),vs=[.ref r]/\RdAt C H r l ws m/\(∀w∈ws,w.length<=61)/\m<=ws.length/\ws.drop m=a++rest/\TkR 9 x a/\Fol rest/\Z1 T H/\
 ∀(v:V)(H':Hp),SXs [T] r H H'->RdAt C H' r l ws (m+a.length)->RuV K H' v x->Z1 T H'->Q v H'
theorem JJ:FnScope ["reader","mode","kind","name"] ["reader"] (defScope LU):=(0:)
theorem Pq(F:Fun K "rule_from" "rule_from" LU f fd)(TT:RdT K mg C)(M:RdM P w K mg C)(hmb:∃t,mg "MOST_BRACKETS"=some (.int 8 t))(R:Fn P w K mg base 31 "term_from" ["reader","room"] (Yi K C T 9)):FnOk P w K mg base CX0 32 f fd ["reader"] (WI K C T):=by
 refine F.ok JJ (14:) (λaw A av s H vs Q E G h=>?_)
 .obtain⟨r,l,j,m,x,a,rest,rfl,_⟩:=h
  rfl
 obtain⟨r,l,j,m,x,a,rest,rfl,hR,L,ax,hd,ht,hf,tb,q⟩:=h;obtain⟨tk,aj⟩:=hmb;refine⟨_,(Qd (Qm (i:=1) JJ.nd rfl (7:) (Zp (M.tn base) TT.cl G (pv 0) (10:)))
  (Qd (Qm (i:=2) JJ.nd rfl (7:) (Zp (M.tn base) TT.cl G (pv 0) (10:)))
  (Qd (Qm (i:=3) JJ.nd rfl (7:) (Zp (M.tn base) TT.cl G (pv 0) (10:)))
  (Qd (QS (Xk (M.nd base) TT.cl G (pv 0) (Qa (Qj) Qc) (10:)))
  (Qh (Qn (QF (Qa (pv 1) (Qa (pv 2) (Qa (pv 3) (Qa (Qs R G (Qa (pv 0) (Qa (Zf (v:=.int 8) rfl aj ⟨_,rfl⟩) Qc))) Qc))))))))))),?_⟩
 try dsimp only [QW,Cx.nox]
 have J:=U0 T;have ak:Str.ofString ":"=S [58]:=by decide+kernel
 rw [ak];refine L2.let4 ?_
 intros
 cases ht with
 | @mk mn kn nn t a al am an ao ap=>
 obtain⟨a1,m1,d1,_⟩:=QX (show j.drop m=mn::(kn::nn::[58]::(a++rest))from hd);obtain⟨a2,m2,d2,_⟩:=QX d1;obtain⟨a3,m3,d3,_⟩:=QX d2;obtain⟨a4,m4,d4,_⟩:=QX d3;obtain⟨dx,hx⟩:=hR.ins;refine⟨_,rfl,r,dx,_,rfl,hx,rfl,r,l,j,m,rfl,hR,by lia,YV L m,by rw [a1];exact al.begs.1,λH1 g1 Y=>?_⟩;rw [a1];have z1:Z1 T H1:=J.ins _ _ r C dx _ hx g1 tb;obtain⟨aa,ab⟩:=Y.ins;refine⟨_,rfl,r,aa,_,rfl,ab,rfl,r,l,j,m+1,rfl,Y,by lia,YV L _,by rw [a2];exact am.begs.1,λH2 g2 ac=>?_⟩;rw [a2];have z2:Z1 T H2:=J.ins _ _ r C aa _ ab g2 z1;obtain⟨ad,ae⟩:=ac.ins;refine⟨_,rfl,r,ad,_,rfl,ae,rfl,r,l,j,m+1+1,rfl,ac,by lia,YV L _,by rw [a3];exact an.begs.1,λH3 g3 af=>?_⟩;rw [a3];have z3:Z1 T H3:=J.ins _ _ r C ad _ ae g3 z2;obtain⟨ag,ai⟩:=af.ins;refine⟨_,rfl,r,ag,_,rfl,ai,rfl,r,l,j,m+1+1+1,[58],rfl,af,by lia,a4,λH4 g4 aq=>?_⟩;have z4:Z1 T H4:=J.ins _ _ r C ag _ ai g4 z3;refine⟨_,rfl,_,rfl,_,rfl,_,rfl,r,l,j,m+1+1+1+1,8,t,a,rest,rfl,aq,L,by lia,d4,ao,hf,ap,by lia,z4,λv H5 x5 ar as z5=>⟨(by show 4<=sizeLine;decide),λtp au=>?_⟩⟩;have U:=Qe au (.tup [.str (S mn),.str (S kn),.str (S nn),v]);refine q _ _ ((SXs.ofR g1).trans ((SXs.ofR g2).trans ((SXs.ofR g3).trans ((SXs.ofR g4).trans (x5.trans (SXs.of U)))))) ?_ ⟨tp,v,rfl,SqT.of Qb,TnV.mono (λ_ _ h=>U.seqT h) as⟩ (J.sm _ _ U z5);have e:m+(mn::kn::nn::[58]::a).length=m+1+1+1+1+a.length:=by simp;lia
 rw [e];exact ar.same U
end
end K12
variable{rs:List K12.RuN}
namespace K12
open PySem L2 K3 TM K9
inductive LV where
 | call (m:V) (b:Int)
 | put (n:Str) (k:Bool) (a:Int)
abbrev TV:=Tree LV
mutual
inductive TvV(K:Fg)(H:Hp):V->TV->Prop where
 | call {a:Addr} {m:V} {b:Int}:SqT K H a [.str CALL,m,.int b]->TvV K H (.ref a) (.node (.call m b) 0 [])
 | put {a b:Addr} {vs:List V} {ts:List TV} {n:Str} {k:Bool} {ad:Int}:SqT K H a [.str PUT,.str n,.bl k,.int ad,.ref b]->SqT K H b vs->TvAll K H vs ts->vs.length<=1000->TvV K H (.ref a) (.node (.put n k ad) 0 ts)
inductive TvAll(K:Fg)(H:Hp):List V->List TV->Prop where
 | nil:TvAll K H [] []
 | cons {v:V} {vs:List V} {t:TV} {ts:List TV}:TvV K H v t->TvAll K H vs ts->TvAll K H (v::vs) (t::ts)
end
mutual
theorem TvV.mono{K:Fg}{H H':Hp}(k:∀a xs,SqT K H a xs->SqT K H' a xs):∀{v:V}{t:TV},TvV K H v t->TvV K H' v t
 | _,_,.call h=>.call (k _ _ h)
 | _,_,.put h1 h2 j F=>.put (k _ _ h1) (k _ _ h2) (TvAll.mono k j) F
theorem TvAll.mono{K:Fg}{H H':Hp}(k:∀a xs,SqT K H a xs->SqT K H' a xs):∀{vs:List V}{ts:List TV},TvAll K H vs ts->TvAll K H' vs ts
 | _,_,.nil=>.nil
 | _,_,.cons h t=>.cons (TvV.mono k h) (TvAll.mono k t)
end
theorem TvAll.length{K:Fg}:∀{vs:List V}{ts:List TV},TvAll K H vs ts->vs.length=ts.length
 | _,_,.nil=>rfl
 | _,_,.cons _ t=>by rw [aJ,aJ,TvAll.length t]
theorem TvAll.get{K:Fg}:∀{vs:List V}{ts:List TV}{i:Nat}{t:TV},TvAll K H vs ts->ts[i]?=some t->∃v,vs[i]?=some v/\TvV K H v t
 | _,_,_,_,.nil,e=>by simp at e
 | _,_,0,_,.cons h _,e=>by simp at e;subst e;exact⟨_,rfl,h⟩
 | _,_,i+1,t,.cons _ r,e=>by
  obtain⟨v,h1,h2⟩:=TvAll.get (i:=i) (t:=t) r (by simpa using e);exact⟨v,by simpa using h1,h2⟩
theorem ZZ{K:Fg}{t:TV}(h:TvV K H v t):(∃a m b,v=.ref a/\t=.node (.call m b) 0 []/\SqT K H a [.str CALL,m,.int b]) \/
 ∃a b vs n k ad,v=.ref a/\t=.node (.put n k ad) 0 t.bs/\SqT K H a [.str PUT,.str n,.bl k,.int ad,.ref b]/\SqT K H b vs/\TvAll K H vs t.bs/\vs.length<=1000:=by
 cases h with
 | call h=>exact .inl ⟨_,_,_,rfl,rfl,h⟩
 | put h1 h2 j F=>exact .inr ⟨_,_,_,_,_,_,rfl,rfl,h1,h2,j,F⟩
def Do:TV->Bool
 | .node (.call _ _) _ _=>true
 | _=>false
mutual
noncomputable def clV:TV->List (V×Int)
 | .node (.call m b) _ _=>[(m,b)]
 | .node (.put _ _ _) _ bs=>clVs bs
noncomputable def clVs:List TV->List (V×Int)
 | []=>[]
 | t::r=>clV t++clVs r
end
theorem NZ(ts:List TV)(c:TV):clVs (ts++[c])=clVs ts++clV c:=by
 induction ts with
 | nil=>simp [clVs]
 | cons t r j=>rw [dY,clVs,clVs,j,bO]
mutual
theorem VQ:∀t:TV,(clV t).length<=sz t
 | .node (.call m b) _ bs=>by rw [clV,sz];simp
 | .node (.put n k a) _ bs=>by rw [clV,sz];have:=JS bs;lia
theorem JS:∀ts:List TV,(clVs ts).length<=szs ts
 | []=>by rw [clVs,szs];exact bX _
 | t::r=>by rw [clVs,szs,aI];have:=VQ t;have:=JS r;lia
end
abbrev RfV(ts:List (Addr×V×Int)):List V:=ts.map λt=>V.ref t.1
def TsV(K:Fg)(H:Hp)(ts:List (Addr×V×Int)):Prop:=∀t∈ts,SqT K H t.1 [t.2.1,.int t.2.2]
theorem TsV.mono{K:Fg}{ts:List (Addr×V×Int)}(h:TsV K H ts)(k:∀a xs,SqT K H a xs->SqT K H' a xs):TsV K H' ts:=λt j=>k _ _ (h t j)
theorem TsV.app{K:Fg}{ts us:List (Addr×V×Int)}(h:TsV K H ts)(k:TsV K H us):TsV K H (ts++us):=λt j=>by
 rcases aW.mp j with z | z
 .exact h t z
 .exact k t z
def ZX(K:Fg):Sp:=λvs H Q _=>∃(v:V)(t:TV),vs=[v]/\TvV K H v t/\Q (.bl (Do t)) H
def Jo(K:Fg)(n:Nat):Sp:=λvs H Q _=>∃(v:V)(t:TV),vs=[v]/\TvV K H v t/\lv t<=n/\sz t<=1000/\∀H',Same H H'->Q (.int (sz t:Int)) H'
def Jg(K:Fg)(n:Nat):Sp:=λvs H Q _=>∃(v:V)(t:TV),vs=[v]/\TvV K H v t/\lv t<=n/\sz t<=1000/\
 ∀(l:Addr)(H':Hp)(ts:List (Addr×V×Int)),Same H H'->H l=none->H' l=some (.lst (RfV ts))->TsV K H' ts->ts.map (·.2)=clV t->Q (.ref l) H'
section
variable{K:Fg}{fd:FuncData}
theorem CP:FnScope ["term"] ["term"] (defScope Wz):=(0:)
theorem Bk(F:Fun K "is_call" "is_call" Wz f fd):FnOk P w K mg base CX0 1 f fd ["term"] (ZX K):=by
 refine F.ok CP (λG H Q E h=>?_) (λM A j s H G Q E U h=>?_)
 .obtain⟨v,t,rfl,_⟩:=h
  rfl
 obtain⟨v,t,rfl,J,q⟩:=h;refine⟨_,(Qh (Qn (Z0 Zw (3:) Qj (QB _)))),?_⟩
 try dsimp only [QW,Cx.nox]
 rcases ZZ J with⟨a,m,b,rfl,rfl,h1⟩ | ⟨a,b,bs,n,k,Y,rfl,L,h1,h2,h3,h4⟩
 .refine⟨_,rfl,a,_,0,_,rfl,rfl,h1,rfl,rfl,?_⟩;have e:decide (V.str CALL=V.str CALL)=true:=aV rfl;show Q (.bl (decide (V.str CALL=V.str CALL))) H;rw [e];exact q
 .refine⟨_,rfl,a,_,0,_,rfl,rfl,h1,rfl,rfl,?_⟩;have e:decide (V.str PUT=V.str CALL)=false:=by decide+kernel
  show Q (.bl (decide (V.str PUT=V.str CALL))) H;rw [L]at q;rw [e];exact q
theorem DI:FnScope ["term"] ["term"] (defScope VZ):=(0:)
theorem Cm(F:Fun K "term_size" "term_size" VZ f fd)(G:Gm mg)(RC:Fn P w K mg base 1 "is_call" ["term"] (ZX K))(R:Fn P w K mg base (n+1) "term_size" ["term"] (Jo K n)):FnOk P w K mg base CX0 (n+2) f fd ["term"] (Jo K (n+1)):=by
 refine F.ok DI (14:) (λaj A ag s H vs Q E U h=>?_)
 .obtain⟨v,t,rfl,_⟩:=h
  rfl
 obtain⟨v,t,rfl,Y,aa,ab,q⟩:=h;refine⟨_,(Qd (QC (Q8 (Qs RC U (Qa (pv 0) Qc) (fT 1 n))) (Qh (Qn Qf)) Qt)
  (Qh (Qn (Ql Zx Qf (Qv (GJ rfl) rfl G.sum PyProof.Rows.boot_sum (Qa (Xs (CompOk.plain rfl (1:) (1:) (1:)) rfl (YO (3:)) (λ_ _ _ _=>Zg) (λ_ _ _ _=>Qs R U (Qa (pv 0) Qc) (8:))) Qc)))))),?_⟩
 try dsimp only [QW,Cx.nox]
 refine L2.let1 ?_
 intros
 refine⟨_,rfl,v,t,rfl,Y,_,rfl,?_⟩;rcases ZZ Y with⟨a,m,b,rfl,rfl,h1⟩ | ⟨a,b,bs,nm,k,ad,rfl,et,h1,h2,h3,h4⟩
 .exact Q2 (q H (Same.refl _))
 rw [et];refine Q7 ?_;have ai:=h3.length;rw [ZP]at aa;rw [AC]at ab q;refine⟨_,rfl,a,_,4,_,rfl,rfl,h1,rfl,b,rfl,⟨_,h2⟩,λacc J=>?_⟩;refine JV (K:=K) (xs:=bs) (tt:=λ_ H Q=>Q true H) (te:=XX (Jo K n) [] E0 (Xp (LD 0) V7)) (cs:=[]) (λi ys H'=>H' acc=some (.lst ys)/\Same H H'/\ys=((t.bs.take i).map λu=>(sz u:Int)).map V.int)
  ⟨Qb,Qe J _,rfl⟩ ?_ ?_ ?_
 .rintro i ys H' _ ⟨_,g,_⟩;exact g.seqT h2
 .rintro i x ys H' hi hx ⟨j,g,rfl⟩;obtain⟨c,M⟩: ∃c,t.bs[i]?=some c:=⟨_,aE (10:)⟩;obtain⟨cv,ac,ae⟩:=h3.get M;obtain rfl:cv=x:=aK (ac.symm.trans hx);have L:=bC M;have a1:=UX L;have a2:=T9 L;refine Q2 ⟨_,rfl,cv,c,rfl,ae.mono λ_ _=>g.seqT,by lia,by lia,λH4 g4=>?_⟩;refine QI hi (g4 _ _ j) (by rw [aA,aA,bH];lia) ⟨Qb,λx u e=>?_,?_⟩
  .rw [Qi (Qg e J)];exact g4 _ _ (g _ _ e)
  .rw [bE,M];simp
 rintro ys H1 ⟨j,g,rfl⟩;have af:t.bs.take bs.length=t.bs:=cQ (10:);rw [af]at j;refine⟨acc,_,rfl,SqL.of j,⟨λm L=>?_,?_⟩,_,_,rfl,rfl,?_⟩
 .obtain⟨u,_,rfl⟩:=aP.mp L;lia
 .rw [Uc];lia
 .rw [Uc];exact q H1 g
theorem T2{k:Nat}:FnOk P w K mg base CX0 k f fd ["term"] (Jo K 0):=by
 have F:∀j H Q E,¬Jo K 0 j H Q E:=λj H Q E h=>by
  obtain⟨v,t,_,_,J,_⟩:=h;rw [ZP]at J;lia
 exact⟨λj H Q E h=>absurd h (F j H Q E),λA G s H L M j Q E _ _ _ _ h=>absurd h (F j H Q E)⟩
theorem Ou(F:Fun K "term_size" "term_size" VZ f fd)(G:Gm mg)(RC:Fn P w K mg base 1 "is_call" ["term"] (ZX K))(hb:Binds K fd ["term"] [])(hm:mg "term_size"=some (.ref f)):∀n:Nat,FnOk P w K mg base CX0 (n+1) f fd ["term"] (Jo K n)
 | 0=>T2
 | n+1=>Cm F G RC ⟨f,fd,Ou F G RC hb hm n,hb,F.kp,hm⟩
theorem A5:FnScope ["term","told","part"] ["term"] (defScope Xj):=(0:)
theorem Ck(F:Fun K "calls_of" "calls_of" Xj f fd)(G:Gm mg)(RC:Fn P w K mg base 1 "is_call" ["term"] (ZX K))(R:Fn P w K mg base (n+1) "calls_of" ["term"] (Jg K n)):FnOk P w K mg base CX0 (n+2) f fd ["term"] (Jg K (n+1)):=by
 refine F.ok A5 (14:) (λao A al s H vs Q E hr h=>?_)
 .obtain⟨v,t,rfl,_⟩:=h
  rfl
 obtain⟨v,t,rfl,ht,ae,af,q⟩:=h;refine⟨_,(Qd (QC (Q8 (Qs RC hr (Qa (pv 0) Qc) (fT 1 n))) (Qh (Qn (Q0 (Qa ((QF (Qa (3:) (Qa (3:) Qc)))) Qc)))) Qt)
  (Qd (Qm (i:=1) A5.nd rfl (7:) (Q0 Qc))
  (Qd (Ze bS rfl (YO (3:)) (Qz (i:=2) A5.nd rfl (7:))
   (Qh (QS (Zi bY PySem.F.slot_list_extend PySem.F.type_list_extend Wq (pv 1) (Qa (Qs R hr (Qa (pv 2) Qc) (8:)) Qc)))))
  (Qh (Qn (pv 1)))))),?_⟩
 try dsimp only [QW,Cx.nox]
 refine L2.let3 ?_
 intros
 refine⟨_,rfl,v,t,rfl,ht,_,rfl,?_⟩;rcases ZZ ht with⟨a,m,b,rfl,rfl,h1⟩ | ⟨a,b,bs,nm,k,ad,rfl,et,h1,h2,h3,h4⟩
 .refine Q2 ⟨_,rfl,a,_,1,_,rfl,rfl,h1,rfl,_,rfl,a,_,2,_,rfl,rfl,h1,rfl,(18:),λp hp=>⟨(by show 1<=sizeLine;decide),λl hl=>?_⟩⟩;have g1:=Qe hp (.tup [m,.int b]);have g2:=Qe hl (.lst [.ref p]);refine q l _ [(p,m,b)] (g1.trans g2) (g1.free hl) Qb (λx M=>?_) rfl;have:x=(p,m,b):=by simpa using M
  rw [this];exact g2.seqT (SqT.of Qb)
 have ac:clV t=clVs t.bs:=by
  have:=congrArg clV et;rw [this];simp [clV]
 rw [et];refine Q7 ?_;have am:=h3.length;rw [ZP]at ae;rw [AC]at af;rw [ac]at q;refine⟨(20:),λl hl=>?_⟩;have g0:=Qe hl (.lst []);refine⟨_,rfl,a,_,4,_,rfl,rfl,g0.seqT h1,rfl,b,rfl,⟨_,g0.seqT h2⟩,?_⟩;refine MX (K:=K) (xs:=bs) (λi σ H'=>∃(j:List (Addr×V×Int))(c1:Option V),σ=[some (.ref a),some (.ref l),c1]/\Same H H'/\H' l=some (.lst (RfV j))/\TsV K H' j/\j.map (·.2)=clVs (t.bs.take i))
  ⟨[],none,rfl,g0,Qb,λx M=>(nomatch M),by simp [clVs]⟩ ?_ ?_ ?_
 .rintro i σ H' _ ⟨j,c1,_,g,_⟩;exact g.seqT h2
 .rintro i x σ H' M ⟨j,c1,rfl,g,L,U,J⟩;have hi:i<bs.length:=(bT.mp M).1;obtain⟨c,hc⟩: ∃c,t.bs[i]?=some c:=⟨_,aE (10:)⟩;obtain⟨cv,ag,ai⟩:=h3.get hc;obtain rfl:cv=x:=aK (ag.symm.trans M);have hm:=bC hc;have a1:=UX hm;have a2:=T9 hm;refine⟨_,rfl,.inl ⟨rfl,_,SqL.of L⟩,_,rfl,cv,c,rfl,ai.mono λ_ _=>g.seqT,by lia,by lia,λlb Hb ab gb an aj ak Y=>?_⟩;have aa:=gb _ _ L;have tl:j.length<=szs t.bs:=by
   have e:=congrArg List.length J;rw [aA]at e;have h5:=JS (t.bs.take i);have ap:szs (t.bs.take i)<=szs t.bs:=by
    have e:=Uc (t.bs.take i++t.bs.drop i);rw [aS,fR,Uc,Uc,fK]at e;lia
   lia
  have aq:ab.length<=sz c:=by
   have e:=congrArg List.length Y;rw [aA]at e;have h5:=VQ c;lia
  refine⟨l,lb,_,_,rfl,rfl,aa,aj,?_,?_⟩
  .rw [aA,aA];exact QA (10:)
  refine⟨j++ab,_,rfl,λx u e=>?_,by rw [Qb];simp,?_,?_⟩
  .rw [Qi (Qg e hl)];exact gb _ _ (g _ _ e)
  .exact(U.mono λ_ _ h=>(gb.seqT h).put aa).app (ak.mono λ_ _ h=>h.put aa)
  .rw [aS,J,Y,bE,hc];show _=(clVs (t.bs.take i++[c]));rw [NZ]
 .rintro σ H' ⟨j,c1,rfl,g,L,U,J⟩;rw [cQ (10:)]at J;exact⟨_,rfl,q l H' j g hl L U J⟩
theorem S7{k:Nat}:FnOk P w K mg base CX0 k f fd ["term"] (Jg K 0):=by
 have F:∀j H Q E,¬Jg K 0 j H Q E:=λj H Q E h=>by
  obtain⟨v,t,_,_,J,_⟩:=h;rw [ZP]at J;lia
 exact⟨λj H Q E h=>absurd h (F j H Q E),λA G s H L M j Q E _ _ _ _ h=>absurd h (F j H Q E)⟩
theorem P7(F:Fun K "calls_of" "calls_of" Xj f fd)(G:Gm mg)(RC:Fn P w K mg base 1 "is_call" ["term"] (ZX K))(hb:Binds K fd ["term"] [])(hm:mg "calls_of"=some (.ref f)):∀n:Nat,FnOk P w K mg base CX0 (n+1) f fd ["term"] (Jg K n)
 | 0=>S7
 | n+1=>Ck F G RC ⟨f,fd,P7 F G RC hb hm n,hb,F.kp,hm⟩
end
end K12
variable{ts:List K12.TV}
namespace L2
open PySem PySem.Spec PyProof.Rows
def ValO(p d:Addr):HO:=.ext λh=>h.IsValuesView p d
theorem N4:MtR X "dict.values" (λx vs H Q=>∃(d:Addr)(kvs:List (Key×V)),x=.ref d/\vs=[]/\H d=some (.dK kvs)/\∀p,H p=none->Q (.ref p) (upd H p (ValO p d))):=by
 intro pins s σ H x xs v Y Q I G J h;obtain⟨d,kvs,rfl,rfl,L,q⟩:=h;cases G;cases J;obtain⟨z,ne,vs,U,j⟩:=MC I.hok L;refine call_meetsIn PySem.F.slot_dict_values j.typeIs PySem.F.entry_dict_values (PySem.F.args_dict_values_1 _) (meets_dict_values (QH X.prog X.w) d ne) ⟨⟨vs,j⟩,?_⟩;refine⟨.ref s.heap.objs.size,_,I.laid (a:=s.heap.objs.size) (o:=ValO s.heap.objs.size d) (t':=s.toks) (λb o e=>aT _ e) (8:) ?_,rfl,q _ (I.hok.fresh (8:))⟩;refine⟨⟨_,bQ _ rfl,rfl,rfl⟩,⟨_,bQ _ rfl⟩,λh1 h2 ⟨o,e,c,M⟩ k=>⟨o,k _ e,c,M⟩⟩
section
variable{pins:List (13:)}
theorem Inv.freeze(I:Inv X pins σ H s)(hd:H d=some (.dK kvs))(e:s.heap.get? d=some ob):Inv X pins σ (upd H d (.frz ob (.dK kvs))) s:=by
 have e1:∀b u,H b=some u->u≠.dK kvs->upd H d (.frz ob (.dK kvs)) b=some u:=λb u q n=>by rw [Qi (ne_of q hd n)];exact q
 have J:=I.step (h':=s.heap) (H':=upd H d (.frz ob (.dK kvs))) (g':=s.gens) (d':=s.drawn) (t':=s.toks) (ch:=[]) (λ_ z=>nomatch z) (λb o _ _ _ q _=>q) (λb o _ _ _ q _=>⟨o.slots,q⟩)
  (λb o _ q n=>by rw [Qi (λz=>by rw [z,hd]at n;cases n)];exact n) (λb o _ q=>⟨o,q⟩) (λb xs q=>e1 b _ q (23:)) (λb o u q=>e1 b _ q (23:)) (λb ps q=>⟨#[],by rw [e1 b _ q (23:)];simp⟩) (λm hn=>hn)
  (λb u q=>by
   by_cases j:b=d
   .subst j;rw [Qb]at q;cases q;exact⟨e,(I.hok b _ hd).stay (λc v _ r=>r) (λc r=>e1 c _ r (23:)) λc xs r=>e1 c _ r (23:)⟩
   .rw [Qi j]at q;exact(I.hok b u q).stay (λc v _ r=>r) (λc r=>e1 c _ r (23:)) λc xs r=>e1 c _ r (23:)) I.bare
 exact J
theorem Inv.thaw(I:Inv X pins σ H s)(h0:∀o u,X.H₀ d≠some (.frz o u))(hd:H d=some (.frz ob (.dK kvs))):Inv X pins σ (upd H d (.dK kvs)) s:=by
 have e1:∀b u,H b=some u->u≠.frz ob (.dK kvs)->upd H d (.dK kvs) b=some u:=λb u q n=>by rw [Qi (ne_of q hd n)];exact q
 have F:∀b,H b=none->upd H d (.dK kvs) b=none:=λb n=>by rw [Qi (λz=>by rw [z,hd]at n;cases n)];exact n
 refine⟨I.ok,I.os,I.bare,⟨I.base.keep,I.base.slot,λb o q n J=>F b (I.base.free b o q n J),I.base.there,λb xs q=>e1 b _ (I.base.tups b xs q) (23:),λb o u q=>?_,λb ps q=>?_⟩,I.loc,I.cell,F _ I.free,λx c q=>F _ (I.freeC x c q),λp hp=>?_,λb u q=>?_,I.len⟩
 .have:=I.base.frzs b o u q
  by_cases j:b=d
  .subst j;exact absurd q (h0 o u)
  .rw [Qi j];exact this
 .obtain⟨G,e⟩:=I.base.tbls b ps q;exact⟨G,e1 b _ e (23:)⟩
 .obtain⟨L,M,U⟩:=I.pin p hp;exact⟨L,F _ M,U⟩
 .by_cases j:b=d
  .subst j;rw [Qb]at q;cases q;exact(I.hok b _ hd).2.stay (λc v _ r=>r) (λc r=>e1 c _ r (23:)) λc xs r=>e1 c _ r (23:)
  .rw [Qi j]at q;exact(I.hok b u q).stay (λc v _ r=>r) (λc r=>e1 c _ r (23:)) λc xs r=>e1 c _ r (23:)
end
def Te(d:Addr)(kvs:List (Key×V))(Q:Hp->Prop):Hp->Prop:=λH=>(∃o,H d=some (.frz o (.dK kvs)))/\Q (upd H d (.dK kvs))
def C6(t:TS):TS:=λD σ H=>∃d kvs,H d=some (.dK kvs)/\t { nx:=λσ'=>Te d kvs (D.nx σ'),ct:=λσ'=>Te d kvs (D.ct σ'),bk:=λσ'=>Te d kvs (D.bk σ'),rt:=λv=>Te d kvs (D.rt v) } σ H
theorem L7{st:Stmt}{t:TS}(h:PS X st t):PS X st (C6 t):=by
 intro pins s σ H D I M;obtain⟨d,kvs,U,M⟩:=M;have G:∀o u,X.H₀ d≠some (.frz o u):=λo u q=>by
  have:=I.base.frzs d o u q;rw [U]at this;cases this
 refine c_ (h pins s σ H _ I M) (λf s' L=>?_) λ_ _ z=>z;cases f with
 | next=>obtain⟨j,H',J,⟨o,F⟩,q⟩:=L;exact⟨j,_,J.thaw G F,q⟩
 | cont=>obtain⟨j,H',J,⟨o,F⟩,q⟩:=L;exact⟨j,_,J.thaw G F,q⟩
 | brk=>obtain⟨j,H',J,⟨o,F⟩,q⟩:=L;exact⟨j,_,J.thaw G F,q⟩
 | ret u=>obtain⟨v,j,H',J,Y,⟨o,F⟩,q⟩:=L;exact⟨v,j,_,J.thaw G F,Y,q⟩
def BM(d:Addr)(o:Obj)(kvs:List (Key×V)):It:=
 ⟨λi H=>H d=some (.frz o (.dK kvs))/\i<kvs.length,λi H x H'=>H'=H/\∃k,kvs[i]?=some (k,x),λi H=>H d=some (.frz o (.dK kvs))/\kvs.length<=i⟩
theorem UL{h:Heap}{es:Array DictEntry}(x:HOk P w H h)(hd:H d=some (.frz o (.dK kvs)))(he:o.data=.dict es ep):h.get? d=some o/\∃vs,KV kvs vs/\h.DictAt (QH P w) d vs ep:=by
 obtain⟨e,z,ne,vs,j,L,G,J,e2,ex,F,r⟩:=x d _ hd;refine⟨e,vs,j,?_⟩;rw [e]at e2;cases e2;rw [he]at F;cases F;exact⟨o,es,e,ex,he,r⟩
theorem KV.at{vs:List (Key×Value)}(r:KV kvs vs){k:Key}(e:kvs[i]?=some (k,v)):∃u,vs[i]?=some (k,u)/\RelV v u:=by
 induction r generalizing i with
 | nil=>simp at e
 | @cons p q _ _ h _ j=>
  cases i with
  | zero=>
   simp at e;subst e;obtain⟨F,u⟩:=q;obtain⟨h1,h2⟩:=h;simp only at h1 h2;subst h1;exact⟨u,rfl,h2⟩
  | succ i=>exact j (by simpa using e)
theorem L3{K:Fg}{es:Array DictEntry}(he:o.data=.dict es ep)(kvs:List (Key×V))(it:Addr):Turn P w K tg (BM d o kvs) [it] it (λi h=>h.IsValIter it d i kvs.length ep) where
 mem:=by simp
 obj:=λi h st b F=>by
  have e:b=it:=by simpa using F
  subst e;obtain⟨G,e,c,M⟩:=st;exact⟨G,e,λv z=>by rw [M]at z;cases z⟩
 keep:=λi h h' st k=>by
  obtain⟨G,e,r⟩:=st;exact⟨G,k it (22:) G e,r⟩
 item:=by
  intro X U Y hK hc i pins s σ H E I L st hg;subst U Y hK;obtain⟨hd,hi⟩:=hg;obtain⟨_,vs,j,D⟩:=UL I.hok hd he;have ek:kvs[i]?=some (kvs[i].1,kvs[i].2):=aE hi;obtain⟨u,hu,ru⟩:=KV.at j ek;obtain⟨f0,f1,f2,f3,f4,f5⟩:=L it (22:);rw [j.length]at st;refine wpAny_pyNext_values_item st D hu λh' J sb=>?_;have I1:Inv X pins σ H { s with heap:=h' }:=I.turned (t':=s.toks) (λb o F e=>(sb.2 b F).trans e) f0 f1 f3 f4 f5;obtain⟨G,e,c,M⟩:=id J;rw [<-j.length]at J;exact⟨u,rfl,MF (s:={ s with heap:=h' }) e c M (9:) ⟨kvs[i].2,H,I1,ru,⟨rfl,_,ek⟩,J,λb F=>(L b F).1⟩⟩
 done:=by
  intro X U Y hK hc i pins s σ H E I L st hg;subst U Y hK;obtain⟨hd,hi⟩:=hg;obtain⟨_,vs,j,D⟩:=UL I.hok hd he;obtain⟨f0,f1,f2,f3,f4,f5⟩:=L it (22:);rw [j.length]at st;exact wpAny_pyNext_values_end (I.ok.hd hc) st D (eZ (by rw [<-j.length];exact hi)) λh' eb=>⟨rfl,I.turned (t':=s.toks) (λb o F e=>eb b o F e) f0 f1 f3 f4 f5⟩
 self:=λA i s Q E st h=>wpAny_pyIter_valiter st h
def iDV(te:TE):TI:=λσ H R=>te σ H λx H1=>∃p d kvs,x=.ref p/\H1 p=some (ValO p d)/\H1 d=some (.dK kvs)/\∀o,R (BM d o kvs) (upd H1 d (.frz o (.dK kvs)))
theorem Oj(he:PE X e te):PI X tg e (iDV te):=by
 intro pins s σ H R I h;refine thn (he pins s σ H _ I h) λv j ⟨x,H1,F,Y,p,d,kvs,ex,hp,J,q⟩=>?_;subst ex;obtain rfl:v=Value.ref p:=Y;obtain⟨z,ne,vs,L,o,es,ep,M,ext,U,rest⟩:=MC F.hok J;have hv:j.heap.IsValuesView p d:=(F.hok p _ hp).1;refine wpAny_pyIter_values (knd:=QH X.prog X.w) hv ⟨o,es,M,ext,U,rest⟩ ?_;have G:=F.freeze J M;refine⟨j.heap.objs.size,[j.heap.objs.size],_,_,_,rfl,G.kept (t':=j.toks) λb o e=>aT _ e,L3 U kvs _,?_,λb hb=>?_,q o⟩
 .rw [L.length];exact⟨_,bQ _ rfl,rfl,rfl⟩
 .have e:b=j.heap.objs.size:=by simpa using hb
  subst e;exact G.fpOk (8:) (G.hok.fresh (8:))
theorem NH(hc:X.calm=true):ZO X (.builtin "any") (λxs H Q=>∃(l:Addr)(bs:List Bool),xs=[.ref l]/\SqL X.K H l (bs.map V.bl)/\Q (.bl (bs.any id)) H):=by
 intro pins s σ H xs us Q I r h;obtain⟨l,bs,rfl,hl,q⟩:=h;cases r with
 | cons r U=>
  cases U;obtain rfl:_=Value.ref l:=r;obtain⟨its,Y,p,_⟩:=I.list hl;obtain rfl:=Um Y;have L:=p.isList;have M:l<s.heap.objs.size:=by obtain⟨_,e,_⟩:=L;exact aN e
  refine call_any_walk (gW L ?_);refine⟨s.heap.objs.size,[s.heap.objs.size,l],[s.heap.objs.size],(bs.map Value.bool).toArray.size,_,_,λi=>(bs[i]?).getD false,rfl,Walks.list (A:=X.A.in1) (I.ok.hd hc) _ l (aY M) (bs.map Value.bool).toArray,⟨⟨_,bQ _ rfl,rfl,rfl⟩,L.push _⟩,λi v s' Q' E' hP hQ=>?_,λh' tk hk=>?_⟩
  .have j:(bs.map Value.bool)[i]?=some v:=by simpa using hP
   rw [aM]at j;cases F:bs[i]? with
   | none=>rw [F]at j;simp at j
   | some b=>
    rw [F]at j;obtain rfl:Value.bool b=v:=by simpa using j
    have G:Q' ((bs[i]?).getD false) s':=hQ;rw [F]at G;exact dI G
  .have e:((List.range (bs.map Value.bool).toArray.size).any λi=>(bs[i]?).getD false)=bs.any id:=by
    rw [aX,aA,fF,gY,gY];constructor
    .rintro⟨i,hi,h⟩;have J:=cN.mp hi;rw [aE J]at h;exact⟨_,aO J,h⟩
    .rintro⟨x,hx,h⟩;obtain⟨i,hi,rfl⟩:=iJ hx;exact⟨i,cN.mpr hi,by rw [aE hi];exact h⟩
   rw [e];exact⟨.bl _,H,I.kept (t':=tk) (λb o F=>hk b o (λhm=>by rw [bD.mp hm]at F;exact cO _ (aN F)) (aT _ F)),rfl,q⟩
end L2
namespace K12
open PySem L2 K3 TM K9
theorem ZD{k:Nat}(hr:Room k A):A.units+1<cLine:=by have:=hr.units;lia
mutual
noncomputable def mpV(g:V->V):TV->TV
 | .node (.call m b) _ _=>.node (.call (g m) b) 0 []
 | .node (.put n k a) _ bs=>.node (.put n k a) 0 (mpVs g bs)
noncomputable def mpVs(g:V->V):List TV->List TV
 | []=>[]
 | t::r=>mpV g t::mpVs g r
end
theorem UP(g:V->V):∀ts:List TV,mpVs g ts=ts.map (mpV g)
 | []=>by rw [mpVs];rfl
 | t::r=>by rw [mpVs,UP g r];rfl
theorem UV{t:TV}{c:V×Int}(h:t∈ts)(hc:c∈clV t):c∈clVs ts:=by
 induction ts with
 | nil=>cases h
 | cons u r j=>
  rw [clVs];rcases aQ.mp h with rfl | h
  .exact cU _ hc
  .exact bV _ (j h)
theorem TvAll.append{K:Fg}:∀{vs ws:List V}{ts us:List TV},TvAll K H vs ts->TvAll K H ws us->TvAll K H (vs++ws) (ts++us)
 | _,_,_,_,.nil,h=>h
 | _,_,_,_,.cons a t,h=>.cons a (TvAll.append t h)
mutual
noncomputable def kpV:TV->Bool
 | .node (.call _ _) _ _=>false
 | .node (.put _ k _) _ bs=>k||kpVs bs
noncomputable def kpVs:List TV->Bool
 | []=>false
 | t::r=>kpV t||kpVs r
end
theorem VY:∀ts:List TV,kpVs ts=(ts.map kpV).any id
 | []=>by simp [kpVs]
 | t::r=>by simp only [kpVs,aR,List.any_cons,id,VY r]
structure GmA(mg:Str->Option Value):Prop where
 any:mg "any"=none
 all:mg "all"=none
 enu:mg "enumerate"=none
 dict:mg "dict"=none
 zip:mg "zip"=none
 set:mg "set"=none
def Na(K:Fg):Sp:=λvs H Q _=>∃(v:V)(l:Addr)(ws:List V)(n:Str)(k:Bool)(ad:Int)(ts us:List TV),vs=[v,.ref l]/\TvV K H v (.node (.put n k ad) 0 ts)/\SqL K H l ws/\TvAll K H ws us/\ws.length<=1000/\
 ∀(v':V)(H':Hp),Same H H'->TvV K H' v' (.node (.put n k ad) 0 us)->Q v' H'
def Jp(K:Fg)(n:Nat):Sp:=λvs H Q _=>∃(v:V)(t:TV),vs=[v]/\TvV K H v t/\lv t<=n/\∀H',Same H H'->Q (.bl (kpV t)) H'
def Gd(K:Fg)(n:Nat):Sp:=λvs H Q _=>∃(v:V)(d:Addr)(kvs:List (Key×V))(t:TV)(g:V->V),vs=[v,.ref d]/\TvV K H v t/\lv t<=n/\H d=some (.dK kvs)/\(∀m b,(m,b)∈clV t->∃k:Key,m=kV k/\YD kvs k=some (g m))/\∀(v':V)(H':Hp),Same H H'->TvV K H' v' (mpV g t)->Q v' H'
section
variable{K:Fg}{fd:FuncData}
theorem Dw:FnScope ["term","parts"] ["term","parts"] (defScope G8):=(0:)
theorem B0(F:Fun K "with_parts" "with_parts" G8 f fd)(G:Gm mg):FnOk P w K mg base CX0 1 f fd ["term","parts"] (Na K):=by
 refine F.ok Dw (λM H Q E h=>?_) (λab A aa s H M Q E hr h=>?_)
 .obtain⟨v,l,j,n,k,U,ts,us,rfl,_⟩:=h
  rfl
 obtain⟨v,l,j,n,k,U,ts,us,rfl,J,hl,hw,Y,q⟩:=h;refine⟨_,(Qh (Qn (QF (Qa (Qj) (Qa (3:) (Qa (3:) (Qa (3:) (Qa (QE ZT rfl G.tup fY (Qa (pv 1) Qc)) Qc)))))))),?_⟩
 try dsimp only [QW,Cx.nox]
 cases J with
 | @put a b M _ _ _ _ h1 h2 h3 h4=>
  refine⟨_,rfl,a,_,1,_,rfl,rfl,h1,rfl,_,rfl,a,_,2,_,rfl,rfl,h1,rfl,_,rfl,a,_,3,_,rfl,rfl,h1,rfl,_,rfl,l,j,rfl,.inl ⟨hl,λt J=>⟨(by show 5<=sizeLine;decide),λp hp=>?_⟩⟩⟩;have g1:=Qe J (.tup j);have L:=Qe hp (.tup [.str PUT,.str n,.bl k,.int U,.ref t]);exact q (.ref p) _ (g1.trans L) (.put (SqT.of Qb) (L.seqT (SqT.of Qb)) (hw.mono λ_ _=>(g1.trans L).seqT) Y)
theorem DB:FnScope ["term"] ["term"] (defScope Xr):=(0:)
theorem CV(F:Fun K "keeps_mark" "keeps_mark" Xr f fd)(G:GmA mg)(RC:Fn P w K mg base 1 "is_call" ["term"] (ZX K))(R:Fn P w K mg base (n+1) "keeps_mark" ["term"] (Jp K n)):FnOk P w K mg base CX0 (n+2) f fd ["term"] (Jp K (n+1)):=by
 refine F.ok DB (14:) (λai A af s H vs Q E M h=>?_)
 .obtain⟨v,t,rfl,_⟩:=h
  rfl
 obtain⟨v,t,rfl,U,Y,q⟩:=h;refine⟨_,(Qd (QC (Q8 (Qs RC M (Qa (pv 0) Qc) (fT 1 n))) (Qh (Qn Yq)) Qt)
  (Qh (Qn (CG (3:) (J9 (Qv (NH rfl) rfl G.any PyProof.Rows.boot_any (Qa (Xs (CompOk.plain rfl (1:) (1:) (1:)) rfl (YO (3:)) (λ_ _ _ _=>Zg) (λ_ _ _ _=>Qs R M (Qa (pv 0) Qc) (8:))) Qc))))))),?_⟩
 try dsimp only [QW,Cx.nox]
 refine L2.let1 ?_
 intros
 refine⟨_,rfl,v,t,rfl,U,_,rfl,?_⟩;rcases ZZ U with⟨a,m,b,rfl,rfl,h1⟩ | ⟨a,b,bs,nm,k,ad,rfl,et,h1,h2,h3,h4⟩
 .exact Q2 (q H (Same.refl _))
 have aa:kpV t=(k||kpVs t.bs):=by
  have:=congrArg kpV et;rw [this];simp [kpV]
 rw [et];refine Q7 ?_;have ag:=h3.length;rw [ZP]at Y;rw [aa]at q;refine⟨_,rfl,a,_,2,_,rfl,rfl,h1,rfl,k,rfl,?_⟩;cases k with
 | true=>exact Q2 (q H (Same.refl _))
 | false=>
  refine Q7 ⟨_,rfl,a,_,4,_,rfl,rfl,h1,rfl,b,rfl,⟨_,h2⟩,λacc J=>?_⟩;refine JV (K:=K) (xs:=bs) (tt:=λ_ H Q=>Q true H) (te:=XX (Jp K n) [] E0 (Xp (LD 0) V7)) (cs:=[]) (λi ys H'=>H' acc=some (.lst ys)/\Same H H'/\ys=((t.bs.take i).map kpV).map V.bl)
   ⟨Qb,Qe J _,rfl⟩ ?_ ?_ ?_
  .rintro i ys H' _ ⟨_,g,_⟩;exact g.seqT h2
  .rintro i x ys H' hi hx ⟨j,g,rfl⟩;obtain⟨c,L⟩: ∃c,t.bs[i]?=some c:=⟨_,aE (10:)⟩;obtain⟨cv,ab,ac⟩:=h3.get L;obtain rfl:cv=x:=aK (ab.symm.trans hx);have hm:=bC L;have a1:=UX hm;refine Q2 ⟨_,rfl,cv,c,rfl,ac.mono λ_ _=>g.seqT,by lia,λH4 g4=>?_⟩;refine QI hi (g4 _ _ j) (by rw [aA,aA,bH];lia) ⟨Qb,λx u e=>?_,?_⟩
   .rw [Qi (Qg e J)];exact g4 _ _ (g _ _ e)
   .rw [bE,L];simp
  rintro ys H1 ⟨j,g,rfl⟩;have ae:t.bs.take bs.length=t.bs:=cQ (10:);rw [ae]at j;refine⟨acc,_,rfl,SqL.of j,?_⟩;rw [<-VY];exact q H1 g
theorem TC{k:Nat}:FnOk P w K mg base CX0 k f fd ["term"] (Jp K 0):=by
 have F:∀j H Q E,¬Jp K 0 j H Q E:=λj H Q E h=>by
  obtain⟨v,t,_,_,J,_⟩:=h;rw [ZP]at J;lia
 exact⟨λj H Q E h=>absurd h (F j H Q E),λA G s H L M j Q E _ _ _ _ h=>absurd h (F j H Q E)⟩
theorem Rw(F:Fun K "keeps_mark" "keeps_mark" Xr f fd)(G:GmA mg)(RC:Fn P w K mg base 1 "is_call" ["term"] (ZX K))(hb:Binds K fd ["term"] [])(hm:mg "keeps_mark"=some (.ref f)):∀n:Nat,FnOk P w K mg base CX0 (n+1) f fd ["term"] (Jp K n)
 | 0=>TC
 | n+1=>CV F G RC ⟨f,fd,Rw F G RC hb hm n,hb,F.kp,hm⟩
theorem SH:FnScope ["term","numbers"] ["term","numbers"] (defScope XG):=(0:)
theorem Ch(F:Fun K "with_modes" "with_modes" XG f fd)(G:Gm mg)(RC:Fn P w K mg base 1 "is_call" ["term"] (ZX K))(RW:Fn P w K mg base 1 "with_parts" ["term","parts"] (Na K))(R:Fn P w K mg base (n+1) "with_modes" ["term","numbers"] (Gd K n)):FnOk P w K mg base CX0 (n+2) f fd ["term","numbers"] (Gd K (n+1)):=by
 refine F.ok SH (14:) (λam A ak s H vs Q E hr h=>?_)
 .obtain⟨v,d,kvs,t,g,rfl,_⟩:=h
  rfl
 obtain⟨v,lt,kvs,t,L,rfl,ht,ae,aa,hT,q⟩:=h;refine⟨_,(Qd (QC (Q8 (Qs RC hr (Qa (pv 0) Qc) (fT 1 n))) (Qh (Qn (QF (Qa (Qj) (Qa (UM (ZD hr) (pv 1) (3:) (λ_ _=>rfl)) (Qa (3:) Qc)))))) Qt)
  (Qh (Qn (Qs RW hr (Qa (pv 0) (Qa (QY (CompG.many (xs:=["part"]) (caps:=["numbers"]) (cap:=[1]) (cs:=[_]) rfl rfl (1:) (1:) (1:) (1:) (1:) (1:) rfl rfl rfl) rfl (YO (3:)) (UU (CompG.many (xs:=["part"]) (caps:=["numbers"]) (cap:=[1]) (cs:=[_]) rfl rfl (1:) (1:) (1:) (1:) (1:) (1:) rfl rfl rfl)) (λ_ _ _ _=>Zg) (λ_ _ _ _=>Qs R hr (Qa (pv 0) (Qa (pv 1) Qc)) (8:))) Qc)) (fT 1 n))))),?_⟩
 try dsimp only [QW,Cx.nox]
 refine L2.let1 ?_
 intros
 refine⟨_,rfl,v,t,rfl,ht,_,rfl,?_⟩;rcases ZZ ht with⟨a,m,b,rfl,rfl,h1⟩ | ⟨a,b,bs,nm,k,ad,rfl,et,h1,h2,h3,h4⟩
 .obtain⟨ky,e1,e2⟩:=hT m b (by simp [clV]);refine Q2 ⟨_,rfl,_,rfl,a,_,1,_,rfl,rfl,h1,rfl,lt,L m,rfl,(by rw [<-e2,e1];exact DGet.k aa),_,rfl,a,_,2,_,rfl,rfl,h1,rfl,(by show 3<=sizeLine;decide),λp hp=>?_⟩;have g1:=Qe hp (.tup [.str CALL,L m,.int b]);exact q (.ref p) _ g1 (.call (SqT.of Qb))
 have ac:clV t=clVs t.bs:=by
  have:=congrArg clV et;rw [this];simp [clV]
 rw [ac]at hT;rw [et];refine Q7 ?_;have al:=h3.length;rw [ZP]at ae;refine⟨_,rfl,_,rfl,a,_,4,_,rfl,rfl,h1,rfl,b,rfl,⟨_,h2⟩,λacc M=>?_⟩;refine GL (K:=K) (xs:=bs) (cs:=[some (.ref lt)]) (tt:=λ_ H Q=>Q true H) (te:=XX (Gd K n) [] E0 (Xp (LD 0) (Xp (LD 1) V7))) (λi ys H'=>H' acc=some (.lst ys)/\Same H H'/\ys.length=i/\TvAll K H' ys ((t.bs.take i).map (mpV L)))
  ⟨Qb,Qe M _,rfl,.nil⟩ ?_ ?_ ?_
 .rintro i ys H' _ ⟨_,g,_⟩;exact g.seqT h2
 .rintro i x ys H' hi hx ⟨j,g,ab,J⟩;obtain⟨c,hc⟩: ∃c,t.bs[i]?=some c:=⟨_,aE (10:)⟩;obtain⟨cv,af,ag⟩:=h3.get hc;obtain rfl:cv=x:=aK (af.symm.trans hx);have hm:=bC hc;have a1:=UX hm;refine Q2 ⟨_,rfl,_,rfl,cv,lt,kvs,c,L,rfl,ag.mono λ_ _=>g.seqT,by lia,g _ _ aa,λm b ai=>hT m b (UV hm ai),λv' H4 U Y=>?_⟩;refine QI (ys:=ys) hi (U _ _ j) (10:) ⟨Qb,λx u e=>?_,by simp [ab],?_⟩
  .rw [Qi (Qg e M)];exact U _ _ (g _ _ e)
  .rw [bE,hc];show TvAll K _ (ys++[v']) ((t.bs.take i++[c]).map (mpV L));rw [aS];refine TvAll.append (J.mono λ_ _ h=>(U.seqT h).put (U _ _ j)) (.cons (Y.mono λ_ _ h=>h.put (U _ _ j)) .nil)
 rintro ys H1 ⟨j,g,ab,J⟩;have aj:t.bs.take bs.length=t.bs:=cQ (10:);rw [aj]at J;refine⟨.ref a,acc,ys,nm,k,ad,t.bs,t.bs.map (mpV L),rfl,(by rw [<-et];exact ht.mono λ_ _=>g.seqT),SqL.of j,J,by lia,λv' H2 g2 Y=>q v' H2 (g.trans g2) ?_⟩;rw [et];rw [mpV,UP];exact Y
theorem TD{k:Nat}:FnOk P w K mg base CX0 k f fd ["term","numbers"] (Gd K 0):=by
 have F:∀j H Q E,¬Gd K 0 j H Q E:=λj H Q E h=>by
  obtain⟨v,d,kvs,t,M,_,_,J,_⟩:=h;rw [ZP]at J;lia
 exact⟨λj H Q E h=>absurd h (F j H Q E),λA G s H L U j Q E _ _ _ _ h=>absurd h (F j H Q E)⟩
theorem Rb(F:Fun K "with_modes" "with_modes" XG f fd)(G:Gm mg)(RC:Fn P w K mg base 1 "is_call" ["term"] (ZX K))(RW:Fn P w K mg base 1 "with_parts" ["term","parts"] (Na K))(hb:Binds K fd ["term","numbers"] [])(hm:mg "with_modes"=some (.ref f)):∀n:Nat,FnOk P w K mg base CX0 (n+1) f fd ["term","numbers"] (Gd K n)
 | 0=>TD
 | n+1=>Ch F G RC RW ⟨f,fd,Rb F G RC RW hb hm n,hb,F.kp,hm⟩
end
end K12
namespace L2
open PySem PySem.Spec PyProof.Rows
theorem JZ{h:Heap}{S:Addr}(k:∀o,h.get? S=some o->h'.get? S=some o)(q:Heap.SetOf (strKind prog w) h S F n):Heap.SetOf (strKind prog w) h' S F n:=by
 obtain⟨o,es,ep,t,h1,r⟩:=q;exact⟨o,es,ep,t,k o h1,r⟩
theorem VU{h:Heap}{S:Addr}{F':Str->Bool}(e:F=F')(q:Heap.SetOf (strKind prog w) h S F n):Heap.SetOf (strKind prog w) h S F' n:=e ▸ q
def JC(items:Array Value)(ns:List Str):Prop:=items.size=ns.length/\∀(j:Nat)(x:Str),ns[j]?=some x->∃t,items[j]?=some (.str x t)
def ZM(ns:List Str):Nat->Nat
 | 0=>0
 | i+1=>match ns[i]? with
  | some x=>if x∈ns.take i then ZM ns i else ZM ns i+1
  | none=>ZM ns i
theorem JL(ns:List Str):∀i,ZM ns i<=i
 | 0=>bX _
 | i+1=>by
  have:=JL ns i;unfold ZM;split
  .split<;>lia
  .lia
theorem GD(h:ns.Nodup):∀i,i<=ns.length->ZM ns i=i
 | 0,_=>rfl
 | i+1,hi=>by
  have G:=GD h i (10:);have e:ns[i]?=some ns[i]:=aE (10:);have F:ns[i]∉ns.take i:=λz=>by
   obtain⟨j,J,e⟩:=List.mem_take_iff_getElem.mp z;have:=(eR h).mp e;lia
  unfold ZM;rw [e];simp only [];rw [aF F,G]
theorem OB(h:¬ns.Nodup):ZM ns ns.length<ns.length:=by
 have:∃i,∃hi:i<ns.length,ns[i]∈ns.take i:=Classical.byContradiction λz=>h (h_.mpr λi j hi F L e=>z ⟨j,F,List.mem_take_iff_getElem.mpr ⟨i,by lia,e⟩⟩);obtain⟨i,hi,G⟩:=this;have go:∀k,i+1+k<=ns.length->ZM ns (i+1+k)<i+1+k:=λk=>by
  induction k with
  | zero=>
   intro _;have:=JL ns i;show ZM ns (i+1)<i+1;unfold ZM;rw [aE hi];simp only [];rw [aH G];lia
  | succ k J=>
   intro M;have:=J (10:);show ZM ns ((i+1+k)+1)<_;unfold ZM;split
   .split<;>lia
   .lia
 have:=go (ns.length-(i+1)) (10:)
 rwa [show i+1+(ns.length-(i+1))=ns.length by lia]at this
theorem NR{S:Addr}(hh:A.handled=none)(hIS:S≠I)(hIl:l≠I)(hSl:l≠S)(hv:JC items ns)(hb:ns.length+1<scanBound):
 ∀(k i:Nat)(s:Shared),ns.length-i=k->i<=ns.length->s.heap.IsListIter I l i->s.heap.IsList l items->Heap.SetOf (strKind prog w) s.heap S (λx=>decide (x∈ns.take i)) (ZM ns i)->
  (∀(h':Heap)(tk:Nat),(∀b o,b≠I->b≠S->s.heap.get? b=some o->h'.get? b=some o)->Heap.SetOf (strKind prog w) h' S (λx=>decide (x∈ns)) (ZM ns ns.length)->R (.ok (.ret .none)) { s with heap:=h',toks:=tk })->
  codeAny (model prog w) A (.builtin "set.update.loop" ⟨[.ref S,.ref I],[]⟩) R s:=by
 intro k
 induction k with
 | zero=>
  intro i s hk hi st hl q kk;have ei:i=ns.length:=by lia
  refine hG F.entry_set_update_loop ?_;rw [iI F.plain_set_update_loop _];show wpAny _ A.in1 (pyNext (.ref I)>>=_) _ _ s;refine aD (wpAny_pyNext_list_end (A:=A.in1) hh st hl (by have:=hv.1;simp;lia) λh' M=>?_);refine aG (kk h' s.toks (λb o J _ e=>M b o J e) ?_);rw [ei,bP]at q;exact JZ (λo e=>M S o hIS e) q
 | succ k ih=>
  intro i s hk hi st hl q kk;have j:i<ns.length:=by lia
  obtain⟨t,ht⟩:=hv.2 i ns[i] (aE j);refine hG F.entry_set_update_loop ?_;rw [iI F.plain_set_update_loop _];show wpAny _ A.in1 (pyNext (.ref I)>>=_) _ _ s;refine aD (wpAny_pyNext_list_item (A:=A.in1) st hl ht λh1 U L=>?_);have q1:=JZ (h':=h1) (λo e=>(L.2 S hIS).trans e) q;have Y:h1.IsList l items:=by
   obtain⟨o,e,r⟩:=hl;exact⟨o,(L.2 l hIl).trans e,r⟩
  refine aD (eE ?_);unfold setAdd;refine eE (aD ((strKind prog w).pyHash (strKind_is prog w ns[i] t) ?_));refine wpAny_setAddHashed_of (knd:=strKind prog w) (strKind_is prog w ns[i] t) rfl q1 (by have:=JL ns i;lia) λh2 G q2=>?_;have aa:ZM ns (i+1)=if(λx=>decide (x∈ns.take i)) ns[i]then ZM ns i else ZM ns i+1:=by
   show(match ns[i]? with | some x=>if x∈ns.take i then ZM ns i else ZM ns i+1 | none=>ZM ns i)=_;rw [aE j];simp
  have q3:Heap.SetOf (strKind prog w) h2 S (λx=>decide (x∈ns.take (i+1))) (ZM ns (i+1)):=by
   rw [aa];exact VU (by
   funext x
   rw [bE,aE j,cV,fF];simp only [Bool.or_eq_true,decide_eq_true_eq,aW,bD]) q2
  have ab:h2.IsListIter I l (i+1):=by
   obtain⟨o,e,r⟩:=U;exact⟨o,(G.2 I hIS.symm).trans e,r⟩
  have ac:h2.IsList l items:=by
   obtain⟨o,e,r⟩:=Y;exact⟨o,(G.2 l hSl).trans e,r⟩
  refine aG ⟨plainId_quiet F.plain_set_update_loop _,?_⟩;exact ih (i+1) _ (10:) (10:) ab ac q3 λh' tk kp q'=>kk h' tk (λb o J n2 e=>kp b o J n2 ((G.2 b n2).trans ((L.2 b J).trans e))) q'
section
variable{pins:List (13:)}
theorem CZ(led:Bool):(SetTable.fresh 0 0 led).fits 0=true:=by cases led<;>decide
theorem SD{h:Heap}{S:Addr}(e:h.get? S=some { cls:=.type "set",data:=.set #[] 0 (SetTable.fresh 0 0 led) }):Heap.SetOf (strKind prog w) h S (λx=>decide (x∈([]:List Str))) 0:=by
 refine⟨_,#[],0,_,e,?_,rfl,?_,?_,by decide,CZ led,rfl⟩
 .first | exact⟨rfl,rfl⟩ | exact⟨rfl,rfl,rfl⟩ | rfl | decide
 .first | exact .nil | exact⟨λ_ h=>nomatch h,.nil⟩ | simp [ElemsOf] | (unfold ElemsOf;simp)
 .intro k;simp
end
abbrev ZL(led:Bool):Obj:={ cls:=.type "set",dict:=none,data:=.set #[] 0 (.fresh 0 0 led) }
theorem Nk(hh:A.handled=none)(hl:s.heap.IsList l its)(hv:JC its ns)(hb:ns.length+1<scanBound)(hp:Heap)
 (ep:hp=s.heap.push (ZL led))
 (k:∀(h2:Heap)(tk:Nat),Heap.SetOf (strKind prog w) h2 s.heap.objs.size (λx=>decide (x∈ns)) (ZM ns ns.length)->(∀b ob,b<s.heap.objs.size->s.heap.get? b=some ob->h2.get? b=some ob)->R (.ok (.ret .none)) { s with heap:=h2,toks:=tk }):
 codeAny (model prog w) A (.call (.builtin "set.__init__") ⟨[.ref s.heap.objs.size,.ref l],[]⟩) R { s with heap:=hp }:=by
 subst ep;have j:(s.heap.push (ZL led)).get? s.heap.objs.size=some (ZL led):=bQ _ rfl;have tS:Shared.TypeIs { s with heap:=s.heap.push (ZL led) } (.ref s.heap.objs.size) "set":=⟨_,j,rfl⟩;refine codeAny_call_builtin eX.init.plain F.entry_set_init (check_set_init_1 tS ?_);obtain⟨ol,gl,cl,G,J⟩:=hl;obtain⟨oc,od,aa,L⟩:=ol;simp only at cl J;subst cl;subst J;have M:(s.heap.push (ZL led)).get? l=some { cls:=.type "list",dict:=od,data:=.seq its G,slots:=L }:=aT _ gl;have n1:=F.sub_list_set;have n2:=F.sub_list_frozenset;have n3:(Value.type "list"==Value.type "dict")=false:=by decide
 have U:(s.heap.push (ZL led)).IsList l its:=⟨_,M,rfl,G,rfl⟩;unfold Builtin.«set.__init__» noKeywords Builtin.Frozenset.updateFrom;generalize Y:pyIter=PI
 wp_walk
 subst Y;refine gW U ?_;refine aD (wpAny_runValue ?_);have ll:l<s.heap.objs.size:=aN gl;have e1:(s.heap.push (ZL led)).objs.size=s.heap.objs.size+1:=fU ..;refine NR (by simp [hh]) (by rw [e1];exact aY (fP _)) (by rw [e1];exact aY (Nat.lt_succ_of_lt ll)) (aY ll) hv hb (ns.length-0) 0 _ (10:) (bZ _) ⟨_,bQ _ rfl,rfl,rfl⟩ (U.push _) (SD (led:=led) (aT _ j)) λh2 tk kp q=>?_;show wpAny _ _ _ _ _ _;refine aG ?_;show wpAny _ _ (ret Value.none) _ _ _;refine aG (k h2 tk q λb ob lb e=>kp b ob (by rw [e1];exact aY (Nat.lt_succ_of_lt lb)) (aY lb) (aT _ (aT _ e)))
theorem NV(hh:A.handled=none)(hl:s.heap.IsList l its)(hv:JC its ns)(hb:ns.length+1<scanBound)
 (k:∀(h2:Heap)(tk:Nat),Heap.SetOf (strKind prog w) h2 s.heap.objs.size (λx=>decide (x∈ns)) (ZM ns ns.length)->(∀b ob,b<s.heap.objs.size->s.heap.get? b=some ob->h2.get? b=some ob)->Q (.ref s.heap.objs.size) { s with heap:=h2,toks:=tk }):
 wpAny (model prog w) A (call (.type "set") [.ref l]) Q E s:=by
 obtain⟨c,tl,aa⟩:=eX.mro;have f1:=eX.made;have f2:=eX.sub;have f3:=eX.notType;have f4:=eX.canCreate;have f5:=F.typeCall_set_1 (.ref l);refine wpAny_call (codeAny_of_tree ?_);show wpAny _ _ (callAny (.type "set") _) _ _ _;refine aG ⟨Code.quiet_builtin _ (1:),hG F.entry_type_call ?_⟩;rw [Around.under_plain (weight_type_call_type "set" [.ref l] []) rfl]
 repeat (any_goals (first | assumption | wp_step))
 refine eV (code_set_new_1 (.ref l) (E:=E) (Q₁:=λob M=>∃j:Bool,ob=.ref s.heap.objs.size/\M={ s with heap:=s.heap.push (ZL j) }) λj=>⟨j,rfl,rfl⟩) λr M J=>?_;cases r with
 | error e=>exact J
 | ok fl=>
  cases fl with
  | ret ob=>
   obtain⟨j,rfl,rfl⟩:=J;have gS:(s.heap.push (ZL j)).get? s.heap.objs.size=some (ZL j):=bQ _ rfl;have tS:Shared.TypeIs { s with heap:=s.heap.push (ZL j) } (.ref s.heap.objs.size) "set":=⟨_,gS,rfl⟩;have f6:=eX.init.lookup;have f7:=eX.init.bind (.ref s.heap.objs.size)
   repeat (any_goals (first | assumption | wp_step))
   refine eV (Nk (R:=wants (λr U=>r=.none/\∃h2 tk,U={ s with heap:=h2,toks:=tk }/\Heap.SetOf (strKind prog w) h2 s.heap.objs.size (λx=>decide (x∈ns)) (ZM ns ns.length)/\∀b ob,b<s.heap.objs.size->s.heap.get? b=some ob->h2.get? b=some ob) E) (by simp [hh]) hl hv hb _ rfl λh2 tk q L=>⟨rfl,h2,tk,rfl,q,L⟩) λr2 U G=>?_;cases r2 with
   | error e=>exact G
   | ok Y=>
    cases Y with
    | ret r=>
     obtain⟨rfl,h2,tk,rfl,q,L⟩:=G
     repeat (any_goals (first | assumption | wp_step))
     exact k _ _ q L
    | _=>exact G.elim
  | _=>exact J.elim
def TxO(P:Program)(w:World)(S:Addr)(F:Str->Bool)(n:Nat):HO:=.ext λh=>Heap.SetOf (strKind P w) h S F n
theorem VI{its:List Value}(r:Vals (ns.map V.str) its):JC its.toArray ns:=by
 refine⟨by have:=r.length;simp at this ⊢;lia,λj x h=>?_⟩;have h2:(ns.map V.str)[j]?=some (.str x):=by rw [aM,h];rfl
 obtain⟨u,F,⟨t,rfl⟩⟩:=Vals.get r h2;exact⟨t,by simpa using F⟩
theorem Lk(hc:X.calm=true):ZO X (.type "set") (λxs H Q=>∃(l:Addr)(ns:List Str),xs=[.ref l]/\SqL X.K H l (ns.map V.str)/\ns.length<=1000/\∀S,H S=none->Q (.ref S) (upd H S (TxO X.prog X.w S (λx=>decide (x∈ns)) (ZM ns ns.length)))):=by
 intro pins s σ H xs M Q I F h;obtain⟨l,ns,rfl,hl,hn,q⟩:=h;obtain⟨u,rfl,G⟩:=Uj F;cases G;obtain⟨its,r,J,hz⟩:=I.list hl;refine NV (ns:=ns) (I.ok.hd hc) J.isList (VI r) (by unfold scanBound;lia) λh2 tk j L=>?_;exact⟨.ref s.heap.objs.size,_,I.laid (t':=tk) (λb o e=>L b o (aN e) e) (8:) (show ObjOk X.prog X.w _ h2 _ (TxO X.prog X.w _ _ _)from⟨j,(by obtain⟨o,_,_,_,e,_⟩:=j;exact⟨o,e⟩),λh1 U a k=>JZ k a⟩),rfl,q _ (I.hok.fresh (8:))⟩
theorem Lg:ZO X (.builtin "len") (λxs H Q=>∃(S:Addr)(F:Str->Bool)(n:Nat),xs=[.ref S]/\H S=some (TxO X.prog X.w S F n)/\n<=1000/\Q (.int n) H):=by
 intro pins s σ H xs L Q I j h;obtain⟨S,F,n,rfl,G,hn,q⟩:=h;obtain⟨u,rfl,J⟩:=Uj j;cases J;obtain⟨⟨o,es,ep,t,g,ex,d,a,b,c,f,z⟩,_⟩:=(show ObjOk X.prog X.w H s.heap S (TxO X.prog X.w S F n)from I.hok S _ G);exact call_len_set g ex d f (by rw [z];lia) ⟨.int n,H,(I.tok _).tok _,⟨s.toks+1,by rw [z]⟩,q⟩
section
variable{K:Type} [DecidableEq K] {knd:KeyKind prog w K}
theorem Nu{kvs:List (K×Value)}{k:K}{dflt:Value}(hkey:knd.is k key=true)(hm:s.heap.DictOf knd d kvs)
 (hthere:∀v,valueAt kvs k=some v->Q v { s with toks:=s.toks+1 })
 (hnew:k∉kvs.map (·.1)->∀h':Heap,h'.DictOf knd d (kvs++[(k,dflt)])->Heap.SameBut d s.heap h'->Q dflt { s with heap:=h',toks:=s.toks+1 })
 (hsz:kvs.length<=sizeLine):wpAny (model prog w) A (dictSetDefault d key dflt) Q E s:=by
 have ab:=hm.mapOf;obtain⟨o,es,ep,J,hc,F,M,hp,hn⟩:=hm;have U:es.size<=sizeLine:=by
  have e1:=hp.length;have e2:es.toList.length=es.size:=by simp
  lia
 have L:(es.findIdx? λe=>knd.is k e.key)=kvs.findIdx? λkv=>decide (kv.1=k):=by
  rw [<-hp.findIdx k];obtain⟨l⟩:=es;simp
 unfold dictSetDefault
 try with_reducible refine eE ?_
 refine aD (knd.pyHash hkey ?_);refine aD (wpAny_dictFind_of (s:={ s with toks:=s.toks+1 }) hkey J F M ?_);cases hi:es.findIdx? λe=>knd.is k e.key with
 | some i=>
  have Y:i<es.size:=(Array.findIdx?_eq_some_iff_findIdx_eq.mp hi).1;refine aD (wpAny_dictEntries (s:={ s with toks:=s.toks+1 }) J F ?_);have aa:valueAt kvs k=some es[i].val:=by
   rw [<-hp.find k];have h1:(es.toList.findIdx? λe=>knd.is k e.key)=some i:=by rw [<-hi];obtain⟨l⟩:=es;simp
   have h2:=List.findIdx?_eq_some_iff_findIdx_eq.mp h1;have h3:es.toList.find? (λe=>knd.is k e.key)=some es.toList[i]:=by
    rw [List.find?_eq_some_iff_getElem];obtain⟨a,b,c⟩:=List.findIdx?_eq_some_iff_getElem.mp h1;exact⟨b,i,a,rfl,λj hj=>by simpa using c j hj⟩
   rw [h3];simp
  rw [Array.getElem?_eq_getElem Y];exact aD (wpAny_rule (aG (hthere _ aa)))
 | none=>
  have G:k∉kvs.map (·.1):=not_mem_of_findIdx_none (L ▸ hi);refine aD (wpAny_rule (aD (wpAny_updateDictKeys (hz:=U) (s:={ s with toks:=s.toks+1 }) J F (aG (hnew G _ ⟨_,_,ep+1,Heap.get?_update_self _ J (Obj.isFreed_of_dict (Obj.data_mapDictKeys F _)),hc.mapDictKeys _,Obj.data_mapDictKeys F _,M.push hkey _,?_,?_⟩ (Heap.SameBut.update ..))))))
  .have:=hp.append hkey (knd.hash k) dflt;obtain⟨l⟩:=es
   simpa using this
  .rw [aS,fO];refine⟨hn,by simp,?_⟩;intro a ha b hb;simp only [aR,eW,bD]at hb;subst hb;exact λe=>G (e ▸ ha)
theorem Nl{k:K}(hkey:knd.is k key=true)(hd:(d==sysModules)=false)(dflt:Value)(kvs:List (K×Value))(hsz:kvs.length<=sizeLine):
 MeetsIn prog w (Builtin.«dict.setdefault» ⟨[.ref d,key,dflt],[]⟩) (λ_ R s=>s.heap.DictOf knd d kvs/\
  (∀v,valueAt kvs k=some v->R (.ok (.ret v)) { s with toks:=s.toks+1 })/\
  (k∉kvs.map (·.1)->∀h':Heap,h'.DictOf knd d (kvs++[(k,dflt)])->Heap.SameBut d s.heap h'->R (.ok (.ret dflt)) { s with heap:=h',toks:=s.toks+1 })):=
 .of_wp λA R s ⟨j,h1,h2⟩=>by
  unfold Builtin.«dict.setdefault»;refine aD ?_;unfold Builtin.Dict.keyAndDefault;refine aD (wpAny_notOrdered_dict j.mapOf.typeIs ?_);show wpAny _ _ (pure (d,key,some dflt)) _ _ s;refine aG ?_;show wpAny _ _ (if(d==sysModules)=true then _ else(dictSetDefault d key dflt>>=_)) _ _ s;rw [aF (by rw [hd];exact a_)];exact aD (Nu hkey j (λv J=>aG ⟨v,rfl,h1 v J⟩) (λhn h' F G=>aG ⟨dflt,rfl,h2 hn h' F G⟩) hsz)
end
theorem XQ:MtR X "dict.setdefault" (λx vs H Q=>∃(d:Addr)(kvs:List (Key×V))(k:Key)(v:V),x=.ref d/\vs=[kV k,v]/\H d=some (.dK kvs)/\kvs.length<sizeLine/\
 (∀u,YD kvs k=some u->Q u H)/\(k∉kvs.map (·.1)->Q v (upd H d (.dK (kvs++[(k,v)]))))):=by
 intro pins s σ H x xs v us Q I rx rv h;obtain⟨d,kvs,k,v',rfl,rfl,e,hl,h1,h2⟩:=h;cases rx;obtain⟨U,G,rfl,r1,rr⟩: ∃U G,us=U::G/\RelV (kV k) U/\Vals [v'] G:=by cases rv with | cons a b=>exact⟨_,_,rfl,a,b⟩
 obtain⟨u2,rfl,r2⟩:=rr.one;obtain⟨z,hd,vs,j,dd⟩:=MC I.hok e;have hz:vs.length<=sizeLine:=by rw [<-j.length];exact z
 refine call_meetsIn F.slot_dict_setdefault dd.mapOf.typeIs F.entry_dict_setdefault (F.args_dict_setdefault_3 _ _ _) (Nl (Xn r1) hd u2 vs hz) ⟨dd,λw' hw=>?_,λhn h' L hs=>?_⟩
 .have J:=j.val k;rw [hw]at J;cases Y:YD kvs k with
  | none=>rw [Y]at J;exact J.elim
  | some u=>rw [Y]at J;exact⟨u,H,I.tok _,J,h1 u Y⟩
 .have M:k∉kvs.map (·.1):=by rw [KV.keys j];exact hn
  have he:∃q,h'.get? d=some q:=let⟨q,_,_,hq,_⟩:=L;⟨q,hq⟩
  exact⟨v',_,Sn I (by rw [e];exact dQ) hs he (Rj (by rw [aI];exact hl) hd (by have hp:=KV.put j k r2;unfold A7 stored at hp;rw [aF (by rw [gY];rintro⟨a,ha,e⟩;exact M (aP.mpr ⟨a,ha,b_ e⟩)),aF (by rw [gY];rintro⟨a,ha,e⟩;exact hn (aP.mpr ⟨a,ha,b_ e⟩))]at hp;exact hp) L),r2,h2 M⟩
end L2
namespace K12
open PySem L2 K3 TM K9
def Yd(K:Fg):Sp:=λvs H Q _=>∃(w:Addr)(kind:Str)(ks:List KdT),vs=[.ref w,.str kind]/\WoodAt K H w ks/\WoodOk ks/\∀(lr:Addr)(H':Hp),Same H H'->RowsL K H' lr (Qr ks kind)->Q (.ref lr) H'
def Vs(K:Fg):Sp:=λvs H Q _=>∃(w:Addr)(kind name:Str)(ks:List KdT),vs=[.ref w,.str kind,.str name]/\WoodAt K H w ks/\WoodOk ks/\∀(v:V)(H':Hp),Same H H'->DE K H' v (Xq ks kind name)->Q v H'
def PQ(K:Fg):Sp:=λvs H Q _=>∃(l:Addr)(ns:List Str),vs=[.ref l]/\SqL K H l (ns.map V.str)/\ns.length<=30/\∀H',Same H H'->Q (.bl (!decide ns.Nodup)) H'
mutual
noncomputable def vN:TN->TV
 | .node (.call m b) _ _=>.node (.call (.str (S m)) b) 0 []
 | .node (.put n k a) _ bs=>.node (.put (S n) k a) 0 (vNs bs)
noncomputable def vNs:List TN->List TV
 | []=>[]
 | t::r=>vN t::vNs r
end
mutual
theorem TnV.tv{K:Fg}{H:Hp}:∀{v:V}{t:TN},TnV K H v t->TvV K H v (vN t)
 | _,_,.call h=>by rw [vN];exact .call h
 | _,_,.put h1 h2 j F=>by rw [vN];exact .put h1 h2 (TnAll.tv j) F
theorem TnAll.tv{K:Fg}{H:Hp}:∀{vs:List V}{ts:List TN},TnAll K H vs ts->TvAll K H vs (vNs ts)
 | _,_,.nil=>by rw [vNs];exact .nil
 | _,_,.cons h t=>by rw [vNs];exact .cons (TnV.tv h) (TnAll.tv t)
end
theorem RuV.mono{K:Fg}{x:RuN}(k:∀a xs,SqT K H a xs->SqT K H' a xs)(h:RuV K H v x):RuV K H' v x:=by
 obtain⟨a,tv,e,h1,h2⟩:=h.ex;exact⟨a,tv,e,k _ _ h1,TnV.mono k h2⟩
structure RuL(K:Fg)(H:Hp)(us:List V)(rs:List RuN):Prop where
 len:us.length=rs.length
 at_:∀(i:Nat)(v:V)(x:RuN),us[i]?=some v->rs[i]?=some x->RuV K H v x
theorem RuL.get{K:Fg}{us:List V}(h:RuL K H us rs)(e:us[i]?=some v):∃x,rs[i]?=some x/\RuV K H v x:=by
 have hi:i<us.length:=(bT.mp e).1;have j:i<rs.length:=by rw [<-h.len];exact hi
 exact⟨rs[i],aE j,h.at_ i v _ e (aE j)⟩
def InN(kvs:List (Key×V))(g:V->V)(t:TV):Prop:=∀m b,(m,b)∈clV t->∃k:Key,m=kV k/\YD kvs k=some (g m)
def Vj(K:Fg):Sp:=λvs H Q _=>∃(v:V)(d:Addr)(kvs:List (Key×V))(t:TV)(g:V->V),vs=[v,.ref d]/\TvV K H v t/\lv t<=9/\sz t<=1000/\H d=some (.dK kvs)/\InN kvs g t/\∀(v':V)(H':Hp),Same H H'->TvV K H' v' (mpV g t)->Q v' H'
def szR(rs:List RuN):Nat:=(rs.map λr=>sz (vN r.t)).sum
def WK(K:Fg):Sp:=λvs H Q _=>∃(v:V)(t:TV)(l:Addr)(us:List V)(rs:List RuN),vs=[v,.ref l]/\TvV K H v t/\lv t<=9/\SqL K H l us/\RuL K H us rs/\(∀r∈rs,lv (vN r.t)<=9)/\rs.length<=40/\sz t+szR rs<=120/\∀H',Same H H'->Q .non H'
section
variable{K:Fg}{fd:FuncData}
theorem Rz:FnScope ["wood","kind"] ["wood","kind"] (defScope VB):=(0:)
theorem N7(F:Fun K "rows_of" "rows_of" VB f fd)(GA:GmA mg):FnOk P w K mg base CX0 1 f fd ["wood","kind"] (Yd K):=by
 refine F.ok Rz (λU H Q E h=>?_) (λab A M s H U Q E Y h=>?_)
 .obtain⟨w,j,ks,rfl,_⟩:=h
  rfl
 obtain⟨wd,j,ks,rfl,J,hO,q⟩:=h;refine⟨_,(Qh (Qn (Rs (ZD Y) (QE (ZB rfl) rfl GA.dict eY (Qa (pv 0) Qc)) (pv 1) (Q0 Qc) ⟨rfl,rfl,rfl,rfl⟩))),?_⟩
 try dsimp only [QW,Cx.nox]
 have aa:=hO.len;refine⟨_,rfl,wd,ks.map (λk=>(k.1,k.2.1,V.ref k.2.2.1)),rfl,(by rw [aZ];exact J.1),λt L=>?_,(by rw [aZ];exact hO.nd),(by rw [aA];lia),λd hd=>⟨d,rfl,.inl ⟨_,.inl Qb⟩,_,rfl,(20:),λp hp=>⟨_,DGet.k (k:=Sum.inr j) ((Qe hp _) _ _ Qb),?_⟩⟩⟩
 .obtain⟨k,hk,rfl⟩:=aP.mp L;exact(J.2 k hk).1
 .have g1:=Qe hd (.dK ((ks.map (λk=>(k.1,k.2.1,V.ref k.2.2.1))).map λt=>((Sum.inr t.2.1:Key),t.2.2)));have g2:=Qe hp (.lst []);have G:=g1.trans g2;have ev:YD ((ks.map (λk=>(k.1,k.2.1,V.ref k.2.2.1))).map λt=>((Sum.inr t.2.1:Key),t.2.2)) (Sum.inr j)=(ks.find? λk=>decide (k.2.1=j)).map λk=>V.ref k.2.2.1:=by
   rw [aZ];exact YA (λk:KdT=>k.2.1) (λk=>V.ref k.2.2.1) j ks
  rw [ev];unfold Qr at q;cases e:ks.find? λk=>decide (k.2.1=j)with
  | none=>
   rw [e]at q;exact q p _ G ⟨SqL.of Qb,λt L=>(nomatch L)⟩
  | some k=>
   rw [e]at q;exact q k.2.2.1 _ G ((J.2 k (eJ e)).2.same G)
theorem SS:FnScope ["wood","kind","name"] ["wood","kind","name"] (defScope LC):=(0:)
theorem Ob(F:Fun K "row_of" "row_of" LC f fd)(GA:GmA mg)(RO:Fn P w K mg base 1 "rows_of" ["wood","kind"] (Yd K)):FnOk P w K mg base CX0 2 f fd ["wood","kind","name"] (Vs K):=by
 refine F.ok SS (14:) (λab A Y s H vs Q E M h=>?_)
 .obtain⟨w,j,name,ks,rfl,_⟩:=h
  rfl
 obtain⟨wd,j,name,ks,rfl,hW,hO,q⟩:=h;refine⟨_,(Qh (Qn (Ol (ZD M) (QE (ZB rfl) rfl GA.dict eY (Qa (Qs RO M (Qa (pv 0) (Qa (pv 1) Qc))) Qc)) (pv 2) ⟨rfl,rfl,rfl,rfl⟩))),?_⟩
 try dsimp only [QW,Cx.nox]
 refine⟨_,rfl,_,rfl,wd,j,ks,rfl,hW,hO,λlr H1 U J=>?_⟩;have G:=Zm hO j;have aa:=G.len;refine⟨lr,(Qr ks j).map (λr=>(r.1,r.2.1,V.ref r.2.2.1)),rfl,(by rw [aZ];exact J.1),λt ht=>?_,(by rw [aZ];exact G.nd),(by rw [aA];lia),λd hd=>⟨d,rfl,.inl ⟨_,.inl Qb⟩,_,rfl,_,DGet.k (k:=Sum.inr name) Qb,?_⟩⟩
 .obtain⟨k,hk,rfl⟩:=aP.mp ht;exact(J.2 k hk).1
 .have L:=Qe hd (.dK (((Qr ks j).map (λr=>(r.1,r.2.1,V.ref r.2.2.1))).map λt=>((Sum.inr t.2.1:Key),t.2.2)));have ev:YD (((Qr ks j).map (λr=>(r.1,r.2.1,V.ref r.2.2.1))).map λt=>((Sum.inr t.2.1:Key),t.2.2)) (Sum.inr name)=((Qr ks j).find? λr=>decide (r.2.1=name)).map λr=>V.ref r.2.2.1:=by
   rw [aZ];exact YA (λr:PNx=>r.2.1) (λr=>V.ref r.2.2.1) name (Qr ks j)
  rw [ev];unfold Xq at q;cases e:(Qr ks j).find? λr=>decide (r.2.1=name)with
  | none=>
   rw [e]at q;exact q .non _ (U.trans L) rfl
  | some r=>
   rw [e]at q;exact q (.ref r.2.2.1) _ (U.trans L) ⟨_,rfl,L.seqT (J.2 r (eJ e)).2⟩
theorem C8:FnScope ["names"] ["names"] (defScope LI):=(0:)
theorem Cz(F:Fun K "has_one_twice" "has_one_twice" LI f fd)(G:Gm mg)(GA:GmA mg):FnOk P w K mg base CX0 1 f fd ["names"] (PQ K):=by
 refine F.ok C8 (λU H Q E h=>?_) (λaa A M s H U Q E hr h=>?_)
 .obtain⟨l,j,rfl,_⟩:=h
  rfl
 obtain⟨l,j,rfl,hl,ab,q⟩:=h;refine⟨_,(Qh (Qn (Z0 Jk (Qv Lg rfl G.len bJ (Qa (QE (Lk rfl) rfl GA.set PyProof.Rows.boot_set (Qa (pv 0) Qc)) Qc)) (Qv Qy rfl G.len bJ (Qa (pv 0) Qc)) (QB _)))),?_⟩
 try dsimp only [QW,Cx.nox]
 refine⟨_,rfl,l,j,rfl,hl,by lia,λS Y=>?_⟩;have L:=Qe Y (TxO P w S (λx=>decide (x∈j)) (ZM j j.length));refine⟨S,_,_,rfl,Qb,(by have:=JL j j.length;lia),_,rfl,l,_,rfl,.inl (L.seq hl),_,_,rfl,rfl,?_⟩;have e:decide (((ZM j j.length:Nat):Int)<((j.map V.str).length:Nat))=!decide j.Nodup:=by
  rw [aA]
  by_cases J:j.Nodup
  .rw [aV J,bM (by rw [GD J _ (8:)];lia)];rfl
  .rw [bM J,aV (by have:=OB J;lia)];rfl
 show Q (.bl (decide (((ZM j j.length:Nat):Int)<((j.map V.str).length:Nat)))) _;rw [e];exact q _ L
theorem GX:FnScope ["term","numbers","mode","branch"] ["term","numbers"] (defScope Pp):=(0:)
theorem TQ(F:Fun K "numbered" "numbered" Pp f fd)(RCO:Fn P w K mg base 10 "calls_of" ["term"] (Jg K 9))(RWM:Fn P w K mg base 10 "with_modes" ["term","numbers"] (Gd K 9)):FnOk P w K mg base CX0 11 f fd ["term","numbers"] (Vj K):=by
 refine F.ok GX (14:) (λae A ad s H vs Q E M h=>?_)
 .obtain⟨v,d,kvs,t,g,rfl,_⟩:=h
  rfl
 obtain⟨v,d,kvs,t,g,rfl,ht,J,aa,hd,L,q⟩:=h;refine⟨_,(Qd (Ze bS rfl (QZ (Qs RCO M (Qa (pv 0) Qc))) (Yc rfl (QG (Qz (i:=2) GX.nd rfl (7:)) (QG (Qz (i:=3) GX.nd rfl (7:)) ZJ)))
  (Qh (QC (Bx (Nd (ZD M) (pv 2) (pv 1))) QJ Qt)))
  (Qh (Qn (Qs RWM M (Qa (pv 0) (Qa (pv 1) Qc)))))),?_⟩
 try dsimp only [QW,Cx.nox]
 refine L2.let1 ?_
 intros
 refine⟨_,rfl,v,t,rfl,ht,J,aa,λl H1 j G af hl ab ac=>?_⟩;refine⟨l,rfl,⟨_,SqL.of hl⟩,?_⟩;refine Zn (K:=K) (xs:=RfV j) (λi σ H'=>∃U Y:Option V,σ=[some v,some (.ref d),U,Y]/\H1=H') ⟨none,none,rfl,rfl⟩ ?_ ?_ ?_
 .rintro i σ H' _ ⟨_,_,_,rfl⟩;exact SqL.of hl
 .rintro i x σ H' hx ⟨U,Y,rfl,rfl⟩;have hi:i<j.length:=by have:=(bT.mp hx).1;rw [aA]at this;exact this
  obtain rfl:x=.ref j[i].1:=by
   rw [aM,aE hi]at hx;exact(aK hx).symm
  have hm:j[i].2∈clV t:=by rw [<-ac];exact cJ (aO hi)
  obtain⟨k,e1,e2⟩:=L j[i].2.1 j[i].2.2 hm;refine⟨_,_,rfl,ab _ (aO hi),rfl,_,_,rfl,_,_,rfl,rfl,?_⟩;refine⟨_,rfl,_,rfl,d,_,rfl,(by rw [e1];exact DGet.k (k:=k) (G _ _ hd)),_,rfl,?_⟩;rw [e2];exact Q7 ⟨_,_,rfl,rfl⟩
 .rintro σ H' ⟨U,Y,rfl,rfl⟩;exact⟨_,rfl,_,rfl,v,d,kvs,t,g,rfl,ht.mono λ_ _=>G.seqT,J,G _ _ hd,L,λv' H2 g2 h2=>q v' H2 (G.trans g2) h2⟩
theorem Sx:FnScope ["start","rules"] ["start","rules"] (defScope RZ):=(0:)
theorem O0(F:Fun K "check_numbers" "check_numbers" RZ f fd)(G:Gm mg)(hmr:∃t,mg "MOST_RULES"=some (.int 40 t))(hmp:∃t,mg "MOST_PUTS_AND_CALLS"=some (.int 120 t))(RTS:Fn P w K mg base 10 "term_size" ["term"] (Jo K 9)):FnOk P w K mg base CX0 11 f fd ["start","rules"] (WK K):=by
 refine F.ok Sx (14:) (λak A aj s H vs Q E hr h=>?_)
 .obtain⟨v,t,l,us,J,rfl,_⟩:=h
  rfl
 obtain⟨v,t,l,us,J,rfl,ht,ad,hl,Y,aa,ae,ac,q⟩:=h;obtain⟨t1,af⟩:=hmr;obtain⟨t2,ag⟩:=hmp;refine⟨_,(Qd (QC (Qu XE (Qv Qy rfl G.len bJ (Qa (pv 1) Qc)) (Zf (v:=.int 40) rfl af ⟨_,rfl⟩) (QB _)) QJ Qt)
  (Qh (QC (Qu XE (Ql Zx (Qs RTS hr (Qa (pv 0) Qc)) (Qv (GJ rfl) rfl G.sum PyProof.Rows.boot_sum (Qa (QY (CompG.many (xs:=["rule"]) (caps:=[]) (cap:=[]) (cs:=[]) rfl rfl (1:) (1:) (1:) (1:) (1:) (1:) rfl rfl rfl) rfl (QZ (pv 1)) (UU (CompG.many (xs:=["rule"]) (caps:=[]) (cap:=[]) (cs:=[]) rfl rfl (1:) (1:) (1:) (1:) (1:) (1:) rfl rfl rfl)) (λ_ _ _ _=>Zg) (λ_ _ _ _=>Qs RTS hr (Qa (Qk (r:=LK K) Qp (pv 0) Qf (λ_ _=>rfl)) Qc))) Qc))) (Zf (v:=.int 120) rfl ag ⟨_,rfl⟩) (QB _)) QJ Qt))),?_⟩
 try dsimp only [QW,Cx.nox]
 refine L2.let1 ?_
 intros
 refine⟨_,rfl,l,us,rfl,.inl hl,_,_,rfl,rfl,_,rfl,Z9 (by have:=Y.len;lia) ?_⟩;refine⟨_,rfl,v,t,rfl,ht,ad,by lia,λH1 g1=>?_⟩;refine⟨_,rfl,l,rfl,⟨_,g1.seq hl⟩,λacc L=>?_⟩;refine Vr (K:=K) (xs:=us) (cs:=[]) (tt:=λ_ H Q=>Q true H) (λj ys H'=>ys=((J.take j).map λr=>(sz (vN r.t):Int)).map V.int/\H' acc=some (.lst ys)/\Same H1 H')
  ⟨rfl,Qb,Qe L _⟩ ?_ ?_ ?_
 .rintro j ys H' _ ⟨_,_,g⟩;exact(g1.trans g).seq hl
 .rintro j x ys H' hj hx ⟨rfl,M,g⟩;obtain⟨r,ab,ai⟩:=Y.get hx;obtain⟨a,tv,rfl,h1,h2⟩:=ai.ex;have hm:=bC ab;have al:sz (vN r.t)<=szR J:=by
   unfold szR;have:∀(l:List Nat)(a:Nat),a∈l->a<=l.sum:=λl a h=>by
    induction l with
    | nil=>cases h
    | cons b r ih=>
     rw [cY];rcases aQ.mp h with rfl | h
     .lia
     .have:=ih h;lia
   exact this _ _ (cJ hm)
  have gg:=g1.trans g;refine Q2 ⟨_,rfl,a,_,3,_,rfl,rfl,gg.seqT h1,rfl,tv,vN r.t,rfl,h2.tv.mono λ_ _=>gg.seqT,aa r hm,by lia,λH4 g4=>?_⟩;refine QI hj (g4 _ _ M) (by rw [aA,aA,bH];lia) ⟨?_,Qb,λb u e=>?_⟩
  .rw [bE,ab];simp
  .rw [Qi (Qg e L)];exact g4 _ _ (g _ _ e)
 rintro ys H2 ⟨rfl,M,g2⟩;rw [Y.len,bP]at M;have U:(J.map λr=>(sz (vN r.t):Int)).sum=(szR J:Int):=by
  unfold szR;clear Y aa ae ac M q
  induction J with
  | nil=>rfl
  | cons r l ih=>rw [aR,cY,ih,aR,cY];lia
 refine⟨acc,_,rfl,SqL.of M,⟨λm hm=>?_,?_⟩,?_⟩
 .obtain⟨r,_,rfl⟩:=aP.mp hm;lia
 .rw [U];lia
 .rw [U];exact⟨_,_,rfl,rfl,_,_,rfl,rfl,_,rfl,Z9 (10:) (q H2 (g1.trans g2))⟩
end
def dW(ks:List KdT):List (Str×List PNx):=ks.map λk=>(k.2.1,k.2.2.2)
theorem W4(kind:Str):∀ks:List KdT,Qr ks kind=(((dW ks).find? λk=>decide (k.1=kind)).map λk=>k.2).getD []
 | []=>rfl
 | k::r=>by
  have j:=W4 kind r;unfold Qr at j ⊢;unfold dW at j ⊢;rw [aR,cI,cI]
  by_cases e:k.2.1=kind
  .rw [aV e];rfl
  .rw [bM e];exact j
theorem Zz(h:dW ks'=dW ks)(kind:Str):Qr ks' kind=Qr ks kind:=by rw [W4,W4,h]
theorem Tc(h:dW ks'=dW ks)(kind name:Str):Xq ks' kind name=Xq ks kind name:=by unfold Xq;rw [Zz h]
theorem WoodOk.dW(h:dW ks'=dW ks)(o:WoodOk ks):WoodOk ks':=by
 have h1:(ks'.map λk=>k.2.1)=ks.map λk=>k.2.1:=by
  have:=congrArg (List.map Prod.fst) h;unfold K12.dW at this;rw [aZ,aZ]at this;exact this
 refine⟨by rw [h1];exact o.nd,?_,λk G=>?_⟩
 .have:=congrArg List.length h1;rw [aA,aA]at this;rw [this];exact o.len
 .have j:(k.2.1,k.2.2.2)∈K12.dW ks':=cJ G;rw [h]at j;obtain⟨k0,F,e⟩:=aP.mp j;injection e with e1 e2;rw [<-e2];exact o.rows k0 F
structure NewWd(K:Fg)(H H':Hp)(lw:Addr)(ks:List KdT):Prop where
 n0:H lw=none
 at0:H' lw=some (.lst (ks.map λk=>V.ref k.1))
 kd:∀k∈ks,SqT K H' k.1 [.str k.2.1,.ref k.2.2.1]/\H' k.2.2.1=some (.lst (k.2.2.2.map λt=>V.ref t.1))/\H k.2.2.1=none/\∀t∈k.2.2.2,RowAt K H' t
theorem NewWd.wood{K:Fg}(h:NewWd K H H' lw ks):WoodAt K H' lw ks:=⟨SqL.of h.at0,λk j=>⟨(h.kd k j).1,SqL.of (h.kd k j).2.1,(h.kd k j).2.2.2⟩⟩
abbrev Mc(K:Fg):List V->Hp->VK->Prop:=λxs H Q=>∃p ys,xs=[.ref p]/\(SqL K H p ys\/SqT K H p ys)/\∀l,H l=none->Q (.ref l) (upd H l (.lst ys))
def Ld(K:Fg):Sp:=λvs H Q _=>∃(w:Addr)(ks:List KdT),vs=[.ref w]/\WoodAt K H w ks/\ks.length<=100/\∀(lw:Addr)(H':Hp)(ks':List KdT),Same H H'->NewWd K H H' lw ks'->dW ks'=dW ks->Q (.ref lw) H'
structure MoOk(ks:List KdT)(rs:List RuN)(kd:List Nat):Prop where
 kind:∀r∈rs,r.k=kd
 row:∀r∈rs,Xq ks (S kd) (S r.n)≠none
 nd:(rs.map λr=>S r.n).Nodup
 all:(Qr ks (S kd)).length<=rs.length
 few:rs.length<=30
def LO(K:Fg):Sp:=λvs H Q _=>∃(w l:Addr)(mo kd:List Nat)(ks:List KdT)(us:List V)(rs:List RuN),vs=[.ref w,.str (S mo),.str (S kd),.ref l]/\WoodAt K H w ks/\WoodOk ks/\SqL K H l us/\RuL K H us rs/\MoOk ks rs kd/\∀H',Same H H'->Q .non H'
def RuN.ok(kvs:List (Key×V))(g:V->V)(r:RuN):Prop:=lv (vN r.t)<=9/\sz (vN r.t)<=1000/\InN kvs g (vN r.t)
def ruT(rs:List RuN)(name:Str):TV:=((rs.find? λr=>decide (S r.n=name)).map λr=>vN r.t).getD (.node (.put (S []) false 0) 0 [])
def WO(K:Fg):Sp:=λvs H Q _=>∃(w d l:Addr)(kd:List Nat)(kvs:List (Key×V))(g:V->V)(ks:List KdT)(us:List V)(rs:List RuN),vs=[.ref w,.ref d,.ref l]/\WoodAt K H w ks/\WoodOk ks/\H d=some (.dK kvs)/\SqL K H l us/\RuL K H us rs/\rs≠[]/\MoOk ks rs kd/\(∀r∈rs,r.ok kvs g)/\
 ∀(p lt:Addr)(H':Hp)(vs:List V),Same H H'->SqT K H' p [.str (S kd),.ref lt]->H lt=none->H' lt=some (.lst vs)->TvAll K H' vs ((Qr ks (S kd)).map λt=>mpV g (ruT rs t.2.1))->Q (.ref p) H'
section
variable{K:Fg}{fd:FuncData}
theorem AO:FnScope ["wood"] ["wood"] (defScope Pa):=(0:)
theorem SE(F:Fun K "own_wood" "own_wood" Pa f fd)(G:Gm mg):FnOk P w K mg base CX0 1 f fd ["wood"] (Ld K):=by
 refine F.ok AO (14:) (λae A ab s H vs Q E hr h=>?_)
 .obtain⟨wd,ks,rfl,_⟩:=h
  rfl
 obtain⟨wd,ks,rfl,hW,ac,q⟩:=h;refine⟨_,(Qh (Qn (QY (CompG.many (xs:=["kind","rows"]) (caps:=[]) (cap:=[]) (cs:=[]) rfl rfl (1:) (1:) (1:) (1:) (1:) (1:) rfl rfl rfl) rfl (QZ (pv 0)) (Ji (CompG.many (xs:=["kind","rows"]) (caps:=[]) (cap:=[]) (cs:=[]) rfl rfl (1:) (1:) (1:) (1:) (1:) (1:) rfl rfl rfl) rfl) (λ_ _ _ _=>Zg) (λ_ _ _ _=>(QF (Qa (pv 0) (Qa (QE (r:=Mc K) UE rfl G.lst PyProof.Rows.boot_list (Qa (pv 1) Qc)) Qc))))))),?_⟩
 try dsimp only [QW,Cx.nox]
 refine⟨_,rfl,wd,rfl,⟨_,hW.1⟩,λacc aa=>?_⟩;refine UQ (K:=K) (xs:=ks.map λt=>V.ref t.1) (cs:=[]) (tt:=λ_ H Q=>Q true H) (λj ys H'=>∃J:List KdT,ys=J.map (λk=>V.ref k.1)/\dW J=dW (ks.take j)/\H' acc=some (.lst ys)/\Same H H'/\∀k∈J,SqT K H' k.1 [.str k.2.1,.ref k.2.2.1]/\H' k.2.2.1=some (.lst (k.2.2.2.map λt=>V.ref t.1))/\H k.2.2.1=none/\k.2.2.1≠acc/\∀t∈k.2.2.2,RowAt K H' t)
  ⟨[],rfl,rfl,Qb,Qe aa _,λk hk=>(nomatch hk)⟩ ?_ ?_ ?_
 .rintro j ys H' _ ⟨_,_,_,_,g,_⟩;exact g.seq hW.1
 .rintro j x ys H' hj hx ⟨J,rfl,hd,hy,g,hA⟩;rw [aA]at hj;obtain rfl:x=.ref ks[j].1:=by
   rw [aM,aE hj]at hx;exact(aK hx).symm
  obtain⟨k1,k2⟩:=hW.2 ks[j] (aO hj);refine⟨_,_,_,rfl,g.seqT k1,Q2 ⟨_,rfl,_,rfl,ks[j].2.2.1,_,rfl,.inl (g.seq k2.1),λM Y=>⟨(18:),λp hp=>?_⟩⟩⟩;have s1:=Qe Y (.lst (ks[j].2.2.2.map λt=>V.ref t.1));have b1:upd H' M (.lst (ks[j].2.2.2.map λt=>V.ref t.1)) M=some (.lst (ks[j].2.2.2.map λt=>V.ref t.1)):=Qb;generalize upd H' M (.lst (ks[j].2.2.2.map λt=>V.ref t.1))=X1 at s1 b1 hp ⊢;have s2:=Qe hp (.tup [.str ks[j].2.1,.ref M]);have b2:upd X1 p (.tup [.str ks[j].2.1,.ref M]) p=some (.tup [.str ks[j].2.1,.ref M]):=Qb;generalize upd X1 p (.tup [.str ks[j].2.1,.ref M])=X2 at s2 b2 ⊢;have L:=s1.trans s2;have ad:J.length=j:=by
   have:=congrArg List.length hd;unfold dW at this;rw [aA,aA,bH]at this;lia
  have nl:M≠acc:=λz=>by rw [z,hy]at Y;cases Y
  have nH:H M=none:=by
   cases e:H M with
   | none=>rfl
   | some u=>rw [g _ _ e]at Y;cases Y
  have U:=L _ _ hy;rw [aA];refine QI hj U (by rw [aA];lia) ⟨J++[(p,ks[j].2.1,M,ks[j].2.2.2)],by simp,?_,Qb,λb u e=>?_,λk hk=>?_⟩
  .unfold dW at hd ⊢;rw [aS,hd,bE,aE hj,cV,aS];rfl
  .rw [Qi (Qg e aa)];exact L _ _ (g _ _ e)
  .rcases aW.mp hk with hk | hk
   .obtain⟨a1,a2,a3,a4,a5⟩:=hA k hk;exact⟨(L.seqT a1).put U,by rw [Qi a4];exact L _ _ a2,a3,a4,λt ht=>⟨(L.seqT (a5 t ht).1).put U,(L.seqT (a5 t ht).2).put U⟩⟩
   .obtain rfl:=bD.mp hk;exact⟨(SqT.of b2).put U,by rw [Qi nl];exact s2 _ _ b1,nH,nl,λt ht=>⟨((g.trans L).seqT (k2.2 t ht).1).put U,((g.trans L).seqT (k2.2 t ht).2).put U⟩⟩
 .rintro ys H' ⟨J,rfl,hd,hy,g,hA⟩;rw [aA,bP]at hd;exact q acc H' J g ⟨aa,hy,λk hk=>⟨(hA k hk).1,(hA k hk).2.1,(hA k hk).2.2.1,(hA k hk).2.2.2.2⟩⟩ hd
theorem WV:FnScope ["wood","mode","kind","rules","rule","names","name"] ["wood","mode","kind","rules"] (defScope Oi):=(0:)
theorem SW(F:Fun K "check_mode" "check_mode" Oi f fd)(G:Gm mg)(RR:Fn P w K mg base 2 "row_of" ["wood","kind","name"] (Vs K))(RT:Fn P w K mg base 1 "has_one_twice" ["names"] (PQ K))(RO:Fn P w K mg base 1 "rows_of" ["wood","kind"] (Yd K)):FnOk P w K mg base CX0 3 f fd ["wood","mode","kind","rules"] (LO K):=by
 refine F.ok WV (14:) (λaf A ae s H vs Q E hr h=>?_)
 .obtain⟨wd,l,mo,L,ks,us,J,rfl,_⟩:=h
  rfl
 obtain⟨wd,l,mo,L,ks,us,J,rfl,hW,hO,hl,hR,hM,q⟩:=h;refine⟨_,(Qd (Ze bS rfl (QZ (pv 3)) (Qz (i:=4) WV.nd rfl (7:)) (Qh (QC (Qu Jq (Qk Qp (pv 4) Qf (λ_ _=>rfl)) (pv 2) (QB _)) QJ Qt)))
  (Qd (WY (i:=5) (CompG.many (xs:=["rule"]) (caps:=[]) (cap:=[]) (cs:=[]) rfl rfl (1:) (1:) (1:) (1:) (1:) (1:) rfl rfl rfl) rfl (QZ (pv 3)) (UU (CompG.many (xs:=["rule"]) (caps:=[]) (cap:=[]) (cs:=[]) rfl rfl (1:) (1:) (1:) (1:) (1:) (1:) rfl rfl rfl)) (λ_ _ _ _=>Zg) (λ_ _ _ _=>Qk (r:=LK K) Qp (pv 0) Qf (λ_ _=>rfl)) WV.nd rfl rfl)
  (Qd (Ze bS rfl (QZ (pv 5)) (Qz (i:=6) WV.nd rfl (7:)) (Qh (QC (Qu AM (Qs RR hr (Qa (pv 0) (Qa (pv 2) (Qa (pv 6) Qc)))) A8 (QB _)) QJ Qt)))
  (Qd (QC (Q8 (Qs RT hr (Qa (pv 5) Qc))) QJ Qt)
  (Qh (QC (Qu Jk (Qv Qy rfl G.len bJ (Qa (pv 5) Qc)) (Qv Qy rfl G.len bJ (Qa (Qs RO hr (Qa (pv 0) (Qa (pv 2) Qc))) Qc)) (QB _)) QJ Qt)))))),?_⟩
 try dsimp only [QW,Cx.nox]
 refine L2.let4 ?_
 intros
 refine⟨_,rfl,l,rfl,⟨_,hl⟩,?_⟩;refine Zn (K:=K) (xs:=us) (λi σ H'=>∃M:Option V,σ=[some (.ref wd),some (.str (S mo)),some (.str (S L)),some (.ref l),M,none,none]/\H=H') ⟨none,rfl,rfl⟩ ?_ ?_ ?_
 .rintro i σ H' _ ⟨_,_,rfl⟩;exact hl
 .rintro i x σ H' U ⟨M,rfl,rfl⟩;obtain⟨r,aa,ab⟩:=hR.get U;obtain⟨a,tv,rfl,h1,h2⟩:=ab.ex;have hk:=hM.kind r (bC aa);rw [hk]at h1;refine⟨_,rfl,a,_,1,_,rfl,rfl,h1,rfl,_,rfl,rfl,_,rfl,?_⟩;show if _=true then _ else _;rw [aV (show V.str (S L)=V.str (S L)from rfl)];exact Q7 ⟨_,rfl,rfl⟩
 rintro σ H' ⟨M,rfl,rfl⟩;refine⟨_,rfl,l,rfl,⟨_,hl⟩,λacc ac=>?_⟩;refine Vr (K:=K) (xs:=us) (cs:=[]) (tt:=λ_ H Q=>Q true H) (λj ys H'=>ys=((J.take j).map λr=>S r.n).map V.str/\H' acc=some (.lst ys)/\Same H H')
  ⟨rfl,Qb,Qe ac _⟩ ?_ ?_ ?_
 .rintro j ys H' _ ⟨_,_,g⟩;exact g.seq hl
 .rintro j x ys H' hj U ⟨rfl,hy,g⟩;obtain⟨r,aa,ab⟩:=hR.get U;obtain⟨a,tv,rfl,h1,h2⟩:=ab.ex;have:=hR.len;have:=hM.few;refine Q2 ⟨_,rfl,a,_,2,_,rfl,rfl,g.seqT h1,rfl,?_⟩;refine QI hj hy (by rw [aA,aA,bH];lia) ⟨?_,Qb,λb u e=>?_⟩
  .rw [bE,aa];simp
  .rw [Qi (Qg e ac)];exact g _ _ e
 rintro ys H1 ⟨rfl,hy,g1⟩;rw [hR.len,bP]at hy;have Y:SqL K H1 acc ((J.map λr=>S r.n).map V.str):=SqL.of hy;refine⟨_,rfl,acc,rfl,⟨_,Y⟩,?_⟩;refine Zn (K:=K) (xs:=(J.map λr=>S r.n).map V.str) (λi σ H'=>∃M c6:Option V,σ=[some (.ref wd),some (.str (S mo)),some (.str (S L)),some (.ref l),M,some (.ref acc),c6]/\Same H1 H') ⟨M,none,rfl,λ_ _ e=>e⟩ ?_ ?_ ?_
 .rintro i σ H' _ ⟨_,_,_,g⟩;exact g.seq Y
 .rintro i x σ H' U ⟨M,c6,rfl,g⟩;have hi:i<J.length:=by have:=(bT.mp U).1;rw [aA,aA]at this;exact this
  obtain rfl:x=.str (S J[i].n):=by
   rw [aM,aM,aE hi]at U;exact(aK U).symm
  have ad:=hM.row J[i] (aO hi);refine⟨_,rfl,_,rfl,_,rfl,wd,S L,S J[i].n,ks,rfl,(hW.same g1).same g,hO,λv H2 g2 hv=>?_⟩;cases e:Xq ks (S L) (S J[i].n)with
  | none=>exact absurd e ad
  | some ss=>
   rw [e]at hv;obtain⟨b,rfl,_⟩:=hv;exact⟨rfl,_,rfl,Z9 (λz=>by cases z) ⟨_,_,rfl,g.trans g2⟩⟩
 rintro σ H2 ⟨M,c6,rfl,g2⟩;refine⟨_,rfl,acc,_,rfl,g2.seq Y,(by rw [aA];exact hM.few),λH3 g3=>?_⟩;rw [aV hM.nd];refine⟨_,rfl,Q7 ?_⟩;refine⟨_,rfl,acc,_,rfl,.inl (g3.seq (g2.seq Y)),_,rfl,_,rfl,wd,S L,ks,rfl,((hW.same g1).same g2).same g3,hO,λlr H4 g4 hL=>?_⟩;refine⟨lr,_,rfl,.inl hL.1,_,_,rfl,rfl,_,rfl,Z9 ?_ (q H4 (g1.trans (g2.trans (g3.trans g4))))⟩;have:=hM.all;rw [aA,aA,aA];lia
end
theorem pig{α:Type} [DecidableEq α]:∀(l1 l2:List α),l1.Nodup->(∀x∈l1,x∈l2)->l2.length<=l1.length->∀x∈l2,x∈l1
 | [],l2,_,_,hl,x,j=>by
  have:l2=[]:=fX.mp (by simpa using hl);rw [this]at j;cases j
 | a::l1,l2,hn,hs,hl,x,j=>by
  obtain⟨h1,h2⟩:=dZ.mp hn;have G:=hs a aL
  by_cases e:x=a
  .rw [e];exact aL
  .refine aU _ (pig l1 (l2.erase a) h2 (λy F=>?_) ?_ x ((List.mem_erase_of_ne e).mpr j))
   .exact(List.mem_erase_of_ne (λz:y=a=>h1 (by rw [<-z];exact F))).mpr (hs y (aU _ F))
   .rw [List.length_erase_of_mem G];simp at hl;lia
theorem UK{α:Type}(f:α->Str):∀(xs:List α),(xs.map f).Nodup->∀(i:Nat)(h:i<xs.length),xs.find? (λx=>decide (f x=f xs[i]))=some xs[i]
 | x::r,hn,0,_=>by rw [cI];simp
 | x::r,hn,i+1,h=>by
  rw [aR]at hn;obtain⟨h1,h2⟩:=dZ.mp hn;have hi:i<r.length:=by simpa using h
  have F:=UK f r h2 i hi;have j:¬f x=f r[i]:=λz=>h1 (by rw [z];exact cJ (aO hi));rw [List.getElem_cons_succ,cI,bM j];exact F
theorem MoOk.has(h:MoOk ks rs kd){t:PNx}(ht:t∈Qr ks (S kd)):∃(i:Nat)(hi:i<rs.length),S rs[i].n=t.2.1:=by
 have:=pig (rs.map λr=>S r.n) ((Qr ks (S kd)).map λt=>t.2.1) h.nd (λx F=>?_) (by rw [aA,aA];exact h.all) t.2.1 (cJ ht)
 .obtain⟨r,j,e⟩:=aP.mp this;obtain⟨i,hi,rfl⟩:=cS.mp j;exact⟨i,hi,e⟩
 .obtain⟨r,j,rfl⟩:=aP.mp F;have:=h.row r j;unfold Xq at this;cases e:(Qr ks (S kd)).find? λx=>decide (x.2.1=S r.n)with
  | none=>rw [e]at this;exact absurd rfl this
  | some y=>
   have h1:=eJ e;have h2:=List.find?_some e;rw [<-b_ h2];exact cJ h1
theorem MoOk.ru(h:MoOk ks rs kd)(hi:i<rs.length):ruT rs (S rs[i].n)=vN rs[i].t:=by
 unfold ruT;rw [UK (λr:RuN=>S r.n) rs h.nd i hi]
 rfl
section
variable{K:Fg}{fd:FuncData}
theorem Vg:FnScope ["wood","numbers","rules","kind","terms"] ["wood","numbers","rules"] (defScope LJ):=(0:)
theorem R3(F:Fun K "mode_of" "mode_of" LJ f fd)(GA:GmA mg)(RM:Fn P w K mg base 3 "check_mode" ["wood","mode","kind","rules"] (LO K))(RN:Fn P w K mg base 11 "numbered" ["term","numbers"] (Vj K))(RO:Fn P w K mg base 1 "rows_of" ["wood","kind"] (Yd K)):FnOk P w K mg base CX0 12 f fd ["wood","numbers","rules"] (WO K):=by
 refine F.ok Vg (14:) (λba A a7 s H vs Q E hr h=>?_)
 .obtain⟨wd,d,l,M,kvs,g,ks,us,L,rfl,_⟩:=h
  rfl
 obtain⟨wd,d,l,M,kvs,g,ks,us,L,rfl,hW,hO,hd,hl,hR,ax,hM,ay,q⟩:=h;refine⟨_,(Qd (Qm (i:=3) Vg.nd rfl (7:) (Qk Qp (Qk QD (pv 2) Qf (λ_ _=>rfl)) Qf (λ_ _=>rfl)))
  (Qd (QS (Qs RM hr (Qa (pv 0) (Qa (Qk Qp (Qk QD (pv 2) Qf (λ_ _=>rfl)) Qf (λ_ _=>rfl)) (Qa (pv 3) (Qa (pv 2) Qc))))))
  (Qd (Qm (i:=4) Vg.nd rfl (cB rfl) (QE (ZB rfl) rfl GA.dict eY (Qa (QY (CompG.many (xs:=["rule"]) (caps:=["numbers"]) (cap:=[1]) (cs:=[_]) rfl rfl (1:) (1:) (1:) (1:) (1:) (1:) rfl rfl rfl) rfl (QZ (pv 2)) (UU (CompG.many (xs:=["rule"]) (caps:=["numbers"]) (cap:=[1]) (cs:=[_]) rfl rfl (1:) (1:) (1:) (1:) (1:) (1:) rfl rfl rfl)) (λ_ _ _ _=>Zg) (λ_ _ _ _=>(QF (Qa (Qk (r:=LK K) Qp (pv 0) Qf (λ_ _=>rfl)) (Qa (Qs RN hr (Qa (Qk (r:=LK K) Qp (pv 0) Qf (λ_ _=>rfl)) (Qa (pv 1) Qc))) Qc))))) Qc)))
  (Qh (Qn (QF (Qa (pv 3) (Qa (QY (CompG.many (xs:=["name","branches"]) (caps:=["terms"]) (cap:=[4]) (cs:=[_]) rfl rfl (1:) (1:) (1:) (1:) (1:) (1:) rfl rfl rfl) rfl (QZ (Qs RO hr (Qa (pv 0) (Qa (pv 3) Qc)))) (Ji (CompG.many (xs:=["name","branches"]) (caps:=["terms"]) (cap:=[4]) (cs:=[_]) rfl rfl (1:) (1:) (1:) (1:) (1:) (1:) rfl rfl rfl) rfl) (λ_ _ _ _=>Zg) (λ_ _ _ _=>UM (ZD hr) (pv 2) (pv 0) (λ_ _=>rfl))) Qc)))))))),?_⟩
 try dsimp only [QW,Cx.nox]
 refine L2.let3 ?_
 intros
 have au:=hR.len;have a8:=hM.few;have h0:0<L.length:=gR.mpr ax;have an:0<us.length:=by lia
 obtain⟨r0,az,av⟩:=hR.get (aE an);obtain⟨a0,bb,e0,ae,bc⟩:=av.ex;have a1:=hM.kind r0 (bC az);have af:atI us (0:Int)=some (.ref a0):=QL (j:=0) (by rw [aE an,e0]);rw [a1]at ae;refine⟨_,rfl,l,us,_,_,rfl,rfl,hl,af,a0,_,1,_,rfl,rfl,ae,rfl,?_⟩;refine⟨_,rfl,_,rfl,l,us,_,_,rfl,rfl,hl,af,a0,_,0,_,rfl,rfl,ae,rfl,_,rfl,_,rfl,wd,l,r0.m,M,ks,us,L,rfl,hW,hO,hl,hR,hM,λH1 g1=>?_⟩;refine⟨_,rfl,l,rfl,⟨_,g1.seq hl⟩,λacc ag=>?_⟩;refine Vr (K:=K) (xs:=us) (cs:=[some (.ref d)]) (tt:=λ_ H Q=>Q true H) (λj ys H'=>∃G:List (Addr×Str×V),ys=G.map (λt=>V.ref t.1)/\G.length=j/\H' acc=some (.lst ys)/\Same H1 H'/\(∀t∈G,SqT K H' t.1 [.str t.2.1,t.2.2])/\(G.map λt=>t.2.1)=(L.take j).map (λr=>S r.n)/\∀(i:Nat)(h:i<G.length)(h2:i<L.length),TvV K H' G[i].2.2 (mpV g (vN L[i].t)))
  ⟨[],rfl,rfl,Qb,Qe ag _,λt ht=>(nomatch ht),rfl,λi h=>(nomatch h)⟩ ?_ ?_ ?_
 .rintro j ys H' _ ⟨_,_,_,_,g2,_⟩;exact(g1.trans g2).seq hl
 .rintro j x ys H' hj hx ⟨G,rfl,ao,hy,g2,ai,aa,aj⟩;obtain⟨r,ab,a2⟩:=hR.get hx;obtain⟨a,tv,rfl,h1,h2⟩:=a2.ex;have gg:=g1.trans g2;obtain⟨k1,k2,k3⟩:=ay r (bC ab);refine Q2 ⟨_,rfl,a,_,2,_,rfl,rfl,gg.seqT h1,rfl,_,rfl,a,_,3,_,rfl,rfl,gg.seqT h1,rfl,_,rfl,tv,d,kvs,vN r.t,g,rfl,h2.tv.mono λ_ _=>gg.seqT,k1,k2,gg _ _ hd,k3,λv' H4 U a3=>⟨(18:),λp hp=>?_⟩⟩;have s5:=Qe hp (.tup [.str (S r.n),v']);have b5:upd H4 p (.tup [.str (S r.n),v']) p=some (.tup [.str (S r.n),v']):=Qb;generalize upd H4 p (.tup [.str (S r.n),v'])=X5 at s5 b5 ⊢;have J:=s5 _ _ (U _ _ hy);have ap:j<L.length:=by lia
  have ej:L[j]=r:=by
   rw [aE ap]at ab;exact aK ab
  refine QI hj J (by rw [aA];lia) ⟨G++[(p,S r.n,v')],by simp,by simp [ao],Qb,λb u e=>?_,λt ht=>?_,?_,λi h h2=>?_⟩
  .rw [Qi (Qg e ag)];exact s5 _ _ (U _ _ (g2 _ _ e))
  .rcases aW.mp ht with ht | ht
   .exact(s5.seqT (U.seqT (ai t ht))).put J
   .obtain rfl:=bD.mp ht;exact(SqT.of b5).put J
  .rw [aS,aa,bE,ab];simp
  .by_cases c:i<G.length
   .rw [List.getElem_append_left c];exact(aj i c h2).mono λ_ _ h=>(s5.seqT (U.seqT h)).put J
   .rw [aI,cT]at h;have ei:i=G.length:=by lia
    subst ei;rw [List.getElem_append_right (8:)];have e2:L[G.length]=r:=by
     have:L[G.length]'h2=L[j]'ap:=by congr 1
     rw [this,ej]
    rw [e2];simp only [Nat.sub_self,List.getElem_cons_zero];exact a3.mono λ_ _ h=>(s5.seqT h).put J
 rintro ys H2 ⟨G,rfl,ao,hy,g2,ai,aa,aj⟩;rw [au,bP]at aa;have a9:G.length=L.length:=by lia
 have aq:(G.map λt=>t.2.1).Nodup:=by rw [aa];exact hM.nd
 refine⟨acc,G,rfl,SqL.of hy,ai,aq,by lia,λdt a4=>?_⟩;have s3:=Qe a4 (.dK (G.map λt=>((Sum.inr t.2.1:Key),t.2.2)));have b3:upd H2 dt (.dK (G.map λt=>((Sum.inr t.2.1:Key),t.2.2))) dt=some (.dK (G.map λt=>((Sum.inr t.2.1:Key),t.2.2))):=Qb;generalize upd H2 dt (.dK (G.map λt=>((Sum.inr t.2.1:Key),t.2.2)))=H3 at s3 b3 ⊢;have ak:=g1.trans (g2.trans s3);refine⟨_,rfl,_,rfl,_,rfl,wd,S M,ks,rfl,hW.same ak,hO,λlr H4 U hL=>?_⟩;have a5:=U _ _ b3;refine⟨lr,rfl,⟨_,hL.1⟩,λac ad=>?_⟩;have am:=Zm hO (S M);have bd:=am.len;refine UQ (K:=K) (xs:=(Qr ks (S M)).map λt=>V.ref t.1) (cs:=[some (.ref dt)]) (tt:=λ_ H Q=>Q true H) (λj ys H'=>H' ac=some (.lst ys)/\Same H4 H'/\ys.length=j/\TvAll K H' ys (((Qr ks (S M)).take j).map λt=>mpV g (ruT L t.2.1)))
  ⟨Qb,Qe ad _,rfl,.nil⟩ ?_ ?_ ?_
 .rintro j ys H' _ ⟨_,Y,_⟩;exact Y.seq hL.1
 .rintro j x ys H' hj hx ⟨J,Y,ar,hT⟩;rw [aA]at hj;obtain rfl:x=.ref (Qr ks (S M))[j].1:=by
   rw [aM,aE hj]at hx;exact(aK hx).symm
  have as:=aO hj;obtain⟨k1,k2⟩:=hL.2 (Qr ks (S M))[j] as;obtain⟨i,hi,ei⟩:=hM.has as;have al:i<G.length:=by lia
  have a6:G[i].2.1=S L[i].n:=by
   have h1:(G.map λt=>t.2.1)[i]'(by simpa using al)=(L.map λr=>S r.n)[i]'(by simpa using hi):=by congr 1
   rw [bR,bR]at h1;exact h1
  have aw:YD (G.map λt=>((Sum.inr t.2.1:Key),t.2.2)) (Sum.inr (Qr ks (S M))[j].2.1)=some G[i].2.2:=by
   rw [YA (λt:Addr×Str×V=>t.2.1) (λt=>t.2.2) _ G,<-ei,<-a6,UK (λt:Addr×Str×V=>t.2.1) G aq i al]
   rfl
  refine⟨_,_,_,rfl,Y.seqT k1,Q2 ⟨_,rfl,_,rfl,dt,G[i].2.2,rfl,(by rw [<-aw];exact DGet.k (k:=Sum.inr (Qr ks (S M))[j].2.1) (Y _ _ a5)),?_⟩⟩;rw [aA];refine QI hj J (10:) ⟨Qb,λb u e=>?_,by simp [ar],?_⟩
  .rw [Qi (Qg e ad)];exact Y _ _ e
  .rw [bE,aE hj,cV,aS];refine TvAll.append (hT.mono λ_ _ h=>h.put J) (.cons ?_ .nil);show TvV K _ G[i].2.2 (mpV g (ruT L (Qr ks (S M))[j].2.1));rw [<-ei,hM.ru hi];exact(aj i al hi).mono λ_ _ h=>(Y.seqT (U.seqT (s3.seqT h))).put J
 .rintro ys H5 ⟨J,Y,ar,hT⟩;rw [aA,bP]at hT;refine⟨(18:),λp hp=>?_⟩;have s6:=Qe hp (.tup [.str (S M),.ref ac]);have hn:H ac=none:=by
   cases e:H ac with
   | none=>rfl
   | some u=>rw [U _ _ (ak _ _ e)]at ad;cases ad
  exact q p ac _ ys (ak.trans (U.trans (Y.trans s6))) (SqT.of Qb) hn (s6 _ _ J) (hT.mono λ_ _ h=>s6.seqT h)
end
abbrev MvT:=Addr×Str×Addr×List V×List TV
def MvAt(K:Fg)(H:Hp)(m:MvT):Prop:=SqT K H m.1 [.str m.2.1,.ref m.2.2.1]/\SqL K H m.2.2.1 m.2.2.2.1/\TvAll K H m.2.2.2.1 m.2.2.2.2
def ModesV(K:Fg)(H:Hp)(lm:Addr)(ms:List MvT):Prop:=SqL K H lm (ms.map λm=>V.ref m.1)/\∀m∈ms,MvAt K H m
theorem MvAt.same{K:Fg}{m:MvT}(g:Same H H')(h:MvAt K H m):MvAt K H' m:=⟨g.seqT h.1,g.seq h.2.1,h.2.2.mono λ_ _=>g.seqT⟩
theorem ModesV.same{K:Fg}{ms:List MvT}(g:Same H H')(h:ModesV K H lm ms):ModesV K H' lm ms:=⟨g.seq h.1,λm j=>(h.2 m j).same g⟩
def Yw(mk ks:List Str)(t:TV):Prop:=∀m b,(m,b)∈clV t->∃i j:Nat,m=.int (i:Int)/\b=(j:Int)/\i<mk.length/\j<ks.length/\mk[i]?=ks[j]?
def mkV(ms:List MvT):List Str:=ms.map λm=>m.2.1
structure RuFit(ks:List KdT)(mk:List Str)(kind:Str)(ts:List TV):Prop where
 ne:Qr ks kind≠[]
 len:ts.length=(Qr ks kind).length
 fit:∀(i:Nat)(h1:i<(Qr ks kind).length)(h2:i<ts.length),Yw mk (Qr ks kind)[i].2.2.2 ts[i]
 ok:∀t∈ts,lv t<=9/\sz t<=1000
def Re(K:Fg):Sp:=λvs H Q _=>∃(lm kk:Addr)(i j:Nat)(ms:List MvT)(ks:List Str),vs=[.ref lm,.int (i:Int),.int (j:Int),.ref kk]/\ModesV K H lm ms/\SqT K H kk (ks.map V.str)/\i<(mkV ms).length/\j<ks.length/\(mkV ms)[i]?=ks[j]?/\Q (.bl true) H
def Vz(K:Fg):Sp:=λvs H Q _=>∃(lm kk:Addr)(v:V)(t:TV)(ms:List MvT)(ks:List Str),vs=[.ref lm,v,.ref kk]/\ModesV K H lm ms/\SqT K H kk (ks.map V.str)/\TvV K H v t/\lv t<=9/\sz t<=1000/\Yw (mkV ms) ks t/\∀H',Same H H'->Q (.bl true) H'
def R4(K:Fg):Sp:=λvs H Q _=>∃(w lm l:Addr)(kind:Str)(ks:List KdT)(ms:List MvT)(us:List V)(ts:List TV),vs=[.ref w,.ref lm,.str kind,.ref l]/\WoodAt K H w ks/\WoodOk ks/\ModesV K H lm ms/\SqL K H l us/\TvAll K H us ts/\RuFit ks (mkV ms) kind ts/\∀H',Same H H'->Q (.bl true) H'
def Oe(K:Fg):Sp:=λvs H Q _=>∃(w lm:Addr)(v:V)(t:TV)(ks:List KdT)(ms:List MvT)(k0:KdT),vs=[.ref w,v,.ref lm]/\WoodAt K H w ks/\WoodOk ks/\ks[0]?=some k0/\ModesV K H lm ms/\ms.length<=50/\(∀m∈ms,RuFit ks (mkV ms) m.2.1 m.2.2.2.2)/\TvV K H v t/\lv t<=9/\sz t<=1000/\kpV t=false/\Yw (mkV ms) [k0.2.1] t/\∀H',Same H H'->Q (.bl true) H'
theorem UN:∀n:Nat,(List.replicate n true).all id=true
 | 0=>rfl
 | n+1=>by rw [fA,List.all_cons,UN n];rfl
section
variable{K:Fg}{fd:FuncData}
theorem DF:FnScope ["modes","mode","branch","kinds"] ["modes","mode","branch","kinds"] (defScope LH):=(0:)
theorem Cu(F:Fun K "call_fits" "call_fits" LH f fd)(G:Gm mg):FnOk P w K mg base CX0 1 f fd ["modes","mode","branch","kinds"] (Re K):=by
 refine F.ok DF (14:) (λad A ac s H vs Q E hr h=>?_)
 .obtain⟨lm,kk,i,j,ms,ks,rfl,_⟩:=h
  rfl
 obtain⟨lm,kk,i,j,ms,ks,rfl,L,M,hi,U,Y,q⟩:=h;refine⟨_,(Qd (QC (PW.pt (pw_or (Ya (GH Az Jk Qf (pv 1) (Qv Qy rfl G.len bJ (Qa (pv 0) Qc)))) (pw_or1 (Ya (GH Az Jk Qf (pv 2) (Qv Qy rfl G.len bJ (Qa (pv 3) Qc))))))) (Qh (Qn Yq)) Qt)
  (Qh (Qn (Z0 Zw (Qk Qp (Qk QD (pv 0) (pv 1) (λ_ _=>rfl)) Qf (λ_ _=>rfl)) (Qk Qp (pv 3) (pv 2) (λ_ _=>rfl)) (QB _))))),?_⟩
 try dsimp only [QW,Cx.nox]
 refine L2.let1 ?_
 intros
 have J:i<ms.length:=by unfold mkV at hi;rw [aA]at hi;exact hi
 have hA:=L.2 ms[i] (aO J);have e1:ms[i].2.1=ks[j]:=by
  rw [aE hi,aE U]at Y;have h1:=aK Y;have h2:(mkV ms)[i]=ms[i].2.1:=by simp [mkV]
  rw [<-h2];exact h1
 refine⟨_,rfl,_,_,rfl,rfl,_,rfl,XF (10:) ⟨_,rfl,lm,_,rfl,.inl L.1,_,_,rfl,rfl,_,rfl,?_⟩⟩;have aa:(ks.map V.str).length=ks.length:=aA ..;have ab:(ms.map λm=>V.ref m.1).length=ms.length:=aA ..;rw [ab,aV (show(i:Int)<(ms.length:Int)by lia)];refine Q7 ⟨_,rfl,_,_,rfl,rfl,_,rfl,XF (10:) ⟨_,rfl,kk,_,rfl,.inr M,_,_,rfl,rfl,_,rfl,?_⟩⟩;rw [aa,aV (show(j:Int)<(ks.length:Int)by lia)];refine Q7 ?_;refine⟨_,rfl,_,rfl,lm,_,_,_,rfl,rfl,L.1,QL (by rw [aM,aE J];rfl),ms[i].1,_,0,_,rfl,rfl,hA.1,rfl,_,rfl,_,rfl,kk,_,_,.str ks[j],rfl,rfl,M,QL (by rw [aM,aE U];rfl),rfl,?_⟩;rw [e1,aV rfl];exact q
theorem CH:FnScope ["modes","term","kinds"] ["modes","term","kinds"] (defScope VO):=(0:)
theorem AD(F:Fun K "calls_fit" "calls_fit" VO f fd)(GA:GmA mg)(RO:Fn P w K mg base 10 "calls_of" ["term"] (Jg K 9))(RF:Fn P w K mg base 1 "call_fits" ["modes","mode","branch","kinds"] (Re K)):FnOk P w K mg base CX0 11 f fd ["modes","term","kinds"] (Vz K):=by
 refine F.ok CH (14:) (λae A ac s H vs Q E U h=>?_)
 .obtain⟨lm,kk,v,t,ms,ks,rfl,_⟩:=h
  rfl
 obtain⟨lm,kk,v,t,ms,ks,rfl,hM,hk,ht,Y,aa,hF,q⟩:=h;refine⟨_,(Qh (Qn (Qv (U5 rfl) rfl GA.all PyProof.Rows.boot_all (Qa (QY (CompG.many (xs:=["mode","branch"]) (caps:=["kinds","modes"]) (cap:=[2,0]) (cs:=[_,_]) rfl rfl (1:) (1:) (1:) (1:) (1:) (1:) rfl rfl rfl) rfl (QZ (Qs RO U (Qa (pv 1) Qc))) (Ji (CompG.many (xs:=["mode","branch"]) (caps:=["kinds","modes"]) (cap:=[2,0]) (cs:=[_,_]) rfl rfl (1:) (1:) (1:) (1:) (1:) (1:) rfl rfl rfl) rfl) (λ_ _ _ _=>Zg) (λ_ _ _ _=>Qs RF U (Qa (pv 3) (Qa (pv 0) (Qa (pv 1) (Qa (pv 2) Qc)))))) Qc)))),?_⟩
 try dsimp only [QW,Cx.nox]
 refine⟨_,rfl,v,t,rfl,ht,Y,aa,λl H1 j g1 af hl ab M=>⟨l,rfl,⟨_,SqL.of hl⟩,λacc G=>?_⟩⟩;have ag:=VQ t;have ad:j.length=(clV t).length:=by rw [<-M,aA]
 refine UQ (K:=K) (xs:=RfV j) (cs:=[some (.ref kk),some (.ref lm)]) (tt:=λ_ H Q=>Q true H) (λi ys H'=>H' acc=some (.lst ys)/\Same H1 H'/\ys=(List.replicate i true).map V.bl)
  ⟨Qb,Qe G _,rfl⟩ ?_ ?_ ?_
 .rintro i ys H' _ ⟨_,g,_⟩;exact SqL.of (g _ _ hl)
 .rintro i x ys H' hi hx ⟨J,g,rfl⟩;have L:i<j.length:=by simpa using hi
  have ex:x=.ref j[i].1:=by
   rw [aM,aE L]at hx;exact(aK hx).symm
  have hm:j[i].2∈clV t:=by rw [<-M];exact cJ (aO L)
  obtain⟨a,b,e1,e2,h1,h2,h3⟩:=hF j[i].2.1 j[i].2.2 hm;have hp:=ab _ (aO L);rw [e1,e2]at hp;have gg:=g1.trans g;refine⟨_,_,_,ex,g.seqT hp,Q2 ⟨_,rfl,_,rfl,_,rfl,_,rfl,lm,kk,a,b,ms,ks,rfl,hM.same gg,gg.seqT hk,h1,h2,h3,?_⟩⟩;refine QI hi J (by rw [aA,dD];lia) ⟨Qb,λx u e=>?_,?_⟩
  .rw [Qi (Qg e G)];exact g _ _ e
  .rw [List.replicate_succ',aS];rfl
 rintro ys H2 ⟨J,g,rfl⟩;refine⟨acc,_,rfl,SqL.of J,?_⟩;rw [UN];exact q H2 (g1.trans g)
theorem Cc:FnScope ["wood","modes","kind","rules","rows"] ["wood","modes","kind","rules"] (defScope WF):=(0:)
theorem Ce(F:Fun K "rules_fit" "rules_fit" WF f fd)(G:Gm mg)(GA:GmA mg)(RO:Fn P w K mg base 1 "rows_of" ["wood","kind"] (Yd K))(RC:Fn P w K mg base 11 "calls_fit" ["modes","term","kinds"] (Vz K)):FnOk P w K mg base CX0 12 f fd ["wood","modes","kind","rules"] (R4 K):=by
 refine F.ok Cc (14:) (λak A ai s H vs Q E hr h=>?_)
 .obtain⟨wd,lm,l,j,ks,ms,J,ts,rfl,_⟩:=h
  rfl
 obtain⟨wd,lm,l,j,ks,ms,J,ts,rfl,hW,hO,hM,hl,ad,hF,q⟩:=h;refine⟨_,(Qd (Qm (i:=4) Cc.nd rfl (7:) (Qs RO hr (Qa (pv 0) (Qa (pv 2) Qc))))
  (Qd (QC (PW.pt (pw_or (Qu Zw (Qv Qy rfl G.len bJ (Qa (pv 4) Qc)) Qf (QB _)) (pw_or1 (Qu Jq (Qv Qy rfl G.len bJ (Qa (pv 3) Qc)) (Qv Qy rfl G.len bJ (Qa (pv 4) Qc)) (QB _))))) (Qh (Qn Yq)) Qt)
  (Qh (Qn (Qv (U5 rfl) rfl GA.all PyProof.Rows.boot_all (Qa (QY (CompG.many (xs:=["row","rule"]) (caps:=["modes"]) (cap:=[1]) (cs:=[_]) rfl rfl (1:) (1:) (1:) (1:) (1:) (1:) rfl rfl rfl) rfl (GO rfl GA.zip (Qa (pv 4) (Qa (pv 3) Qc))) (Ji (CompG.many (xs:=["row","rule"]) (caps:=["modes"]) (cap:=[1]) (cs:=[_]) rfl rfl (1:) (1:) (1:) (1:) (1:) (1:) rfl rfl rfl) rfl) (λ_ _ _ _=>Zg) (λ_ _ _ _=>Qs RC hr (Qa (pv 2) (Qa (pv 1) (Qa (Qk (r:=LK K) Qp (pv 0) Qf (λ_ _=>rfl)) Qc))))) Qc)))))),?_⟩
 try dsimp only [QW,Cx.nox]
 refine L2.let2 ?_
 intros
 refine⟨_,rfl,_,rfl,wd,j,ks,rfl,hW,hO,λlr H1 L M=>?_⟩;have U:((Qr ks j).map λt=>V.ref t.1).length=(Qr ks j).length:=aA ..;have al:=ad.length;have am:=hF.len;have aj:=(Zm hO j).len;have h0:(Qr ks j).length≠0:=λz=>hF.ne (fX.mp z);have h1:J.length=(Qr ks j).length:=by lia
 refine⟨_,rfl,lr,_,rfl,.inl M.1,rfl,_,rfl,?_⟩;rw [U];refine Z9 (λz=>h0 (by injection z with z;lia)) ?_;refine⟨_,rfl,l,_,rfl,.inl (L.seq hl),_,rfl,lr,_,rfl,.inl M.1,rfl,_,rfl,?_⟩;rw [U];show if _=true then _ else _;rw [aV (show V.int (J.length:Int)=V.int ((Qr ks j).length:Int)by rw [h1])];refine Q7 ?_;refine⟨_,rfl,_,rfl,lr,l,_,J,rfl,M.1,L.seq hl,λacc Y=>?_⟩;refine OJ (K:=K) (xs:=(Qr ks j).map λt=>V.ref t.1) (zs:=J) (cs:=[some (.ref lm)]) (tt:=λ_ H Q=>Q true H) (by rw [U,h1]) (λi ys H'=>H' acc=some (.lst ys)/\Same H1 H'/\ys=(List.replicate i true).map V.bl)
  ⟨Qb,Qe Y _,rfl⟩ ?_ ?_ ?_
 .rintro i ys H' _ ⟨_,g,_⟩;exact⟨g.seq M.1,(L.trans g).seq hl⟩
 .rintro i u v p ys H' hi hu hv hp ⟨aa,g,rfl⟩;have ab:i<(Qr ks j).length:=by simpa using hi
  have ac:i<ts.length:=by lia
  obtain⟨cv,af,ag⟩:=ad.get (aE ac);obtain rfl:cv=v:=aK (af.symm.trans hv);obtain rfl:u=.ref (Qr ks j)[i].1:=by
   rw [aM,aE ab]at hu;exact(aK hu).symm
  have gp:=Qe hp (.tup [.ref (Qr ks j)[i].1,cv]);have gg:=L.trans (g.trans gp);have ae:=(M.2 _ (aO ab)).same (g.trans gp);obtain⟨k1,k2⟩:=hF.ok ts[i] (aO ac);refine Q2 ⟨_,rfl,_,rfl,_,rfl,_,_,1,_,rfl,rfl,ae.1,rfl,lm,_,cv,ts[i],ms,_,rfl,hM.same gg,ae.2,ag.mono λ_ _=>gg.seqT,k1,k2,hF.fit i ab ac,λH4 g4=>?_⟩;refine QI hi (g4 _ _ (gp _ _ aa)) (by rw [aA,dD];lia) ⟨Qb,λx u e=>?_,?_⟩
  .rw [Qi (Qg e Y)];exact g4 _ _ (gp _ _ (g _ _ e))
  .rw [List.replicate_succ',aS];rfl
 rintro ys H2 ⟨aa,g,rfl⟩;refine⟨acc,_,rfl,SqL.of aa,?_⟩;rw [UN];exact q H2 (L.trans g)
theorem DA:FnScope ["wood","start","modes"] ["wood","start","modes"] (defScope Lv):=(0:)
theorem Cr(F:Fun K "is_sound" "is_sound" Lv f fd)(GA:GmA mg)(RF:Fn P w K mg base 12 "rules_fit" ["wood","modes","kind","rules"] (R4 K))(RK:Fn P w K mg base 10 "keeps_mark" ["term"] (Jp K 9))(RC:Fn P w K mg base 11 "calls_fit" ["modes","term","kinds"] (Vz K)):FnOk P w K mg base CX0 13 f fd ["wood","start","modes"] (Oe K):=by
 refine F.ok DA (14:) (λai A ag s H vs Q E hr h=>?_)
 .obtain⟨wd,lm,v,t,ks,ms,k0,rfl,_⟩:=h
  rfl
 obtain⟨wd,lm,v,t,ks,ms,k0,rfl,hW,hO,Y,J,aj,ac,ht,aa,ad,ae,hF,q⟩:=h;refine⟨_,(Qd (QC (Ya (Q8 (Qv (U5 rfl) rfl GA.all PyProof.Rows.boot_all (Qa (QY (CompG.many (xs:=["kind","rules"]) (caps:=["modes","wood"]) (cap:=[2,0]) (cs:=[_,_]) rfl rfl (1:) (1:) (1:) (1:) (1:) (1:) rfl rfl rfl) rfl (QZ (pv 2)) (Ji (CompG.many (xs:=["kind","rules"]) (caps:=["modes","wood"]) (cap:=[2,0]) (cs:=[_,_]) rfl rfl (1:) (1:) (1:) (1:) (1:) (1:) rfl rfl rfl) rfl) (λ_ _ _ _=>Zg) (λ_ _ _ _=>Qs RF hr (Qa (pv 3) (Qa (pv 2) (Qa (pv 0) (Qa (pv 1) Qc)))))) Qc)))) (Qh (Qn Yq)) Qt)
  (Qh (Qn (VR (R5 (Qs RK hr (Qa (pv 1) Qc))) (J9 (Qs RC hr (Qa (pv 2) (Qa (pv 1) (Qa ((QF (Qa (Qk Qp (Qk QD (pv 0) Qf (λ_ _=>rfl)) Qf (λ_ _=>rfl)) Qc))) Qc))))))))),?_⟩
 try dsimp only [QW,Cx.nox]
 refine L2.let1 ?_
 intros
 refine⟨_,rfl,lm,rfl,⟨_,J.1⟩,λacc L=>?_⟩;refine UQ (K:=K) (xs:=ms.map λm=>V.ref m.1) (cs:=[some (.ref lm),some (.ref wd)]) (tt:=λ_ H Q=>Q true H) (λi ys H'=>H' acc=some (.lst ys)/\Same H H'/\ys=(List.replicate i true).map V.bl)
  ⟨Qb,Qe L _,rfl⟩ ?_ ?_ ?_
 .rintro i ys H' _ ⟨_,g,_⟩;exact g.seq J.1
 .rintro i x ys H' hi hx ⟨M,g,rfl⟩;have U:i<ms.length:=by simpa using hi
  have ex:x=.ref ms[i].1:=by
   rw [aM,aE U]at hx;exact(aK hx).symm
  have hA:=(J.2 _ (aO U)).same g;refine⟨_,_,_,ex,hA.1,Q2 ⟨_,rfl,_,rfl,_,rfl,_,rfl,wd,lm,ms[i].2.2.1,ms[i].2.1,ks,ms,_,_,rfl,hW.same g,hO,J.same g,hA.2.1,hA.2.2,ac _ (aO U),λH4 G=>?_⟩⟩;refine QI hi (G _ _ M) (by rw [aA,dD];lia) ⟨Qb,λx u e=>?_,?_⟩
  .rw [Qi (Qg e L)];exact G _ _ (g _ _ e)
  .rw [List.replicate_succ',aS];rfl
 rintro ys H1 ⟨M,g,rfl⟩;refine⟨acc,_,rfl,SqL.of M,_,rfl,?_⟩;rw [UN];refine Q7 ⟨_,rfl,v,t,rfl,ht.mono λ_ _=>g.seqT,aa,λH2 g2=>⟨_,rfl,_,rfl,?_⟩⟩;rw [ae];have gg:=g.trans g2;have ab:=bC Y;have af:atI (ks.map λk=>V.ref k.1) 0=some (.ref k0.1):=QL (j:=0) (by rw [aM,Y];rfl);refine Q2 ⟨_,rfl,_,rfl,_,rfl,wd,_,0,_,rfl,rfl,(hW.same gg).1,af,k0.1,_,0,_,rfl,rfl,((hW.same gg).2 k0 ab).1,rfl,(by show 1<=sizeLine;decide),λp hp=>?_⟩;have g3:=Qe hp (.tup [.str k0.2.1]);have G:=gg.trans g3;exact⟨lm,p,v,t,ms,[k0.2.1],rfl,J.same G,SqT.of Qb,ht.mono λ_ _=>G.seqT,aa,ad,hF,λH5 g5=>q H5 (G.trans g5)⟩
end
end K12
variable{ms:List K12.MvT}
namespace L2
open PySem PySem.Spec PyProof.Rows
def ItL(K:Fg)(a:Addr):It:=
 ⟨λi H=>∃xs x,SqL K H a xs/\xs[i]?=some x,λi H x H'=>∃p v,H p=none/\x=.ref p/\H'=upd H p (.tup [.int (i:Int),v])/\∀xs,SqL K H a xs->xs[i]?=some v,λi H=>∃xs,SqL K H a xs/\xs.length<=i⟩
theorem G3{K:Fg}(a e it:Addr)(hei:e≠it):
 Turn P w K (.Tuple elts k1 pos) (ItL K a) [e,it] e (λi h=>(∃old,IsEnum h e it (i:Nat) old)/\h.IsListIter it a i) where
 mem:=by simp
 obj:=λi h st c j=>by
  obtain⟨⟨old,G⟩,hi⟩:=st;simp only [aQ,cG,bN]at j;rcases j with rfl | rfl
  .exact⟨_,G,λv z=>by have z':Data.fields _=Data.cell v:=z;cases z'⟩
  .obtain⟨o,g,c,d⟩:=hi;exact⟨o,g,λv z=>by rw [d]at z;cases z⟩
 keep:=λi h h' st k=>by
  obtain⟨⟨old,G⟩,hi⟩:=st;exact⟨⟨old,k e (22:) _ G⟩,hi.at λo g=>k it (22:) o g⟩
 item:=by
  intro X hP hw hK j i pins s σ H E I M st hg;subst hP hw hK;obtain⟨⟨old,G⟩,hi⟩:=st;obtain⟨xs,x,U,hx⟩:=hg;obtain⟨its,rv,p,hz⟩:=I.list U;obtain⟨u,hu,ru⟩:=rv.get hx;have pt:s.heap.IsList a its.toArray:=p.isList;obtain⟨oa,Y,ca,na,da⟩:=id pt;have ab:a≠e:=λz=>by
   subst z;have hE:s.heap.get? a=some _:=G;rw [hE]at Y;cases Y;exact absurd (Value.type.inj ca) (9:)
  have ac:a≠it:=λz=>by
   subst z;obtain⟨o,g,c,d⟩:=hi;rw [g]at Y;cases Y;rw [c]at ca;exact absurd (Value.type.inj ca) (9:)
  have ad:i<its.toArray.size:=by
   have:=(bT.mp hu).1
   simpa using this
  refine wpAny_pyNext_enum_itemD (Draws.list (prog:=X.prog) (w:=X.w) (A:=X.A.in1) (I.ok.hd j) it a ac its.toArray) G ⟨hi,pt⟩ ad hei (by simp only [aQ,cG,bN,not_or];exact⟨hei,bW ab⟩) λy h' tk hy ho ae ht ap hk=>?_;have af:y=u:=by
   have:its.toArray[i]?=some u:=by simpa using hu
   exact aK (hy.symm.trans this)
  subst af;refine⟨.ref s.heap.objs.size,rfl,wpAny_letOwnedTupleGo_enum (s:={ s with heap:=h',toks:=tk+1 }) ho λag aa L=>?_⟩;have lt:∀{c o},s.heap.get? c=some o->c≠s.heap.objs.size:=λg=>aY (aN g);have ai:s.heap.objs.size≠e:=bW (lt G);have aj:∀c∈[e,it],U4 X pins H c:=M;have I2:Inv X pins σ (upd H s.heap.objs.size (.tup [.int (i:Int),x])) { s with heap:=ag,toks:=tk+1 }:=by
   refine I.turnedNew (ch:=[e,it]) (λc o j g=>?_) aj (8:) ⟨by show 2<=sizeLine;decide,[.int (i:Int) tk,y],.cons ⟨tk,rfl⟩ (.cons ru .nil),⟨_,(L.2 _ ai).trans ht,rfl,_,rfl⟩⟩;simp only [aQ,cG,bN,not_or]at j;exact(L.2 c j.1).trans (hk c o j.1 j.2 g)
  have ak:∀c∈[e,it],upd H s.heap.objs.size (.tup [.int (i:Int),x]) c=none:=λc j=>by
   have:c≠s.heap.objs.size:=by
    have J:=j;simp only [aQ,cG,bN]at J;rcases J with rfl | rfl
    .exact lt G
    .obtain⟨o,g,_⟩:=hi;exact lt g
   rw [Qi this];exact(M c j).1
  exact⟨.ref s.heap.objs.size,_,I2,rfl,⟨s.heap.objs.size,x,I.fresh,rfl,rfl,λys al=>by rw [I.list_inj al U];exact hx⟩,⟨⟨_,aa⟩,ae.1.extBut L.extBut (bW hei)⟩,ak⟩
 done:=by
  intro X hP hw hK j i pins s σ H E I M st hg;subst hP hw hK;obtain⟨⟨old,G⟩,hi⟩:=st;obtain⟨xs,U,hx⟩:=hg;obtain⟨its,rv,p,hz⟩:=I.list U;have pt:s.heap.IsList a its.toArray:=p.isList;have ao:=rv.length;have hn:its.toArray.size<=i:=by simp;lia
  have hT:s.TypeIs (.ref e) "enumerate":=⟨_,G,rfl⟩;unfold pyNext;refine aD (wpAny_attempt (fW (name:=Str.ofString "__next__") hT iG (fC iG hT F.entry_enumerate_next ?_ (F.args_enumerate_next_1 _))));show wpAny _ _ (field (.ref e) 2>>=_) _ _ _;refine aD (wpAny_field G rfl (x:=.ref it) rfl ?_);refine aD (wpAny_nextOf_list_end (A:=X.A.in1) (I.ok.hd j) hi pt (Array.getElem?_eq_none hn) λh' y am hy=>?_);obtain⟨o,ho,an⟩:=hy;refine aD (wpAny_isInstance (T:="StopIteration") (b:=true) ⟨o,ho,an⟩ isSubtype_stop ?_);refine aG ⟨rfl,I.turnedL (t':=s.toks) (ch:=[e,it]) (λc u J g=>am c u (λz=>J (by rw [z];simp)) g) M⟩
 self:=λ_ _ _ _ _ st h=>wpAny_pyIter_enum st.1.choose_spec h
def Bc(K:Fg)(ta:TA):TI:=λσ H R=>ta σ H λvs H1=>∃a xs,vs=[.ref a]/\SqL K H1 a xs/\R (ItL K a) H1
theorem Sc{ta:TA}{p:Pos}(hg:Gl X "enumerate")(hm:X.mg "enumerate"=none)(ha:PA X [e1] ta)(hb:bootBuiltins "enumerate"=some (.type "enumerate"):=by decide+kernel)(hs:starEach [e1] X.env=[(false,eval e1 X.env)]:=by rfl):
 PI X (.Tuple elts k1 tpos) (.Call (.Name "enumerate" p) [e1] [] pos) (Bc X.K ta):=by
 intro pins s σ H R I h;refine Call_ (YT I hg hm hb (fJ (thn (ha pos pins s σ H _ I h) λus j ⟨vs,H1,F,M,U⟩=>?_) hs rfl));obtain⟨a,xs,e,Y,q⟩:=U;subst e;cases M with
 | cons r rr=>
  cases rr;obtain rfl:_=Value.ref a:=r;obtain⟨its,rv,pt,_⟩:=F.list Y;refine call_enumerate_list (show j.heap.IsList a its.toArray from pt.isList) λh' J hi aa hk=>?_;refine wpAny_pyIter_enum J ?_;have I2:Inv X pins σ H1 { j with heap:=h' }:=F.kept (t':=j.toks) hk;refine⟨j.heap.objs.size+1,[j.heap.objs.size+1,j.heap.objs.size],_,_,H1,rfl,I2,G3 a (j.heap.objs.size+1) j.heap.objs.size (nne (10:)),⟨⟨_,J⟩,hi⟩,λc L=>?_,q⟩;have G:@LE.le Nat _ j.heap.objs.size c:=by
   simp only [aQ,cG,bN]at L;rcases L with rfl | rfl<;>lia
  exact F.fpOk G (F.hok.fresh G)
theorem Nr{K:Fg}{D:Ends}(Pv:Nat->St->Hp->Prop)(h0:Pv 0 σ H)(hl:∀i σ H,i<=xs.length->Pv i σ H->SqL K H a xs)
 (hs:∀i v p σ H,xs[i]?=some v->H p=none->Pv i σ H->g (.ref p) σ (upd H p (.tup [.int (i:Int),v])) λσ2 H2=>tb { D with nx:=Pv (i+1),ct:=Pv (i+1),bk:=D.nx } σ2 H2) (hd:∀σ H,Pv xs.length σ H->D.nx σ H):
 ∃W:Nat->Nat->St->Hp->Prop,(∃m,W 0 m σ H)/\∀i m σ H,W i m σ H->
  ((ItL K a).stop i H/\D.nx σ H)\/((ItL K a).go i H/\∃N:St->Hp->Prop,(∀σ' H',N σ' H'->∃m',m'<m/\W (i+1) m' σ' H')/\∀x H',(ItL K a).yld i H x H'->g x σ H' λσ2 H2=>tb { D with nx:=N,ct:=N,bk:=D.nx } σ2 H2):=by
 refine⟨λi m σ H=>m=xs.length-i/\i<=xs.length/\Pv i σ H,⟨xs.length-0,rfl,bZ _,h0⟩,?_⟩;rintro i m σ H ⟨rfl,hi,p⟩;have j:=hl i σ H hi p
 by_cases h:i<xs.length
 .refine .inr ⟨⟨xs,xs[i],j,aE h⟩,Pv (i+1),λσ' H' F=>⟨xs.length-(i+1),by lia,rfl,h,F⟩,?_⟩;rintro x H' ⟨F,v,hp,rfl,rfl,G⟩;exact hs i v F σ H (G xs j) hp p
 .have e:i=xs.length:=by lia
  subst e;exact .inl ⟨⟨xs,j,bX _⟩,hd σ H p⟩
def DEn(h:Heap)(d:Addr)(ents:Array DictEntry)(ep:Nat):Prop:=∃o,h.get? d=some o/\o.ExactDict/\o.data=.dict ents ep
section
variable{ents:Array DictEntry}
theorem DEn.ty(x:DEn s.heap d ents ep):s.TypeIs (.ref d) "dict":=by
 obtain⟨o,g,e,_⟩:=x;exact⟨o,g,e.1⟩
theorem XD(lo:(d==sysModules)=false)(x:DEn s.heap d ents ep)
 (fin:Q (.ref s.heap.objs.size) { s with heap:=s.heap.push { cls:=.type "dict_keyiterator",data:=.fields #[.ref d,.int 0 0,.int ents.size 0,.int ep 0] } }):wpAny (model prog w) A (pyIter (.ref d)) Q E s:=by
 have ty:=x.ty;obtain⟨o,g,ex,j⟩:=x;refine wpAny_pyIter_slot ty F.slot_dict_iter (fC F.slot_dict_iter ty F.entry_dict_iter ?_ (F.args_dict_iter_1 _));unfold Builtin.«dict.__iter__» Builtin.Dict.dictSlotNone;refine aD (aD (wpAny_notOrdered_dict ty (show wpAny _ _ (pure (Value.ref d)) _ _ s from aG ?_)));show wpAny _ _ (Builtin.Dict.showsAll d>>=_) _ _ s;unfold Builtin.Dict.showsAll;rw [aF (by rw [lo];exact a_)];refine aD (aG (aD (wpAny_dictEntries g j (aD (wpAny_dictEpoch g j ?_)))));refine aD (dX (aG ⟨_,rfl,"dict_keyiterator",_,⟨_,bQ _ rfl,rfl⟩,fV.lookup,?_⟩))
 simpa [rawInt]using fin
theorem RQ{t:DictEntry}(hI:s.heap.IsKeyIter it d i ents.size ep)(x:DEn s.heap d ents ep)(at_i:ents[i]?=some t)
 (fin:∀h2,h2.IsKeyIter it d (i+1) ents.size ep->Heap.SameBut it s.heap h2->Q t.key { s with heap:=h2 }):wpAny (model prog w) A (Builtin.SmallTypes.nextOf (.ref it)) Q E s:=by
 obtain⟨oi,L,Y,j⟩:=id hI;obtain⟨od,U,aa,G⟩:=id x;unfold Builtin.SmallTypes.nextOf;refine aD (fW (name:=Str.ofString "__next__") hI.typeIs fV (fC fV hI.typeIs F.entry_dict_keyiterator_next ?_ (F.args_dict_keyiterator_next_1 _)));refine aD (aG (aD (aD ?_)))
 first | refine aD (hX hI.typeIs (aG ?_)) | refine aD (iA hI.typeIs (aG ?_))
 refine aD (wpAny_fieldsOf L j ?_);have M:Builtin.Dict_items.ownsTuple "dict_keyiterator"=false:=by decide
 simp only [M,iL,dH];show wpAny _ _ (if(Value.ref d==Value.none)=true then _ else _) _ _ s;rw [aF (show ¬((Value.ref d==Value.none)=true)from a_)];refine aD (aG (aD (wpAny_dictEntries U G ?_)));rw [aF (22:)];refine aD (aG (aD (wpAny_dictEpoch U G ?_)));rw [aF (22:)];refine aG ?_;simp only [show ¬((i:Int)<0)from by lia,dH,dJ,at_i];refine aD ?_
 first | refine aD (hX hI.typeIs (aG ?_)) | refine aD (iA hI.typeIs (aG ?_))
 refine aD (wpAny_isOneOf_keyiter hI.typeIs ?_);show wpAny _ _ (setField (.ref it) 1 (rawInt ((i:Int)+1))>>=_) _ _ s;refine aD (wpAny_setField L j (22:) ?_);have J:(s.heap.update it (Obj.mapFields (·.setIfInBounds 1 (rawInt ((i:Int)+1))))).IsKeyIter it d (i+1) ents.size ep:=by
  refine⟨_,Heap.get?_update_self _ L (Obj.isFreed_of_fields (Obj.data_mapFields j _)),(Obj.cls_mapFields ..).trans Y,?_⟩;rw [Obj.data_mapFields j];simp [rawInt]
 refine aD (eE (aD (wpAny_isOneOf_keyiter (s:={ s with heap:=s.heap.update it (Obj.mapFields (·.setIfInBounds 1 (rawInt ((i:Int)+1)))) }) J.typeIs ?_)));show wpAny _ _ (pure t.key) _ _ _;exact aG (aG ⟨_,rfl,aG (fin _ J (Heap.SameBut.update ..))⟩)
theorem MK(hh:A.handled=none)(hI:s.heap.IsKeyIter it d ents.size ents.size ep)(x:DEn s.heap d ents ep)(fin:∀h2 e,Heap.ExtBut it s.heap h2->(∃o,h2.get? e=some o/\o.cls=.type "StopIteration")->E (.ref e) { s with heap:=h2 }):wpAny (model prog w) A (Builtin.SmallTypes.nextOf (.ref it)) Q E s:=by
 obtain⟨Y,J,ci,L⟩:=id hI;obtain⟨od,M,U,j⟩:=id x;unfold Builtin.SmallTypes.nextOf;refine aD (fW (name:=Str.ofString "__next__") hI.typeIs fV (fC fV hI.typeIs F.entry_dict_keyiterator_next ?_ (F.args_dict_keyiterator_next_1 _)));refine aD (aG (aD (aD ?_)))
 first | refine aD (hX hI.typeIs (aG ?_)) | refine aD (iA hI.typeIs (aG ?_))
 refine aD (wpAny_fieldsOf J L ?_);have G:Builtin.Dict_items.ownsTuple "dict_keyiterator"=false:=by decide
 simp only [G,iL,dH];show wpAny _ _ (if(Value.ref d==Value.none)=true then _ else _) _ _ s;rw [aF (show ¬((Value.ref d==Value.none)=true)from a_)];refine aD (aG (aD (wpAny_dictEntries M j ?_)));rw [aF (22:)];refine aD (aG (aD (wpAny_dictEpoch M j ?_)));rw [aF (22:)];refine aG ?_;simp only [show ¬(((ents.size:Nat):Int)<0)from by lia,dH,dJ,Array.getElem?_eq_none (8:)];refine aD ?_
 first | refine aD (hX hI.typeIs (aG ?_)) | refine aD (iA hI.typeIs (aG ?_))
 show wpAny _ _ (setField (.ref it) 0 .none>>=_) _ _ s;refine aD (wpAny_setField J L (22:) ?_);show wpAny _ _ (newExc (.type "StopIteration") []>>=_) _ _ _;refine aD ?_;simp only [newExc,newTuple];refine aD (dX ?_ (by size_fits));refine aD (m:=firstArgMember _ _) (wpAny_of_eq (a:=Value.none) (by first | rfl | (simp only [firstArgMember];rfl)) ?_);refine dX ?_ (by size_fits);simp only [raiseNew];refine aD (wpAny_handled ?_);rw [show A.in1.handled=none from hh];refine aD (aG (wpAny_throw ?_));exact fin _ _ (((Heap.SameBut.update ..).extBut.push _).push _) ⟨_,bQ _ rfl,rfl⟩
theorem Draws.dkeys(hh:A.handled=none)(it d:Addr)(ne:d≠it)(ents:Array DictEntry)(ep:Nat):
 Draws prog w A it [it,d] ents.size (λi v=>∃t,ents[i]?=some t/\v=t.key) (λi h=>h.IsKeyIter it d i ents.size ep/\DEn h d ents ep) where
 live:=λ_ _ st=>let⟨o,j,_⟩:=st.1;⟨o,j⟩
 frame:=λ_ _ _ st J=>⟨let⟨o,j,r⟩:=st.1;⟨o,J it (22:) o j,r⟩,let⟨o,j,r⟩:=st.2;⟨o,J d (22:) o j,r⟩⟩
 item:=λi s Q E hi st L=>by
  refine RQ st.1 st.2 (t:=ents[i]) (by simp [hi]) λh' G F=>?_;exact L _ h' s.toks ⟨_,by simp [hi],rfl⟩ ⟨G,let⟨o,j,r⟩:=st.2;⟨o,(F.2 d ne).trans j,r⟩⟩ F
 done:=λs Q E st hE=>MK hh st.1 st.2 hE
set_option maxHeartbeats 1000000 in
theorem NK(d:Addr)(ob:Obj)(ents:Array DictEntry)(ep:Nat)(lo:(d==sysModules)=false):
 Meets (Builtin.«enumerate.__new__» ⟨[.type "enumerate",.ref d],[]⟩) (λ_ R s=>s.heap.get? d=some ob/\DEn s.heap d ents ep/\
  R (.ok (.ret (.ref (s.heap.push { cls:=.type "dict_keyiterator",data:=.fields #[.ref d,.int 0 0,.int ents.size 0,.int ep 0] }).objs.size)))
   { s with heap:=(s.heap.push { cls:=.type "dict_keyiterator",data:=.fields #[.ref d,.int 0 0,.int ents.size 0,.int ep 0] }).push { cls:=.type "enumerate",data:=.fields #[.none,.bool false,.ref s.heap.objs.size,rawInt 0,.none,.none] } }):=
 .of_wp λprog w A R s h=>by
  obtain⟨hp,g,F,tk,G⟩:=s;obtain⟨hl,hD,h⟩:=h;have j:=sub_enumerate
  wp_walk using wpAny_loadPart' hl
  refine wpAny_stack_any λst=>aG ?_;split
  .rename_i c _ _ _ _ _;cases (c==Value.type "enumerate")
   .wp_walk using wpAny_loadPart' hl,XD lo hD
    exact⟨_,rfl,h⟩
   .wp_walk using wpAny_loadPart' hl,XD lo hD
    exact⟨_,rfl,h⟩
  .wp_walk using wpAny_loadPart' hl,XD lo hD
   exact⟨_,rfl,h⟩
theorem Nf(lo:(d==sysModules)=false)(g:s.heap.get? d=some ob)(hD:DEn s.heap d ents ep)
 (h:∀h',IsEnum h' (s.heap.objs.size+1) s.heap.objs.size 0 .none->h'.IsKeyIter s.heap.objs.size d 0 ents.size ep->(∀b o,s.heap.get? b=some o->h'.get? b=some o)->Q (.ref (s.heap.objs.size+1)) { s with heap:=h' }):
 wpAny (model prog w) A (call (.type "enumerate") [.ref d]) Q E s:=by
 refine callType_new F.called_enumerate (9:) (F.typeCall_enumerate_1 _) (F.newCall_enumerate_1 _) (λj=>F.args_object_init_2 j _) F.entry_enumerate_new (NK d ob ents ep lo) ⟨g,hD,?_⟩;have hz:(s.heap.push { cls:=.type "dict_keyiterator",data:=.fields #[.ref d,.int 0 0,.int ents.size 0,.int ep 0] }).objs.size=s.heap.objs.size+1:=fU ..;show _/\_;rw [hz];have G:IsEnum ((s.heap.push { cls:=.type "dict_keyiterator",data:=.fields #[.ref d,.int 0 0,.int ents.size 0,.int ep 0] }).push
  { cls:=.type "enumerate",data:=.fields #[.none,.bool false,.ref s.heap.objs.size,rawInt 0,.none,.none] }) (s.heap.objs.size+1) s.heap.objs.size 0 .none:=by
  have:=bQ (s.heap.push { cls:=.type "dict_keyiterator",data:=.fields #[.ref d,.int 0 0,.int ents.size 0,.int ep 0] })
   (o:={ cls:=.type "enumerate",data:=.fields #[.none,.bool false,.ref s.heap.objs.size,rawInt 0,.none,.none] }) rfl
  rw [hz]at this;exact this
 exact⟨⟨_,G,rfl⟩,h _ G ⟨_,aT _ (bQ _ rfl),rfl,rfl⟩ λb o x=>aT _ (aT _ x)⟩
end
def ItE(d:Addr)(o:Obj)(kvs:List (Key×V)):It:=
 ⟨λi H=>H d=some (.frz o (.dK kvs))/\i<kvs.length,λi H x H'=>∃p k v,H p=none/\x=.ref p/\H'=upd H p (.tup [.int (i:Int),kV k])/\kvs[i]?=some (k,v),λi H=>H d=some (.frz o (.dK kvs))/\i=kvs.length⟩
theorem NW{es:List DictEntry}{vs:List (Key×Value)}(h:Pairs (QH P w) es vs):∀{i:Nat}{k:Key}{u:Value},vs[i]?=some (k,u)->∃t,es[i]?=some t/\(QH P w).is k t.key=true:=by
 induction h with
 | nil=>intro i k u e;simp at e
 | @cons e F es kvs h1 h2 G j=>
  intro i k u q;cases i with
  | zero=>
   simp at q;subst q;exact⟨e,rfl,h1⟩
  | succ i=>exact j (by simpa using q)
theorem GU{K:Fg}{es:Array DictEntry}(he:o.data=.dict es ep)(kvs:List (Key×V))(e it:Addr)(hei:e≠it):
 Turn P w K (.Tuple elts k1 pos) (ItE d o kvs) [e,it] e (λi h=>(∃old,IsEnum h e it (i:Nat) old)/\h.IsKeyIter it d i kvs.length ep) where
 mem:=by simp
 obj:=λi h st c G=>by
  obtain⟨⟨old,he⟩,hi⟩:=st;simp only [aQ,cG,bN]at G;rcases G with rfl | rfl
  .exact⟨_,he,λv z=>by have z':Data.fields _=Data.cell v:=z;cases z'⟩
  .obtain⟨o,g,c,d⟩:=hi;exact⟨o,g,λv z=>by rw [d]at z;cases z⟩
 keep:=λi h h' st k=>by
  obtain⟨⟨old,he⟩,hi⟩:=st;exact⟨⟨old,k e (22:) _ he⟩,let⟨o,ho,r⟩:=hi;⟨o,k it (22:) o ho,r⟩⟩
 item:=by
  intro X hP hw hK G i pins s σ H E I hf st hg;subst hP hw hK;obtain⟨⟨old,L⟩,hi⟩:=st;obtain⟨hd,ac⟩:=hg;obtain⟨J,vs,U,o2,aj,g2,ad,M,_,Y,_⟩:=UL I.hok hd he;rw [J]at g2;cases g2;rw [he]at M;cases M;have ek:kvs[i]?=some (kvs[i].1,kvs[i].2):=aE ac;obtain⟨u,hu,ru⟩:=KV.at U ek;obtain⟨t,ht,ag⟩:=NW Y hu;have aa:es.size=kvs.length:=by
   have e1:=Y.length;have e2:es.toList.length=es.size:=by simp
   have e3:=U.length;lia
  have hD:DEn s.heap d es ep:=⟨o,J,ad,he⟩;rw [<-aa]at hi;have ak:d≠e:=λz=>by
   subst z;have hE:s.heap.get? d=some _:=L;rw [hE]at J;cases J;exact absurd he (22:)
  have al:d≠it:=λz=>by
   subst z;obtain⟨oi,gi,ci,di⟩:=hi;rw [gi]at J;cases J;rw [di]at he;cases he
  have am:i<es.size:=by lia
  refine wpAny_pyNext_enum_itemD (Draws.dkeys (prog:=X.prog) (w:=X.w) (A:=X.A.in1) (I.ok.hd G) it d al es ep) L ⟨hi,hD⟩ am hei (by simp only [aQ,cG,bN,not_or];exact⟨hei,bW ak⟩) λy h' tk hy ho an ao ay hk=>?_;obtain⟨t2,ap,rfl⟩:=hy;have aq:t2=t:=by
   have:es[i]?=some t:=by simpa using ht
   exact aK (ap.symm.trans this)
  subst aq;refine⟨.ref s.heap.objs.size,rfl,wpAny_letOwnedTupleGo_enum (s:={ s with heap:=h',toks:=tk+1 }) ho λar ai ae=>?_⟩;have lt:∀{c o},s.heap.get? c=some o->c≠s.heap.objs.size:=λg=>aY (aN g);have as:s.heap.objs.size≠e:=bW (lt L);have rk:RelV (kV kvs[i].1) t2.key:=by
   rcases Q4 ag with⟨j,t,e1,e2⟩ | ⟨x,t,e1,e2⟩
   .rw [e1];exact⟨t,e2⟩
   .rw [e1];exact⟨t,e2⟩
  have I2:Inv X pins σ (upd H s.heap.objs.size (.tup [.int (i:Int),kV kvs[i].1])) { s with heap:=ar,toks:=tk+1 }:=by
   refine I.turnedNew (ch:=[e,it]) (λc o G g=>?_) hf (8:) ⟨by show 2<=sizeLine;decide,[.int (i:Int) tk,t2.key],.cons ⟨tk,rfl⟩ (.cons rk .nil),⟨_,(ae.2 _ as).trans ao,rfl,_,rfl⟩⟩;simp only [aQ,cG,bN,not_or]at G;exact(ae.2 c G.1).trans (hk c o G.1 G.2 g)
  have au:∀c∈[e,it],upd H s.heap.objs.size (.tup [.int (i:Int),kV kvs[i].1]) c=none:=λc G=>by
   have:c≠s.heap.objs.size:=by
    have ab:=G;simp only [aQ,cG,bN]at ab;rcases ab with rfl | rfl
    .exact lt L
    .obtain⟨o,g,_⟩:=hi;exact lt g
   rw [Qi this];exact(hf c G).1
  have af:=an.1;rw [aa]at af;exact⟨.ref s.heap.objs.size,_,I2,rfl,⟨s.heap.objs.size,_,_,I.fresh,rfl,rfl,ek⟩,⟨⟨_,ai⟩,let⟨o3,h3,r3⟩:=af;⟨o3,(ae.2 it (bW hei)).trans h3,r3⟩⟩,au⟩
 done:=by
  intro X hP hw hK G i pins s σ H E I hf st hg;subst hP hw hK;obtain⟨⟨old,L⟩,hi⟩:=st;obtain⟨hd,ac⟩:=hg;obtain⟨J,vs,U,o2,aj,g2,ad,M,_,Y,_⟩:=UL I.hok hd he;rw [J]at g2;cases g2;rw [he]at M;cases M;subst ac;have aa:es.size=kvs.length:=by
   have e1:=Y.length;have e2:es.toList.length=es.size:=by simp
   have e3:=U.length;lia
  have hD:DEn s.heap d es ep:=⟨o,J,ad,he⟩;rw [<-aa]at hi;have hT:s.TypeIs (.ref e) "enumerate":=⟨_,L,rfl⟩;unfold pyNext;refine aD (wpAny_attempt (fW (name:=Str.ofString "__next__") hT iG (fC iG hT F.entry_enumerate_next ?_ (F.args_enumerate_next_1 _))));show wpAny _ _ (field (.ref e) 2>>=_) _ _ _;refine aD (wpAny_field L rfl (x:=.ref it) rfl ?_);refine aD (MK (A:=X.A.in1) (I.ok.hd G) hi hD λh' y av hy=>?_);obtain⟨ox,aw,ax⟩:=hy;refine aD (wpAny_isInstance (T:="StopIteration") (b:=true) ⟨ox,aw,ax⟩ isSubtype_stop ?_);refine aG ⟨rfl,I.turnedL (t':=s.toks) (ch:=[e,it]) (λc u ab g=>av c u (λz=>ab (by rw [z];simp)) g) hf⟩
 self:=λ_ _ _ _ _ st h=>wpAny_pyIter_enum st.1.choose_spec h
def Bu(ta:TA):TI:=λσ H R=>ta σ H λvs H1=>∃d kvs,vs=[.ref d]/\H1 d=some (.dK kvs)/\∀o,R (ItE d o kvs) (upd H1 d (.frz o (.dK kvs)))
theorem OZ{ta:TA}{p:Pos}(hg:Gl X "enumerate")(hm:X.mg "enumerate"=none)(ha:PA X [e1] ta)(hb:bootBuiltins "enumerate"=some (.type "enumerate"):=by decide+kernel)(hs:starEach [e1] X.env=[(false,eval e1 X.env)]:=by rfl):
 PI X (.Tuple elts k1 tpos) (.Call (.Name "enumerate" p) [e1] [] pos) (Bu ta):=by
 intro pins s σ H R I h;refine Call_ (YT I hg hm hb (fJ (thn (ha pos pins s σ H _ I h) λus j ⟨vs,H1,L,r1,q1⟩=>?_) hs rfl));obtain⟨d,kvs,ev,M,q⟩:=q1;subst ev;cases r1 with
 | cons r rr=>
  cases rr;obtain rfl:_=Value.ref d:=r;obtain⟨z,ne,vs,U,o,es,ep,G,ext,Y,kk,aa,nd⟩:=MC L.hok M;have ab:es.size=kvs.length:=by
   have e1:=aa.length;have e2:es.toList.length=es.size:=by simp
   have e3:=U.length;lia
  refine Nf ne G ⟨o,G,ext,Y⟩ λh' he hi hk=>?_;refine wpAny_pyIter_enum he ?_;have J:=L.freeze M G;have I3:Inv X pins σ (upd H1 d (.frz o (.dK kvs))) { j with heap:=h' }:=J.kept (t':=j.toks) hk;rw [ab]at hi;refine⟨j.heap.objs.size+1,[j.heap.objs.size+1,j.heap.objs.size],_,_,_,rfl,I3,GU Y kvs (j.heap.objs.size+1) j.heap.objs.size (nne (10:)),⟨⟨_,he⟩,hi⟩,λc hc=>?_,q o⟩;have F:@LE.le Nat _ j.heap.objs.size c:=by
   simp only [aQ,cG,bN]at hc;rcases hc with rfl | rfl<;>lia
  exact J.fpOk F (J.hok.fresh F)
theorem Oo{K:Fg}{Q:Hp->Prop}(Pv:Nat->List V->Hp->Prop)(h0:Pv 0 [] (upd H1 acc (.lst [])))(hl:∀i ys H,i<=kvs.length->Pv i ys H->H d=some (.frz o (.dK kvs)))
 (hs:∀(i:Nat)(k:Key)(v:V)(p:Addr)(ys:List V)(H:Hp),i<kvs.length->kvs[i]?=some (k,v)->H p=none->Pv i ys H->tt (some (.int (i:Int))::some (kV k)::cs) (upd H p (.tup [.int (i:Int),kV k])) (GC kvs.length Pv acc i te (some (.int (i:Int))::some (kV k)::cs))) (hd:∀ys H,Pv kvs.length ys H->Q H):
 Jh (ItE d o kvs) 2 cs (Lw K 2 (Ye (Zq 0) (Ye (Zq 1) LA))) tt te H1 acc Q:=by
 refine Zj (N:=kvs.length) Pv h0 (λys H p=>?_) λi ys H hi p=>?_
 .exact⟨⟨hl _ _ _ (8:) p,rfl⟩,hd ys H p⟩
 .refine⟨⟨hl _ _ _ (cD hi) p,hi⟩,?_⟩;rintro x F ⟨q,k,v,hp,rfl,rfl,j⟩ G has;obtain⟨J,L,rfl⟩:=Vh has;exact⟨q,[.int (i:Int),kV k],rfl,SqT.of Qb,rfl,_,[kV k],rfl,kV k,[],rfl,rfl,⟨[some _,some (kV k)],rfl,rfl⟩,hs i k v q ys _ hi j hp p⟩
theorem Oz{Q:Hp->Prop}(Pv:Nat->List V->Hp->Prop)(h0:Pv 0 [] (upd H1 acc (.lst [])))(hl:∀i ys H,i<=kvs.length->Pv i ys H->H d=some (.frz o (.dK kvs)))
 (hs:∀(i:Nat)(k:Key)(v:V)(ys:List V)(H:Hp),i<kvs.length->kvs[i]?=some (k,v)->Pv i ys H->tt (some v::cs) H (GC kvs.length Pv acc i te (some v::cs))) (hd:∀ys H,Pv kvs.length ys H->Q H):
 Jh (BM d o kvs) 1 cs (Zq 0) tt te H1 acc Q:=by
 refine Zj (N:=kvs.length) Pv h0 (λys H p=>?_) λi ys H hi p=>?_
 .exact⟨⟨hl _ _ _ (8:) p,bX _⟩,hd ys H p⟩
 .refine⟨⟨hl _ _ _ (cD hi) p,hi⟩,?_⟩;rintro x J ⟨rfl,k,F⟩ G has;obtain⟨j,rfl⟩: ∃j,G=[j]:=fZ.mp has;exact⟨⟨[some x],rfl,rfl⟩,hs i k x ys _ hi F p⟩
end L2
namespace K12
open PySem L2 K3 TM K9
abbrev ZR:=V×RuN
def RuZ(K:Fg)(H:Hp)(zz:List ZR):Prop:=∀x∈zz,RuV K H x.1 x.2
def YK(ms:List (5:))(m:List Nat):List (5:):=if m∈ms then ms else ms++[m]
def omz(zz:List ZR):List (5:):=zz.foldl (λms x=>YK ms x.2.m) []
def grp(zz:List ZR)(m:List Nat):List ZR:=zz.filter λx=>decide (x.2.m=m)
theorem YU(zz:List ZR)(x:ZR):omz (zz++[x])=YK (omz zz) x.2.m:=by unfold omz;rw [iM];rfl
theorem US(zz:List ZR)(x:ZR)(m:List Nat):grp (zz++[x]) m=if x.2.m=m then grp zz m++[x]else grp zz m:=by
 unfold grp;rw [gU]
 by_cases e:x.2.m=m
 .rw [aH e];simp [e]
 .rw [aF e];simp [e]
theorem SN{ms:List (5:)}{m:List Nat}(h:ms.Nodup):(YK ms m).Nodup:=by
 unfold YK;split
 .exact h
 .rename_i hn;rw [fO];exact⟨h,by simp,λa j b F=>by rw [bD.mp F];exact λz=>hn (z ▸ j)⟩
theorem PZ{ms:List (5:)}{m x:List Nat}:x∈YK ms m↔x∈ms\/x=m:=by
 unfold YK;split
 .rename_i h;exact⟨.inl,λz=>z.elim id λe=>by rw [e];exact h⟩
 .rw [aW,bD]
theorem YB{α:Type}{p:List α->Prop}(h0:p [])(hs:∀l x,p l->p (l++[x]))(l:List α):p l:=by
 have:∀n:Nat,∀l:List α,l.length=n->p l:=λn=>by
  induction n with
  | zero=>intro l hl;rw [fX.mp hl];exact h0
  | succ n F=>
   intro l hl;have j:l≠[]:=λz=>by rw [z]at hl;cases hl
   rw [<-List.dropLast_concat_getLast j];exact hs _ _ (F _ (by rw [List.length_dropLast,hl];rfl))
 exact this _ l rfl
theorem Lh(zz:List ZR):(omz zz).Nodup:=by
 refine YB (p:=λzz=>(omz zz).Nodup) (by exact List.nodup_nil) (λl x h=>?_) zz;rw [YU];exact SN h
theorem ML{zz:List ZR}{m:List Nat}:m∈omz zz↔ ∃x∈zz,x.2.m=m:=by
 refine YB (p:=λzz=>m∈omz zz↔ ∃x∈zz,x.2.m=m) ?_ (λl x h=>?_) zz
 .exact⟨λz=>(nomatch z),λ⟨x,j,_⟩=>(nomatch j)⟩
 .rw [YU,PZ,h];constructor
  .rintro(⟨y,hy,e⟩ | e)
   .exact⟨y,cU _ hy,e⟩
   .exact⟨x,bV _ aL,e.symm⟩
  .rintro⟨y,hy,e⟩;rcases aW.mp hy with hy | hy
   .exact .inl ⟨y,hy,e⟩
   .obtain rfl:=bD.mp hy;exact .inr e.symm
theorem Nb(zz:List ZR):(omz zz).length<=zz.length:=by
 refine YB (p:=λzz=>(omz zz).length<=zz.length) (8:) (λl x h=>?_) zz;rw [YU,aI];unfold YK;split
 .simp;lia
 .rw [aI];simp;lia
theorem BV{zz:List ZR}{m:List Nat}(h:m∈omz zz):grp zz m≠[]:=λz=>by
 obtain⟨x,j,e⟩:=ML.mp h;have:x∈grp zz m:=dF.mpr ⟨j,aV e⟩;rw [z]at this;cases this
theorem L9{zz:List ZR}{m:List Nat}{x:ZR}(h:x∈grp zz m):x∈zz/\x.2.m=m:=by
 obtain⟨h1,h2⟩:=dF.mp h;exact⟨h1,b_ h2⟩
theorem RuZ.ru{K:Fg}{zz:List ZR}(h:RuZ K H zz):RuL K H (zz.map λx=>x.1) (zz.map λx=>x.2):=by
 refine⟨by simp,λi v x e1 e2=>?_⟩;rw [aM]at e1 e2;cases e:zz[i]? with
 | none=>rw [e]at e1;cases e1
 | some y=>
  rw [e]at e1 e2;cases e1;cases e2;exact h y (bC e)
theorem RuZ.mono{K:Fg}{zz:List ZR}(k:∀a xs,SqT K H a xs->SqT K H' a xs)(h:RuZ K H zz):RuZ K H' zz:=λx j=>(h x j).mono k
def rsG(zz:List ZR)(m:List Nat):List RuN:=(grp zz m).map λx=>x.2
def nixS(ms:List (5:))(s:Str):Nat:=ms.findIdx λm=>decide (S m=s)
def Yo(ms:List (5:))(v:V):V:=match v with
 | .str s=>.int (nixS ms s:Int)
 | v=>v
theorem Lz{ms:List (5:)}(hn:ms.Nodup)(h:i<ms.length):nixS ms (S ms[i])=i:=by
 unfold nixS;rw [List.findIdx_eq h];refine⟨aV rfl,λj F=>bM λz=>?_⟩;have:=(eR hn).mp (XV z);lia
theorem P1{K:Fg}{u:HO}(hd:H d=some u)(nu:∀ys,u≠.tup ys)(nf:∀o ys,u≠.frz o (.tup ys))(g:SameX d H H')(h:SqT K H a xs):SqT K H' a xs:=by
 rcases h with(h | ⟨j,h⟩) | h
 .exact .inl (.inl (g _ _ (λz=>by rw [z,hd]at h;exact nu _ (aK h)) h))
 .exact .inl (.inr ⟨j,g _ _ (λz=>by rw [z,hd]at h;exact nf _ _ (aK h)) h⟩)
 .exact .inr h
theorem P0{K:Fg}{u:HO}(hd:H d=some u)(nu:∀ys,u≠.lst ys)(nf:∀o ys,u≠.frz o (.lst ys))(g:SameX d H H')(h:SqL K H a xs):SqL K H' a xs:=by
 rcases h with(h | ⟨j,h⟩) | h
 .exact .inl (.inl (g _ _ (λz=>by rw [z,hd]at h;exact nu _ (aK h)) h))
 .exact .inl (.inr ⟨j,g _ _ (λz=>by rw [z,hd]at h;exact nf _ _ (aK h)) h⟩)
 .exact .inr h
structure Held(K:Fg)(H H':Hp)(d:Addr):Prop where
 sx:SameX d H H'
 qt:∀a xs,SqT K H a xs->SqT K H' a xs
 ql:∀a xs,SqL K H a xs->SqL K H' a xs
theorem Held.melt{K:Fg}(h:H d=some (.frz o (.dK kvs))):Held K H (upd H d (.dK kvs)) d:=
 have g:SameX d H (upd H d (.dK kvs)):=λb u n e=>by rw [Qi n];exact e
 ⟨g,λ_ _ q=>P1 h (λ_ z=>nomatch z) (λ_ _ z=>(by cases z)) g q,λ_ _ q=>P0 h (λ_ z=>nomatch z) (λ_ _ z=>(by cases z)) g q⟩
theorem Held.wood{K:Fg}{w:Addr}(g:Held K H H' d)(h:WoodAt K H w ks):WoodAt K H' w ks:=
 ⟨g.ql _ _ h.1,λk j=>⟨g.qt _ _ (h.2 k j).1,g.ql _ _ (h.2 k j).2.1,λt F=>⟨g.qt _ _ ((h.2 k j).2.2 t F).1,g.qt _ _ ((h.2 k j).2.2 t F).2⟩⟩⟩
theorem Held.modes{K:Fg}(g:Held K H H' d)(h:ModesV K H lm ms):ModesV K H' lm ms:=
 ⟨g.ql _ _ h.1,λm j=>⟨g.qt _ _ (h.2 m j).1,g.ql _ _ (h.2 m j).2.1,(h.2 m j).2.2.mono g.qt⟩⟩
end K12
variable{zz:List K12.ZR}
namespace K12
open PySem L2 K3 TM K9
def InM(ms:List (5:))(t:TV):Prop:=∀m b,(m,b)∈clV t->∃x∈ms,m=.str (S x)
def G2(ks:List KdT)(zz:List ZR)(kd:List Nat->List Nat)(m:List Nat):List TV:=(Qr ks (S (kd m))).map λt=>mpV (Yo (omz zz)) (ruT (rsG zz m) t.2.1)
structure TuOk(ks:List KdT)(k0:Str)(zz:List ZR)(st:TV)(kd:List Nat->List Nat):Prop where
 mo:∀m∈omz zz,MoOk ks (rsG zz m) (kd m)
 rl:∀x∈zz,lv (vN x.2.t)<=9/\sz (vN x.2.t)<=1000/\InM (omz zz) (vN x.2.t)
 stl:lv st<=9/\sz st<=1000/\InM (omz zz) st
 stm:lv (mpV (Yo (omz zz)) st)<=9/\sz (mpV (Yo (omz zz)) st)<=1000
 kp:kpV (mpV (Yo (omz zz)) st)=false
 n40:zz.length<=40
 fit:∀m∈omz zz,RuFit ks ((omz zz).map λm=>S (kd m)) (S (kd m)) (G2 ks zz kd m)
 fst:Yw ((omz zz).map λm=>S (kd m)) [k0] (mpV (Yo (omz zz)) st)
structure NewMs(K:Fg)(H H':Hp)(lm:Addr)(ms:List MvT):Prop where
 n0:H lm=none
 at0:H' lm=some (.lst (ms.map λm=>V.ref m.1))
 md:∀m∈ms,SqT K H' m.1 [.str m.2.1,.ref m.2.2.1]/\H' m.2.2.1=some (.lst m.2.2.2.1)/\H m.2.2.1=none/\TvAll K H' m.2.2.2.1 m.2.2.2.2
theorem NewMs.modes{K:Fg}(h:NewMs K H H' lm ms):ModesV K H' lm ms:=⟨SqL.of h.at0,λm j=>⟨(h.md m j).1,SqL.of (h.md m j).2.1,(h.md m j).2.2.2⟩⟩
def dM(ms:List MvT):List (Str×List TV):=ms.map λm=>(m.2.1,m.2.2.2.2)
def WH(K:Fg):Sp:=λvs H Q _=>∃(w l:Addr)(v:V)(ks:List KdT)(k0:KdT)(zz:List ZR)(st:TV)(kd:List Nat->List Nat),vs=[.ref w,v,.ref l]/\WoodAt K H w ks/\WoodOk ks/\ks[0]?=some k0/\TvV K H v st/\SqL K H l (zz.map λx=>x.1)/\RuZ K H zz/\TuOk ks k0.2.1 zz st kd/\
 ∀(p lw lm:Addr)(v':V)(ks':List KdT)(ms:List MvT)(H':Hp),Same H H'->SqT K H' p [.ref lw,v',.ref lm]->NewWd K H H' lw ks'->dW ks'=dW ks->TvV K H' v' (mpV (Yo (omz zz)) st)->NewMs K H H' lm ms->dM ms=(omz zz).map (λm=>(S (kd m),G2 ks zz kd m))->Q (.ref p) H'
structure ByM(H H':Hp)(bd:Addr)(zz:List ZR)(ps:List (List Nat×Addr)):Prop where
 at_:H' bd=some (.dK (4:))
 nm:(ps.map λp=>p.1)=omz zz
 ls:∀p∈ps,H' p.2=some (.lst ((grp zz p.1).map λx=>x.1))
 nd:(ps.map λp=>p.2).Nodup
 ne:∀p∈ps,p.2≠bd/\H p.2=none
theorem Dv{ms:List (5:)}(h:ms.Nodup):(ms.map S).Nodup:=by
 unfold List.Nodup at*;rw [fB];exact h.imp λj e=>j (XV e)
theorem Bv{ps:List (List Nat×Addr)}(h:(ps.map λp=>p.2).Nodup){p:List Nat×Addr}(hp:p∈ps)(hq:q∈ps)(e:p.2=q.2):p=q:=by
 obtain⟨i,hi,rfl⟩:=cS.mp hp;obtain⟨j,F,rfl⟩:=cS.mp hq;have:(ps.map λp=>p.2)[i]'(by simpa using hi)=(ps.map λp=>p.2)[j]'(by simpa using F):=by rw [bR,bR];exact e
 have:=(eR h).mp this;subst this;rfl
theorem ST{m:List Nat}(h:m∉omz zz):grp zz m=[]:=by
 unfold grp;rw [List.filter_eq_nil_iff];intro x j z;exact h (ML.mpr ⟨x,j,b_ z⟩)
theorem ByM.old{p:Addr}{ps:List (List Nat×Addr)}(h:ByM H H' bd zz ps)(g:Same H H')(hp:H' p=none){x:ZR}(hq:q∈ps)(e:q.1=x.2.m):
 ByM H (upd (upd H' p (.lst [])) q.2 (.lst ((grp zz x.2.m).map (λx=>x.1)++[x.1]))) bd (zz++[x]) ps/\Same H (upd (upd H' p (.lst [])) q.2 (.lst ((grp zz x.2.m).map (λx=>x.1)++[x.1]))):=by
 have M:x.2.m∈omz zz:=by rw [<-h.nm,<-e];exact cJ hq
 have J:=(h.ne q hq).1;refine⟨⟨?_,?_,λr F=>?_,h.nd,h.ne⟩,λb u G=>?_⟩
 .rw [Qi (bW J),Qi (Qg h.at_ hp)];exact h.at_
 .rw [YU,h.nm];unfold YK;rw [aH M]
 .by_cases c:r=q
  .subst c;rw [Qb,US,aH e.symm,aS,e];rfl
  .have U:r.2≠q.2:=λz=>c (Bv h.nd F hq z);have Y:x.2.m≠r.1:=λz=>by
    have L:(ps.map λp=>p.1).Nodup:=by rw [h.nm];exact Lh zz
    obtain⟨i,hi,rfl⟩:=cS.mp F;obtain⟨j,hj,rfl⟩:=cS.mp hq;have:(ps.map λp=>p.1)[i]'(by simpa using hi)=(ps.map λp=>p.1)[j]'(by simpa using hj):=by rw [bR,bR,e,z]
    have:=(eR L).mp this;subst this;exact c rfl
   rw [Qi U,Qi (Qg (h.ls r F) hp),US,aF Y];exact h.ls r F
 .rw [Qi (Qg G (h.ne q hq).2),Qi (Qg (g _ _ G) hp)];exact g _ _ G
theorem ByM.new{p:Addr}{ps:List (List Nat×Addr)}(h:ByM H H' bd zz ps)(g:Same H H')(hb:H bd=none)(hp:H' p=none){x:ZR}(hn:x.2.m∉omz zz):
 ByM H (upd (upd (upd H' p (.lst [])) bd (.dK ((4:)++[(Sum.inr (S x.2.m),.ref p)]))) p (.lst ([]++[x.1]))) bd (zz++[x]) (ps++[(x.2.m,p)])/\Same H (upd (upd (upd H' p (.lst [])) bd (.dK ((4:)++[(Sum.inr (S x.2.m),.ref p)]))) p (.lst ([]++[x.1]))):=by
 have G:p≠bd:=bW (Qg h.at_ hp);have j:H p=none:=by
  cases e:H p with
  | none=>rfl
  | some u=>rw [g _ _ e]at hp;cases hp
 refine⟨⟨?_,?_,λr hr=>?_,?_,λr hr=>?_⟩,λb u F=>?_⟩
 .rw [Qi (bW G),Qb,aS];rfl
 .rw [YU,aS,h.nm];unfold YK;rw [aF hn];rfl
 .rcases aW.mp hr with hr | hr
  .have J:x.2.m≠r.1:=λz=>hn (by rw [<-h.nm,z];exact cJ hr);rw [Qi (Qg (h.ls r hr) hp),Qi (h.ne r hr).1,Qi (Qg (h.ls r hr) hp),US,aF J];exact h.ls r hr
  .obtain rfl:=bD.mp hr;rw [Qb,US,aH rfl,ST hn];rfl
 .rw [aS,fO];refine⟨h.nd,by simp,λa L b hb=>?_⟩;obtain⟨r,hr,rfl⟩:=aP.mp L;obtain rfl:b=p:=by simpa using hb
  exact Qg (h.ls r hr) hp
 .rcases aW.mp hr with hr | hr
  .exact h.ne r hr
  .obtain rfl:=bD.mp hr;exact⟨G,j⟩
 .rw [Qi (Qg F j),Qi (Qg F hb),Qi (Qg F j)];exact g _ _ F
section
variable{K:Fg}{fd:FuncData}
theorem Yz:FnScope ["wood","start","rules","own","by_modes","rule","numbers","modes","term"] ["wood","start","rules"] (defScope LM):=(0:)
theorem OG(F:Fun K "turning_of" "turning_of" LM f fd)(GA:GmA mg)(ROW:Fn P w K mg base 1 "own_wood" ["wood"] (Ld K))(RMO:Fn P w K mg base 12 "mode_of" ["wood","numbers","rules"] (WO K))(RN:Fn P w K mg base 11 "numbered" ["term","numbers"] (Vj K))(RIS:Fn P w K mg base 13 "is_sound" ["wood","start","modes"] (Oe K)):FnOk P w K mg base CX0 14 f fd ["wood","start","rules"] (WH K):=by
 refine F.ok Yz (14:) (λbu A bq s H vs Q E hr h=>?_)
 .obtain⟨wd,l,v,ks,k0,G,st,kd,rfl,_⟩:=h
  rfl
 obtain⟨wd,l,v,ks,k0,G,st,kd,rfl,hW,hO,bg,hv,hl,hZ,hT,q⟩:=h;refine⟨_,(Qd (Qm (i:=3) Yz.nd rfl (cB rfl) (Qs ROW hr (Qa (pv 0) Qc)))
  (Qd (Qm (i:=4) Yz.nd rfl (7:) O3)
  (Qd (Ze bS rfl (QZ (pv 2)) (Qz (i:=5) Yz.nd rfl (7:)) (Qh (QS (Zi bY cE cF QM (Zi iC PySem.F.slot_dict_setdefault PySem.F.type_dict_setdefault XQ (pv 4) (Qa (Qk Qp (pv 5) Qf (λ_ _=>rfl)) (Qa (Q0 Qc) Qc))) (Qa (pv 5) Qc)))))
  (Qd (L7 (Qm (i:=6) Yz.nd rfl (cB rfl) (QE (ZB rfl) rfl GA.dict eY (Qa (QY (CompG.many (xs:=["number","mode"]) (caps:=[]) (cap:=[]) (cs:=[]) rfl rfl (1:) (1:) (1:) (1:) (1:) (1:) rfl rfl rfl) rfl (OZ rfl GA.enu (Qa (pv 4) Qc)) (Ji (CompG.many (xs:=["number","mode"]) (caps:=[]) (cap:=[]) (cs:=[]) rfl rfl (1:) (1:) (1:) (1:) (1:) (1:) rfl rfl rfl) rfl) (λ_ _ _ _=>Zg) (λ_ _ _ _=>(QF (Qa (pv 1) (Qa (pv 0) Qc))))) Qc))))
  (Qd (L7 (WY (i:=7) (CompG.many (xs:=["its_rules"]) (caps:=["numbers","own"]) (cap:=[6,3]) (cs:=[_,_]) rfl rfl (1:) (1:) (1:) (1:) (1:) (1:) rfl rfl rfl) rfl (Oj (Se iC PySem.F.slot_dict_values PySem.F.type_dict_values N4 (pv 4))) (UU (CompG.many (xs:=["its_rules"]) (caps:=["numbers","own"]) (cap:=[6,3]) (cs:=[_,_]) rfl rfl (1:) (1:) (1:) (1:) (1:) (1:) rfl rfl rfl)) (λ_ _ _ _=>Zg) (λ_ _ _ _=>Qs RMO hr (Qa (pv 2) (Qa (pv 1) (Qa (pv 0) Qc)))) Yz.nd rfl rfl))
  (Qd (Qm (i:=8) Yz.nd rfl (7:) (Qs RN hr (Qa (pv 1) (Qa (pv 6) Qc))))
  (Qd (QC (Ya (Q8 (Qs RIS hr (Qa (pv 3) (Qa (pv 8) (Qa (pv 7) Qc)))))) QJ Qt)
  (Qh (Qn (QF (Qa (pv 3) (Qa (pv 8) (Qa (pv 7) Qc))))))))))))),?_⟩
 try dsimp only [QW,Cx.nox]
 refine L2.let7 ?_
 intros
 have br:=hT.n40;refine⟨_,rfl,wd,ks,rfl,hW,(by have:=hO.len;lia),λlw H1 af g1 hN aa=>?_⟩;have bt:H1 lw≠none:=by rw [hN.at0];exact λz=>nomatch z
 refine λJ ag=>?_;have s1:=Qe ag (.dK []);refine⟨_,rfl,l,rfl,⟨_,s1.seq (g1.seq hl)⟩,?_⟩;refine Zn (K:=K) (xs:=G.map λx=>x.1) (λi σ H'=>∃(c5:Option V)(ps:List (List Nat×Addr)),σ=[some (.ref wd),some v,some (.ref l),some (.ref lw),some (.ref J),c5,none,none,none]/\ByM H1 H' J (G.take i) ps/\Same H1 H')
  ⟨none,[],rfl,⟨Qb,rfl,λp hp=>(nomatch hp),List.nodup_nil,λp hp=>(nomatch hp)⟩,s1⟩ ?_ ?_ ?_
 .rintro i σ H' _ ⟨_,_,_,_,g2⟩;exact g2.seq (g1.seq hl)
 .rintro i x σ H' M ⟨c5,ps,rfl,U,g2⟩;have hi:i<G.length:=by have:=(bT.mp M).1;rw [aA]at this;exact this
  obtain rfl:x=G[i].1:=by
   rw [aM,aE hi]at M;exact(aK M).symm
  obtain⟨a,tv,ea,h1,h2⟩:=(hZ G[i] (aO hi)).ex;have az:G.take (i+1)=G.take i++[G[i]]:=by rw [bE,aE hi];rfl
  have ao:ps.length<=40:=by
   have e1:=congrArg List.length U.nm;rw [aA]at e1;have e2:=Nb (G.take i);rw [bH]at e2;lia
  have bh:∀m,(grp (G.take i) m).length<=40:=λm=>by
   have e1:=List.length_filter_le (λx:ZR=>decide (x.2.m=m)) (G.take i);have e2:(G.take i).length<=40:=by rw [bH];lia
   unfold grp;lia
  refine⟨_,rfl,.inr (.inr (.inl ⟨rfl,.inl ⟨_,U.at_⟩⟩)),_,(by rw [ea];rfl),a,_,0,_,rfl,rfl,(g1.trans g2).seqT h1,rfl,⟨(20:),λp hp=>⟨J,_,Sum.inr (S G[i].2.m),.ref p,rfl,rfl,(by rw [Qi (Qg U.at_ hp)];exact U.at_),(by rw [aA];exact cK ao (9:)),λu hu=>?_,λhn=>?_⟩⟩⟩
  .rw [YA (λp:List Nat×Addr=>S p.1) (λp=>V.ref p.2) _ ps]at hu;cases e:ps.find? λp=>decide (S p.1=S G[i].2.m)with
   | none=>rw [e]at hu;cases hu
   | some r=>
    rw [e]at hu;cases hu;have hr:=eJ e;have er:r.1=G[i].2.m:=XV (b_ (List.find?_some (p:=λp:List Nat×Addr=>decide (S p.1=S G[i].2.m)) e));have ap:=U.ls r hr;rw [er]at ap;have ad:upd H' p (.lst []) r.2=some (.lst ((grp (G.take i) G[i].2.m).map λx=>x.1)):=by rw [Qi (Qg ap hp)];exact ap
    refine⟨.inl ⟨rfl,_,SqL.of ad⟩,_,(by rw [ea];rfl),r.2,_,G[i].1,rfl,(by rw [ea]),ad,(by rw [aA];exact cK (bh _) (9:)),?_⟩;obtain⟨k1,k2⟩:=U.old g2 hp hr er (x:=G[i]);exact⟨_,ps,rfl,by rw [az];exact k1,k2⟩
  .have bi:G[i].2.m∉omz (G.take i):=λz=>hn (by
    rw [<-U.nm]at z;obtain⟨r,hr,er⟩:=aP.mp z;rw [aZ];exact aP.mpr ⟨r,hr,by show(Sum.inr (S r.1):Key)=_;rw [er]⟩)
   have bj:p≠J:=bW (Qg U.at_ hp);have ad:upd (upd H' p (.lst [])) J (.dK ((4:)++[(Sum.inr (S G[i].2.m),.ref p)])) p=some (.lst []):=by rw [Qi bj,Qb]
   refine⟨.inl ⟨rfl,_,SqL.of ad⟩,_,(by rw [ea];rfl),p,_,G[i].1,rfl,(by rw [ea]),ad,(9:),?_⟩;obtain⟨k1,k2⟩:=U.new g2 ag hp bi (x:=G[i]);exact⟨_,_,rfl,by rw [az];exact k1,k2⟩
 .rintro σ H2 ⟨c5,ps,rfl,U,g2⟩;rw [aA,bP]at U;have ao:ps.length=(omz G).length:=by rw [<-U.nm,aA]
  have bv:(omz G).length<=40:=by have:=Nb G;lia
  have a0:∀(i:Nat)(h:i<ps.length)(h2:i<(omz G).length),ps[i].1=(omz G)[i]:=λi h h2=>by
   have e1:(ps.map λp=>p.1)[i]'(by simpa using h)=(omz G)[i]:=by congr 1;exact U.nm
   rw [bR]at e1;exact e1
  have a1:=U.at_;refine⟨J,_,a1,?_⟩;refine⟨_,rfl,J,_,rfl,a1,λo acc ak=>?_⟩;have gF:Same H1 (upd H2 J (.frz o (.dK (4:)))):=λb u e=>by rw [Qi (Qg e ag)];exact g2 _ _ e
  have bF:upd H2 J (.frz o (.dK (4:))) J=some (.frz o (.dK (4:))):=Qb;have lF:∀p∈ps,upd H2 J (.frz o (.dK (4:))) p.2=some (.lst ((grp G p.1).map λx=>x.1)):=λp hp=>by rw [Qi (U.ne p hp).1];exact U.ls p hp
  generalize upd H2 J (.frz o (.dK (4:)))=F1 at gF bF lF ak ⊢;refine Oo (K:=K) (cs:=[]) (tt:=λ_ H Q=>Q true H) (λj ys H'=>∃L:List (Addr×Str×V),ys=L.map (λt=>V.ref t.1)/\L.length=j/\H' acc=some (.lst ys)/\Same F1 H'/\(∀t∈L,SqT K H' t.1 [.str t.2.1,t.2.2])/\∀(i:Nat)(h:i<L.length)(h2:i<(omz G).length),L[i].2=(S (omz G)[i],.int (i:Int)))
   ⟨[],rfl,rfl,Qb,Qe ak _,λt ht=>(nomatch ht),λi h=>(nomatch h)⟩ ?_ ?_ ?_
  .rintro j ys H' _ ⟨_,_,_,_,g3,_⟩;exact g3 _ _ bF
  .rintro j k u p ys H' hj M hp ⟨L,rfl,al,hy,g3,aq,am⟩;rw [aA]at hj;rw [aM,aE hj]at M;cases M;have s4:=Qe hp (.tup [.int (j:Int),kV (Sum.inr (S ps[j].1))]);generalize upd H' p (.tup [.int (j:Int),kV (Sum.inr (S ps[j].1))])=X4 at s4 ⊢;refine Q2 ⟨_,rfl,_,rfl,(18:),λp5 bm=>?_⟩;have s5:=Qe bm (.tup [kV (Sum.inr (S ps[j].1)),.int (j:Int)]);have b5:upd X4 p5 (.tup [kV (Sum.inr (S ps[j].1)),.int (j:Int)]) p5=some (.tup [kV (Sum.inr (S ps[j].1)),.int (j:Int)]):=Qb;generalize upd X4 p5 (.tup [kV (Sum.inr (S ps[j].1)),.int (j:Int)])=X5 at s5 b5 ⊢;have ar:=s5 _ _ (s4 _ _ hy);rw [aA];refine QI hj ar (by rw [aA];lia) ⟨L++[(p5,S ps[j].1,.int (j:Int))],by simp,by simp [al],Qb,λb u e=>?_,λt ht=>?_,λi h h2=>?_⟩
   .rw [Qi (Qg e ak)];exact s5 _ _ (s4 _ _ (g3 _ _ e))
   .rcases aW.mp ht with ht | ht
    .exact(s5.seqT (s4.seqT (aq t ht))).put ar
    .obtain rfl:=bD.mp ht;exact(SqT.of b5).put ar
   .by_cases c:i<L.length
    .rw [List.getElem_append_left c];exact am i c h2
    .rw [aI,cT]at h;have ei:i=j:=by lia
     subst ei;rw [List.getElem_append_right (10:)];simp only [al,Nat.sub_self,List.getElem_cons_zero];rw [a0 i hj h2]
  rintro ys H3 ⟨L,rfl,al,hy,g3,aq,am⟩;rw [aA]at al;have bc:(L.map λt=>t.2.1)=(omz G).map S:=by
   refine eS (by rw [aA,aA];lia) λi h1 h2=>?_;rw [bR,bR];rw [aA]at h1 h2;exact congrArg Prod.fst (am i h1 h2)
  have a2:(L.map λt=>t.2.1).Nodup:=by rw [bc];exact Dv (Lh G)
  refine⟨acc,L,rfl,SqL.of hy,aq,a2,by lia,λdn a3=>?_⟩;have as:∀t:TV,InM (omz G) t->InN (L.map λt=>((Sum.inr t.2.1:Key),t.2.2)) (Yo (omz G)) t:=λt ht m b hm=>by
   obtain⟨x,M,rfl⟩:=ht m b hm;refine⟨Sum.inr (S x),rfl,?_⟩;obtain⟨i,hi,rfl⟩:=cS.mp M;have a4:i<L.length:=by lia
   have e:=am i a4 hi;have e1:L[i].2.1=S (omz G)[i]:=congrArg Prod.fst e;rw [YA (λt:Addr×Str×V=>t.2.1) (λt=>t.2.2) _ L,<-e1,UK (λt:Addr×Str×V=>t.2.1) L a2 i a4];show some L[i].2.2=some (Yo (omz G) (.str L[i].2.1));rw [e];show some (V.int (i:Int))=some (.int ((nixS (omz G) (S (omz G)[i]):Nat):Int));rw [Lz (Lh G) hi]
  have s4:=Qe a3 (.dK (L.map λt=>((Sum.inr t.2.1:Key),t.2.2)));have b4:upd H3 dn (.dK (L.map λt=>((Sum.inr t.2.1:Key),t.2.2))) dn=some (.dK (L.map λt=>((Sum.inr t.2.1:Key),t.2.2))):=Qb;generalize bw:(L.map λt=>((Sum.inr t.2.1:Key),t.2.2))=kn at as s4 b4 ⊢;have n4:dn≠J:=bW (Qg (g3 _ _ bF) a3);generalize upd H3 dn (.dK kn)=H4 at s4 b4 ⊢;have au:Same F1 H4:=g3.trans s4;refine⟨⟨o,au _ _ bF⟩,?_⟩;have G5:Same H1 (upd H4 J (.dK (4:))):=λb u e=>by rw [Qi (Qg e ag)];exact au _ _ (gF _ _ e)
  have b5:upd H4 J (.dK (4:)) J=some (.dK (4:)):=Qb;have d5:upd H4 J (.dK (4:)) dn=some (.dK kn):=by rw [Qi n4];exact b4
  have l5:∀p∈ps,upd H4 J (.dK (4:)) p.2=some (.lst ((grp G p.1).map λx=>x.1)):=λp hp=>by rw [Qi (U.ne p hp).1];exact au _ _ (lF p hp)
  generalize upd H4 J (.dK (4:))=H5 at G5 b5 d5 l5 ⊢;refine⟨J,_,b5,?_⟩;refine⟨_,rfl,.inr (.inr (.inl ⟨rfl,.inl ⟨_,b5⟩⟩)),J,_,rfl,rfl,b5,λpv a5=>?_⟩;have be:J≠pv:=Qg b5 a5;refine⟨pv,J,_,rfl,Qb,(by rw [Qi be];exact b5),λo Y ac=>?_⟩;have sv:=Qe a5 (ValO pv J);have gG:Same H1 (upd (upd H5 pv (ValO pv J)) J (.frz o (.dK (4:)))):=λb u e=>by rw [Qi (Qg e ag)];exact sv _ _ (G5 _ _ e)
  have bG:upd (upd H5 pv (ValO pv J)) J (.frz o (.dK (4:))) J=some (.frz o (.dK (4:))):=Qb;have dG:upd (upd H5 pv (ValO pv J)) J (.frz o (.dK (4:))) dn=some (.dK kn):=by rw [Qi n4];exact sv _ _ d5
  have lG:∀p∈ps,upd (upd H5 pv (ValO pv J)) J (.frz o (.dK (4:))) p.2=some (.lst ((grp G p.1).map λx=>x.1)):=λp hp=>by rw [Qi (U.ne p hp).1];exact sv _ _ (l5 p hp)
  generalize upd (upd H5 pv (ValO pv J)) J (.frz o (.dK (4:)))=F2 at gG bG dG lG ac ⊢;refine Oz (cs:=[some (.ref dn),some (.ref lw)]) (tt:=λ_ H Q=>Q true H) (λj ys H'=>∃ms:List MvT,ys=ms.map (λm=>V.ref m.1)/\ms.length=j/\H' Y=some (.lst ys)/\Same F2 H'/\(∀m∈ms,SqT K H' m.1 [.str m.2.1,.ref m.2.2.1]/\H' m.2.2.1=some (.lst m.2.2.2.1)/\F2 m.2.2.1=none/\m.2.2.1≠Y/\TvAll K H' m.2.2.2.1 m.2.2.2.2)/\dM ms=((omz G).take j).map (λm=>(S (kd m),G2 ks G kd m)))
   ⟨[],rfl,rfl,Qb,Qe ac _,λt ht=>(nomatch ht),rfl⟩ ?_ ?_ ?_
  .rintro j ys H' _ ⟨_,_,_,_,g6,_⟩;exact g6 _ _ bG
  .rintro j k u ys H' hj M ⟨ms,rfl,av,hy,g6,aw,ae⟩;rw [aA]at hj;rw [aM,aE hj]at M;cases M;have ax:j<(omz G).length:=by lia
   have a6:(omz G)[j]∈omz G:=aO ax;have bn:=a0 j hj ax;have a7:=lG _ (aO hj);rw [bn]at a7;have gg:Same H H':=g1.trans (gG.trans g6);have ai:=hT.mo _ a6;refine Q2 ⟨_,rfl,_,rfl,_,rfl,lw,dn,ps[j].2,kd (omz G)[j],kn,Yo (omz G),af,_,rsG G (omz G)[j],rfl,hN.wood.same (gG.trans g6),K12.WoodOk.dW aa hO,g6 _ _ dG,SqL.of (g6 _ _ a7),RuZ.ru (λx M=>(hZ x (L9 M).1).mono λ_ _=>gg.seqT),?_,?_,λr hr=>?_,λp lt H7 us g7 k1 k2 k3 k4=>?_⟩
   .exact λz=>BV a6 (List.map_eq_nil_iff.mp z)
   .exact⟨ai.kind,λr hr=>by rw [Tc aa];exact ai.row r hr,ai.nd,by rw [Zz aa];exact ai.all,ai.few⟩
   .obtain⟨x,M,rfl⟩:=aP.mp hr;obtain⟨e1,e2,e3⟩:=hT.rl x (L9 M).1;exact⟨e1,e2,as _ e3⟩
   .rw [Zz aa]at k4;have aj:=g7 _ _ hy;have a8:lt≠Y:=λz=>by rw [z,hy]at k2;cases k2
    rw [aA];refine QI hj aj (by rw [aA];lia) ⟨ms++[(p,S (kd (omz G)[j]),lt,us,G2 ks G kd (omz G)[j])],by simp,by simp [av],Qb,λb u e=>?_,λm hm=>?_,?_⟩
    .rw [Qi (Qg e ac)];exact g7 _ _ (g6 _ _ e)
    .rcases aW.mp hm with hm | hm
     .obtain⟨e1,e2,e3,e4,e5⟩:=aw m hm;exact⟨(g7.seqT e1).put aj,(by rw [Qi e4];exact g7 _ _ e2),e3,e4,e5.mono λ_ _ h=>(g7.seqT h).put aj⟩
     .obtain rfl:=bD.mp hm;have hF:F2 lt=none:=by
       cases e:F2 lt with
       | none=>rfl
       | some u=>rw [g6 _ _ e]at k2;cases k2
      exact⟨k1.put aj,(by rw [Qi a8];exact k3),hF,a8,k4.mono λ_ _ h=>h.put aj⟩
    .unfold dM at ae ⊢;rw [aS,ae,bE,aE ax,aS];rfl
  rintro ys H6 ⟨ms,rfl,av,hy,g6,aw,ae⟩;rw [aA]at av;rw [aA,ao,bP]at ae;have b6:=g6 _ _ bG;refine⟨⟨o,b6⟩,?_⟩;have K7:=Held.melt (K:=K) b6;have G7:Same H1 (upd H6 J (.dK (4:))):=λb u e=>by rw [Qi (Qg e ag)];exact g6 _ _ (gG _ _ e)
  have d7:upd H6 J (.dK (4:)) dn=some (.dK kn):=by rw [Qi n4];exact g6 _ _ dG
  generalize upd H6 J (.dK (4:))=H7 at K7 G7 d7 ⊢;have nH:∀a,F2 a=none->H a=none:=λa ha=>by
   cases e:H a with
   | none=>rfl
   | some u=>rw [gG _ _ (g1 _ _ e)]at ha;cases ha
  have nF:∀{a:Addr}{ys:List V},H6 a=some (.lst ys)->a≠J:=λh z=>by rw [z,b6]at h;cases h
  have ay:NewMs K H H7 Y ms:=⟨nH _ ac,K7.sx _ _ (nF hy) hy,λm hm=>by
   obtain⟨e1,e2,e3,e4,e5⟩:=aw m hm;exact⟨K7.qt _ _ e1,K7.sx _ _ (nF e2) e2,nH _ e3,e5.mono K7.qt⟩⟩
  refine⟨_,rfl,_,rfl,v,dn,kn,st,Yo (omz G),rfl,hv.mono (λ_ _=>(g1.trans G7).seqT),hT.stl.1,hT.stl.2.1,d7,as _ hT.stl.2.2,λv' H8 g8 a9=>?_⟩;have ba:mkV ms=(omz G).map λm=>S (kd m):=by
   have:=congrArg (List.map Prod.fst) ae;unfold dM at this;rw [aZ,aZ]at this;exact this
  have bo:∀m∈ms,∃x∈omz G,m.2.1=S (kd x)/\m.2.2.2.2=G2 ks G kd x:=λm hm=>by
   have:(m.2.1,m.2.2.2.2)∈dM ms:=cJ (f:=λm:MvT=>(m.2.1,m.2.2.2.2)) hm;rw [ae]at this;obtain⟨x,M,e⟩:=aP.mp this;exact⟨x,M,(congrArg Prod.fst e).symm,(congrArg Prod.snd e).symm⟩
  obtain⟨an,bf,bp⟩: ∃an:KdT,af[0]?=some an/\an.2.1=k0.2.1:=by
   have:=congrArg (λl=>(l[0]?).map Prod.fst) aa;unfold dW at this;simp only [aM,bg]at this;cases e:af[0]? with
   | none=>rw [e]at this;cases this
   | some k=>rw [e]at this;exact⟨k,rfl,aK this⟩
  have ab:NewWd K H H8 lw af:=by
   have g:=G7.trans g8;exact⟨hN.n0,g _ _ hN.at0,λk hk=>⟨g.seqT (hN.kd k hk).1,g _ _ (hN.kd k hk).2.1,(hN.kd k hk).2.2.1,λt ht=>⟨g.seqT ((hN.kd k hk).2.2.2 t ht).1,g.seqT ((hN.kd k hk).2.2.2 t ht).2⟩⟩⟩
  have bb:∀{X:Hp},Same H8 X->NewMs K H X Y ms:=λgx=>⟨ay.n0,gx _ _ (g8 _ _ ay.at0),λm hm=>by
   obtain⟨e1,e2,e3,e4⟩:=ay.md m hm;exact⟨gx.seqT (g8.seqT e1),gx _ _ (g8 _ _ e2),e3,e4.mono λ_ _ h=>gx.seqT (g8.seqT h)⟩⟩
  refine⟨_,rfl,_,rfl,_,rfl,lw,Y,v',_,af,ms,an,rfl,ab.wood,K12.WoodOk.dW aa hO,bf,(bb (Same.refl _)).modes,by lia,λm hm=>?_,a9,hT.stm.1,hT.stm.2,hT.kp,?_,λH9 g9=>?_⟩
  .obtain⟨x,M,e1,e2⟩:=bo m hm;rw [e1,e2,ba];obtain⟨f1,f2,f3,f4⟩:=hT.fit x M;refine⟨?_,?_,?_,?_⟩<;>first | exact f4 | (simp only [Zz aa];first | exact f1 | exact f2 | exact f3 | exact f4)
  .rw [ba,bp];exact hT.fst
  .refine⟨_,rfl,Q7 ?_⟩;refine⟨_,rfl,_,rfl,_,rfl,(by show 3<=sizeLine;decide),λp hp=>?_⟩;have sp:=Qe hp (.tup [.ref lw,v',.ref Y]);have g:=(g9.trans sp);exact q p lw Y v' af ms _ (g1.trans (G7.trans (g8.trans g))) (SqT.of Qb) ⟨ab.n0,g _ _ ab.at0,λk hk=>⟨g.seqT (ab.kd k hk).1,g _ _ (ab.kd k hk).2.1,(ab.kd k hk).2.2.1,λt ht=>⟨g.seqT ((ab.kd k hk).2.2.2 t ht).1,g.seqT ((ab.kd k hk).2.2.2 t ht).2⟩⟩⟩ aa (a9.mono λ_ _=>g.seqT) (bb g) ae
end
def omR(rs:List RuN):List (5:):=rs.foldl (λms x=>YK ms x.m) []
def rsR(rs:List RuN)(m:List Nat):List RuN:=rs.filter λx=>decide (x.m=m)
theorem omz_R(zz:List ZR):omz zz=omR (zz.map λx=>x.2):=by unfold omz omR;rw [List.foldl_map]
theorem rsG_R(zz:List ZR)(m:List Nat):rsG zz m=rsR (zz.map λx=>x.2) m:=by unfold rsG rsR grp;rw [List.filter_map];rfl
def Jw(ks:List KdT)(rs:List RuN)(kd:List Nat->List Nat)(m:List Nat):List TV:=(Qr ks (S (kd m))).map λt=>mpV (Yo (omR rs)) (ruT (rsR rs m) t.2.1)
theorem tms_R(ks:List KdT)(zz:List ZR)(kd:List Nat->List Nat)(m:List Nat):G2 ks zz kd m=Jw ks (zz.map λx=>x.2) kd m:=by unfold G2 Jw;rw [omz_R,rsG_R]
structure TuR(ks:List KdT)(k0:Str)(rs:List RuN)(st:TV)(kd:List Nat->List Nat):Prop where
 mo:∀m∈omR rs,MoOk ks (rsR rs m) (kd m)
 rl:∀x∈rs,lv (vN x.t)<=9/\sz (vN x.t)<=1000/\InM (omR rs) (vN x.t)
 stl:lv st<=9/\sz st<=1000/\InM (omR rs) st
 stm:lv (mpV (Yo (omR rs)) st)<=9/\sz (mpV (Yo (omR rs)) st)<=1000
 kp:kpV (mpV (Yo (omR rs)) st)=false
 n40:rs.length<=40
 n120:sz st+szR rs<=120
 fit:∀m∈omR rs,RuFit ks ((omR rs).map λm=>S (kd m)) (S (kd m)) (Jw ks rs kd m)
 fst:Yw ((omR rs).map λm=>S (kd m)) [k0] (mpV (Yo (omR rs)) st)
theorem TuR.ok{k0:Str}{st:TV}{kd:List Nat->List Nat}(h:TuR ks k0 (zz.map λx=>x.2) st kd):TuOk ks k0 zz st kd:=by
 constructor
 .intro m j;rw [omz_R]at j;rw [rsG_R];exact h.mo m j
 .intro x F;rw [omz_R];exact h.rl x.2 (cJ F)
 .rw [omz_R];exact h.stl
 .rw [omz_R];exact h.stm
 .rw [omz_R];exact h.kp
 .have:=h.n40;rwa [aA]at this
 .intro m j;rw [omz_R]at j ⊢;rw [tms_R];exact h.fit m j
 .rw [omz_R];exact h.fst
inductive RwL:List RuN->List (5:)->Prop where
 | nil:RwL [] []
 | cons {x:RuN} {rs:List RuN} {a b:List (5:)}:TkR 9 x a->RwL rs b->RwL (x::rs) ([59]::(a++b))
theorem RwL.fol{b:List (5:)}(h:RwL rs b):Fol b:=by
 cases h with
 | nil=>exact Fol.nil
 | cons _ _=>exact Fol.cons ⟨by decide,by decide,by decide⟩
def SXT(T:Addr)(H H':Hp):Prop:=∀b u,b≠T->H b=some u->H' b=some u
def W6(K:Fg)(T:Addr):Sp:=λvs H Q _=>∃(wd:Addr)(z:List Nat)(ws a b:List (5:))(st:TN)(rs:List RuN)(ks:List KdT)(k0:KdT)(kd:List Nat->List Nat),vs=[.ref wd,.str (S z)]/\z.length<=5000/\Writ z ws/\ws=a++b/\Tkt st a/\lv st<=9/\RwL rs b/\WoodAt K H wd ks/\WoodOk ks/\ks[0]?=some k0/\TuR ks k0.2.1 rs (vN st) kd/\Z1 T H/\
 ∀(p lw lm:Addr)(v':V)(ks':List KdT)(ms:List MvT)(H':Hp),SXT T H H'->SqT K H' p [.ref lw,v',.ref lm]->NewWd K H H' lw ks'->dW ks'=dW ks->TvV K H' v' (mpV (Yo (omR rs)) (vN st))->NewMs K H H' lm ms->dM ms=(omR rs).map (λm=>(S (kd m),Jw ks rs kd m))->Z1 T H'->Q (.ref p) H'
theorem TRs.seq{K:Fg}(h:TRs C Ts r H)(g:SXs Ts r H H')(q:SqL K H a xs):SqL K H' a xs:=by
 rcases q with(q | ⟨o,q⟩) | q
 .exact .inl (.inl (h.keep g q (λ_ z=>nomatch z) (λ_ _ _ z=>nomatch z)))
 .exact .inl (.inr ⟨o,h.keep g q (λ_ z=>nomatch z) (λ_ _ _ z=>nomatch z)⟩)
 .exact .inr q
theorem TRs.wood{K:Fg}{w:Addr}(h:TRs C Ts r H)(g:SXs Ts r H H')(q:WoodAt K H w ks):WoodAt K H' w ks:=
 ⟨h.seq g q.1,λk j=>⟨h.seqT g (q.2 k j).1,h.seq g (q.2 k j).2.1,λt F=>⟨h.seqT g ((q.2 k j).2.2 t F).1,h.seqT g ((q.2 k j).2.2 t F).2⟩⟩⟩
section
variable{K:Fg}{fd:FuncData}{c:Addr}
theorem Jz:FnScope ["wood","text","reader","start","rules"] ["wood","text"] (defScope RI):=(0:)
theorem Oy(F:Fun K "read_turning" "read_turning" RI f fd)(TT:RdT K mg C)(M:RdM P w K mg C)(hmb:∃t,mg "MOST_BRACKETS"=some (.int 8 t))
 (mkI:Mk K C fI) (FI:FnOk P w K mg base CX0 6 fI fdI ["self","text"] (GY C)) (bI:Binds K fdI ["self","text"] [])
 (RT:Fn P w K mg base 31 "term_from" ["reader","room"] (Yi K C T 9)) (RR:Fn P w K mg base 32 "rule_from" ["reader"] (WI K C T))
 (RC:Fn P w K mg base 11 "check_numbers" ["start","rules"] (WK K)) (RO:Fn P w K mg base 14 "turning_of" ["wood","start","rules"] (WH K)):FnOk P w K mg base CX0 33 f fd ["wood","text"] (W6 K T):=by
 refine F.ok Jz (14:) (λb3 A b1 s H vs Q E hr h=>?_)
 .obtain⟨wd,z,j,a,b,st,rs,ks,k0,kd,rfl,_⟩:=h
  rfl
 obtain⟨wd,z,j,a,b,st,rs,ks,k0,kd,rfl,hz,hw,af,a8,a9,ar,hW,hO,ba,hT,hZ,q⟩:=h;obtain⟨tk,bb⟩:=hmb;have bc:Room 7 _:=hr.mono (9:);refine⟨_,(Qd (Qm (i:=2) Jz.nd rfl (7:) (SM mkI FI bc rfl TT.mgC bI .nil Mo (Qa (pv 1) Qc)))
  (Qd (Qm (i:=3) Jz.nd rfl (7:) (Qs RT hr (Qa (pv 2) (Qa (Zf (v:=.int 8) rfl bb ⟨_,rfl⟩) Qc))))
  (Qd (Qm (i:=4) Jz.nd rfl (7:) (Q0 Qc))
  (Qd (YS bS (Q8 (Xk (M.ps base) TT.cl hr (pv 2) (Qa (Qj) Qc) (10:))) (Qh (QS (Zi bY cE cF QM (pv 4) (Qa (Qs RR hr (Qa (pv 2) Qc)) Qc)))))
  (Qd (QS (Zp (M.en base) TT.cl hr (pv 2) (10:)))
  (Qd (QS (Qs RC hr (Qa (pv 3) (Qa (pv 4) Qc))))
  (Qh (Qn (Qs RO hr (Qa (pv 0) (Qa (pv 3) (Qa (pv 4) Qc)))))))))))),?_⟩
 try dsimp only [QW,Cx.nox]
 refine L2.let6 ?_
 intros
 have ag:∀u∈j,u.length<=61:=λu hu=>(hw.words u hu).len;have G:=U0 T;have bd:Str.ofString ";"=S [59]:=by decide+kernel
 refine⟨_,rfl,λr dx aa a7 b4=>?_⟩;have s1:Same H (upd (upd H dx (.own r)) r (.ins C dx [])):=λb u e=>by rw [Qi (Qg e aa),Qi (Qg e a7)];exact e
 have ai:upd (upd H dx (.own r)) r (.ins C dx []) r=some (.ins C dx []):=Qb;generalize upd (upd H dx (.own r)) r (.ins C dx [])=H1 at s1 ai;refine⟨r,dx,z,j,rfl,ai,hz,hw,λl H2 g2 as=>⟨rfl,?_⟩⟩;have au:=G.ins _ _ r C dx _ ai g2 (G.sm _ _ s1 hZ);have x2:Same H H2:=λb u e=>g2 _ _ (Qg e aa) (s1 _ _ e);have be:=as.trs G au;refine⟨_,rfl,r,l,j,0,8,st,a,b,rfl,as,ag,bZ _,af,a8,ar.fol,a9,by lia,au,λv H3 x3 U bf av=>?_⟩;have bg:=be.wood x3 (hW.same x2);have bh:SXT T H H3:=λb u n e=>x3 _ _ (by simpa using n) (Qg e aa) (x2 _ _ e);have aw:=U.trs G av;rw [eG]at U;refine⟨(20:),λlt ab=>?_⟩;have s4:=Qe ab (.lst []);have f4:upd H3 lt (.lst []) lt=some (.lst []):=Qb;have ax:=U.same s4;have ay:=G.sm _ _ s4 av;generalize upd H3 lt (.lst [])=H4 at s4 f4 ax ay;have bi:l≠lt:=λz=>by have h1:=U.fl;rw [z,ab]at h1;cases h1
 have bj:r≠lt:=λz=>by
  obtain⟨dx,h1⟩:=U.ins;rw [z,ab]at h1;cases h1
 have ap:∀{H':Hp}{az:List V}{p:Nat},RdAt C H' r l j p->RdAt C (upd H' lt (.lst az)) r l j p:=λ{H' az p} h2=>by
  obtain⟨⟨dx,h5⟩,h6⟩:=h2;exact⟨⟨dx,by rw [Qi bj];exact h5⟩,by rw [Qi bi];exact h6⟩
 have bm:a.length<=j.length:=by rw [af,aI];lia
 have bn:j.drop a.length=b:=by rw [af,List.drop_left]
 have bo:=hT.n40;refine⟨λm aq H'=>∃(J:List ZR)(td:List RuN)(c:List (5:))(p:Nat),aq=[some (.ref wd),some (.str (S z)),some (.ref r),some v,some (.ref lt)]/\rs=(J.map λx=>x.2)++td/\td.length=m/\H' lt=some (.lst (J.map λx=>x.1))/\SXs [T] r H3 H'/\RdAt C H' r l j p/\p<=j.length/\j.drop p=c/\RwL td c/\RuZ K H' J/\Z1 T H',⟨rs.length,[],rs,b,a.length,rfl,rfl,rfl,f4,SXs.of s4,ax,bm,bn,ar,λx hx=>(nomatch hx),ay⟩,?_⟩;rintro m σ H5 ⟨J,td,c,p,rfl,ac,hm,f5,x5,ad,bp,ae,a0,aj,ak⟩;obtain⟨al,am⟩:=ad.ins;have a1:=ad.trs G ak;rw [bd];refine⟨_,rfl,r,al,_,rfl,am,rfl,r,l,j,p,[59],rfl,ad,bp,λbq=>⟨_,rfl,Q7 ?_⟩,λa3 H6 L a4=>⟨_,rfl,Q2 ?_⟩⟩
 .
  have br:td=[]/\c=[]:=by
   cases a0 with
   | nil=>exact⟨rfl,rfl⟩
   | @cons x an a2 b2 h1 h2=>exact absurd (QX (show j.drop p=[59]::(a2++b2)from ae)).1 bq
  obtain⟨rfl,rfl⟩:=br;rw [cC]at ac;subst ac;have bt:p=j.length:=by have:=List.drop_eq_nil_iff.mp ae;lia
  have a5:TvV K H5 v (vN st):=(TnV.mono (λ_ _ h=>aw.seqT x5 h) bf).tv;have bu:=aw.wood x5 bg;refine⟨_,rfl,r,al,_,rfl,am,rfl,r,l,j,p,rfl,ad,bt,?_⟩;refine⟨_,rfl,_,rfl,v,vN st,lt,_,_,rfl,a5,hT.stl.1,SqL.of f5,aj.ru,λx hx=>(hT.rl x hx).1,bo,hT.n120,λH6 L=>?_⟩;refine⟨_,rfl,_,rfl,_,rfl,wd,lt,v,ks,k0,J,vN st,kd,rfl,bu.same L,hO,ba,a5.mono (λ_ _=>L.seqT),SqL.of (L _ _ f5),aj.mono (λ_ _=>L.seqT),hT.ok,λp lw lm v' bv ms H7 g7 k1 k2 k3 k4 k5 k6=>?_⟩;have Y:=G.sm _ _ L ak;have x6:SXT T H H6:=λb u n e=>L _ _ (x5 _ _ (by simpa using n) (Qg e aa) (bh _ _ n e));have nn:∀a,H6 a=none->H a=none:=λa ha=>by
   cases e:H a with
   | none=>rfl
   | some u=>
    by_cases hm:a=T
    .obtain⟨ps,h⟩:=G.tb H6 Y a (by simpa using hm);rw [ha]at h;cases h
    .rw [x6 _ _ hm e]at ha;cases ha
  rw [omz_R]at k4 k6;refine q p lw lm v' bv ms H7 (λb u n e=>g7 _ _ (x6 _ _ n e)) k1 ⟨nn _ k2.n0,k2.at0,λk hk=>?_⟩ k3 k4 ⟨nn _ k5.n0,k5.at0,λm hm=>?_⟩ ?_ (G.sm _ _ g7 Y)
  .obtain⟨e1,e2,e3,e4⟩:=k2.kd k hk;exact⟨e1,e2,nn _ e3,e4⟩
  .obtain⟨e1,e2,e3,e4⟩:=k5.md m hm;exact⟨e1,e2,nn _ e3,e4⟩
  .rw [k6];exact eP λm _=>by rw [tms_R]
 .cases a0 with
  | nil=>rw [OO ae]at a3;cases a3
  | @cons x an a2 b2 h1 h2=>
  obtain⟨_,b5,ao,_⟩:=QX (show j.drop p=[59]::(a2++b2)from ae);have Y:=G.ins _ _ r C al _ am L ak;have x6:SXs [T] r H5 H6:=SXs.ofR L;have f6:=a1.lst x6 f5;have a6:=a4.trs G Y;have bw:J.length<=40:=by
   have:=congrArg List.length ac;rw [aI,aA]at this;lia
  refine⟨λaq H'=>∃m',m'<m/\∃(J:List ZR)(td:List RuN)(c:List (5:))(p:Nat),aq=[some (.ref wd),some (.str (S z)),some (.ref r),some v,some (.ref lt)]/\rs=(J.map λx=>x.2)++td/\td.length=m'/\H' lt=some (.lst (J.map λx=>x.1))/\SXs [T] r H3 H'/\RdAt C H' r l j p/\p<=j.length/\j.drop p=c/\RwL td c/\RuZ K H' J/\Z1 T H',λaq H' h=>h,?_⟩;refine⟨_,rfl,.inl ⟨rfl,_,SqL.of f6⟩,_,rfl,r,l,j,p+1,x,a2,b2,rfl,a4,ag,by lia,ao,h1,h2.fol,Y,λv7 H7 x7 bx bz b0=>?_⟩;have f7:=a6.lst x7 f6;refine⟨lt,_,v7,rfl,rfl,f7,(by rw [aA];exact cK bw (9:)),?_⟩;refine⟨an.length,?_,J++[(v7,x)],an,b2,p+1+a2.length,rfl,by rw [ac];simp,rfl,by rw [Qb];simp,λc u n1 n2 e=>?_,ap bx,W0 (10:) ao,XL ao,h2,λy hy=>?_,G.lst _ lt _ _ f7 b0⟩
  .rw [<-hm];exact fP _
  .rw [Qi (Qg e ab)];exact x7 c u n1 n2 (x6 c u n1 n2 (x5 c u n1 n2 e))
  .rcases aW.mp hy with hy | hy
   .exact(aj y hy).mono λ_ _ h=>QU (a6.seqT x7 (a1.seqT x6 h)) f7
   .obtain rfl:=bD.mp hy;exact bz.mono λ_ _ h=>QU h f7
end
end K12
namespace L2
open PySem PySem.Spec PyProof.Rows PySem.W
theorem UY:∀{ss:List Str}{us:List Value},Vals (ss.map V.str) us->StrsAre us ss
 | [],_,.nil=>.nil
 | x::r,_,.cons h t=>by
  obtain⟨k,rfl⟩:=(show ∃t,_=Value.str x t from h);exact .cons x k (UY t)
theorem WT:MtR X "str.join" (λx vs H Q=>∃(sep:Str)(l:Addr)(ss:List Str),x=.str sep/\vs=[.ref l]/\SqL X.K H l (ss.map V.str)/\(ss.map (·.length)).sum+ss.length*sep.length<=16777216/\Q (.str (Txt.join sep ss)) H):=by
 intro pins s σ H x xs v G Q I j F h;obtain⟨sep,l,ss,rfl,rfl,hl,hz,q⟩:=h;obtain⟨t,rfl⟩:=(show ∃t,v=Value.str sep t from j);obtain⟨u,rfl,ru⟩:=F.one;obtain rfl:u=Value.ref l:=ru;obtain⟨its,r,p,_⟩:=I.list hl;exact join_list p.isList (UY r) hz λJ k=>⟨.str _,H,I.tok _,⟨_,rfl⟩,q⟩
end L2
namespace K12
open PySem L2 K3 TM K9
def gl(sep:List Nat):List (5:)->List Nat
 | []=>[]
 | x::r=>x++r.flatMap λy=>sep++y
theorem MS(sep:List Nat):∀(r:List (5:))(acc:List Nat),(r.map S).foldl (λa p=>a++(S sep).cps++p.cps) acc.toArray=(acc++r.flatMap λy=>sep++y).toArray
 | [],acc=>by simp
 | y::r,acc=>by
  rw [aR,List.foldl_cons];have e:acc.toArray++(S sep).cps++(S y).cps=(acc++(sep++y)).toArray:=by
   apply Array.toList_inj.mp;simp [S]
  rw [e,MS sep r];simp [dB]
theorem G9(sep:List Nat)(xs:List (5:)):Txt.join (S sep) (xs.map S)=S (gl sep xs):=by
 show Builtin.Str.glued (S sep) (xs.map S)=_;unfold Builtin.Str.glued;cases xs with
 | nil=>rfl
 | cons x r=>
  have:=MS sep r x;show(⟨((r.map S).foldl (λa p=>a++(S sep).cps++p.cps) (S x).cps)⟩:Str)=_;rw [show(S x).cps=x.toArray from rfl,this]
  rfl
theorem Pt(sep:List Nat):∀xs:List (5:),(xs.map List.length).sum<=(gl sep xs).length
 | []=>by simp [gl]
 | x::r=>by
  have:∀r:List (5:),(r.map List.length).sum<=(r.flatMap λy=>sep++y).length:=λr=>by
   induction r with
   | nil=>simp
   | cons y r j=>simp only [aR,cY,dB,aI];lia
  have h:=this r;simp only [gl,aR,cY,aI];lia
theorem Pu{sep:List Nat}(hs:0<sep.length):∀xs:List (5:),xs.length<=(gl sep xs).length+1
 | []=>by simp
 | x::r=>by
  have:∀r:List (5:),r.length<=(r.flatMap λy=>sep++y).length:=λr=>by
   induction r with
   | nil=>simp
   | cons y r j=>simp only [dB,aI,aJ];lia
  have h:=this r;simp only [gl,aJ,aI];lia
def shM(m:Int):List Nat:=if m=0 then []else sh m
def shB(xs:List (5:)):List Nat:=match xs with
 | []=>[]
 | _::_=>[40]++gl [32] xs++[41]
theorem P2:∀{l:List Nat}{x:Nat},x∈l->x<=l.sum
 | y::r,x,h=>by
  rw [cY];rcases aQ.mp h with rfl | h
  .lia
  .have:=P2 h;lia
theorem M8{xs:List (5:)}{x:List Nat}(h:x∈xs):x.length<=(shB xs).length/\(xs.map List.length).sum<=(shB xs).length/\xs.length<=(shB xs).length:=by
 cases xs with
 | nil=>cases h
 | cons y r=>
  have h1:=Pt [32] (y::r);have h2:=Pu (sep:=[32]) (9:) (y::r);have j:x.length<=((y::r).map List.length).sum:=P2 (aP.mpr ⟨x,h,rfl⟩);have e:(shB (y::r)).length=(gl [32] (y::r)).length+2:=by simp [shB]
  lia
theorem Yk(i:Int):Str.ofString (toString i)=S (sh i):=by
 cases i with
 | ofNat n=>
  show Str.ofString (toString ((n:Nat):Int))=_;rw [<-Xt (Str.ofString (toString ((n:Nat):Int))),PySem.W.KIN.signs_num];unfold sh;rw [aF (by show ¬((n:Nat):Int)<0;lia)]
  rfl
 | negSucc n=>
  rw [<-Xt (Str.ofString (toString (Int.negSucc n))),PyProof.Rows.signs_ofString];have e:toString (Int.negSucc n)="-"++Nat.repr (n+1):=rfl;rw [e,String.toList_append,aS,Nat.toList_repr];unfold sh;rw [aH (10:)]
  rfl
theorem Ut{i:Int}(h:i.natAbs<10^60):i.natAbs.log2<1920:=NT (Nat.lt_trans h (9:))
def TW:Sp:=λvs H Q _=>∃m:Int,vs=[.int m]/\m.natAbs<10^60/\Q (.str (S (shM m))) H
def S9(K:Fg):Sp:=λvs H Q _=>∃(l:Addr)(xs:List (5:)),vs=[.ref l]/\SqL K H l (xs.map λx=>V.str (S x))/\(shB xs).length<=5000/\Q (.str (S (shB xs))) H
def QT(n:Nat):List Nat:=if n<26 then [97+n]else [97+n/26,97+n%26]
def mdS:V->List Nat
 | .int i=>QT i.toNat
 | _=>[]
def kpS(k:Bool):List Nat:=if k=true then [61]else []
mutual
noncomputable def shV:TV->List Nat
 | .node (.call m b) _ _=>[42]++mdS m++sh b
 | .node (.put n k a) _ bs=>n.cps.toList++kpS k++shM a++shB (shVs bs)
noncomputable def shVs:List TV->List (5:)
 | []=>[]
 | t::r=>shV t::shVs r
end
theorem YH:∀ts:List TV,shVs ts=ts.map shV
 | []=>by simp [shVs]
 | t::r=>by simp only [shVs,aR,YH r]
mutual
noncomputable def mbV:TV->Prop
 | .node (.call m b) _ _=>(∃i:Nat,i<676/\m=.int (i:Int))/\b.natAbs<10^60
 | .node (.put _ _ a) _ bs=>a.natAbs<10^60/\LZ bs
noncomputable def LZ:List TV->Prop
 | []=>True
 | t::r=>mbV t/\LZ r
end
theorem Mw:∀{ts:List TV}{t:TV},LZ ts->t∈ts->mbV t
 | u::r,t,h,ht=>by
  rw [LZ]at h;rcases aQ.mp ht with rfl | ht
  .exact h.1
  .exact Mw h.2 ht
theorem Rq:∀n:Nat,n<26->QK[n]?=some (97+n):=by decide
def JO:Sp:=λvs H Q _=>∃n:Nat,vs=[.int (n:Int)]/\n<676/\Q (.str (S (QT n))) H
def YG(K:Fg)(n:Nat):Sp:=λvs H Q _=>∃(v:V)(t:TV),vs=[v]/\TvV K H v t/\lv t<=n/\mbV t/\(shV t).length<=5000/\∀H',Same H H'->Q (.str (S (shV t))) H'
section
variable{K:Fg}{fd:FuncData}
theorem Dl:FnScope ["mark"] ["mark"] (defScope G4):=(0:)
theorem Cq(F:Fun K "show_mark" "show_mark" G4 f fd)(G:Gm mg):FnOk P w K mg base CX0 1 f fd ["mark"] TW:=by
 refine F.ok Dl (λJ H Q E h=>?_) (λM A j s H J Q E U h=>?_)
 .obtain⟨m,rfl,_⟩:=h
  rfl
 obtain⟨m,rfl,L,q⟩:=h;refine⟨_,(Qh (Qn (J5 (Qu Zw (pv 0) Qf (QB _)) Qj (QE Zt rfl G.str e_ (Qa (pv 0) Qc))))),?_⟩
 try dsimp only [QW,Cx.nox]
 unfold shM at q;refine⟨_,rfl,rfl,_,rfl,Ui (λc=>?_) (λc=>?_)⟩
 .have:m=0:=V.int.inj (b_ c);rw [aH this]at q;show Q (.str (Str.ofString "")) H;rw [Yg];exact q
 .have:m≠0:=λz=>c (aV (by rw [z]));rw [aF this,<-Yk]at q;exact⟨_,rfl,_,rfl,Ut L,q⟩
theorem Dq:FnScope ["texts"] ["texts"] (defScope GV):=(0:)
theorem C0(F:Fun K "show_in_brackets" "show_in_brackets" GV f fd)(G:Gm mg):FnOk P w K mg base CX0 1 f fd ["texts"] (S9 K):=by
 refine F.ok Dq (λU H Q E h=>?_) (λaa A M s H U Q E hr h=>?_)
 .obtain⟨l,xs,rfl,_⟩:=h
  rfl
 obtain⟨l,xs,rfl,hl,hz,q⟩:=h;refine⟨_,(Qd (QC (Qu Zw (Qv Qy rfl G.len bJ (Qa (pv 0) Qc)) Qf (QB _)) (Qh (Qn Qj)) Qt)
  (Qh (Qn (Ql Qq (Ql Qq Qj (Zi iF PySem.F.slot_str_join PySem.F.type_str_join WT Qj (Qa (pv 0) Qc))) Qj)))),?_⟩
 try dsimp only [QW,Cx.nox]
 refine L2.let1 ?_
 intros
 refine⟨_,rfl,l,_,rfl,.inl hl,rfl,_,rfl,?_⟩;rw [aA];cases xs with
 | nil=>
  refine XF rfl ?_;show Q (.str (Str.ofString "")) H;rw [Yg];exact q
 | cons x r=>
  refine Z9 (λz=>by have:=V.int.inj z;simp at this;lia) ?_;have h1:=Pt [32] (x::r);have h2:=Pu (sep:=[32]) (9:) (x::r);have e:(shB (x::r)).length=(gl [32] (x::r)).length+2:=by simp [shB]
  have Y:Str.ofString " "=S [32]:=by decide+kernel
  have j:Str.ofString "("=S [40]:=by decide+kernel
  have J:Str.ofString ")"=S [41]:=by decide+kernel
  have hm:((x::r).map S).map V.str=(x::r).map λx=>V.str (S x):=by rw [aZ];rfl
  have L:(((x::r).map S).map λz:Str=>z.length)=(x::r).map List.length:=by
   rw [aZ];exact eP λy _=>Qo y
  refine⟨rfl,_,rfl,S [32],l,(x::r).map S,(by rw [<-Y]),rfl,(by rw [hm];exact hl),?_,?_⟩
  .rw [L,aA,Qo];show _+_*1<=_;lia
  .rw [G9];refine⟨_,_,rfl,rfl,?_,_,_,rfl,rfl,?_,?_⟩
   .rw [j,Qo,Qo];exact QA (by simp only [cT];lia)
   .rw [j,J,QV,Qo,Qo];exact QA (by simp only [aI,cT];lia)
   .rw [j,J,QV,QV];exact q
theorem Je:FnScope ["mode","base","shown","rest"] ["mode"] (defScope WL):=(0:)
theorem SB(F:Fun K "show_mode" "show_mode" WL f fd)(G:Gm mg):FnOk P w K mg base CX0 1 f fd ["mode"] JO:=by
 refine F.ok Je (14:) (λac A ab s H vs Q E hr h=>?_)
 .obtain⟨n,rfl,_⟩:=h
  rfl
 obtain⟨n,rfl,hn,q⟩:=h;obtain⟨tl,j⟩:=G.lets;refine⟨_,(Qd (Qm (i:=1) Je.nd rfl (7:) (Qv Zb rfl G.len bJ (Qa (Zf (v:=.str ZU) rfl j ⟨_,rfl⟩) Qc)))
  (Qd (Qm (i:=2) Je.nd rfl (7:) (Qk ZG (Zf (v:=.str ZU) rfl j ⟨_,rfl⟩) (Ql QP (pv 0) (pv 1)) (λ_ _=>rfl)))
  (Qd (Qm (i:=3) Je.nd rfl (7:) (Ql Zu (pv 0) (pv 1)))
  (Qd (YS bS (Qu XE (pv 3) Qf (QB _)) (Qd (Qm (i:=2) Je.nd rfl (7:) (Ql Qq (Qk ZG (Zf (v:=.str ZU) rfl j ⟨_,rfl⟩) (Ql QP (pv 3) (pv 1)) (λ_ _=>rfl)) (pv 2)))
  (Qh (Qm (i:=3) Je.nd rfl (7:) (Ql Zu (pv 3) (pv 1))))))
  (Qh (Qn (pv 2))))))),?_⟩
 try dsimp only [QW,Cx.nox]
 refine L2.let4 ?_
 intros
 have M:ZU.length=26:=by decide+kernel
 have U:∀k:Nat,k<26->atI ZU.cps.toList (k:Int)=some (97+k):=λk hk=>by rw [U6];exact atS (Rq k hk)
 have hS:∀c:Nat,(⟨#[c]⟩:Str)=S [c]:=λc=>rfl;have J:ZU.length<=sizeLine:=by rw [M];decide
 have em:∀k:Nat,((k:Int)%((26:Nat):Int))=((k%26:Nat):Int):=λk=>by lia
 have ed:∀k:Nat,((k:Int)/((26:Nat):Int))=((k/26:Nat):Int):=λk=>by lia
 refine⟨_,rfl,J,?_⟩;rw [M];have Y:(0:Int)<((26:Nat):Int):=by decide
 have aa:∀i:Int,Co i ((26:Nat):Int):=λi=>⟨by decide,by decide⟩;refine⟨_,rfl,_,rfl,_,_,rfl,rfl,Y,ZU,_,97+n%26,rfl,rfl,J,?_,?_⟩
 .rw [em];exact U _ (10:)
 rw [hS];refine⟨_,rfl,_,rfl,_,_,rfl,rfl,aa _,?_⟩;refine⟨λm L H'=>H'=H/\((m=1/\L=[some (.int (n:Int)),some (.int ((26:Nat):Int)),some (.str (S [97+n%26])),some (.int ((n:Int)/((26:Nat):Int)))])\/(m=0/\L=[some (.int (n:Int)),some (.int ((26:Nat):Int)),some (.str (S (QT n))),some (.int 0)])),⟨1,rfl,.inl ⟨rfl,rfl⟩⟩,?_⟩;rintro m σ H' ⟨rfl,⟨rfl,rfl⟩ | ⟨rfl,rfl⟩⟩
 .refine⟨_,rfl,_,_,rfl,rfl,_,rfl,?_⟩
  by_cases c:n<26
  .refine Z9 (10:) ?_;have e:QT n=[97+n%26]:=by unfold QT;rw [aH c,Nat.mod_eq_of_lt c]
   rw [e]at q;exact⟨_,rfl,q⟩
  .refine XF (10:) ⟨λL H'=>∃m',m'<1/\_,λL H' h=>h,?_⟩;refine⟨_,rfl,_,rfl,_,_,rfl,rfl,Y,ZU,_,97+n/26,rfl,rfl,J,?_,?_⟩
   .rw [ed,em,Nat.mod_eq_of_lt (10:)];exact U _ (10:)
   rw [hS];refine⟨_,rfl,_,_,rfl,rfl,?_,?_⟩
   .rw [Qo,Qo];exact QA (22:)
   rw [QV];refine⟨_,rfl,_,rfl,_,_,rfl,rfl,aa _,?_⟩;refine⟨0,by decide,rfl,.inr ⟨rfl,?_⟩⟩;have e:QT n=[97+n/26,97+n%26]:=by unfold QT;rw [aF c]
   have e2:((n:Int)/((26:Nat):Int))/((26:Nat):Int)=0:=by lia
   show [some (V.int (n:Int)),some (.int ((26:Nat):Int)),some (.str (S ([97+n/26]++[97+n%26]))),some (.int (((n:Int)/((26:Nat):Int))/((26:Nat):Int)))]=_;rw [e,e2];rfl
 .exact⟨_,rfl,_,_,rfl,rfl,_,rfl,Z9 (9:) ⟨_,rfl,q⟩⟩
theorem Px:FnScope ["term","kept"] ["term"] (defScope UJ):=(0:)
theorem Tn(F:Fun K "show_term" "show_term" UJ f fd)(G:Gm mg)(RC:Fn P w K mg base 1 "is_call" ["term"] (ZX K))(RMo:Fn P w K mg base 1 "show_mode" ["mode"] JO)(RM:Fn P w K mg base 1 "show_mark" ["mark"] TW)(RB:Fn P w K mg base 1 "show_in_brackets" ["texts"] (S9 K))(R:Fn P w K mg base (n+1) "show_term" ["term"] (YG K n)):FnOk P w K mg base CX0 (n+2) f fd ["term"] (YG K (n+1)):=by
 refine F.ok Px (14:) (λai A af s H vs Q E L h=>?_)
 .obtain⟨v,t,rfl,_⟩:=h
  rfl
 obtain⟨v,t,rfl,ht,aa,j,hz,q⟩:=h;refine⟨_,(Qd (QC (Q8 (Qs RC L (Qa (pv 0) Qc) (fT 1 n))) (Qh (Qn (Ql Qq (Ql Qq Qj (Qs RMo L (Qa (3:) Qc) (10:))) (QE Zt rfl G.str e_ (Qa (3:) Qc))))) Qt)
  (Qd (Yf (Qm (i:=1) Px.nd rfl (7:) (J5 (Q8 (3:)) Qj Qj)))
  (Qh (Qn (Ql Qq (Ql Qq (Ql Qq (3:) (pv 1)) (Qs RM L (Qa (3:) Qc) (10:))) (Qs RB L (Qa (Xs (CompOk.plain rfl (1:) (1:) (1:)) rfl (YO (3:)) (λ_ _ _ _=>Zg) (λ_ _ _ _=>Qs R L (Qa (pv 0) Qc) (8:))) Qc) (10:))))))),?_⟩
 try dsimp only [QW,Cx.nox]
 refine L2.let2 ?_
 intros
 have U:Str.ofString "*"=S [42]:=by decide+kernel
 have ab:Str.ofString "="=S [61]:=by decide+kernel
 refine⟨_,rfl,v,t,rfl,ht,_,rfl,?_⟩;rcases ZZ ht with⟨a,m,b,rfl,rfl,h1⟩ | ⟨a,b,bs,nm,k,ad,rfl,et,h1,h2,h3,h4⟩
 .rw [mbV]at j;obtain⟨⟨i,hi,rfl⟩,hb⟩:=j;rw [shV]at hz q;rw [aI,aI]at hz;have em:mdS (.int (i:Int))=QT i:=by show QT (i:Int).toNat=_;rw [dJ]
  rw [em]at hz q;refine Q2 ⟨_,rfl,a,_,1,_,rfl,rfl,h1,rfl,i,rfl,hi,_,_,rfl,rfl,?_,?_⟩
  .rw [U,Qo,Qo];exact QA (10:)
  rw [U,QV];refine⟨_,rfl,a,_,2,_,rfl,rfl,h1,rfl,_,rfl,Ut hb,_,_,rfl,rfl,?_,?_⟩
  .rw [Yk,Qo,Qo];exact QA (by rw [aI];lia)
  .rw [Yk,QV];exact q H (Same.refl _)
 .rw [et]at j hz q;rw [mbV]at j;rw [shV]at hz q;have Y:=h3.length;rw [ZP]at aa;rw [et];refine Q7 ⟨λag H'=>ag=[some (.ref a),some (.str (S (kpS k)))]/\H'=H,?_,?_⟩
  .refine⟨_,rfl,a,_,2,_,rfl,rfl,h1,rfl,_,rfl,?_⟩;cases k with
   | true=>exact Q2 ⟨by rw [ab];rfl,rfl⟩
   | false=>exact Q7 ⟨by rw [Yg];rfl,rfl⟩
  rintro σ H' ⟨rfl,rfl⟩;rw [aI,aI,aI]at hz;have aj:nm.length=nm.cps.toList.length:=by simp [Str.length]
  refine⟨_,rfl,a,_,1,_,rfl,rfl,h1,rfl,_,rfl,_,_,rfl,rfl,?_,?_⟩
  .rw [Qo];exact QA (10:)
  have e1:nm++S (kpS k)=S (nm.cps.toList++kpS k):=by rw [<-QV,Xt]
  rw [e1];refine⟨_,rfl,a,_,3,_,rfl,rfl,h1,rfl,ad,rfl,j.1,_,_,rfl,rfl,?_,?_⟩
  .rw [Qo,Qo];exact QA (by rw [aI];lia)
  rw [QV];refine⟨_,rfl,a,_,4,_,rfl,rfl,h1,rfl,b,rfl,⟨_,h2⟩,λacc M=>?_⟩;refine JV (K:=K) (xs:=bs) (tt:=λ_ H Q=>Q true H) (te:=XX (YG K n) [] E0 (Xp (LD 0) V7)) (cs:=[]) (λi ys H2=>H2 acc=some (.lst ys)/\Same H' H2/\ys=((t.bs.take i).map shV).map λx=>V.str (S x))
   ⟨Qb,Qe M _,rfl⟩ ?_ ?_ ?_
  .rintro i ys H2 _ ⟨_,g,_⟩;exact g.seqT h2
  .rintro i x ys H2 hi hx ⟨J,g,rfl⟩;obtain⟨c,hc⟩: ∃c,t.bs[i]?=some c:=⟨_,aE (10:)⟩;obtain⟨cv,ac,ae⟩:=h3.get hc;obtain rfl:cv=x:=aK (ac.symm.trans hx);have hm:=bC hc;have a1:=UX hm;have a2:=M8 (xs:=shVs t.bs) (x:=shV c) (by rw [YH];exact aP.mpr ⟨c,hm,rfl⟩);refine Q2 ⟨_,rfl,cv,c,rfl,ae.mono λ_ _=>g.seqT,by lia,Mw j.2 hm,by lia,λH4 g4=>?_⟩;refine QI hi (g4 _ _ J) (by rw [aA,aA,bH];lia) ⟨Qb,λx u e=>?_,?_⟩
   .rw [Qi (Qg e M)];exact g4 _ _ (g _ _ e)
   .rw [bE,hc];simp
  rintro ys H1 ⟨J,g,rfl⟩;rw [Y,bP]at J;refine⟨acc,shVs t.bs,rfl,(by rw [YH];exact SqL.of J),by lia,_,_,rfl,rfl,?_,?_⟩
  .rw [Qo,Qo];exact QA (by rw [aI,aI];lia)
  .rw [QV];exact q H1 g
theorem Nq{k:Nat}:FnOk P w K mg base CX0 k f fd ["term"] (YG K 0):=by
 have F:∀j H Q E,¬YG K 0 j H Q E:=λj H Q E h=>by
  obtain⟨v,t,_,_,J,_⟩:=h;rw [ZP]at J;lia
 exact⟨λj H Q E h=>absurd h (F j H Q E),λA G s H L M j Q E _ _ _ _ h=>absurd h (F j H Q E)⟩
theorem V6(F:Fun K "show_term" "show_term" UJ f fd)(G:Gm mg)(RC:Fn P w K mg base 1 "is_call" ["term"] (ZX K))(RMo:Fn P w K mg base 1 "show_mode" ["mode"] JO)(RM:Fn P w K mg base 1 "show_mark" ["mark"] TW)(RB:Fn P w K mg base 1 "show_in_brackets" ["texts"] (S9 K))(hb:Binds K fd ["term"] [])(hm:mg "show_term"=some (.ref f)):∀n:Nat,FnOk P w K mg base CX0 (n+1) f fd ["term"] (YG K n)
 | 0=>Nq
 | n+1=>Tn F G RC RMo RM RB ⟨f,fd,V6 F G RC RMo RM RB hb hm n,hb,F.kp,hm⟩
end
def ruS(mo kind name:List Nat)(t:TV):List Nat:=mo++[32]++kind++[32]++name++[32,58,32]++shV t
def codes(s:Str):List Nat:=s.cps.toList
theorem QN(s:Str):S (codes s)=s:=Xt s
theorem ZC(s:Str):(codes s).length=s.length:=by simp [codes,Str.length]
def mdR(mo:List Nat)(kind:Str)(rw:List PNx)(ts:List TV):List (5:):=(rw.zip ts).map λx=>ruS mo (codes kind) (codes x.1.2.1) x.2
structure TmOk(t:TV):Prop where
 lv:lv t<=9
 mb:mbV t
 len:(shV t).length<=4000
def Ry(K:Fg):Sp:=λvs H Q _=>∃(mo:List Nat)(kind:Str)(lr l:Addr)(rw:List PNx)(us:List V)(ts:List TV),vs=[.str (S mo),.str kind,.ref lr,.ref l]/\mo.length<=8/\kind.length<=8/\RowsL K H lr rw/\rw.length<=10/\(∀r∈rw,r.2.1.length<=8)/\SqL K H l us/\TvAll K H us ts/\ts.length=rw.length/\(∀t∈ts,TmOk t)/\
 ∀(lo:Addr)(H':Hp),Same H H'->H lo=none->H' lo=some (.lst ((mdR mo kind rw ts).map λx=>V.str (S x)))->Q (.ref lo) H'
def tuR(ks:List KdT):Nat->List (Str×List TV)->List (5:)
 | _,[]=>[]
 | i,m::r=>mdR (QT i) m.1 (Qr ks m.1) m.2++tuR ks (i+1) r
theorem Xe(ks:List KdT)(m:Str×List TV):∀(l:List (Str×List TV))(i:Nat),tuR ks i (l++[m])=tuR ks i l++mdR (QT (i+l.length)) m.1 (Qr ks m.1) m.2
 | [],i=>by simp [tuR]
 | x::r,i=>by
  rw [dY,tuR,tuR,Xe ks m r (i+1),bO,aJ]
  congr 3
  rw [show i+1+r.length=i+(r.length+1)by lia]
def tuS(ks:List KdT)(st:TV)(D:List (Str×List TV)):List Nat:=gl [59,32] (shV st::tuR ks 0 D)
structure ShOk(ks:List KdT)(st:TV)(D:List (Str×List TV)):Prop where
 st:TmOk st
 len:D.length<=200
 kl:∀m∈D,m.1.length<=8
 ln:∀m∈D,m.2.length=(Qr ks m.1).length
 tm:∀m∈D,∀t∈m.2,TmOk t
 nl:∀m∈D,∀r∈Qr ks m.1,r.2.1.length<=8
def Pd(K:Fg):Sp:=λvs H Q _=>∃(p lw lm:Addr)(v:V)(ks:List KdT)(st:TV)(ms:List MvT),vs=[.ref p]/\SqT K H p [.ref lw,v,.ref lm]/\WoodAt K H lw ks/\WoodOk ks/\TvV K H v st/\ModesV K H lm ms/\ShOk ks st (dM ms)/\∀H',Same H H'->Q (.str (S (tuS ks st (dM ms)))) H'
theorem Sy{name:List Nat}{t:TV}(h1:mo.length<=8)(h2:kind.length<=8)(h3:name.length<=8)(h4:TmOk t):(ruS mo kind name t).length<=4100:=by
 have:=h4.len;unfold ruS;simp only [aI,aJ,b'];lia
theorem WC(mo:List Nat)(kind:Str)(rw:List PNx)(ts:List TV):(mdR mo kind rw ts).length<=rw.length:=by
 unfold mdR;rw [aA,dN];lia
theorem Mf{kind:Str}{rw:List PNx}(h1:mo.length<=8)(h2:kind.length<=8)(h3:∀r∈rw,r.2.1.length<=8)(h4:∀t∈ts,TmOk t):∀x∈mdR mo kind rw ts,x.length<=4100:=λx j=>by
 obtain⟨y,F,rfl⟩:=aP.mp j;obtain⟨a,b⟩:=y;have:=fG F;exact Sy h1 (by rw [ZC];exact h2) (by rw [ZC];exact h3 _ this.1) (h4 _ this.2)
theorem Zl(n:Nat):(QT n).length<=2:=by unfold QT;split<;>simp
theorem Xy(hO:WoodOk ks):∀(D:List (Str×List TV))(i:Nat),(∀m∈D,m.1.length<=8)->(∀m∈D,∀t∈m.2,TmOk t)->(∀m∈D,∀r∈Qr ks m.1,r.2.1.length<=8)->(tuR ks i D).length<=10*D.length/\∀x∈tuR ks i D,x.length<=4100
 | [],i,_,_,_=>⟨by simp [tuR],λx hx=>by simp [tuR]at hx⟩
 | m::r,i,h1,h2,h3=>by
  obtain⟨k1,j⟩:=Xy hO r (i+1) (λx hx=>h1 x (aU _ hx)) (λx hx=>h2 x (aU _ hx)) (λx hx=>h3 x (aU _ hx));have F:=WC (QT i) m.1 (Qr ks m.1) m.2;have G:=(Zm hO m.1).len;rw [tuR];refine⟨by rw [aI,aJ];lia,λx hx=>?_⟩;rcases aW.mp hx with hx | hx
  .exact Mf (by have:=Zl i;lia) (h1 m aL) (h3 m aL) (h2 m aL) x hx
  .exact j x hx
theorem AV{l:List (5:)}(h:∀x∈l,x.length<=n):(l.map List.length).sum<=n*l.length:=by
 induction l with
 | nil=>simp
 | cons x r j=>
  have h1:=h x aL;have h2:=j λy F=>h y (aU _ F);rw [aR,cY,aJ,Nat.mul_add];lia
section
variable{K:Fg}{fd:FuncData}
theorem At:FnScope ["mode","kind","rows","rules","ahead"] ["mode","kind","rows","rules"] (defScope LR):=(0:)
theorem Bm(F:Fun K "show_rules" "show_rules" LR f fd)(GA:GmA mg)(RT:Fn P w K mg base 10 "show_term" ["term"] (YG K 9)):FnOk P w K mg base CX0 11 f fd ["mode","kind","rows","rules"] (Ry K):=by
 refine F.ok At (14:) (λar A ao s H vs Q E hr h=>?_)
 .obtain⟨M,j,lr,l,rw,us,G,rfl,_⟩:=h
  rfl
 obtain⟨M,j,lr,l,rw,us,G,rfl,as,au,hR,ap,ae,hl,aa,aq,af,q⟩:=h;refine⟨_,(Qd (Qm (i:=4) At.nd rfl (cB rfl) (Ql Qq (Ql Qq (Ql Qq (pv 0) Qj) (pv 1)) Qj))
  (Qh (Qn (QY (CompG.many (xs:=["row","rule"]) (caps:=["ahead"]) (cap:=[4]) (cs:=[_]) rfl rfl (1:) (1:) (1:) (1:) (1:) (1:) rfl rfl rfl) rfl (GO rfl GA.zip (Qa (pv 2) (Qa (pv 3) Qc))) (Ji (CompG.many (xs:=["row","rule"]) (caps:=["ahead"]) (cap:=[4]) (cs:=[_]) rfl rfl (1:) (1:) (1:) (1:) (1:) (1:) rfl rfl rfl) rfl) (λ_ _ _ _=>Zg) (λ_ _ _ _=>Ql Qq (Ql Qq (Ql Qq (pv 2) (Qk (r:=LK K) Qp (pv 0) Qf (λ_ _=>rfl))) Qj) (Qs RT hr (Qa (pv 1) Qc))))))),?_⟩
 try dsimp only [QW,Cx.nox]
 refine L2.let1 ?_
 intros
 have ag:Str.ofString " "=S [32]:=by decide+kernel
 have ai:Str.ofString " : "=S [32,58,32]:=by decide+kernel
 have ek:(codes j).length=j.length:=ZC j;rw [<-QN j,ag];refine⟨_,rfl,_,_,rfl,rfl,?_,?_⟩
 .rw [Qo,Qo];exact QA (by simp only [aJ,b'];lia)
 rw [QV];refine⟨_,rfl,_,_,rfl,rfl,?_,?_⟩
 .rw [Qo,Qo];exact QA (19:)
 rw [QV];refine⟨_,_,rfl,rfl,?_,?_⟩
 .rw [Qo,Qo];exact QA (19:)
 rw [QV];have av:=aa.length;have ab:(rw.map λt=>V.ref t.1).length=rw.length:=aA ..;refine⟨_,rfl,_,rfl,lr,l,_,us,rfl,hR.1,hl,λacc J=>?_⟩;refine OJ (K:=K) (xs:=rw.map λt=>V.ref t.1) (zs:=us) (cs:=[some (.str (S (M++[32]++codes j++[32])))]) (tt:=λ_ H Q=>Q true H) (by rw [ab];lia) (λi ys H'=>H' acc=some (.lst ys)/\Same H H'/\ys=((mdR M j rw G).take i).map λx=>V.str (S x))
  ⟨Qb,Qe J _,rfl⟩ ?_ ?_ ?_
 .rintro i ys H' _ ⟨_,g,_⟩;exact⟨g.seq hR.1,g.seq hl⟩
 .rintro i u v p ys H' hi hu hv hp ⟨L,g,rfl⟩;have U:i<rw.length:=by simpa using hi
  have ac:i<G.length:=by lia
  obtain⟨cv,aj,ak⟩:=aa.get (aE ac);obtain rfl:cv=v:=aK (aj.symm.trans hv);obtain rfl:u=.ref rw[i].1:=by
   rw [aM,aE U]at hu;exact(aK hu).symm
  have gp:=Qe hp (.tup [.ref rw[i].1,cv]);have gg:=g.trans gp;generalize upd H' p (.tup [.ref rw[i].1,cv])=H2 at gp gg ⊢;have al:=(hR.2 _ (aO U)).same gg;have Y:=af G[i] (aO ac);have aw:=ae rw[i] (aO U);have ax:=ZC rw[i].2.1;have ay:=Y.len;have ad:=al.1;rw [<-QN rw[i].2.1]at ad;rw [ai];refine Q2 ⟨_,rfl,_,rfl,rw[i].1,_,0,_,rfl,rfl,ad,rfl,_,_,rfl,rfl,?_,?_⟩
  .rw [Qo,Qo];exact QA (19:)
  rw [QV];refine⟨_,_,rfl,rfl,?_,?_⟩
  .rw [Qo,Qo];exact QA (19:)
  rw [QV];refine⟨_,rfl,cv,G[i],rfl,ak.mono λ_ _=>gg.seqT,Y.lv,Y.mb,by lia,λH4 g4=>⟨_,_,rfl,rfl,?_,?_⟩⟩
  .rw [Qo,Qo];exact QA (19:)
  rw [QV];have am:(mdR M j rw G)[i]?=some (ruS M (codes j) (codes rw[i].2.1) G[i]):=by
   unfold mdR;rw [aM,aE (by rw [dN];lia),fQ];rfl
  refine QI hi (g4 _ _ (gp _ _ L)) (by rw [aA,bH];lia) ⟨Qb,λx u e=>?_,?_⟩
  .rw [Qi (Qg e J)];exact g4 _ _ (gp _ _ (g _ _ e))
  .rw [bE,am];simp [ruS]
 rintro ys H2 ⟨L,g,rfl⟩;have an:(mdR M j rw G).length=rw.length:=by unfold mdR;rw [aA,dN];lia
 rw [ab,<-an,bP]at L;exact q acc H2 g J L
theorem MY:FnScope ["turning","shown","mode","told"] ["turning"] (defScope L6):=(0:)
theorem AW(F:Fun K "show_turning" "show_turning" L6 f fd)(GA:GmA mg)(RT:Fn P w K mg base 10 "show_term" ["term"] (YG K 9))(RR:Fn P w K mg base 11 "show_rules" ["mode","kind","rows","rules"] (Ry K))(RMo:Fn P w K mg base 1 "show_mode" ["mode"] JO)(RO:Fn P w K mg base 1 "rows_of" ["wood","kind"] (Yd K)):FnOk P w K mg base CX0 12 f fd ["turning"] (Pd K):=by
 refine F.ok MY (14:) (λal A aj s H vs Q E Y h=>?_)
 .obtain⟨p,lw,lm,v,ks,st,ms,rfl,_⟩:=h
  rfl
 obtain⟨p,lw,lm,v,ks,st,ms,rfl,hp,hW,hO,hv,hM,j,q⟩:=h;refine⟨_,(Qd (Qm (i:=1) MY.nd rfl (7:) (Q0 (Qa (Qs RT Y (Qa (3:) Qc)) Qc)))
  (Qd (Ze bS rfl (Sc rfl GA.enu (Qa (3:) Qc)) (Yc rfl (QG (Qz (i:=2) MY.nd rfl (7:)) (QG (Qz (i:=3) MY.nd rfl (7:)) ZJ)))
   (Qh (QS (Zi bY PySem.F.slot_list_extend PySem.F.type_list_extend Wq (pv 1) (Qa (Qs RR Y (Qa (Qs RMo Y (Qa (pv 2) Qc)) (Qa (Qk Qp (pv 3) Qf (λ_ _=>rfl)) (Qa (Qs RO Y (Qa (3:) (Qa (Qk Qp (pv 3) Qf (λ_ _=>rfl)) Qc))) (Qa (Qk Qp (pv 3) Qf (λ_ _=>rfl)) Qc))))) Qc)))))
  (Qh (Qn (Zi iF PySem.F.slot_str_join PySem.F.type_str_join WT Qj (Qa (pv 1) Qc)))))),?_⟩
 try dsimp only [QW,Cx.nox]
 refine L2.let2 ?_
 intros
 have am:=j.st.len;refine⟨_,rfl,p,_,1,_,rfl,rfl,hp,rfl,v,st,rfl,hv,j.st.lv,j.st.mb,by lia,λH1 g1=>⟨(by show 1<=sizeLine;decide),λlo M=>?_⟩⟩;have s2:=Qe M (.lst [.str (S (shV st))]);have f2:upd H1 lo (.lst [.str (S (shV st))]) lo=some (.lst [.str (S (shV st))]):=Qb;generalize upd H1 lo (.lst [.str (S (shV st))])=H2 at s2 f2 ⊢;have g2:=g1.trans s2;refine⟨_,rfl,p,_,2,_,rfl,rfl,g2.seqT hp,rfl,lm,_,rfl,(hM.same g2).1,?_⟩;have ad:(dM ms).length=ms.length:=by unfold dM;rw [aA]
 have hD:=j.len;refine Nr (K:=K) (xs:=ms.map λm=>V.ref m.1) (λi σ H'=>∃c2 c3:Option V,σ=[some (.ref p),some (.ref lo),c2,c3]/\Same H H'/\H' lo=some (.lst ((shV st::tuR ks 0 ((dM ms).take i)).map λx=>V.str (S x))))
  ⟨none,none,rfl,g2,f2⟩ ?_ ?_ ?_
 .rintro i σ H' _ ⟨_,_,_,g,_⟩;exact(hM.same g).1
 .rintro i x p2 σ H' hx ae ⟨c2,c3,rfl,g,G⟩;have hi:i<ms.length:=by have:=(bT.mp hx).1;rw [aA]at this;exact this
  obtain rfl:x=.ref ms[i].1:=by
   rw [aM,aE hi]at hx;exact(aK hx).symm
  have aa:(dM ms)[i]?=some (ms[i].2.1,ms[i].2.2.2.2):=by unfold dM;rw [aM,aE hi];rfl
  have L:=bC aa;have s3:=Qe ae (.tup [.int (i:Int),.ref ms[i].1]);have b3:upd H' p2 (.tup [.int (i:Int),.ref ms[i].1]) p2=some (.tup [.int (i:Int),.ref ms[i].1]):=Qb;generalize upd H' p2 (.tup [.int (i:Int),.ref ms[i].1])=H3 at s3 b3 ⊢;have g3:=g.trans s3;have U:=s3 _ _ G;obtain⟨m1,m2,m3⟩:=(hM.same g3).2 ms[i] (aO hi);have an:=Zl i;refine⟨_,_,rfl,SqT.of b3,rfl,_,_,rfl,_,_,rfl,rfl,?_⟩;refine⟨_,rfl,.inl ⟨rfl,_,SqL.of U⟩,_,rfl,i,rfl,by lia,_,rfl,ms[i].1,_,0,_,rfl,rfl,m1,rfl,_,rfl,p,_,0,_,rfl,rfl,g3.seqT hp,rfl,_,rfl,ms[i].1,_,0,_,rfl,rfl,m1,rfl,lw,ms[i].2.1,ks,rfl,hW.same g3,hO,λlr H4 g4 hL=>?_⟩;have ab:=g3.trans g4;obtain⟨n1,n2,n3⟩:=(hM.same ab).2 ms[i] (aO hi);refine⟨_,rfl,ms[i].1,_,1,_,rfl,rfl,n1,rfl,QT i,ms[i].2.1,lr,ms[i].2.2.1,Qr ks ms[i].2.1,ms[i].2.2.2.1,ms[i].2.2.2.2,rfl,by lia,j.kl _ L,hL,(Zm hO _).len,j.nl _ L,n2,n3,j.ln _ L,j.tm _ L,λlb H5 g5 ak af=>?_⟩;have ac:=g5 _ _ (g4 _ _ U);refine⟨lo,lb,_,_,rfl,rfl,ac,af,?_,?_⟩
  .have k1:=(Xy hO ((dM ms).take i) 0 (λm J=>j.kl m (cH J)) (λm J=>j.tm m (cH J)) (λm J=>j.nl m (cH J))).1;have k2:=WC (QT i) ms[i].2.1 (Qr ks ms[i].2.1) ms[i].2.2.2.2;have k3:=(Zm hO ms[i].2.1).len;rw [bH]at k1;rw [aA,aA,aJ];exact QA (10:)
  .refine⟨_,_,rfl,λb u e=>?_,?_⟩
   .have hn:H lo=none:=by
     cases e2:H lo with
     | none=>rfl
     | some u=>rw [g1 _ _ e2]at M;cases M
    rw [Qi (Qg e hn)];exact g5 _ _ (ab _ _ e)
   .rw [Qb,bE,aa,cV,Xe,bH,d_ (10:),eG];simp
 .rintro σ H' ⟨c2,c3,rfl,g,G⟩;rw [aA,<-ad,bP]at G;have ag:Str.ofString "; "=S [59,32]:=by decide+kernel
  obtain⟨k1,k2⟩:=Xy hO (dM ms) 0 j.kl j.tm j.nl;have k3:((shV st::tuR ks 0 (dM ms)).map List.length).sum<=4100*(shV st::tuR ks 0 (dM ms)).length:=AV λx hx=>by
   rcases aQ.mp hx with rfl | hx
   .lia
   .exact k2 x hx
  rw [aJ]at k3;have J:((shV st::tuR ks 0 (dM ms)).map S).map V.str=(shV st::tuR ks 0 (dM ms)).map λx=>V.str (S x):=by rw [aZ];rfl
  have ai:(((shV st::tuR ks 0 (dM ms)).map S).map λz:Str=>z.length)=(shV st::tuR ks 0 (dM ms)).map List.length:=by
   rw [aZ];exact eP λy _=>Qo y
  refine⟨rfl,_,rfl,S [59,32],lo,(shV st::tuR ks 0 (dM ms)).map S,(by rw [<-ag]),rfl,(by rw [J];exact SqL.of G),?_,?_⟩
  .rw [ai,aA,Qo,aJ];show _+_*2<=_;lia
  .rw [G9];exact q H' g
end
mutual
noncomputable def gdV:TV->Prop
 | .node (.call m b) k bs=>(∃i:Nat,i<676/\m=.int (i:Int))/\b.natAbs<10^60/\k=0/\bs=[]
 | .node (.put n _ a) k bs=>Nm (codes n)/\a.natAbs<10^60/\k=0/\bs.length<=1000/\gdVs bs
noncomputable def gdVs:List TV->Prop
 | []=>True
 | t::r=>gdV t/\gdVs r
end
mutual
noncomputable def nmV:TV->TN
 | .node (.call m b) _ _=>.node (.call (mdS m) b) 0 []
 | .node (.put n k a) _ bs=>.node (.put (codes n) k a) 0 (nmVs bs)
noncomputable def nmVs:List TV->List TN
 | []=>[]
 | t::r=>nmV t::nmVs r
end
def mkW(a:Int):List (5:):=if a=0 then []else [sh a]
mutual
noncomputable def wkV:TV->List (5:)
 | .node (.call m b) _ _=>[[42],mdS m,sh b]
 | .node (.put n k a) _ bs=>codes n::(kpW k++(mkW a++brG bs (JX bs)))
noncomputable def JX:List TV->List (5:)
 | []=>[]
 | t::r=>wkV t++JX r
end
theorem UB(i:Nat):mdS (.int (i:Int))=QT i:=by show QT (i:Int).toNat=_;rw [dJ]
theorem VF:∀n:Nat,n<26->97+n∈QK:=λn h=>bC (Rq n h)
theorem JB(h:i<676):Nm (QT i):=by
 unfold QT;split
 .rename_i c;refine⟨by simp,by simp,λx hx=>?_⟩;obtain rfl:x=97+i:=by simpa using hx
  exact VF i c
 .refine⟨by simp,by simp,λx hx=>?_⟩;rcases aQ.mp hx with rfl | hx
  .exact VF _ (10:)
  .obtain rfl:x=97+i%26:=by simpa using hx
   exact VF _ (10:)
theorem Gg:∀ts:List TV,(nmVs ts).length=ts.length
 | []=>by rw [nmVs];rfl
 | t::r=>by rw [nmVs,aJ,aJ,Gg r]
theorem BJ(ts:List TV)(us:List (5:)):brG (nmVs ts) us=brG ts us:=by cases ts<;>rw [nmVs]<;>rfl
theorem Bf(a:Int):Mks a (mkW a):=by
 unfold mkW;split
 .rename_i h;exact .inr ⟨h,rfl⟩
 .exact .inl rfl
mutual
theorem R7:∀t:TV,gdV t->Tkt (nmV t) (wkV t)
 | .node (.call m b) k bs,h=>by
  rw [gdV]at h;obtain⟨⟨i,hi,rfl⟩,j,_,_⟩:=h;rw [nmV,wkV,UB];exact .call (JB hi) j
 | .node (.put n k a) _ bs,h=>by
  rw [gdV]at h;obtain⟨h1,h2,_,F,G⟩:=h;rw [nmV,wkV,<-BJ];exact .put h1 h2 (Bf a) (Pf bs G) (by rw [Gg];exact F)
theorem Pf:∀ts:List TV,gdVs ts->TktL (nmVs ts) (JX ts)
 | [],_=>by rw [nmVs,JX];exact .nil
 | t::r,h=>by
  rw [gdVs]at h;rw [nmVs,JX];exact .cons (R7 t h.1) (Pf r h.2)
end
mutual
theorem Rn:∀t:TV,gdV t->mbV t
 | .node (.call m b) k bs,h=>by rw [gdV]at h;rw [mbV];exact⟨h.1,h.2.1⟩
 | .node (.put n k a) _ bs,h=>by rw [gdV]at h;rw [mbV];exact⟨h.2.1,RH bs h.2.2.2.2⟩
theorem RH:∀ts:List TV,gdVs ts->LZ ts
 | [],_=>by rw [LZ];trivial
 | t::r,h=>by rw [gdVs]at h;rw [LZ];exact⟨Rn t h.1,RH r h.2⟩
end
mutual
theorem O4:∀t:TV,gdV t->lv (vN (nmV t))=lv t
 | .node (.call m b) k bs,h=>by rw [gdV]at h;rw [nmV,vN,lv,lv,h.2.2.2]
 | .node (.put n k a) _ bs,h=>by rw [gdV]at h;rw [nmV,vN,lv,lv,OD bs h.2.2.2.2]
theorem OD:∀ts:List TV,gdVs ts->lvs (vNs (nmVs ts))=lvs ts
 | [],_=>by rw [nmVs,vNs]
 | t::r,h=>by rw [gdVs]at h;rw [nmVs,vNs,lvs,lvs,O4 t h.1,OD r h.2]
end
mutual
theorem Lb:∀t:TV,gdV t->lv (nmV t)=lv t
 | .node (.call m b) k bs,h=>by rw [gdV]at h;rw [nmV,lv,lv,h.2.2.2,lvs,lvs]
 | .node (.put n k a) _ bs,h=>by rw [gdV]at h;rw [nmV,lv,lv,Mu bs h.2.2.2.2]
theorem Mu:∀ts:List TV,gdVs ts->lvs (nmVs ts)=lvs ts
 | [],_=>by rw [nmVs,lvs,lvs]
 | t::r,h=>by rw [gdVs]at h;rw [nmVs,lvs,lvs,Lb t h.1,Mu r h.2]
end
mutual
theorem Mp:∀t:TV,gdV t->sz (vN (nmV t))=sz t
 | .node (.call m b) k bs,h=>by rw [gdV]at h;rw [nmV,vN,sz,sz,h.2.2.2]
 | .node (.put n k a) _ bs,h=>by rw [gdV]at h;rw [nmV,vN,sz,sz,Po bs h.2.2.2.2]
theorem Po:∀ts:List TV,gdVs ts->szs (vNs (nmVs ts))=szs ts
 | [],_=>by rw [nmVs,vNs]
 | t::r,h=>by rw [gdVs]at h;rw [nmVs,vNs,szs,szs,Mp t h.1,Po r h.2]
end
mutual
theorem Ae:∀t:TV,clV (vN (nmV t))=(clV t).map λc=>(.str (S (mdS c.1)),c.2)
 | .node (.call m b) k bs=>by rw [nmV,vN,clV,clV];rfl
 | .node (.put n k a) _ bs=>by rw [nmV,vN,clV,clV,Sg bs]
theorem Sg:∀ts:List TV,clVs (vNs (nmVs ts))=(clVs ts).map λc=>(.str (S (mdS c.1)),c.2)
 | []=>by simp [nmVs,vNs,clVs]
 | t::r=>by rw [nmVs,vNs,clVs,clVs,Ae t,Sg r,aS]
end
mutual
theorem VE(g:V->V):∀t:TV,gdV t->(∀m b,(m,b)∈clV t->g (.str (S (mdS m)))=m)->mpV g (vN (nmV t))=t
 | .node (.call m b) k bs,h,j=>by
  rw [gdV]at h;obtain⟨_,_,rfl,rfl⟩:=h;rw [nmV,vN,mpV,j m b (by rw [clV];exact aL)]
 | .node (.put n k a) _ bs,h,j=>by
  rw [gdV]at h;obtain⟨_,_,rfl,_,F⟩:=h;rw [nmV,vN,mpV,Gp g bs F (λm b G=>j m b (by rw [clV];exact G)),QN]
theorem Gp(g:V->V):∀ts:List TV,gdVs ts->(∀m b,(m,b)∈clVs ts->g (.str (S (mdS m)))=m)->mpVs g (vNs (nmVs ts))=ts
 | [],_,_=>by rw [nmVs,vNs,mpVs]
 | t::r,h,hg=>by
  rw [gdVs]at h;rw [nmVs,vNs,mpVs,VE g t h.1 (λm b j=>hg m b (by rw [clVs];exact cU _ j)),Gp g r h.2 (λm b j=>hg m b (by rw [clVs];exact bV _ j))]
end
def En(rest:List Nat):Prop:=∀c,rest[0]?=some c->c∉QK/\c∉Zc
theorem En.nil:En []:=λc h=>by simp at h
theorem En.cons{r:List Nat}(h:c∉QK/\c∉Zc):En (c::r):=λd e=>by
 have:c=d:=by simpa using e
 rw [<-this];exact h
theorem Uh(h:c∈VC)(hn:c∉QK/\c∉Zc){ws:List (5:)}(w:Writ t ws):Writ (c::t) ([c]::ws):=
 .word (w:=[c]) (.sign h) (λa b j _=>by
  have:c=a:=by simpa using j
  subst this;exact⟨λz=>absurd z.1 hn.1,λz=>absurd z.1 hn.2⟩) w
theorem Y9{n:List Nat}(h:Nm n){ws:List (5:)}(hs:∀c,t[0]?=some c->c∉QK)(w:Writ t ws):Writ (n++t) (n::ws):=
 .word (.name h.ne h.len h.all) (λa b F G=>by
  have j:a∈n:=List.mem_of_getLast? F;exact⟨λz=>hs b G z.2,λz=>Tu a (h.all a j) z.1⟩) w
theorem Si{m:Int}(h:m.natAbs<10^60){ws:List (5:)}(hs:En t)(w:Writ t ws):Writ (sh m++t) (sh m::ws):=
 .word (W3 h) (λa b j F=>by
  obtain⟨L,G,J⟩:=Vl m;rw [G]at j;obtain rfl:=aK j;exact⟨λz=>Vd _ J z.1,λz=>(hs b F).2 z.2⟩) w
theorem VT(m:Int)(t:List Nat):∀c,(sh m++t)[0]?=some c->c∉QK:=λc j=>by
 obtain⟨F,J,G,h0⟩:=Ug m;rw [G]at j;have:F=c:=by simpa using j
 subst this;rcases h0 with h0 | h0
 .exact Vd _ h0
 .rw [h0];exact n45.2.1
theorem Yx{d:Nat}(h:d∉QK)(t:List Nat):∀c,(d::t)[0]?=some c->c∉QK:=λc j=>by
 have:d=c:=by simpa using j
 rw [<-this];exact h
theorem BN{n:List Nat}(hn:Nm n)(k:Bool){a:Int}(ha:a.natAbs<10^60){ws:List (5:)}(he:En t)(w:Writ t ws):Writ (n++(kpS k++(shM a++t))) (n::(kpW k++(mkW a++ws))):=by
 have h1:Writ (shM a++t) (mkW a++ws)/\∀c,(shM a++t)[0]?=some c->c∉QK:=by
  unfold shM mkW
  by_cases c:a=0
  .rw [aH c,aH c];exact⟨w,λc j=>(he c j).1⟩
  .rw [aF c,aF c];exact⟨Si ha he w,VT a t⟩
 cases k with
 | true=>exact Y9 hn (Yx (9:) _) (Uh (9:) (9:) h1.1)
 | false=>exact Y9 hn h1.2 h1.1
theorem Aw(ts:List (5:))(h:En rest):En ((ts.flatMap λy=>[32]++y)++rest):=by
 cases ts with
 | nil=>exact h
 | cons x r=>rw [dB];exact En.cons n32
mutual
theorem SO:∀t:TV,gdV t->∀rest ws,Writ rest ws->En rest->Writ (shV t++rest) (wkV t++ws)
 | .node (.call m b) k bs,h,rest,ws,j,J=>by
  rw [gdV]at h;obtain⟨⟨i,hi,rfl⟩,F,_,_⟩:=h;rw [shV,wkV,UB];have:=Uh (c:=42) (9:) (9:) (Y9 (JB hi) (VT b rest) (Si F J j))
  simpa [bO]using this
 | .node (.put n k a) _ bs,h,rest,ws,j,J=>by
  rw [gdV]at h;obtain⟨h1,h2,_,_,L⟩:=h;have F:Writ (shB (shVs bs)++rest) (brG bs (JX bs)++ws)/\En (shB (shVs bs)++rest):=by
   cases bs with
   | nil=>rw [shVs,JX];exact⟨j,J⟩
   | cons t r=>
    rw [gdVs]at L;have G:En (41::rest):=En.cons (9:);have M:=Uh (c:=41) (9:) (9:) j;have U:=Aa r L.2 _ _ M G;have Y:=SO t L.1 _ _ U (Aw _ G);have c4:=Uh (c:=40) (9:) (9:) Y;rw [shVs,JX];refine⟨by simpa [shB,brG,gl,bO]using c4,En.cons (9:)⟩
  have:=BN h1 k h2 F.2 F.1;rw [shV,wkV]
  simpa [bO,codes]using this
theorem Aa:∀ts:List TV,gdVs ts->∀rest ws,Writ rest ws->En rest->Writ (((shVs ts).flatMap λy=>[32]++y)++rest) (JX ts++ws)
 | [],_,rest,ws,j,_=>by rw [shVs,JX];exact j
 | t::r,h,rest,ws,j,he=>by
  rw [gdVs]at h;have F:=Aa r h.2 _ _ j he;have G:=SO t h.1 _ _ F (Aw _ he);have J:=Writ.blank G;rw [shVs,JX]
  simpa [bO]using J
end
abbrev MdD:=Str×List TV
def CU:List Nat->Nat
 | [a]=>a-97
 | [a,b]=>(a-97)*26+(b-97)
 | _=>0
theorem Vm(i:Nat):CU (QT i)=i:=by
 unfold QT;split
 .show 97+i-97=i;lia
 .show(97+i/26-97)*26+(97+i%26-97)=i;lia
theorem Xu(h:QT i=QT j):i=j:=by rw [<-Vm i,h,Vm]
def ruM(ks:List KdT)(i:Nat)(m:MdD):List RuN:=((Qr ks m.1).zip m.2).map λx=>⟨QT i,codes m.1,codes x.1.2.1,nmV x.2⟩
def ruD(ks:List KdT):Nat->List MdD->List RuN
 | _,[]=>[]
 | i,m::r=>ruM ks i m++ruD ks (i+1) r
def wkM(mo kind:List Nat)(zs:List (PNx×TV)):List (5:):=zs.flatMap λx=>[59]::(mo::kind::codes x.1.2.1::[58]::wkV x.2)
def wkD(ks:List KdT):Nat->List MdD->List (5:)
 | _,[]=>[]
 | i,m::r=>wkM (QT i) (codes m.1) ((Qr ks m.1).zip m.2)++wkD ks (i+1) r
structure GdM(ks:List KdT)(m:MdD):Prop where
 ln:m.2.length=(Qr ks m.1).length
 ne:Qr ks m.1≠[]
 gd:∀t∈m.2,gdV t/\lv t<=9
 nk:Nm (codes m.1)
 nr:∀r∈Qr ks m.1,Nm (codes r.2.1)
theorem RwL.app{a b:List RuN}{u v:List (5:)}(h:RwL a u)(k:RwL b v):RwL (a++b) (u++v):=by
 induction h with
 | nil=>exact k
 | @cons x F G J h1 h2 j=>
  have:=RwL.cons h1 j
  simpa [bO]using this
theorem rw_m(hm:Nm mo)(hk:Nm kind):∀zs:List (PNx×TV),(∀x∈zs,Nm (codes x.1.2.1)/\gdV x.2/\lv x.2<=9)->RwL (zs.map λx=>⟨mo,kind,codes x.1.2.1,nmV x.2⟩) (wkM mo kind zs)
 | [],_=>.nil
 | x::r,h=>by
  obtain⟨h1,h2,j⟩:=h x aL;have:=RwL.cons (TkR.mk (d:=9) hm hk h1 (R7 x.2 h2) (by rw [Lb _ h2];exact j)) (rw_m hm hk r λy F=>h y (aU _ F))
  simpa [wkM,dB]using this
theorem Rf{m:MdD}(h:GdM ks m):∀x∈(Qr ks m.1).zip m.2,Nm (codes x.1.2.1)/\gdV x.2/\lv x.2<=9:=λx j=>by
 have:=fG (a:=x.1) (b:=x.2) j;exact⟨h.nr _ this.1,h.gd _ this.2⟩
theorem rw_all(ks:List KdT):∀(D:List MdD)(i:Nat),i+D.length<=676->(∀m∈D,GdM ks m)->RwL (ruD ks i D) (wkD ks i D)
 | [],_,_,_=>.nil
 | m::r,i,hi,h=>by
  rw [aJ]at hi;have j:=h m aL;exact(rw_m (JB (10:)) j.nk _ (Rf j)).app (rw_all ks r (i+1) (10:) λx F=>h x (aU _ F))
theorem BD(xs:List (5:))(h:En rest):En ((xs.flatMap λy=>[59,32]++y)++rest):=by
 cases xs with
 | nil=>exact h
 | cons x r=>rw [dB];exact En.cons (9:)
theorem CD(hm:Nm mo)(hk:Nm kind){ws:List (5:)}(hw:Writ rest ws)(he:En rest):∀zs:List (PNx×TV),(∀x∈zs,Nm (codes x.1.2.1)/\gdV x.2/\lv x.2<=9)->Writ (((zs.map λx=>ruS mo kind (codes x.1.2.1) x.2).flatMap λy=>[59,32]++y)++rest) (wkM mo kind zs++ws)
 | [],_=>hw
 | x::r,h=>by
  obtain⟨h1,h2,Y⟩:=h x aL;have j:=CD hm hk hw he r λy F=>h y (aU _ F);have G:=SO x.2 h2 _ _ j (BD _ he);have J:=Y9 h1 (Yx n32.1 _) (Writ.blank (Uh (c:=58) (9:) (9:) (Writ.blank G)));have L:=Y9 hk (Yx n32.1 _) (Writ.blank J);have M:=Y9 hm (Yx n32.1 _) (Writ.blank L);have U:=Uh (c:=59) (9:) (9:) (Writ.blank M)
  simpa [wkM,ruS,dB,bO]using U
theorem R8(ks:List KdT){ws:List (5:)}(hw:Writ rest ws)(he:En rest):∀(D:List MdD)(i:Nat),i+D.length<=676->(∀m∈D,GdM ks m)->Writ (((tuR ks i D).flatMap λy=>[59,32]++y)++rest) (wkD ks i D++ws)
 | [],_,_,_=>hw
 | m::r,i,hi,h=>by
  rw [aJ]at hi;have j:=h m aL;have F:=R8 ks hw he r (i+1) (10:) λx G=>h x (aU _ G);have J:=CD (JB (show i<676 by lia)) j.nk F (BD _ he) _ (Rf j);rw [tuR,wkD,List.flatMap_append,bO,bO];exact J
theorem C4(ks:List KdT)(st:TV)(D:List MdD)(hs:gdV st)(hD:D.length<=676)(h:∀m∈D,GdM ks m):Writ (tuS ks st D) (wkV st++wkD ks 0 D):=by
 have j:=R8 ks .nil En.nil D 0 (10:) h;have F:=SO st hs _ _ j (BD _ En.nil);unfold tuS gl
 simpa using F
theorem Bo(rs l:List RuN):omR (rs++l)=l.foldl (λms x=>YK ms x.m) (omR rs):=by unfold omR;rw [iM]
theorem Pe:∀(l:List RuN)(ms:List (5:)),(∀x∈l,x.m=mo)->l≠[]->l.foldl (λms x=>YK ms x.m) ms=YK ms mo
 | [],_,_,h=>absurd rfl h
 | [x],ms,h,_=>by rw [List.foldl_cons,List.foldl_nil,h x aL]
 | x::y::r,ms,h,_=>by
  rw [List.foldl_cons,Pe (y::r) _ (λz hz=>h z (aU _ hz)) (22:),h x aL];unfold YK;split
  .rfl
  .rw [aH (bV _ aL)]
theorem Gn(ks:List KdT)(m:MdD):∀(D:List MdD)(i:Nat),ruD ks i (D++[m])=ruD ks i D++ruM ks (i+D.length) m
 | [],i=>by simp [ruD]
 | x::r,i=>by
  rw [dY,ruD,ruD,Gn ks m r (i+1),bO,aJ]
  congr 3;lia
theorem J1{m:MdD}{x:RuN}(h:x∈ruM ks i m):x.m=QT i/\x.k=codes m.1/\∃(r:PNx)(t:TV),r∈Qr ks m.1/\t∈m.2/\x.n=codes r.2.1/\x.t=nmV t:=by
 obtain⟨y,j,rfl⟩:=aP.mp h;have:=fG (a:=y.1) (b:=y.2) j;exact⟨rfl,rfl,y.1,y.2,this.1,this.2,rfl,rfl⟩
theorem UD{m:MdD}(h:GdM ks m):(ruM ks i m).length=(Qr ks m.1).length:=by
 unfold ruM;rw [aA,dN,h.ln,Nat.min_self]
theorem W2(D:List MdD)(h:∀m∈D,GdM ks m):omR (ruD ks 0 D)=(List.range D.length).map QT:=by
 revert h;refine YB (p:=λD=>(∀m∈D,GdM ks m)->omR (ruD ks 0 D)=(List.range D.length).map QT) (λ_=>rfl) (λD m J h=>?_) D;have G:=h m (bV _ aL);rw [Gn,Bo,J λx F=>h x (cU _ F),eG];rw [Pe (mo:=QT D.length) _ _ (λx F=>(J1 F).1) (λz=>G.ne (fX.mp (by rw [<-UD (i:=D.length) G,z];rfl)))];unfold YK;rw [aF λz=>?_]
 .rw [aI,cT,List.range_succ,aS];rfl
 .obtain⟨j,L,e⟩:=aP.mp z;have:=Xu e;rw [cN]at L;lia
theorem W5(a b:List RuN)(m:List Nat):rsR (a++b) m=rsR a m++rsR b m:=gU ..
theorem S8(ks:List KdT)(i:Nat)(m:MdD):rsR (ruM ks i m) (QT i)=ruM ks i m:=List.filter_eq_self.mpr λx j=>aV (J1 j).1
theorem PV(hne:i≠j)(m:MdD):rsR (ruM ks i m) (QT j)=[]:=List.filter_eq_nil_iff.mpr λx F z=>hne (Xu ((J1 F).1.symm.trans (b_ z)))
theorem RY:∀(D:List MdD)(i j:Nat),j<i->rsR (ruD ks i D) (QT j)=[]
 | [],_,_,_=>rfl
 | m::r,i,j,h=>by rw [ruD,W5,PV (10:),RY r (i+1) j (10:)];rfl
theorem GQ:∀(D:List MdD)(i j:Nat)(m:MdD),D[j]?=some m->rsR (ruD ks i D) (QT (i+j))=ruM ks (i+j) m
 | [],_,_,_,h=>by simp at h
 | x::r,i,0,m,h=>by
  have:x=m:=by simpa using h
  subst this;rw [ruD,W5,Nat.add_zero,S8,RY r (i+1) i (10:),cC]
 | x::r,i,j+1,m,h=>by
  have h':r[j]?=some m:=by simpa using h
  rw [ruD,W5,PV (10:),hJ,show i+(j+1)=i+1+j by lia];exact GQ r (i+1) j m h'
structure GdT(ks:List KdT)(k0:Str)(st:TV)(D:List MdD):Prop where
 sg:gdV st
 stl:lv st<=9
 kp:kpV st=false
 n:D.length<=200
 md:∀m∈D,GdM ks m
 n40:(ruD ks 0 D).length<=40
 n120:sz st+szR (ruD ks 0 D)<=120
 fit:∀m∈D,RuFit ks (D.map λm=>m.1) m.1 m.2
 fst:Yw (D.map λm=>m.1) [k0] st
def kdD(D:List MdD)(x:List Nat):List Nat:=codes ((D[CU x]?.map λm=>m.1).getD (S []))
theorem V5{D:List MdD}{m:MdD}(h:D[i]?=some m):kdD D (QT i)=codes m.1:=by unfold kdD;rw [Vm,h];rfl
section
variable{k0:Str}{st:TV}{D:List MdD}
theorem CT(h:GdT ks k0 st D):((List.range D.length).map QT).Nodup:=fB.mpr (List.nodup_range.imp λj e=>j (Xu e))
theorem Bj(h:GdT ks k0 st D)(hi:i<D.length):Yo ((List.range D.length).map QT) (.str (S (QT i)))=.int (i:Int):=by
 have hl:i<((List.range D.length).map QT).length:=by rw [aA,gX];exact hi
 have e:((List.range D.length).map QT)[i]=QT i:=by rw [bR,List.getElem_range]
 show V.int ((nixS _ (S (QT i)):Nat):Int)=_;rw [<-e,Lz (CT h) hl]
theorem VG(h:GdT ks k0 st D){t:TV}{k:List Str}(hf:Yw (D.map λm=>m.1) k t):(∀m b,(m,b)∈clV t->Yo ((List.range D.length).map QT) (.str (S (mdS m)))=m)/\InM ((List.range D.length).map QT) (vN (nmV t)):=by
 refine⟨λm b F=>?_,λm b F=>?_⟩
 .obtain⟨i,j,rfl,_,hi,_⟩:=hf m b F;rw [aA]at hi;rw [UB];exact Bj h hi
 .rw [Ae]at F;obtain⟨c,G,e⟩:=aP.mp F;obtain⟨i,j,J,_,hi,_⟩:=hf c.1 c.2 G;rw [aA]at hi;refine⟨QT i,cJ (cN.mpr hi),?_⟩;have e1:V.str (S (mdS c.1))=m:=congrArg Prod.fst e;rw [<-e1,J,UB]
theorem MJ:∀(D:List MdD)(i:Nat){x:RuN},x∈ruD ks i D->∃(j:Nat)(m:MdD),D[j]?=some m/\x∈ruM ks (i+j) m
 | [],_,x,h=>by rw [ruD]at h;cases h
 | m::r,i,x,h=>by
  rw [ruD]at h;rcases aW.mp h with h | h
  .exact⟨0,m,rfl,h⟩
  .obtain⟨j,F,e,h'⟩:=MJ r (i+1) h;exact⟨j+1,F,by simpa using e,by rw [show i+(j+1)=i+1+j by lia];exact h'⟩
theorem Ot(hO:WoodOk ks){m:MdD}(h:GdM ks m):((ruM ks i m).map λr=>S r.n).Nodup:=by
 have e:((ruM ks i m).map λr=>S r.n)=(Qr ks m.1).map λt=>t.2.1:=by
  unfold ruM;rw [aZ];refine eS (by rw [aA,aA,dN,h.ln,Nat.min_self]) λi h1 h2=>?_;rw [bR,bR,fQ];exact QN _
 rw [e];exact(Zm hO m.1).nd
theorem BL{m:MdD}(h:GdM ks m)(h1:j<(Qr ks m.1).length)(h2:j<m.2.length):∃hj:j<(ruM ks i m).length,(ruM ks i m)[j]=⟨QT i,codes m.1,codes (Qr ks m.1)[j].2.1,nmV m.2[j]⟩:=by
 refine⟨by rw [UD h];exact h1,?_⟩;unfold ruM;rw [bR,fQ]
theorem Ru:∀{rs:List RuN}{x:RuN},x∈rs->sz (vN x.t)<=szR rs
 | y::r,x,h=>by
  unfold szR;rw [aR,cY];rcases aQ.mp h with rfl | h
  .lia
  .have:=Ru h;unfold szR at this;lia
theorem M0(hO:WoodOk ks)(h:GdT ks k0 st D){m:MdD}(e:D[i]?=some m):Jw ks (ruD ks 0 D) (kdD D) (QT i)=m.2:=by
 have F:=h.md m (bC e);have L:=h.fit m (bC e);unfold Jw;rw [V5 e,QN,W2 D h.md];have G:=GQ (ks:=ks) D 0 i m e;rw [eG]at G;rw [G];refine eS (by rw [aA,F.ln]) λj h1 h2=>?_;rw [aA]at h1;rw [bR];obtain⟨M,J⟩:=BL (i:=i) F h1 h2;have U:ruT (ruM ks i m) (Qr ks m.1)[j].2.1=vN (nmV m.2[j]):=by
  unfold ruT;have e1:S (ruM ks i m)[j].n=(Qr ks m.1)[j].2.1:=by rw [J];exact QN _
  rw [<-e1,UK (λr:RuN=>S r.n) (ruM ks i m) (Ot hO F) j M,J];rfl
 rw [U];exact VE _ _ (F.gd _ (aO h2)).1 (VG h (L.fit j h1 h2)).1
theorem JD(h:GdT ks k0 st D):mpV (Yo (omR (ruD ks 0 D))) (vN (nmV st))=st:=by
 rw [W2 D h.md];exact VE _ _ h.sg (VG h h.fst).1
theorem XW(h:GdT ks k0 st D):((omR (ruD ks 0 D)).map λm=>S (kdD D m))=D.map λm=>m.1:=by
 rw [W2 D h.md,aZ];refine eS (22:) λi h1 h2=>?_;rw [aA]at h2;rw [bR,bR,List.getElem_range];show S (kdD D (QT i))=_;rw [V5 (aE h2),QN]
theorem BZ(hO:WoodOk ks)(h:GdT ks k0 st D):TuR ks k0 (ruD ks 0 D) (vN (nmV st)) (kdD D)/\(omR (ruD ks 0 D)).map (λm=>(S (kdD D m),Jw ks (ruD ks 0 D) (kdD D) m))=D:=by
 have G:=W2 D h.md;have L:∀x∈omR (ruD ks 0 D),∃(i:Nat)(m:MdD),x=QT i/\D[i]?=some m:=λx F=>by
  rw [G]at F;obtain⟨i,hi,rfl⟩:=aP.mp F;exact⟨i,_,rfl,aE (cN.mp hi)⟩
 have U:=h.n120;refine⟨⟨λx F=>?_,λx F=>?_,?_,?_,?_,h.n40,?_,λx F=>?_,?_⟩,?_⟩
 .obtain⟨i,m,rfl,e⟩:=L x F;have J:=h.md m (bC e);have M:=GQ (ks:=ks) D 0 i m e;rw [eG]at M;rw [M,V5 e];have ac:=(Zm hO m.1).len;refine⟨λr Y=>(J1 Y).2.1,λr Y=>?_,Ot hO J,by rw [QN,UD J];exact bX _,by rw [UD J];lia⟩;obtain⟨_,_,rw,t,h1,h2,h3,_⟩:=J1 Y;rw [QN,h3,QN];unfold Xq;intro z;rw [Option.map_eq_none_iff,List.find?_eq_none]at z;exact z rw h1 (aV rfl)
 .obtain⟨j,m,e,aa⟩:=MJ D 0 F;obtain⟨_,_,r,t,h1,h2,h3,h4⟩:=J1 aa;have hm:=bC e;have J:=(h.md m hm).gd t h2;have hs:=Ru F;rw [h4]at hs ⊢;obtain⟨k,hk,rfl⟩:=cS.mp h2;have ab:k<(Qr ks m.1).length:=by rw [<-(h.md m hm).ln];exact hk
  rw [G];exact⟨by rw [O4 _ J.1];exact J.2,by lia,(VG h ((h.fit m hm).fit k ab hk)).2⟩
 .rw [G];exact⟨by rw [O4 _ h.sg];exact h.stl,by rw [Mp _ h.sg];lia,(VG h h.fst).2⟩
 .rw [JD h];exact⟨h.stl,by lia⟩
 .rw [JD h];exact h.kp
 .rw [Mp _ h.sg];exact U
 .obtain⟨i,m,rfl,e⟩:=L x F;rw [XW h,M0 hO h e,V5 e,QN];exact h.fit m (bC e)
 .rw [XW h,JD h];exact h.fst
 .rw [G,aZ];refine eS (22:) λi h1 h2=>?_;rw [bR,List.getElem_range];show(S (kdD D (QT i)),Jw ks (ruD ks 0 D) (kdD D) (QT i))=_;rw [M0 hO h (aE h2),V5 (aE h2),QN]
end
def vd:V->PyData
 | .int i=>.int i
 | _=>.none
mutual
noncomputable def tvd:TV->PyData
 | .node (.call m b) _ _=>.tuple [.str CALL,vd m,.int b]
 | .node (.put n k a) _ bs=>.tuple [.str PUT,.str n,.bool k,.int a,.tuple (Z6 bs)]
noncomputable def Z6:List TV->List PyData
 | []=>[]
 | t::r=>tvd t::Z6 r
end
mutual
theorem Ad{K:Fg}{H:Hp}:∀{v:V}{t:TV},TvV K H v t->gdV t->RdV K H v (tvd t)
 | _,_,.call h,j=>by
  rw [gdV]at j;obtain⟨⟨i,_,rfl⟩,_⟩:=j;rw [tvd];exact .tup h (.cons (.str _) (.cons (.int _) (.cons (.int _) .nil)))
 | _,_,.put h1 h2 F G,j=>by
  rw [gdV]at j;rw [tvd];exact .tup h1 (.cons (.str _) (.cons (.str _) (.cons (.bl _) (.cons (.int _) (.cons (.tup h2 (XH F j.2.2.2.2)) .nil)))))
theorem XH{K:Fg}{H:Hp}:∀{vs:List V}{ts:List TV},TvAll K H vs ts->gdVs ts->RdAll K H vs (Z6 ts)
 | _,_,.nil,_=>by rw [Z6];exact .nil
 | _,_,.cons h r,j=>by
  rw [gdVs]at j;rw [Z6];exact .cons (Ad h j.1) (XH r j.2)
end
theorem S0:∀c∈QK,c<128:=by decide
theorem Br{u:List Nat}(h:∀c∈u,c<128):PyData.strOk (S u)=true:=by
 unfold PyData.strOk;rw [Array.all_eq_true_iff_forall_mem];intro c j;have:c∈u:=by simpa [S]using j
 have:=h c this;simp;lia
theorem Jf(h:Nm (codes x)):PyData.strOk x=true:=by
 rw [<-QN x];exact Br λc j=>S0 c (h.all c j)
theorem OI:PyData.strOk CALL=true:=by decide+kernel
theorem Cw:PyData.strOk PUT=true:=by decide+kernel
mutual
theorem R6:∀t:TV,gdV t->(tvd t).canLay0=true/\(tvd t).depth<=2*lv t
 | .node (.call m b) _ bs,h=>by
  rw [gdV]at h;obtain⟨⟨i,_,rfl⟩,_,_,rfl⟩:=h;rw [tvd,lv,lvs];simp only [vd,PyData.canLay0,PyData.canLayAll0,PyData.depth,PyData.depthAll,OI,dO,dR];lia
 | .node (.put n k a) _ bs,h=>by
  rw [gdV]at h;obtain⟨h1,_,_,_,j⟩:=h;obtain⟨k1,F⟩:=UR bs j;rw [tvd,lv];simp only [PyData.canLay0,PyData.canLayAll0,PyData.depth,PyData.depthAll,Cw,Jf h1,k1,dO,dR];lia
theorem UR:∀ts:List TV,gdVs ts->PyData.canLayAll0 (Z6 ts)=true/\PyData.depthAll (Z6 ts)<=2*lvs ts
 | [],_=>by rw [Z6,lvs];simp [PyData.canLayAll0,PyData.depthAll]
 | t::r,h=>by
  rw [gdVs]at h;obtain⟨k1,F⟩:=R6 t h.1;obtain⟨j,G⟩:=UR r h.2;rw [Z6,lvs];simp only [PyData.canLayAll0,PyData.depthAll,k1,j,dO,dR];lia
end
theorem WM:∀ts:List TV,(∀t∈ts,gdV t)->gdVs ts
 | [],_=>by rw [gdVs];trivial
 | t::r,h=>by rw [gdVs];exact⟨h t aL,WM r λu j=>h u (aU _ j)⟩
theorem BH(h:∀t∈ts,lv t<=n):lvs ts<=n:=by
 induction ts with
 | nil=>rw [lvs];lia
 | cons t r j=>
  rw [lvs];have:=h t aL;have:=j λu F=>h u (aU _ F);lia
theorem Uf{α:Type}(f:α->PyData)(n:Nat):∀l:List α,(∀x∈l,(f x).canLay0=true/\(f x).depth<=n)->PyData.canLayAll0 (l.map f)=true/\PyData.depthAll (l.map f)<=n
 | [],_=>by simp [PyData.canLayAll0,PyData.depthAll]
 | x::r,h=>by
  obtain⟨k1,G⟩:=h x aL;obtain⟨j,J⟩:=Uf f n r λy F=>h y (aU _ F);simp only [aR,PyData.canLayAll0,PyData.depthAll,k1,j,dO,dR];lia
theorem Jb{K:Fg}{α:Type}(v:α->V)(f:α->PyData):∀l:List α,(∀x∈l,RdV K H (v x) (f x))->RdAll K H (l.map v) (l.map f)
 | [],_=>.nil
 | x::r,h=>.cons (h x aL) (Jb v f r λy j=>h y (aU _ j))
def rwD(t:PNx):PyData:=.tuple [.str t.2.1,.tuple (t.2.2.2.map PyData.str)]
def wkd(k:Str×List PNx):PyData:=.tuple [.str k.1,.list (k.2.map rwD)]
def wdD(d:List (Str×List PNx)):PyData:=.list (d.map wkd)
theorem rw_rd{K:Fg}{t:PNx}(h:RowAt K H t):RdV K H (.ref t.1) (rwD t):=.tup h.1 (.cons (.str _) (.cons (.tup h.2 (Jb V.str PyData.str _ λx _=>.str x)) .nil))
theorem O5{K:Fg}{w:Addr}(h:WoodAt K H w ks):RdV K H (.ref w) (wdD (dW ks)):=by
 unfold wdD dW;rw [aZ];refine .lst h.1 (Jb (λk:KdT=>V.ref k.1) (wkd∘λk:KdT=>(k.2.1,k.2.2.2)) ks λk j=>?_);exact .tup (h.2 k j).1 (.cons (.str _) (.cons (.lst (h.2 k j).2.1 (Jb _ rwD _ λt F=>rw_rd ((h.2 k j).2.2 t F))) .nil))
theorem PP(hO:WoodOk ks)(hk:∀k∈ks,PyData.strOk k.2.1=true):(wdD (dW ks)).canLay0=true/\(wdD (dW ks)).depth<=8:=by
 have h:=Uf (wkd∘λk:KdT=>(k.2.1,k.2.2.2)) 6 ks λk j=>by
  have h2:=Uf rwD 3 k.2.2.2 λt F=>by
   have G:=Uf PyData.str 0 t.2.2.2 λx J=>⟨by simp only [PyData.canLay0];exact(hO.rows k j).kn t F x J,by simp [PyData.depth]⟩;simp only [rwD,PyData.canLay0,PyData.canLayAll0,PyData.depth,PyData.depthAll,(hO.rows k j).nm t F,G.1,dO,dR];lia
  simp only [Function.comp,wkd,PyData.canLay0,PyData.canLayAll0,PyData.depth,PyData.depthAll,hk k j,h2.1,dO,dR];lia
 unfold wdD dW;rw [aZ];simp only [PyData.canLay0,PyData.depth,h.1,dR];lia
def mdd(m:MdD):PyData:=.tuple [.str m.1,.list (Z6 m.2)]
theorem Cp{K:Fg}(h:ModesV K H lm ms)(hg:∀m∈dM ms,∀t∈m.2,gdV t):RdV K H (.ref lm) (.list ((dM ms).map mdd)):=by
 unfold dM;rw [aZ];refine .lst h.1 (Jb (λm:MvT=>V.ref m.1) _ ms λm j=>?_);obtain⟨h1,h2,F⟩:=h.2 m j;exact .tup h1 (.cons (.str _) (.cons (.lst h2 (XH F (WM _ (hg _ (cJ (f:=λm:MvT=>(m.2.1,m.2.2.2.2)) j))))) .nil))
def tuD(ks:List KdT)(st:TV)(D:List MdD):PyData:=.tuple [wdD (dW ks),tvd st,.list (D.map mdd)]
theorem AJ{st:TV}{D:List MdD}(hO:WoodOk ks)(hk:∀k∈ks,PyData.strOk k.2.1=true)(hs:gdV st)(hl:lv st<=9)(hD:∀m∈D,GdM ks m):(tuD ks st D).canLay0=true/\(tuD ks st D).depth<=40:=by
 obtain⟨G,M⟩:=PP hO hk;obtain⟨J,U⟩:=R6 st hs;have h:=Uf mdd 22 D λm j=>by
  obtain⟨L,Y⟩:=UR m.2 (WM _ λt F=>((hD m j).gd t F).1);have c3:lvs m.2<=9:=BH λt F=>((hD m j).gd t F).2;simp only [mdd,PyData.canLay0,PyData.canLayAll0,PyData.depth,PyData.depthAll,Jf (hD m j).nk,L,dO,dR];lia
 unfold tuD;simp only [PyData.canLay0,PyData.canLayAll0,PyData.depth,PyData.depthAll,G,J,h.1,dO,dR];lia
end K12
namespace L2
open PySem PySem.Spec PyProof.Rows
section
variable{p pos2:Pos}
end
theorem XU(z:List Nat):∀(k:Nat)(acc:List Nat),List.foldl (λx1 x2=>x1++x2) acc.toArray (List.replicate k (S z).cps)=(acc++(List.replicate k z).flatten).toArray
 | 0,acc=>by simp
 | k+1,acc=>by
  have e:acc.toArray++(S z).cps=(acc++z).toArray:=by simp [S]
  rw [fA,List.foldl_cons,e,XU z k (acc++z),fA];simp
theorem GR:OpR X (binaryOp .Mult) (λx y H Q=>∃(z:List Nat)(n:Nat),x=.str (S z)/\y=.int (n:Int)/\z≠[]/\z.length<=100/\n<=1000/\Q (.str (S (List.replicate n z).flatten)) H):=by
 intro pins s σ H x y v u Q I j F h;obtain⟨z,n,rfl,rfl,hz,h1,h2,q⟩:=h;obtain⟨t,rfl⟩:=j;obtain⟨U,rfl⟩:=F;have hl:(S z).length=z.length:=Qo _;have L:=gR.mpr hz;have G:z.length*n<=100*1000:=Nat.mul_le_mul h1 h2;refine P.mul_str ?_ (λ_ _=>?_) (λ_ _=>?_) ?_
 .rw [bM (10:),bM (10:)];rfl
 .rename_i hp _;rw [hl];have M:(1:Int)<=(n:Int):=by lia
  have:(z.length:Int)<=(2^63-1)/(n:Int):=(Int.le_ediv_iff_mul_le (10:)).mpr (by
   have:(z.length:Int)*(n:Int)=((z.length*n:Nat):Int):=by simp
   rw [this];lia)
  lia
 .rw [hl];unfold Builtin.Str.tooLong;simp only [decide_eq_false_iff_not];rw [cZ];show ¬z.length*((n:Int)).toNat>_;rw [dJ];lia
 .by_cases J:n=0
  .subst J;rw [aH (9:)];exact⟨by decide,.str (S []),H,I.tok _,⟨_,rfl⟩,q⟩
  .rw [aF (10:)]
   by_cases hn:n=1
   .subst hn;rw [aH (22:)];refine⟨.str (S z),H,I,⟨_,rfl⟩,?_⟩
    simpa using q
   .rw [aF (by rw [hl];simp [hz];lia)];have e:=XU z n [];rw [hJ]at e;refine⟨?_,.str _,H,I.tok _,⟨_,rfl⟩,?_⟩
    .rw [dJ,e];show((List.replicate n z).flatten).toArray.size<=_;rw [aX,Ty,cZ,Nat.mul_comm];lia
    .rw [dJ,e];exact q
end L2
namespace K12
open PySem L2 K3 TM K9
theorem Py(hi:i<26)(hj:j<26)(e:QK.getD i 0=QK.getD j 0):i=j:=by
 have hn:QK.Nodup:=by decide
 have h1:QK.getD i 0=QK[i]'hi:=by rw [dA,aE (show i<QK.length from hi)];rfl
 have h2:QK.getD j 0=QK[j]'hj:=by rw [dA,aE (show j<QK.length from hj)];rfl
 rw [h1,h2]at e;exact(eR hn).mp e
theorem J6(hi:i<26):QK.getD i 0∈QK/\QK[i]?=some (QK.getD i 0):=by
 have hl:i<QK.length:=hi;have e:QK.getD i 0=QK[i]:=by rw [dA,aE hl];rfl
 rw [e];exact⟨aO hl,aE hl⟩
theorem cutTo(z:List Nat)(k:Nat):Jr (S z) none (some (k:Int))=S (z.take k):=by
 unfold Jr;rw [HT.sIx_none,HT.sIx_nat,Qo,Q3,List.drop_zero,Nat.sub_zero]
 by_cases h:k<=z.length
 .rw [d_ h];rfl
 .rw [gZ (10:),cQ (8:),cQ (10:)];rfl
theorem Aq(z:List Nat)(k:Nat):Jr (S z) (some (k:Int)) none=S (z.drop k):=by
 unfold Jr;rw [HT.sIx_none,HT.sIx_nat,Qo,Q3]
 by_cases h:k<=z.length
 .rw [d_ h,cQ (by rw [dC];lia)];rfl
 .rw [gZ (10:),f_ (8:),f_ (10:),List.take_nil];rfl
def Gz(base:List Nat)(there first k:Nat):List Nat:=base.take there++[QK.getD ((first+k)%26) 0]++base.drop (there+1)
theorem S4{base:List Nat}(hi:i<26)(hj:j<26)(e:Gz base there first i=Gz base there first j):i=j:=by
 unfold Gz at e;have e2:=List.append_inj_left' e rfl;have e3:=List.append_cancel_left e2;have e4:QK.getD ((first+i)%26) 0=QK.getD ((first+j)%26) 0:=by simpa using e3
 have:=Py (eI _ (9:)) (eI _ (9:)) e4;lia
theorem My{base:List Nat}{k:Nat}(h:there<base.length):(Gz base there first k).length=base.length:=by
 unfold Gz;rw [aI,aI,bH,cT,dC];lia
theorem AT{base:List Nat}{k:Nat}(h:there<base.length)(h8:base.length<=8)(ha:∀x∈base,x∈QK):Nm (Gz base there first k):=by
 refine⟨λz=>?_,?_,λx hx=>?_⟩
 .have:=congrArg List.length z;rw [My h]at this;simp only [b']at this;lia
 .rw [My h];exact h8
 .unfold Gz at hx;rcases aW.mp hx with hx | hx
  .rcases aW.mp hx with hx | hx
   .exact ha x (cH hx)
   .have:x=QK.getD ((first+k)%26) 0:=by simpa using hx
    rw [this];exact(J6 (eI _ (9:))).1
  .exact ha x (iH hx)
theorem Tq:(QK.all λc=>match Builtin.Str.occurrences ZU ⟨#[c]⟩ 0 ZU.length 1 with | i::_=>QK[i]? ==some c | []=>false)=true:=by decide+kernel
theorem NU:MtR X "str.index" (λx vs H Q=>∃(c:Nat),x=.str ZU/\vs=[.str ⟨#[c]⟩]/\c∈QK/\∀i:Nat,QK[i]?=some c->Q (.int (i:Int)) H):=by
 intro pins s σ H x xs v L Q I F G h;obtain⟨c,rfl,rfl,J,q⟩:=h;obtain⟨t,rfl⟩:=(show ∃t,v=Value.str ZU t from F);obtain⟨u,rfl,ru⟩:=G.one;obtain⟨t2,rfl⟩:=(show ∃t,u=Value.str ⟨#[c]⟩ t from ru);have h1:=List.all_eq_true.mp Tq c J;cases j:Builtin.Str.occurrences ZU ⟨#[c]⟩ 0 ZU.length 1 with
 | nil=>rw [j]at h1;cases h1
 | cons i rest=>
  rw [j]at h1;exact SC.index j ⟨.int i,H,I.tok _,⟨_,rfl⟩,q i (beq_iff_eq.mp h1)⟩
def XB(K:Fg):Sp:=λvs H Q _=>∃(a:Addr)(ns:List Int)(k:Nat),vs=[.ref a,.int k]/\SqL K H a (ns.map V.int)/\∀c:Int,Q (.int c) H
def VN(K:Fg):Sp:=λvs H Q _=>∃(c wh:Int)(lots:Nat),vs=[.int c,.int wh,.int (lots:Int)]/\lots<=26/\∀(l:Addr)(H':Hp)(zs:List (5:)),Same H H'->H' l=some (.lst (zs.map λx=>V.str (S x)))->H l=none->zs.length=lots->zs.Nodup->(∀z∈zs,Nm z)->Q (.ref l) H'
section
variable{K:Fg}{fd:FuncData}
theorem BR:FnScope ["_law_script","_law_k"] ["_law_script","_law_k"] (defScope OU):=(0:)
theorem TK(F:Fun K "_law_cell_at" "_law_cell_at" OU f fd)(G:Gm mg):FnOk P w K mg base CX0 1 f fd ["_law_script","_law_k"] (XB K):=by
 refine F.ok BR (λM H Q E h=>?_) (λaa A L s H M Q E hr h=>?_)
 .obtain⟨a,j,k,rfl,_⟩:=h
  rfl
 obtain⟨a,j,k,rfl,J,q⟩:=h;refine⟨_,Qd (QC (Qu Jk (pv 1) (Qv Qy rfl G.len bJ (Qa (pv 0) Qc)) (QB _)) (Qh (Qn (Qk QD (pv 0) (pv 1) (λ_ _=>rfl)))) Qt)
  (Qh (Qn Qf)),?_⟩
 refine⟨_,rfl,_,rfl,a,_,rfl,.inl J,_,_,rfl,rfl,_,rfl,Ui (λc=>?_) (λc=>?_)⟩
 .have U:(k:Int)<(((j.map V.int).length:Nat):Int):=b_ c;rw [aA]at U;have Y:k<j.length:=by lia
  exact⟨_,rfl,_,rfl,a,_,k,.int j[k],rfl,rfl,J,QL (by rw [aM,aE Y];rfl),q _⟩
 .exact q 0
abbrev DH:List Str:=["_law_cell","_law_where","_law_lots","_law_letters","_law_number","_law_base","_law_k","_law_there","_law_first"]
theorem Yj:FnScope DH ["_law_cell","_law_where","_law_lots"] (defScope Lc):=(0:)
theorem Pr(F:Fun K "_law_names" "_law_names" Lc f fd)(G:Gm mg):FnOk P w K mg base CX0 1 f fd ["_law_cell","_law_where","_law_lots"] (VN K):=by
 refine F.ok Yj (14:) (λan A al s H vs Q E hr h=>?_)
 .obtain⟨c,M,L,rfl,_⟩:=h
  rfl
 obtain⟨c,M,L,rfl,am,q⟩:=h;refine⟨_,(Qd (Qm (i:=3) Yj.nd rfl (cB rfl) Qj)
  (Qd (Qm (i:=4) Yj.nd rfl (7:) (Ql QP (pv 0) (Ql Z8 Qf Qf)))
  (Qd (Qm (i:=5) Yj.nd rfl (cB rfl) Qj)
  (Qd (Ze bS rfl (Zr rfl G.rng (Qa (Ql Zx Qf (Ql QP (pv 4) Qf)) Qc)) (Qz (i:=6) Yj.nd rfl (7:)) (Qh (Qm (i:=5) Yj.nd rfl (cB rfl) (Ql Qq (pv 5) (Qk ZG (pv 3) (Ql QP (Ql Zx (Ql Zu (pv 4) (Ql Zx (pv 6) Qf)) (Ql JY (Ql JY Qf (pv 6)) (pv 6))) Qf) (λ_ _=>rfl))))))
  (Qd (Qm (i:=7) Yj.nd rfl (cB rfl) (Ql QP (pv 1) (Qv Zb rfl G.len bJ (Qa (pv 5) Qc))))
  (Qd (Qm (i:=8) Yj.nd rfl (cB rfl) (Zi iF PySem.F.slot_str_index PySem.F.type_str_index NU (pv 3) (Qa (Qk ZG (pv 5) (pv 7) (λ_ _=>rfl)) Qc)))
  (Qh (Qn (QY (CompG.many (xs:=["_law_k"]) (caps:=["_law_base","_law_first","_law_letters","_law_there"]) (cap:=[5,8,3,7]) (cs:=[_,_,_,_]) rfl rfl (1:) (1:) (1:) (1:) (1:) (1:) rfl rfl rfl) rfl (Zr rfl G.rng (Qa (pv 2) Qc)) (UU (CompG.many (xs:=["_law_k"]) (caps:=["_law_base","_law_first","_law_letters","_law_there"]) (cap:=[5,8,3,7]) (cs:=[_,_,_,_]) rfl rfl (1:) (1:) (1:) (1:) (1:) (1:) rfl rfl rfl)) (λ_ _ _ _=>Zg) (λ_ _ _ _=>Ql Qq (Ql Qq (Zo WB (pv 1) Zv (Za (pv 4))) (Qk ZG (pv 3) (Ql QP (Ql Zx (pv 2) (pv 0)) Qf) (λ_ _=>rfl))) (Zo WB (pv 1) (Za (Ql Zx (pv 4) Qf)) Zv))))))))))),?_⟩
 try dsimp only [QW,Cx.nox]
 refine L2.let6 ?_
 intros
 refine⟨_,rfl,_,_,rfl,rfl,⟨by decide,by decide,by decide⟩,_,_,rfl,rfl,(by show(0:Int)<10^20;decide),?_⟩;dsimp only;generalize hn:c%10^Int.toNat 20=n;have ao:0<=n:=by rw [<-hn];exact cA _ (9:)
 have h0:0<=n%8:=cA n (9:);have h8:n%8<8:=cL n (9:);refine⟨_,rfl,_,_,rfl,rfl,(by show(0:Int)<8;decide),_,_,rfl,rfl,_,rfl,(by show-(2^62:Int)<=1+n%8;lia),(by show(1+n%8:Int)<2^62;lia),?_⟩;refine ZE (lo:=0) (n:=(1+n%8).toNat) (λi σ H'=>∃(nm:List Nat)(kv:Option V),σ=[some (.int c),some (.int M),some (.int (L:Int)),some (.str ZU),some (.int n),some (.str (S nm)),kv,none,none]/\H'=H/\nm.length=i/\(∀x∈nm,x∈QK))
  ⟨[],none,by rw [show S []=Str.ofString "" by decide+kernel];rfl,rfl,rfl,λx hx=>by cases hx⟩ ?_ ?_
 .rintro i σ H' hi ⟨nm,kv,rfl,rfl,hl,ha⟩;have ap:i<8:=by lia
  refine⟨_,rfl,_,rfl,_,rfl,_,rfl,_,_,rfl,rfl,_,_,rfl,rfl,⟨by lia,by lia⟩,_,rfl,_,_,rfl,rfl,.inl ⟨by decide,by decide⟩,_,rfl,_,_,rfl,rfl,.inl ⟨by lia,by lia⟩,_,_,rfl,rfl,_,_,rfl,rfl,(by show(0:Int)<26;decide),?_⟩;dsimp only;generalize hx:(n/(0+(i:Int)+1)+3*(0+(i:Int))*(0+(i:Int)))%26=x;have aq:0<=x:=by rw [<-hx];exact cA _ (9:)
  have ar:x<26:=by rw [<-hx];exact cL _ (9:)
  obtain⟨y,rfl⟩: ∃y:Nat,x=(y:Int):=⟨x.toNat,by lia⟩;have hy:y<26:=by lia
  obtain⟨hm,hg⟩:=J6 hy;have U:atI ZU.cps.toList (y:Int)=some (QK.getD y 0):=by rw [U2];exact QL hg
  refine⟨_,_,_,rfl,rfl,(by rw [U6,Qo];exact QA (9:)),U,_,_,rfl,rfl,?_,?_⟩
  .rw [Yb,Qo,Qo];exact QA (by simp only [cT];lia)
  .refine⟨nm++[QK.getD y 0],some (.int (0+(i:Int))),?_,rfl,by simp [hl],λz hz=>?_⟩
   .rw [Yb,QV];rfl
   .rcases aW.mp hz with w | w
    .exact ha z w
    .have:z=QK.getD y 0:=by simpa using w
     rw [this];exact hm
 rintro σ H' ⟨nm,kv,rfl,rfl,hl,ha⟩;have as:0<nm.length:=by lia
 have af:nm.length<=8:=by lia
 refine⟨_,rfl,_,rfl,S nm,rfl,(by rw [Qo];exact QA (10:)),_,_,rfl,rfl,(by rw [Qo];lia),?_⟩;rw [Qo];have ag:0<=M%((nm.length:Nat):Int):=cA _ (10:);have au:M%((nm.length:Nat):Int)<((nm.length:Nat):Int):=cL _ (10:);obtain⟨J,ai⟩: ∃y:Nat,M%((nm.length:Nat):Int)=(y:Int):=⟨_,(eQ ag).symm⟩;dsimp only;rw [ai];have Y:J<nm.length:=by lia
 have U:atI (S nm).cps.toList (J:Int)=some nm[J]:=by rw [Q3];exact QL (aE Y)
 refine⟨_,rfl,rfl,_,rfl,_,rfl,S nm,_,_,rfl,rfl,(by rw [Qo];exact QA (10:)),U,nm[J],rfl,rfl,ha _ (aO Y),λfirst aj=>?_⟩;have hf:first<26:=(bT.mp aj).1;refine⟨_,rfl,_,rfl,(10:),(10:),λl aa=>?_⟩;have ad:((L:Nat):Int).toNat=L:=by lia
 rw [ad];refine Gf (lo:=0) (n:=L) (cs:=[some (.str (S nm)),some (.int (first:Int)),some (.str ZU),some (.int (J:Int))]) (tt:=λ_ H Q=>Q true H) (λj ys H2=>Same H' H2/\H2 l=some (.lst ys)/\ys=((List.range j).map (Gz nm J first)).map λx=>V.str (S x))
  ⟨Qe aa _,Qb,rfl⟩ ?_ ?_
 .rintro i ys H2 hi ⟨g,ab,rfl⟩;have ej:(0:Int)+(i:Int)=(i:Int):=by lia
  rw [ej];have em:((first:Int)+(i:Int))%26=(((first+i)%26:Nat):Int):=by lia
  have hy:(first+i)%26<26:=eI _ (9:);obtain⟨hm,hg⟩:=J6 hy;have ae:atI ZU.cps.toList (((first:Int)+(i:Int))%26)=some (QK.getD ((first+i)%26) 0):=by rw [em,U2];exact QL hg
  have ac:(S nm).length<=sizeLine:=by rw [Qo];exact QA (10:)
  have et:((J:Nat):Int)+1=((J+1:Nat):Int):=by lia
  refine Q2 ⟨_,rfl,_,rfl,_,rfl,S nm,rfl,ac,_,rfl,_,rfl,_,rfl,_,_,rfl,rfl,_,_,rfl,rfl,(by show(0:Int)<26;decide),ZU,_,_,rfl,rfl,(by rw [U6,Qo];exact QA (9:)),ae,_,_,rfl,rfl,?_,_,rfl,_,rfl,_,_,rfl,rfl,_,rfl,S nm,rfl,ac,_,_,rfl,rfl,?_,?_⟩
  .rw [cutTo,Yb,Qo,Qo];refine QA ?_;rw [bH,cT];lia
  .rw [cutTo,Yb,QV,et,Aq,Qo,Qo];refine QA ?_;rw [aI,bH,cT,dC];lia
  rw [cutTo,Yb,QV,et,Aq,QV];refine QI hi ab (by rw [aA,aA,gX];lia) ⟨λb u e=>?_,Qb,?_⟩
  .rw [Qi (Qg e aa)];exact g _ _ e
  .rw [List.range_succ,aS,aS];rfl
 rintro ys H2 ⟨g,ab,rfl⟩;refine q l H2 _ g ab aa (by rw [aA,gX]) ?_ λz hz=>?_
 .refine fB.mpr (List.Pairwise.imp_of_mem (λ{i j} hi hj ak=>?_) (List.nodup_iff_pairwise_ne.mp List.nodup_range));have av:=cN.mp hi;have aw:=cN.mp hj;exact λe=>ak (S4 (10:) (10:) e)
 .obtain⟨k,_,rfl⟩:=aP.mp hz;exact AT Y af ha
end
theorem YN(h:n<=200000):n<=sizeLine:=bL h (9:)
def P6:Str:=Str.ofString "();:=*"
def F10:Str:=Str.ofString "0123456789"
abbrev sg6:List Nat:=[40,41,59,58,61,42]
theorem Me:P6.cps.toList=sg6:=by decide+kernel
theorem RG:F10.cps.toList=Zc:=by decide+kernel
theorem VV:∀c∈sg6,c∉QK/\c∉Zc/\c∈VC/\c≠45:=by decide
def isN(w:List Nat):Prop:=∃m:Int,m.natAbs<10^60/\w=sh m
def WJ(w:List Nat):Prop:=Nm w\/(∃c∈sg6,w=[c])\/isN w
theorem WJ.word{w:List Nat}(h:WJ w):Word w:=by
 rcases h with h | ⟨c,j,rfl⟩ | ⟨m,F,rfl⟩
 .exact .name h.ne h.len h.all
 .exact .sign (VV c j).2.2.1
 .exact W3 F
theorem WJ.ne{w:List Nat}(h:WJ w):w≠[]:=h.word.ne
theorem WJ.len{w:List Nat}(h:WJ w):w.length<=61:=h.word.len
theorem Pw(h:c∈sg6):(!(Builtin.Str.occurrences P6 (S [c]) 0 P6.length 1).isEmpty)=true:=by
 rw [show S [c]=⟨#[c]⟩from rfl,LX,Me];exact aV h
theorem Ps{w:List Nat}{r:List Nat}(e:w=c::r)(hc:c∉sg6):(!(Builtin.Str.occurrences P6 (S w) 0 P6.length 1).isEmpty)=false:=by
 cases F:(!(Builtin.Str.occurrences P6 (S w) 0 P6.length 1).isEmpty)with
 | false=>rfl
 | true=>
  exfalso;obtain⟨i,hi,j⟩:=(PySem.StrLaws.found_iff P6 (S w)).mp F;unfold Builtin.Str.subAt at j;have h1:P6.cps.extract i (i+(S w).length)=(S w).cps:=by simpa using j
  have h2:=congrArg Array.toList h1;rw [Array.toList_extract,Me,Q3,e]at h2;have:c∈List.extract sg6 i (i+(S (c::r)).length):=by rw [h2];exact aL
  rw [List.extract_eq_take_drop]at this;exact hc (iH (cH this))
theorem ON:∀c∈Zc,c∉sg6:=by decide
theorem YE:∀c∈QK,c∉sg6/\c∉Zc:=by decide
theorem BY{w:List Nat}(h:Nm w):(!(Builtin.Str.occurrences P6 (S w) 0 P6.length 1).isEmpty)=false:=by
 cases w with
 | nil=>exact absurd rfl h.ne
 | cons c r=>exact Ps rfl (YE c (h.all c aL)).1
theorem SZ{w:List Nat}(h:isN w):(!(Builtin.Str.occurrences P6 (S w) 0 P6.length 1).isEmpty)=false:=by
 obtain⟨m,F,rfl⟩:=h;obtain⟨c,r,e,j⟩:=Ug m;refine Ps e ?_;rcases j with j | rfl
 .exact ON c j
 .decide
theorem Ti{w:List Nat}(hc:c∈sg6):Sep [c] w:=λa b j F=>by
 have:c=a:=by simpa using j
 subst this;exact⟨λz=>(VV c hc).1 z.1,λz=>(VV c hc).2.1 z.1⟩
theorem S3{w:List Nat}(hc:c∈sg6):Sep w [c]:=λa b F j=>by
 have:c=b:=by simpa using j
 subst this;exact⟨λz=>(VV c hc).1 z.2,λz=>(VV c hc).2.1 z.2⟩
theorem A4{u w:List Nat}(hu:Nm u)(hw:isN w):Sep u w:=λa b J F=>by
 obtain⟨m,L,rfl⟩:=hw;have G:=hu.all a (List.mem_of_getLast? J);obtain⟨c,r,e,j⟩:=Ug m;rw [e]at F;have:c=b:=by simpa using F
 subst this;refine⟨λz=>?_,λz=>(YE a G).2 z.1⟩;rcases j with j | rfl
 .exact(YE c z.2).2 j
 .exact absurd z.2 (9:)
theorem Bd{u w:List Nat}(hu:isN u)(hw:Nm w):Sep u w:=λa b j G=>by
 obtain⟨m,M,rfl⟩:=hu;obtain⟨U,J,L⟩:=Vl m;rw [J]at j;obtain rfl:=aK j;have F:b∈w:=bC G;exact⟨λz=>(YE _ z.1).2 L,λz=>(YE b (hw.all b F)).2 z.2⟩
theorem Wy{w:List Nat}{ch:Nat}(h:w.getLast?=some ch):atI (S w).cps.toList (-1)=some ch:=by
 rw [Q3];obtain⟨ys,rfl⟩:=List.getLast?_eq_some_iff.mp h;exact Pz _ _
theorem Nc{b:Nat}(h:b<=3):([32,32,32]:List Nat).take b=List.replicate b 32:=by
 match b,h with
 | 0,_=>rfl
 | 1,_=>rfl
 | 2,_=>rfl
 | 3,_=>rfl
def tot(ws:List (5:)):Nat:=(ws.map List.length).sum+3*ws.length
def JQ(K:Fg):Sp:=λvs H Q _=>∃(l:Addr)(ws:List (5:))(b:Nat),vs=[.ref l,.int (b:Int)]/\SqL K H l (W ws)/\(∀w∈ws,WJ w)/\(∀(i:Nat)(u w:List Nat),ws[i]?=some u->ws[i+1]?=some w->¬(isN u/\isN w))/\tot ws<=100000/\b<=3/\∀z,Writ z ws->z.length<=tot ws->Q (.str (S z)) H
section
variable{K:Fg}{fd:FuncData}
theorem Yp:FnScope ["_law_row","_law_blanks","_law_text_here","_law_k","_law_gap"] ["_law_row","_law_blanks"] (defScope WW):=(0:)
theorem NQ(F:Fun K "_law_joined" "_law_joined" WW f fd)(G:Gm mg):FnOk P w K mg base CX0 1 f fd ["_law_row","_law_blanks"] (JQ K):=by
 refine F.ok Yp (14:) (λa0 A ay s H vs Q E hr h=>?_)
 .obtain⟨l,J,b,rfl,_⟩:=h
  rfl
 obtain⟨l,J,b,rfl,hl,hw,an,ao,hb,q⟩:=h;refine⟨_,(Qd (Qm (i:=2) Yp.nd rfl (7:) Qj)
  (Qd (Ze bS rfl (Zr rfl G.rng (Qa (Qv Qy rfl G.len bJ (Qa (pv 0) Qc)) Qc)) (Qz (i:=3) Yp.nd rfl (7:)) (Qd (Qm (i:=4) Yp.nd rfl (7:) (Zo WB Qj Zv (Za (pv 1))))
  (Qd (Yf (QC (PW.pt (pw_and (Qu XE (pv 3) Qf (QB _)) (pw_and (Qu Zw (pv 1) Qf (QB _)) (pw_and (Qu Z7 (Qk QD (pv 0) (pv 3) (λ_ _=>rfl)) Qj rfl) (pw_and1 (Qu Z7 (Qk QD (pv 0) (Ql Jd (pv 3) Qf) (λ_ _=>rfl)) Qj rfl))))))
   (Qh (QC (PW.pt (pw_and (Qu Z7 (Qk ZG (Qk QD (pv 0) (pv 3) (λ_ _=>rfl)) (Au Om Qf) (λ_ _=>rfl)) Qj rfl) (pw_and1 (Qu Z7 (Qk ZG (Qk QD (pv 0) (Ql Jd (pv 3) Qf) (λ_ _=>rfl)) (Au Om Qf) (λ_ _=>rfl)) Qj rfl)))) (Qh (Qm (i:=4) Yp.nd rfl (7:) Qj)) Qt)) Qt))
  (Qh (Qm (i:=2) Yp.nd rfl (7:) (Ql Qq (Ql Qq (pv 2) (pv 4)) (Qk QD (pv 0) (pv 3) (λ_ _=>rfl))))))))
  (Qh (Qn (pv 2))))),?_⟩
 try dsimp only [QW,Cx.nox]
 refine L2.let2 ?_
 intros
 have Wl:(W J).length=J.length:=aA ..;have e0:Str.ofString ""=S []:=by decide+kernel
 have e3:Str.ofString "   "=S [32,32,32]:=by decide+kernel
 have e1:Str.ofString " "=S [32]:=by decide+kernel
 have e6:Str.ofString "();:=*"=P6:=rfl;have au:Str.ofString "0123456789"=F10:=rfl;have ab:∀(i:Nat)(h:i<J.length),atI (W J) (i:Int)=some (.str (S J[i])):=λi h=>QL (by unfold W;rw [aM,aE h];rfl);have av:J.length<=100000:=by unfold tot at ao;lia
 have ac:∀i,i<=J.length->((J.take i).map List.length).sum+3*i<=tot J:=λi hi=>by
  unfold tot;have:=congrArg (λl=>(l.map List.length).sum) (fK i J);simp only [aS,fR]at this;lia
 refine⟨_,rfl,l,_,rfl,.inl hl,_,rfl,(by rw [Wl];lia),(by rw [Wl];lia),?_⟩;rw [Wl];refine ZE (lo:=0) (n:=J.length) (λi σ H'=>∃(z:List Nat)(c3 c4:Option V),σ=[some (.ref l),some (.int (b:Int)),some (.str (S z)),c3,c4]/\H=H'/\Built z (J.take i)/\z.length<=((J.take i).map List.length).sum+3*i)
  ⟨[],none,none,by rw [<-e0];rfl,rfl,Built.start,bZ _⟩ ?_ ?_
 .rintro i σ H' hi ⟨z,c3,c4,rfl,rfl,hB,hz⟩;have ez:(0:Int)+(i:Int)=(i:Int):=by lia
  rw [ez];have M:=hw J[i] (aO hi);have a1:=ac i (10:);refine⟨_,rfl,_,rfl,Str.ofString "   ",rfl,(9:),?_⟩;rw [e3,cutTo,Nc hb];refine⟨λaw H'=>∃k:Nat,aw=[some (.ref l),some (.int (b:Int)),some (.str (S z)),some (.int (i:Int)),some (.str (S (List.replicate k 32)))]/\H=H'/\k<=3/\(k=0->∀u,(J.take i).getLast?=some u->Sep u J[i]),?_,?_⟩
  .have ak:(b=0->i=0)->∃k:Nat,[some (V.ref l),some (.int (b:Int)),some (.str (S z)),some (.int (i:Int)),some (.str (S (List.replicate b 32)))]=[some (V.ref l),some (.int (b:Int)),some (.str (S z)),some (.int (i:Int)),some (.str (S (List.replicate k 32)))]/\H=H/\k<=3/\(k=0->∀u,(J.take i).getLast?=some u->Sep u J[i]):=λh0=>⟨b,rfl,rfl,hb,λz0 u Y=>by
    rw [h0 z0]at Y;simp at Y⟩
   refine⟨_,rfl,_,_,rfl,rfl,_,rfl,Ui (λg1=>?_) (λg1=>?_)⟩
   .have a2:(0:Int)<(i:Int):=b_ g1;refine⟨_,rfl,rfl,_,rfl,Ui (λg2=>?_) (λg2=>?_)⟩
    .obtain⟨j,rfl⟩: ∃j,i=j+1:=⟨i-1,by lia⟩;have hj:j<J.length:=by lia
     have ej:((j+1:Nat):Int)-1=(j:Int):=by lia
     have ad:=hw J[j] (aO hj);have ap:∀u,(J.take (j+1)).getLast?=some u->u=J[j]:=λu Y=>by
      rw [bE,aE hj,cV,List.getLast?_concat]at Y;exact(aK Y).symm
     have ax:=an j J[j] J[j+1] (aE hj) (aE hi);have ae:atI (W J) (((j+1:Nat):Int)-1)=some (.str (S J[j])):=by rw [ej];exact ab j hj
     have al:=ab (j+1) hi;have m1:=M.len;have m2:=ad.len;obtain⟨x1,aa⟩: ∃ch,J[j+1].getLast?=some ch:=⟨_,hV M.ne⟩;obtain⟨x2,U⟩: ∃ch,J[j].getLast?=some ch:=⟨_,hV ad.ne⟩;have L:Sep J[j] J[j+1]->∃k:Nat,[some (V.ref l),some (.int (b:Int)),some (.str (S z)),some (.int ((j+1:Nat):Int)),some (.str (S (List.replicate b 32)))]=[some (V.ref l),some (.int (b:Int)),some (.str (S z)),some (.int ((j+1:Nat):Int)),some (.str (S (List.replicate k 32)))]/\H=H/\k<=3/\(k=0->∀u,(J.take (j+1)).getLast?=some u->Sep u J[j+1]):=λhc=>⟨b,rfl,rfl,hb,λ_ u Y=>by
      rw [ap u Y];exact hc⟩
     rw [e6,au];generalize J[j+1]=wi at*;generalize J[j]=wj at*;refine⟨_,rfl,_,rfl,l,_,_,_,rfl,rfl,hl,al,_,_,rfl,rfl,_,rfl,?_⟩;have af:∀x:Nat,(!(Builtin.Str.occurrences F10 ⟨#[x]⟩ 0 F10.length 1).isEmpty)=decide (x∈Zc):=λx=>by rw [LX,RG]
     have fN:∀{u:List Nat}{x:Nat},Nm u->u.getLast?=some x->decide (x∈Zc)=false:=λh hx=>bM (YE _ (h.all _ (List.mem_of_getLast? hx))).2;have fM:∀{u:List Nat}{x:Nat},isN u->u.getLast?=some x->decide (x∈Zc)=true:=λh hx=>by
      obtain⟨m,hm,rfl⟩:=h;obtain⟨a',ea,hf⟩:=Vl m;rw [ea]at hx;obtain rfl:=aK hx;exact aV hf
     have lw:∀u:List Nat,u.length<=61->(S u).length<=sizeLine:=λu h=>by rw [Qo];exact QA (10:)
     have aq:(Nm wi\/isN wi)->(Nm wj\/isN wj)->Sep wj wi\/(Nm wi/\Nm wj):=λh1 h2=>by
      rcases h1 with h1 | h1<;>rcases h2 with h2 | h2
      .exact .inr ⟨h1,h2⟩
      .exact .inl (Bd h2 h1)
      .exact .inl (A4 h2 h1)
      .exact absurd ⟨h2,h1⟩ ax
     have ag:∀{u:List Nat},(Nm u\/isN u)->(!(Builtin.Str.occurrences P6 (S u) 0 P6.length 1).isEmpty)=false:=λh=>h.elim BY SZ;have ai:∀{u:List Nat},WJ u->(∃c∈sg6,u=[c])\/(Nm u\/isN u):=λh=>by
      rcases h with h | h | h
      .exact .inr (.inl h)
      .exact .inl h
      .exact .inr (.inr h)
     rcases ai M with⟨c,hc,e⟩ | hn1
     .subst e;rw [Pw hc];exact Q7 (L (S3 hc))
     rw [ag hn1];refine Q2 ⟨_,rfl,_,rfl,_,_,rfl,rfl,l,_,_,_,rfl,rfl,hl,ae,_,_,rfl,rfl,_,rfl,?_⟩;rcases ai ad with⟨c,hc,e⟩ | hn2
     .subst e;rw [Pw hc];exact Q7 (L (Ti hc))
     rw [ag hn2];refine Q2 ⟨_,rfl,_,rfl,l,_,_,_,rfl,rfl,hl,al,_,rfl,S wi,_,x1,rfl,rfl,lw _ m1,Wy aa,_,_,rfl,rfl,_,rfl,?_⟩;rw [af];rcases aq hn1 hn2 with aj | ⟨ar,as⟩
     .rcases hn1 with hn1 | hn1
      .rw [fN hn1 aa];refine Q2 ⟨_,rfl,_,rfl,_,_,rfl,rfl,l,_,_,_,rfl,rfl,hl,ae,_,rfl,S wj,_,x2,rfl,rfl,lw _ m2,Wy U,_,_,rfl,rfl,_,rfl,?_⟩;rw [af];rcases hn2 with hn2 | hn2
       .rw [fN hn2 U];exact Q2 ⟨1,by rw [e1];rfl,rfl,by decide,λh=>absurd h (9:)⟩
       .rw [fM hn2 U];exact Q7 (L aj)
      .rw [fM hn1 aa];exact Q7 (L aj)
     .rw [fN ar aa];refine Q2 ⟨_,rfl,_,rfl,_,_,rfl,rfl,l,_,_,_,rfl,rfl,hl,ae,_,rfl,S wj,_,x2,rfl,rfl,lw _ m2,Wy U,_,_,rfl,rfl,_,rfl,?_⟩;rw [af,fN as U];exact Q2 ⟨1,by rw [e1];rfl,rfl,by decide,λh=>absurd h (9:)⟩
    .exact ak λh=>absurd (aV (by rw [h];rfl)) g2
   .exact ak λ_=>by
     have:¬(0:Int)<(i:Int):=λz=>g1 (aV z);lia
  .rintro aw H' ⟨k,rfl,rfl,hk,hs⟩;have av:=M.len;have az:=ac (i+1) (10:);have am:J.take (i+1)=J.take i++[J[i]]:=by rw [bE,aE hi];rfl
   refine⟨_,rfl,_,rfl,_,_,rfl,rfl,(by rw [Qo,Qo];exact YN (by rw [dD];lia)),_,rfl,_,rfl,l,_,_,_,rfl,rfl,hl,ab i hi,_,_,rfl,rfl,(by rw [QV,Qo,Qo];exact YN (by rw [aI,dD];lia)),?_⟩;rw [QV,QV];refine⟨_,_,_,rfl,rfl,?_,?_⟩
   .rw [am];exact hB.turn M.word k hs
   .rw [am,aS,fR];simp only [aI,dD,aR,eW,cY,List.sum_nil];lia
 .rintro σ H' ⟨z,c3,c4,rfl,rfl,hB,hz⟩;rw [bP]at hB hz;have:=hB.all 0;rw [List.replicate_zero,cC]at this;exact⟨_,rfl,q z this (by unfold tot;lia)⟩
end
def Lo6(t:TV):Prop:=∀m b,(m,b)∈clV t->∃i:Nat,i<6/\m=.int (i:Int)
abbrev Jv:Str:=Str.ofString "abcdef"
theorem let6:Jv=S [97,98,99,100,101,102]:=by decide+kernel
theorem Oq:∀i:Nat,i<6->([97,98,99,100,101,102]:List Nat)[i]?=some (97+i):=by decide
def YC(K:Fg)(n:Nat):Sp:=λvs H Q _=>∃(v:V)(t:TV),vs=[v,.str Jv]/\TvV K H v t/\lv t<=n/\gdV t/\Lo6 t/\(shV t).length<=4000/\∀H',Same H H'->Q (.str (S (shV t))) H'
theorem Lo6.mem{n:Str}{k:Bool}{a:Int}{bs:List TV}(h:Lo6 (.node (.put n k a) 0 bs)){t:TV}(ht:t∈bs):Lo6 t:=λm b j=>h m b (by rw [clV];exact UV ht j)
theorem Xa:∀{ts:List TV}{t:TV},gdVs ts->t∈ts->gdV t
 | u::r,t,h,ht=>by
  rw [gdVs]at h;rcases aQ.mp ht with rfl | ht
  .exact h.1
  .exact Xa h.2 ht
section
variable{K:Fg}{fd:FuncData}
theorem Jx:FnScope ["_law_term_here","_law_naming","_law_text_here"] ["_law_term_here","_law_naming"] (defScope U9):=(0:)
theorem Od(F:Fun K "_law_shown" "_law_shown" U9 f fd)(G:Gm mg)(R:Fn P w K mg base (n+1) "_law_shown" ["_law_term_here","_law_naming"] (YC K n)):FnOk P w K mg base CX0 (n+2) f fd ["_law_term_here","_law_naming"] (YC K (n+1)):=by
 refine F.ok Jx (14:) (λai A ax s H vs Q E hr h=>?_)
 .obtain⟨v,t,rfl,_⟩:=h
  rfl
 obtain⟨v,t,rfl,ht,aj,hg,aa,hz,q⟩:=h;have ae:∀n:Nat,n<=4->(A.deeper (PyProof.Rows.envOfC "_law_shown" (defScope U9) s.heap.objs.size f ai)).units+n<cLine:=λn hn=>by have:=hr.un;lia
 refine⟨_,(Qd (QC (Qu Zw (3:) Qj (QB _)) (Qh (Qn (Ql Qq (Ql Qq Qj (Qk ZG (pv 1) (3:) (λ_ _=>rfl))) (QE Zt rfl G.str e_ (Qa (3:) Qc))))) Qt)
  (Qd (Qm (i:=2) Jx.nd rfl (7:) (Ql Qq (3:) (Ql GR Qj (QE NG rfl G.int PyProof.Rows.boot_int (Qa (3:) Qc)))))
  (Qd (Yf (QC (Qu Jq (3:) Qf (QB _)) (Qh (Qm (i:=2) Jx.nd rfl (7:) (Ql Qq (pv 2) (QE Zt rfl G.str e_ (Qa (3:) Qc))))) Qt))
  (Qd (Yf (QC (Qu XA (3:) (QF Qc) (QB _)) (Qh (Qm (i:=2) Jx.nd rfl (7:) (Ql Qq (Ql Qq (Ql Qq (pv 2) Qj) (Zi iF PySem.F.slot_str_join PySem.F.type_str_join WT Qj (Qa (QY (CompG.many (xs:=["_law_part"]) (caps:=["_law_naming"]) (cap:=[1]) (cs:=[_]) rfl rfl (1:) (1:) (1:) (1:) (1:) (1:) rfl rfl rfl) rfl (YO (3:)) (UU (CompG.many (xs:=["_law_part"]) (caps:=["_law_naming"]) (cap:=[1]) (cs:=[_]) rfl rfl (1:) (1:) (1:) (1:) (1:) (1:) rfl rfl rfl)) (λ_ _ _ _=>Zg) (λ_ _ _ _=>Qs R hr (Qa (pv 0) (Qa (pv 1) Qc)) (8:))) Qc))) Qj))) Qt))
  (Qh (Qn (pv 2))))))),?_⟩
 try dsimp only [QW,Cx.nox]
 have ak:Str.ofString "*"=S [42]:=by decide+kernel
 have al:Str.ofString "="=S [61]:=by decide+kernel
 have am:Str.ofString "("=S [40]:=by decide+kernel
 have an:Str.ofString ")"=S [41]:=by decide+kernel
 have ao:Str.ofString " "=S [32]:=by decide+kernel
 rw [ak,al,am,an,ao];refine L2.let4 ?_
 intros
 rcases ZZ ht with⟨a,m,b,rfl,rfl,h1⟩ | ⟨a,b,bs,nm,k,L,rfl,et,h1,h2,h3,h4⟩
 .refine⟨_,rfl,a,_,0,_,rfl,rfl,h1,rfl,rfl,_,rfl,?_⟩;show if decide (V.str CALL=V.str CALL)=true then _ else _;rw [aV rfl];obtain⟨i,hi,rfl⟩:=aa m b (by rw [clV];exact aL);rw [gdV]at hg;have hb:=hg.2.1;rw [shV,UB]at hz q;rw [aI,aI]at hz;have em:QT i=[97+i]:=by unfold QT;rw [aH (10:)]
  have ap:atI Jv.cps.toList (i:Int)=some (97+i):=by rw [let6];exact atS (Oq i hi)
  refine Q2 ⟨_,rfl,_,rfl,a,_,1,_,rfl,rfl,h1,rfl,Jv,_,97+i,rfl,rfl,(9:),ap,_,_,rfl,rfl,?_,?_⟩
  .rw [Yb,Qo,Qo];exact QA (22:)
  rw [Yb,QV];refine⟨_,rfl,a,_,2,_,rfl,rfl,h1,rfl,_,rfl,Ut hb,_,_,rfl,rfl,?_,?_⟩
  .rw [Yk,Qo,Qo];exact QA (by rw [aI];simp;lia)
  .rw [Yk,QV,<-em];exact q H (Same.refl _)
 .refine⟨_,rfl,a,_,0,_,rfl,rfl,h1,rfl,rfl,_,rfl,?_⟩;have aq:decide (V.str PUT=V.str CALL)=false:=by decide+kernel
  show if decide (V.str PUT=V.str CALL)=true then _ else _;rw [aq];rw [et]at hg aa hz q;rw [gdV]at hg;obtain⟨g1,g2,_,_,g5⟩:=hg;rw [shV]at hz q;have af:=h3.length;rw [ZP]at aj;have a0:(kpS k).length<=1:=by cases k<;>decide
  have a3:nm.length=nm.cps.toList.length:=by simp [Str.length]
  rw [aI,aI,aI]at hz;refine Q7 ⟨_,rfl,a,_,1,_,rfl,rfl,h1,rfl,_,rfl,a,_,2,_,rfl,rfl,h1,rfl,.inr ⟨k,rfl,?_⟩⟩;have ek:(if k=true then(1:Int)else 0)=((if k=true then 1 else 0:Nat):Int):=by cases k<;>rfl
  refine⟨[61],(if k=true then 1 else 0),rfl,(by rw [ek]),by decide,by decide,(by cases k<;>decide),?_⟩;have ar:(List.replicate (if k=true then 1 else 0) [61]).flatten=kpS k:=by cases k<;>rfl
  rw [ar];refine⟨_,_,rfl,rfl,?_,?_⟩
  .rw [Qo];exact QA (10:)
  have e1:nm++S (kpS k)=S (nm.cps.toList++kpS k):=by rw [<-QV,Xt]
  rw [e1];refine⟨λag H'=>ag=[some (.ref a),some (.str Jv),some (.str (S (nm.cps.toList++kpS k++shM L)))]/\H'=H,?_,?_⟩
  .refine⟨_,rfl,a,_,3,_,rfl,rfl,h1,rfl,rfl,_,rfl,Ui (λc=>?_) (λc=>?_)⟩
   .have as:L≠0:=λz=>by subst z;cases c
    have es:shM L=sh L:=by unfold shM;rw [aF as]
    rw [es]at hz;refine⟨_,rfl,_,rfl,a,_,3,_,rfl,rfl,h1,rfl,_,rfl,Ut g2,_,_,rfl,rfl,?_,?_,rfl⟩
    .rw [Yk,Qo,Qo];exact QA (by rw [aI];lia)
    .rw [Yk,QV,es];rfl
   .have he:L=0:=iQ λz=>c (by
     show(!decide (V.int L=V.int 0))=true;rw [bM λy=>z (V.int.inj y)];rfl)
    refine⟨?_,rfl⟩;rw [he];show _=[some (V.ref a),some (.str Jv),some (.str (S (nm.cps.toList++kpS k++[])))];rw [cC];rfl
  rintro σ H' ⟨rfl,rfl⟩;refine⟨λag H2=>ag=[some (.ref a),some (.str Jv),some (.str (S (nm.cps.toList++kpS k++shM L++shB (shVs t.bs))))]/\Same H' H2,?_,?_⟩
  .refine⟨_,rfl,a,_,4,_,rfl,rfl,h1,rfl,(20:),λp hp=>?_⟩;have M:=Qe hp (.tup []);have b1:upd H' p (.tup []) p=some (.tup []):=Qb;generalize upd H' p (.tup [])=H1 at M b1 ⊢;obtain⟨ly,_⟩:=UR t.bs g5;refine⟨.tuple (Z6 t.bs),.tuple [],.tup (M.seqT h2) (XH (h3.mono λ_ _=>M.seqT) g5),.tup (SqT.of b1) .nil,(by simp only [PyData.canLay0];exact ly),(by simp [PyData.canLay0,PyData.canLayAll0]),ae _ (bL (Nat.min_le_right _ _) (by simp [PyData.depth,PyData.depthAll])),?_⟩;generalize a4:t.bs=ts at*;cases ts with
   | nil=>
    have e:(if true=true then !PyData.eqv (.tuple (Z6 ([]:List TV))) (.tuple [])else PyData.eqv (.tuple (Z6 ([]:List TV))) (.tuple []))=false:=by rw [Z6];rfl
    rw [e];refine⟨_,rfl,Q7 ⟨?_,M⟩⟩;show _=[some (V.ref a),some (.str Jv),some (.str (S (nm.cps.toList++kpS k++shM L++shB (shVs []))))];rw [shVs];show _=[some (V.ref a),some (.str Jv),some (.str (S (nm.cps.toList++kpS k++shM L++[])))];rw [cC]
   | cons j J=>
    have e:(if true=true then !PyData.eqv (.tuple (Z6 (j::J))) (.tuple [])else PyData.eqv (.tuple (Z6 (j::J))) (.tuple []))=true:=by rw [Z6];rfl
    rw [e];refine⟨_,rfl,Q2 ⟨_,rfl,_,_,rfl,rfl,?_,?_⟩⟩
    .rw [Qo,Qo];exact QA (19:)
    rw [QV];refine⟨rfl,_,rfl,a,_,4,_,rfl,rfl,M.seqT h1,rfl,b,rfl,⟨_,M.seqT h2⟩,λacc ab=>?_⟩;have ac:∀c∈j::J,(shV c).length<=(shB (shVs (j::J))).length/\((shVs (j::J)).map List.length).sum<=(shB (shVs (j::J))).length/\(shVs (j::J)).length<=(shB (shVs (j::J))).length:=λc hc=>M8 (by rw [YH];exact aP.mpr ⟨c,hc,rfl⟩);obtain⟨_,ay,az⟩:=ac j aL;refine GL (K:=K) (xs:=bs) (cs:=[some (.str Jv)]) (tt:=λ_ H Q=>Q true H) (λi ys H2=>H2 acc=some (.lst ys)/\Same H1 H2/\ys=(((j::J).take i).map shV).map λx=>V.str (S x))
     ⟨Qb,Qe ab _,rfl⟩ ?_ ?_ ?_
    .rintro i ys H2 _ ⟨_,g,_⟩;exact(M.trans g).seqT h2
    .rintro i x ys H2 hi hx ⟨U,g,rfl⟩;obtain⟨c,hc⟩: ∃c,(j::J)[i]?=some c:=⟨_,aE (10:)⟩;obtain⟨cv,au,av⟩:=h3.get hc;obtain rfl:cv=x:=aK (au.symm.trans hx);have Y:=bC hc;have a1:=UX Y;have a2:=(ac c Y).1;refine Q2 ⟨_,rfl,_,rfl,cv,c,rfl,av.mono λ_ _ h=>g.seqT (M.seqT h),by lia,Xa g5 Y,aa.mem Y,by lia,λH4 g4=>?_⟩;refine QI hi (g4 _ _ U) (by rw [aA,aA,bH];lia) ⟨Qb,λx u e=>?_,?_⟩
     .rw [Qi (Qg e ab)];exact g4 _ _ (g _ _ e)
     .rw [bE,hc];simp
    rintro ys H2 ⟨U,g,rfl⟩;rw [af,bP,<-YH]at U;have Y:((shVs (j::J)).map S).map V.str=(shVs (j::J)).map λx=>V.str (S x):=by rw [aZ];rfl
    have aw:(((shVs (j::J)).map S).map λz:Str=>z.length)=(shVs (j::J)).map List.length:=by
     rw [aZ];exact eP λy _=>Qo y
    refine⟨S [32],acc,(shVs (j::J)).map S,rfl,rfl,(by rw [Y];exact SqL.of U),?_,?_⟩
    .rw [aw,aA,Qo];show _+_*1<=_;lia
    rw [G9];have a5:(shB (shVs (j::J))).length=(gl [32] (shVs (j::J))).length+2:=by rw [shVs];simp [shB]
    refine⟨_,_,rfl,rfl,?_,_,_,rfl,rfl,?_,?_,M.trans g⟩
    .rw [Qo,Qo];exact QA (19:)
    .rw [QV,Qo,Qo];exact QA (19:)
    .rw [QV,QV];have eB:shB (shVs (j::J))=[40]++gl [32] (shVs (j::J))++[41]:=by rw [shVs];rfl
     rw [eB];simp only [bO];rfl
  rintro σ H2 ⟨rfl,g⟩;exact⟨_,rfl,q H2 g⟩
theorem GT{k:Nat}:FnOk P w K mg base CX0 k f fd ["_law_term_here","_law_naming"] (YC K 0):=by
 have F:∀j H Q E,¬YC K 0 j H Q E:=λj H Q E h=>by
  obtain⟨v,t,_,_,J,_⟩:=h;rw [ZP]at J;lia
 exact⟨λj H Q E h=>absurd h (F j H Q E),λA G s H L M j Q E _ _ _ _ h=>absurd h (F j H Q E)⟩
theorem Wo(F:Fun K "_law_shown" "_law_shown" U9 f fd)(G:Gm mg)(hb:Binds K fd ["_law_term_here","_law_naming"] [])(hm:mg "_law_shown"=some (.ref f)):∀n:Nat,FnOk P w K mg base CX0 (n+1) f fd ["_law_term_here","_law_naming"] (YC K n)
 | 0=>GT
 | n+1=>Od F G ⟨f,fd,Wo F G hb hm n,hb,F.kp,hm⟩
end
end K12
namespace L2
open PySem PySem.Spec PyProof.Rows
def Ph:V->List V->Hp->VK->Prop:=λx vs H Q=>∃(l:Addr)(xs:List V)(y:V)(k:Nat),x=.ref l/\vs=[.int (k:Int),y]/\k<1000/\H l=some (.lst xs)/\xs.length<sizeLine/\Q .non (upd H l (.lst (xs.take k++y::xs.drop k)))
theorem L5:MtM X "list.insert" Ph:=by
 intro pins s σ H x vs v us Q I M U h;obtain⟨l,xs,y,k,e1,e2,hk,G,hz,q⟩:=h;subst e1;subst e2;cases (show v=Value.ref l from M);obtain⟨Y,u,e3,r0,ru⟩:=U.two;subst e3;obtain⟨t,e4⟩:=(show ∃t,Y=Value.int (k:Int) t from r0);subst e4;obtain⟨x,J⟩: ∃x:Int,x=(k:Int):=⟨_,rfl⟩;rw [<-J];obtain⟨z,its,n,r,hl,e⟩:=I.lstM G;have j:¬(!Builtin.List.listFitsIndex x)=true:=by
  simp [Builtin.List.listFitsIndex];lia
 refine call_meets F.slot_list_insert ⟨_,e,rfl⟩ F.entry_list_insert (F.args_list_insert_3 _ _ _) (AutoSeq1.list_insert_list_int_val_1 l its.toArray n x t u j (by rw [aX,<-hl];exact cD hz)) ⟨e,?_⟩;refine⟨.non,_,I.lset (its':=its.take k++u::its.drop k) G e ?_ (Vals.append (Vals.take k r) (.cons ru (Vals.drop k r))) ?_,rfl,q⟩
 .apply Array.toList_inj.mp;subst J;have e1:¬((k:Int)<0):=by lia
  simp only [e1,dH,dJ,aX]
  by_cases L:k<=its.length
  .rw [d_ L];simp;exact cQ (by rw [dC];lia)
  .rw [gZ (10:)];simp [cQ (show its.length<=k by lia),f_ (show its.length<=k by lia)]
 .rw [aI,aJ,bH,dC];lia
def eqI(k:Int):Value->Bool
 | .int a _=>(a==k)
 | _=>false
theorem Pi{ns:List Int}:∀{its:List Value},Vals (ns.map V.int) its->∀(i:Nat)(v:Value),its[i]?=some v->∃(a:Int)(t:Tok),ns[i]?=some a/\v=.int a t:=by
 induction ns with
 | nil=>intro its h i v e;cases h;simp at e
 | cons a r j=>
  intro its h i v e;cases h with
  | @cons _ u _ M h1 h2=>
   obtain⟨t,rfl⟩:=(show ∃t,u=Value.int a t from h1);cases i with
   | zero=>
    have:Value.int a t=v:=by simpa using e
    exact⟨a,t,rfl,this.symm⟩
   | succ i=>
    obtain⟨F,G,J,L⟩:=j h2 i v (by simpa using e);exact⟨F,G,by simpa using J,L⟩
theorem NM:MtM X "list.index" (λx vs H Q=>∃(l:Addr)(ns:List Int)(k:Int)(j:Nat),x=.ref l/\vs=[.int k]/\H l=some (.lst (ns.map V.int))/\ns.length<=1000/\ns[j]?=some k/\(∀i,i<j->ns[i]?≠some k)/\Q (.int (j:Int)) H):=by
 intro pins s σ H x vs v us Q I rx rv h;obtain⟨l,ns,k,j,rfl,rfl,hH,hz,M,U,q⟩:=h;cases rx;obtain⟨u,rfl,ru⟩:=rv.one;obtain⟨t,rfl⟩:=(show ∃t,u=Value.int k t from ru);obtain⟨z,its,n,r,hl,e⟩:=I.lstM hH;rw [aA]at hl;have J:j<its.length:=by have:=(bT.mp M).1;lia
 have get:∀(i:Nat)(h:i<its.length),∃(a:Int)(t:Tok),ns[i]?=some a/\its[i]=.int a t:=λi h=>Pi r i its[i] (aE h);refine call_meets F.slot_list_index ⟨_,e,rfl⟩ F.entry_list_index (F.args_list_index_2 _ _) (MeetsSeq.list_index l its.toArray n (.int k t) (eqI k) (λy hy=>?_) j (by simpa using J) (10:) ?_ (λi hi Y=>?_)) ⟨e,?_⟩
 .have aa:y∈its:=by simpa using hy
  obtain⟨i,hi,rfl⟩:=cS.mp aa;obtain⟨a,L,_,G⟩:=get i hi;rw [G];exact MeetsSeq.EqGives.int a k L t
 .obtain⟨a,L,h1,G⟩:=get j J;have:a=k:=aK (h1.symm.trans M);simp [List.getElem_toArray,G,eqI,this]
 .have ab:i<its.length:=by simpa using hi
  obtain⟨a,L,h1,G⟩:=get i ab;have:a≠k:=λz=>U i Y (by rw [h1,z]);simp [List.getElem_toArray,G,eqI,this]
 .exact⟨.int j,H,I.tok _,⟨_,rfl⟩,q⟩
end L2
namespace K12
open PySem L2 K3 TM K9
def ZF(os:List Int):V->V
 | .int i=>.int ((os.idxOf i:Nat):Int)
 | v=>v
def InO(os:List Int)(t:TV):Prop:=∀m b,(m,b)∈clV t->∃i:Int,i∈os/\m=.int i
theorem InO.mem{os:List Int}{n:Str}{k:Bool}{a:Int}{bs:List TV}(h:InO os (.node (.put n k a) 0 bs)){t:TV}(ht:t∈bs):InO os t:=λm b j=>h m b (by rw [clV];exact UV ht j)
def Yv(K:Fg)(n:Nat):Sp:=λvs H Q _=>∃(v:V)(l:Addr)(t:TV)(os:List Int),vs=[v,.ref l]/\TvV K H v t/\lv t<=n/\H l=some (.lst (os.map V.int))/\os.length<=1000/\InO os t/\∀(v':V)(H':Hp),Same H H'->TvV K H' v' (mpV (ZF os) t)->Q v' H'
theorem Lo{i:Int}:∀{os:List Int},i∈os->os[os.idxOf i]?=some i/\∀k,k<os.idxOf i->os[k]?≠some i
 | x::r,h=>by
  rw [List.idxOf_cons]
  by_cases c:x=i
  .subst c;rw [show(x==x)=true from beq_self_eq_true x];exact⟨rfl,λk j=>absurd j (Nat.not_lt_zero _)⟩
  .rw [show(x==i)=false from eM.mpr c];rcases aQ.mp h with h | h
   .exact absurd h.symm c
   .obtain⟨h1,h2⟩:=Lo h;refine⟨by show(x::r)[r.idxOf i+1]?=_;rw [List.getElem?_cons_succ];exact h1,λk j=>?_⟩;cases k with
    | zero=>rw [List.getElem?_cons_zero];exact λz=>c (aK z)
    | succ k=>
     rw [List.getElem?_cons_succ];have F:k+1<r.idxOf i+1:=j;exact h2 k (10:)
section
variable{K:Fg}{fd:FuncData}
theorem Tr:FnScope ["_law_term_here","_law_order"] ["_law_term_here","_law_order"] (defScope Xv):=(0:)
theorem Sb(F:Fun K "_law_numbered" "_law_numbered" Xv f fd)(G:Gm mg)(R:Fn P w K mg base (n+1) "_law_numbered" ["_law_term_here","_law_order"] (Yv K n)):FnOk P w K mg base CX0 (n+2) f fd ["_law_term_here","_law_order"] (Yv K (n+1)):=by
 refine F.ok Tr (14:) (λav A au s H vs Q E hr h=>?_)
 .obtain⟨v,l,t,M,rfl,_⟩:=h
  rfl
 obtain⟨v,l,t,M,rfl,ht,aj,hl,ac,U,q⟩:=h;refine⟨_,(Qd (QC (Qu Zw (3:) Qj (QB _)) (Qh (Qn (QF (Qa (Qj) (Qa (Zi bY PySem.F.slot_list_index PySem.F.type_list_index NM (pv 1) (Qa (3:) Qc)) (Qa (3:) Qc)))))) Qt)
  (Qh (Qn (Ql Tw (Zo AZ (pv 0) Zv (Za Qf)) (QF (Qa (QE ZT rfl G.tup fY (Qa (QY (CompG.many (xs:=["_law_part"]) (caps:=["_law_order"]) (cap:=[1]) (cs:=[_]) rfl rfl (1:) (1:) (1:) (1:) (1:) (1:) rfl rfl rfl) rfl (YO (3:)) (UU (CompG.many (xs:=["_law_part"]) (caps:=["_law_order"]) (cap:=[1]) (cs:=[_]) rfl rfl (1:) (1:) (1:) (1:) (1:) (1:) rfl rfl rfl)) (λ_ _ _ _=>Zg) (λ_ _ _ _=>Qs R hr (Qa (pv 0) (Qa (pv 1) Qc)) (8:))) Qc)) Qc)))))),?_⟩
 try dsimp only [QW,Cx.nox]
 refine L2.let1 ?_
 intros
 rcases ZZ ht with⟨a,m,b,rfl,rfl,h1⟩ | ⟨a,b,bs,nm,k,Y,rfl,et,h1,h2,h3,h4⟩
 .refine⟨_,rfl,a,_,0,_,rfl,rfl,h1,rfl,rfl,_,rfl,?_⟩;show if decide (V.str CALL=V.str CALL)=true then _ else _;rw [aV rfl];obtain⟨i,hi,rfl⟩:=U m b (by rw [clV];exact aL);obtain⟨ak,al⟩:=Lo hi;rw [mpV]at q;refine Q2 ⟨_,rfl,.inl ⟨rfl,_,SqL.of hl⟩,_,rfl,a,_,1,_,rfl,rfl,h1,rfl,l,M,i,M.idxOf i,rfl,rfl,hl,ac,ak,al,_,rfl,a,_,2,_,rfl,rfl,h1,rfl,(by show 3<=sizeLine;decide),λp hp=>?_⟩;exact q _ _ (Qe hp _) (.call (SqT.of Qb))
 .refine⟨_,rfl,a,_,0,_,rfl,rfl,h1,rfl,rfl,_,rfl,?_⟩;have am:decide (V.str PUT=V.str CALL)=false:=by decide+kernel
  show if decide (V.str PUT=V.str CALL)=true then _ else _;rw [am];rw [et]at U q;rw [mpV]at q;have ai:=h3.length;rw [ZP]at aj;refine Q7 ⟨_,rfl,_,rfl,a,_,rfl,h1,(by simp only [aJ,b'];decide),λpc an=>?_⟩;have L:=Qe an (.tup (cutV [.str PUT,.str nm,.bl k,.int Y,.ref b] none (some 4)));have bc:upd H pc (.tup (cutV [.str PUT,.str nm,.bl k,.int Y,.ref b] none (some 4))) pc=some (.tup [.str PUT,.str nm,.bl k,.int Y]):=Qb;generalize upd H pc (.tup (cutV [.str PUT,.str nm,.bl k,.int Y,.ref b] none (some 4)))=H1 at L bc ⊢;refine⟨_,rfl,a,_,4,_,rfl,rfl,L.seqT h1,rfl,b,rfl,⟨_,L.seqT h2⟩,λacc aa=>?_⟩;refine GL (K:=K) (xs:=bs) (cs:=[some (.ref l)]) (tt:=λ_ H Q=>Q true H) (λi ys H2=>H2 acc=some (.lst ys)/\Same H1 H2/\ys.length=i/\TvAll K H2 ys ((t.bs.take i).map (mpV (ZF M))))
   ⟨Qb,Qe aa _,rfl,.nil⟩ ?_ ?_ ?_
  .rintro i ys H2 _ ⟨_,g,_⟩;exact(L.trans g).seqT h2
  .rintro i x ys H2 hi hx ⟨ab,g,ae,hT⟩;obtain⟨c,hc⟩: ∃c,t.bs[i]?=some c:=⟨_,aE (10:)⟩;obtain⟨cv,ao,ap⟩:=h3.get hc;obtain rfl:cv=x:=aK (ao.symm.trans hx);have hm:=bC hc;have a1:=UX hm;have gg:=L.trans g;refine Q2 ⟨_,rfl,_,rfl,cv,l,c,M,rfl,ap.mono λ_ _=>gg.seqT,by lia,gg _ _ hl,ac,U.mem hm,λv4 H4 g4 aq=>?_⟩;have J:=g4 _ _ ab;refine QI hi J (10:) ⟨Qb,λx u e=>?_,by simp [ae],?_⟩
   .rw [Qi (Qg e aa)];exact g4 _ _ (g _ _ e)
   .rw [bE,hc,cV,aS];exact TvAll.append (hT.mono λ_ _ h=>(g4.seqT h).put J) (.cons (aq.mono λ_ _ h=>h.put J) .nil)
  rintro ys H2 ⟨ab,g,ae,hT⟩;rw [ai,bP,<-UP]at hT;refine⟨acc,ys,rfl,.inl ⟨SqL.of ab,λj ar=>⟨(by show 1<=sizeLine;decide),λtq af=>?_⟩⟩⟩;have s3:=Qe ar (.tup ys);have b3:upd H2 j (.tup ys) j=some (.tup ys):=Qb;generalize upd H2 j (.tup ys)=H3 at s3 b3 af ⊢;have s4:=Qe af (.tup [.ref j]);have b4:upd H3 tq (.tup [.ref j]) tq=some (.tup [.ref j]):=Qb;generalize upd H3 tq (.tup [.ref j])=H4 at s4 b4 ⊢;have ag:=g.trans (s3.trans s4);refine⟨pc,tq,_,_,rfl,rfl,SqT.of (ag _ _ bc),SqT.of b4,(22:),(by show 4+1<=sizeLine;decide),λz=>(nomatch z),λ_ pr as=>?_⟩;have s5:=Qe as (.tup ([.str PUT,.str nm,.bl k,.int Y]++[.ref j]));exact q _ _ (L.trans (ag.trans s5)) (.put (SqT.of Qb) (SqT.of (s5 _ _ (s4 _ _ b3))) (hT.mono λ_ _ h=>s5.seqT (s4.seqT (s3.seqT h))) (10:))
theorem LL{k:Nat}:FnOk P w K mg base CX0 k f fd ["_law_term_here","_law_order"] (Yv K 0):=by
 have F:∀j H Q E,¬Yv K 0 j H Q E:=λj H Q E h=>by
  obtain⟨v,l,t,M,_,_,J,_⟩:=h;rw [ZP]at J;lia
 exact⟨λj H Q E h=>absurd h (F j H Q E),λA G s H L U j Q E _ _ _ _ h=>absurd h (F j H Q E)⟩
theorem Wh(F:Fun K "_law_numbered" "_law_numbered" Xv f fd)(G:Gm mg)(hb:Binds K fd ["_law_term_here","_law_order"] [])(hm:mg "_law_numbered"=some (.ref f)):∀n:Nat,FnOk P w K mg base CX0 (n+1) f fd ["_law_term_here","_law_order"] (Yv K n)
 | 0=>LL
 | n+1=>Sb F G ⟨f,fd,Wh F G hb hm n,hb,F.kp,hm⟩
end
def nmI(zs:List (5:)):V->List Nat
 | .int i=>zs.getD i.toNat []
 | _=>[]
theorem JM{zs:List (5:)}(hi:i<zs.length):nmI zs (.int (i:Int))=zs[i]:=by show zs.getD (i:Int).toNat []=_;rw [dJ,dA,aE hi];rfl
def mkF(full:Bool)(a:Int):List (5:):=if a≠0\/full=true then [sh a]else []
mutual
noncomputable def wkF(full:Bool)(zs:List (5:)):TV->List (5:)
 | .node (.call m b) _ _=>[[42],nmI zs m,sh b]
 | .node (.put n k a) _ bs=>codes n::(kpW k++(mkF full a++brG bs (wkFs full zs bs)))
noncomputable def wkFs(full:Bool)(zs:List (5:)):List TV->List (5:)
 | []=>[]
 | t::r=>wkF full zs t++wkFs full zs r
end
mutual
noncomputable def nmF(zs:List (5:)):TV->TN
 | .node (.call m b) _ _=>.node (.call (nmI zs m) b) 0 []
 | .node (.put n k a) _ bs=>.node (.put (codes n) k a) 0 (nmFs zs bs)
noncomputable def nmFs(zs:List (5:)):List TV->List TN
 | []=>[]
 | t::r=>nmF zs t::nmFs zs r
end
theorem NE(full:Bool)(zs:List (5:))(ts:List TV)(c:TV):wkFs full zs (ts++[c])=wkFs full zs ts++wkF full zs c:=by
 induction ts with
 | nil=>simp [wkFs]
 | cons t r j=>rw [dY,wkFs,wkFs,j,bO]
theorem MO{full:Bool}{zs:List (5:)}:∀{ts:List TV}{t:TV},t∈ts->(wkF full zs t).length<=(wkFs full zs ts).length
 | u::r,t,h=>by
  rw [wkFs,aI];rcases aQ.mp h with rfl | h
  .lia
  .have:=MO (full:=full) (zs:=zs) h;lia
theorem Nt{zs:List (5:)}(ts:List TV)(i:Nat):(wkFs full zs (ts.take i)).length<=(wkFs full zs ts).length:=by
 have:∀a b:List TV,wkFs full zs (a++b)=wkFs full zs a++wkFs full zs b:=λa b=>by
  induction a with
  | nil=>rw [wkFs];rfl
  | cons x r j=>rw [dY,wkFs,wkFs,j,bO]
 have e:=this (ts.take i) (ts.drop i);rw [fK]at e;rw [e,aI];lia
def InZ(zs:List (5:))(t:TV):Prop:=∀m b,(m,b)∈clV t->∃i:Nat,i<zs.length/\m=.int (i:Int)
theorem InZ.mem{zs:List (5:)}{n:Str}{k:Bool}{a:Int}{bs:List TV}(h:InZ zs (.node (.put n k a) 0 bs)){t:TV}(ht:t∈bs):InZ zs t:=λm b j=>h m b (by rw [clV];exact UV ht j)
theorem V4(zs:List (5:)):∀ts:List TV,(nmFs zs ts).length=ts.length
 | []=>by rw [nmFs];rfl
 | t::r=>by rw [nmFs,aJ,aJ,V4 zs r]
theorem TU(zs:List (5:))(ts:List TV)(us:List (5:)):brG (nmFs zs ts) us=brG ts us:=by cases ts<;>rw [nmFs]<;>rfl
theorem Bq(full:Bool)(a:Int):Mks a (mkF full a):=by
 unfold mkF;split
 .exact .inl rfl
 .rename_i h;exact .inr ⟨iQ λz=>h (.inl z),rfl⟩
mutual
theorem LY{full:Bool}{zs:List (5:)}(hz:∀z∈zs,Nm z):∀t:TV,gdV t->InZ zs t->Tkt (nmF zs t) (wkF full zs t)
 | .node (.call m b) k bs,h,hi=>by
  rw [gdV]at h;obtain⟨i,j,rfl⟩:=hi m b (by rw [clV];exact aL);rw [nmF,wkF,JM j];exact .call (hz _ (aO j)) h.2.1
 | .node (.put n k a) mk bs,h,hi=>by
  rw [gdV]at h;obtain⟨h1,h2,F,G,J⟩:=h;subst F;rw [nmF,wkF,<-TU zs];exact .put h1 h2 (Bq full a) (MH hz bs J λt L=>hi.mem L) (by rw [V4];exact G)
theorem MH{full:Bool}{zs:List (5:)}(hz:∀z∈zs,Nm z):∀ts:List TV,gdVs ts->(∀t∈ts,InZ zs t)->TktL (nmFs zs ts) (wkFs full zs ts)
 | [],_,_=>by rw [nmFs,wkFs];exact .nil
 | t::r,h,hi=>by
  rw [gdVs]at h;rw [nmFs,wkFs];exact .cons (LY hz t h.1 (hi t aL)) (MH hz r h.2 λu j=>hi u (aU _ j))
end
def Lf(K:Fg)(n:Nat):Sp:=λvs H Q _=>∃(v:V)(l:Addr)(full:Bool)(t:TV)(zs:List (5:)),vs=[v,.ref l,.bl full]/\TvV K H v t/\lv t<=n/\gdV t/\InZ zs t/\SqL K H l (W zs)/\(wkF full zs t).length<=2000/\∀(lo:Addr)(H':Hp),Same H H'->H lo=none->H' lo=some (.lst (W (wkF full zs t)))->Q (.ref lo) H'
section
variable{K:Fg}{fd:FuncData}
theorem SG:FnScope ["_law_term_here","_law_names_here","_law_full","_law_row","_law_part"] ["_law_term_here","_law_names_here","_law_full"] (defScope YY):=(0:)
theorem Cn(F:Fun K "_law_words" "_law_words" YY f fd)(G:Gm mg)(R:Fn P w K mg base (n+1) "_law_words" ["_law_term_here","_law_names_here","_law_full"] (Lf K n)):FnOk P w K mg base CX0 (n+2) f fd ["_law_term_here","_law_names_here","_law_full"] (Lf K (n+1)):=by
 refine F.ok SG (14:) (λai A av s H vs Q E hr h=>?_)
 .obtain⟨v,l,full,t,zs,rfl,_⟩:=h
  rfl
 obtain⟨v,l,full,t,zs,rfl,ht,aj,hg,ab,hl,hz,q⟩:=h;have af:∀n:Nat,n<=4->(A.deeper (PyProof.Rows.envOfC "_law_words" (defScope YY) s.heap.objs.size f ai)).units+n<cLine:=λn hn=>by have:=hr.un;lia
 refine⟨_,(Qd (QC (Qu Zw (3:) Qj (QB _)) (Qh (Qn (Q0 (Qa (Qj) (Qa (Qk QD (pv 1) (3:) (λ_ _=>rfl)) (Qa (QE Zt rfl G.str e_ (Qa (3:) Qc)) Qc)))))) Qt)
  (Qd (Qm (i:=3) SG.nd rfl (7:) (Q0 (Qa (3:) Qc)))
  (Qd (Yf (QC (Q8 (3:)) (Qh (QS (Zi bY cE cF QM (pv 3) (Qa (Qj) Qc)))) Qt))
  (Qd (Yf (QC (PW.pt (pw_or (Qu Jq (3:) Qf (QB _)) (pw_or1 (Q8 (pv 2))))) (Qh (QS (Zi bY cE cF QM (pv 3) (Qa (QE Zt rfl G.str e_ (Qa (3:) Qc)) Qc)))) Qt))
  (Qd (Yf (QC (Qu XA (3:) (QF Qc) (QB _)) (Qd (QS (Zi bY cE cF QM (pv 3) (Qa (Qj) Qc)))
  (Qd (Ze bS rfl (YO (3:)) (Qz (i:=4) SG.nd rfl (7:)) (Qh (Qm (i:=3) SG.nd rfl (7:) (Ql Y0 (pv 3) (Qs R hr (Qa (pv 4) (Qa (pv 1) (Qa (pv 2) Qc))) (8:))))))
  (Qh (QS (Zi bY cE cF QM (pv 3) (Qa (Qj) Qc)))))) Qt))
  (Qh (Qn (pv 3)))))))),?_⟩
 try dsimp only [QW,Cx.nox]
 have ak:Str.ofString "*"=S [42]:=by decide+kernel
 have al:Str.ofString "="=S [61]:=by decide+kernel
 have am:Str.ofString "("=S [40]:=by decide+kernel
 have an:Str.ofString ")"=S [41]:=by decide+kernel
 rw [ak,al,am,an];refine L2.let5 ?_
 intros
 rcases ZZ ht with⟨a,m,b,rfl,rfl,h1⟩ | ⟨a,b,bs,nm,k,J,rfl,et,h1,h2,h3,h4⟩
 .refine⟨_,rfl,a,_,0,_,rfl,rfl,h1,rfl,rfl,_,rfl,?_⟩;show if decide (V.str CALL=V.str CALL)=true then _ else _;rw [aV rfl];obtain⟨i,hi,rfl⟩:=ab m b (by rw [clV];exact aL);rw [gdV]at hg;rw [wkF,JM hi]at q;refine Q2 ⟨_,rfl,_,rfl,a,_,1,_,rfl,rfl,h1,rfl,l,_,_,.str (S zs[i]),rfl,rfl,hl,QL (by unfold W;rw [aM,aE hi];rfl),_,rfl,a,_,2,_,rfl,rfl,h1,rfl,_,rfl,Ut hg.2.1,(by show 3<=sizeLine;decide),λlo L=>?_⟩;rw [Yk];exact q lo _ (Qe L _) L Qb
 .refine⟨_,rfl,a,_,0,_,rfl,rfl,h1,rfl,rfl,_,rfl,?_⟩;have ao:decide (V.str PUT=V.str CALL)=false:=by decide+kernel
  show if decide (V.str PUT=V.str CALL)=true then _ else _;rw [ao];rw [et]at hg ab hz q;rw [gdV]at hg;obtain⟨g1,g2,_,_,g5⟩:=hg;rw [wkF]at hz q;have ag:=h3.length;rw [ZP]at aj;refine Q7 ⟨_,rfl,a,_,1,_,rfl,rfl,h1,rfl,(by show 1<=sizeLine;decide),λj aa=>?_⟩;have s1:=Qe aa (.lst [.str nm]);have b1:upd H j (.lst [.str nm]) j=some (.lst (W [codes nm])):=by rw [Qb];unfold W;rw [aR,QN];rfl
  generalize upd H j (.lst [.str nm])=H1 at s1 b1 ⊢;have gr:∀{X:Hp}{ys:List V},Same H X->Same H (upd X j (.lst ys)):=λg b u e=>by rw [Qi (Qg e aa)];exact g _ _ e
  have Wa:∀(us:List (5:))(x:List Nat),W us++[.str (S x)]=W (us++[x]):=λus x=>by unfold W;rw [aS];rfl
  refine⟨λac H'=>ac=[some (.ref a),some (.ref l),some (.bl full),some (.ref j),none]/\Same H H'/\H' j=some (.lst (W (codes nm::kpW k))),?_,?_⟩
  .refine⟨_,rfl,a,_,2,_,rfl,rfl,s1.seqT h1,rfl,_,rfl,?_⟩;cases k with
   | true=>
    refine Q2 ⟨_,rfl,.inl ⟨rfl,_,SqL.of b1⟩,j,_,_,rfl,rfl,b1,(by show 1<sizeLine;decide),rfl,gr s1,?_⟩;rw [Qb,Wa];rfl
   | false=>exact Q7 ⟨rfl,s1,b1⟩
  rintro σ H2 ⟨rfl,s2,b2⟩;refine⟨λac H'=>ac=[some (.ref a),some (.ref l),some (.bl full),some (.ref j),none]/\Same H H'/\H' j=some (.lst (W (codes nm::(kpW k++mkF full J)))),?_,?_⟩
  .have ap:(codes nm::kpW k).length<=2:=by cases k<;>simp [kpW]
   have app:(J≠0\/full=true)->H2 j=some (.lst (W (codes nm::kpW k)))->upd H2 j (.lst (W (codes nm::kpW k)++[.str (S (sh J))])) j=some (.lst (W (codes nm::(kpW k++mkF full J)))):=λh _=>by
    rw [Qb,Wa];have:mkF full J=[sh J]:=by unfold mkF;rw [aH h]
    rw [this];rfl
   have wl:(W (codes nm::kpW k)).length<sizeLine:=by unfold W;rw [aA];exact cK ap (9:)
   refine⟨_,rfl,a,_,3,_,rfl,rfl,s2.seqT h1,rfl,rfl,_,rfl,Ui (λc=>?_) (λc=>?_)⟩
   .have aq:J≠0:=λz=>by subst z;cases c
    refine⟨_,rfl,.inl ⟨rfl,_,SqL.of b2⟩,_,rfl,a,_,3,_,rfl,rfl,s2.seqT h1,rfl,_,rfl,Ut g2,j,_,_,rfl,rfl,b2,wl,rfl,gr s2,?_⟩;rw [Yk];exact app (.inl aq) b2
   .have he:J=0:=iQ λz=>c (by
     show(!decide (V.int J=V.int 0))=true;rw [bM λy=>z (V.int.inj y)];rfl)
    refine⟨_,rfl,_,rfl,?_⟩;cases full with
    | true=>
     refine Q2 ⟨_,rfl,.inl ⟨rfl,_,SqL.of b2⟩,_,rfl,a,_,3,_,rfl,rfl,s2.seqT h1,rfl,_,rfl,Ut g2,j,_,_,rfl,rfl,b2,wl,rfl,gr s2,?_⟩;rw [Yk];exact app (.inr rfl) b2
    | false=>
     have:mkF false J=[]:=by unfold mkF;rw [aF (by rw [he];simp)]
     exact Q7 ⟨rfl,s2,by rw [this,cC];exact b2⟩
  rintro σ H3 ⟨rfl,s3,b3⟩;have eU:codes nm::(kpW k++(mkF full J++brG t.bs (wkFs full zs t.bs)))=(codes nm::(kpW k++mkF full J))++brG t.bs (wkFs full zs t.bs):=by simp [bO]
  rw [eU]at hz q;generalize codes nm::(kpW k++mkF full J)=U at hz q b3;rw [aI]at hz;refine⟨λac H'=>∃(lo:Addr)(c4:Option V),ac=[some (.ref a),some (.ref l),some (.bl full),some (.ref lo),c4]/\Same H H'/\H lo=none/\H' lo=some (.lst (W (U++brG t.bs (wkFs full zs t.bs)))),?_,?_⟩
  .refine⟨_,rfl,a,_,4,_,rfl,rfl,s3.seqT h1,rfl,(20:),λp hp=>?_⟩;have sp:=Qe hp (.tup []);have bp:upd H3 p (.tup []) p=some (.tup []):=Qb;generalize upd H3 p (.tup [])=H4 at sp bp ⊢;have s4:=s3.trans sp;have b4:=sp _ _ b3;obtain⟨ly,_⟩:=UR t.bs g5;refine⟨.tuple (Z6 t.bs),.tuple [],.tup (s4.seqT h2) (XH (h3.mono λ_ _=>s4.seqT) g5),.tup (SqT.of bp) .nil,(by simp only [PyData.canLay0];exact ly),(by simp [PyData.canLay0,PyData.canLayAll0]),af _ (bL (Nat.min_le_right _ _) (by simp [PyData.depth,PyData.depthAll])),?_⟩;generalize aw:t.bs=ts at*;cases ts with
   | nil=>
    have e:(if true=true then !PyData.eqv (.tuple (Z6 ([]:List TV))) (.tuple [])else PyData.eqv (.tuple (Z6 ([]:List TV))) (.tuple []))=false:=by rw [Z6];rfl
    rw [e];refine⟨_,rfl,Q7 ⟨j,none,rfl,s4,aa,?_⟩⟩;show H4 j=some (.lst (W (U++[])));rw [cC];exact b4
   | cons Y r0=>
    have e:(if true=true then !PyData.eqv (.tuple (Z6 (Y::r0))) (.tuple [])else PyData.eqv (.tuple (Z6 (Y::r0))) (.tuple []))=true:=by rw [Z6];rfl
    rw [e];have ar:brG (Y::r0) (wkFs full zs (Y::r0))=[40]::(wkFs full zs (Y::r0)++[[41]]):=rfl;rw [ar]at hz ⊢;rw [aJ,aI,cT]at hz;have wl:∀us:List (5:),us.length<=2000->(W us).length<sizeLine:=λus h=>by unfold W;rw [aA];exact cK h (9:)
    refine⟨_,rfl,Q2 ⟨_,rfl,.inl ⟨rfl,_,SqL.of b4⟩,j,_,_,rfl,rfl,b4,wl _ (10:),?_⟩⟩;have s5:=gr (ys:=W U++[.str (S [40])]) s4;have b5:upd H4 j (.lst (W U++[.str (S [40])])) j=some (.lst (W (U++[[40]]))):=by rw [Qb,Wa]
    generalize upd H4 j (.lst (W U++[.str (S [40])]))=H5 at s5 b5 ⊢;refine⟨_,rfl,a,_,4,_,rfl,rfl,s5.seqT h1,rfl,b,rfl,⟨_,s5.seqT h2⟩,?_⟩;refine MX (K:=K) (xs:=bs) (λi σ H'=>∃(lo:Addr)(c4:Option V),σ=[some (.ref a),some (.ref l),some (.bl full),some (.ref lo),c4]/\Same H H'/\H lo=none/\H' lo=some (.lst (W (U++[[40]]++wkFs full zs ((Y::r0).take i)))))
     ⟨j,none,rfl,s5,aa,by rw [List.take_zero,wkFs,cC];exact b5⟩ ?_ ?_ ?_
    .rintro i σ H' _ ⟨_,_,_,g,_⟩;exact g.seqT h2
    .rintro i x σ H' hx ⟨lo,c4,rfl,g,M,L⟩;have hi:i<bs.length:=(bT.mp hx).1;obtain⟨c,hc⟩: ∃c,(Y::r0)[i]?=some c:=⟨_,aE (10:)⟩;obtain⟨cv,as,au⟩:=h3.get hc;obtain rfl:cv=x:=aK (as.symm.trans hx);have hm:=bC hc;have a1:=UX hm;have a2:=MO (full:=full) (zs:=zs) hm;have a3:=Nt (full:=full) (zs:=zs) (Y::r0) i;refine⟨_,rfl,_,rfl,_,rfl,_,rfl,cv,l,full,c,zs,rfl,au.mono λ_ _=>g.seqT,by lia,Xa g5 hm,ab.mem hm,g.seq hl,by lia,λlb Hb gb ax hb=>?_⟩;refine⟨lo,lb,_,_,rfl,rfl,SqL.of (gb _ _ L),SqL.of hb,?_,λp2 ae=>?_⟩
     .unfold W;rw [aA,aA,aI,aI,cT];exact QA (10:)
     have gg:=g.trans gb;refine⟨p2,_,rfl,gg.trans (Qe ae _),gg.free ae,?_⟩;rw [Qb,bE,hc,cV,NE];unfold W;simp only [aS,bO]
    .rintro σ H' ⟨lo,c4,rfl,g,M,L⟩;rw [ag,bP]at L;refine⟨_,rfl,.inl ⟨rfl,_,SqL.of L⟩,lo,_,_,rfl,rfl,L,wl _ (by rw [aI,aI,cT];lia),lo,c4,rfl,λb u e=>?_,M,?_⟩
     .rw [Qi (Qg e M)];exact g _ _ e
     .rw [Qb,Wa];simp [bO]
  rintro σ H4 ⟨lo,c4,rfl,s4,M,b4⟩;exact⟨_,rfl,q lo H4 s4 M b4⟩
theorem T3{k:Nat}:FnOk P w K mg base CX0 k f fd ["_law_term_here","_law_names_here","_law_full"] (Lf K 0):=by
 have F:∀j H Q E,¬Lf K 0 j H Q E:=λj H Q E h=>by
  obtain⟨v,l,J,t,zs,_,_,L,_⟩:=h;rw [ZP]at L;lia
 exact⟨λj H Q E h=>absurd h (F j H Q E),λA G s H M U j Q E _ _ _ _ h=>absurd h (F j H Q E)⟩
theorem OR(F:Fun K "_law_words" "_law_words" YY f fd)(G:Gm mg)(hb:Binds K fd ["_law_term_here","_law_names_here","_law_full"] [])(hm:mg "_law_words"=some (.ref f)):∀n:Nat,FnOk P w K mg base CX0 (n+1) f fd ["_law_term_here","_law_names_here","_law_full"] (Lf K n)
 | 0=>T3
 | n+1=>Cn F G ⟨f,fd,OR F G hb hm n,hb,F.kp,hm⟩
end
def VM(K:Fg):Sp:=λvs H Q _=>∃(l:Addr)(c:Int)(us:List V),vs=[.ref l,.int c]/\SqL K H l us/\us.length<=100/\∀(lo:Addr)(H':Hp)(ys:List V),Same H H'->H lo=none->H' lo=some (.lst ys)->ys.Perm us->Q (.ref lo) H'
section
variable{K:Fg}{fd:FuncData}
theorem UO:FnScope ["_law_terms","_law_cell","_law_found","_law_number","_law_term_here"] ["_law_terms","_law_cell"] (defScope Lq):=(0:)
theorem Ox(F:Fun K "_law_turned_about" "_law_turned_about" Lq f fd)(G:Gm mg):FnOk P w K mg base CX0 1 f fd ["_law_terms","_law_cell"] (VM K):=by
 refine F.ok UO (14:) (λac A aa s H vs Q E hr h=>?_)
 .obtain⟨l,c,U,rfl,_⟩:=h
  rfl
 obtain⟨l,c,U,rfl,hl,ab,q⟩:=h;refine⟨_,(Qd (Qm (i:=2) UO.nd rfl (7:) (Q0 Qc))
  (Qd (Qm (i:=3) UO.nd rfl (7:) (Ql QP (pv 1) Qf))
  (Qd (Ze bS rfl (QZ (pv 0)) (Qz (i:=4) UO.nd rfl (7:)) (Qd (Qm (i:=3) UO.nd rfl (7:) (Ql QP (Ql Zx (Ql JY (pv 3) Qf) Qf) Qf))
  (Qh (QS (Zi bY PySem.F.slot_list_insert PySem.F.type_list_insert L5 (pv 2) (Qa (Ql QP (pv 3) (Ql Zx (Qv Qy rfl G.len bJ (Qa (pv 2) Qc)) Qf)) (Qa (pv 4) Qc)))))))
  (Qh (Qn (pv 2)))))),?_⟩
 try dsimp only [QW,Cx.nox]
 refine L2.let3 ?_
 intros
 refine⟨(20:),λlo M=>?_⟩;have Y:=Qe M (.lst []);have b1:upd H lo (.lst []) lo=some (.lst []):=Qb;generalize upd H lo (.lst [])=H1 at Y b1 ⊢;refine⟨_,rfl,_,_,rfl,rfl,(by show(0:Int)<2147483647;decide),?_⟩;have p0:∀x:Int,0<=x%2147483647/\x%2147483647<2147483647:=λx=>⟨cA _ (9:),cL _ (9:)⟩;refine⟨_,rfl,l,rfl,⟨_,Y.seq hl⟩,?_⟩;refine Zn (K:=K) (xs:=U) (λi σ H'=>∃(J:Int)(ys:List V)(c4:Option V),σ=[some (.ref l),some (.int c),some (.ref lo),some (.int J),c4]/\0<=J/\J<2147483647/\Same H H'/\H' lo=some (.lst ys)/\ys.Perm (U.take i))
  ⟨_,[],none,rfl,(p0 c).1,(p0 c).2,Y,b1,.nil⟩ ?_ ?_ ?_
 .rintro i σ H' _ ⟨_,_,_,_,_,_,g,_⟩;exact g.seq hl
 .rintro i x σ H' hx ⟨J,ys,c4,rfl,h0,h1,g,j,hp⟩;have hi:i<U.length:=(bT.mp hx).1;have ad:ys.length=i:=by rw [hp.length_eq,bH];lia
  refine⟨_,rfl,_,_,rfl,rfl,?_,_,_,rfl,rfl,_,_,rfl,rfl,(by show(0:Int)<2147483647;decide),?_⟩
  .exact .inr ⟨by decide,by decide⟩
  dsimp only;generalize hg:(J*48271+11)%2147483647=L;have hv:0<=L/\L<2147483647:=by rw [<-hg];exact p0 _
  obtain⟨k,hk,ae⟩: ∃k:Nat,L%((ys.length:Int)+1)=(k:Int)/\k<=ys.length:=by
   have x0:0<=L%((ys.length:Int)+1):=cA _ (10:);have x1:L%((ys.length:Int)+1)<(ys.length:Int)+1:=cL _ (10:);exact⟨_,(eQ x0).symm,by lia⟩
  refine⟨_,rfl,.inl ⟨rfl,_,SqL.of j⟩,_,rfl,_,rfl,lo,_,rfl,.inl (SqL.of j),_,_,rfl,rfl,_,_,rfl,rfl,(by show(0:Int)<(ys.length:Int)+1;lia),_,rfl,lo,ys,x,k,rfl,(by rw [<-hk]),by lia,j,cK (show ys.length<=100 by lia) (9:),?_⟩;refine⟨L,_,_,rfl,hv.1,hv.2,λb u e=>?_,Qb,?_⟩
  .rw [Qi (Qg e M)];exact g _ _ e
  .rw [bE,hx,cV];have h1:(ys.take k++x::ys.drop k).Perm (x::ys):=by
    have:=List.perm_middle (a:=x) (l₁:=ys.take k) (l₂:=ys.drop k)
    rwa [fK]at this
   exact h1.trans ((List.Perm.cons x hp).trans (List.perm_append_singleton x _).symm)
 .rintro σ H' ⟨J,ys,c4,rfl,h0,h1,g,j,hp⟩;rw [bP]at hp;exact⟨_,rfl,q lo H' ys g M j hp⟩
end
abbrev SIX:List (5:):=[[97],[97,98],[98],[98,97],[99],[97,98,99,100,101,102,103,104]]
abbrev KK:List (5:):=[[107],[107,109]]
structure RwOk(out:List PNx):Prop where
 nd:(out.map λt=>t.2.1).Nodup
 len:out.length<=3
 pos:2<=out.length
 nm:∀t∈out,∃z∈SIX,t.2.1=S z
 kn:∀t∈out,t.2.2.2.length<=4/\∀x∈t.2.2.2,∃z∈KK,x=S z
def Vw(K:Fg):Sp:=λvs H Q _=>∃(a lk ln:Addr)(ns:List Int)(st:Nat),vs=[.ref a,.int (st:Int),.ref lk,.ref ln]/\SqL K H a (ns.map V.int)/\SqL K H lk (W KK)/\SqL K H ln (W SIX)/\st<=10/\
 ∀(lo:Addr)(H':Hp)(out:List PNx),Same H H'->H lo=none->H' lo=some (.lst (out.map λt=>V.ref t.1))->(∀t∈out,RowAt K H' t)->RwOk out->Q (.ref lo) H'
section
variable{K:Fg}{fd:FuncData}
theorem Ue:FnScope ["_law_script","_law_start","_law_kinds","_law_names_here","_law_number","_law_rows_here","_law_k","_law_more","_law_branches"] ["_law_script","_law_start","_law_kinds","_law_names_here"] (defScope MB):=(0:)
theorem PX(F:Fun K "_law_rows" "_law_rows" MB f fd)(G:Gm mg)(hso:mg "sorted"=none)(RC:Fn P w K mg base 1 "_law_cell_at" ["_law_script","_law_k"] (XB K)):FnOk P w K mg base CX0 2 f fd ["_law_script","_law_start","_law_kinds","_law_names_here"] (Vw K):=by
 refine F.ok Ue (14:) (λax A be s H vs Q E hr h=>?_)
 .obtain⟨a,lk,ln,ns,st,rfl,_⟩:=h
  rfl
 obtain⟨a,lk,ln,ns,st,rfl,hS,hk,hn,bf,q⟩:=h;have au:(A.deeper (PyProof.Rows.envOfC "_law_rows" (defScope MB) s.heap.objs.size f ax)).units+4<cLine:=by have:=hr.un;lia
 refine⟨_,(Qd (Qm (i:=4) Ue.nd rfl (7:) (Ql QP (Qs RC hr (Qa (pv 0) (Qa (pv 1) Qc))) (Ql Z8 Qf Qf)))
  (Qd (Qm (i:=5) Ue.nd rfl (7:) (Q0 (Qa ((QF (Qa (Qk QD (pv 3) (Ql QP (pv 4) Qf) (λ_ _=>rfl)) (Qa (QF Qc) Qc)))) Qc)))
  (Qd (Ze bS rfl (NI rfl G.rng (Qa (Qf) (Qa (Ql Zx Qf (Ql QP (Ql Zu (pv 4) Qf) Qf)) Qc))) (Qz (i:=6) Ue.nd rfl (7:)) (Qd (Qm (i:=7) Ue.nd rfl (cB rfl) (Ql QP (Qs RC hr (Qa (pv 0) (Qa (Ql Zx (pv 1) (pv 6)) Qc))) (Ql Z8 Qf Qf)))
  (Qd (Qm (i:=8) Ue.nd rfl (7:) (QE ZT rfl G.tup fY (Qa (QY (CompG.many (xs:=["_law_j"]) (caps:=["_law_kinds","_law_more"]) (cap:=[2,7]) (cs:=[_,_]) rfl rfl (1:) (1:) (1:) (1:) (1:) (1:) rfl rfl rfl) rfl (Zr rfl G.rng (Qa (Ql QP (pv 7) Qf) Qc)) (UU (CompG.many (xs:=["_law_j"]) (caps:=["_law_kinds","_law_more"]) (cap:=[2,7]) (cs:=[_,_]) rfl rfl (1:) (1:) (1:) (1:) (1:) (1:) rfl rfl rfl)) (λ_ _ _ _=>Zg) (λ_ _ _ _=>Qk (r:=BA K) QD (pv 1) (Ql QP (Ql Zu (pv 2) (Ql Zx Qf (Ql JY Qf (pv 0)))) Qf) (λ_ _=>rfl))) Qc)))
  (Qh (QS (Zi bY cE cF QM (pv 5) (Qa ((QF (Qa (Qk QD (pv 3) (Ql QP (Ql Zx (pv 4) (pv 6)) Qf) (λ_ _=>rfl)) (Qa (pv 8) Qc)))) Qc)))))))
  (Qh (Qn (Qv (VH au) rfl hso PyProof.Rows.boot_sorted (Qa (pv 5) Qc))))))),?_⟩
 try dsimp only [QW,Cx.nox]
 refine L2.let3 ?_
 intros
 have pw:Lu 10 12:=⟨by decide,by decide,by decide⟩;have al:∀i:Nat,i<6->atI (W SIX) (i:Int)=some (.str (S (SIX.getD i []))):=λi hi=>QL (by
  unfold W;rw [aM,aE (show i<SIX.length from hi),dA,aE (show i<SIX.length from hi)];rfl)
 have ay:∀x:Int,∃z∈KK,atI (W KK) (x%2)=some (.str (S z)):=λx=>by
  rcases(show x%2=0\/x%2=1 by lia)with h | h<;>rw [h]
  .exact⟨[107],by decide,rfl⟩
  .exact⟨[107,109],by decide,rfl⟩
 have m6:∀x:Int,∃i:Nat,x%6=(i:Int)/\i<6:=λx=>by
  have x0:0<=x%6:=cA _ (9:);have x1:x%6<6:=cL _ (9:);exact⟨_,(eQ x0).symm,by lia⟩
 refine⟨_,rfl,_,rfl,a,ns,st,rfl,hS,λc0=>⟨_,_,rfl,rfl,pw,_,_,rfl,rfl,(by show(0:Int)<10^12;decide),?_⟩⟩;dsimp only;have az:0<=c0%10^Int.toNat 12:=cA _ (9:);generalize c0%10^Int.toNat 12=Y at az ⊢;obtain⟨i0,a0,am⟩:=m6 Y;refine⟨_,rfl,_,rfl,_,_,rfl,rfl,(by show(0:Int)<6;decide),ln,_,_,.str (S (SIX.getD i0 [])),rfl,rfl,hn,(by rw [a0];exact al i0 am),(20:),λe0 a1=>?_⟩;generalize J:upd H e0 _=X1;have s1:Same H X1:=by rw [<-J];exact Qe a1 _
 have b1:X1 e0=some (.tup []):=by rw [<-J];exact Qb
 clear J;refine⟨(18:),λt0 a2=>?_⟩;generalize J:upd X1 t0 _=X2;have s2:Same X1 X2:=by rw [<-J];exact Qe a2 _
 have b2:X2 t0=some (.tup [.str (S (SIX.getD i0 [])),.ref e0]):=by rw [<-J];exact Qb
 clear J;refine⟨(by show 1<=sizeLine;decide),λlr an=>?_⟩;generalize J:upd X2 lr _=X3;have s3:Same X2 X3:=by rw [<-J];exact Qe an _
 have b3:X3 lr=some (.lst [.ref t0]):=by rw [<-J];exact Qb
 clear J;have g3:Same H X3:=s1.trans (s2.trans s3);have av:H lr=none:=(s1.trans s2).free an;refine⟨_,rfl,_,_,rfl,rfl,⟨by decide,by decide⟩,_,_,rfl,rfl,(by show(0:Int)<2;decide),_,_,rfl,rfl,1,_,rfl,⟨by decide,by decide,?_,?_⟩,?_⟩
 .show-(2^62:Int)<=2+Y/6%2;lia
 .show(2+Y/6%2:Int)<2^62;lia
 have bg:(2+Y/6%2-1:Int).toNat=1\/(2+Y/6%2-1:Int).toNat=2:=by lia
 refine ZE (lo:=1) (n:=(2+Y/6%2-1:Int).toNat) (λi σ H'=>∃(L:List PNx)(c6 c7 c8:Option V),σ=[some (.ref a),some (.int (st:Int)),some (.ref lk),some (.ref ln),some (.int Y),some (.ref lr),c6,c7,c8]/\Same H H'/\H' lr=some (.lst (L.map λt=>V.ref t.1))/\L.length=i+1/\(∀t∈L,RowAt K H' t)/\(∀(j:Nat)(t:PNx),L[j]?=some t->t.2.1=S (SIX.getD ((i0+j)%6) []))/\∀t∈L,t.2.2.2.length<=4/\∀x∈t.2.2.2,∃z∈KK,x=S z)
  ⟨[(t0,S (SIX.getD i0 []),e0,[])],none,none,none,rfl,g3,b3,rfl,λt ht=>?_,λj t e=>?_,λt ht=>?_⟩ ?_ ?_
 .obtain rfl:=bD.mp ht;exact⟨SqT.of (s3 _ _ b2),SqT.of (s3 _ _ (s2 _ _ b1))⟩
 .cases j with
  | zero=>
   have:(t0,S (SIX.getD i0 []),e0,[])=t:=by simpa using e
   rw [<-this,Nat.add_zero,Nat.mod_eq_of_lt am]
  | succ j=>simp at e
 .obtain rfl:=bD.mp ht;exact⟨by simp,λx hx=>(nomatch hx)⟩
 .rintro i σ H1 hi ⟨L,c6,c7,c8,rfl,g1,ab,ao,M,aa,ac⟩;refine⟨_,rfl,_,rfl,_,rfl,_,_,rfl,rfl,a,ns,st+(1+i),(by show [_,V.int ((st:Int)+(1+(i:Int)))]=_;congr 3),g1.seq hS,λc1=>⟨_,_,rfl,rfl,pw,_,_,rfl,rfl,(by show(0:Int)<10^12;decide),?_⟩⟩;dsimp only;have a3:0<=c1%10^Int.toNat 12:=cA _ (9:);generalize c1%10^Int.toNat 12=mo at a3 ⊢;have x0:0<=mo%5:=cA _ (9:);have x1:mo%5<5:=cL _ (9:);refine⟨_,rfl,_,_,rfl,rfl,(by show(0:Int)<5;decide),_,rfl,(by show-(2^62:Int)<=mo%5;lia),(by show(mo%5:Int)<2^62;lia),λacc ae=>?_⟩;refine Gf (lo:=0) (n:=(mo%5:Int).toNat) (cs:=[some (.ref lk),some (.int mo)]) (tt:=λ_ H Q=>Q true H) (λj ys H2=>Same H1 H2/\H2 acc=some (.lst ys)/\∃zs:List (5:),ys=W zs/\zs.length=j/\∀z∈zs,z∈KK)
   ⟨Qe ae _,Qb,[],rfl,rfl,λz hz=>(nomatch hz)⟩ ?_ ?_
  .rintro j ys H2 hj ⟨g2,af,zs,rfl,ag,ai⟩;obtain⟨z,hz,a4⟩:=ay (mo/(5+3*(0+(j:Int))));refine Q2 ⟨_,rfl,_,rfl,_,rfl,_,_,rfl,rfl,.inl ⟨by decide,by decide⟩,_,_,rfl,rfl,_,_,rfl,rfl,⟨by show(0:Int)<5+3*(0+(j:Int));lia,by show(5+3*(0+(j:Int)):Int)<1073741824;lia⟩,_,_,rfl,rfl,(by show(0:Int)<2;decide),lk,_,_,.str (S z),rfl,rfl,(g1.trans g2).seq hk,a4,?_⟩;refine QI hj af (by unfold W;rw [aA];lia) ⟨λb u e=>?_,Qb,zs++[z],?_,by simp [ag],λx hx=>?_⟩
   .rw [Qi (Qg e ae)];exact g2 _ _ e
   .unfold W;rw [aS];rfl
   .rcases aW.mp hx with hx | hx
    .exact ai x hx
    .rw [bD.mp hx];exact hz
  rintro ys H2 ⟨g2,af,zs,rfl,ag,ai⟩;refine⟨acc,_,rfl,.inl ⟨SqL.of af,λtb a5=>?_⟩⟩;generalize J:upd H2 tb _=H3;have a6:Same H2 H3:=by rw [<-J];exact Qe a5 _
  have a7:H3 tb=some (.tup (W zs)):=by rw [<-J];exact Qb
  clear J;have aj:Same H1 H3:=g2.trans a6;obtain⟨i1,a8,aw⟩:=m6 (Y+(1+(i:Int)));have a9:i1=(i0+(i+1))%6:=by lia
  refine⟨_,rfl,.inl ⟨rfl,_,SqL.of (aj _ _ ab)⟩,_,rfl,_,rfl,_,rfl,_,_,rfl,rfl,_,_,rfl,rfl,(by show(0:Int)<6;decide),ln,_,_,.str (S (SIX.getD i1 [])),rfl,rfl,(g1.trans aj).seq hn,(by show atI (W SIX) ((Y+(1+(i:Int)))%6)=_;rw [a8];exact al i1 aw),_,rfl,(18:),λtq ba=>?_⟩;generalize J:upd H3 tq _=H4;have ap:Same H3 H4:=by rw [<-J];exact Qe ba _
  have bb:H4 tq=some (.tup [.str (S (SIX.getD i1 [])),.ref tb]):=by rw [<-J];exact Qb
  clear J;have ad:Same H1 H4:=aj.trans ap;have aq:=ad _ _ ab;refine⟨lr,_,_,rfl,rfl,aq,(by rw [aA];exact cK (show L.length<=10 by lia) (9:)),?_⟩;have up:∀x xs,SqT K H4 x xs->SqT K (upd H4 lr (.lst ((L.map λt=>V.ref t.1)++[.ref tq]))) x xs:=λx xs h=>QU h aq;refine⟨L++[(tq,S (SIX.getD i1 []),tb,zs.map S)],_,_,_,rfl,λb u e=>?_,by rw [Qb];simp,by simp [ao],λt ht=>?_,λj t e=>?_,λt ht=>?_⟩
  .rw [Qi (Qg e av)];exact ad _ _ (g1 _ _ e)
  .rcases aW.mp ht with ht | ht
   .exact⟨up _ _ (ad.seqT (M t ht).1),up _ _ (ad.seqT (M t ht).2)⟩
   .obtain rfl:=bD.mp ht;refine⟨up _ _ (SqT.of bb),up _ _ ?_⟩;have:(zs.map S).map V.str=W zs:=by unfold W;rw [aZ];rfl
    rw [this];exact SqT.of (ap _ _ a7)
  .rw [List.getElem?_append]at e;split at e
   .exact aa j t e
   .rename_i bh;have bc:j-L.length=0:=by
     rcases Nat.eq_zero_or_pos (j-L.length)with z | z
     .exact z
     .rw [eZ (by show 1<=j-L.length;lia)]at e;cases e
    rw [bc]at e;have:(tq,S (SIX.getD i1 []),tb,zs.map S)=t:=by simpa using e
    have ej:j=i+1:=by lia
    rw [<-this,ej,<-a9]
  .rcases aW.mp ht with ht | ht
   .exact ac t ht
   .obtain rfl:=bD.mp ht;refine⟨by rw [aA,ag];lia,λx hx=>?_⟩;obtain⟨z,hz,rfl⟩:=aP.mp hx;exact⟨z,ai z hz,rfl⟩
 .rintro σ H1 ⟨L,c6,c7,c8,rfl,g1,ab,ao,M,aa,ac⟩;have ak:∀i j:Nat,i<6->j<6->S (SIX.getD i [])=S (SIX.getD j [])->i=j:=λi j hi hj e=>by
   have e':=XV e;have:∀i:Nat,i<6->∀j:Nat,j<6->SIX.getD i []=SIX.getD j []->i=j:=by decide
   exact this i hi j hj e'
  have ar:(L.map λt=>t.2.1).Nodup:=by
   refine h_.mpr λi j hi hj bi z'=>?_;rw [aA]at hi hj;rw [bR,bR,aa i _ (aE hi),aa j _ (aE hj)]at z';have:=ak _ _ (eI _ (9:)) (eI _ (9:)) z';lia
  have bd:∀z∈KK,PyData.strOk (S z)=true:=by decide+kernel
  refine⟨_,rfl,lr,L,rfl,SqL.of ab,λt ht=>⟨(M t ht).1,(M t ht).2,λx hx=>?_⟩,ar,by lia,λas p U _ hp=>?_⟩
  .obtain⟨z,hz,rfl⟩:=(ac t ht).2 x hx;exact bd z hz
  .have sp:=Qe hp (.lst (as.map λt=>V.ref t.1));refine q p _ as (g1.trans sp) (g1.free hp) Qb (λt ht=>(M t (U.mem_iff.mp ht)).same sp) ⟨?_,by rw [U.length_eq];lia,by rw [U.length_eq];lia,λt ht=>?_,λt ht=>ac t (U.mem_iff.mp ht)⟩
   .exact(U.map _).nodup_iff.mpr ar
   .obtain⟨j,hj,rfl⟩:=cS.mp (U.mem_iff.mp ht);refine⟨_,?_,aa j _ (aE hj)⟩;have:∀k:Nat,k<6->SIX.getD k []∈SIX:=by decide
    exact this _ (eI _ (9:))
end
theorem BP{m:Int}(h:m.natAbs<10^30):(sh m).length<=31:=by
 have hl:=(Z5 29 m.natAbs h).2.1;unfold sh;split
 .simp only [aJ];lia
 .lia
theorem Ac{m:Int}(h:m.natAbs<10^30):(shM m).length<=31:=by
 have:=BP h;unfold shM;split<;>simp [this]
theorem ZA(a b:List (5:)):tot (a++b)=tot a+tot b:=by unfold tot;rw [aS,fR,aI];lia
theorem Q6(a:List Nat)(b:List (5:)):tot (a::b)=a.length+3+tot b:=by unfold tot;rw [aR,cY,aJ];lia
theorem Yh:tot []=0:=rfl
theorem SY(k:Bool):tot (kpW k)<=4:=by cases k<;>decide
theorem Mb{m:Int}(h:m.natAbs<10^30)(full:Bool):tot (mkF full m)<=34:=by
 have:=BP h;unfold mkF;split
 .rw [Q6,Yh];lia
 .rw [Yh];lia
theorem Bs{m:Int}(h:m.natAbs<10^30):m.natAbs<10^60:=Nat.lt_trans h (9:)
theorem Sr{zs:List (5:)}(h:∀z∈zs,z.length<=8)(v:V):(nmI zs v).length<=8:=by
 unfold nmI;split
 .rw [dA];cases e:zs[Int.toNat _]? with
  | none=>simp
  | some z=>exact h z (bC e)
 .simp
theorem Tg(v:V):(mdS v).length<=2:=by
 unfold mdS;split
 .exact Zl _
 .simp
structure OneT(ms bs:List Str)(t:TV):Prop where
 gd:gdV t
 lv:lv t=1
 sz:sz t=1
 kp:kpV t=false
 fit:Yw ms bs t
 len:∀g:V->V,(shV (mpV g t)).length<=70
 tw:∀full zs,(∀z∈zs,z.length<=8)->tot (wkF full zs t)<=49
def XY(x:Addr×Nat×Nat):PyData:=.tuple [.str CALL,.int (x.2.1:Int),.int (x.2.2:Int)]
theorem N9(x:Addr×Nat×Nat):(XY x).canLay0=true/\(XY x).depth<=3:=by
 simp only [XY,PyData.canLay0,PyData.canLayAll0,PyData.depth,PyData.depthAll,OI,dO,dR];lia
def WZ(K:Fg):Sp:=λvs H Q _=>∃(nu:Int)(lb lm:Addr)(bs ms:List Str),vs=[.int nu,.ref lb,.ref lm]/\0<=nu/\SqT K H lb (bs.map V.str)/\SqL K H lm (ms.map V.str)/\bs.length<=4/\ms.length<=5/\∀(v:V)(t:TV)(H':Hp),Same H H'->TvV K H' v t->OneT ms bs t->Q v H'
def XM(ad:Int):TV:=.node (.put (S [120]) false ad) 0 []
theorem Md{ms bs:List Str}{ad:Int}(h:ad.natAbs<10^30):OneT ms bs (XM ad):=by
 have F:=Bs h;have hl:=Ac h;refine⟨?_,by simp [XM,lv,lvs],by simp [XM,sz,szs],by simp [XM,kpV,kpVs],λm b G=>by simp [XM,clV,clVs]at G,λg=>?_,λj zs hz=>?_⟩
 .unfold XM;rw [gdV,gdVs];refine⟨?_,F,rfl,by simp,trivial⟩;rw [show codes (S [120])=[120]from Q3 _];exact⟨by simp,by simp,λx J=>by obtain rfl:=bD.mp J;decide⟩
 .unfold XM;rw [mpV,mpVs,shV,shVs];simp only [shB,kpS,aI,b',Q3,aJ];simp;lia
 .have:=Mb h j;unfold XM;rw [wkF,wkFs,show codes (S [120])=[120]from Q3 _,Q6,ZA,ZA];have:tot (brG ([]:List TV) [])=0:=rfl;rw [this];show 1+3+(0+(tot (mkF j ad)+0))<=49;lia
theorem OQ{ms bs:List Str}(hi:i<ms.length)(hj:j<bs.length)(h5:ms.length<=5)(h4:bs.length<=4)(e:ms[i]?=bs[j]?):OneT ms bs (.node (.call (.int (i:Int)) (j:Int)) 0 []):=by
 have F:((j:Int)).natAbs<10^30:=by lia
 have J:=Bs F;have hl:=BP F;have G:=Zl i;refine⟨?_,by simp [lv,lvs],by simp [sz,szs],by simp [kpV],λm b G=>?_,λg=>?_,λL zs hz=>?_⟩
 .rw [gdV];exact⟨⟨i,by lia,rfl⟩,J,rfl,rfl⟩
 .rw [clV]at G;have:(m,b)=(V.int (i:Int),(j:Int)):=by simpa using G
  obtain⟨rfl,rfl⟩:=fH this;exact⟨i,j,rfl,rfl,hi,hj,e⟩
 .have:=Tg (g (.int (i:Int)));rw [mpV,shV];simp only [aI,aJ,b'];lia
 .have:=Sr hz (.int (i:Int));rw [wkF,Q6,Q6,Q6,Yh];simp only [aJ,b'];lia
section
variable{K:Fg}{fd:FuncData}
theorem JA:FnScope ["_law_number","_law_branches","_law_modes","_law_able","_law_k","_law_j"] ["_law_number","_law_branches","_law_modes"] (defScope Ms):=(0:)
theorem PK(F:Fun K "_law_call" "_law_call" Ms f fd)(G:Gm mg):FnOk P w K mg base CX0 1 f fd ["_law_number","_law_branches","_law_modes"] (WZ K):=by
 refine F.ok JA (14:) (λan A au s H vs Q E hr h=>?_)
 .obtain⟨L,lb,lm,bs,ms,rfl,_⟩:=h
  rfl
 obtain⟨L,lb,lm,bs,ms,rfl,h0,hb,hm,ao,ap,q⟩:=h;have ak:∀n:Nat,n<=4->(A.deeper (PyProof.Rows.envOfC "_law_call" (defScope Ms) s.heap.objs.size f an)).units+n<cLine:=λn hn=>by have:=hr.un;lia
 refine⟨_,(Qd (Qm (i:=3) JA.nd rfl (7:) (Q0 Qc))
  (Qd (Ze bS rfl (Zr rfl G.rng (Qa (Qv Qy rfl G.len bJ (Qa (pv 2) Qc)) Qc)) (Qz (i:=4) JA.nd rfl (7:)) (Qh
   (Ze bS rfl (Zr rfl G.rng (Qa (Qv Qy rfl G.len bJ (Qa (pv 1) Qc)) Qc)) (Qz (i:=5) JA.nd rfl (7:)) (Qh
    (QC (Qu Zw (Qk QD (pv 2) (pv 4) (λ_ _=>rfl)) (Qk Qp (pv 1) (pv 5) (λ_ _=>rfl)) (QB _)) (Qh (QS (Zi bY cE cF QM (pv 3) (Qa ((QF (Qa (Qj) (Qa (pv 4) (Qa (pv 5) Qc))))) Qc)))) Qt)))))
  (Qd (QC (PW.pt (pw_or (Qu PU (pv 3) (Q0 Qc) (QB _)) (pw_or1 (Qu Zw (Ql QP (pv 0) Qf) Qf (QB _))))) (Qh (Qn (QF (Qa (Qj) (Qa (Qj) (Qa (Yq) (Qa (Ql Jd (Ql QP (Ql Zu (pv 0) Qf) (Ql Z8 Qf Qf)) (Ql Z8 Qf Qf)) (Qa (QF Qc) Qc)))))))) Qt)
  (Qh (Qn (Qk QD (pv 3) (Ql QP (Ql Zu (pv 0) Qf) (Qv Qy rfl G.len bJ (Qa (pv 3) Qc))) (λ_ _=>rfl))))))),?_⟩
 try dsimp only [QW,Cx.nox]
 refine L2.let3 ?_
 intros
 have ml:(ms.map V.str).length=ms.length:=aA ..;have bl:(bs.map V.str).length=bs.length:=aA ..;refine⟨(20:),λlo ag=>?_⟩;have s1:=Qe ag (.lst []);have b1:upd H lo (.lst []) lo=some (.lst []):=Qb;generalize upd H lo (.lst [])=H1 at s1 b1 ⊢;refine⟨_,rfl,lm,_,rfl,.inl (s1.seq hm),_,rfl,(by rw [ml];lia),(by rw [ml];lia),?_⟩;rw [ml];refine ZE (lo:=0) (n:=ms.length) (λi σ H'=>∃(J:List (Addr×Nat×Nat))(c4 c5:Option V),σ=[some (.int L),some (.ref lb),some (.ref lm),some (.ref lo),c4,c5]/\Same H H'/\H' lo=some (.lst (J.map λx=>V.ref x.1))/\J.length<=4*i/\∀x∈J,SqT K H' x.1 [.str CALL,.int (x.2.1:Int),.int (x.2.2:Int)]/\x.2.1<ms.length/\x.2.2<bs.length/\ms[x.2.1]?=bs[x.2.2]?)
  ⟨[],none,none,rfl,s1,b1,bX _,λx hx=>(nomatch hx)⟩ ?_ ?_
 .rintro i σ H2 hi ⟨J,c4,c5,rfl,g2,ab,ai,has⟩;have ez:(0:Int)+(i:Int)=(i:Int):=by lia
  rw [ez];refine⟨_,rfl,lb,_,rfl,.inr (g2.seqT hb),_,rfl,(by rw [bl];lia),(by rw [bl];lia),?_⟩;rw [bl];refine ZE (lo:=0) (n:=bs.length) (λj σ H'=>∃(J:List (Addr×Nat×Nat))(c5:Option V),σ=[some (.int L),some (.ref lb),some (.ref lm),some (.ref lo),some (.int (i:Int)),c5]/\Same H H'/\H' lo=some (.lst (J.map λx=>V.ref x.1))/\J.length<=4*i+j/\∀x∈J,SqT K H' x.1 [.str CALL,.int (x.2.1:Int),.int (x.2.2:Int)]/\x.2.1<ms.length/\x.2.2<bs.length/\ms[x.2.1]?=bs[x.2.2]?)
   ⟨J,_,rfl,g2,ab,ai,has⟩ ?_ ?_
  .rintro j σ H3 hj ⟨J,c5,rfl,U,M,am,Y⟩;have ez:(0:Int)+(j:Int)=(j:Int):=by lia
   rw [ez];refine⟨_,rfl,_,rfl,lm,_,_,.str ms[i],rfl,rfl,U.seq hm,QL (by rw [aM,aE hi];rfl),_,rfl,_,rfl,lb,_,_,.str bs[j],rfl,rfl,U.seqT hb,QL (by rw [aM,aE hj];rfl),rfl,_,rfl,Ui (λc=>?_) (λc=>?_)⟩
   .have ec:ms[i]=bs[j]:=V.str.inj (b_ c);refine⟨_,rfl,.inl ⟨rfl,_,SqL.of M⟩,_,rfl,_,rfl,(by show 3<=sizeLine;decide),λtp aa=>?_⟩;have s4:=Qe aa (.tup [.str CALL,.int (i:Int),.int (j:Int)]);have b4:upd H3 tp (.tup [.str CALL,.int (i:Int),.int (j:Int)]) tp=some (.tup [.str CALL,.int (i:Int),.int (j:Int)]):=Qb;generalize upd H3 tp (.tup [.str CALL,.int (i:Int),.int (j:Int)])=H4 at s4 b4 ⊢;have ac:=s4 _ _ M;refine⟨lo,_,_,rfl,rfl,ac,(by rw [aA];exact cK (show J.length<=100 by lia) (9:)),J++[(tp,i,j)],_,rfl,λb u e=>?_,by rw [Qb];simp,by simp;lia,λx hx=>?_⟩
    .rw [Qi (Qg e ag)];exact s4 _ _ (U _ _ e)
    .rcases aW.mp hx with hx | hx
     .obtain⟨k1,k2⟩:=Y x hx;exact⟨QU (s4.seqT k1) ac,k2⟩
     .obtain rfl:=bD.mp hx;exact⟨QU (SqT.of b4) ac,hi,hj,by rw [aE hi,aE hj,ec]⟩
   .exact⟨J,_,rfl,U,M,by lia,Y⟩
  .rintro σ H3 ⟨J,c5,rfl,U,M,am,Y⟩;exact⟨J,_,_,rfl,U,M,by lia,Y⟩
 .rintro σ H2 ⟨J,c4,c5,rfl,g2,ab,ai,has⟩;have ad:Lu 10 30:=⟨by decide,by decide,by decide⟩;have ae:Lu 10 29:=⟨by decide,by decide,by decide⟩;have ex:Str.ofString "x"=S [120]:=by decide+kernel
  refine⟨_,rfl,(20:),λpe aq=>?_⟩;have s3:=Qe aq (.lst []);have b3:upd H2 pe (.lst []) pe=some (.lst []):=Qb;generalize upd H2 pe (.lst [])=H3 at s3 b3 ⊢;have U:=g2.trans s3;have M:=s3 _ _ ab;obtain⟨ly,_⟩:=Uf XY 3 J λx _=>N9 x;refine⟨.list (J.map XY),.list [],.lst (SqL.of M) (Jb (λx:Addr×Nat×Nat=>V.ref x.1) XY J λx hx=>.tup (s3.seqT (has x hx).1) (.cons (.str _) (.cons (.int _) (.cons (.int _) .nil)))),.lst (SqL.of b3) .nil,(by simp only [PyData.canLay0];exact ly),(by simp [PyData.canLay0,PyData.canLayAll0]),ak _ (bL (Nat.min_le_right _ _) (by simp [PyData.depth,PyData.depthAll])),_,rfl,Ui (λc=>?_) (λc=>?_)⟩
  .refine⟨_,rfl,_,_,rfl,rfl,⟨by decide,by decide⟩,_,_,rfl,rfl,ad,_,_,rfl,rfl,(by show(0:Int)<10^30;decide),_,_,rfl,rfl,ae,_,_,rfl,rfl,(20:),λe0 af=>⟨(by show 5<=sizeLine;decide),λtp aa=>?_⟩⟩;have t1:=Qe af (.tup []);have t2:=Qe aa (.tup [.str PUT,.str (Str.ofString "x"),.bl false,.int (L/4%10^30-10^29),.ref e0]);refine q _ (XM (L/4%10^30-10^29)) _ (U.trans (t1.trans t2)) (.put (SqT.of (by rw [<-ex];exact Qb)) (SqT.of (t2 _ _ Qb)) .nil (22:)) (Md ?_);have y0:0<=L/4%10^30:=cA _ (9:);have y1:L/4%10^30<10^30:=cL _ (9:);lia
  .have ar:J≠[]:=λz=>c (by rw [z];rfl);have av:0<J.length:=gR.mpr ar;refine⟨_,rfl,_,_,rfl,rfl,(by show(0:Int)<4;decide),rfl,_,rfl,Ui (λc2=>?_) (λc2=>?_)⟩
   .refine⟨_,rfl,_,_,rfl,rfl,⟨by decide,by decide⟩,_,_,rfl,rfl,ad,_,_,rfl,rfl,(by show(0:Int)<10^30;decide),_,_,rfl,rfl,ae,_,_,rfl,rfl,(20:),λe0 af=>⟨(by show 5<=sizeLine;decide),λtp aa=>?_⟩⟩;have t1:=Qe af (.tup []);have t2:=Qe aa (.tup [.str PUT,.str (Str.ofString "x"),.bl false,.int (L/4%10^30-10^29),.ref e0]);refine q _ (XM (L/4%10^30-10^29)) _ (U.trans (t1.trans t2)) (.put (SqT.of (by rw [<-ex];exact Qb)) (SqT.of (t2 _ _ Qb)) .nil (22:)) (Md ?_);have y0:0<=L/4%10^30:=cA _ (9:);have y1:L/4%10^30<10^30:=cL _ (9:);lia
   .obtain⟨k,hk,aj⟩: ∃k:Nat,L/4%((J.length:Nat):Int)=(k:Int)/\k<J.length:=by
     have y0:0<=L/4%((J.length:Nat):Int):=cA _ (10:);have y1:L/4%((J.length:Nat):Int)<((J.length:Nat):Int):=cL _ (10:);exact⟨_,(eQ y0).symm,by lia⟩
    have al:(J.map λx=>V.ref x.1).length=J.length:=aA ..;obtain⟨k1,k2,k3,k4⟩:=has J[k] (aO aj);refine⟨_,rfl,_,rfl,_,_,rfl,rfl,⟨by decide,by decide⟩,_,rfl,lo,_,rfl,.inl (SqL.of M),_,_,rfl,rfl,(by rw [al];lia),lo,_,_,.ref J[k].1,rfl,rfl,SqL.of M,?_,?_⟩
    .show atI _ (L/4%(((J.map λx=>V.ref x.1).length:Nat):Int))=_;rw [al,hk];exact QL (by rw [aM,aE aj];rfl)
    .exact q _ _ _ U (.call (s3.seqT k1)) (OQ k2 k3 ap ao k4)
end
end K12
namespace L2
open PySem PySem.Spec PyProof.Rows HT
theorem Vals.pick(r:Vals xs us):∀ks:List Nat,Vals (ks.filterMap (xs[·]?)) (ks.filterMap (us.toArray[·]?))
 | []=>.nil
 | k::ks=>by
  rw [eN,eN];cases e:xs[k]? with
  | none=>
   have h:=r.none_of e;have h':us.toArray[k]?=none:=by rw [List.getElem?_toArray];exact h
   simp only [h'];exact Vals.pick r ks
  | some x=>
   obtain⟨u,j,F⟩:=r.get e;have h':us.toArray[k]?=some u:=by rw [List.getElem?_toArray];exact j
   simp only [h'];exact .cons F (Vals.pick r ks)
theorem RE{α:Type}{xs:List α}{y:α}{ks:List Nat}(h:y∈ks.filterMap (xs[·]?)):y∈xs:=by
 obtain⟨k,_,e⟩:=dU.mp h;exact bC e
def Dt(K:Fg):V->Option Int->Option Int->Option Int->Hp->VK->Prop:=λx lo hi st H Q=>∃(a:Addr)(xs:List V)(i c:Nat),x=.ref a/\SqL K H a xs/\lo=some (i:Int)/\hi=none/\st=some (c:Int)/\0<c/\i<xs.length/\
 ∀(p:Addr)(ys:List V),H p=none->ys≠[]->ys.length<=xs.length->(∀y∈ys,y∈xs)->Q (.ref p) (upd H p (.lst ys))
def Dc(r:V->Option Int->Option Int->Option Int->Hp->VK->Prop)(te:TE)(tl th ts:TO):TE:=λσ H Q=>te σ H λx H1=>tl σ H1 λl H2=>th σ H2 λu H3=>ts σ H3 λc H4=>r x l u c H4 Q
theorem XZ{c:Expr}{lo:Option Expr}{tl tc:TO}(he:PE X e te)(hl:PO X lo tl)(hu:PO X hi th)(hc:PO X (some c) tc):PE X (.Subscript e (.Slice lo hi (some c) p2) pos) (Dc (Dt X.K) te tl th tc):=by
 intro pins s σ H Q I h;refine Subscript_ (thn (he pins s σ H _ I h) λv s1 ⟨x,H1,I1,r1,q1⟩=>?_);refine wpAny_Slice (thn (hl pins s1 σ H1 _ I1 q1) λU s2 ⟨l,H2,I2,pl,q2⟩=>thn (hu pins s2 σ H2 _ I2 q2) λY s3 ⟨u,H3,I3,pu,q3⟩=>thn (hc pins s3 σ H3 _ I3 q3) λvc F ⟨st,H4,I4,pc,q4⟩=>?_);obtain⟨a,xs,i,j,rfl,hx,rfl,rfl,rfl,h0,G,q⟩:=q4;cases r1;have L:Inv X pins σ H4 { F with heap:=F.heap.push { cls:=.type "slice",data:=.fields #[U,Y,vc] } }:=I4.kept (t':=F.toks) λb ob q=>aT _ q;obtain⟨its,r,ht,hz⟩:=L.list hx;have af:=r.length;show wpAny (6:) X.A (subscriptTail e (.Slice lo hi (some c) p2) (.ref a) (.ref F.heap.objs.size)) (EP X pins σ Q) X.xe { F with heap:=F.heap.push { cls:=.type "slice",data:=.fields #[U,Y,vc] } };refine tail_any (ops:=[.ref a,.ref F.heap.objs.size]) (T:="list") ht.isList.typeIs slot_list_getitem.lookup ?_ (by with_unfolding_all rfl);refine wpAny_getItem_list_slice ht.isList (Heap.IsSliceOf.new ..) pl pu pc (λz=>by injection z with z;lia) ?_ (by rw [aX]<;>lia);have aa:(its.toArray.size:Int)=(xs.length:Int):=by rw [aX];lia
 have ag:xs≠[]:=λz=>by rw [z]at G;cases G
 have ab:sliceBounds (some (i:Int)) none (some (j:Int)) its.toArray.size=((i:Int),(xs.length:Int),(j:Int)):=by
  simp only [sliceBounds,Option.getD_some,show(j:Int)>0 by lia,if_true,aa];rw [aF (10:)];rw [Int.min_eq_left (10:),Int.max_eq_right (10:)]
 have ac:slicePick its.toArray (some (i:Int)) none (some (j:Int))=((sliceRange (i:Int) (xs.length:Int) (j:Int)).filterMap (its.toArray[·]?)).toArray:=by
  unfold slicePick;rw [ab]
 rw [ac];have M:1<=(((xs.length:Int)-(i:Int)+(j:Int)-1)/(j:Int)).toNat:=by
  have:1<=((xs.length:Int)-(i:Int)+(j:Int)-1)/(j:Int):=(Int.le_ediv_iff_mul_le (10:)).mpr (10:);lia
 have ad:∃rest,sliceRange (i:Int) (xs.length:Int) (j:Int)=i::rest:=by
  unfold sliceRange;simp only [show(j:Int)>0 by lia,if_true,show(i:Int)<(xs.length:Int)by lia];obtain⟨n,hn⟩: ∃n,(((xs.length:Int)-(i:Int)+(j:Int)-1)/(j:Int)).toNat=n+1:=⟨_,(Nat.succ_pred_eq_of_pos M).symm⟩;rw [hn,List.range_succ_eq_map,aR];exact⟨_,List.cons_eq_cons.mpr ⟨by simp,rfl⟩⟩
 have ae:(sliceRange (i:Int) (xs.length:Int) (j:Int)).length<=xs.length:=sliceRange_length_le _ _ _ _ (λ_=>⟨by lia,Int.le_refl _⟩) (λz=>absurd (show(j:Int)>0 by lia) z);have J:((sliceRange (i:Int) (xs.length:Int) (j:Int)).filterMap (xs[·]?)).length<=xs.length:=bL (List.length_filterMap_le _ _) ae;refine⟨.ref _,_,L.laid (t':=F.toks) (o:=.lst ((sliceRange (i:Int) (xs.length:Int) (j:Int)).filterMap (xs[·]?))) (λb ob q=>aT _ q) (8:) ⟨bL J hz,_,0,r.pick _,bQ _ rfl⟩,rfl,q _ _ (L.hok.fresh (8:)) ?_ J λy hy=>RE hy⟩;obtain⟨rest,e⟩:=ad;rw [e,eN,aE G];simp
end L2
namespace K12
open PySem L2 K3 TM K9
structure TmD(ms bs:List Str)(n:Nat)(t:TV):Prop where
 gd:gdV t
 lv:lv t<=n+1
 sz:sz t<=2*n+1
 fit:Yw ms bs t
 len:∀g:V->V,(shV (mpV g t)).length<=70+143*n
 tw:∀full zs,(∀z∈zs,z.length<=8)->tot (wkF full zs t)<=49+106*n
theorem OneT.tm{ms bs:List Str}{t:TV}(h:OneT ms bs t)(n:Nat):TmD ms bs n t:=⟨h.gd,by rw [h.lv];lia,by rw [h.sz];lia,h.fit,λg=>by have:=h.len g;lia,λj zs hz=>by have:=h.tw j zs hz;lia⟩
theorem TmD.up{ms bs:List Str}{m:Nat}{t:TV}(h:TmD ms bs n t)(e:n<=m):TmD ms bs m t:=⟨h.gd,by have:=h.lv;lia,by have:=h.sz;lia,h.fit,λg=>by have:=h.len g;lia,λj zs hz=>by have:=h.tw j zs hz;lia⟩
theorem OS{ms bs:List Str}{t m:TV}(h:TmD ms bs n t)(hm:OneT ms bs m){nm:Str}(hn:Nm (codes nm))(k:Bool){ad:Int}(ha:ad.natAbs<10^30)(hts:ts=[t]\/ts=[t,m]\/ts=[m,t]):TmD ms bs (n+1) (.node (.put nm k ad) 0 ts):=by
 have F:=Bs ha;have J:=Ac ha;have L:=hn.len;have l3:(kpS k).length<=1:=by cases k<;>decide
 have M:=h.lv;have U:=h.sz;have Y:=hm.lv;have a5:=hm.sz;have G:Yw ms bs (.node (.put nm k ad) 0 ts):=λx b hx=>by
  rw [clV]at hx;have:(x,b)∈clV t\/(x,b)∈clV m:=by
   rcases hts with rfl | rfl | rfl<;>simp only [clVs,cC,aW]at hx
   .exact .inl hx
   .exact hx
   .exact hx.symm
  rcases this with hx | hx
  .exact h.fit x b hx
  .exact hm.fit x b hx
 have cl:nm.cps.toList=codes nm:=rfl;refine⟨?_,?_,?_,G,λg=>?_,λj zs hz=>?_⟩
 .rw [gdV];refine⟨hn,F,rfl,by rcases hts with rfl | rfl | rfl<;>simp,?_⟩;rcases hts with rfl | rfl | rfl<;>simp only [gdVs,h.gd,hm.gd,and_self]
 .rcases hts with rfl | rfl | rfl<;>simp only [lv,lvs]<;>lia
 .rcases hts with rfl | rfl | rfl<;>simp only [sz,szs]<;>lia
 .have a3:=h.len g;have a6:=hm.len g;rw [mpV,shV,cl];rcases hts with rfl | rfl | rfl<;>simp only [mpVs,shVs,shB,gl,dB,List.flatMap_nil,aI,aJ,b']<;>lia
 .have b1:=h.tw j zs hz;have b2:=hm.tw j zs hz;have b3:=Mb ha j;have b4:=SY k;have b5:tot [[41]]=4:=rfl;rw [wkF,Q6,ZA,ZA];rcases hts with rfl | rfl | rfl<;>simp only [brG,wkFs,Q6,ZA,Yh,aJ,b']<;>lia
theorem JF{K:Fg}{n k:Int}{Q:VK}(hH:H l=some (.lst xs))(hk:k=(xs.length:Int))(hpos:0<xs.length)(h:∀v∈xs,Q v H):BA K (.ref l) (.int (n%k)) H Q:=by
 have j:0<=n%k:=cA _ (10:);have F:n%k<k:=cL _ (10:);obtain⟨i,hi,hl⟩: ∃i:Nat,n%k=(i:Int)/\i<xs.length:=⟨_,(eQ j).symm,by lia⟩;rw [hi];exact⟨l,xs,_,xs[i],rfl,rfl,SqL.of hH,QL (aE hl),h _ (aO hl)⟩
theorem at0(v:V)(r:List V):atI (v::r) 0=some v:=QL (j:=0) rfl
theorem Dr:∀v∈([.str (Str.ofString "p"),.str (Str.ofString "pu"),.str (Str.ofString "z"),.str (Str.ofString "abcdefgh")]:List V),∃nm:Str,v=.str nm/\Nm (codes nm):=λv j=>by
 have k:∀z∈([[112],[112,117],[122],[97,98,99,100,101,102,103,104]]:List (5:)),Nm z:=λz hz=>by
  have h1:∀z∈([[112],[112,117],[122],[97,98,99,100,101,102,103,104]]:List (5:)),z≠[]/\z.length<=8/\∀c∈z,c∈QK:=by decide
  obtain⟨a,b,c⟩:=h1 z hz;exact⟨a,b,c⟩
 simp only [aQ,dE,bN]at j;rcases j with rfl | rfl | rfl | rfl
 .exact⟨_,rfl,(show codes (Str.ofString "p")=[112]by decide+kernel) ▸ k _ (22:)⟩
 .exact⟨_,rfl,(show codes (Str.ofString "pu")=[112,117]by decide+kernel) ▸ k _ (22:)⟩
 .exact⟨_,rfl,(show codes (Str.ofString "z")=[122]by decide+kernel) ▸ k _ (22:)⟩
 .exact⟨_,rfl,(show codes (Str.ofString "abcdefgh")=[97,98,99,100,101,102,103,104]by decide+kernel) ▸ k _ (22:)⟩
def Vb(K:Fg):Sp:=λvs H Q _=>∃(lc lb lm:Addr)(cs:List Int)(bs ms:List Str)(st:Bool),vs=[.ref lc,.ref lb,.ref lm,.bl st]/\SqL K H lc (cs.map V.int)/\cs≠[]/\cs.length<=3/\SqT K H lb (bs.map V.str)/\SqL K H lm (ms.map V.str)/\bs.length<=4/\ms.length<=5/\∀(v:V)(t:TV)(H':Hp),Same H H'->TvV K H' v t->TmD ms bs 2 t->(st=true->kpV t=false)->Q v H'
section
variable{K:Fg}{fd:FuncData}
theorem ZY:FnScope ["_law_cells","_law_branches","_law_modes","_law_start","_law_term_here","_law_cell","_law_number","_law_kept","_law_more","_law_parts","_law_add"] ["_law_cells","_law_branches","_law_modes","_law_start"] (defScope Rc):=(0:)
theorem Os(F:Fun K "_law_term" "_law_term" Rc f fd)(G:Gm mg)(RC:Fn P w K mg base 1 "_law_call" ["_law_number","_law_branches","_law_modes"] (WZ K)):FnOk P w K mg base CX0 2 f fd ["_law_cells","_law_branches","_law_modes","_law_start"] (Vb K):=by
 refine F.ok ZY (14:) (λbf A be s H vs Q E hr h=>?_)
 .obtain⟨lc,lb,lm,cs,bs,ms,st,rfl,_⟩:=h
  rfl
 obtain⟨lc,lb,lm,cs,bs,ms,st,rfl,hc,ax,ay,hb,hm,ag,ai,q⟩:=h;refine⟨_,(Qd (Qm (i:=4) ZY.nd rfl (7:) (Qs RC hr (Qa (Ql QP (Qk QD (pv 0) Qf (λ_ _=>rfl)) (Ql Z8 Qf Qf)) (Qa (pv 1) (Qa (pv 2) Qc)))))
  (Qd (Ze bS rfl (QZ (Zo YF (pv 0) (Za Qf) Zv)) (Qz (i:=5) ZY.nd rfl (7:)) (Qd (Qm (i:=6) ZY.nd rfl (7:) (Ql QP (pv 5) (Ql Z8 Qf Qf)))
  (Qd (Yf (Qm (i:=7) ZY.nd rfl (7:) (VR (Z0 Zw (Ql QP (pv 6) Qf) Qf (QB _)) (J9 (R5 (pv 3))))))
  (Qd (Qm (i:=8) ZY.nd rfl (7:) (Qs RC hr (Qa (Ql Zu (pv 6) Qf) (Qa (pv 1) (Qa (pv 2) Qc)))))
  (Qd (Qm (i:=9) ZY.nd rfl (7:) (Qk QD (Q0 (Qa ((QF (Qa (pv 4) Qc))) (Qa ((QF (Qa (pv 4) (Qa (pv 8) Qc)))) (Qa ((QF (Qa (pv 8) (Qa (pv 4) Qc)))) Qc)))) (Ql QP (Ql Zu (pv 6) Qf) Qf) (λ_ _=>rfl)))
  (Qd (Qm (i:=10) ZY.nd rfl (7:) (Qk QD (Q0 (Qa (Qf) (Qa (Ql Jd (Ql QP (Ql Zu (pv 6) Qf) (Ql Z8 Qf Qf)) (Ql Z8 Qf Qf)) Qc))) (Ql QP (Ql Zu (pv 6) Qf) Qf) (λ_ _=>rfl)))
  (Qh (Qm (i:=4) ZY.nd rfl (7:) (QF (Qa (Qj) (Qa (Qk QD (Q0 (Qa (Qj) (Qa (Qj) (Qa (Qj) (Qa (Qj) Qc))))) (Ql QP (Ql Zu (pv 6) Qf) Qf) (λ_ _=>rfl)) (Qa (pv 7) (Qa (pv 10) (Qa (pv 9) Qc))))))))))))))
  (Qh (Qn (pv 4))))),?_⟩
 try dsimp only [QW,Cx.nox]
 refine L2.let2 ?_
 intros
 have aa:Lu 10 55:=⟨by decide,by decide,by decide⟩;have au:Lu 10 30:=⟨by decide,by decide,by decide⟩;have av:Lu 10 29:=⟨by decide,by decide,by decide⟩;obtain⟨c0,U,rfl⟩: ∃c0 U,cs=c0::U:=by
  cases cs with
  | nil=>exact absurd rfl ax
  | cons a b=>exact⟨a,b,rfl⟩
 refine⟨_,rfl,lc,_,_,.int c0,rfl,rfl,hc,at0 _ _,_,_,rfl,rfl,aa,_,_,rfl,rfl,(by show(0:Int)<10^55;decide),_,rfl,_,rfl,_,lb,lm,bs,ms,rfl,cA _ (9:),hb,hm,ag,ai,λv0 t0 H0 g0 az aj=>?_⟩;refine⟨_,rfl,1,rfl,lc,_,rfl,g0.seq hc,λls a0=>?_⟩;have aw:cutV ((c0::U).map V.int) (some 1) none=U.map V.int:=W7 _ 1;rw [aw];generalize j:upd H0 ls _=H1;have s1:Same H0 H1:=by rw [<-j];exact Qe a0 _
 have b1:H1 ls=some (.lst (U.map V.int)):=by rw [<-j];exact Qb
 clear j;refine⟨ls,rfl,⟨_,SqL.of b1⟩,?_⟩;refine Zn (K:=K) (xs:=U.map V.int) (λi σ H'=>∃(v:V)(t:TV)(c5 c6 c7 c8 c9 M:Option V),σ=[some (.ref lc),some (.ref lb),some (.ref lm),some (.bl st),some v,c5,c6,c7,c8,c9,M]/\Same H1 H'/\TvV K H' v t/\TmD ms bs i t/\(st=true->kpV t=false))
  ⟨v0,t0,none,none,none,none,none,none,rfl,Same.refl _,az.mono λ_ _=>s1.seqT,aj.tm 0,λ_=>aj.kp⟩ ?_ ?_ ?_
 .rintro i σ H' _ ⟨_,_,_,_,_,_,_,_,_,g,_⟩;exact g.seq (SqL.of b1)
 .rintro i x σ H2 hx ⟨v,t,c5,c6,c7,c8,c9,M,rfl,g2,hv,ht,hk⟩;obtain⟨L,rfl⟩: ∃L:Int,x=.int L:=by
   rw [aM]at hx;obtain⟨L,_,e⟩:=Option.map_eq_some_iff.mp hx;exact⟨L,e.symm⟩
  have ak:Same H H2:=g0.trans (s1.trans g2);refine⟨_,rfl,_,_,rfl,rfl,aa,_,_,rfl,rfl,(by show(0:Int)<10^55;decide),?_⟩;dsimp only;have al:0<=L%10^Int.toNat 55:=cA _ (9:);generalize L%10^Int.toNat 55=Y at al ⊢;refine⟨λa1 H'=>H'=H2/\∃kp:Bool,(st=true->kp=false)/\a1=[some (.ref lc),some (.ref lb),some (.ref lm),some (.bl st),some v,some (.int L),some (.int Y),some (.bl kp),c8,c9,M],?_,?_⟩
  .refine⟨_,rfl,_,_,rfl,rfl,(by show(0:Int)<2;decide),rfl,_,rfl,Ui (λc=>?_) (λc=>?_)⟩
   .refine⟨_,rfl,st,rfl,rfl,!st,λh=>by rw [h];rfl,rfl⟩
   .exact⟨rfl,false,λ_=>rfl,rfl⟩
  rintro a1 H' ⟨rfl,kp,a2,rfl⟩;refine⟨_,rfl,_,_,rfl,rfl,⟨by decide,by decide⟩,_,rfl,_,rfl,Y/3,lb,lm,bs,ms,rfl,Int.ediv_nonneg al (9:),ak.seqT hb,ak.seq hm,ag,ai,λvm tm H3 g3 a3 am=>?_⟩;refine⟨_,rfl,(by show 1<=sizeLine;decide),λp1 an=>?_⟩;generalize j:upd H3 p1 _=H4;have s4:Same H3 H4:=by rw [<-j];exact Qe an _
  have b4:H4 p1=some (.tup [v]):=by rw [<-j];exact Qb
  clear j;refine⟨_,rfl,_,rfl,(18:),λp2 ao=>?_⟩;generalize j:upd H4 p2 _=H5;have s5:Same H4 H5:=by rw [<-j];exact Qe ao _
  have b5:H5 p2=some (.tup [v,vm]):=by rw [<-j];exact Qb
  clear j;refine⟨_,rfl,_,rfl,(18:),λp3 ap=>?_⟩;generalize j:upd H5 p3 _=H6;have s6:Same H5 H6:=by rw [<-j];exact Qe ap _
  have b6:H6 p3=some (.tup [vm,v]):=by rw [<-j];exact Qb
  clear j;refine⟨(by show 3<=sizeLine;decide),λl7 a4=>?_⟩;generalize j:upd H6 l7 _=J;have s7:Same H6 J:=by rw [<-j];exact Qe a4 _
  have b7:J l7=some (.lst [.ref p1,.ref p2,.ref p3]):=by rw [<-j];exact Qb
  clear j;have ab:Same H3 J:=s4.trans (s5.trans (s6.trans s7));have ac:TvV K J v t:=hv.mono λ_ _ h=>(g3.trans ab).seqT h;have aq:TvV K J vm tm:=a3.mono λ_ _=>ab.seqT;refine⟨_,rfl,_,_,rfl,rfl,⟨by decide,by decide⟩,_,_,rfl,rfl,(by show(0:Int)<3;decide),JF b7 rfl (22:) λvp ae=>?_⟩;obtain⟨pp,us,ts,rfl,a5,a6,a7,ar⟩: ∃(pp:Addr)(us:List V)(ts:List TV),vp=.ref pp/\SqT K J pp us/\TvAll K J us ts/\us.length<=1000/\(ts=[t]\/ts=[t,tm]\/ts=[tm,t]):=by
   simp only [aQ,dE,bN]at ae;rcases ae with rfl | rfl | rfl
   .exact⟨p1,_,_,rfl,SqT.of (s7 _ _ (s6 _ _ (s5 _ _ b4))),.cons ac .nil,by simp,.inl rfl⟩
   .exact⟨p2,_,_,rfl,SqT.of (s7 _ _ (s6 _ _ b5)),.cons ac (.cons aq .nil),by simp,.inr (.inl rfl)⟩
   .exact⟨p3,_,_,rfl,SqT.of (s7 _ _ b6),.cons aq (.cons ac .nil),by simp,.inr (.inr rfl)⟩
  clear ae b4 b5 b6 b7 an ao ap;refine⟨_,rfl,_,_,rfl,rfl,⟨by decide,by decide⟩,_,_,rfl,rfl,au,_,_,rfl,rfl,(by show(0:Int)<10^30;decide),_,_,rfl,rfl,av,_,_,rfl,rfl,(18:),λl8 a8=>?_⟩;have y0:0<=Y/7%10^30:=cA _ (9:);have y1:Y/7%10^30<10^30:=cL _ (9:);have hq:(Y/7%10^30-10^29).natAbs<10^30:=by lia
  generalize j:upd J l8 _=H8;have s8:Same J H8:=by rw [<-j];exact Qe a8 _
  have b8:H8 l8=some (.lst [.int 0,.int (Y/7%10^30-10^29)]):=by rw [<-j];exact Qb
  clear j;refine⟨_,rfl,_,_,rfl,rfl,⟨by decide,by decide⟩,_,_,rfl,rfl,(by show(0:Int)<2;decide),JF b8 rfl (22:) λva as=>?_⟩;obtain⟨ad,rfl,a9⟩: ∃ad:Int,va=.int ad/\ad.natAbs<10^30:=by
   simp only [aQ,dE,bN]at as;rcases as with rfl | rfl
   .exact⟨0,rfl,by decide⟩
   .exact⟨_,rfl,hq⟩
  refine⟨(by show 4<=sizeLine;decide),λl9 ba=>?_⟩;generalize j:upd H8 l9 _=H9;have s9:Same H8 H9:=by rw [<-j];exact Qe ba _
  have b9:H9 l9=some (.lst [.str (Str.ofString "p"),.str (Str.ofString "pu"),.str (Str.ofString "z"),.str (Str.ofString "abcdefgh")]):=by rw [<-j];exact Qb
  clear j;refine⟨_,rfl,_,_,rfl,rfl,⟨by decide,by decide⟩,_,_,rfl,rfl,(by show(0:Int)<4;decide),JF b9 rfl (22:) λvn bb=>?_⟩;obtain⟨nm,rfl,bc⟩:=Dr vn bb;refine⟨_,rfl,_,rfl,_,rfl,(by show 5<=sizeLine;decide),λtp bd=>?_⟩;generalize j:upd H9 tp _=HA;have sA:Same H9 HA:=by rw [<-j];exact Qe bd _
  have bA:HA tp=some (.tup [.str PUT,.str nm,.bl kp,.int ad,.ref pp]):=by rw [<-j];exact Qb
  clear j;have af:Same J HA:=s8.trans (s9.trans sA);refine⟨.ref tp,.node (.put nm kp ad) 0 ts,_,_,_,_,_,_,rfl,g2.trans (g3.trans (ab.trans af)),.put (SqT.of bA) (af.seqT a5) (a6.mono λ_ _=>af.seqT) a7,OS ht am bc kp a9 ar,λh=>?_⟩;rw [kpV,a2 h,Bool.false_or];have e1:=hk h;have e2:=am.kp;rcases ar with rfl | rfl | rfl<;>simp only [kpVs,e1,e2,Bool.or_self]
 .rintro σ H2 ⟨v,t,c5,c6,c7,c8,c9,M,rfl,g2,hv,ht,hk⟩;refine⟨_,rfl,q v t H2 (g0.trans (s1.trans g2)) hv (ht.up ?_) hk⟩;rw [aA];simp only [aJ]at ay;lia
end
abbrev wts(ks:List KdT):List (Addr×Str×V):=ks.map λk=>(k.1,k.2.1,V.ref k.2.2.1)
abbrev wkv(ks:List KdT):List (Key×V):=(wts ks).map λt=>((Sum.inr t.2.1:Key),t.2.2)
section
variable{K:Fg}{wd:Addr}
theorem wdA(hW:WoodAt K H wd ks):SqL K H wd ((wts ks).map λt=>V.ref t.1):=by rw [aZ];exact hW.1
theorem wdB(hW:WoodAt K H wd ks):∀t∈wts ks,SqT K H t.1 [.str t.2.1,t.2.2]:=λt j=>by
 obtain⟨k,F,rfl⟩:=aP.mp j;exact(hW.2 k F).1
theorem wdC(hO:WoodOk ks):((wts ks).map λt=>t.2.1).Nodup:=by rw [aZ];exact hO.nd
theorem wdN(hO:WoodOk ks):(wts ks).length<=1000:=by rw [aA];have:=hO.len;lia
end
theorem G6{kind:Str}{k:KdT}(h:H d=some (.dK (wkv ks)))(e:ks.find? (λk=>decide (k.2.1=kind))=some k):DGet H d (.str kind) (some (.ref k.2.2.1)):=by
 have j:=DGet.k (k:=Sum.inr kind) h;have F:YD (wkv ks) (Sum.inr kind)=(ks.find? λk=>decide (k.2.1=kind)).map λk=>V.ref k.2.2.1:=by
  unfold wkv wts;rw [aZ];exact YA (λk:KdT=>k.2.1) (λk=>V.ref k.2.2.1) kind ks
 rw [F,e]at j;exact j
structure It where
 k:Nat
 n:Str
 t:TV
def OwnOk(ks:List KdT)(own:List Str):Prop:=own.length<=4/\∀o∈own,∃k:KdT,ks.find? (λk=>decide (k.2.1=o))=some k/\k.2.2.2.length<=3
theorem OwnOk.rows{own:List Str}(h:OwnOk ks own){o:Str}(ho:o∈own):∃k:KdT,ks.find? (λk=>decide (k.2.1=o))=some k/\Qr ks o=k.2.2.2/\k.2.2.2.length<=3:=by
 obtain⟨k,e,hl⟩:=h.2 o ho;exact⟨k,e,by unfold Qr;rw [e];rfl,hl⟩
structure Draw(ks:List KdT)(own:List Str)(is:List It):Prop where
 it:∀x∈is,∃(o:Str)(r:PNx),own[x.k]?=some o/\r∈Qr ks o/\x.n=r.2.1/\TmD own r.2.2.2 2 x.t
 all:∀(k:Nat)(o:Str)(r:PNx),own[k]?=some o->r∈Qr ks o->∃x∈is,x.k=k/\x.n=r.2.1
 nd:(is.map λx=>(x.k,x.n)).Nodup
 len:is.length<=12
theorem Draw.perm{own:List Str}{is js:List It}(h:Draw ks own is)(p:js.Perm is):Draw ks own js:=
 ⟨λx j=>h.it x (p.mem_iff.mp j),λk o r e F=>by obtain⟨x,j,q⟩:=h.all k o r e F;exact⟨x,p.mem_iff.mpr j,q⟩,(p.map _).nodup_iff.mpr h.nd,by rw [p.length_eq];exact h.len⟩
def flR(ks:List KdT)(i:Nat):List Str->List (Nat×PNx)
 | []=>[]
 | o::r=>(Qr ks o).map (λt=>(i,t))++flR ks (i+1) r
theorem GF(ks:List KdT)(o:Str):∀(own:List Str)(i:Nat),flR ks i (own++[o])=flR ks i own++(Qr ks o).map (λt=>(i+own.length,t))
 | [],i=>by simp [flR]
 | x::r,i=>by
  rw [dY,flR,flR,GF ks o r (i+1),bO,aJ]
  congr 3
  rw [show i+1+r.length=i+(r.length+1)by lia]
theorem UZ(ks:List KdT):∀(own:List Str)(i:Nat)(y:Nat×PNx),y∈flR ks i own↔ ∃(j:Nat)(o:Str),own[j]?=some o/\y.1=i+j/\y.2∈Qr ks o
 | [],i,y=>by simp [flR]
 | x::r,i,y=>by
  rw [flR,aW,UZ ks r (i+1) y];constructor
  .rintro(h | ⟨j,o,e,h1,h2⟩)
   .obtain⟨t,F,rfl⟩:=aP.mp h;exact⟨0,x,rfl,rfl,F⟩
   .exact⟨j+1,o,by simpa using e,by lia,h2⟩
  .rintro⟨j,o,e,h1,h2⟩;cases j with
   | zero=>
    have:x=o:=by simpa using e
    subst this;exact .inl (aP.mpr ⟨y.2,h2,Prod.ext (by show i=y.1;lia) rfl⟩)
   | succ j=>exact .inr ⟨j,o,by simpa using e,by lia,h2⟩
theorem OE(hO:WoodOk ks):∀(own:List Str)(i:Nat),((flR ks i own).map λy=>(y.1,y.2.2.1)).Nodup
 | [],i=>by simp [flR]
 | o::r,i=>by
  rw [flR,aS,aZ];refine fO.mpr ⟨?_,OE hO r (i+1),?_⟩
  .have h:=(Zm hO o).nd;refine fB.mpr ?_;have h2:=fB.mp h;exact h2.imp λF e=>F (fH e).2
  .intro a G b J e;obtain⟨t,M,rfl⟩:=aP.mp G;obtain⟨y,L,rfl⟩:=aP.mp J;obtain⟨j,o',_,h1,_⟩:=(UZ ks r (i+1) y).mp L;have:=(fH e).1;simp only [Function.comp]at this;lia
theorem VP:∀(own:List Str)(i:Nat),(∀o∈own,(Qr ks o).length<=3)->(flR ks i own).length<=3*own.length
 | [],i,_=>by simp [flR]
 | o::r,i,h=>by
  have h1:=h o aL;have h2:=VP r (i+1) λx j=>h x (aU _ j);rw [flR,aI,aA,aJ];lia
theorem TZ{own:List Str}{is:List It}(hO:WoodOk ks)(hw:OwnOk ks own)(hl:is.length=(flR ks 0 own).length)(h:∀(j:Nat)(x:It)(y:Nat×PNx),is[j]?=some x->(flR ks 0 own)[j]?=some y->x.k=y.1/\x.n=y.2.2.1/\TmD own y.2.2.2.2 2 x.t):Draw ks own is:=by
 have G:(is.map λx=>(x.k,x.n))=(flR ks 0 own).map λy=>(y.1,y.2.2.1):=by
  refine eS (by rw [aA,aA,hl]) λj h1 h2=>?_;rw [aA]at h1 h2;obtain⟨a,b,_⟩:=h j _ _ (aE h1) (aE h2);rw [bR,bR,a,b]
 refine⟨λx L=>?_,λk o r e M=>?_,by rw [G];exact OE hO own 0,?_⟩
 .obtain⟨j,J,rfl⟩:=cS.mp L;have F:j<(flR ks 0 own).length:=by lia
  obtain⟨a,b,c⟩:=h j _ _ (aE J) (aE F);obtain⟨i,o,e,h1,h2⟩:=(UZ ks own 0 _).mp (aO F);exact⟨o,_,by rw [a,h1,eG];exact e,h2,b,c⟩
 .have:(k,r)∈flR ks 0 own:=(UZ ks own 0 _).mpr ⟨k,o,e,by simp,M⟩;obtain⟨j,J,U⟩:=cS.mp this;have F:j<is.length:=by lia
  obtain⟨a,b,c⟩:=h j _ _ (aE F) (aE J);rw [U]at a b;exact⟨_,aO F,a,b⟩
 .have:=VP (ks:=ks) own 0 λo Y=>by obtain⟨k,_,e,hl⟩:=hw.rows Y;rw [e];exact hl
  have:=hw.1;lia
def ItV(K:Fg)(H:Hp)(x:V×It):Prop:=∃(a:Addr)(v:V),x.1=.ref a/\SqT K H a [.int (x.2.k:Int),.str x.2.n,v]/\TvV K H v x.2.t
theorem ItV.mono{K:Fg}{x:V×It}(k:∀a xs,SqT K H a xs->SqT K H' a xs)(h:ItV K H x):ItV K H' x:=by
 obtain⟨a,v,e,h1,h2⟩:=h;exact⟨a,v,e,k _ _ h1,h2.mono k⟩
structure StD(own:List Str)(k0:Str)(t:TV):Prop where
 gd:gdV t
 lv:lv t<=4
 sz:sz t<=6
 kp:kpV t=false
 fit:Yw own [k0] t
 len:∀g:V->V,(shV (mpV g t)).length<=430
 tw:∀full zs,(∀z∈zs,z.length<=8)->tot (wkF full zs t)<=350
theorem A2{own:List Str}{k0:Str}{t:TV}{ad:Int}(h:TmD own [k0] 2 t)(hk:kpV t=false)(ha:ad.natAbs<10^60):StD own k0 (.node (.put (S [115]) false ad) 0 [t]):=by
 have G:=(W3 ha).len;have L:(shM ad).length<=61:=by unfold shM;split<;>simp [G]
 have cs:codes (S [115])=[115]:=Q3 _;have M:=h.lv;have U:=h.sz;refine⟨?_,?_,?_,?_,λm b F=>?_,λg=>?_,λj zs hz=>?_⟩
 .rw [gdV,cs];refine⟨⟨by simp,by simp,λx J=>by obtain rfl:=bD.mp J;decide⟩,ha,rfl,by simp,?_⟩;simp only [gdVs,h.gd,and_self]
 .simp only [lv,lvs];lia
 .simp only [sz,szs];lia
 .simp only [kpV,kpVs,hk,Bool.or_self]
 .rw [clV]at F;simp only [clVs,cC]at F;exact h.fit m b F
 .have Y:=h.len g;rw [mpV,shV,show(S [115]).cps.toList=[115]from Q3 _];simp only [mpVs,shVs,shB,gl,kpS,List.flatMap_nil,aI,aJ,b'];simp;lia
 .have b1:=h.tw j zs hz;have b3:tot (mkF j ad)<=64:=by
   unfold mkF;split
   .rw [Q6,Yh];lia
   .rw [Yh];lia
  rw [wkF,cs,Q6,ZA,ZA];simp only [kpW,brG,wkFs,Q6,ZA,Yh,aJ,b'];simp;rw [Yh];lia
def WG(K:Fg):Sp:=λvs H Q _=>∃(a w lo:Addr)(ns:List Int)(ks:List KdT)(own:List Str),vs=[.ref a,.ref w,.ref lo]/\SqL K H a (ns.map V.int)/\ns.length<=63/\WoodAt K H w ks/\WoodOk ks/\SqL K H lo (own.map V.str)/\OwnOk ks own/\
 ∀(p lt:Addr)(v:V)(H':Hp)(st:TV)(zz:List (V×It)),Same H H'->SqT K H' p [v,.ref lt]->TvV K H' v st->StD own (S [107]) st->H lt=none->H' lt=some (.lst (zz.map λx=>x.1))->(∀x∈zz,ItV K H' x)->Draw ks own (zz.map λx=>x.2)->Q (.ref p) H'
theorem XS{own:List Str}(h:OwnOk ks own)(i:Nat):(flR ks 0 (own.take i)).length<=12:=by
 have h1:=VP (ks:=ks) (own.take i) 0 λo j=>by
  obtain⟨k,_,e,hl⟩:=h.rows (cH j);rw [e];exact hl
 have h2:=h.1;rw [bH]at h1;lia
theorem CJ{cs:List Int}(hne:ys≠[])(hm:∀y∈ys,y∈cs.map V.int):∃ds:List Int,cutV ys none (some 3)=ds.map V.int/\ds≠[]/\ds.length<=3:=by
 have e:cutV ys none (some 3)=ys.take 3:=L2.cutTo ys 3;have h:∀l:List V,(∀y∈l,y∈cs.map V.int)->∃ds:List Int,l=ds.map V.int:=λl=>by
  induction l with
  | nil=>intro _;exact⟨[],rfl⟩
  | cons y r F=>
   intro h;obtain⟨ds,rfl⟩:=F λx G=>h x (aU _ G);obtain⟨c,_,rfl⟩:=aP.mp (h y aL);exact⟨c::ds,rfl⟩
 obtain⟨ds,j⟩:=h (ys.take 3) λy J=>hm y (cH J);refine⟨ds,by rw [e,j],λz=>?_,?_⟩
 .rw [z]at j;cases ys with
  | nil=>exact hne rfl
  | cons a b=>simp at j
 .have:(ys.take 3).length<=3:=by rw [bH];lia
  rw [j,aA]at this;exact this
def RuA(K:Fg)(H:Hp)(x:Addr×Nat×PNx):Prop:=SqT K H x.1 [.int (x.2.1:Int),.str x.2.2.2.1,.ref x.2.2.2.2.1]/\SqT K H x.2.2.2.2.1 (x.2.2.2.2.2.map V.str)
theorem RuA.mono{K:Fg}{x:Addr×Nat×PNx}(k:∀a xs,SqT K H a xs->SqT K H' a xs)(h:RuA K H x):RuA K H' x:=⟨k _ _ h.1,k _ _ h.2⟩
section
variable{K:Fg}{fd:FuncData}
theorem Zs:FnScope ["_law_script","_law_wood","_law_own","_law_cells","_law_rules","_law_lots","_law_k","_law_name","_law_branches","_law_start","_law_terms","_law_j","_law_dealt"] ["_law_script","_law_wood","_law_own"] (defScope G0):=(0:)
theorem Oa(F:Fun K "_law_drawn" "_law_drawn" G0 f fd)(G:Gm mg)(GA:GmA mg)(RC:Fn P w K mg base 1 "_law_cell_at" ["_law_script","_law_k"] (XB K))(RT:Fn P w K mg base 2 "_law_term" ["_law_cells","_law_branches","_law_modes","_law_start"] (Vb K)):FnOk P w K mg base CX0 3 f fd ["_law_script","_law_wood","_law_own"] (WG K):=by
 refine F.ok Zs (14:) (λcf A cd s H vs Q E hr h=>?_)
 .obtain⟨a,w,lo,ns,ks,own,rfl,_⟩:=h
  rfl
 obtain⟨a,wd,lo,ns,ks,own,rfl,hS,cg,hW,hO,ho,aa,q⟩:=h;refine⟨_,(Qd (Qm (i:=3) Zs.nd rfl (7:) (Zo YF (Ql Y0 (Zo YF (pv 0) (Za Qf) Zv) (Q0 (Qa (Qf) (Qa (Qf) Qc)))) Zv (Za Qf)))
  (Qd (Qm (i:=4) Zs.nd rfl (7:) (Q0 Qc))
  (Qd (Qm (i:=5) Zs.nd rfl (7:) Qf)
  (Qd (Ze bS rfl (Zr rfl G.rng (Qa (Qv Qy rfl G.len bJ (Qa (pv 2) Qc)) Qc)) (Qz (i:=6) Zs.nd rfl (7:)) (Qh
   (Ze bS rfl (QZ (UM (ZD hr) (QE (ZB rfl) rfl GA.dict eY (Qa (pv 1) Qc)) (Qk QD (pv 2) (pv 6) (λ_ _=>rfl)) (λ_ _=>rfl))) (Yc rfl (QG (Qz (i:=7) Zs.nd rfl (7:)) (QG (Qz (i:=8) Zs.nd rfl (7:)) ZJ))) (Qd (QS (Zi bY cE cF QM (pv 4) (Qa ((QF (Qa (pv 6) (Qa (pv 7) (Qa (pv 8) Qc))))) Qc)))
  (Qh (Qm (i:=5) Zs.nd rfl (7:) (Ql Zx (pv 5) Qf)))))))
  (Qd (Qm (i:=9) Zs.nd rfl (7:) (Qs RT hr (Qa (Zo YF (XZ (pv 3) (Za Qf) Zv (Za (pv 5))) Zv (Za Qf)) (Qa ((QF (Qa (Qj) Qc))) (Qa (pv 2) (Qa (Yq) Qc))))))
  (Qd (Qm (i:=9) Zs.nd rfl (7:) (QF (Qa (Qj) (Qa (Qj) (Qa (Yq) (Qa (Ql Jd (Ql QP (Ql JY (Qs RC hr (Qa (pv 0) (Qa (Qf) Qc))) Qf) (Ql Z8 Qf Qf)) (Ql Z8 Qf Qf)) (Qa ((QF (Qa (pv 9) Qc))) Qc)))))))
  (Qd (Qm (i:=10) Zs.nd rfl (7:) (Q0 Qc))
  (Qd (Ze bS rfl (Zr rfl G.rng (Qa (Qv Qy rfl G.len bJ (Qa (pv 4) Qc)) Qc)) (Qz (i:=11) Zs.nd rfl (7:)) (Qd (Qm (i:=12) Zs.nd rfl (7:) (Zo YF (XZ (pv 3) (Za (Ql QP (Ql Zx (pv 11) Qf) (Qv Qy rfl G.len bJ (Qa (pv 3) Qc)))) Zv (Za (pv 5))) Zv (Za Qf)))
  (Qh (QS (Zi bY cE cF QM (pv 10) (Qa ((QF (Qa (Qk Qp (Qk QD (pv 4) (pv 11) (λ_ _=>rfl)) Qf (λ_ _=>rfl)) (Qa (Qk Qp (Qk QD (pv 4) (pv 11) (λ_ _=>rfl)) Qf (λ_ _=>rfl)) (Qa (Qs RT hr (Qa (pv 12) (Qa (Qk Qp (Qk QD (pv 4) (pv 11) (λ_ _=>rfl)) Qf (λ_ _=>rfl)) (Qa (pv 2) (Qa (Yq) Qc))))) Qc))))) Qc))))))
  (Qh (Qn (QF (Qa (pv 9) (Qa (pv 10) Qc))))))))))))),?_⟩
 try dsimp only [QW,Cx.nox]
 refine L2.let8 ?_
 intros
 have ol:(own.map V.str).length=own.length:=aA ..;have o4:=aa.1;refine⟨_,rfl,_,rfl,a,_,rfl,hS,λl1 ab=>?_⟩;generalize J:upd H l1 _=X1;have s1:Same H X1:=by rw [<-J];exact Qe ab _
 have b1:X1 l1=some (.lst (cutV (ns.map V.int) (some 14) none)):=by rw [<-J];exact Qb
 clear J;have ek:Str.ofString "k"=S [107]:=by decide+kernel
 have es:Str.ofString "s"=S [115]:=by decide+kernel
 refine⟨(18:),λl2 ac=>?_⟩;generalize J:upd X1 l2 _=X2;have s2:Same X1 X2:=by rw [<-J];exact Qe ac _
 have b2:X2 l2=some (.lst [.int 3,.int 5]):=by rw [<-J];exact Qb
 clear J;have c1:cutV (ns.map V.int) (some 14) none=(ns.map V.int).drop 14:=W7 _ 14;rw [c1]at b1;refine⟨l1,l2,_,_,rfl,rfl,SqL.of (s2 _ _ b1),SqL.of b2,?_,λl3 U=>?_⟩
 .refine YN ?_;rw [dC,aA];simp only [aJ,b'];lia
 generalize J:upd X2 l3 _=X3;have s3:Same X2 X3:=by rw [<-J];exact Qe U _
 have b3:X3 l3=some (.lst ((ns.map V.int).drop 14++[V.int 3,V.int 5])):=by rw [<-J];exact Qb
 clear J;refine⟨_,rfl,l3,_,rfl,SqL.of b3,λlc a6=>?_⟩;generalize J:upd X3 lc _=X4;have s4:Same X3 X4:=by rw [<-J];exact Qe a6 _
 have b4:X4 lc=some (.lst (cutV ((ns.map V.int).drop 14++[V.int 3,V.int 5]) none (some 45))):=by rw [<-J];exact Qb
 clear J;obtain⟨cs,a7,br,ce⟩: ∃cs:List Int,cutV ((ns.map V.int).drop 14++[V.int 3,V.int 5]) none (some 45)=cs.map V.int/\0<cs.length/\cs.length<=45:=by
  have e:cutV ((ns.map V.int).drop 14++[V.int 3,V.int 5]) none (some 45)=((ns.map V.int).drop 14++[V.int 3,V.int 5]).take 45:=L2.cutTo _ 45;refine⟨(ns.drop 14++[3,5]).take 45,?_,?_,?_⟩
  .rw [e,List.map_take,aS,List.map_drop];rfl
  .rw [bH,aI];simp only [aJ,b'];lia
  .rw [bH];lia
 rw [a7]at b4;have g4:Same H X4:=s1.trans (s2.trans (s3.trans s4));clear b1 b2 b3 c1 a7 s1 s2 s3 s4 ab ac U a6;have cl:(cs.map V.int).length=cs.length:=aA ..;refine⟨(20:),λlr a8=>?_⟩;generalize J:upd X4 lr _=X5;have s5:Same X4 X5:=by rw [<-J];exact Qe a8 _
 have b5:X5 lr=some (.lst []):=by rw [<-J];exact Qb
 clear J;refine⟨_,rfl,lo,_,rfl,.inl ((g4.trans s5).seq ho),_,rfl,(by rw [ol];lia),(by rw [ol];lia),?_⟩;rw [ol];refine ZE (lo:=0) (n:=own.length) (λi σ H'=>∃(L:List (Addr×Nat×PNx))(c6 c7 c8:Option V),σ=[some (.ref a),some (.ref wd),some (.ref lo),some (.ref lc),some (.ref lr),some (.int ((L.length:Int)+1)),c6,c7,c8,none,none,none,none]/\Same X4 H'/\H' lr=some (.lst (L.map λx=>V.ref x.1))/\(L.map λx=>x.2)=flR ks 0 (own.take i)/\∀x∈L,RuA K H' x)
  ⟨[],none,none,none,rfl,s5,b5,rfl,λx hx=>(nomatch hx)⟩ ?_ ?_
 .rintro i σ H1 hi ⟨L,c6,c7,c8,rfl,g1,ab,ad,has⟩;have ez:(0:Int)+(i:Int)=(i:Int):=by lia
  rw [ez];have gH:=g4.trans g1;obtain⟨M,a9,bt,am⟩:=aa.rows (aO hi);have ba:M∈ks:=eJ a9;refine⟨_,rfl,wd,wts ks,rfl,wdA (hW.same gH),wdB (hW.same gH),wdC hO,wdN hO,λd hd=>⟨_,rfl,_,rfl,lo,_,_,.str own[i],rfl,rfl,((gH.trans (Qe hd _)).seq ho),QL (by rw [aM,aE hi];rfl),d,.ref M.2.2.1,rfl,G6 Qb a9,M.2.2.1,rfl,?_⟩⟩;have s2:=Qe hd (.dK (wkv ks));generalize upd H1 d (.dK (wkv ks))=H2 at s2 ⊢;have bu:RowsL K H2 M.2.2.1 M.2.2.2:=((hW.2 M ba).2).same (gH.trans s2);have bb:RowsL K X4 M.2.2.1 M.2.2.2:=((hW.2 M ba).2).same g4;refine⟨⟨_,bu.1⟩,?_⟩;refine Zn (K:=K) (xs:=M.2.2.2.map λt=>V.ref t.1) (λj σ H'=>∃(L:List (Addr×Nat×PNx))(c7 c8:Option V),σ=[some (.ref a),some (.ref wd),some (.ref lo),some (.ref lc),some (.ref lr),some (.int ((L.length:Int)+1)),some (.int (i:Int)),c7,c8,none,none,none,none]/\Same X4 H'/\H' lr=some (.lst (L.map λx=>V.ref x.1))/\(L.map λx=>x.2)=flR ks 0 (own.take i)++(M.2.2.2.take j).map (λt=>(i,t))/\∀x∈L,RuA K H' x)
   ⟨L,c7,c8,rfl,g1.trans s2,s2 _ _ ab,by rw [ad];simp,λx hx=>(has x hx).mono λ_ _=>s2.seqT⟩ ?_ ?_ ?_
  .rintro j σ H' _ ⟨_,_,_,_,g,_⟩;exact g.seq bb.1
  .rintro j x σ H3 hx ⟨L,c7,c8,rfl,g3,U,ag,ak⟩;have hj:j<M.2.2.2.length:=by have:=(bT.mp hx).1;rw [aA]at this;exact this
   obtain rfl:x=.ref M.2.2.2[j].1:=by
    rw [aM,aE hj]at hx;exact(aK hx).symm
   obtain⟨r1,r2⟩:=bb.2 _ (aO hj);have bv:L.length<=24:=by
    have h1:(L.map λx=>x.2).length=L.length:=aA ..;rw [ag,aI,aA,bH]at h1;have:=XS aa i;lia
   refine⟨_,_,rfl,g3.seqT r1,rfl,_,_,rfl,_,_,rfl,rfl,?_⟩;refine⟨_,rfl,.inl ⟨rfl,_,SqL.of U⟩,_,rfl,_,rfl,_,rfl,(by show 3<=sizeLine;decide),λtp aq=>?_⟩;generalize J:upd H3 tp _=H4;have s4:Same H3 H4:=by rw [<-J];exact Qe aq _
   have bw:H4 tp=some (.tup [.int (i:Int),.str M.2.2.2[j].2.1,.ref M.2.2.2[j].2.2.1]):=by rw [<-J];exact Qb
   clear J;have Y:=s4 _ _ U;refine⟨lr,_,_,rfl,rfl,Y,(by rw [aA];exact cK (show L.length<=100 by lia) (9:)),?_⟩;refine⟨_,rfl,_,_,rfl,rfl,L++[(tp,i,M.2.2.2[j])],some (.str M.2.2.2[j].2.1),some (.ref M.2.2.2[j].2.2.1),?_,λb u e=>?_,by rw [Qb];simp,?_,λx hx=>?_⟩
   .rw [aI];rfl
   .rw [Qi (Qg e a8)];exact s4 _ _ (g3 _ _ e)
   .rw [aS,ag,bO,bE,aE hj,cV,aS];rfl
   .rcases aW.mp hx with hx | hx
    .exact(ak x hx).mono λ_ _ h=>QU (s4.seqT h) Y
    .obtain rfl:=bD.mp hx;exact⟨QU (SqT.of bw) Y,QU (s4.seqT (g3.seqT r2)) Y⟩
  .rintro σ H3 ⟨L,c7,c8,rfl,g3,U,ag,ak⟩;refine⟨L,_,_,_,rfl,g3,U,?_,ak⟩;rw [ag,aA,bP,bE,aE hi,cV,GF,bt,bH,d_ (10:),eG]
 rintro σ H1 ⟨L,c6,c7,c8,rfl,g1,ab,ad,has⟩;rw [bP]at ad;have bv:L.length<=12:=by
  have h1:(L.map λx=>x.2).length=L.length:=aA ..;have h2:=XS aa own.length;rw [ad]at h1;rw [bP]at h2;lia
 have ai:=g4.trans g1;have bc:=g1 _ _ b4;refine⟨_,rfl,_,rfl,_,rfl,_,rfl,lc,cs.map V.int,0,L.length+1,rfl,SqL.of bc,rfl,rfl,rfl,Nat.succ_pos _,by rw [cl];exact br,λp1 ys an ar _ au=>?_⟩;obtain⟨ds,av,aw,ax⟩:=CJ ar au;generalize J:upd H1 p1 _=Y1;have t1:Same H1 Y1:=by rw [<-J];exact Qe an _
 have d1:Y1 p1=some (.lst ys):=by rw [<-J];exact Qb
 clear J;refine⟨_,rfl,p1,ys,rfl,SqL.of d1,λp2 ao=>?_⟩;rw [av];generalize J:upd Y1 p2 _=Y2;have t2:Same Y1 Y2:=by rw [<-J];exact Qe ao _
 have d2:Y2 p2=some (.lst (ds.map V.int)):=by rw [<-J];exact Qb
 clear J;refine⟨(by show 1<=sizeLine;decide),λp3 bd=>?_⟩;generalize J:upd Y2 p3 _=Y3;have t3:Same Y2 Y3:=by rw [<-J];exact Qe bd _
 have d3:Y3 p3=some (.tup [.str (S [107])]):=by rw [<-J,<-ek];exact Qb
 clear J;have be:=t1.trans (t2.trans t3);refine⟨_,rfl,p2,p3,lo,ds,[S [107]],own,true,rfl,SqL.of (t3 _ _ d2),aw,ax,SqT.of d3,(ai.trans be).seq ho,by simp,by lia,λv0 t0 Y4 t4 bf bg bh=>?_⟩;have bi:Same H1 Y4:=be.trans t4;clear d1 d2 d3 t1 t2 t3 an ao bd;refine⟨_,rfl,a,ns,9,rfl,(ai.trans bi).seq hS,λc9=>⟨_,_,rfl,rfl,.inr ⟨by decide,by decide⟩,_,_,rfl,rfl,⟨by decide,by decide,by decide⟩,_,_,rfl,rfl,(by show(0:Int)<10^60;decide),_,_,rfl,rfl,⟨by decide,by decide,by decide⟩,_,_,rfl,rfl,?_⟩⟩;dsimp only;obtain⟨ae,bq,hA⟩: ∃ae:Int,c9*3%10^Int.toNat 60-10^Int.toNat 59=ae/\ae.natAbs<10^60:=by
  have x0:0<=c9*3%10^60:=cA _ (9:);have x1:c9*3%10^60<10^60:=cL _ (9:);refine⟨_,rfl,?_⟩;show(c9*3%10^60-10^59).natAbs<10^60;lia
 rw [bq];refine⟨_,rfl,(by show 1<=sizeLine;decide),λp4 bj=>?_⟩;generalize J:upd Y4 p4 _=Y5;have t5:Same Y4 Y5:=by rw [<-J];exact Qe bj _
 have d5:Y5 p4=some (.tup [v0]):=by rw [<-J];exact Qb
 clear J;refine⟨(by show 5<=sizeLine;decide),λps bm=>?_⟩;generalize J:upd Y5 ps _=Y6;have t6:Same Y5 Y6:=by rw [<-J];exact Qe bm _
 have d6:Y6 ps=some (.tup [.str PUT,.str (S [115]),.bl false,.int ae,.ref p4]):=by rw [<-J,<-es];exact Qb
 clear J;have bn:TvV K Y6 (.ref ps) (.node (.put (S [115]) false ae) 0 [t0]):=.put (SqT.of d6) (SqT.of (t6 _ _ d5)) (.cons (bf.mono λ_ _ h=>t6.seqT (t5.seqT h)) .nil) (22:);have bo:=A2 bg (bh rfl) hA;generalize TM.Tree.node (LV.put (S [115]) false ae) 0 [t0]=st at bn bo;have ap:Same H1 Y6:=bi.trans (t5.trans t6);clear d5 d6 t5 t6 bj bm bf bg bh;refine⟨(20:),λlt ay=>?_⟩;generalize J:upd Y6 lt _=Y7;have t7:Same Y6 Y7:=by rw [<-J];exact Qe ay _
 have b7:Y7 lt=some (.lst []):=by rw [<-J];exact Qb
 clear J;have al:(L.map λx=>V.ref x.1).length=L.length:=aA ..;have bx:=ap _ _ ab;refine⟨_,rfl,lr,_,rfl,.inl (SqL.of (t7 _ _ bx)),_,rfl,(by rw [al];lia),(by rw [al];lia),?_⟩;rw [al];refine ZE (lo:=0) (n:=L.length) (λj σ H'=>∃(zz:List (V×It))(az a0:Option V),σ=[some (.ref a),some (.ref wd),some (.ref lo),some (.ref lc),some (.ref lr),some (.int ((L.length:Int)+1)),c6,c7,c8,some (.ref ps),some (.ref lt),az,a0]/\Same Y6 H'/\H' lt=some (.lst (zz.map λx=>x.1))/\zz.length=j/\(∀x∈zz,ItV K H' x)/\∀(i:Nat)(x:It)(y:Nat×PNx),(zz.map λx=>x.2)[i]?=some x->(flR ks 0 own)[i]?=some y->x.k=y.1/\x.n=y.2.2.1/\TmD own y.2.2.2.2 2 x.t)
  ⟨[],none,none,rfl,t7,b7,rfl,λx hx=>(nomatch hx),λi x y e _=>by simp at e⟩ ?_ ?_
 .rintro j σ H2 hj ⟨zz,az,a0,rfl,g2,ac,a1,a2,a3⟩;have ez:(0:Int)+(j:Int)=(j:Int):=by lia
  rw [ez];have aj:Same H1 H2:=ap.trans g2;have bp:=aj _ _ bc;have bz:=aj _ _ ab;obtain⟨m,hm,b0⟩: ∃m:Nat,((j:Int)+1)%((cs.length:Nat):Int)=(m:Int)/\m<cs.length:=by
   have y0:0<=((j:Int)+1)%((cs.length:Nat):Int):=cA _ (10:);have y1:((j:Int)+1)%((cs.length:Nat):Int)<((cs.length:Nat):Int):=cL _ (10:);exact⟨_,(eQ y0).symm,by lia⟩
  refine⟨_,rfl,_,rfl,_,_,rfl,rfl,_,rfl,lc,_,rfl,.inl (SqL.of bp),_,_,rfl,rfl,(by rw [cl];lia),_,rfl,_,rfl,_,rfl,lc,cs.map V.int,m,L.length+1,rfl,SqL.of bp,?_,rfl,rfl,Nat.succ_pos _,by rw [cl];exact b0,λp1 ys an ar _ au=>?_⟩
  .rw [cl];exact congrArg some hm
  obtain⟨ds,av,aw,ax⟩:=CJ ar au;generalize J:upd H2 p1 _=Z1;have u1:Same H2 Z1:=by rw [<-J];exact Qe an _
  have d1:Z1 p1=some (.lst ys):=by rw [<-J];exact Qb
  clear J;refine⟨_,rfl,p1,ys,rfl,SqL.of d1,λp2 ao=>?_⟩;rw [av];generalize J:upd Z1 p2 _=Z2;have u2:Same Z1 Z2:=by rw [<-J];exact Qe ao _
  have d2:Z2 p2=some (.lst (ds.map V.int)):=by rw [<-J];exact Qb
  clear J;have af:=u1.trans u2;have U:=af _ _ ac;have am:=af _ _ bz;have a4:atI (L.map λx=>V.ref x.1) (j:Int)=some (.ref L[j].1):=QL (by rw [aM,aE hj];rfl);obtain⟨q1,q2⟩:=has L[j] (aO hj);have r1:=af.seqT (aj.seqT q1);have r2:=af.seqT (aj.seqT q2);have b6:L[j].2.2.2.2.2.length<=4:=by
   have hm:L[j].2∈flR ks 0 own:=by rw [<-ad];exact cJ (aO hj)
   obtain⟨_,o,_,_,b8⟩:=(UZ ks own 0 _).mp hm;exact(Zm hO o).kl _ b8
  refine⟨_,rfl,.inl ⟨rfl,_,SqL.of U⟩,_,rfl,_,rfl,lr,_,_,_,rfl,rfl,SqL.of am,a4,L[j].1,_,_,_,rfl,rfl,r1,QL (j:=0) rfl,_,rfl,_,rfl,lr,_,_,_,rfl,rfl,SqL.of am,a4,L[j].1,_,_,_,rfl,rfl,r1,QL (j:=1) rfl,_,rfl,_,rfl,_,rfl,lr,_,_,_,rfl,rfl,SqL.of am,a4,L[j].1,_,_,_,rfl,rfl,r1,QL (j:=2) rfl,_,rfl,p2,L[j].2.2.2.2.1,lo,ds,L[j].2.2.2.2.2,own,false,rfl,SqL.of d2,aw,ax,r2,(ai.trans (aj.trans af)).seq ho,b6,by lia,λv1 tt Z3 u3 b9 ca _=>?_⟩;refine⟨(by show 3<=sizeLine;decide),λtp aq=>?_⟩;generalize J:upd Z3 tp _=Z4;have u4:Same Z3 Z4:=by rw [<-J];exact Qe aq _
  have d4:Z4 tp=some (.tup [.int (L[j].2.1:Int),.str L[j].2.2.2.1,v1]):=by rw [<-J];exact Qb
  clear J;have a5:Same H2 Z4:=af.trans (u3.trans u4);have Y:=a5 _ _ ac;refine⟨lt,_,_,rfl,rfl,Y,(by rw [aA];exact cK (show zz.length<=100 by lia) (9:)),?_⟩;refine⟨zz++[(.ref tp,⟨L[j].2.1,L[j].2.2.2.1,tt⟩)],_,_,rfl,λb u e=>?_,by rw [Qb];simp,by simp [a1],λx hx=>?_,λi x y e1 e2=>?_⟩
  .rw [Qi (Qg e ay)];exact a5 _ _ (g2 _ _ e)
  .rcases aW.mp hx with hx | hx
   .exact(a2 x hx).mono λ_ _ h=>QU (a5.seqT h) Y
   .obtain rfl:=bD.mp hx;exact⟨tp,v1,rfl,QU (SqT.of d4) Y,b9.mono λ_ _ h=>QU (u4.seqT h) Y⟩
  .rw [aS,List.getElem?_append]at e1;split at e1
   .exact a3 i x y e1 e2
   .rename_i cb;rw [aA]at cb e1;have cc:i-zz.length=0:=by
     rcases Nat.eq_zero_or_pos (i-zz.length)with z | z
     .exact z
     .rw [eZ (by show 1<=i-zz.length;lia)]at e1;cases e1
    rw [cc]at e1;have ei:i=j:=by lia
    subst ei;have ex:(⟨L[i].2.1,L[i].2.2.2.1,tt⟩:It)=x:=by simpa using e1
    rw [<-ad,aM,aE hj]at e2;have ey:L[i].2=y:=aK e2;rw [<-ex,<-ey];exact⟨rfl,rfl,ca⟩
 .rintro σ H2 ⟨zz,az,a0,rfl,g2,ac,a1,a2,a3⟩;refine⟨_,rfl,_,rfl,(18:),λp hp=>?_⟩;have sp:=Qe hp (.tup [.ref ps,.ref lt]);refine q p lt (.ref ps) _ st zz (ai.trans (ap.trans (g2.trans sp))) (SqT.of Qb) (bn.mono λ_ _ h=>sp.seqT (g2.seqT h)) bo ((ai.trans ap).free ay) (sp _ _ ac) (λx hx=>(a2 x hx).mono λ_ _=>sp.seqT) (TZ hO aa ?_ a3);rw [aA,a1,<-ad,aA]
end
end K12
namespace L2
open PySem PySem.Spec PyProof.Rows
section
variable{xs:List Str}
theorem Ct{y z:Str}{pz:Pos}{k:Nat}(O:CompG X [x,y,z] caps cap scope cl)(hc:X.calm=true):∀C fp s0 H₀,PG (QO X ([x,y,z]++caps) scope cl C fp s0 H₀) (.Tuple [.Name x px,.Name y py,.Name z pz] k pos) (Lw X.K 3 (Ye (Zq 0) (Ye (Zq 1) (Ye (Zq 2) LA)))):=λC fp s0 H₀=>
 Yc (X:=QO X ([x,y,z]++caps) scope cl C fp s0 H₀) hc (QG (Qz (i:=0) O.nd rfl (.inl (cR (O.lx x (22:)))) (.inr (cR (O.lx x (22:)))))
  (QG (Qz (i:=1) O.nd rfl (.inl (cR (O.lx y (22:)))) (.inr (cR (O.lx y (22:)))))
  (QG (Qz (i:=2) O.nd rfl (.inl (cR (O.lx z (22:)))) (.inr (cR (O.lx z (22:))))) ZJ)))
end
theorem Nx(h:as.length=3):∃a0 a1 a2,as=[a0,a1,a2]:=by
 match as,h with
 | [a0,a1,a2],_=>exact⟨a0,a1,a2,rfl⟩
section
variable{K:Fg}{Q:Hp->Prop}
theorem Sq(Pv:Nat->List V->Hp->Prop)(h0:Pv 0 [] (upd H1 acc (.lst [])))(hl:∀i ys H,i<=xs.length->Pv i ys H->SqL K H a xs)
 (hs:∀i x ys H,i<xs.length->xs[i]?=some x->Pv i ys H->∃p u v w,x=.ref p/\SqT K H p [u,v,w]/\tt (some u::some v::some w::cs) H (GC xs.length Pv acc i te (some u::some v::some w::cs))) (hd:∀ys H,Pv xs.length ys H->Q H):Jh (Itl K a) 3 cs (Lw K 3 (Ye (Zq 0) (Ye (Zq 1) (Ye (Zq 2) LA)))) tt te H1 acc Q:=by
 refine Zj Pv h0 (λys H p=>⟨⟨xs,hl _ _ _ (8:) p,bX _⟩,hd ys H p⟩) λi ys H hi p=>⟨⟨xs,xs[i],hl _ _ _ (cD hi) p,aE hi⟩,?_⟩;rintro x G ⟨rfl,j⟩ J has;obtain⟨L,M,U,rfl⟩:=Nx has;obtain⟨q,u,v,w,rfl,F,h⟩:=hs i x ys _ hi (j xs (hl _ _ _ (cD hi) p)) p;exact⟨q,[u,v,w],rfl,F,rfl,u,[v,w],rfl,v,[w],rfl,w,[],rfl,rfl,⟨[some u,some v,some w],rfl,rfl⟩,h⟩
end
end L2
namespace K12
open PySem L2 K3 TM K9
def Gs(os:List Nat)(k:Nat):List Nat:=if k∈os then os else os++[k]
def Zd(is:List It):List Nat:=is.foldl (λos x=>Gs os x.k) []
abbrev Zh(is:List It):List Int:=(Zd is).map λ(n:Nat)=>(n:Int)
theorem Ys(is:List It)(x:It):Zd (is++[x])=Gs (Zd is) x.k:=by unfold Zd;rw [iM];rfl
theorem MR(is:List It):(Zd is).Nodup:=by
 refine YB (p:=λis=>(Zd is).Nodup) (by simp [Zd]) (λl x h=>?_) is;rw [Ys];unfold Gs;split
 .exact h
 .rename_i hn;exact fO.mpr ⟨h,by simp,λa j b F e=>by obtain rfl:=bD.mp F;exact hn (e ▸ j)⟩
theorem Yl{is:List It}{k:Nat}:k∈Zd is↔ ∃x∈is,x.k=k:=by
 refine YB (p:=λis=>k∈Zd is↔ ∃x∈is,x.k=k) (by simp [Zd]) (λl x h=>?_) is;rw [Ys];have:k∈Gs (Zd l) x.k↔k∈Zd l\/k=x.k:=by
  unfold Gs;split
  .rename_i j;exact⟨.inl,λz=>z.elim id λe=>e ▸ j⟩
  .rw [aW,bD]
 rw [this,h];constructor
 .rintro(⟨y,hy,e⟩ | e)
  .exact⟨y,cU _ hy,e⟩
  .exact⟨x,by simp,e.symm⟩
 .rintro⟨y,hy,e⟩;rcases aW.mp hy with hy | hy
  .exact .inl ⟨y,hy,e⟩
  .obtain rfl:=bD.mp hy;exact .inr e.symm
theorem AB:∀{l:List Nat}{n:Nat},l.Nodup->(∀x∈l,x<n)->l.length<=n:=λ{l n} hn h=>by
 rcases Nat.lt_or_ge n l.length with c | c
 .exfalso;cases l with
  | nil=>simp at c
  | cons a r=>
   have j:=(dZ.mp hn);have:=pig r (List.range n) j.2 (λx F=>cN.mpr (h x (aU _ F))) (by rw [gX];simp only [aJ]at c;lia) a (cN.mpr (h a aL));exact j.1 this
 .exact c
section
variable{own:List Str}{is:List It}
theorem Draw.lt(h:Draw ks own is){k:Nat}(hk:k∈Zd is):k<own.length:=by
 obtain⟨x,j,rfl⟩:=Yl.mp hk;obtain⟨o,r,e,_⟩:=h.it x j;exact(bT.mp e).1
theorem Draw.olen(h:Draw ks own is):(Zd is).length<=own.length:=AB (MR is) λx j=>h.lt j
theorem Draw.in_(h:Draw ks own is)(hne:∀o∈own,Qr ks o≠[]){k:Nat}(hk:k<own.length):k∈Zd is:=by
 obtain⟨r,j⟩:=List.exists_mem_of_ne_nil _ (hne _ (aO hk));obtain⟨x,F,e,_⟩:=h.all k _ r (aE hk) j;exact Yl.mpr ⟨x,F,e⟩
theorem Draw.inO(h:Draw ks own is)(hne:∀o∈own,Qr ks o≠[]){bs:List Str}{t:TV}(hf:Yw own bs t):InO (Zh is) t:=λm b F=>by
 obtain⟨i,j,e1,_,hi,_⟩:=hf m b F;exact⟨(i:Int),aP.mpr ⟨i,h.in_ hne hi,rfl⟩,e1⟩
def ruI(is:List It)(k:Nat)(n:Str):TV:=((is.find? λx=>decide (x.k=k/\x.n=n)).map λx=>x.t).getD (.node (.put (S []) false 0) 0 [])
def Zk(own:List Str)(k:Nat):Str:=own.getD k (S [])
theorem ZV{k:Nat}(h:k<own.length):Zk own k=own[k]:=by unfold Zk;rw [dA,aE h];rfl
def Zy(ks:List KdT)(own:List Str)(is:List It):List MdD:=(Zd is).map λk=>(Zk own k,(Qr ks (Zk own k)).map λr=>mpV (ZF (Zh is)) (ruI is k r.2.1))
theorem Gb{k:Nat}{n:Str}:∀{is:List It}{x:It},(is.map λx=>(x.k,x.n)).Nodup->x∈is->x.k=k->x.n=n->(is.filter λx=>decide (x.k=k/\x.n=n))=[x]/\ruI is k n=x.t
 | y::r,x,hn,hx,e1,e2=>by
  rw [aR,dZ]at hn;rcases aQ.mp hx with rfl | hx
  .have G:r.filter (λx=>decide (x.k=k/\x.n=n))=[]:=List.filter_eq_nil_iff.mpr λz hz q=>by
    have F:=b_ q;exact hn.1 (aP.mpr ⟨z,hz,by rw [F.1,F.2,e1,e2]⟩)
   have j:decide (x.k=k/\x.n=n)=true:=aV ⟨e1,e2⟩;refine⟨by rw [g_,aH j,G],?_⟩;unfold ruI;rw [cI,j];rfl
  .have j:decide (y.k=k/\y.n=n)=false:=bM λq=>hn.1 (aP.mpr ⟨x,hx,by rw [q.1,q.2,e1,e2]⟩);obtain⟨h1,h2⟩:=Gb (is:=r) hn.2 hx e1 e2;refine⟨by rw [g_,aF (by rw [j];simp),h1],?_⟩;unfold ruI at h2 ⊢;rw [cI,j];exact h2
theorem Draw.one(h:Draw ks own is){k:Nat}{o:Str}{r:PNx}(e:own[k]?=some o)(hr:r∈Qr ks o)(hO:WoodOk ks):∃x∈is,x.k=k/\x.n=r.2.1/\(is.filter λx=>decide (x.k=k/\x.n=r.2.1))=[x]/\ruI is k r.2.1=x.t/\TmD own r.2.2.2 2 x.t:=by
 obtain⟨x,F,e1,e2⟩:=h.all k o r e hr;obtain⟨h1,h2⟩:=Gb h.nd F e1 e2;obtain⟨o',Y,e3,G,e4,J⟩:=h.it x F;rw [e1,e]at e3;obtain rfl:=aK e3;have:Y=r:=by
  have L:=(Zm hO o).nd;obtain⟨i,hi,rfl⟩:=cS.mp hr;obtain⟨j,M,rfl⟩:=cS.mp G;have hp:=h_.mp L;have U:(Qr ks o)[i].2.1=(Qr ks o)[j].2.1:=e2.symm.trans e4;rcases Nat.lt_trichotomy i j with c | c | c
  .exact absurd (by rw [bR,bR];exact U) (hp i j (by rw [aA];exact hi) (by rw [aA];exact M) c)
  .subst c;rfl
  .exact absurd (by rw [bR,bR];exact U.symm) (hp j i (by rw [aA];exact M) (by rw [aA];exact hi) c)
 rw [this]at J;exact⟨x,F,e1,e2,h1,h2,J⟩
end
theorem Vi{k:Int}:∀{os:List Int},inV (.int k) (os.map V.int)=decide (k∈os)
 | []=>rfl
 | x::r=>by
  have h:inV (.int k) ((x::r).map V.int)=((x==k)||inV (.int k) (r.map V.int)):=rfl;rw [h,Vi]
  by_cases c:x=k
  .subst c;simp
  .have:(x==k)=false:=by simpa using c
   rw [this,Bool.false_or];have j:¬k=x:=λz=>c z.symm;simp [j]
theorem Wb:∀os:List Int,(os.map V.int).all U1=true
 | []=>rfl
 | x::r=>by rw [aR,List.all_cons,Wb r];rfl
theorem JU{k:Nat}{os:List Nat}:((k:Int)∈os.map λ(n:Nat)=>(n:Int))↔k∈os:=by
 constructor
 .intro h;obtain⟨n,hn,e⟩:=aP.mp h;have:n=k:=by lia
  exact this ▸ hn
 .exact λh=>aP.mpr ⟨k,h,rfl⟩
def OC(K:Fg):Sp:=λvs H Q _=>∃(w lo lt:Addr)(v:V)(ks:List KdT)(own:List Str)(st:TV)(zz:List (V×It)),vs=[.ref w,.ref lo,v,.ref lt]/\WoodAt K H w ks/\WoodOk ks/\SqL K H lo (own.map V.str)/\OwnOk ks own/\(∀o∈own,Qr ks o≠[])/\TvV K H v st/\StD own (S [107]) st/\SqL K H lt (zz.map λx=>x.1)/\(∀x∈zz,ItV K H x)/\Draw ks own (zz.map λx=>x.2)/\
 ∀(p lm:Addr)(v':V)(H':Hp)(ms:List MvT),Same H H'->SqT K H' p [.ref w,v',.ref lm]->TvV K H' v' (mpV (ZF (Zh (zz.map λx=>x.2))) st)->ModesV K H' lm ms->dM ms=Zy ks own (zz.map λx=>x.2)->Q (.ref p) H'
def MvN(K:Fg)(H:Hp)(lm:Addr)(m:MvT):Prop:=SqT K H m.1 [.str m.2.1,.ref m.2.2.1]/\H m.2.2.1=some (.lst m.2.2.2.1)/\m.2.2.1≠lm/\TvAll K H m.2.2.2.1 m.2.2.2.2
section
variable{K:Fg}{fd:FuncData}
theorem YJ:FnScope ["_law_wood","_law_own","_law_start","_law_terms","_law_order","_law_k","_law_name","_law_term_here","_law_modes","_law_rules","_law_branches"] ["_law_wood","_law_own","_law_start","_law_terms"] (defScope AI):=(0:)
theorem BO(F:Fun K "_law_due" "_law_due" AI f fd)(G:Gm mg)(GA:GmA mg)(RN:Fn P w K mg base 5 "_law_numbered" ["_law_term_here","_law_order"] (Yv K 4)):FnOk P w K mg base CX0 6 f fd ["_law_wood","_law_own","_law_start","_law_terms"] (OC K):=by
 refine F.ok YJ (14:) (λb9 A b7 s H vs Q E hr h=>?_)
 .obtain⟨w,lo,lt,v,ks,own,st,J,rfl,_⟩:=h
  rfl
 obtain⟨wd,lo,lt,v,ks,own,st,J,rfl,hW,hO,ho,ao,a6,hv,a7,ht,a8,hD,q⟩:=h;refine⟨_,(Qd (Qm (i:=4) YJ.nd rfl (cB rfl) (Q0 Qc))
  (Qd (Ze bS rfl (QZ (pv 3)) (Yc rfl (QG (Qz (i:=5) YJ.nd rfl (cB rfl)) (QG (Qz (i:=6) YJ.nd rfl (cB rfl)) (QG (Qz (i:=7) YJ.nd rfl (7:)) ZJ)))) (Qh
   (QC (Qu Vt (pv 5) (pv 4) rfl) (Qh (QS (Zi bY cE cF QM (pv 4) (Qa (pv 5) Qc)))) Qt)))
  (Qd (Qm (i:=8) YJ.nd rfl (7:) (Q0 Qc))
  (Qd (Ze bS rfl (QZ (pv 4)) (Qz (i:=5) YJ.nd rfl (cB rfl)) (Qd (Qm (i:=9) YJ.nd rfl (7:) (Q0 Qc))
  (Qd (Ze bS rfl (QZ (UM (ZD hr) (QE (ZB rfl) rfl GA.dict eY (Qa (pv 0) Qc)) (Qk QD (pv 1) (pv 5) (λ_ _=>rfl)) (λ_ _=>rfl))) (Yc rfl (QG (Qz (i:=6) YJ.nd rfl (cB rfl)) (QG (Qz (i:=10) YJ.nd rfl (7:)) ZJ))) (Qh
   (Qm (i:=9) YJ.nd rfl (7:) (Ql Y0 (pv 9) (QY (CompG.many (xs:=["_law_j","_law_told","_law_term_here"]) (caps:=["_law_k","_law_name","_law_order"]) (cap:=[5,6,4]) (cs:=[_,_,_]) rfl rfl (1:) (1:) (1:) (1:) (1:) (1:) rfl rfl rfl) rfl (QZ (pv 3)) (Ct (CompG.many (xs:=["_law_j","_law_told","_law_term_here"]) (caps:=["_law_k","_law_name","_law_order"]) (cap:=[5,6,4]) (cs:=[_,_,_]) rfl rfl (1:) (1:) (1:) (1:) (1:) (1:) rfl rfl rfl) rfl) (λ_ _ _ _=>AX (PW.pt (pw_and (Qu (r:=rEq) Zw (pv 0) (pv 3) (QB _)) (pw_and1 (Qu (r:=rEq) Zw (pv 1) (pv 4) (QB _)))))) (λ_ _ _ _=>Qs RN hr (Qa (pv 2) (Qa (pv 5) Qc)) (8:)))))))
  (Qh (QS (Zi bY cE cF QM (pv 8) (Qa ((QF (Qa (Qk QD (pv 1) (pv 5) (λ_ _=>rfl)) (Qa (pv 9) Qc)))) Qc)))))))
  (Qh (Qn (QF (Qa (pv 0) (Qa (Qs RN hr (Qa (pv 2) (Qa (pv 4) Qc))) (Qa (pv 8) Qc)))))))))),?_⟩
 try dsimp only [QW,Cx.nox]
 refine L2.let4 ?_
 intros
 have zl:(J.map λx=>x.1).length=J.length:=aA ..;have il:(J.map λx=>x.2).length=J.length:=aA ..;generalize bp:(J.map λx=>x.2)=is at hD q il;have ap:∀(i:Nat)(h:i<J.length),is[i]?=some J[i].2:=λi h=>by rw [<-bp,aM,aE h];rfl
 have ca:=hD.len;have olen:=hD.olen;have o4:=ao.1;refine⟨(20:),λY a9=>?_⟩;generalize U:upd H Y _=X1;have s1:Same H X1:=by rw [<-U];exact Qe a9 _
 have b1:X1 Y=some (.lst []):=by rw [<-U];exact Qb
 clear U;refine⟨_,rfl,lt,rfl,⟨_,s1.seq ht⟩,?_⟩;refine Zn (K:=K) (xs:=J.map λx=>x.1) (λi σ H'=>∃c5 c6 c7:Option V,σ=[some (.ref wd),some (.ref lo),some v,some (.ref lt),some (.ref Y),c5,c6,c7,none,none,none]/\Same H H'/\H' Y=some (.lst ((Zh (is.take i)).map V.int)))
  ⟨none,none,none,rfl,s1,b1⟩ ?_ ?_ ?_
 .rintro i σ H' _ ⟨_,_,_,_,g,_⟩;exact g.seq ht
 .rintro i x σ H2 L ⟨c5,c6,c7,rfl,g2,M⟩;have hi:i<J.length:=by have:=(bT.mp L).1;rw [zl]at this;exact this
  obtain rfl:x=J[i].1:=by
   rw [aM,aE hi]at L;exact(aK L).symm
  obtain⟨ra,rv,er,r1,r2⟩:=a8 _ (aO hi);rw [er];have aa:is.take (i+1)=is.take i++[J[i].2]:=by rw [bE,ap i hi];rfl
  refine⟨_,_,rfl,g2.seqT r1,rfl,_,_,rfl,_,_,rfl,_,_,rfl,rfl,?_⟩;refine⟨_,rfl,_,rfl,Y,_,rfl,.inl (SqL.of M),rfl,Wb _,_,rfl,Ui (λc=>?_) (λc=>?_)⟩
  .have c':(!inV (.int (J[i].2.k:Int)) ((Zh (is.take i)).map V.int))=true:=c;rw [Vi,Bool.not_eq_true',decide_eq_false_iff_not,JU]at c';have bq:(Zd (is.take i)).length<=12:=by
    have:=AB (MR (is.take i)) (n:=12) λy hy=>by
     obtain⟨z,hz,e⟩:=Yl.mp hy;have:=hD.lt (Yl.mpr ⟨z,cH hz,e⟩);lia
    exact this
   refine⟨_,rfl,.inl ⟨rfl,_,SqL.of M⟩,_,rfl,Y,_,_,rfl,rfl,M,(by rw [aA,aA];exact cK bq (9:)),_,_,_,rfl,λb u e=>?_,?_⟩
   .rw [Qi (Qg e a9)];exact g2 _ _ e
   .rw [Qb,aa];unfold Zh;rw [Ys];unfold Gs;rw [aF c',aS,aS];rfl
  .have c':¬(!inV (.int (J[i].2.k:Int)) ((Zh (is.take i)).map V.int))=true:=c;rw [Vi,Bool.not_eq_true',decide_eq_false_iff_not,JU,Decidable.not_not]at c';refine⟨_,_,_,rfl,g2,?_⟩;rw [M,aa];unfold Zh;rw [Ys];unfold Gs;rw [aH c']
 rintro σ H2 ⟨c5,c6,c7,rfl,g2,M⟩;rw [zl,<-il,bP]at M;clear s1 b1;have ba:((Zh is).map V.int).length=(Zd is).length:=by rw [aA,aA]
 refine⟨(20:),λlm bb=>?_⟩;generalize U:upd H2 lm _=X3;have s3:Same H2 X3:=by rw [<-U];exact Qe bb _
 have b3:X3 lm=some (.lst []):=by rw [<-U];exact Qb
 clear U;refine⟨_,rfl,Y,rfl,⟨_,SqL.of (s3 _ _ M)⟩,?_⟩;refine Zn (K:=K) (xs:=(Zh is).map V.int) (λi σ H'=>∃(ms:List MvT)(c5 c6 c7 c9 aq:Option V),σ=[some (.ref wd),some (.ref lo),some v,some (.ref lt),some (.ref Y),c5,c6,c7,some (.ref lm),c9,aq]/\Same H2 H'/\H' lm=some (.lst (ms.map λm=>V.ref m.1))/\(∀m∈ms,MvN K H' lm m)/\dM ms=(Zy ks own is).take i/\ms.length<=i)
  ⟨[],c5,c6,c7,none,none,rfl,s3,b3,λx L=>(nomatch L),rfl,bX _⟩ ?_ ?_ ?_
 .rintro i σ H' _ ⟨_,_,_,_,_,_,_,g,_⟩;exact g.seq (SqL.of M)
 .rintro i x σ H4 L ⟨ms,d5,d6,d7,d9,bc,rfl,g4,ak,ar,ac,br⟩;have hi:i<(Zd is).length:=by have:=(bT.mp L).1;rw [ba]at this;exact this
  obtain rfl:x=.int ((Zd is)[i]:Int):=by
   rw [aM,aM,aE hi]at L;exact(aK L).symm
  have ad:(Zd is)[i]<own.length:=hD.lt (aO hi);have as:(Zy ks own is).take (i+1)=(Zy ks own is).take i++[(Zk own (Zd is)[i],(Qr ks (Zk own (Zd is)[i])).map λr=>mpV (ZF (Zh is)) (ruI is (Zd is)[i] r.2.1))]:=by
   rw [bE];unfold Zy;rw [aM,aE hi];rfl
  rw [ZV ad]at as;generalize cb:(Zd is)[i]=k at ad as ⊢;have al:=g2.trans g4;refine⟨(20:),λlr au=>?_⟩;generalize U:upd H4 lr _=H5;have s5:Same H4 H5:=by rw [<-U];exact Qe au _
  have b5:H5 lr=some (.lst []):=by rw [<-U];exact Qb
  clear U;have ae:=al.trans s5;obtain⟨kd,bd,be,cc⟩:=ao.rows (aO ad);have bt:kd∈ks:=eJ bd;have av:atI (own.map V.str) (k:Int)=some (.str own[k]):=QL (by rw [aM,aE ad];rfl);refine⟨_,rfl,wd,wts ks,rfl,wdA (hW.same ae),wdB (hW.same ae),wdC hO,wdN hO,λd hd=>⟨_,rfl,_,rfl,lo,_,_,.str own[k],rfl,rfl,((ae.trans (Qe hd _)).seq ho),av,d,.ref kd.2.2.1,rfl,G6 Qb bd,kd.2.2.1,rfl,?_⟩⟩;have s6:=Qe hd (.dK (wkv ks));generalize upd H5 d (.dK (wkv ks))=H6 at s6 ⊢;have aw:RowsL K H6 kd.2.2.1 kd.2.2.2:=((hW.2 kd bt).2).same (ae.trans s6);refine⟨⟨_,aw.1⟩,?_⟩;have bf:=ae.trans s6;have ax:=s5.trans s6;have bg:=ax _ _ ak;refine Zn (K:=K) (xs:=kd.2.2.2.map λt=>V.ref t.1) (λj σ H'=>∃(la:Addr)(us:List V)(c6 aq:Option V),σ=[some (.ref wd),some (.ref lo),some v,some (.ref lt),some (.ref Y),some (.int (k:Int)),c6,d7,some (.ref lm),some (.ref la),aq]/\Same H6 H'/\H' la=some (.lst us)/\la≠lm/\TvAll K H' us ((kd.2.2.2.take j).map λr=>mpV (ZF (Zh is)) (ruI is k r.2.1))/\us.length=j)
   ⟨lr,[],d6,bc,rfl,Same.refl _,s6 _ _ b5,(λz=>by rw [z,ak]at au;exact nomatch au),.nil,rfl⟩ ?_ ?_ ?_
  .rintro j σ H' _ ⟨_,_,_,_,_,g,_⟩;exact g.seq aw.1
  .rintro j x σ H7 L ⟨la,us,e6,bu,rfl,g7,ay,ab,am,az⟩;have hj:j<kd.2.2.2.length:=by have:=(bT.mp L).1;rw [aA]at this;exact this
   obtain rfl:x=.ref kd.2.2.2[j].1:=by
    rw [aM,aE hj]at L;exact(aK L).symm
   obtain⟨r1,r2⟩:=aw.2 _ (aO hj);have bv:kd.2.2.2[j]∈Qr ks own[k]:=by rw [be];exact aO hj
   obtain⟨xo,cd,_,_,a0,bh,_⟩:=hD.one (aE ad) bv hO;generalize bw:kd.2.2.2[j].2.1=name at r1 a0 bh;have a1:=bf.trans g7;refine⟨_,_,rfl,g7.seqT r1,rfl,_,_,rfl,_,_,rfl,rfl,?_⟩;refine⟨_,rfl,_,rfl,lt,rfl,⟨_,a1.seq ht⟩,λacc a2=>?_⟩;refine Sq (K:=K) (xs:=J.map λx=>x.1) (cs:=[some (.int (k:Int)),some (.str name),some (.ref Y)]) (λi ys H8=>H8 acc=some (.lst ys)/\Same H7 H8/\ys.length<=i/\TvAll K H8 ys (((is.take i).filter λx=>decide (x.k=k/\x.n=name)).map λx=>mpV (ZF (Zh is)) x.t))
    ⟨Qb,Qe a2 _,bX _,.nil⟩ ?_ ?_ ?_
   .rintro i ys H8 _ ⟨_,g,_⟩;exact(a1.trans g).seq ht
   .rintro i x ys H8 hi L ⟨af,g8,bx,hT⟩;rw [zl]at hi;obtain rfl:x=J[i].1:=by
     rw [aM,aE hi]at L;exact(aK L).symm
    obtain⟨ra,rv,er,q1,q2⟩:=a8 _ (aO hi);have bi:=a1.trans g8;have aa:is.take (i+1)=is.take i++[J[i].2]:=by rw [bE,ap i hi];rfl
    have a3:i<(J.map λx=>x.1).length:=by rw [zl];exact hi
    refine⟨ra,_,_,_,er,bi.seqT q1,_,rfl,_,rfl,rfl,_,rfl,Ui (λc1=>?_) (λc1=>?_)⟩
    .have a4:J[i].2.k=k:=by
      have:V.int (J[i].2.k:Int)=V.int (k:Int):=b_ c1;injection this with z;lia
     refine⟨_,rfl,_,rfl,rfl,_,rfl,Ui (λc2=>?_) (λc2=>?_)⟩
     .have a5:J[i].2.n=name:=by
       have:V.str J[i].2.n=V.str name:=b_ c2;injection this
      have bz:J[i].2∈is:=bC (ap i hi);obtain⟨o',r',_,_,_,bj⟩:=hD.it _ bz;have ce:=bj.lv;refine⟨_,rfl,_,rfl,rv,Y,J[i].2.t,Zh is,rfl,q2.mono λ_ _=>bi.seqT,by lia,(g4.trans (ax.trans (g7.trans g8))) _ _ M,(by rw [aA];lia),hD.inO a6 bj.fit,λv9 H9 g9 b0=>?_⟩;have aj:=g9 _ _ af;refine QI a3 aj (10:) ⟨Qb,λb u e=>?_,by rw [aI];simp only [aJ,b'];lia,?_⟩
      .rw [Qi (Qg e a2)];exact g9 _ _ (g8 _ _ e)
      .rw [aa,gU,aS,g_,aH (aV ⟨a4,a5⟩)];exact TvAll.append (hT.mono λ_ _ h=>(g9.seqT h).put aj) (.cons (b0.mono λ_ _ h=>h.put aj) .nil)
     .refine XT a3 ⟨af,g8,by lia,?_⟩;have a5:¬J[i].2.n=name:=λz=>c2 (aV (by rw [z]));rw [aa,gU,g_,aF (by simp [a5]),List.filter_nil,cC];exact hT
    .refine Q7 (XT a3 ⟨af,g8,by lia,?_⟩);have a4:¬J[i].2.k=k:=λz=>c1 (aV (by rw [z]));rw [aa,gU,g_,aF (by simp [a4]),List.filter_nil,cC];exact hT
   rintro ys H8 ⟨af,g8,bx,hT⟩;rw [zl,<-il,bP,a0,aR,eW,<-bh]at hT;have bm:ys.length=1:=by rw [hT.length];rfl
   refine⟨la,acc,us,ys,rfl,rfl,SqL.of (g8 _ _ ay),SqL.of af,(by rw [az,bm];exact YN (10:)),λln bn=>?_⟩;have s9:=Qe bn (.lst (us++ys));refine⟨ln,us++ys,_,_,rfl,g7.trans (g8.trans s9),Qb,(λz=>by have z8:=g8 _ _ (g7 _ _ bg);rw [<-z,bn]at z8;exact nomatch z8),?_,by rw [aI,az,bm]⟩;rw [bE,aE hj,cV,aS];refine TvAll.append (am.mono λ_ _ h=>s9.seqT (g8.seqT h)) ?_;rw [aR,eW,bw];exact hT.mono λ_ _=>s9.seqT
  .rintro σ H7 ⟨la,us,e6,bu,rfl,g7,ay,ab,am,az⟩;rw [aA,bP,<-be]at am;have bo:=g7 _ _ bg;refine⟨_,rfl,.inl ⟨rfl,_,SqL.of bo⟩,_,rfl,_,rfl,lo,_,_,.str own[k],rfl,rfl,(bf.trans g7).seq ho,av,_,rfl,(18:),λtp b2=>?_⟩;generalize U:upd H7 tp _=H8;have s8:Same H7 H8:=by rw [<-U];exact Qe b2 _
   have b8:H8 tp=some (.tup [.str own[k],.ref la]):=by rw [<-U];exact Qb
   clear U;have ag:=s8 _ _ bo;have an:Same H4 H8:=ax.trans (g7.trans s8);refine⟨lm,_,_,rfl,rfl,ag,(by rw [aA];exact cK (show ms.length<=100 by lia) (9:)),?_⟩;refine⟨ms++[(tp,own[k],la,us,(Qr ks own[k]).map λr=>mpV (ZF (Zh is)) (ruI is k r.2.1))],_,_,_,_,_,rfl,λb u e=>?_,by rw [Qb];simp,λm hm=>?_,?_,by rw [aI];simp only [aJ,b'];lia⟩
   .rw [Qi (Qg e bb)];exact an _ _ (g4 _ _ e)
   .rcases aW.mp hm with hm | hm
    .obtain⟨m1,m2,m3,m4⟩:=ar m hm;exact⟨QU (an.seqT m1) ag,by rw [Qi m3];exact an _ _ m2,m3,m4.mono λ_ _ h=>QU (an.seqT h) ag⟩
    .obtain rfl:=bD.mp hm;exact⟨QU (SqT.of b8) ag,by rw [Qi ab];exact s8 _ _ ay,ab,am.mono λ_ _ h=>QU (s8.seqT h) ag⟩
   .rw [as,<-ac];unfold dM;rw [aS];rfl
 .rintro σ H4 ⟨ms,d5,d6,d7,d9,bc,rfl,g4,ak,ar,ac,br⟩;rw [ba]at ac;have b4:(Zy ks own is).length=(Zd is).length:=by unfold Zy;rw [aA]
  rw [<-b4,bP]at ac;have al:=g2.trans g4;refine⟨_,rfl,_,rfl,_,rfl,v,Y,st,Zh is,rfl,hv.mono λ_ _=>al.seqT,a7.lv,g4 _ _ M,(by rw [aA];lia),hD.inO a6 a7.fit,λv5 H5 g5 b6=>?_⟩;refine⟨_,rfl,(by show 3<=sizeLine;decide),λp hp=>?_⟩;have sp:=Qe hp (.tup [.ref wd,v5,.ref lm]);have ai:=g5.trans sp;refine q p lm v5 _ ms (al.trans ai) (SqT.of Qb) (b6.mono λ_ _=>sp.seqT) ⟨SqL.of (ai _ _ ak),λm hm=>?_⟩ ac;obtain⟨m1,m2,m3,m4⟩:=ar m hm;exact⟨ai.seqT m1,SqL.of (ai _ _ m2),m4.mono λ_ _=>ai.seqT⟩
end
end K12
namespace L2
open PySem PySem.Spec PyProof.Rows
structure WS(X:Cx)(ss:List Stmt)(t:TS):Prop where
 h:PSs X ss t
structure W1(X:Cx)(st:Stmt)(t:TS):Prop where
 h:PS X st t
structure WE(X:Cx)(e:Expr)(t:TE):Prop where
 h:PE X e t
structure WA(X:Cx)(es:List Expr)(t:TA):Prop where
 h:PA X es t
section
variable{st:Stmt}{rest a b:List Stmt}{t u:TS}{c:Expr}{ta:TA}
theorem Q5(h1:W1 X st t)(h2:WS X rest u):WS X (st::rest) (Qw t u):=⟨Qd h1.h h2.h⟩
theorem Wk(h1:W1 X st t):WS X [st] t:=⟨Qh h1.h⟩
theorem Ju(h:PS X st t):W1 X st t:=⟨h⟩
theorem w_e(h:PE X e te):WE X e te:=⟨h⟩
theorem As{x1:Nat}(h:WA X es ta):WE X (.Tuple es x1 pos) (CC ta):=⟨QF h.h⟩
theorem Uy(h:WA X es ta):WE X (.List es pos) (CM ta):=⟨Q0 h.h⟩
theorem ZQ:WA X [] V7:=⟨Qc⟩
theorem Qx(h:WE X e te)(k:WA X es ta)(hs:starEach (e::es) X.env=(false,eval e X.env)::starEach es X.env:=by rfl):WA X (e::es) (Xp te ta):=⟨Qa h.h k.h hs⟩
end
section
variable{p5:Pos}
end
section
variable{e3 e4:Expr}{t1 t2 t3 t4:TE}
theorem Yr(hN:X.N.Nodup)(hi:X.N[i]?=some x)(hx:Loc X.env.scope x)(he:WE X e te)(hs:swapsWith e (some (.Name x pos')) pos.line X.env=pure false:=by rfl)(hf:X.fn x=true\/X.env.scope.names.lookup x=some .local:=by first | exact .inl rfl | exact .inr rfl | assumption):
 W1 X (.Assign [.Name x pos'] e pos) (Tj te (Zq i)):=⟨Qm hN hi hx he.h hs hf⟩
end
end L2
namespace K12
open PySem L2 K3 TM K9
theorem WS.read{ss:List Stmt}{t:TS}{R:TS->Prop}(h:WS X ss t)(k:R t):∃t,PSs X ss t/\R t:=⟨t,h.h,k⟩
theorem Xi{a b:Expr}{tb:TE}{r:R2}(ho:OpR X (binaryOp op) r)(ha:WE X a ta)(hb:WE X b tb):WE X (.BinOp a op b pos) (tOp r ta tb):=⟨Ql ho ha.h hb.h⟩
theorem W9(hc:X.nox.calm=true)(hi:PI X.nox tg iter wi)(hg:PG X.nox tg g)(hb:WS X.nox body tb)
 (hs:∀x,foldedSetIterable iter X.nox.env x=pure x:=by intro _;rfl):W1 X.nox (.For tg iter body [] pos) (CL wi g tb):=⟨Ze bS hc hi hg hb.h hs⟩
structure TxOk(ks:List KdT)(st:TV)(D:List MdD):Prop where
 sh:ShOk ks st D
 six:D.length<=6
 st1:gdV st/\Lo6 st/\lv st<=4
 tm1:∀m∈D,∀t∈m.2,gdV t/\Lo6 t/\lv t<=4
 fd:∀m∈D,∃kd:KdT,ks.find? (λk=>decide (k.2.1=m.1))=some kd
def GZ(K:Fg):Sp:=λvs H Q _=>∃(p lw lm:Addr)(v:V)(ks:List KdT)(st:TV)(ms:List MvT),vs=[.ref p]/\SqT K H p [.ref lw,v,.ref lm]/\WoodAt K H lw ks/\WoodOk ks/\TvV K H v st/\ModesV K H lm ms/\TxOk ks st (dM ms)/\∀H',Same H H'->Q (.str (S (tuS ks st (dM ms)))) H'
theorem So(sep x:List Nat)(r:List (5:))(y:List Nat):gl sep ((x::r)++[y])=gl sep (x::r)++(sep++y):=by
 simp [gl]
theorem C2:∀{xs:List (5:)},(∀x∈xs,x.length<=4100)->(gl [59,32] xs).length<=4102*xs.length
 | [],_=>by simp [gl]
 | x::r,h=>by
  have F:=h x aL;have:∀l:List (5:),(∀x∈l,x.length<=4100)->(l.flatMap λy=>[59,32]++y).length<=4102*l.length:=λl=>by
   induction l with
   | nil=>intro _;simp
   | cons y l j=>
    intro hl;have h1:=hl y aL;have h2:=j λz hz=>hl z (aU _ hz);rw [dB,aI,aI,aJ];simp only [aJ,b'];lia
  have:=this r λz hz=>h z (aU _ hz);rw [gl,aI,aJ];lia
section
variable{K:Fg}{fd:FuncData}
theorem Yy:FnScope ["_law_due_here","_law_text_here","_law_k","_law_kind","_law_rules","_law_row","_law_rule"] ["_law_due_here"] (defScope Rh):=(0:)
theorem Tx(F:Fun K "_law_text" "_law_text" Rh f fd)(G:Gm mg)(GA:GmA mg)(RS:Fn P w K mg base 5 "_law_shown" ["_law_term_here","_law_naming"] (YC K 4)):FnOk P w K mg base CX0 6 f fd ["_law_due_here"] (GZ K):=by
 refine F.ok Yy (14:) (λba A a8 s H vs Q E hr h=>?_)
 .obtain⟨p,lw,lm,v,ks,st,ms,rfl,_⟩:=h
  rfl
 obtain⟨p,lw,lm,v,ks,st,ms,rfl,hp,hW,hO,hv,hM,L,q⟩:=h;refine WS.read (Q5 (Ju (Qm (i:=1) Yy.nd rfl (7:) (Qs RS hr (Qa (3:) (Qa (Qj) Qc)))))
  (Q5 (W9 rfl (Zr rfl G.rng (Qa (Qv Qy rfl G.len bJ (Qa (3:) Qc)) Qc)) (Qz (i:=2) Yy.nd rfl (7:)) (Q5 (Ju (OF (Qk QD (3:) (pv 2) (λ_ _=>rfl)) (Yc rfl (QG (Qz (i:=3) Yy.nd rfl (7:)) (QG (Qz (i:=4) Yy.nd rfl (7:)) ZJ)))))
  (Wk (W9 rfl (GO rfl GA.zip (Qa (UM (ZD hr) (QE (ZB rfl) rfl GA.dict eY (Qa (3:) Qc)) (pv 3) (λ_ _=>rfl)) (Qa (pv 4) Qc))) (Yc rfl (QG (Qz (i:=5) Yy.nd rfl (7:)) (QG (Qz (i:=6) Yy.nd rfl (7:)) ZJ))) (Q5 (Yr (i:=1) Yy.nd rfl (7:) (Xi Qq (Xi Qq (Xi Qq (Xi Qq (Xi Qq (Xi Qq (Xi Qq (w_e (pv 1)) (w_e Qj)) (w_e (Qk ZG Qj (pv 2) (λ_ _=>rfl)))) (w_e Qj)) (w_e (pv 3))) (w_e Qj)) (w_e (Qk Qp (pv 5) Qf (λ_ _=>rfl)))) (w_e Qj)))
  (Wk (Yr (i:=1) Yy.nd rfl (7:) (Xi Qq (w_e (pv 1)) (w_e (Qs RS hr (Qa (pv 6) (Qa (Qj) Qc))))))))))))
  (Wk (Ju (Qn (pv 1)))))) ?_
 try dsimp only [QW,Cx.nox]
 have ml:(ms.map λm=>V.ref m.1).length=ms.length:=aA ..;have aq:(dM ms).length=ms.length:=by unfold dM;rw [aA]
 have h6:=L.six;obtain⟨k1,k2⟩:=Xy hO (dM ms) 0 L.sh.kl L.sh.tm L.sh.nl;have bb:=L.sh.st.len;have ar:Str.ofString "; "=S [59,32]:=by decide+kernel
 have as:Str.ofString " "=S [32]:=by decide+kernel
 have au:Str.ofString " : "=S [32,58,32]:=by decide+kernel
 rw [ar,as,au];refine L2.let2 ?_
 intros
 refine⟨_,rfl,p,_,1,_,rfl,rfl,hp,rfl,v,st,rfl,hv,L.st1.2.2,L.st1.1,L.st1.2.1,by lia,λH1 g1=>?_⟩;refine⟨_,rfl,p,_,2,_,rfl,rfl,g1.seqT hp,rfl,lm,_,rfl,.inl (hM.same g1).1,_,rfl,(by rw [ml];lia),(by rw [ml];lia),?_⟩;rw [ml];have e0:gl [59,32] (shV st::tuR ks 0 ((dM ms).take 0))=shV st:=by rw [List.take_zero,tuR,gl];simp
 refine ZE (lo:=0) (n:=ms.length) (λi σ H'=>∃c2 c3 c4 Y c6:Option V,σ=[some (.ref p),some (.str (S (gl [59,32] (shV st::tuR ks 0 ((dM ms).take i))))),c2,c3,c4,Y,c6]/\Same H H')
  ⟨none,none,none,none,none,by rw [e0];rfl,g1⟩ ?_ ?_
 .rintro i σ H2 hi ⟨c2,c3,c4,Y,c6,rfl,g2⟩;have ez:(0:Int)+(i:Int)=(i:Int):=by lia
  rw [ez];have ag:(dM ms)[i]?=some (ms[i].2.1,ms[i].2.2.2.2):=by unfold dM;rw [aM,aE hi];rfl
  have M:=bC ag;obtain⟨m1,m2,m3⟩:=(hM.same g2).2 ms[i] (aO hi);have av:atI (ms.map λm=>V.ref m.1) (i:Int)=some (.ref ms[i].1):=QL (by rw [aM,aE hi];rfl);refine⟨_,rfl,p,_,2,_,rfl,rfl,g2.seqT hp,rfl,_,rfl,lm,_,_,_,rfl,rfl,(hM.same g2).1,av,_,_,rfl,m1,rfl,_,_,rfl,_,_,rfl,rfl,?_⟩;obtain⟨J,ac⟩:=L.fd _ M;have ab:Qr ks ms[i].2.1=J.2.2.2:=by unfold Qr;rw [ac];rfl
  have ai:J∈ks:=eJ ac;refine⟨_,rfl,p,_,0,_,rfl,rfl,g2.seqT hp,rfl,lw,wts ks,rfl,wdA (hW.same g2),wdB (hW.same g2),wdC hO,wdN hO,λd hd=>⟨_,rfl,d,.ref J.2.2.1,rfl,G6 Qb ac,_,rfl,?_⟩⟩;have s3:=Qe hd (.dK (wkv ks));generalize upd H2 d (.dK (wkv ks))=H3 at s3 ⊢;have g3:=g2.trans s3;have ad:RowsL K H3 J.2.2.1 J.2.2.2:=((hW.2 J ai).2).same g3;refine⟨J.2.2.1,ms[i].2.2.1,_,ms[i].2.2.2.1,rfl,ad.1,s3.seq m2,?_⟩;have bc:=m3.length;have aw:ms[i].2.2.2.2.length=(Qr ks ms[i].2.1).length:=L.sh.ln _ M;have ae:(J.2.2.2.map λt=>V.ref t.1).length=J.2.2.2.length:=aA ..;rw [ab]at aw;have aj:(mdR (QT i) ms[i].2.1 J.2.2.2 ms[i].2.2.2.2).length=J.2.2.2.length:=by unfold mdR;rw [aA,dN];lia
  have a9:=(hO.rows J ai).len;have em:QT i=[97+i]:=by unfold QT;rw [aH (10:)]
  have ap:atI Jv.cps.toList (i:Int)=some (97+i):=by rw [let6];exact atS (Oq i (10:))
  have ak:((dM ms).take i).length=i:=by rw [bH];lia
  obtain⟨u1,u2⟩:=Xy hO ((dM ms).take i) 0 (λm hm=>L.sh.kl m (cH hm)) (λm hm=>L.sh.tm m (cH hm)) (λm hm=>L.sh.nl m (cH hm));rw [ak]at u1;have al:=Mf (mo:=QT i) (kind:=ms[i].2.1) (rw:=J.2.2.2) (ts:=ms[i].2.2.2.2) (by have:=Zl i;lia) (L.sh.kl _ M) (λr hr=>L.sh.nl _ M r (by rw [ab];exact hr)) (L.sh.tm _ M);have ax:ms[i].2.1.length<=8:=L.sh.kl _ M;generalize ay:tuR ks 0 ((dM ms).take i)=TT at u1 u2 ⊢;generalize am:mdR (QT i) ms[i].2.1 J.2.2.2 ms[i].2.2.2.2=RR at aj al;have az:∀j:Nat,(gl [59,32] (shV st::(TT++RR.take j))).length<=4102*100:=λj=>by
   have h:=C2 (xs:=shV st::(TT++RR.take j)) λx hx=>by
    rcases aQ.mp hx with rfl | hx
    .lia
    .rcases aW.mp hx with hx | hx
     .exact u2 x hx
     .exact al x (cH hx)
   rw [aJ,aI,bH]at h;lia
  refine Tf (K:=K) (by rw [ae];lia) (λj σ H'=>∃Y c6:Option V,σ=[some (.ref p),some (.str (S (gl [59,32] (shV st::(TT++RR.take j))))),some (.int (i:Int)),some (.str ms[i].2.1),some (.ref ms[i].2.2.1),Y,c6]/\Same H3 H')
   ⟨Y,c6,by rw [List.take_zero,cC];rfl,Same.refl _⟩ ?_ ?_ ?_
  .rintro j σ H' _ ⟨_,_,_,g⟩;exact⟨g.seq ad.1,g.seq (s3.seq m2)⟩
  .rintro j u v' pp σ H4 hu a0 a1 ⟨Y,c6,rfl,g4⟩;have af:j<J.2.2.2.length:=by have:=(bT.mp hu).1;rw [ae]at this;exact this
   have an:j<ms[i].2.2.2.2.length:=by lia
   obtain⟨cv,a2,a3⟩:=m3.get (aE an);obtain rfl:cv=v':=aK (a2.symm.trans a0);obtain rfl:u=.ref J.2.2.2[j].1:=by
    rw [aM,aE af]at hu;exact(aK hu).symm
   have gp:=Qe a1 (.tup [.ref J.2.2.2[j].1,cv]);have gg:=g4.trans gp;obtain⟨r1,r2⟩:=(ad.2 _ (aO af)).same gg;have ao:=aO an;obtain⟨t1,t2,t3⟩:=L.tm1 _ M _ ao;have t4:=(L.sh.tm _ M _ ao).len;have a4:J.2.2.2[j].2.1.length<=8:=L.sh.nl _ M _ (by rw [ab];exact aO af);have a5:=az j;have a6:RR.take (j+1)=RR.take j++[ruS (QT i) (codes ms[i].2.1) (codes J.2.2.2[j].2.1) ms[i].2.2.2.2[j]]:=by
    have:RR[j]?=some (ruS (QT i) (codes ms[i].2.1) (codes J.2.2.2[j].2.1) ms[i].2.2.2.2[j]):=by
     rw [<-am];unfold mdR;rw [aM,aE (by rw [dN];lia),fQ];rfl
    rw [bE,this];rfl
   generalize a7:gl [59,32] (shV st::(TT++RR.take j))=GG at a5 ⊢;have ck:V.str ms[i].2.1=V.str (S (codes ms[i].2.1)):=by rw [QN]
   have cn:V.str J.2.2.2[j].2.1=V.str (S (codes J.2.2.2[j].2.1)):=by rw [QN]
   have lk:(codes ms[i].2.1).length<=8:=by rw [ZC];exact ax
   have ln:(codes J.2.2.2[j].2.1).length<=8:=by rw [ZC];exact a4
   refine⟨pp,_,rfl,SqT.of Qb,rfl,_,_,rfl,_,_,rfl,rfl,?_⟩;have U:∀n:Nat,n<=500000->n<=sizeLine:=λn hn=>bL hn (9:);refine⟨_,rfl,_,_,rfl,rfl,?_,?_⟩
   .rw [Qo,Qo];exact U _ (by simp;lia)
   rw [QV];refine⟨_,rfl,Jv,_,97+i,rfl,rfl,(9:),ap,_,_,rfl,rfl,?_,?_⟩
   .rw [Yb,Qo,Qo];exact U _ (by simp;lia)
   rw [Yb,QV,<-em];refine⟨_,_,rfl,rfl,?_,?_⟩
   .rw [Qo,Qo];exact U _ (by have:=Zl i;simp;lia)
   rw [QV];refine⟨_,rfl,_,_,rfl,ck,?_,?_⟩
   .rw [Qo,Qo];exact U _ (by have:=Zl i;simp;lia)
   rw [QV];refine⟨_,_,rfl,rfl,?_,?_⟩
   .rw [Qo,Qo];exact U _ (by have:=Zl i;simp;lia)
   rw [QV];refine⟨_,rfl,_,_,0,_,rfl,rfl,r1,rfl,_,_,rfl,cn,?_,?_⟩
   .rw [Qo,Qo];exact U _ (by have:=Zl i;simp;lia)
   rw [QV];refine⟨_,_,rfl,rfl,?_,?_⟩
   .rw [Qo,Qo];exact U _ (by have:=Zl i;simp;lia)
   rw [QV];refine⟨_,rfl,_,rfl,cv,_,rfl,a3.mono λ_ _ h=>gg.seqT (s3.seqT h),t3,t1,t2,by lia,λH5 g5=>?_⟩;refine⟨_,_,rfl,rfl,?_,?_⟩
   .rw [Qo,Qo];exact U _ (by have:=Zl i;simp;lia)
   rw [QV];have aa:gl [59,32] (shV st::(TT++RR.take (j+1)))=GG++[59,32]++QT i++[32]++codes ms[i].2.1++[32]++codes J.2.2.2[j].2.1++[32,58,32]++shV ms[i].2.2.2.2[j]:=by
    rw [a6,<-bO,<-dY,So,a7];simp only [ruS,bO]
   exact⟨some (.ref J.2.2.2[j].1),some cv,by rw [aa];rfl,gg.trans g5⟩
  .rintro σ H4 ⟨Y,c6,rfl,g4⟩;have aa:tuR ks 0 ((dM ms).take (i+1))=TT++RR:=by
    rw [bE,ag,cV,Xe,ak,eG,ay,<-am,ab]
   refine⟨some (.int (i:Int)),some (.str ms[i].2.1),some (.ref ms[i].2.2.1),Y,c6,?_,g3.trans g4⟩;rw [aa,ae,<-aj,bP]
 .rintro σ H2 ⟨c2,c3,c4,Y,c6,rfl,g2⟩;rw [<-aq,bP];exact⟨_,rfl,q H2 g2⟩
end
mutual
theorem V0(g:V->V):∀t:TV,gdV t->lv (mpV g t)=lv t
 | .node (.call m b) k bs,h=>by rw [gdV]at h;rw [mpV,lv,lv,h.2.2.2]
 | .node (.put n k a) _ bs,h=>by rw [gdV]at h;rw [mpV,lv,lv,Ov g bs h.2.2.2.2]
theorem Ov(g:V->V):∀ts:List TV,gdVs ts->lvs (mpVs g ts)=lvs ts
 | [],_=>by rw [mpVs]
 | t::r,h=>by rw [gdVs]at h;rw [mpVs,lvs,lvs,V0 g t h.1,Ov g r h.2]
end
mutual
theorem M5(g:V->V):∀t:TV,gdV t->sz (mpV g t)=sz t
 | .node (.call m b) k bs,h=>by rw [gdV]at h;rw [mpV,sz,sz,h.2.2.2]
 | .node (.put n k a) _ bs,h=>by rw [gdV]at h;rw [mpV,sz,sz,Rx g bs h.2.2.2.2]
theorem Rx(g:V->V):∀ts:List TV,gdVs ts->szs (mpVs g ts)=szs ts
 | [],_=>by rw [mpVs]
 | t::r,h=>by rw [gdVs]at h;rw [mpVs,szs,szs,M5 g t h.1,Rx g r h.2]
end
mutual
theorem Af(g:V->V):∀t:TV,kpV (mpV g t)=kpV t
 | .node (.call m b) k bs=>by rw [mpV,kpV,kpV]
 | .node (.put n k a) _ bs=>by rw [mpV,kpV,kpV,PY g bs]
theorem PY(g:V->V):∀ts:List TV,kpVs (mpVs g ts)=kpVs ts
 | []=>by rw [mpVs]
 | t::r=>by rw [mpVs,kpVs,kpVs,Af g t,PY g r]
end
mutual
theorem Ag(g:V->V):∀t:TV,clV (mpV g t)=(clV t).map λc=>(g c.1,c.2)
 | .node (.call m b) k bs=>by rw [mpV,clV,clV];rfl
 | .node (.put n k a) _ bs=>by rw [mpV,clV,clV,PN g bs]
theorem PN(g:V->V):∀ts:List TV,clVs (mpVs g ts)=(clVs ts).map λc=>(g c.1,c.2)
 | []=>by rw [mpVs];simp [clVs]
 | t::r=>by rw [mpVs,clVs,clVs,Ag g t,PN g r,aS]
end
theorem OW(g:V->V)(ts:List TV):(mpVs g ts).length=ts.length:=by rw [UP,aA]
mutual
theorem P3(g:V->V):∀t:TV,gdV t->(∀m b,(m,b)∈clV t->∃i:Nat,i<676/\g m=.int (i:Int))->gdV (mpV g t)
 | .node (.call m b) k bs,h,j=>by
  rw [gdV]at h;rw [mpV,gdV];exact⟨j m b (by rw [clV];exact aL),h.2.1,rfl,rfl⟩
 | .node (.put n k a) _ bs,h,j=>by
  rw [gdV]at h;rw [mpV,gdV,OW];exact⟨h.1,h.2.1,rfl,h.2.2.2.1,O7 g bs h.2.2.2.2 λm b F=>j m b (by rw [clV];exact F)⟩
theorem O7(g:V->V):∀ts:List TV,gdVs ts->(∀m b,(m,b)∈clVs ts->∃i:Nat,i<676/\g m=.int (i:Int))->gdVs (mpVs g ts)
 | [],_,_=>by rw [mpVs,gdVs];trivial
 | t::r,h,hg=>by
  rw [gdVs]at h;rw [mpVs,gdVs];exact⟨P3 g t h.1 λm b j=>hg m b (by rw [clVs];exact cU _ j),O7 g r h.2 λm b j=>hg m b (by rw [clVs];exact bV _ j)⟩
end
mutual
theorem Sf(zs:List (5:))(g h:V->V):∀t:TV,gdV t->(∀m b,(m,b)∈clV t->g (.str (S (nmI zs m)))=h m)->mpV g (vN (nmF zs t))=mpV h t
 | .node (.call m b) k bs,_,j=>by rw [nmF,vN,mpV,mpV,j m b (by rw [clV];exact aL)]
 | .node (.put n k a) _ bs,F,j=>by
  rw [gdV]at F;rw [nmF,vN,mpV,mpV,QN,Mv zs g h bs F.2.2.2.2 λm b G=>j m b (by rw [clV];exact G)]
theorem Mv(zs:List (5:))(g h:V->V):∀ts:List TV,gdVs ts->(∀m b,(m,b)∈clVs ts->g (.str (S (nmI zs m)))=h m)->mpVs g (vNs (nmFs zs ts))=mpVs h ts
 | [],_,_=>by rw [nmFs,vNs,mpVs,mpVs]
 | t::r,hd,hg=>by
  rw [gdVs]at hd;rw [nmFs,vNs,mpVs,mpVs,Sf zs g h t hd.1 λm b j=>hg m b (by rw [clVs];exact cU _ j),Mv zs g h r hd.2 λm b j=>hg m b (by rw [clVs];exact bV _ j)]
end
mutual
theorem A6(zs:List (5:)):∀t:TV,gdV t->lv (vN (nmF zs t))=lv t
 | .node (.call m b) k bs,h=>by rw [gdV]at h;rw [nmF,vN,lv,lv,h.2.2.2]
 | .node (.put n k a) _ bs,h=>by rw [gdV]at h;rw [nmF,vN,lv,lv,Ah zs bs h.2.2.2.2]
theorem Ah(zs:List (5:)):∀ts:List TV,gdVs ts->lvs (vNs (nmFs zs ts))=lvs ts
 | [],_=>by rw [nmFs,vNs]
 | t::r,h=>by rw [gdVs]at h;rw [nmFs,vNs,lvs,lvs,A6 zs t h.1,Ah zs r h.2]
end
mutual
theorem OV(zs:List (5:)):∀t:TV,gdV t->lv (nmF zs t)=lv t
 | .node (.call m b) k bs,h=>by rw [gdV]at h;rw [nmF,lv,lv,h.2.2.2,lvs,lvs]
 | .node (.put n k a) _ bs,h=>by rw [gdV]at h;rw [nmF,lv,lv,Ow zs bs h.2.2.2.2]
theorem Ow(zs:List (5:)):∀ts:List TV,gdVs ts->lvs (nmFs zs ts)=lvs ts
 | [],_=>by rw [nmFs,lvs,lvs]
 | t::r,h=>by rw [gdVs]at h;rw [nmFs,lvs,lvs,OV zs t h.1,Ow zs r h.2]
end
mutual
theorem Tl(zs:List (5:)):∀t:TV,gdV t->sz (vN (nmF zs t))=sz t
 | .node (.call m b) k bs,h=>by rw [gdV]at h;rw [nmF,vN,sz,sz,h.2.2.2]
 | .node (.put n k a) _ bs,h=>by rw [gdV]at h;rw [nmF,vN,sz,sz,AA zs bs h.2.2.2.2]
theorem AA(zs:List (5:)):∀ts:List TV,gdVs ts->szs (vNs (nmFs zs ts))=szs ts
 | [],_=>by rw [nmFs,vNs]
 | t::r,h=>by rw [gdVs]at h;rw [nmFs,vNs,szs,szs,Tl zs t h.1,AA zs r h.2]
end
mutual
theorem CW(zs:List (5:)):∀t:TV,clV (vN (nmF zs t))=(clV t).map λc=>(.str (S (nmI zs c.1)),c.2)
 | .node (.call m b) k bs=>by rw [nmF,vN,clV,clV];rfl
 | .node (.put n k a) _ bs=>by rw [nmF,vN,clV,clV,Ab zs bs]
theorem Ab(zs:List (5:)):∀ts:List TV,clVs (vNs (nmFs zs ts))=(clVs ts).map λc=>(.str (S (nmI zs c.1)),c.2)
 | []=>by simp [nmFs,vNs,clVs]
 | t::r=>by rw [nmFs,vNs,clVs,clVs,CW zs t,Ab zs r,aS]
end
def NN:List (5:)->Prop
 | u::w::r=>¬(isN u/\isN w)/\NN (w::r)
 | _=>True
def Hd(b:List (5:)):Prop:=∀w,b[0]?=some w->¬isN w
theorem Hd.cons{w:List Nat}{r:List (5:)}(h:¬isN w):Hd (w::r):=λx e=>by
 have:w=x:=by simpa using e
 exact this ▸ h
theorem Hd.nil:Hd []:=λx e=>by simp at e
theorem NN.cons{u:List Nat}{b:List (5:)}(h:¬isN u\/Hd b)(hb:NN b):NN (u::b):=by
 cases b with
 | nil=>trivial
 | cons w r=>exact⟨λz=>h.elim (λk=>k z.1) (λk=>k w rfl z.2),hb⟩
theorem NN.app:∀{a b:List (5:)},NN a->NN b->Hd b->NN (a++b)
 | [],b,_,j,_=>j
 | [u],b,_,j,F=>NN.cons (.inr F) j
 | u::w::r,b,ha,j,F=>⟨ha.1,NN.app (a:=w::r) ha.2 j F⟩
theorem NN.get:∀{ws:List (5:)},NN ws->∀(i:Nat)(u w:List Nat),ws[i]?=some u->ws[i+1]?=some w->¬(isN u/\isN w)
 | [],_,i,u,w,e,_=>by simp at e
 | [x],_,i,u,w,_,e=>by simp at e
 | x::y::r,h,0,u,w,e1,e2=>by
  have a:x=u:=by simpa using e1
  have b:y=w:=by simpa using e2
  rw [<-a,<-b];exact h.1
 | x::y::r,h,i+1,u,w,e1,e2=>NN.get (ws:=y::r) h.2 i u w (by simpa using e1) (by simpa using e2)
theorem Hd.app{a b:List (5:)}(ha:Hd a)(hb:a=[]->Hd b):Hd (a++b):=by
 cases a with
 | nil=>exact hb rfl
 | cons x r=>exact ha
theorem U7{w:List Nat}(h:Nm w):¬isN w:=λ⟨m,_,e⟩=>by
 obtain⟨c,r,e2,j⟩:=Ug m;rw [e,e2]at h;have:=h.all c aL;rcases j with j | rfl
 .exact(YE c this).2 j
 .exact absurd this (9:)
theorem YW(h:c∈sg6):¬isN [c]:=λ⟨m,_,e⟩=>by
 obtain⟨d,r,e2,j⟩:=Ug m;rw [e2]at e;injection e with e _;rcases j with j | rfl
 .exact ON d j (e ▸ h)
 .rw [e]at h;exact absurd h (9:)
theorem Gx{w:List Nat}(h:Nm w):WJ w:=.inl h
theorem Wg(h:c∈sg6):WJ [c]:=.inr (.inl ⟨c,h,rfl⟩)
theorem CN{m:Int}(h:m.natAbs<10^60):WJ (sh m):=.inr (.inr ⟨m,h,rfl⟩)
structure WdF(ws:List (5:)):Prop where
 wj:∀w∈ws,WJ w
 nn:NN ws
 hd:Hd ws
theorem WdF.nil:WdF []:=⟨λw h=>(nomatch h),trivial,Hd.nil⟩
theorem WdF.app{a b:List (5:)}(ha:WdF a)(hb:WdF b):WdF (a++b):=⟨λw h=>(aW.mp h).elim (ha.wj w) (hb.wj w),NN.app ha.nn hb.nn hb.hd,ha.hd.app λ_=>hb.hd⟩
theorem WdF.one{w:List Nat}(h:WJ w)(hn:¬isN w):WdF [w]:=⟨λx j=>by obtain rfl:=bD.mp j;exact h,trivial,Hd.cons hn⟩
mutual
theorem AK{full:Bool}{zs:List (5:)}(hz:∀z∈zs,Nm z):∀t:TV,gdV t->InZ zs t->WdF (wkF full zs t)
 | .node (.call m b) k bs,h,hi=>by
  rw [gdV]at h;obtain⟨i,G,e⟩:=hi m b (by rw [clV];exact aL);rw [wkF,e,JM G];have hn:=hz _ (aO G);refine⟨λw j=>?_,⟨λz=>YW (9:) z.1,⟨λz=>U7 hn z.1,trivial⟩⟩,Hd.cons (YW (9:))⟩;simp only [aQ,dE,bN]at j;rcases j with rfl | rfl | rfl
  .exact Wg (9:)
  .exact Gx hn
  .exact CN h.2.1
 | .node (.put n k a) mk bs,h,hi=>by
  rw [gdV]at h;obtain⟨h1,h2,_,_,M⟩:=h;rw [wkF];have F:WdF (brG bs (wkFs full zs bs)):=by
   cases bs with
   | nil=>exact WdF.nil
   | cons t r=>
    have:=Ao (full:=full) hz (t::r) M λu U m b Y=>hi m b (by rw [clV];exact UV U Y);show WdF ([[40]]++(wkFs full zs (t::r)++[[41]]));exact(WdF.one (Wg (9:)) (YW (9:))).app (this.app (WdF.one (Wg (9:)) (YW (9:))))
  have hK:WdF (kpW k):=by
   cases k with
   | true=>exact WdF.one (Wg (9:)) (YW (9:))
   | false=>exact WdF.nil
  have L:(∀w∈mkF full a++brG bs (wkFs full zs bs),WJ w)/\NN (mkF full a++brG bs (wkFs full zs bs)):=by
   unfold mkF;split
   .exact⟨λw j=>(aW.mp j).elim (λz=>by obtain rfl:=bD.mp z;exact CN h2) (F.wj w),NN.app (by trivial) F.nn F.hd⟩
   .exact⟨F.wj,F.nn⟩
  have J:(∀w∈kpW k++(mkF full a++brG bs (wkFs full zs bs)),WJ w)/\NN (kpW k++(mkF full a++brG bs (wkFs full zs bs))):=by
   refine⟨λw j=>(aW.mp j).elim (hK.wj w) (L.1 w),?_⟩;cases k with
   | true=>exact NN.cons (.inl (YW (9:))) L.2
   | false=>exact L.2
  exact⟨λw j=>(aQ.mp j).elim (λz=>z ▸ Gx h1) (J.1 w),NN.cons (.inl (U7 h1)) J.2,Hd.cons (U7 h1)⟩
theorem Ao{full:Bool}{zs:List (5:)}(hz:∀z∈zs,Nm z):∀ts:List TV,gdVs ts->(∀t∈ts,InZ zs t)->WdF (wkFs full zs ts)
 | [],_,_=>by rw [wkFs];exact WdF.nil
 | t::r,h,hi=>by
  rw [gdVs]at h;rw [wkFs];exact(AK hz t h.1 (hi t aL)).app (Ao hz r h.2 λu j=>hi u (aU _ j))
end
theorem BQ{α:Type} [DecidableEq α] {l1 l2:List α} (hn:l1.Nodup) (h:∀x∈l1,x∈l2):l1.length<=l2.length:=by
 rcases Nat.lt_or_ge l2.length l1.length with c | c
 .exfalso;cases l1 with
  | nil=>simp at c
  | cons a r=>
   have j:=dZ.mp hn;exact j.1 (pig r l2 j.2 (λx F=>h x (aU _ F)) (by simp only [aJ]at c;lia) a (h a aL))
 .exact c
structure WdK(ks:List KdT)(own:List Str):Prop where
 ok:OwnOk ks own
 ne:∀o∈own,Qr ks o≠[]
 nk:∀o∈own,Nm (codes o)/\(codes o).length<=2
 nr:∀o∈own,∀r∈Qr ks o,Nm (codes r.2.1)
theorem WdK.l3{own:List Str}(h:WdK ks own){o:Str}(ho:o∈own):(Qr ks o).length<=3:=by
 obtain⟨k,_,e,hl⟩:=h.ok.rows ho;rw [e];exact hl
theorem LG:∀{rs:List RuN},(∀x∈rs,sz (vN x.t)<=n)->szR rs<=n*rs.length
 | [],_=>by simp [szR]
 | x::r,h=>by
  have h1:=h x aL;have h2:=LG (rs:=r) λy j=>h y (aU _ j);unfold szR at h2 ⊢;rw [aR,cY,aJ,Nat.mul_succ];lia
theorem Am:∀{l:List (5:)},(∀x∈l,x.length<=c)->(l.flatMap λy=>[59,32]++y).length<=(c+2)*l.length
 | [],_=>by simp
 | x::r,h=>by
  have h1:=h x aL;have h2:=Am (l:=r) λy j=>h y (aU _ j);have e:(c+2)*(x::r).length=(c+2)*r.length+(c+2):=by rw [aJ,Nat.mul_succ]
  rw [dB,aI,aI,e];simp only [aJ,b'];lia
section
variable{own:List Str}{is:List It}{st:TV}
theorem BX{k:Nat}(h:k∈Zd is):(Zh is).idxOf (k:Int)<(Zd is).length/\(Zd is)[(Zh is).idxOf (k:Int)]?=some k:=by
 obtain⟨h1,_⟩:=Lo (JU.mpr h);rw [aM]at h1;obtain⟨n,hn,e⟩:=Option.map_eq_some_iff.mp h1;have j:n=k:=by lia
 subst j;exact⟨(bT.mp hn).1,hn⟩
theorem NJ:((Zy ks own is).map λm=>m.1)=(Zd is).map (Zk own):=by unfold Zy;rw [aZ];rfl
theorem UA:(Zy ks own is).length=(Zd is).length:=by unfold Zy;rw [aA]
variable(hO:WoodOk ks)(hD:Draw ks own is)(hK:WdK ks own)
include hO hD hK
theorem GS{bs:List Str}{t:TV}(hf:Yw own bs t):Yw ((Zy ks own is).map λm=>m.1) bs (mpV (ZF (Zh is)) t)/\Lo6 (mpV (ZF (Zh is)) t)/\∀m b,(m,b)∈clV t->∃i:Nat,i<676/\ZF (Zh is) m=.int (i:Int):=by
 have h4:=hK.ok.1;have ho:=hD.olen;have key:∀m b,(m,b)∈clV t->∃i j q:Nat,m=.int (i:Int)/\b=(j:Int)/\ZF (Zh is) m=.int (q:Int)/\q<(Zd is).length/\(Zd is)[q]?=some i/\i<own.length/\j<bs.length/\own[i]?=bs[j]?:=λm b F=>by
  obtain⟨i,j,rfl,rfl,hi,M,e⟩:=hf m b F;obtain⟨Y,q2⟩:=BX (hD.in_ hK.ne hi);exact⟨i,j,_,rfl,rfl,rfl,Y,q2,hi,M,e⟩
 have J:∀m b,(m,b)∈clV (mpV (ZF (Zh is)) t)->∃G,(G,b)∈clV t/\m=ZF (Zh is) G:=λm b F=>by
  rw [Ag]at F;obtain⟨c,hc,e⟩:=aP.mp F;obtain⟨rfl,rfl⟩:=fH e;exact⟨c.1,hc,rfl⟩
 refine⟨λm b F=>?_,λm b F=>?_,λm b F=>?_⟩
 .obtain⟨G,L,rfl⟩:=J m b F;obtain⟨i,j,q,_,rfl,e1,U,eq,hi,M,e⟩:=key G b L;refine⟨q,j,e1,rfl,by rw [aA,UA];exact U,M,?_⟩;rw [NJ,aM,eq,<-e,aE hi];exact congrArg some (ZV hi)
 .obtain⟨G,L,rfl⟩:=J m b F;obtain⟨i,j,q,_,rfl,e1,U,_⟩:=key G b L;exact⟨q,by lia,e1⟩
 .obtain⟨i,j,q,_,rfl,e1,U,_⟩:=key m b F;exact⟨q,by lia,e1⟩
theorem To{m:MdD}(hm:m∈Zy ks own is):∃(k:Nat)(h:k<own.length),k∈Zd is/\m=(own[k],(Qr ks own[k]).map λr=>mpV (ZF (Zh is)) (ruI is k r.2.1))/\own[k]∈own/\∀r∈Qr ks own[k],TmD own r.2.2.2 2 (ruI is k r.2.1):=by
 obtain⟨k,j,rfl⟩:=aP.mp hm;have h:=hD.lt j;refine⟨k,h,j,by rw [ZV h],aO h,λr F=>?_⟩;obtain⟨x,_,_,_,_,e,G⟩:=hD.one (aE h) F hO;rw [e];exact G
theorem Yu{m:MdD}(hm:m∈Zy ks own is):GdM ks m/\(Qr ks m.1).length<=3/\(∀t∈m.2,gdV t/\Lo6 t/\lv t<=3/\sz t<=5/\(shV t).length<=356)/\RuFit ks ((Zy ks own is).map λm=>m.1) m.1 m.2/\m.1∈own:=by
 obtain⟨k,h,hk,rfl,G,Y⟩:=To hO hD hK hm;have J:∀r∈Qr ks own[k],gdV (mpV (ZF (Zh is)) (ruI is k r.2.1))/\Lo6 (mpV (ZF (Zh is)) (ruI is k r.2.1))/\lv (mpV (ZF (Zh is)) (ruI is k r.2.1))<=3/\sz (mpV (ZF (Zh is)) (ruI is k r.2.1))<=5/\(shV (mpV (ZF (Zh is)) (ruI is k r.2.1))).length<=356/\Yw ((Zy ks own is).map λm=>m.1) r.2.2.2 (mpV (ZF (Zh is)) (ruI is k r.2.1)):=λr F=>by
  have tm:=Y r F;obtain⟨f1,f2,f3⟩:=GS hO hD hK tm.fit;have a1:=tm.lv;have a2:=tm.sz;have a3:=tm.len (ZF (Zh is));exact⟨P3 _ _ tm.gd f3,f2,by rw [V0 _ _ tm.gd];exact a1,by rw [M5 _ _ tm.gd];exact a2,a3,f1⟩
 refine⟨⟨by simp,hK.ne _ G,λt j=>?_,(hK.nk _ G).1,hK.nr _ G⟩,hK.l3 G,λt j=>?_,⟨hK.ne _ G,by simp,λi h1 h2=>?_,λt j=>?_⟩,G⟩
 .obtain⟨r,F,rfl⟩:=aP.mp j;obtain⟨L,_,M,_⟩:=J r F;exact⟨L,by lia⟩
 .obtain⟨r,F,rfl⟩:=aP.mp j;obtain⟨L,b2,M,U,b5,_⟩:=J r F;exact⟨L,b2,M,U,b5⟩
 .show Yw _ _ ((Qr ks own[k]).map _)[i];rw [bR];exact(J _ (aO h1)).2.2.2.2.2
 .obtain⟨r,F,rfl⟩:=aP.mp j;obtain⟨L,_,M,U,_⟩:=J r F;exact⟨by lia,by lia⟩
theorem Sh:∀(D:List MdD)(i:Nat),(∀m∈D,m∈Zy ks own is)->(ruD ks i D).length<=3*D.length/\∀x∈ruD ks i D,sz (vN x.t)<=5
 | [],i,_=>⟨by simp [ruD],λx hx=>by simp [ruD]at hx⟩
 | m::r,i,h=>by
  obtain⟨j,U,F,_⟩:=Yu hO hD hK (h m aL);obtain⟨k1,G⟩:=Sh r (i+1) λx hx=>h x (aU _ hx);have Y:=UD (i:=i) j;rw [ruD];refine⟨by rw [aI,aJ];lia,λx hx=>?_⟩;rcases aW.mp hx with hx | hx
  .obtain⟨_,_,_,t,_,J,_,e⟩:=J1 hx;obtain⟨L,_,_,M,_⟩:=F t J;rw [e,Mp _ L];exact M
  .exact G x hx
theorem WX(hs:StD own (S [107]) st):GdT ks (S [107]) (mpV (ZF (Zh is)) st) (Zy ks own is):=by
 obtain⟨F,L,G⟩:=GS hO hD hK hs.fit;obtain⟨M,J⟩:=Sh hO hD hK (Zy ks own is) 0 λm j=>j;have U:=hK.ok.1;have Y:=hD.olen;have hl:=UA (ks:=ks) (own:=own) (is:=is);have hz:=LG J;have a1:=hs.lv;have a2:=hs.sz;exact⟨P3 _ _ hs.gd G,by rw [V0 _ _ hs.gd];lia,by rw [Af];exact hs.kp,by lia,λm j=>(Yu hO hD hK j).1,by lia,by rw [M5 _ _ hs.gd];lia,λm j=>(Yu hO hD hK j).2.2.2.1,F⟩
theorem Tv(hs:StD own (S [107]) st):TxOk ks (mpV (ZF (Zh is)) st) (Zy ks own is):=by
 have F:=WX hO hD hK hs;obtain⟨f1,M,f3⟩:=GS hO hD hK hs.fit;have h4:=hK.ok.1;have ho:=hD.olen;have hl:=UA (ks:=ks) (own:=own) (is:=is);have U:=hs.lv;have a3:=hs.len (ZF (Zh is));refine⟨⟨⟨by rw [V0 _ _ hs.gd];lia,Rn _ F.sg,by lia⟩,by lia,λm j=>?_,λm j=>(F.md m j).ln,λm j t G=>?_,λm j r Y=>?_⟩,by lia,⟨F.sg,M,by rw [V0 _ _ hs.gd];exact U⟩,λm j t G=>?_,λm j=>?_⟩
 .have:=(F.md m j).nk.len;rw [ZC]at this;exact this
 .obtain⟨J,L,b3,b4,b5⟩:=(Yu hO hD hK j).2.2.1 t G;exact⟨by lia,Rn _ J,by lia⟩
 .have:=((F.md m j).nr r Y).len;rw [ZC]at this;exact this
 .obtain⟨J,L,b3,b4,b5⟩:=(Yu hO hD hK j).2.2.1 t G;exact⟨J,L,by lia⟩
 .obtain⟨k,e,_⟩:=hK.ok.2 _ (Yu hO hD hK j).2.2.2.2;exact⟨k,e⟩
theorem Ro:∀(D:List MdD)(i:Nat),(∀m∈D,m∈Zy ks own is)->(tuR ks i D).length<=3*D.length/\∀x∈tuR ks i D,x.length<=373
 | [],i,_=>⟨by simp [tuR],λx hx=>by simp [tuR]at hx⟩
 | m::r,i,h=>by
  obtain⟨j,M,F,_,G⟩:=Yu hO hD hK (h m aL);obtain⟨k1,J⟩:=Ro r (i+1) λx hx=>h x (aU _ hx);have U:=WC (QT i) m.1 (Qr ks m.1) m.2;rw [tuR];refine⟨by rw [aI,aJ];lia,λx hx=>?_⟩;rcases aW.mp hx with hx | hx
  .obtain⟨y,L,rfl⟩:=aP.mp hx;obtain⟨a,b⟩:=y;have hz:=fG L;have Y:=Zl i;have c2:=(hK.nk _ G).2;have c3:=(j.nr a hz.1).len;have c4:=(F b hz.2).2.2.2.2;show(ruS _ _ _ _).length<=373;unfold ruS;simp only [aI,aJ,b'];lia
  .exact J x hx
theorem Sm(hs:StD own (S [107]) st):(tuS ks (mpV (ZF (Zh is)) st) (Zy ks own is)).length<=5000:=by
 obtain⟨G,j⟩:=Ro hO hD hK (Zy ks own is) 0 λm F=>F;have J:=hK.ok.1;have L:=hD.olen;have hl:=UA (ks:=ks) (own:=own) (is:=is);have M:=hs.len (ZF (Zh is));have:=Am j;unfold tuS;rw [gl,aI];lia
end
def zat(zs:List (5:))(k:Nat):List Nat:=zs.getD k []
theorem Uo{zs:List (5:)}{k:Nat}(h:k<zs.length):zat zs k=zs[k]:=by unfold zat;rw [dA,aE h];rfl
theorem VA{zs:List (5:)}(hn:zs.Nodup)(hi:i<zs.length)(hj:j<zs.length)(e:zat zs i=zat zs j):i=j:=by
 rw [Uo hi,Uo hj]at e;exact(eR hn).mp e
def toR(zs:List (5:))(own:List Str)(x:It):RuN:=⟨zat zs x.k,codes (Zk own x.k),codes x.n,nmF zs x.t⟩
def kdZ(zs:List (5:))(own:List Str)(z:List Nat):List Nat:=codes (Zk own (nixS zs (S z)))
theorem G1{zs:List (5:)}(hn:zs.Nodup){own:List Str}{k:Nat}(h:k<zs.length):kdZ zs own (zat zs k)=codes (Zk own k):=by
 unfold kdZ;rw [Uo h,Lz hn h]
theorem AR{zs:List (5:)}(hn:zs.Nodup)(own:List Str)(is:List It):(∀x∈is,x.k<zs.length)->omR (is.map (toR zs own))=(Zd is).map (zat zs):=by
 refine YB (p:=λis=>(∀x∈is,x.k<zs.length)->omR (is.map (toR zs own))=(Zd is).map (zat zs)) (λ_=>rfl) (λl x M h=>?_) is;have F:=M λy j=>h y (cU _ j);have U:=h x (22:);have e1:omR ((l++[x]).map (toR zs own))=YK (omR (l.map (toR zs own))) (zat zs x.k):=by
  rw [aS];unfold omR;rw [iM];rfl
 rw [e1,F,Ys];unfold YK Gs;have G:zat zs x.k∈(Zd l).map (zat zs)↔x.k∈Zd l:=by
  constructor
  .intro hz;obtain⟨k,J,e⟩:=aP.mp hz;obtain⟨y,j,Y⟩:=Yl.mp J;have L:k<zs.length:=by rw [<-Y];exact h y (cU _ j)
   rw [<-VA hn L U e];exact J
  .exact λhz=>aP.mpr ⟨_,hz,rfl⟩
 by_cases c:x.k∈Zd l
 .rw [aH c,aH (G.mpr c)]
 .rw [aF c,aF (λz=>c (G.mp z)),aS];rfl
theorem MV{zs:List (5:)}(hn:zs.Nodup){k:Nat}(hk:k<zs.length):∀os:List Nat,(∀o∈os,o<zs.length)->nixS (os.map (zat zs)) (S (zat zs k))=(os.map λ(n:Nat)=>(n:Int)).idxOf (k:Int)
 | [],_=>rfl
 | o::r,h=>by
  have j:=MV hn hk r λx F=>h x (aU _ F);have G:=h o aL;unfold nixS at j ⊢;rw [aR,aR,List.findIdx_cons,List.idxOf_cons,j]
  by_cases c:o=k
  .subst c;have h1:decide (S (zat zs o)=S (zat zs o))=true:=aV rfl;rw [h1];simp
  .have h1:decide (S (zat zs o)=S (zat zs k))=false:=bM λz=>c (VA hn G hk (XV z));have h2:(((o:Nat):Int)==(k:Int))=false:=by
    have:¬((o:Nat):Int)=(k:Int):=λz=>c (10:)
    simpa using this
   rw [h1,h2]
section
variable{own:List Str}{is:List It}{st:TV}{zs:List (5:)}
variable(hO:WoodOk ks)(hD:Draw ks own is)(hK:WdK ks own)(hl:zs.length=6)(hn:zs.Nodup)(hz:∀z∈zs,Nm z)
include hO hD hK hl hn
theorem GE{x:It}(hx:x∈is):x.k<own.length/\x.k<zs.length:=by
 obtain⟨o,r,e,_⟩:=hD.it x hx;have:=(bT.mp e).1;have:=hK.ok.1;lia
theorem M9:omR (is.map (toR zs own))=(Zd is).map (zat zs):=AR hn own is λx j=>(GE hO hD hK hl hn j).2
theorem Xf{k:Nat}(h:k∈Zd is):k<own.length/\k<zs.length:=by
 obtain⟨x,j,rfl⟩:=Yl.mp h;exact GE hO hD hK hl hn j
theorem VL{bs:List Str}{t:TV}(hf:Yw own bs t):InZ zs t:=λm b F=>by
 obtain⟨i,j,e,_,hi,_⟩:=hf m b F;have:=hK.ok.1;exact⟨i,by lia,e⟩
theorem Va{bs:List Str}{t:TV}(hg:gdV t)(hf:Yw own bs t):mpV (Yo (omR (is.map (toR zs own)))) (vN (nmF zs t))=mpV (ZF (Zh is)) t:=by
 refine Sf zs _ _ t hg λm b G=>?_;obtain⟨i,j,rfl,_,hi,_⟩:=hf m b G;have L:=hK.ok.1;have F:i<zs.length:=by lia
 rw [JM F,<-Uo F,M9 hO hD hK hl hn];show V.int ((nixS _ (S (zat zs i)):Nat):Int)=V.int _;rw [MV hn F (Zd is) λo J=>(Xf hO hD hK hl hn J).2]
theorem Ar{k:Nat}(hk:k<zs.length):rsR (is.map (toR zs own)) (zat zs k)=(is.filter λx=>decide (x.k=k)).map (toR zs own):=by
 unfold rsR;rw [List.filter_map]
 congr 1
 refine List.filter_congr λx F=>?_;have j:=(GE hO hD hK hl hn F).2;show decide (zat zs x.k=zat zs k)=decide (x.k=k)
 by_cases c:x.k=k
 .rw [c];simp
 .rw [bM c];exact bM λz=>c (VA hn j hk z)
theorem Aj{k:Nat}(hk:k∈Zd is):MoOk ks (rsR (is.map (toR zs own)) (zat zs k)) (codes (Zk own k)):=by
 obtain⟨F,J⟩:=Xf hO hD hK hl hn hk;rw [Ar hO hD hK hl hn J];have mem:∀r∈(is.filter λx=>decide (x.k=k)).map (toR zs own),∃x∈is,x.k=k/\r=toR zs own x:=λr j=>by
  obtain⟨x,G,rfl⟩:=aP.mp j;obtain⟨h1,h2⟩:=dF.mp G;exact⟨x,h1,b_ h2,rfl⟩
 refine⟨λr j=>?_,λr j=>?_,?_,?_,?_⟩
 .obtain⟨x,G,e,rfl⟩:=mem r j;show codes (Zk own x.k)=_;rw [e]
 .obtain⟨x,G,e,rfl⟩:=mem r j;obtain⟨o,rw,e1,h1,h2,_⟩:=hD.it x G;rw [QN];show Xq ks (Zk own k) (S (codes x.n))≠none;rw [QN,h2];have eo:Zk own k=o:=by
   rw [e,aE F]at e1;rw [ZV F];exact aK e1
  rw [eo];unfold Xq;intro z;rw [Option.map_eq_none_iff,List.find?_eq_none]at z;exact z rw h1 (aV rfl)
 .rw [aZ];have hp:=fB.mp hD.nd;have hf:=List.Pairwise.filter (λx=>decide (x.k=k)) hp;refine fB.mpr (List.Pairwise.imp_of_mem ?_ hf);intro a b ha hb L e;have h1:=b_ (dF.mp ha).2;have h2:=b_ (dF.mp hb).2;have M:S (codes a.n)=S (codes b.n):=e;rw [QN,QN]at M;exact L (by rw [h1,h2,M])
 .rw [QN];have U:=(Zm hO (Zk own k)).nd;have:=BQ U (l2:=((is.filter λx=>decide (x.k=k)).map (toR zs own)).map λr=>S r.n) λz Y=>by
   obtain⟨r,j,rfl⟩:=aP.mp Y;rw [ZV F]at j;obtain⟨x,G,e1,e2⟩:=hD.all k _ r (aE F) j;refine aP.mpr ⟨toR zs own x,aP.mpr ⟨x,dF.mpr ⟨G,aV e1⟩,rfl⟩,?_⟩;show S (codes x.n)=_;rw [QN,e2]
  rw [aA,aA]at this;exact this
 .rw [aA];have:=List.length_filter_le (λx=>decide (x.k=k)) is;have:=hD.len;lia
theorem By{k:Nat}(hk:k∈Zd is):Jw ks (is.map (toR zs own)) (kdZ zs own) (zat zs k)=(Qr ks (Zk own k)).map λr=>mpV (ZF (Zh is)) (ruI is k r.2.1):=by
 obtain⟨F,G⟩:=Xf hO hD hK hl hn hk;unfold Jw;rw [G1 hn G,QN];refine eP λr L=>?_;have M:=Aj hO hD hK hl hn hk;rw [ZV F]at L;obtain⟨x,Y,e1,e2,_,e3,J⟩:=hD.one (aE F) L hO;have U:toR zs own x∈rsR (is.map (toR zs own)) (zat zs k):=by
  rw [Ar hO hD hK hl hn G];exact aP.mpr ⟨x,dF.mpr ⟨Y,aV e1⟩,rfl⟩
 obtain⟨i,hi,ei⟩:=cS.mp U;have j:=M.ru hi;rw [ei]at j;have hs:S (toR zs own x).n=r.2.1:=by show S (codes x.n)=_;rw [QN,e2]
 rw [hs]at j;rw [j,e3];exact Va hO hD hK hl hn J.gd J.fit
theorem Oh:(omR (is.map (toR zs own))).map (λm=>(S (kdZ zs own m),Jw ks (is.map (toR zs own)) (kdZ zs own) m))=Zy ks own is:=by
 rw [M9 hO hD hK hl hn,aZ];unfold Zy;refine eP λk j=>?_;obtain⟨G,F⟩:=Xf hO hD hK hl hn j;show(S (kdZ zs own (zat zs k)),_)=_;rw [By hO hD hK hl hn j,G1 hn F,QN]
theorem R1{bs:List Str}{t:TV}(hf:Yw own bs t):InM (omR (is.map (toR zs own))) (vN (nmF zs t)):=λm b G=>by
 rw [CW]at G;obtain⟨c,J,e⟩:=aP.mp G;obtain⟨i,j,e1,_,hi,_⟩:=hf c.1 c.2 J;have L:=hK.ok.1;have F:i<zs.length:=by lia
 rw [M9 hO hD hK hl hn];refine⟨zat zs i,aP.mpr ⟨i,hD.in_ hK.ne hi,rfl⟩,?_⟩;rw [<-(fH e).1,e1,JM F,Uo F]
theorem BK(hs:StD own (S [107]) st):TuR ks (S [107]) (is.map (toR zs own)) (vN (nmF zs st)) (kdZ zs own):=by
 have L:=WX hO hD hK hs;have F:=Oh hO hD hK hl hn;have j:=Va hO hD hK hl hn hs.gd hs.fit;have G:((omR (is.map (toR zs own))).map λm=>S (kdZ zs own m))=(Zy ks own is).map λm=>m.1:=by
  rw [<-F,aZ];rfl
 have a1:=hs.lv;have a2:=hs.sz;have ab:=hD.len;have U:∀x∈is.map (toR zs own),lv (vN x.t)<=9/\sz (vN x.t)<=5/\InM (omR (is.map (toR zs own))) (vN x.t):=λx J=>by
  obtain⟨y,hy,rfl⟩:=aP.mp J;obtain⟨o,r,_,_,_,tm⟩:=hD.it y hy;have Y:=tm.lv;have b2:=tm.sz;exact⟨by show lv (vN (nmF zs y.t))<=9;rw [A6 _ _ tm.gd];lia,by show sz (vN (nmF zs y.t))<=5;rw [Tl _ _ tm.gd];lia,R1 hO hD hK hl hn tm.fit⟩
 refine⟨λm M=>?_,λx J=>?_,?_,?_,?_,by rw [aA];lia,?_,λm M=>?_,?_⟩
 .rw [M9 hO hD hK hl hn]at M;obtain⟨k,hk,rfl⟩:=aP.mp M;rw [G1 hn (Xf hO hD hK hl hn hk).2];exact Aj hO hD hK hl hn hk
 .obtain⟨Y,b2,b3⟩:=U x J;exact⟨Y,by lia,b3⟩
 .exact⟨by rw [A6 _ _ hs.gd];lia,by rw [Tl _ _ hs.gd];lia,R1 hO hD hK hl hn hs.fit⟩
 .rw [j];exact⟨L.stl,by rw [M5 _ _ hs.gd];lia⟩
 .rw [j];exact L.kp
 .have:=LG (n:=5) λx J=>(U x J).2.1;rw [aA]at this;rw [Tl _ _ hs.gd];lia
 .rw [G];have aa:(S (kdZ zs own m),Jw ks (is.map (toR zs own)) (kdZ zs own) m)∈Zy ks own is:=by rw [<-F];exact cJ M
  exact L.fit _ aa
 .rw [G,j];exact L.fst
def wkI(full:Bool)(zs:List (5:))(own:List Str)(x:It):List (5:):=[59]::zat zs x.k::codes (Zk own x.k)::codes x.n::[58]::wkF full zs x.t
include hz
theorem Gr(full:Bool){x:It}(hx:x∈is):TkR 9 (toR zs own x) (zat zs x.k::codes (Zk own x.k)::codes x.n::[58]::wkF full zs x.t)/\WdF (wkI full zs own x)/\tot (wkI full zs own x)<=300:=by
 obtain⟨h1,h2⟩:=GE hO hD hK hl hn hx;obtain⟨o,r,e,Y,en,tm⟩:=hD.it x hx;have L:Zk own x.k=o:=by
  rw [aE h1]at e;rw [ZV h1];exact aK e
 have M:o∈own:=bC e;have F:Nm (zat zs x.k):=by rw [Uo h2];exact hz _ (aO h2)
 have G:=hK.nk o M;have j:=hK.nr o M r Y;rw [<-en]at j;have J:=VL hO hD hK hl hn tm.fit;have b1:=tm.lv;have hw:=AK (full:=full) hz _ tm.gd J;have ht:=tm.tw full zs λz U=>(hz z U).len;refine⟨?_,?_,?_⟩
 .show TkR 9 ⟨zat zs x.k,codes (Zk own x.k),codes x.n,nmF zs x.t⟩ _;rw [L];exact .mk F G.1 j (LY hz _ tm.gd J) (by rw [OV _ _ tm.gd];lia)
 .unfold wkI;rw [L];have s1:=WdF.one (Wg (c:=59) (9:)) (YW (9:));have s2:=WdF.one (Wg (c:=58) (9:)) (YW (9:));exact s1.app ((WdF.one (Gx F) (U7 F)).app ((WdF.one (Gx G.1) (U7 G.1)).app ((WdF.one (Gx j) (U7 j)).app (s2.app hw))))
 .unfold wkI;rw [L];have l1:=F.len;have l2:=G.2;have l3:=j.len;rw [Q6,Q6,Q6,Q6,Q6];simp only [aJ,b'];lia
theorem YQ(full:Bool):∀js:List It,(∀x∈js,x∈is)->RwL (js.map (toR zs own)) (js.flatMap (wkI full zs own))/\WdF (js.flatMap (wkI full zs own))/\tot (js.flatMap (wkI full zs own))<=300*js.length
 | [],_=>⟨.nil,WdF.nil,by simp [tot]⟩
 | x::r,h=>by
  obtain⟨j,F,M⟩:=Gr hO hD hK hl hn hz full (h x aL);obtain⟨G,J,U⟩:=YQ full r λy L=>h y (aU _ L);rw [aR,dB];refine⟨?_,F.app J,by rw [ZA,aJ];lia⟩;have:=RwL.cons j G
  simpa [wkI]using this
theorem On(full:Bool)(hs:StD own (S [107]) st):Tkt (nmF zs st) (wkF full zs st)/\lv (nmF zs st)<=9/\WdF (wkF full zs st++is.flatMap (wkI full zs own))/\tot (wkF full zs st++is.flatMap (wkI full zs own))<=5000/\InZ zs st:=by
 have j:=VL hO hD hK hl hn hs.fit;obtain⟨M,G,U⟩:=YQ hO hD hK hl hn hz full is λx J=>J;have L:=hD.len;have Y:=hs.tw full zs λz F=>(hz z F).len;have a1:=hs.lv;exact⟨LY hz _ hs.gd j,by rw [OV _ _ hs.gd];lia,(AK hz _ hs.gd j).app G,by rw [ZA];lia,j⟩
end
end K12
namespace L2
open PySem PySem.Spec PyProof.Rows
theorem Wc:ZO X (.builtin "isinstance") (λxs H Q=>∃(a:Addr)(ys:List V),(xs=[.ref a,.ty "list"]/\SqL X.K H a ys\/xs=[.ref a,.ty "tuple"]/\SqT X.K H a ys)/\Q (.bl true) H):=by
 intro pins s σ H xs L Q I r h;obtain⟨a,ys,h,q⟩:=h;rcases h with⟨rfl,j⟩ | ⟨rfl,j⟩
 .obtain⟨u,c,rfl,F,G⟩:=Ra r;cases (show u=Value.ref a from F);cases (show c=Value.type "list" from G);obtain⟨its,_,J,_⟩:=I.list j;obtain⟨o,h1,h2,_⟩:=J.isList;exact cX (b:=true) PySem.W.kitx_list I.kIn ⟨o,h1,h2⟩ rfl (λz=>nomatch z) λtk=>⟨.bl true,H,I.tok tk,rfl,q⟩
 .obtain⟨u,c,rfl,F,G⟩:=Ra r;cases (show u=Value.ref a from F);cases (show c=Value.type "tuple" from G);obtain⟨its,_,J,_⟩:=I.tuple j;obtain⟨o,h1,h2,_⟩:=J;exact cX (b:=true) PySem.W.kitx_tuple I.kIn ⟨o,h1,h2⟩ rfl (λz=>nomatch z) λtk=>⟨.bl true,H,I.tok tk,rfl,q⟩
end L2
namespace K12
open PySem L2 K3 TM K9
structure TuV(K:Fg)(H:Hp)(p lw lm:Addr)(v:V)(ks:List KdT)(st:TV)(ms:List MvT):Prop where
 sq:SqT K H p [.ref lw,v,.ref lm]
 wd:WoodAt K H lw ks
 tv:TvV K H v st
 md:ModesV K H lm ms
section
variable{K:Fg}{p lx:Addr}{st:TV}
theorem TuV.held(h:TuV K H p lw lm v ks st ms)(g:Held K H H' T):TuV K H' p lw lm v ks st ms:=⟨g.qt _ _ h.sq,g.wood h.wd,h.tv.mono g.qt,g.modes h.md⟩
theorem TuV.rd(h:TuV K H p lw lm v ks st ms)(hs:gdV st)(hm:∀m∈dM ms,∀t∈m.2,gdV t):RdV K H (.ref p) (tuD ks st (dM ms)):=RdV.tup h.sq (.cons (O5 h.wd) (.cons (Ad h.tv hs) (.cons (Cp h.md hm) .nil)))
structure Fnd(K:Fg)(Ho H:Hp)(p lw lm:Addr)(v:V)(ks:List KdT)(st:TV)(ms:List MvT):Prop where
 sq:SqT K H p [.ref lw,v,.ref lm]
 wd:NewWd K Ho H lw ks
 tv:TvV K H v st
 md:NewMs K Ho H lm ms
theorem Fnd.tu(h:Fnd K Ho H p lw lm v ks st ms):TuV K H p lw lm v ks st ms:=⟨h.sq,h.wd.wood,h.tv,h.md.modes⟩
theorem Fnd.same(h:Fnd K Ho H p lw lm v ks st ms)(g:Same H H'):Fnd K Ho H' p lw lm v ks st ms:=
 ⟨g.seqT h.sq,⟨h.wd.n0,g _ _ h.wd.at0,λk j=>by obtain⟨a,b,c,d⟩:=h.wd.kd k j;exact⟨g.seqT a,g _ _ b,c,λt F=>(d t F).same g⟩⟩,h.tv.mono λ_ _=>g.seqT,⟨h.md.n0,g _ _ h.md.at0,λm G=>by obtain⟨a,b,c,d⟩:=h.md.md m G;exact⟨g.seqT a,g _ _ b,c,d.mono λ_ _=>g.seqT⟩⟩⟩
theorem Fnd.put(h:Fnd K Ho H p lw lm v ks st ms){u o:HO}(h1:Ho lx=some u)(h2:H lx=some (.lst ys)):Fnd K Ho (upd H lx o) p lw lm v ks st ms:=by
 have ne:∀a,Ho a=none->a≠lx:=λa j z=>by rw [z,h1]at j;cases j
 refine⟨QU h.sq h2,⟨h.wd.n0,by rw [Qi (ne _ h.wd.n0)];exact h.wd.at0,λk G=>?_⟩,h.tv.mono λ_ _ z=>QU z h2,⟨h.md.n0,by rw [Qi (ne _ h.md.n0)];exact h.md.at0,λm J=>?_⟩⟩
 .obtain⟨a,b,c,d⟩:=h.wd.kd k G;exact⟨QU a h2,by rw [Qi (ne _ c)];exact b,c,λt F=>⟨QU (d t F).1 h2,QU (d t F).2 h2⟩⟩
 .obtain⟨a,b,c,d⟩:=h.md.md m J;exact⟨QU a h2,by rw [Qi (ne _ c)];exact b,c,d.mono λ_ _ z=>QU z h2⟩
theorem UC(hT:∃ps,H T=some (.tbl ps))(g:SXT T H H'):Held K H H' T:=by
 obtain⟨ps,hT⟩:=hT;exact⟨g,λ_ _ h=>P1 hT (λ_ z=>nomatch z) (λ_ _ z=>nomatch z) g h,λ_ _ h=>P0 hT (λ_ z=>nomatch z) (λ_ _ z=>nomatch z) g h⟩
theorem SXT.of(g:Same H H'):SXT T H H':=λb u _ e=>g b u e
theorem SXT.same(g:SXT T H H')(s:Same H' H2):SXT T H H2:=λb u n e=>s _ _ (g b u n e)
theorem SXT.trans(g:SXT T H H')(s:SXT T H' H2):SXT T H H2:=λb u n e=>s _ _ n (g b u n e)
theorem SXT.put{o:HO}(g:SXT T H H')(h:H lx=none):SXT T H (upd H' lx o):=λb u n e=>by rw [Qi (Qg e h)];exact g b u n e
end
structure Wd2(ks:List KdT):Prop where
 ex:∃(a1 l1 a2 l2:Addr)(r1 r2:List PNx),ks=[(a1,S [107],l1,r1),(a2,S [107,109],l2,r2)]/\RwOk r1/\RwOk r2
theorem OX:∀z∈SIX,Nm z:=λz hz=>by
 have h1:∀z∈SIX,z≠[]/\z.length<=8/\∀c∈z,c∈QK:=by decide
 obtain⟨a,b,c⟩:=h1 z hz;exact⟨a,b,c⟩
theorem M6:∀z∈KK,Nm z/\z.length<=2:=λz hz=>by
 have h1:∀z∈KK,z≠[]/\z.length<=2/\∀c∈z,c∈QK:=by decide
 obtain⟨a,b,c⟩:=h1 z hz;exact⟨⟨a,by lia,c⟩,b⟩
theorem cdS(u:List Nat):codes (S u)=u:=Q3 u
theorem okS(h:Nm z):PyData.strOk (S z)=true:=Jf (by rw [cdS];exact h)
theorem RwOk.rows{r:List PNx}(h:RwOk r):RowsOk r:=by
 refine⟨h.nd,by have:=h.len;lia,λt j=>?_,λt j x F=>?_,λt j=>(h.kn t j).1⟩
 .obtain⟨z,hz,e⟩:=h.nm t j;rw [e];exact okS (OX z hz)
 .obtain⟨z,hz,e⟩:=(h.kn t j).2 x F;rw [e];exact okS (M6 z hz).1
section
variable(h:Wd2 ks)
include h
theorem Wd2.ok:WoodOk ks:=by
 obtain⟨F,G,J,L,M,U,rfl,h1,h2⟩:=h.ex;refine⟨?_,by simp,λk j=>?_⟩
 .show [S [107],S [107,109]].Nodup
  decide+kernel
 .simp only [aQ,dE,bN]at j;rcases j with rfl | rfl
  .exact h1.rows
  .exact h2.rows
theorem Wd2.str:∀k∈ks,PyData.strOk k.2.1=true:=by
 obtain⟨F,G,J,L,M,U,rfl,h1,h2⟩:=h.ex;intro k j;simp only [aQ,dE,bN]at j;rcases j with rfl | rfl
 .exact okS (M6 _ (22:)).1
 .exact okS (M6 _ (22:)).1
theorem Wd2.k0:∃k0:KdT,ks[0]?=some k0/\k0.2.1=S [107]/\k0∈ks:=by
 obtain⟨j,F,G,J,L,M,rfl,h1,h2⟩:=h.ex;exact⟨_,rfl,rfl,by simp⟩
theorem Wd2.fd{o:Str}(ho:∃z∈KK,o=S z):∃k:KdT,ks.find? (λk=>decide (k.2.1=o))=some k/\RwOk k.2.2.2:=by
 obtain⟨J,L,j,F,M,G,rfl,h1,h2⟩:=h.ex;obtain⟨z,hz,rfl⟩:=ho;simp only [KK,aQ,dE,bN]at hz;rcases hz with rfl | rfl
 .exact⟨_,by rw [cI,aV rfl],h1⟩
 .refine⟨(j,S [107,109],F,G),?_,h2⟩;have:decide (S [107]=S [107,109])=false:=by decide+kernel
  rw [cI,this,cI,aV rfl]
theorem Wd2.own{own:List Str}(hl:own.length<=4)(ho:∀o∈own,∃z∈KK,o=S z):WdK ks own:=by
 have key:∀o∈own,∃k:KdT,ks.find? (λk=>decide (k.2.1=o))=some k/\Qr ks o=k.2.2.2/\RwOk k.2.2.2:=λo j=>by
  obtain⟨k,e,F⟩:=h.fd (ho o j);exact⟨k,e,by unfold Qr;rw [e];rfl,F⟩
 refine⟨⟨hl,λo j=>?_⟩,λo j=>?_,λo j=>?_,λo j r G=>?_⟩
 .obtain⟨k,e,_,F⟩:=key o j;exact⟨k,e,F.len⟩
 .obtain⟨k,_,e,F⟩:=key o j;rw [e];intro z;have:=F.pos;rw [z]at this;exact absurd this (9:)
 .obtain⟨z,hz,rfl⟩:=ho o j;rw [cdS];exact M6 z hz
 .obtain⟨k,_,e,F⟩:=key o j;rw [e]at G;obtain⟨z,hz,e2⟩:=F.nm r G;rw [e2,cdS];exact OX z hz
end
theorem AU(a b:Nat)(hb:b<5)(xs:List V)(e:xs=([S [107],S [107,109],S [107],S [107,109],S [107]]:List Str).map V.str):∃own:List Str,cutV (cutV xs (some (a:Int)) none) none (some (b:Int))=own.map V.str/\own.length<=4/\∀o∈own,∃z∈KK,o=S z:=by
 subst e;rw [W7,L2.cutTo];refine⟨(([S [107],S [107,109],S [107],S [107,109],S [107]]:List Str).drop a).take b,by rw [List.map_take,List.map_drop],by rw [bH];lia,λo j=>?_⟩;have:=iH (cH j);simp only [aQ,dE,bN]at this;rcases this with rfl | rfl | rfl | rfl | rfl
 .exact⟨[107],by simp,rfl⟩
 .exact⟨[107,109],by simp,rfl⟩
 .exact⟨[107],by simp,rfl⟩
 .exact⟨[107,109],by simp,rfl⟩
 .exact⟨[107],by simp,rfl⟩
theorem Sj{α β:Type}(f:α->β):∀{ys:List β}{us:List α},ys.Perm (us.map f)->∃vs:List α,vs.Perm us/\ys=vs.map f:=λ{ys us} h=>by
 generalize hl:us.map f=l at h
 induction h generalizing us with
 | nil=>exact⟨[],by cases us with | nil=>exact .nil | cons a b=>simp at hl,rfl⟩
 | @cons x U Y _ G=>
  cases us with
  | nil=>simp at hl
  | cons u r=>
   rw [aR]at hl;injection hl with h1 h2;obtain⟨vs,hp,e⟩:=G h2;exact⟨u::vs,hp.cons u,by rw [aR,h1,e]⟩
 | swap x y l=>
  match us,hl with
  | a::b::r,hl=>
   rw [aR,aR]at hl;injection hl with h1 h2;injection h2 with h2 J;exact⟨b::a::r,.swap _ _ _,by rw [aR,aR,h1,h2,J]⟩
 | trans _ _ j F=>
  obtain⟨vs,hp,e⟩:=F hl;obtain⟨L,M,e2⟩:=j e.symm;exact⟨L,M.trans hp,e2⟩
theorem NewWd.same{K:Fg}(h:NewWd K Ho H lw ks)(g:Same H H'):NewWd K Ho H' lw ks:=⟨h.n0,g _ _ h.at0,λk j=>by obtain⟨a,b,c,d⟩:=h.kd k j;exact⟨g.seqT a,g _ _ b,c,λt F=>(d t F).same g⟩⟩
theorem JK(ws:List (5:)):3*ws.length<=tot ws:=by unfold tot;lia
theorem Wd2.dW(h:Wd2 ks)(e:dW ks'=dW ks):Wd2 ks':=by
 obtain⟨U,Y,a2,l2,F,G,rfl,h1,h2⟩:=h.ex;have j:ks'.map (λk=>(k.2.1,k.2.2.2))=[(S [107],F),(S [107,109],G)]:=e;have hl:=congrArg List.length j;rw [aA]at hl
 match ks',hl,j with
 | [x,y],_,j=>
  simp only [aR,eW]at j;injection j with e1 e2;injection e2 with e2 _;obtain⟨J,x2,x3,x4⟩:=x;obtain⟨L,y2,M,y4⟩:=y;obtain⟨rfl,rfl⟩:=fH e1;obtain⟨rfl,rfl⟩:=fH e2;exact⟨J,x3,L,M,_,_,rfl,h1,h2⟩
theorem Draw.dW{own:List Str}{is:List It}(h:Draw ks own is)(e:dW ks'=dW ks):Draw ks' own is:=
 ⟨λx j=>by obtain⟨o,r,a,b,c⟩:=h.it x j;exact⟨o,r,a,by rw [Zz e];exact b,c⟩,λk o r a b=>h.all k o r a (by rw [<-Zz e];exact b),h.nd,h.len⟩
theorem TR(e:K12.dW ks'=K12.dW ks)(own:List Str)(is:List It):Zy ks' own is=Zy ks own is:=by
 unfold Zy;refine eP λk _=>?_;rw [Zz e]
theorem O1(e:K12.dW ks'=K12.dW ks)(st:TV)(D:List MdD):tuS ks' st D=tuS ks st D:=by
 have:∀(l:List MdD)(i:Nat),tuR ks' i l=tuR ks i l:=λl=>by
  induction l with
  | nil=>intro i;rw [tuR,tuR]
  | cons m r j=>intro i;rw [tuR,tuR,j,Zz e]
 unfold tuS;rw [this]
theorem ShOk.dW{st:TV}{D:List MdD}(h:ShOk ks st D)(e:K12.dW ks'=K12.dW ks):ShOk ks' st D:=
 ⟨h.st,h.len,h.kl,λm j=>by rw [Zz e];exact h.ln m j,h.tm,λm j=>by rw [Zz e];exact h.nl m j⟩
def Mj(K:Fg)(T:Addr):Sp:=λvs H Q _=>∃(a:Addr)(ns:List Int),vs=[.ref a]/\SqL K H a (ns.map V.int)/\ns.length<=63/\H T=some (.tbl #[])/\∀H',Q (.bl true) H'
section
variable{K:Fg}{fd:FuncData}
theorem ZI:FnScope ["_law_script","_law_wood","_law_own","_law_names_here","_law_start","_law_terms","_law_due_here","_law_handed","_law_full","_law_row","_law_k","_law_name","_law_term_here","_law_found","_law_part","_law_again"] ["_law_script"] (defScope V1):=(0:)
theorem AN(F:Fun K "law" "law" V1 f fd)(G:Gm mg)(RC:Fn P w K mg base 1 "_law_cell_at" ["_law_script","_law_k"] (XB K))(RR:Fn P w K mg base 2 "_law_rows" ["_law_script","_law_start","_law_kinds","_law_names_here"] (Vw K))(RN:Fn P w K mg base 1 "_law_names" ["_law_cell","_law_where","_law_lots"] (VN K))
 (RD:Fn P w K mg base 3 "_law_drawn" ["_law_script","_law_wood","_law_own"] (WG K)) (RA:Fn P w K mg base 1 "_law_turned_about" ["_law_terms","_law_cell"] (VM K)) (RU:Fn P w K mg base 6 "_law_due" ["_law_wood","_law_own","_law_start","_law_terms"] (OC K)) (RW:Fn P w K mg base 5 "_law_words" ["_law_term_here","_law_names_here","_law_full"] (Lf K 4))
 (RJ:Fn P w K mg base 1 "_law_joined" ["_law_row","_law_blanks"] (JQ K)) (RX:Fn P w K mg base 6 "_law_text" ["_law_due_here"] (GZ K)) (RS:Fn P w K mg base 12 "show_turning" ["turning"] (Pd K)) (RT:Fn P w K mg base 33 "read_turning" ["wood","text"] (W6 K T)):FnOk P w K mg base CX0 34 f fd ["_law_script"] (Mj K T):=by
 refine F.ok ZI (λM H Q E h=>?_) (λhe A i6 s H M Q E hr h=>?_)
 .obtain⟨a,ns,rfl,_⟩:=h
  rfl
 obtain⟨a,ns,rfl,hS,hf,hT,q⟩:=h;have bu:∀n:Nat,n<=100->(A.deeper (PyProof.Rows.envOfC "law" (defScope V1) s.heap.objs.size f he)).units+n<cLine:=λn hn=>by have:=hr.un;lia
 refine WS.read (Q5 (Yr (i:=1) ZI.nd rfl (7:) (Uy (Qx ((As (Qx (w_e Qj) (Qx (w_e (Qs RR hr (WA.h (Qx (w_e (pv 0)) (Qx (w_e Qf) (Qx (Uy (Qx (w_e Qj) (Qx (w_e Qj) ZQ))) (Qx (Uy (Qx (w_e Qj) (Qx (w_e Qj) (Qx (w_e Qj) (Qx (w_e Qj) (Qx (w_e Qj) (Qx (w_e Qj) ZQ))))))) ZQ))))))) ZQ)))) ZQ)))
  (Q5 (Yr (i:=1) ZI.nd rfl (7:) (Xi Y0 (w_e (pv 1)) (Uy (Qx ((As (Qx (w_e Qj) (Qx (w_e (Qs RR hr (WA.h (Qx (w_e (pv 0)) (Qx (w_e Qf) (Qx (Uy (Qx (w_e Qj) (Qx (w_e Qj) ZQ))) (Qx (Uy (Qx (w_e Qj) (Qx (w_e Qj) (Qx (w_e Qj) (Qx (w_e Qj) (Qx (w_e Qj) (Qx (w_e Qj) ZQ))))))) ZQ))))))) ZQ)))) ZQ))))
  (Q5 (Yr (i:=2) ZI.nd rfl (7:) (w_e (Zo YF (Zo YF (WE.h (Uy (Qx (w_e Qj) (Qx (w_e Qj) (Qx (w_e Qj) (Qx (w_e Qj) (Qx (w_e Qj) ZQ))))))) (Za (Ql QP (Qs RC hr (Qa (pv 0) (Qa (Qf) Qc))) Qf)) Zv) Zv (Za (Ql QP (Ql Zu (Qs RC hr (Qa (pv 0) (Qa (Qf) Qc))) Qf) Qf)))))
  (Q5 (Yr (i:=3) ZI.nd rfl (7:) (w_e (Qs RN hr (Qa (Qs RC hr (Qa (pv 0) (Qa (Qf) Qc))) (Qa (Qs RC hr (Qa (pv 0) (Qa (Qf) Qc))) (Qa (Qf) Qc))))))
  (Q5 (Ju (OF (Qs RD hr (Qa (pv 0) (Qa (pv 1) (Qa (pv 2) Qc)))) (Yc rfl (QG (Qz (i:=4) ZI.nd rfl (7:)) (QG (Qz (i:=5) ZI.nd rfl (7:)) ZJ)))))
  (Q5 (Yr (i:=5) ZI.nd rfl (7:) (w_e (Qs RA hr (Qa (pv 5) (Qa (Qs RC hr (Qa (pv 0) (Qa (Qf) Qc))) Qc)))))
  (Q5 (Yr (i:=6) ZI.nd rfl (7:) (w_e (Qs RU hr (Qa (pv 1) (Qa (pv 2) (Qa (pv 4) (Qa (pv 5) Qc)))))))
  (Q5 (Ju (WY (i:=7) (CompG.many (xs:=["_law_kind","_law_rows_here"]) (caps:=[]) (cap:=[]) (cs:=[]) rfl rfl (1:) (1:) (1:) (1:) (1:) (1:) rfl rfl rfl) rfl (QZ (pv 1)) (Ji (CompG.many (xs:=["_law_kind","_law_rows_here"]) (caps:=[]) (cap:=[]) (cs:=[]) rfl rfl (1:) (1:) (1:) (1:) (1:) (1:) rfl rfl rfl) rfl) (λ_ _ _ _=>Zg) (λ_ _ _ _=>(QF (Qa (pv 0) (Qa (QE (r:=Mc K) UE rfl G.lst PyProof.Rows.boot_list (Qa (pv 1) Qc)) Qc)))) ZI.nd rfl rfl))
  (Q5 (Yr (i:=8) ZI.nd rfl (7:) (w_e (Z0 Zw (Ql QP (Qs RC hr (Qa (pv 0) (Qa (Qf) Qc))) Qf) Qf (QB _))))
  (Q5 (Yr (i:=9) ZI.nd rfl (7:) (w_e (Qs RW hr (Qa (pv 4) (Qa (pv 3) (Qa (pv 8) Qc))))))
  (Q5 (W9 rfl (QZ (pv 5)) (Yc rfl (QG (Qz (i:=10) ZI.nd rfl (7:)) (QG (Qz (i:=11) ZI.nd rfl (7:)) (QG (Qz (i:=12) ZI.nd rfl (7:)) ZJ)))) (Wk (Yr (i:=9) ZI.nd rfl (7:) (Xi Y0 (Xi Y0 (w_e (pv 9)) (Uy (Qx (w_e Qj) (Qx (w_e (Qk QD (pv 3) (pv 10) (λ_ _=>rfl))) (Qx (w_e (Qk QD (pv 2) (pv 10) (λ_ _=>rfl))) (Qx (w_e (pv 11)) (Qx (w_e Qj) ZQ))))))) (w_e (Qs RW hr (Qa (pv 12) (Qa (pv 3) (Qa (pv 8) Qc)))))))))
  (Q5 (Yr (i:=13) ZI.nd rfl (7:) (w_e (Qs RT hr (Qa (pv 7) (Qa (Qs RJ hr (Qa (pv 9) (Qa (Qk QD (WE.h (Uy (Qx (w_e Qf) (Qx (w_e Qf) (Qx (w_e Qf) (Qx (w_e Qf) ZQ)))))) (Ql QP (Qs RC hr (Qa (pv 0) (Qa (Qf) Qc))) Qf) (λ_ _=>rfl)) Qc))) Qc)))))
  (Q5 (Ju (QC (PW.pt (pw_or (Qu XA (pv 7) (pv 1) (QB _)) (pw_or (Ya (Q8 (Qv Wc rfl G.isi iO (Qa (pv 13) (Qa (Vu (v:=.ty "tuple") rfl G.tup fY rfl) Qc))))) (pw_or1 (Qu XA (pv 13) (pv 6) (QB _)))))) (Qh (Qn Yq)) Qt))
  (Q5 (W9 rfl (QZ (Q0 (Qa (Qk Qp (pv 13) Qf (λ_ _=>rfl)) (Qa (Qk Qp (pv 13) Qf (λ_ _=>rfl)) Qc)))) (Qz (i:=14) ZI.nd rfl (7:)) (Wk (Ju (QC (Ya (Q8 (Qv Wc rfl G.isi iO (Qa (pv 14) (Qa (Vu (v:=.ty "list") rfl G.lst PyProof.Rows.boot_list rfl) Qc))))) (Qh (Qn Yq)) Qt))))
  (Q5 (Ju (QS (Zi bY cE cF QM (Qk Qp (Qk QD (pv 7) Qf (λ_ _=>rfl)) Qf (λ_ _=>rfl)) (Qa ((QF (Qa (Qj) (Qa (QF Qc) Qc)))) Qc))))
  (Q5 (Ju (QC (PW.pt (pw_or (Qu XA (pv 13) (pv 6) (QB _)) (pw_or1 (Qu Jq (Qs RS hr (Qa (pv 13) Qc)) (Qs RX hr (Qa (pv 6) Qc)) (QB _))))) (Qh (Qn Yq)) Qt))
  (Q5 (Yr (i:=15) ZI.nd rfl (7:) (w_e (Qs RT hr (Qa (pv 1) (Qa (Qs RX hr (Qa (pv 6) Qc)) Qc)))))
  (Q5 (Ju (QS (Se bY PySem.F.slot_list_clear PySem.F.type_list_clear Rg (Qk Qp (pv 13) Qf (λ_ _=>rfl)))))
  (Q5 (Ju (QS (Zi bY cE cF QM (Qk Qp (pv 13) Qf (λ_ _=>rfl)) (Qa ((QF (Qa (Qj) (Qa (Q0 Qc) Qc)))) Qc))))
  (Wk (Ju (Qn (VR (Z0 PU (pv 15) (pv 6) (QB _)) (J9 (Z0 Zw (Qs RS hr (Qa (pv 15) Qc)) (Qs RX hr (Qa (pv 6) Qc)) (QB _)))))))))))))))))))))))))) ?_
 refine L2.let19 ?_
 intros
 have ek:Str.ofString "k"=S [107]:=by decide+kernel
 have de:Str.ofString "km"=S [107,109]:=by decide+kernel
 have e6:W KK=([.str (Str.ofString "k"),.str (Str.ofString "km")]:List V):=by rw [ek,de];rfl
 have e7:W SIX=([.str (Str.ofString "a"),.str (Str.ofString "ab"),.str (Str.ofString "b"),.str (Str.ofString "ba"),.str (Str.ofString "c"),.str (Str.ofString "abcdefgh")]:List V):=by
  rw [show Str.ofString "a"=S [97]by decide+kernel,show Str.ofString "ab"=S [97,98]by decide+kernel,show Str.ofString "b"=S [98]by decide+kernel,show Str.ofString "ba"=S [98,97]by decide+kernel,show Str.ofString "c"=S [99]by decide+kernel,show Str.ofString "abcdefgh"=S [97,98,99,100,101,102,103,104]by decide+kernel];rfl
 refine⟨_,rfl,(18:),λk1 e8=>?_⟩;generalize J:upd H k1 _=X1;have s1:Same H X1:=by rw [<-J];exact Qe e8 _
 have b1:X1 k1=some (.lst (W KK)):=by rw [<-J,e6];exact Qb
 clear J;refine⟨(by show 6<=sizeLine;decide),λn1 e9=>?_⟩;generalize J:upd X1 n1 _=X2;have s2:Same X1 X2:=by rw [<-J];exact Qe e9 _
 have b2:X2 n1=some (.lst (W SIX)):=by rw [<-J,e7];exact Qb
 clear J;refine⟨a,k1,n1,ns,0,rfl,(s1.trans s2).seq hS,SqL.of (s2 _ _ b1),SqL.of b2,by decide,λr1 X3 am s3 _ fa cp df=>?_⟩;refine⟨(18:),λt1 fb=>?_⟩;generalize J:upd X3 t1 _=X4;have s4:Same X3 X4:=by rw [<-J];exact Qe fb _
 have b4:X4 t1=some (.tup [.str (S [107]),.ref r1]):=by rw [<-J,<-ek];exact Qb
 clear J;refine⟨(by show 1<=sizeLine;decide),λl1 a0=>?_⟩;generalize J:upd X4 l1 _=X5;have s5:Same X4 X5:=by rw [<-J];exact Qe a0 _
 have b5:X5 l1=some (.lst [.ref t1]):=by rw [<-J];exact Qb
 clear J;have g5:Same H X5:=s1.trans (s2.trans (s3.trans (s4.trans s5)));have bz:∀t∈am,RowAt K X5 t:=λt ht=>(cp t ht).same (s4.trans s5);have dg:=s5 _ _ (s4 _ _ fa);have fc:=s5 _ _ b4;clear b1 b2 b4 cp fa e8 e9 fb a0 s1 s2 s3 s4 s5;refine⟨_,rfl,_,rfl,(18:),λk2 fe=>?_⟩;generalize J:upd X5 k2 _=X6;have s6:Same X5 X6:=by rw [<-J];exact Qe fe _
 have b6:X6 k2=some (.lst (W KK)):=by rw [<-J,e6];exact Qb
 clear J;refine⟨(by show 6<=sizeLine;decide),λn2 ff=>?_⟩;generalize J:upd X6 n2 _=X7;have s7:Same X6 X7:=by rw [<-J];exact Qe ff _
 have b7:X7 n2=some (.lst (W SIX)):=by rw [<-J,e7];exact Qb
 clear J;refine⟨a,k2,n2,ns,4,rfl,(g5.trans (s6.trans s7)).seq hS,SqL.of (s7 _ _ b6),SqL.of b7,by decide,λr2 X8 aw s8 _ fg cq dh=>?_⟩;refine⟨(18:),λt2 fh=>?_⟩;generalize J:upd X8 t2 _=X9;have s9:Same X8 X9:=by rw [<-J];exact Qe fh _
 have b9:X9 t2=some (.tup [.str (S [107,109]),.ref r2]):=by rw [<-J,<-de];exact Qb
 clear J;refine⟨(by show 1<=sizeLine;decide),λl2 fi=>?_⟩;generalize J:upd X9 l2 _=b0;have an:Same X9 b0:=by rw [<-J];exact Qe fi _
 have fj:b0 l2=some (.lst [.ref t2]):=by rw [<-J];exact Qb
 clear J;have cd:Same X5 b0:=s6.trans (s7.trans (s8.trans (s9.trans an)));refine⟨l1,l2,_,_,rfl,rfl,SqL.of (cd _ _ b5),SqL.of fj,(18:),λlw fk=>?_⟩;generalize J:upd b0 lw _=b3;have ao:Same b0 b3:=by rw [<-J];exact Qe fk _
 have fl:b3 lw=some (.lst [.ref t1,.ref t2]):=by rw [<-J];exact Qb
 clear J;have a7:=cd.trans ao;have cr:=g5.trans a7;have hW:WoodAt K b3 lw [(t1,S [107],r1,am),(t2,S [107,109],r2,aw)]:=by
  refine⟨SqL.of fl,λk hk=>?_⟩;simp only [aQ,dE,bN]at hk;rcases hk with rfl | rfl
  .exact⟨SqT.of (a7 _ _ fc),SqL.of (a7 _ _ dg),λt ht=>(bz t ht).same a7⟩
  .exact⟨SqT.of (ao _ _ (an _ _ b9)),SqL.of (ao _ _ (an _ _ (s9 _ _ fg))),λt ht=>(cq t ht).same (s9.trans (an.trans ao))⟩
 have aq:Wd2 [(t1,S [107],r1,am),(t2,S [107,109],r2,aw)]:=⟨t1,r1,t2,r2,am,aw,rfl,df,dh⟩;generalize [(t1,S [107],r1,am),(t2,S [107,109],r2,aw)]=ks at hW aq;have hO:=aq.ok;clear b5 b6 b7 b9 fj fl fc dg bz fg cq df dh fe ff fh fi fk s6 s7 s8 s9 an ao g5 cd a7;refine⟨(by show 5<=sizeLine;decide),λlq fm=>?_⟩;have hg:([.str (Str.ofString "k"),.str (Str.ofString "km"),.str (Str.ofString "k"),.str (Str.ofString "km"),.str (Str.ofString "k")]:List V)=([S [107],S [107,109],S [107],S [107,109],S [107]]:List Str).map V.str:=by rw [ek,de];rfl
 generalize J:upd b3 lq _=ct;have as:Same b3 ct:=by rw [<-J];exact Qe fm _
 have fo:ct lq=some (.lst (([S [107],S [107,109],S [107],S [107,109],S [107]]:List Str).map V.str)):=by rw [<-J,<-hg];exact Qb
 clear J;refine⟨_,rfl,a,ns,8,rfl,(cr.trans as).seq hS,λc8=>⟨_,_,rfl,rfl,(by show(0:Int)<2;decide),_,rfl,lq,_,rfl,SqL.of fo,λdi dj=>?_⟩⟩;obtain⟨na,fq⟩: ∃na:Nat,c8%2=(na:Int):=⟨_,(eQ (cA _ (9:))).symm⟩;rw [fq];generalize J:upd ct di _=cu;have dk:Same ct cu:=by rw [<-J];exact Qe dj _
 have fr:cu di=some (.lst (cutV (([S [107],S [107,109],S [107],S [107,109],S [107]]:List Str).map V.str) (some (na:Int)) none)):=by rw [<-J];exact Qb
 clear J;refine⟨_,rfl,a,ns,8,rfl,(cr.trans (as.trans dk)).seq hS,λc9=>⟨_,_,rfl,rfl,⟨by decide,by decide⟩,_,_,rfl,rfl,(by show(0:Int)<5;decide),_,rfl,di,_,rfl,SqL.of fr,λlo ft=>?_⟩⟩;obtain⟨nb,fu,gw⟩: ∃nb:Nat,c9/2%5=(nb:Int)/\nb<5:=by
  have y0:0<=c9/2%5:=cA _ (9:);have y1:c9/2%5<5:=cL _ (9:);exact⟨_,(eQ y0).symm,by lia⟩
 rw [fu];obtain⟨own,dl,cv,cw⟩:=AU na nb gw _ rfl;generalize J:upd cu lo _=fw;have fx:Same cu fw:=by rw [<-J];exact Qe ft _
 have dm:fw lo=some (.lst (own.map V.str)):=by rw [<-J,<-dl];exact Qb
 clear J;have hK:=aq.own cv cw;have bv:=as.trans (dk.trans fx);have cx:=cr.trans bv;have ce:=hW.same bv;clear hW fo fr as dk fx fm dj ft fq fu dl bv;refine⟨_,rfl,a,ns,9,rfl,cx.seq hS,λbf=>⟨_,rfl,a,ns,10,rfl,cx.seq hS,λbg=>⟨bf,bg,6,rfl,by decide,λln jc zs a8 fy _ ai aj bh=>?_⟩⟩⟩;have dn:=cx.trans a8;refine⟨_,rfl,_,rfl,_,rfl,a,lw,lo,ns,ks,own,rfl,dn.seq hS,hf,ce.same a8,hO,SqL.of (a8 _ _ dm),hK.ok,λdp lt v jd st zz bi fz hv ad _ f0 f7 hD=>?_⟩;refine⟨_,_,rfl,fz,rfl,_,_,rfl,_,_,rfl,rfl,?_⟩;have dq:=dn.trans bi;have i7:zz.length<=12:=by have:=hD.len;rw [aA]at this;exact this
 refine⟨_,rfl,_,rfl,a,ns,11,rfl,dq.seq hS,λbj=>⟨lt,bj,_,rfl,SqL.of f0,(by rw [aA];lia),λlu f8 ys bm _ dr cy=>?_⟩⟩;obtain⟨M,f9,rfl⟩:=Sj (λx:V×It=>x.1) cy;have a9:Draw ks own (M.map λx=>x.2):=hD.perm (f9.map _);have cf:∀x∈M,ItV K f8 x:=λx hx=>(f7 x (f9.mem_iff.mp hx)).mono λ_ _=>bm.seqT;have ga:=dq.trans bm;have bw:=a8.trans (bi.trans bm);have cg:TvV K f8 v st:=hv.mono λ_ _=>bm.seqT;have bx:=ce.same bw;have dt:=bw _ _ dm;have cz:=bm _ _ (bi _ _ fy);clear cy hD f7 f0 fz hv ce dm fy a8 bi bm bw cx dn dq cr;refine⟨_,rfl,_,rfl,_,rfl,_,rfl,lw,lo,lu,v,ks,own,st,M,rfl,bx,hO,SqL.of dt,hK.ok,hK.ne,cg,ad,SqL.of dr,cf,a9,λdp c0 dv B ca ae q1 q2 q3 q4=>?_⟩;have du:=ga.trans ae;have gb:B T=some (.tbl #[]):=du _ _ hT;have ab:TuV K B dp lw c0 dv ks _ ca:=⟨q1,bx.same ae,q2,q3⟩;have gc:=du.seq hS;have dw:=bx.same ae;have bB:=ae _ _ dt;have ch:=ae _ _ cz;have dy:=ae _ _ dr;have hh:TvV K B v st:=cg.mono λ_ _=>ae.seqT;have ho:∀x∈M,ItV K B x:=λx hx=>(cf x hx).mono λ_ _=>ae.seqT;have vl:(M.map λx=>x.1).length=M.length:=aA ..;have il:(M.map λx=>x.2).length=M.length:=aA ..;generalize hq:(M.map λx=>x.2)=is at a9 q4 il ab;have ge:∀(i:Nat)(h:i<M.length),is[i]?=some M[i].2:=λi h=>by rw [<-hq,aM,aE h];rfl
 clear q1 q2 q3 bx dt cz dr cg cf ae ga du hS;have hs:(ks.map λk=>V.ref k.1).length=ks.length:=aA ..;have i8:=hO.len;refine⟨_,rfl,lw,rfl,⟨_,dw.1⟩,λacc ci=>?_⟩;refine UQ (K:=K) (xs:=ks.map λt=>V.ref t.1) (cs:=[]) (tt:=λ_ H Q=>Q true H) (λj ys H'=>∃bn:List KdT,ys=bn.map (λk=>V.ref k.1)/\dW bn=dW (ks.take j)/\H' acc=some (.lst ys)/\Same B H'/\∀k∈bn,SqT K H' k.1 [.str k.2.1,.ref k.2.2.1]/\H' k.2.2.1=some (.lst (k.2.2.2.map λt=>V.ref t.1))/\B k.2.2.1=none/\k.2.2.1≠acc/\∀t∈k.2.2.2,RowAt K H' t)
  ⟨[],rfl,rfl,Qb,Qe ci _,λk hk=>(nomatch hk)⟩ ?_ ?_ ?_
 .rintro j ys H' _ ⟨_,_,_,_,g,_⟩;exact g.seq dw.1
 .rintro j x ys H' hj hx ⟨bn,rfl,hd,hy,g,hA⟩;rw [aA]at hj;obtain rfl:x=.ref ks[j].1:=by
   rw [aM,aE hj]at hx;exact(aK hx).symm
  obtain⟨k1,k2⟩:=dw.2 ks[j] (aO hj);refine⟨_,_,_,rfl,g.seqT k1,Q2 ⟨_,rfl,_,rfl,ks[j].2.2.1,_,rfl,.inl (g.seq k2.1),λl1 a0=>⟨(18:),λp hp=>?_⟩⟩⟩;have s1:=Qe a0 (.lst (ks[j].2.2.2.map λt=>V.ref t.1));have b1:upd H' l1 (.lst (ks[j].2.2.2.map λt=>V.ref t.1)) l1=some (.lst (ks[j].2.2.2.map λt=>V.ref t.1)):=Qb;generalize upd H' l1 (.lst (ks[j].2.2.2.map λt=>V.ref t.1))=X1 at s1 b1 hp ⊢;have s2:=Qe hp (.tup [.str ks[j].2.1,.ref l1]);have b2:upd X1 p (.tup [.str ks[j].2.1,.ref l1]) p=some (.tup [.str ks[j].2.1,.ref l1]):=Qb;generalize upd X1 p (.tup [.str ks[j].2.1,.ref l1])=X2 at s2 b2 ⊢;have au:=s1.trans s2;have i9:bn.length=j:=by
   have:=congrArg List.length hd;unfold dW at this;rw [aA,aA,bH]at this;lia
  have nl:l1≠acc:=λz=>by rw [z,hy]at a0;cases a0
  have nH:B l1=none:=g.free a0;have ba:=au _ _ hy;rw [aA];refine QI hj ba (by rw [aA];lia) ⟨bn++[(p,ks[j].2.1,l1,ks[j].2.2.2)],by simp,?_,Qb,λb u e=>?_,λk hk=>?_⟩
  .unfold dW at hd ⊢;rw [aS,hd,bE,aE hj,cV,aS];rfl
  .rw [Qi (Qg e ci)];exact au _ _ (g _ _ e)
  .rcases aW.mp hk with hk | hk
   .obtain⟨a1,a2,a3,a4,a5⟩:=hA k hk;exact⟨QU (au.seqT a1) ba,by rw [Qi a4];exact au _ _ a2,a3,a4,λt ht=>⟨QU (au.seqT (a5 t ht).1) ba,QU (au.seqT (a5 t ht).2) ba⟩⟩
   .obtain rfl:=bD.mp hk;exact⟨QU (SqT.of b2) ba,by rw [Qi nl];exact s2 _ _ b1,nH,nl,λt ht=>⟨QU ((g.trans au).seqT (k2.2 t ht).1) ba,QU ((g.trans au).seqT (k2.2 t ht).2) ba⟩⟩
 rintro ys H1 ⟨c1,rfl,bo,gf,g1,hA⟩;rw [hs,bP]at bo;have hH:NewWd K B H1 acc c1:=⟨ci,gf,λk hk=>⟨(hA k hk).1,(hA k hk).2.1,(hA k hk).2.2.1,(hA k hk).2.2.2.2⟩⟩;clear hA gf;generalize acc=hw at hH ⊢;have dz:=aq.dW bo;have ac:=dz.ok;have ak:=dz.own cv cw;have aa:=a9.dW bo;obtain⟨k0,d0,hu,_⟩:=dz.k0;have Y:=WX hO a9 hK ad;have bb:=Tv hO a9 hK ad;have d1:=Sm hO a9 hK ad;generalize gx:mpV (ZF (Zh is)) st=U at Y bb d1 ab;refine⟨_,rfl,a,ns,12,rfl,g1.seq gc,λh0=>⟨_,_,rfl,rfl,(by show(0:Int)<2;decide),rfl,?_⟩⟩;generalize decide (V.int (h0%2)=V.int 0)=L;obtain⟨w1,w2,w3,w4,w5⟩:=On ac aa ak ai aj bh L ad;obtain⟨v1,_,_⟩:=YQ ac aa ak ai aj bh L is λx hx=>hx;have wl:=JK (wkF L zs st);have wt:=ad.tw L zs λz hz=>(bh z hz).len;refine⟨_,rfl,_,rfl,_,rfl,v,ln,L,st,zs,rfl,hh.mono λ_ _=>g1.seqT,ad.lv,ad.gd,w5,SqL.of (g1 _ _ ch),by lia,λlr H2 s2 _ h5=>?_⟩;have g2:=g1.trans s2;refine⟨_,rfl,lu,rfl,⟨_,SqL.of (g2 _ _ dy)⟩,?_⟩;have h6:Str.ofString ";"=S [59]:=by decide+kernel
 have h7:Str.ofString ":"=S [58]:=by decide+kernel
 rw [h6,h7];refine Zn (K:=K) (xs:=M.map λx=>x.1) (λi σ H'=>∃(la:Addr)(bf bg bj:Option V),σ=[some (.ref a),some (.ref lw),some (.ref lo),some (.ref ln),some v,some (.ref lu),some (.ref dp),some (.ref hw),some (.bl L),some (.ref la),bf,bg,bj,none,none,none]/\Same H2 H'/\SqL K H' la (W (wkF L zs st++(is.take i).flatMap (wkI L zs own))))
  ⟨lr,none,none,none,rfl,Same.refl _,by rw [List.take_zero,List.flatMap_nil,cC];exact SqL.of h5⟩ ?_ ?_ ?_
 .rintro i σ H' _ ⟨_,_,_,_,_,g,_⟩;exact(g2.trans g).seq (SqL.of dy)
 .rintro i x σ H3 hx ⟨la,bf,bg,bj,rfl,g3,c2⟩;have hi:i<M.length:=by have:=(bT.mp hx).1;rw [vl]at this;exact this
  obtain rfl:x=M[i].1:=by
   rw [aM,aE hi]at hx;exact(aK hx).symm
  obtain⟨ra,rv,er,r1,r2⟩:=ho _ (aO hi);rw [er];have d2:M[i].2∈is:=bC (ge i hi);obtain⟨_,y2,y3⟩:=Gr ac aa ak ai aj bh L d2;obtain⟨i1,i2⟩:=GE ac aa ak ai aj d2;obtain⟨o',je,_,_,_,d3⟩:=aa.it _ d2;have bp:=g2.trans g3;have h8:is.take (i+1)=is.take i++[M[i].2]:=by rw [bE,ge i hi];rfl
  have gy:atI (W zs) (M[i].2.k:Int)=some (.str (S (zat zs M[i].2.k))):=QL (by unfold W;rw [aM,aE i2,Uo i2];rfl);have gz:atI (own.map V.str) (M[i].2.k:Int)=some (.str (Zk own M[i].2.k)):=QL (by rw [aM,aE i1,ZV i1];rfl);have gg:(W (wkF L zs st++(is.take i).flatMap (wkI L zs own))).length<=5000:=by
   have h1:=(YQ ac aa ak ai aj bh L (is.take i) λx hx=>cH hx).2.2;have h2:=JK (wkF L zs st++(is.take i).flatMap (wkI L zs own));rw [ZA]at h2;have h3:=aa.len;rw [bH]at h1;unfold W;rw [aA];lia
  have wi:=JK (wkI L zs own M[i].2);have jf:(wkF L zs M[i].2.t).length<=300:=by
   have:(wkI L zs own M[i].2).length=(wkF L zs M[i].2.t).length+5:=by unfold wkI;simp only [aJ]
   lia
  have jg:=d3.lv;refine⟨_,_,rfl,bp.seqT r1,rfl,_,_,rfl,_,_,rfl,_,_,rfl,rfl,?_⟩;refine⟨_,rfl,_,rfl,_,rfl,ln,_,_,_,rfl,rfl,SqL.of (bp _ _ ch),gy,_,rfl,_,rfl,lo,_,_,_,rfl,rfl,SqL.of (bp _ _ bB),gz,_,rfl,(by show 5<=sizeLine;decide),λl5 h9=>?_⟩;generalize J:upd H3 l5 _=H4;have s4:Same H3 H4:=by rw [<-J];exact Qe h9 _
  have b4:H4 l5=some (.lst [.str (S [59]),.str (S (zat zs M[i].2.k)),.str (Zk own M[i].2.k),.str M[i].2.n,.str (S [58])]):=by rw [<-J];exact Qb
  clear J;refine⟨la,l5,_,_,rfl,rfl,s4.seq c2,SqL.of b4,QA (by simp only [aJ,b'];have h3:=aa.len;have:=JK (wkF L zs st++(is.take i).flatMap (wkI L zs own));have h1:=(YQ ac aa ak ai aj bh L (is.take i) λx hx=>cH hx).2.2;rw [ZA]at this;rw [bH]at h1;unfold W;rw [aA];lia),λl6 ia=>?_⟩;generalize J:upd H4 l6 _=H5;have s5:Same H4 H5:=by rw [<-J];exact Qe ia _
  have b5:H5 l6=some (.lst (W (wkF L zs st++(is.take i).flatMap (wkI L zs own))++[.str (S [59]),.str (S (zat zs M[i].2.k)),.str (Zk own M[i].2.k),.str M[i].2.n,.str (S [58])])):=by rw [<-J];exact Qb
  clear J;have gh:=s4.trans s5;have gi:=bp.trans gh;refine⟨_,rfl,_,rfl,_,rfl,rv,ln,L,M[i].2.t,zs,rfl,r2.mono λ_ _=>gi.seqT,by lia,d3.gd,VL ac aa ak ai aj d3.fit,SqL.of (gi _ _ ch),by lia,λl7 H6 s6 _ ib=>?_⟩;refine⟨l6,l7,_,_,rfl,rfl,SqL.of (s6 _ _ b5),SqL.of ib,YN (by unfold W at gg ⊢;simp only [aI,aA,aJ,b']at gg ⊢;lia),λl8 ic=>?_⟩;have s7:=Qe ic (.lst ((W (wkF L zs st++(is.take i).flatMap (wkI L zs own))++[.str (S [59]),.str (S (zat zs M[i].2.k)),.str (Zk own M[i].2.k),.str M[i].2.n,.str (S [58])])++W (wkF L zs M[i].2.t)));refine⟨l8,_,_,_,rfl,g3.trans (gh.trans (s6.trans s7)),?_⟩;have e:W (wkF L zs st++(is.take (i+1)).flatMap (wkI L zs own))=(W (wkF L zs st++(is.take i).flatMap (wkI L zs own))++[.str (S [59]),.str (S (zat zs M[i].2.k)),.str (Zk own M[i].2.k),.str M[i].2.n,.str (S [58])])++W (wkF L zs M[i].2.t):=by
   rw [h8,List.flatMap_append,dB,List.flatMap_nil,cC];unfold W wkI;simp only [aS,aR,eW,QN,bO,dY,hJ]
  rw [e];exact SqL.of Qb
 rintro σ H3 ⟨la,bf,bg,bj,rfl,g3,c2⟩;rw [vl,<-il,bP]at c2;have bp:=g2.trans g3;refine⟨_,rfl,_,rfl,(by show 4<=sizeLine;decide),λl4 ie=>?_⟩;generalize J:upd H3 l4 _=H4;have s4:Same H3 H4:=by rw [<-J];exact Qe ie _
 have b4:H4 l4=some (.lst [.int 0,.int 1,.int 2,.int 0]):=by rw [<-J];exact Qb
 clear J;have cb:=bp.trans s4;refine⟨_,rfl,a,ns,13,rfl,cb.seq gc,λc3=>⟨_,_,rfl,rfl,(by show(0:Int)<4;decide),JF b4 rfl (22:) λvb gj=>?_⟩⟩;obtain⟨nb,rfl,g0⟩: ∃nb:Nat,vb=.int (nb:Int)/\nb<=3:=by
  simp only [aQ,dE,bN]at gj;rcases gj with rfl | rfl | rfl | rfl
  .exact⟨0,rfl,by decide⟩
  .exact⟨1,rfl,by decide⟩
  .exact⟨2,rfl,by decide⟩
  .exact⟨0,rfl,by decide⟩
 refine⟨la,_,nb,rfl,s4.seq c2,w3.wj,w3.nn.get,by lia,g0,λz hz jh=>?_⟩;have d4:=hH.same (s2.trans (g3.trans s4));have d5:=cb _ _ gb;refine⟨hw,z,_,wkF L zs st,is.flatMap (wkI L zs own),nmF zs st,is.map (toR zs own),c1,k0,kdZ zs own,rfl,by lia,hz,rfl,w1,w2,v1,d4.wood,ac,d0,by rw [hu];exact BK ac aa ak ai aj ad,.inl d5,λfp af ag fv c4 c5 H5 x5 f1 f2 f3 f4 f5 f6 z5=>?_⟩;rw [Va ac aa ak ai aj ad.gd ad.fit,gx]at f4;rw [Oh ac aa ak ai aj,TR bo]at f6;have bq:Fnd K H4 H5 fp af ag fv c4 U c5:=⟨f1,f2,f4,f5⟩;have c6:dW c4=dW ks:=f3.trans bo;have ig:=(aq.dW c6).ok;obtain⟨g4,g6,g7,_⟩:=aq.k0;have c7:=Y.md;have bc:∀m∈Zy ks own is,∀t∈m.2,gdV t:=λm hm t ht=>((c7 m hm).gd t ht).1;obtain⟨al,ih⟩:=AJ hO aq.str Y.sg Y.stl Y.md;obtain⟨cj,ja⟩:=PP hO aq.str;obtain⟨gk,gm⟩:=BZ hO Y;have gn:=JD Y;have h4:=hK.ok.1;have ji:=a9.olen;have ii:(Zy ks own is).length<=600:=by rw [UA];lia
 generalize jj:Zy ks own is=D at q4 f6 bc al ih gk gm gn ii c7 Y bb d1;have eF:tuD c4 U (dM c5)=tuD ks U D:=by unfold tuD;rw [c6,f6]
 have eD:tuD ks U (dM ca)=tuD ks U D:=by rw [q4]
 have gp:SXT T B H5:=(SXT.of cb).trans x5;have tB:∃ps,B T=some (.tbl ps):=⟨_,gb⟩;have d6:Held K H4 H5 T:=UC ⟨_,d5⟩ x5;have ck:=ab.held (UC tB gp);have d7:=d6.wood d4.wood;have cm:=O5 d7;rw [bo]at cm;have d8:=O5 ck.wd;have br:=bq.tu.rd Y.sg (by rw [f6];exact bc);rw [eF]at br;have bt:=ck.rd Y.sg (by rw [q4];exact bc);rw [eD]at bt;refine⟨_,rfl,_,rfl,_,_,cm,d8,cj,cj,bu _ (bL (Nat.min_le_left _ _) (10:)),_,rfl,?_⟩;rw [aH rfl,Yn _ cj];refine Q7 ⟨_,rfl,fp,_,.inr ⟨rfl,bq.sq⟩,_,rfl,Q7 ⟨_,rfl,_,rfl,_,_,br,bt,al,al,bu _ (bL (Nat.min_le_left _ _) (10:)),_,rfl,?_⟩⟩;rw [aH rfl,Yn _ al];refine Q7 ?_;refine⟨_,rfl,fp,_,0,_,rfl,rfl,bq.sq,rfl,_,rfl,fp,_,2,_,rfl,rfl,bq.sq,rfl,(18:),λlp ij=>?_⟩;generalize J:upd H5 lp _=H6;have s6:Same H5 H6:=by rw [<-J];exact Qe ij _
 have b6:H6 lp=some (.lst [.ref af,.ref ag]):=by rw [<-J];exact Qb
 clear J;have da:=bq.same s6;refine⟨lp,rfl,⟨_,SqL.of b6⟩,?_⟩;refine Zn (K:=K) (xs:=[.ref af,.ref ag]) (λi σ H'=>∃c3:Option V,σ=[some (.ref a),some (.ref lw),some (.ref lo),some (.ref ln),some v,some (.ref lu),some (.ref dp),some (.ref hw),some (.bl L),some (.ref la),bf,bg,bj,some (.ref fp),c3,none]/\H6=H')
  ⟨none,rfl,rfl⟩ ?_ ?_ ?_
 .rintro i σ H' _ ⟨_,_,rfl⟩;exact SqL.of b6
 .rintro i x σ H' hx ⟨c3,rfl,rfl⟩;have ik:x=.ref af\/x=.ref ag:=by
   have:=bC hx
   simpa using this
  rcases ik with rfl | rfl
  .exact⟨_,rfl,af,_,.inl ⟨rfl,da.tu.wd.1⟩,_,rfl,Q7 ⟨_,rfl,rfl⟩⟩
  .exact⟨_,rfl,ag,_,.inl ⟨rfl,da.tu.md.1⟩,_,rfl,Q7 ⟨_,rfl,rfl⟩⟩
 rintro σ H' ⟨c3,rfl,rfl⟩;have d9:k0∈c1:=bC d0;obtain⟨p1,p2,p3,_⟩:=d4.kd k0 d9;have nT:∀(x:Addr)(ys:List V),H4 x=some (.lst ys)->x≠T:=λx ys e z=>by rw [z,d5]at e;cases e
 have ea:H6 k0.2.2.1=some (.lst (k0.2.2.2.map λt=>V.ref t.1)):=s6 _ _ (x5 _ _ (nT _ _ p2) p2);have eb:atI (c1.map λk=>V.ref k.1) 0=some (.ref k0.1):=QL (j:=0) (by rw [aM,d0];rfl);have im:=(ac.rows k0 d9).len;refine⟨_,rfl,hw,_,_,_,rfl,rfl,s6.seq d7.1,eb,k0.1,_,1,_,rfl,rfl,s6.seqT (d6.qt _ _ p1),rfl,.inl ⟨rfl,_,SqL.of ea⟩,(20:),λe0 io=>?_⟩;generalize J:upd H6 e0 _=H7;have s7:Same H6 H7:=by rw [<-J];exact Qe io _
 have b7:H7 e0=some (.tup []):=by rw [<-J];exact Qb
 clear J;refine⟨(18:),λtz ip=>?_⟩;generalize J:upd H7 tz _=H8;have s8:Same H7 H8:=by rw [<-J];exact Qe ip _
 have b8:H8 tz=some (.tup [.str (Str.ofString "zz"),.ref e0]):=by rw [<-J];exact Qb
 clear J;have cc:=s7.trans s8;have p8:=cc _ _ ea;refine⟨k0.2.2.1,_,_,rfl,rfl,p8,(by rw [aA];exact cK im (9:)),?_⟩;have bd:=(da.same cc).put (o:=.lst ((k0.2.2.2.map λt=>V.ref t.1)++[.ref tz])) p2 p8;have ec:=(gp.same (s6.trans cc)).put (o:=.lst ((k0.2.2.2.map λt=>V.ref t.1)++[.ref tz])) p3;have z9:=(U0 T).lst _ _ _ ((k0.2.2.2.map λt=>V.ref t.1)++[.ref tz]) p8 ((U0 T).sm _ _ (s6.trans cc) z5);generalize upd H8 k0.2.2.1 (.lst ((k0.2.2.2.map λt=>V.ref t.1)++[.ref tz]))=H9 at bd ec z9 ⊢;clear p1 ea p8 eb b6 b7 b8 s6 s7 s8 cc cm d8 br bt d7 d6 bq da ck;have g8:=ab.held (UC tB ec);have br:=bd.tu.rd Y.sg (by rw [f6];exact bc);rw [eF]at br;have bt:=g8.rd Y.sg (by rw [q4];exact bc);rw [eD]at bt;refine⟨_,rfl,_,rfl,_,_,br,bt,al,al,bu _ (bL (Nat.min_le_left _ _) (10:)),_,rfl,?_⟩;rw [aH rfl,Yn _ al];refine Q7 ⟨_,rfl,fp,af,ag,fv,c4,U,c5,rfl,bd.sq,bd.tu.wd,ig,bd.tv,bd.tu.md,by rw [f6];exact bb.sh.dW c6,λjk an=>?_⟩;have ed:=ec.same an;have ax:=ab.held (UC tB ed);refine⟨_,rfl,dp,lw,c0,dv,ks,U,ca,rfl,ax.sq,ax.wd,hO,ax.tv,ax.md,by rw [q4];exact bb,λjl ao=>?_⟩;rw [O1 c6,f6,q4];refine⟨rfl,_,rfl,P4 rfl ?_⟩;have g9:=(bd.same an).same ao;have ee:=ed.same ao;have ay:=ab.held (UC tB ee);have iq:=(U0 T).sm _ _ (an.trans ao) z9;refine⟨_,rfl,_,rfl,dp,lw,c0,dv,ks,U,ca,rfl,ay.sq,ay.wd,hO,ay.tv,ay.md,by rw [q4];exact bb,λef as=>?_⟩;rw [q4];have be:=g9.same as;have eg:=ee.same as;have gq:=(U0 T).sm _ _ as iq;have ez:=ab.held (UC tB eg);obtain⟨jb,eh⟩:=(U0 T).tb _ gq T (22:);refine⟨lw,tuS ks U D,wkV U++wkD ks 0 D,wkV U,wkD ks 0 D,nmV U,ruD ks 0 D,ks,g4,kdD D,rfl,d1,C4 ks _ D Y.sg (10:) c7,rfl,R7 _ Y.sg,by rw [Lb _ Y.sg];exact Y.stl,rw_all ks D 0 (10:) c7,ez.wd,hO,g6,by rw [g7];exact gk,gq,λap gr gs av ei ej db x13 a1 a2 a3 a4 a5 a6 jm=>?_⟩;rw [gn]at a4;rw [gm]at a6;have ha:Fnd K ef db ap gr gs av ei U ej:=⟨a1,a2,a4,a5⟩;have eA:tuD ei U (dM ej)=tuD ks U D:=by unfold tuD;rw [a3,a6]
 have ir:=(aq.dW a3).ok;have hb:Held K ef db T:=UC ⟨_,eh⟩ x13;have el:∀(x:Addr)(ys:List V),ef x=some (.lst ys)->x≠T:=λx ys e z=>by rw [z,eh]at e;cases e
 have em:=be.wd.at0;have en:=be.md.at0;have dc:=x13 _ _ (el _ _ em) em;have iu:=x13 _ _ (el _ _ en) en;have eo:=hb.qt _ _ be.sq;have hc:=eg.trans x13;have iv:B af=none:=cb.free be.wd.n0;have iw:B ag=none:=cb.free be.md.n0;refine⟨_,rfl,fp,_,0,_,rfl,rfl,eo,rfl,.inl ⟨rfl,_,SqL.of dc⟩,af,_,rfl,rfl,dc,?_⟩;have eq:=ha.put (o:=.lst []) em dc;have et:=QU (o:=.lst []) eo dc;have eu:=hc.put (o:=.lst []) iv;have ix:(c5.map λm=>V.ref m.1).length<=600:=by
  have h1:=congrArg List.length f6;unfold dM at h1;rw [aA]at h1;rw [aA];lia
 obtain⟨xs,ev,iy⟩: ∃xs,upd db af (.lst []) ag=some (.lst xs)/\xs.length<=600:=by
  by_cases e:ag=af
  .rw [e];exact⟨[],Qb,by simp⟩
  .exact⟨_,by rw [Qi e];exact iu,ix⟩
 generalize upd db af (.lst [])=gt at eq et eu ev ⊢;refine⟨_,rfl,fp,_,2,_,rfl,rfl,et,rfl,.inl ⟨rfl,_,SqL.of ev⟩,(20:),λe1 iz=>?_⟩;generalize J:upd gt e1 _=dd;have a8:Same gt dd:=by rw [<-J];exact Qe iz _
 have jn:dd e1=some (.lst []):=by rw [<-J];exact Qb
 clear J;refine⟨(18:),λte i4=>?_⟩;generalize J:upd dd te _=ew;have bi:Same dd ew:=by rw [<-J];exact Qe i4 _
 have jo:ew te=some (.tup [.str (Str.ofString "k"),.ref e1]):=by rw [<-J];exact Qb
 clear J;have cn:=a8.trans bi;have gu:=cn _ _ ev;refine⟨ag,_,_,rfl,rfl,gu,cK iy (9:),?_⟩;have ar:=(eq.same cn).put (o:=.lst (xs++[.ref te])) en gu;have co:=(eu.same cn).put (o:=.lst (xs++[.ref te])) iw;generalize upd ew ag (.lst (xs++[.ref te]))=jp at ar co ⊢;have e5:=ab.held (UC tB co);have gv:=ar.tu.rd Y.sg (by rw [a6];exact bc);rw [eA]at gv;have ey:=e5.rd Y.sg (by rw [q4];exact bc);rw [eD]at ey;refine⟨_,rfl,_,rfl,_,_,gv,ey,al,al,bu _ (bL (Nat.min_le_left _ _) (10:)),?_⟩;rw [aF a_,Yn _ al];refine⟨_,rfl,Q2 ⟨_,rfl,ap,gr,gs,av,ei,U,ej,rfl,ar.sq,ar.tu.wd,ir,ar.tv,ar.tu.md,by rw [a6];exact bb.sh.dW a3,λjq ae=>?_⟩⟩;have az:=ab.held (UC tB (co.same ae));refine⟨_,rfl,dp,lw,c0,dv,ks,U,ca,rfl,az.sq,az.wd,hO,az.tv,az.md,by rw [q4];exact bb,λi5 jr=>?_⟩;rw [O1 a3,a6,q4];refine⟨rfl,?_⟩;show Q (.bl (decide (V.str (S (tuS ks U D))=V.str (S (tuS ks U D))))) i5;rw [aV rfl];exact q _
end
end K12
namespace L2
open PySem PySem.Spec PyProof.Rows
theorem NP{K:Fg}{mb:Str->Option Value}{k:Nat}{fd:FuncData}{s₁:Shared}{vs:List Value}{ns:List Int}
 (KX:K.In s₁.heap) (hns:s₁.heap.Ns mainGlobals mg) (hb:s₁.heap.Ns builtinsNs mb) (hbb:∀x:Str,x≠"__name__"->mb x=bootBuiltins x) (hlim:s₁.heap.NoLimit) (hg:s₁.gens=#[]) (hbt:BtAt mg s₁.heap)
 (hTs:∀T∈Ts,s₁.heap.get? T=some { cls:=.none,data:=.fields #[] }/\isCodeTable s₁.heap T/\K.lookup T=none)
 (ha:s₁.heap.get? a=some { cls:=.type "list",data:=.seq vs.toArray }) (hi:IntsAre vs ns) (hl:ns.length<=sizeLine) (hr:Room k callerA)
 (F:∀base:Heap,K.In base->base.Ns mainGlobals mg->BtAt mg base->FnOk P w K mg base CX0 k fa fd [x] sp) (hbind:∀(s:Shared)(u:Value),BindsTo s fd ⟨[u],[]⟩ [(x,u)])
 (hsp:∀H:Hp,SqL K H a (ns.map V.int)->(∀T∈Ts,H T=some (.tbl #[]))->sp [.ref a] H (λv _=>v=.bl true) λ_ _ _=>False):
 codeAny (model P w) callerA (.call (.ref fa) ⟨[.ref a],[]⟩) (λr s'=>r=.ok (.ret (.bool true))/\OldK s₁.heap s'.heap/\s'.os=s₁.os/\AllBare s'.gens) s₁:=by
 have rv:=Wr hi;have af:=hi.length;have U:∀H:Hp,(∀b,H b=none\/(b=a/\K.lookup a=none/\∃o xs,H b=some (.frz o (.lst xs)))\/(b∈Ts/\H b=some (.tbl #[])))->SqL K H a (ns.map V.int)->(∀T∈Ts,H T=some (.tbl #[]))->HOk P w H s₁.heap->
  codeAny (model P w) callerA (.call (.ref fa) ⟨[.ref a],[]⟩) (λr s'=>r=.ok (.ret (.bool true))/\OldK s₁.heap s'.heap/\s'.os=s₁.os/\AllBare s'.gens) s₁:=by
  intro H hO hS L ac;have j:∀{b:Addr}{o:Obj},s₁.heap.get? b=some o->H b=none->(XO s₁.heap H).get? b=some o:=λe n=>Sa e n;have ad:∀{b:Addr}{o:Obj},s₁.heap.get? b=some o->(∀xs n,o.data≠.seq xs n)->(∀xs,o.data≠.fields xs)->H b=none:=λ{b o} e d1 d2=>by
   rcases hO b with z | ⟨rfl,_⟩ | ⟨z,_⟩
   .exact z
   .rw [ha]at e;cases e;exact absurd rfl (d1 _ _)
   .rw [(hTs b z).1]at e;cases e;exact absurd rfl (d2 _)
  have M:∀{b:Addr}{m:Str->Option Value},s₁.heap.Ns b m->(XO s₁.heap H).Ns b m:=λ{b m} ⟨o,es,ep,e,d,r⟩=>⟨o,es,ep,j e (ad e (λ_ _ z=>by rw [d]at z;cases z) (λ_ z=>by rw [d]at z;cases z)),d,r⟩;have ae:K.In (XO s₁.heap H):=λb o e=>j (KX b o e) (by
   rcases hO b with z | ⟨rfl,Y,_⟩ | ⟨z,_⟩
   .exact z
   .rw [Y]at e;cases e
   .rw [(hTs b z).2.2]at e;cases e)
  have ai:BtAt mg (XO s₁.heap H):=by
   obtain⟨bm,o,b1,b2,b3,b4,b5,b6,b7⟩:=hbt;exact⟨bm,o,b1,b2,b3,j b4 (ad b4 (λ_ _ z=>by rw [b7]at z;cases z) (λ_ z=>by rw [b7]at z;cases z)),b5,b6,b7⟩
  have hM:Mod K mg (XO s₁.heap H):=⟨ae,M hns,⟨mb,M hb,hbb⟩,let⟨mc,h1,h2⟩:=hlim;⟨mc,M h1,h2⟩⟩;have e0:Env0 P w K mg (XO s₁.heap H) callerA [] s₁ H:=⟨rfl,hM,λb o e=>Sk e,Nat.le_of_eq (NO _ _),trivial,λb hb=>absurd (show b∈([]:List Addr)from hb) (22:),ac,.of_eq hg⟩;refine eV ((F _ ae (M hns) ai).run callerA [] s₁ H ⟨[.ref a],[]⟩ [.ref a] [.ref a] _ _ hr e0 (hbind s₁ (.ref a)) (.cons rfl .nil) (hsp H hS L)) λr s' h=>?_;cases r with
  | error e=>exact h.elim
  | ok fl=>
   cases fl with
   | next=>exact False.elim h
   | brk=>exact False.elim h
   | cont=>exact False.elim h
   | ret u=>
    obtain⟨v,H',os,ag,un,aa,r',q⟩:=h;have q':v=.bl true:=q;subst q';obtain rfl:u=Value.bool true:=r';refine⟨rfl,⟨λb o e=>?_,λb o e=>un.there b o e (22:)⟩,os,ag⟩;rcases hO b with z | ⟨rfl,_,ob,xs,z⟩ | ⟨zT,z⟩
    .exact .inl (un.keep b o e z (by intro z;exact absurd (show b∈([]:List Addr)from z) (22:)) (22:))
    .have z2:=un.frzs b ob _ z;obtain⟨e1,_⟩:=ac b _ z;obtain⟨e2,_⟩:=aa b _ z2;rw [e]at e1;cases e1;exact .inl e2
    .obtain⟨ab,z2⟩:=un.tbls b _ z;have e2:s'.heap.get? b=some { cls:=.none,data:=.fields (#[]++ab) }:=aa b _ z2;obtain⟨t1,t2,_⟩:=hTs b zT;rw [t1]at e;cases e;exact .inr (.inl ⟨t2,rfl,#[],ab,rfl,e2⟩)
 have aj:∀T∈Ts,T≠a:=λT L z=>by
  have:=(hTs T L).1;rw [z,ha]at this;cases this
 cases Y:K.lookup a with
 | some o=>
  have e:=KX a o Y;rw [ha]at e;cases e;refine U (λb=>if b∈Ts then some (.tbl #[])else none) (λb=>?_) (.inr ⟨_,vs.toArray,_,Y,rfl,rfl,rfl,by rw [aX,af];exact hl,by simpa using rv⟩) (λT L=>aH L) (λb u z=>?_)
  .by_cases hb:b∈Ts
   .exact .inr (.inr ⟨hb,aH hb⟩)
   .exact .inl (aF hb)
  .by_cases hb:b∈Ts
   .have J:=(aH hb).symm.trans z;cases J;exact(hTs b hb).1
   .have J:=(aF hb).symm.trans z;cases J
 | none=>
  refine U (λb=>if b=a then some (.frz { cls:=.type "list",data:=.seq vs.toArray } (.lst (ns.map V.int)))else if b∈Ts then some (.tbl #[])else none) (λb=>?_) (.inl (.inr ⟨{ cls:=.type "list",data:=.seq vs.toArray },aH rfl⟩)) (λT L=>(aF (aj T L)).trans (aH L)) (λb u z=>?_)
  .by_cases hb:b=a
   .exact .inr (.inl ⟨hb,Y,_,_,aH hb⟩)
   .by_cases G:b∈Ts
    .exact .inr (.inr ⟨G,(aF hb).trans (aH G)⟩)
    .exact .inl ((aF hb).trans (aF G))
  .by_cases hb:b=a
   .have J:=(aH hb).symm.trans z;cases J;subst hb;exact⟨ha,by rw [aA];exact hl,vs,_,rv,ha⟩
   .have z1:=(aF hb).symm.trans z
    by_cases G:b∈Ts
    .have J:=(aH G).symm.trans z1;cases J;exact(hTs b G).1
    .have J:=(aF G).symm.trans z1;cases J
structure TabAt(q:Program)(K:Fg)(x:Str)(c T:Addr):Prop where
 fnd:∃d,(recsOf q).find? (λe=>e.name==x)=some d
 tab:PySem.W.tabIn K x=some (c,T)
 hd:PySem.W.codeHdIn K c T=true
 no:K.lookup T=none
theorem walk_ofT{l:PySem.W.OpenLaw}{k:Nat}{q:Program}{d:DefRec}{K:Params->Fg}{sp:World->Sp}{tabs:List (Str×Addr×Addr)}
 (hn:l.most=some n) (hn2:n<=sizeLine) (hdf:d.params.defaults=[]) (hr:Room k callerA)
 (hY:∀(w:World)(h:Heap),YP w h->(K w.params).In h)
 (htab:∀(w:World),∀p∈tabs,TabAt q (K w.params) p.1 p.2.1 p.2.2)
 (F:∀(w:World)(mg:Str->Option Value)(fa:Addr)(h:Heap),(K w.params).In h->h.Ns mainGlobals mg->mg d.name=some (.ref fa)->
  ∃fd:FuncData,(∀(s:Shared)(u:Value),BindsTo s fd ⟨[u],[]⟩ [(x,u)])/\
   ∀base:Heap,(K w.params).In base->base.Ns mainGlobals mg->BtAt mg base->FnOk l.prog w (K w.params) mg base CX0 k fa fd [x] (sp w))
 (hsp:∀(w:World)(H:Hp)(a:Addr)(ns:List Int),ns.length<=n->SqL (K w.params) H a (ns.map V.int)->(∀p∈tabs,H p.2.2=some (.tbl #[]))->sp w [.ref a] H (λv _=>v=.bl true) λ_ _ _=>False):
 PySem.W.WalkO q loose XP YP l.row.toRowW d [] (λf vs=>PySem.call f vs):=by
 refine Att.attach_call hn hdf λw aj af mg mb fa o pm cd ag a vs ns G Y ho hd ai ab L J j hg=>?_;have M:=hY w _ Y;obtain⟨fd,hb,hF⟩:=F w mg fa _ M G.T.g ab;have ac:BtAt mg af.heap:=by
  obtain⟨bm,ob,b1,b2,U,b4,b5,b6⟩:=G.T.bmain;have ad:bm≠mainGlobals:=λq=>by
   obtain⟨o,es,ep,e,hd,_⟩:=G.T.g;rw [q,e]at U;cases U;rw [hd]at b6;cases b6
  exact⟨bm,ob,b1,b2,ad,U,b4,b5,b6⟩
 refine NP (Ts:=tabs.map λp=>p.2.2) M G.T.g G.T.b G.T.builtins G.T.nolimit hg ac (λT hT=>?_) L J (bL j hn2) hr hF hb (λH hS hT=>hsp w H a ns j hS λp hp=>hT _ (aP.mpr ⟨p,hp,rfl⟩));obtain⟨p,hp,rfl⟩:=aP.mp hT;obtain⟨⟨dd,aa⟩,ht,_,ae⟩:=htab w p hp;obtain⟨hc,h0⟩:=PySem.W.tab_of G.T M aa ht;exact⟨h0,(hc.tab h0).isCodeTable,ae⟩
end L2
namespace L2
theorem ln1{α:Type}{us:List α}(h:us.length=1):∃a,us=[a]:=fZ.mp h
theorem ln2{α:Type}{us:List α}(h:us.length=2):∃a b,us=[a,b]:=by
 match us,h with
 | [a,b],_=>exact⟨a,b,rfl⟩
theorem ln3{α:Type}{us:List α}(h:us.length=3):∃a b c,us=[a,b,c]:=by
 match us,h with
 | [a,b,c],_=>exact⟨a,b,c,rfl⟩
theorem ln4{α:Type}{us:List α}(h:us.length=4):∃a b c d,us=[a,b,c,d]:=by
 match us,h with
 | [a,b,c,d],_=>exact⟨a,b,c,d,rfl⟩
end L2
namespace L2
open PySem
structure MethAt(K:Fg)(C:Addr)(m qual:Str)(st:Stmt):Prop where
 ex:∃(f:Addr)(oc:Value)(od:Option Addr)(kV doc pm:Value)(an:Option Addr)(cdv ct:Value)(osl:Array (Option Value)),
  PySem.W.findIn K (.ref C) m=some (some (.ref f))/\PySem.W.isFn K (.ref f)=true/\K.lookup f=some ⟨oc,od,.func (PySem.W.fnOf m qual (defArgs st) (defBody st) (defScope st) .none kV doc pm an cdv ct),osl⟩/\PySem.W.codeIn K cdv qual=true/\PySem.W.keepIn K (.ref f)=true
theorem MethAt.mk'{K:Fg}{m:Str}{st:Stmt}{kV:Value}
 (a:PySem.W.findIn K (.ref C) m=some (some (.ref f))) (i:PySem.W.isFn K (.ref f)=true) (l:K.lookup f=some ⟨oc,od,.func (PySem.W.fnOf m qual (defArgs st) (defBody st) (defScope st) .none kV doc pm an cdv ct),osl⟩) (c:PySem.W.codeIn K cdv qual=true) (k:PySem.W.keepIn K (.ref f)=true):MethAt K C m qual st:=
 ⟨f,oc,od,kV,doc,pm,an,cdv,ct,osl,a,i,l,c,k⟩
theorem MethAt.mt{P:Program}{w:World}{K:Fg}{mg:Str->Option Value}{C:Addr}{m qual:Str}{st:Stmt}{k:Nat}{ps:List Str}{sp:Sp}(M:MethAt K C m qual st)(ok:∀(g:Heap)(f:Addr)(fd:FuncData),Fun K m qual st f fd->FnOk P w K mg g CX0 k f fd ps sp)(bi:∀(f:Addr)(fd:FuncData),Fun K m qual st f fd->Binds K fd ps []):∀g:Heap,Mt P w K mg g C k m ps sp:=λg=>by
 obtain⟨f,U,Y,kV,G,pm,an,J,ct,L,a,i,l,c,j⟩:=M.ex;have F:=ZK (st:=st) l c j;exact⟨f,_,⟨a,i,j⟩,ok g _ _ F,bi _ _ F⟩
end L2
namespace K12
open PySem L2 K3
structure RdK(K:Fg):Prop where
 ex:∃C:Addr,PySem.W.nsIn K mainGlobals "Reader"=some (some (.ref C))/\Cls K C/\NoAttr K C "found"/\ NoAttr K C "spot"/\ PySem.W.makesIn K C=true/\PySem.W.keepIn K (.ref C)=true/\
  MethAt K C "__init__" "Reader.__init__" Gu/\MethAt K C "ahead" "Reader.ahead" WU/\MethAt K C "at_name" "Reader.at_name" JG/\MethAt K C "at_number" "Reader.at_number" Vv/\MethAt K C "passed" "Reader.passed" JE/\MethAt K C "need" "Reader.need" M4/\MethAt K C "need_end" "Reader.need_end" UF/\MethAt K C "take_name" "Reader.take_name" Y8/\MethAt K C "take_number" "Reader.take_number" Uz/\MethAt K C "take_word" "Reader.take_word" Ud/\MethAt K C "in_brackets" "Reader.in_brackets" Ri
theorem RdK.mk'{K:Fg}(aC:PySem.W.nsIn K mainGlobals "Reader"=some (some (.ref C)))(pg:PySem.W.plainGet K C Str.empty=true)(hd:PySem.W.hasDictIn K C=true)(po:PySem.W.plainOver K C=true)
 (sa:PySem.W.findIn K (.ref C) "__setattr__"=some (some (.builtin "object.__setattr__"))) (n1:PySem.W.findIn K (.ref C) "found"=some none) (n2:PySem.W.findIn K (.ref C) "spot"=some none)
 (mk:PySem.W.makesIn K C=true) (kc:PySem.W.keepIn K (.ref C)=true) (m1:MethAt K C "__init__" "Reader.__init__" Gu) (m2:MethAt K C "ahead" "Reader.ahead" WU) (m3:MethAt K C "at_name" "Reader.at_name" JG) (m4:MethAt K C "at_number" "Reader.at_number" Vv) (m5:MethAt K C "passed" "Reader.passed" JE) (m6:MethAt K C "need" "Reader.need" M4) (m7:MethAt K C "need_end" "Reader.need_end" UF) (m8:MethAt K C "take_name" "Reader.take_name" Y8) (m9:MethAt K C "take_number" "Reader.take_number" Uz) (m10:MethAt K C "take_word" "Reader.take_word" Ud) (m11:MethAt K C "in_brackets" "Reader.in_brackets" Ri):RdK K:=
 ⟨C,aC,⟨pg,hd,po,sa⟩,n1,n2,mk,kc,m1,m2,m3,m4,m5,m6,m7,m8,m9,m10,m11⟩
theorem RdK.m{P:Program}{w:World}{K:Fg}{mg:Str->Option Value}{h:Heap}(S:RdK K)(X:K.In h)(N:h.Ns mainGlobals mg)(G:Gm mg)(RB:∀g:Heap,Fn P w K mg g 1 "begins_in" ["word","signs"] VW):
 ∃C,RdT K mg C/\RdM P w K mg C/\∀g:Heap,Fn P w K mg g 5 "words" ["text"] JI->∃(fI:Addr)(fdI:FuncData),Mk K C fI/\FnOk P w K mg g CX0 6 fI fdI ["self","text"] (GY C)/\Binds K fdI ["self","text"] []:=by
 obtain⟨C,aC,cl,n1,n2,mk,kc,m1,m2,m3,m4,m5,m6,m7,m8,m9,aa,ab⟩:=S.ex;have T:RdT K mg C:=⟨cl,n1,n2,bK X N aC⟩;have L:=m2.mt (P:=P) (w:=w) (mg:=mg) (λg f fd F=>OM F G T) λf fd F=>F.binds λ_ _ _ _ _ _ j hl=>by obtain⟨J,rfl⟩:=ln1 hl;rfl
 have MN:=m3.mt (P:=P) (w:=w) (mg:=mg) (λg f fd F=>Np F G T (RB g) (L g)) λf fd F=>F.binds λ_ _ _ _ _ _ j hl=>by obtain⟨J,rfl⟩:=ln1 hl;rfl
 have MU:=m4.mt (P:=P) (w:=w) (mg:=mg) (λg f fd F=>PD F G T (RB g) (L g)) λf fd F=>F.binds λ_ _ _ _ _ _ j hl=>by obtain⟨J,rfl⟩:=ln1 hl;rfl
 have U:=m5.mt (P:=P) (w:=w) (mg:=mg) (λg f fd F=>Ni F T (L g)) λf fd F=>F.binds λ_ _ _ _ _ _ j hl=>by obtain⟨J,Y,rfl⟩:=ln2 hl;rfl
 have MD:=m6.mt (P:=P) (w:=w) (mg:=mg) (λg f fd F=>Ta F T (U g)) λf fd F=>F.binds λ_ _ _ _ _ _ j hl=>by obtain⟨J,Y,rfl⟩:=ln2 hl;rfl
 have ME:=m7.mt (P:=P) (w:=w) (mg:=mg) (λg f fd F=>LP F T (L g)) λf fd F=>F.binds λ_ _ _ _ _ _ j hl=>by obtain⟨J,rfl⟩:=ln1 hl;rfl
 have MW:=aa.mt (P:=P) (w:=w) (mg:=mg) (λg f fd F=>GI F T (L g)) λf fd F=>F.binds λ_ _ _ _ _ _ j hl=>by obtain⟨J,rfl⟩:=ln1 hl;rfl
 have MT:=m8.mt (P:=P) (w:=w) (mg:=mg) (λg f fd F=>Gc F T (MN g) (MW g)) λf fd F=>F.binds λ_ _ _ _ _ _ j hl=>by obtain⟨J,rfl⟩:=ln1 hl;rfl
 have MI:=m9.mt (P:=P) (w:=w) (mg:=mg) (λg f fd F=>Ll F G T (MU g) (MW g)) λf fd F=>F.binds λ_ _ _ _ _ _ j hl=>by obtain⟨J,rfl⟩:=ln1 hl;rfl
 refine⟨C,T,⟨U,MT,MU,MI,MD,ME,?_⟩,λg RW=>?_⟩
 .obtain⟨f,oc,od,kV,ac,pm,an,ad,ct,ae,a,i,l,c,M⟩:=ab.ex;have F:=ZK (st:=Ri) l c M;exact⟨f,_,⟨a,i,M⟩,F.binds λ_ _ _ _ _ _ j hl=>by obtain⟨J,Y,rfl⟩:=ln2 hl;rfl,λT' ok k g=>AG (U0 T') (rpT K C [T']) F G T (U g)⟩
 .obtain⟨f,oc,od,kV,ac,pm,an,ad,ct,ae,a,i,l,c,M⟩:=m1.ex;have F:=ZK (st:=Gu) l c M;exact⟨f,_,⟨mk,a,i,kc⟩,Ss F T RW,F.binds λ_ _ _ _ _ _ j hl=>by obtain⟨J,Y,rfl⟩:=ln2 hl;rfl⟩
end K12
namespace K12
open PySem L2
theorem all_mk{l:PySem.W.OpenLaw}{K:Fg}{h:Heap}(X:K.In h)(N:h.Ns mainGlobals mg)(hfa:mg "law"=some (.ref fa))
 (d1:DefAt K "words" Lx) (d2:DefAt K "word_at" Vp) (d3:DefAt K "name_at" WP) (d4:DefAt K "below_zero_at" La) (d5:DefAt K "figures_at" JW) (d6:DefAt K "run_at" BB) (d7:DefAt K "begins_in" Vy) (d8:DefAt K "is_call" Wz) (d9:DefAt K "term_size" VZ) (d10:DefAt K "calls_of" Xj) (d11:DefAt K "keeps_mark" Xr) (d12:DefAt K "with_modes" XG) (d13:DefAt K "with_parts" G8) (d14:DefAt K "show_mark" G4) (d15:DefAt K "show_in_brackets" GV) (d16:DefAt K "has_one_twice" LI) (d17:DefAt K "own_wood" Pa) (d18:DefAt K "rows_of" VB) (d19:DefAt K "row_of" LC) (d20:DefAt K "is_sound" Lv) (d21:DefAt K "rules_fit" WF) (d22:DefAt K "calls_fit" VO) (d23:DefAt K "call_fits" LH) (d24:DefAt K "read_turning" RI) (d25:DefAt K "rule_from" LU) (d26:DefAt K "term_from" Uw) (d27:DefAt K "check_numbers" RZ) (d28:DefAt K "turning_of" LM) (d29:DefAt K "mode_of" LJ) (d30:DefAt K "check_mode" Oi) (d31:DefAt K "numbered" Pp) (d32:DefAt K "show_turning" L6) (d33:DefAt K "show_rules" LR) (d34:DefAt K "show_term" UJ) (d35:DefAt K "show_mode" WL) (d36:DefAt K "_law_cell_at" OU) (d37:DefAt K "_law_names" Lc) (d38:DefAt K "_law_rows" MB) (d39:DefAt K "_law_call" Ms) (d40:DefAt K "_law_term" Rc) (d41:DefAt K "_law_words" YY) (d42:DefAt K "_law_joined" WW) (d43:DefAt K "_law_shown" U9) (d44:DefAt K "_law_numbered" Xv) (d45:DefAt K "_law_drawn" G0) (d46:DefAt K "_law_turned_about" Lq) (d47:DefAt K "_law_due" AI) (d48:DefAt K "_law_text" Rh) (d49:DefAt K "law" V1)
 (z1:PySem.W.nsIn K mainGlobals "len"=some none) (z2:PySem.W.nsIn K mainGlobals "isinstance"=some none) (z3:PySem.W.nsIn K mainGlobals "str"=some none) (z4:PySem.W.nsIn K mainGlobals "list"=some none) (z5:PySem.W.nsIn K mainGlobals "range"=some none) (z6:PySem.W.nsIn K mainGlobals "tuple"=some none) (z7:PySem.W.nsIn K mainGlobals "int"=some none) (z8:PySem.W.nsIn K mainGlobals "sum"=some none)   (ht1:PySem.W.tabIn K "term_from"=some (c1,T1)) (hh1:PySem.W.codeHdIn K c1 T1=true)  {tA tB tC tD tE tF tG tH:Tok} (gA:PySem.W.nsIn K mainGlobals "LETTERS"=some (some (.str ZU tA))) (gB:PySem.W.nsIn K mainGlobals "FIGURES"=some (some (.str L4 tB))) (gC:PySem.W.nsIn K mainGlobals "SIGNS"=some (some (.str O8 tC))) (gD:PySem.W.nsIn K mainGlobals "MOST_LETTERS"=some (some (.int 8 tD))) (gE:PySem.W.nsIn K mainGlobals "MOST_FIGURES"=some (some (.int 60 tE))) (gF:PySem.W.nsIn K mainGlobals "MOST_BRACKETS"=some (some (.int 8 tF))) (gG:PySem.W.nsIn K mainGlobals "MOST_RULES"=some (some (.int 40 tG))) (gH:PySem.W.nsIn K mainGlobals "MOST_PUTS_AND_CALLS"=some (some (.int 120 tH))) (gI:PySem.W.nsIn K mainGlobals "any"=some none) (gJ:PySem.W.nsIn K mainGlobals "all"=some none) (gK:PySem.W.nsIn K mainGlobals "enumerate"=some none) (gL:PySem.W.nsIn K mainGlobals "dict"=some none) (gM:PySem.W.nsIn K mainGlobals "zip"=some none) (gN:PySem.W.nsIn K mainGlobals "set"=some none) (gO:PySem.W.nsIn K mainGlobals "sorted"=some none) (s1:RdK K):
 ∃fd:FuncData,(∀(s:Shared)(v:Value),BindsTo s fd ⟨[v],[]⟩ [("_law_script",v)])/\∀base:Heap,K.In base->base.Ns mainGlobals mg->BtAt mg base->FnOk l.prog w K mg base CX0 34 fa fd ["_law_script"] (Mj K T1):=by
 have G:Gm mg:=⟨cM X N z1,cM X N z2,cM X N z3,cM X N z4,cM X N z5,cM X N z6,cM X N z7,cM X N z8,⟨_,bK X N gA⟩,⟨_,bK X N gB⟩,⟨_,bK X N gC⟩,⟨_,bK X N gD⟩,⟨_,bK X N gE⟩⟩;obtain⟨f,oc,od,kV,aa,pm,an,ab,ct,ac,a,Y,c,M⟩:=d49.ex;have e:=hfa.symm.trans (bK X N a);cases e;have F:=ZK (st:=V1) Y c M;refine⟨PySem.W.fnOf "law" "law" (defArgs V1) (defBody V1) (defScope V1) .none kV aa pm an ab ct,λs v=>.of_eq rfl,λbase _ _ hB=>?_⟩;have ad:∃t,mg "MOST_BRACKETS"=some (.int 8 t):=⟨_,bK X N gF⟩;have ae:∃t,mg "MOST_RULES"=some (.int 40 t):=⟨_,bK X N gG⟩;have af:∃t,mg "MOST_PUTS_AND_CALLS"=some (.int 120 t):=⟨_,bK X N gH⟩;have GA:GmA mg:=⟨cM X N gI,cM X N gJ,cM X N gK,cM X N gL,cM X N gM,cM X N gN⟩;have ag:mg "sorted"=none:=cM X N gO;have aB:∀g:Heap,Fn l.prog w K mg g 1 "begins_in" ["word","signs"] VW:=λg=>d7.fn X N (λf fd F=>No F) (λ_ _ _ _ _ _ j hl=>by obtain⟨J,L,rfl⟩:=ln2 hl;rfl);obtain⟨C,TT,MM,II⟩:=s1.m (P:=l.prog) (w:=w) X N G aB;have w1:Fn l.prog w K mg base 1 "run_at" ["text","start","signs"] MQ:=d6.fn X N (λf fd F=>AS F G) λ_ _ _ _ _ _ j hl=>by obtain⟨J,L,a3,rfl⟩:=ln3 hl;rfl
 have w2:Fn l.prog w K mg base 2 "figures_at" ["text","start"] Ml:=d5.fn X N (λf fd F=>BI F G w1) λ_ _ _ _ _ _ j hl=>by obtain⟨J,L,rfl⟩:=ln2 hl;rfl
 have w3:Fn l.prog w K mg base 3 "below_zero_at" ["text","start"] Vx:=d4.fn X N (λf fd F=>Og F w2) λ_ _ _ _ _ _ j hl=>by obtain⟨J,L,rfl⟩:=ln2 hl;rfl
 have w4:Fn l.prog w K mg base 2 "name_at" ["text","start"] Xo:=d3.fn X N (λf fd F=>N8 F G w1) λ_ _ _ _ _ _ j hl=>by obtain⟨J,L,rfl⟩:=ln2 hl;rfl
 have w5:Fn l.prog w K mg base 4 "word_at" ["text","start"] Xd:=d2.fn X N (λf fd F=>NS F G w4 w2 w3) λ_ _ _ _ _ _ j hl=>by obtain⟨J,L,rfl⟩:=ln2 hl;rfl
 have w6:Fn l.prog w K mg base 5 "words" ["text"] JI:=d1.fn X N (λf fd F=>Sd F G w5) λ_ _ _ _ _ _ j hl=>by obtain⟨J,rfl⟩:=ln1 hl;rfl
 have t1:Fn l.prog w K mg base 1 "is_call" ["term"] (ZX K):=d8.fn X N (λf fd F=>Bk F) λ_ _ _ _ _ _ j hl=>by obtain⟨J,rfl⟩:=ln1 hl;rfl
 have t2:Fn l.prog w K mg base 10 "term_size" ["term"] (Jo K 9):=by
  obtain⟨f,oc,od,kV,aa,pm,an,ab,ct,ac,a,Y,c,M⟩:=d9.ex;have F:=ZK (st:=VZ) Y c M;have U:Binds K _ ["term"] []:=F.binds λ_ _ _ _ _ _ j hl=>by obtain⟨J,rfl⟩:=ln1 hl;rfl
  exact⟨f,_,Ou F G t1 U (bK X N a) 9,U,M,bK X N a⟩
 have t3:Fn l.prog w K mg base 10 "calls_of" ["term"] (Jg K 9):=by
  obtain⟨f,oc,od,kV,aa,pm,an,ab,ct,ac,a,Y,c,M⟩:=d10.ex;have F:=ZK (st:=Xj) Y c M;have U:Binds K _ ["term"] []:=F.binds λ_ _ _ _ _ _ j hl=>by obtain⟨J,rfl⟩:=ln1 hl;rfl
  exact⟨f,_,P7 F G t1 U (bK X N a) 9,U,M,bK X N a⟩
 have t4:Fn l.prog w K mg base 1 "with_parts" ["term","parts"] (Na K):=d13.fn X N (λf fd F=>B0 F G) λ_ _ _ _ _ _ j hl=>by obtain⟨J,L,rfl⟩:=ln2 hl;rfl
 have t5:Fn l.prog w K mg base 10 "with_modes" ["term","numbers"] (Gd K 9):=by
  obtain⟨f,oc,od,kV,aa,pm,an,ab,ct,ac,a,Y,c,M⟩:=d12.ex;have F:=ZK (st:=XG) Y c M;have U:Binds K _ ["term","numbers"] []:=F.binds λ_ _ _ _ _ _ j hl=>by obtain⟨J,L,rfl⟩:=ln2 hl;rfl
  exact⟨f,_,Rb F G t1 t4 U (bK X N a) 9,U,M,bK X N a⟩
 have t6:Fn l.prog w K mg base 10 "keeps_mark" ["term"] (Jp K 9):=by
  obtain⟨f,oc,od,kV,aa,pm,an,ab,ct,ac,a,Y,c,M⟩:=d11.ex;have F:=ZK (st:=Xr) Y c M;have U:Binds K _ ["term"] []:=F.binds λ_ _ _ _ _ _ j hl=>by obtain⟨J,rfl⟩:=ln1 hl;rfl
  exact⟨f,_,Rw F GA t1 U (bK X N a) 9,U,M,bK X N a⟩
 have x1:Fn l.prog w K mg base 1 "show_mark" ["mark"] TW:=d14.fn X N (λf fd F=>Cq F G) λ_ _ _ _ _ _ j hl=>by obtain⟨J,rfl⟩:=ln1 hl;rfl
 have x2:Fn l.prog w K mg base 1 "show_in_brackets" ["texts"] (S9 K):=d15.fn X N (λf fd F=>C0 F G) λ_ _ _ _ _ _ j hl=>by obtain⟨J,rfl⟩:=ln1 hl;rfl
 have x3:Fn l.prog w K mg base 1 "show_mode" ["mode"] JO:=d35.fn X N (λf fd F=>SB F G) λ_ _ _ _ _ _ j hl=>by obtain⟨J,rfl⟩:=ln1 hl;rfl
 have x4:Fn l.prog w K mg base 10 "show_term" ["term"] (YG K 9):=by
  obtain⟨f,oc,od,kV,aa,pm,an,ab,ct,ac,a,Y,c,M⟩:=d34.ex;have F:=ZK (st:=UJ) Y c M;have U:Binds K _ ["term"] []:=F.binds λ_ _ _ _ _ _ j hl=>by obtain⟨J,rfl⟩:=ln1 hl;rfl
  exact⟨f,_,V6 F G t1 x3 x1 x2 U (bK X N a) 9,U,M,bK X N a⟩
 have y1:Fn l.prog w K mg base 1 "has_one_twice" ["names"] (PQ K):=d16.fn X N (λf fd F=>Cz F G GA) λ_ _ _ _ _ _ j hl=>by obtain⟨J,rfl⟩:=ln1 hl;rfl
 have y2:Fn l.prog w K mg base 1 "own_wood" ["wood"] (Ld K):=d17.fn X N (λf fd F=>SE F G) λ_ _ _ _ _ _ j hl=>by obtain⟨J,rfl⟩:=ln1 hl;rfl
 have y3:Fn l.prog w K mg base 1 "rows_of" ["wood","kind"] (Yd K):=d18.fn X N (λf fd F=>N7 F GA) λ_ _ _ _ _ _ j hl=>by obtain⟨J,L,rfl⟩:=ln2 hl;rfl
 have y4:Fn l.prog w K mg base 2 "row_of" ["wood","kind","name"] (Vs K):=d19.fn X N (λf fd F=>Ob F GA y3) λ_ _ _ _ _ _ j hl=>by obtain⟨J,L,a3,rfl⟩:=ln3 hl;rfl
 have v1:Fn l.prog w K mg base 1 "call_fits" ["modes","mode","branch","kinds"] (Re K):=d23.fn X N (λf fd F=>Cu F G) λ_ _ _ _ _ _ j hl=>by obtain⟨J,L,a3,a4,rfl⟩:=ln4 hl;rfl
 have v2:Fn l.prog w K mg base 11 "calls_fit" ["modes","term","kinds"] (Vz K):=d22.fn X N (λf fd F=>AD F GA t3 v1) λ_ _ _ _ _ _ j hl=>by obtain⟨J,L,a3,rfl⟩:=ln3 hl;rfl
 have v3:Fn l.prog w K mg base 12 "rules_fit" ["wood","modes","kind","rules"] (R4 K):=d21.fn X N (λf fd F=>Ce F G GA y3 v2) λ_ _ _ _ _ _ j hl=>by obtain⟨J,L,a3,a4,rfl⟩:=ln4 hl;rfl
 have v4:Fn l.prog w K mg base 13 "is_sound" ["wood","start","modes"] (Oe K):=d20.fn X N (λf fd F=>Cr F GA v3 t6 v2) λ_ _ _ _ _ _ j hl=>by obtain⟨J,L,a3,rfl⟩:=ln3 hl;rfl
 have n1:Fn l.prog w K mg base 11 "numbered" ["term","numbers"] (Vj K):=d31.fn X N (λf fd F=>TQ F t3 t5) λ_ _ _ _ _ _ j hl=>by obtain⟨J,L,rfl⟩:=ln2 hl;rfl
 have n2:Fn l.prog w K mg base 11 "check_numbers" ["start","rules"] (WK K):=d27.fn X N (λf fd F=>O0 F G ae af t2) λ_ _ _ _ _ _ j hl=>by obtain⟨J,L,rfl⟩:=ln2 hl;rfl
 have n3:Fn l.prog w K mg base 3 "check_mode" ["wood","mode","kind","rules"] (LO K):=d30.fn X N (λf fd F=>SW F G y4 y1 y3) λ_ _ _ _ _ _ j hl=>by obtain⟨J,L,a3,a4,rfl⟩:=ln4 hl;rfl
 have n4:Fn l.prog w K mg base 12 "mode_of" ["wood","numbers","rules"] (WO K):=d29.fn X N (λf fd F=>R3 F GA n3 n1 y3) λ_ _ _ _ _ _ j hl=>by obtain⟨J,L,a3,rfl⟩:=ln3 hl;rfl
 have n5:Fn l.prog w K mg base 14 "turning_of" ["wood","start","rules"] (WH K):=d28.fn X N (λf fd F=>OG F GA y2 n4 n1 v4) λ_ _ _ _ _ _ j hl=>by obtain⟨J,L,a3,rfl⟩:=ln3 hl;rfl
 have r5:Fn l.prog w K mg base 31 "term_from" ["reader","room"] (Yi K C T1 9):=by
  obtain⟨f,oc,od,kV,aa,pm,an,ab,ct,ac,a,Y,c,M⟩:=d26.ex;have F:=ZK (st:=Uw) Y c M;have U:Binds K _ ["reader","room"] []:=F.binds λ_ _ _ _ _ _ j hl=>by obtain⟨J,L,rfl⟩:=ln2 hl;rfl
  exact⟨f,_,XR F a ht1 hh1 TT MM U (bK X N a) 9 base hB,U,M,bK X N a⟩
 have r7:Fn l.prog w K mg base 32 "rule_from" ["reader"] (WI K C T1):=d25.fn X N (λf fd F=>Pq F TT MM ad r5) λ_ _ _ _ _ _ j hl=>by obtain⟨J,rfl⟩:=ln1 hl;rfl
 obtain⟨fI,aj,ai,FI,bI⟩:=II base w6;have r6:Fn l.prog w K mg base 33 "read_turning" ["wood","text"] (W6 K T1):=d24.fn X N (λf fd F=>Oy F TT MM ad ai FI bI r5 r7 n2 n5) λ_ _ _ _ _ _ j hl=>by obtain⟨J,L,rfl⟩:=ln2 hl;rfl
 have x5:Fn l.prog w K mg base 11 "show_rules" ["mode","kind","rows","rules"] (Ry K):=d33.fn X N (λf fd F=>Bm F GA x4) λ_ _ _ _ _ _ j hl=>by obtain⟨J,L,a3,a4,rfl⟩:=ln4 hl;rfl
 have x6:Fn l.prog w K mg base 12 "show_turning" ["turning"] (Pd K):=d32.fn X N (λf fd F=>AW F GA x4 x5 x3 y3) λ_ _ _ _ _ _ j hl=>by obtain⟨J,rfl⟩:=ln1 hl;rfl
 have l1:Fn l.prog w K mg base 1 "_law_cell_at" ["_law_script","_law_k"] (XB K):=d36.fn X N (λf fd F=>TK F G) λ_ _ _ _ _ _ j hl=>by obtain⟨J,L,rfl⟩:=ln2 hl;rfl
 have l2:Fn l.prog w K mg base 1 "_law_names" ["_law_cell","_law_where","_law_lots"] (VN K):=d37.fn X N (λf fd F=>Pr F G) λ_ _ _ _ _ _ j hl=>by obtain⟨J,L,a3,rfl⟩:=ln3 hl;rfl
 have l3:Fn l.prog w K mg base 2 "_law_rows" ["_law_script","_law_start","_law_kinds","_law_names_here"] (Vw K):=d38.fn X N (λf fd F=>PX F G ag l1) λ_ _ _ _ _ _ j hl=>by obtain⟨J,L,a3,a4,rfl⟩:=ln4 hl;rfl
 have l4:Fn l.prog w K mg base 1 "_law_call" ["_law_number","_law_branches","_law_modes"] (WZ K):=d39.fn X N (λf fd F=>PK F G) λ_ _ _ _ _ _ j hl=>by obtain⟨J,L,a3,rfl⟩:=ln3 hl;rfl
 have l5:Fn l.prog w K mg base 2 "_law_term" ["_law_cells","_law_branches","_law_modes","_law_start"] (Vb K):=d40.fn X N (λf fd F=>Os F G l4) λ_ _ _ _ _ _ j hl=>by obtain⟨J,L,a3,a4,rfl⟩:=ln4 hl;rfl
 have l6:Fn l.prog w K mg base 5 "_law_words" ["_law_term_here","_law_names_here","_law_full"] (Lf K 4):=by
  obtain⟨f,oc,od,kV,aa,pm,an,ab,ct,ac,a,Y,c,M⟩:=d41.ex;have F:=ZK (st:=YY) Y c M;have U:Binds K _ ["_law_term_here","_law_names_here","_law_full"] []:=F.binds λ_ _ _ _ _ _ j hl=>by obtain⟨J,L,a3,rfl⟩:=ln3 hl;rfl
  exact⟨f,_,OR F G U (bK X N a) 4,U,M,bK X N a⟩
 have l7:Fn l.prog w K mg base 1 "_law_joined" ["_law_row","_law_blanks"] (JQ K):=d42.fn X N (λf fd F=>NQ F G) λ_ _ _ _ _ _ j hl=>by obtain⟨J,L,rfl⟩:=ln2 hl;rfl
 have l8:Fn l.prog w K mg base 5 "_law_shown" ["_law_term_here","_law_naming"] (YC K 4):=by
  obtain⟨f,oc,od,kV,aa,pm,an,ab,ct,ac,a,Y,c,M⟩:=d43.ex;have F:=ZK (st:=U9) Y c M;have U:Binds K _ ["_law_term_here","_law_naming"] []:=F.binds λ_ _ _ _ _ _ j hl=>by obtain⟨J,L,rfl⟩:=ln2 hl;rfl
  exact⟨f,_,Wo F G U (bK X N a) 4,U,M,bK X N a⟩
 have l9:Fn l.prog w K mg base 5 "_law_numbered" ["_law_term_here","_law_order"] (Yv K 4):=by
  obtain⟨f,oc,od,kV,aa,pm,an,ab,ct,ac,a,Y,c,M⟩:=d44.ex;have F:=ZK (st:=Xv) Y c M;have U:Binds K _ ["_law_term_here","_law_order"] []:=F.binds λ_ _ _ _ _ _ j hl=>by obtain⟨J,L,rfl⟩:=ln2 hl;rfl
  exact⟨f,_,Wh F G U (bK X N a) 4,U,M,bK X N a⟩
 have lA:Fn l.prog w K mg base 3 "_law_drawn" ["_law_script","_law_wood","_law_own"] (WG K):=d45.fn X N (λf fd F=>Oa F G GA l1 l5) λ_ _ _ _ _ _ j hl=>by obtain⟨J,L,a3,rfl⟩:=ln3 hl;rfl
 have lB:Fn l.prog w K mg base 1 "_law_turned_about" ["_law_terms","_law_cell"] (VM K):=d46.fn X N (λf fd F=>Ox F G) λ_ _ _ _ _ _ j hl=>by obtain⟨J,L,rfl⟩:=ln2 hl;rfl
 have lC:Fn l.prog w K mg base 6 "_law_due" ["_law_wood","_law_own","_law_start","_law_terms"] (OC K):=d47.fn X N (λf fd F=>BO F G GA l9) λ_ _ _ _ _ _ j hl=>by obtain⟨J,L,a3,a4,rfl⟩:=ln4 hl;rfl
 have lD:Fn l.prog w K mg base 6 "_law_text" ["_law_due_here"] (GZ K):=d48.fn X N (λf fd F=>Tx F G GA l8) λ_ _ _ _ _ _ j hl=>by obtain⟨J,rfl⟩:=ln1 hl;rfl
 exact AN F G l1 l3 l2 lA lB lC l6 l7 lD x6 r6
theorem walk{l:PySem.W.OpenLaw}{q:Program}{d:DefRec}{K:Params->Fg}(hn:l.most=some 63)(hdf:d.params.defaults=[])
 (hY:∀(w:World)(h:Heap),YP w h->(K w.params).In h) (tb1:∀w:World,TabAt q (K w.params) "term_from" c1 T1)
 (F:∀(w:World)(mg:Str->Option Value)(fa:Addr)(h:Heap),(K w.params).In h->h.Ns mainGlobals mg->mg d.name=some (.ref fa)->
  ∃fd:FuncData,(∀(s:Shared)(u:Value),BindsTo s fd ⟨[u],[]⟩ [("_law_script",u)])/\∀base:Heap,(K w.params).In base->base.Ns mainGlobals mg->BtAt mg base->FnOk l.prog w (K w.params) mg base CX0 34 fa fd ["_law_script"] (Mj (K w.params) T1)):
 PySem.W.WalkO q loose XP YP l.row.toRowW d [] (λf vs=>PySem.call f vs):=
 L2.walk_ofT (n:=63) (k:=34) (x:="_law_script") (tabs:=[("term_from",c1,T1)]) (sp:=λw=>Mj (K w.params) T1) hn (9:) hdf ⟨rfl,by decide,by decide⟩ hY (λw p hp=>by
  simp only [aQ,dE,bN]at hp;rcases hp with rfl
  .exact tb1 w) F (λ_ _ a j hl G J=>⟨a,j,rfl,G,hl,J ("term_from",c1,T1) (22:),λ_=>rfl⟩)
end K12
section
open PySem
def K12.vS(x:String)(n:Nat):Value:=.str (iT x) n
def K12.mN:Value:=.str (iT "law_turnery_k12_turnings_read_and_shown") 670
def K12.vR(a:Nat):Value:=.ref a
def K12.vI(i:Int)(n:Nat):Value:=.int i n
def K12.hE(P:Params)(x:String)(n:Nat)(v:Value):DictEntry:=⟨PyData.keyHash P (iT x),.str (iT x) n,v⟩
def K12.vNo:Value:=.none
def K12.vF:Value:=.type "function"
def K12.vT:Value:=.bool true
def K12.i0:Value:=.int 0 0
def K12.i3:Value:=.int 3 0
def K12.i1:Value:=.int 181 0
def K12.cP(k:Nat):Value:=.str (iT "/claim/cut.py") k
def K12.oT(x:Array Value):Obj:=Obj.mk (Value.type "tuple") none (Data.seq x) #[]
def K12.oC(x:Array Value):Obj:=Obj.mk (Value.type "code") none (Data.fields x) #[]
def K12.oD(n q:String)(a:Nat)(b c:Int)(d e:Nat):Obj:=oC #[vS n a,vS q (a+1),cP (a+2),vI b 0,vI c 0,i0,i0,i3,vR d,vT,i1,vR (d+1),vNo,vR (d+2),vR (d+3),vR (d+4),vI (Int.ofNat e) 0,vI b 0,cP (e+1)]
def K12.oZ(n q:String)(a:Nat)(b c:Int)(d e f:Nat):Obj:=oC #[vS n a,vS q (a+1),cP (a+2),vI b 0,vI c 0,i0,i0,i3,vR d,vT,i1,vR (d+1),vNo,vNo,vNo,vR f,vI (Int.ofNat e) 0,vI b 0,cP (e+1)]
def K12.oF(c:Value)(x y:String)(s:Stmt)(k:Nat)(pm cd:Value):Obj:=Obj.mk c none (Data.func (FuncData.mk (iT x) (iT y) (L2.defArgs s) (.stmts (L2.defBody s)) (L2.defScope s) k [] Value.none Value.none Value.none pm none cd Value.none 0)) #[]
open K12
def K12.oE:Obj:={ cls:=vNo,data:=Data.fields #[] }
def K12.l3(P:iR):List DictEntry:=[hE P "__doc__" 166 vNo,hE P "__package__" 167 vNo,hE P "__loader__" 168 (Value.builtin "__main__.__loader__#opaque"),hE P "__spec__" 169 vNo,hE P "__annotations__" 170 (vR 6),hE P "__builtins__" 171 (vR 4),hE P "__file__" 173 (cP 172),hE P "__cached__" 174 vNo,hE P "_wall" 193 (vR 21),hE P "TurnError" 213 (vR 31),hE P "NoText" 229 (vR 44),hE P "NoTurning" 245 (vR 56),hE P "LETTERS" 249 (vS "abcdefghijklmnopqrstuvwxyz" 248),hE P "FIGURES" 251 (vS "0123456789" 250),hE P "SIGNS" 253 (vS "();:=|*" 252),hE P "MOST_LETTERS" 255 (vI 8 254),hE P "MOST_FIGURES" 257 (vI 60 256),hE P "words" 267 (vR 65),hE P "word_at" 276 (vR 72),hE P "name_at" 285 (vR 79),hE P "below_zero_at" 294 (vR 86),hE P "figures_at" 303 (vR 93),hE P "run_at" 313 (vR 100),hE P "Reader" 430 (vR 194),hE P "begins_in" 438 (vR 205),hE P "is_call" 447 (vR 212),hE P "term_size" 453 (vR 217),hE P "calls_of" 462 (vR 224),hE P "keeps_mark" 468 (vR 229),hE P "with_modes" 474 (vR 234),hE P "with_parts" 482 (vR 241),hE P "show_mark" 491 (vR 248),hE P "show_in_brackets" 498 (vR 255),hE P "has_one_twice" 507 (vR 262),hE P "own_wood" 513 (vR 267),hE P "rows_of" 521 (vR 274),hE P "row_of" 530 (vR 281),hE P "is_sound" 538 (vR 286),hE P "rules_fit" 544 (vR 291),hE P "calls_fit" 550 (vR 296),hE P "call_fits" 560 (vR 303),hE P "MOST_RULES" 564 (vI 40 563),hE P "MOST_PUTS_AND_CALLS" 566 (vI 120 565),hE P "MOST_BRACKETS" 568 (vI 8 567),hE P "read_turning" 579 (vR 310),hE P "rule_from" 589 (vR 317),hE P "term_from" 603 (vR 324),hE P "check_numbers" 609 (vR 329),hE P "turning_of" 615 (vR 334),hE P "mode_of" 621 (vR 339),hE P "check_mode" 627 (vR 344),hE P "numbered" 637 (vR 351),hE P "show_turning" 647 (vR 358),hE P "show_rules" 653 (vR 363),hE P "show_term" 659 (vR 368),hE P "show_mode" 669 (vR 375),hE P "_law_cell_at" 679 (vR 382),hE P "_law_names" 685 (vR 387),hE P "_law_rows" 691 (vR 392),hE P "_law_call" 703 (vR 399),hE P "_law_term" 720 (vR 406),hE P "_law_words" 731 (vR 413),hE P "_law_joined" 742 (vR 420),hE P "_law_shown" 748 (vR 425),hE P "_law_numbered" 754 (vR 430),hE P "_law_drawn" 773 (vR 437),hE P "_law_turned_about" 784 (vR 444),hE P "_law_due" 790 (vR 449),hE P "_law_text" 803 (vR 456),hE P "law" 809 (vR 461)]
def K12.x3(P:iR):iS:=Obj.mk (Value.type "dict") none (Data.dict (hE P "__name__" 165 mN::l3 P).toArray 71) #[]
def K12.x20(P:iR):iS:=oD "_wall" "_wall" 187 1 1 15 191
def K12.x21(P:iR):iS:=oF vF "_wall" "_wall" (top 0) 3 (vS "__main__" 164) (vR 20)
def K12.x30(P:iR):iS:=Obj.mk (Value.type "dict") none (Data.dict #[hE P "__module__" 203 (vS "turnery.errors" 194),hE P "__firstlineno__" 207 (vI 5 206),hE P "__static_attributes__" 208 (vR 29),hE P "__weakref__" 210 (vR 32),hE P "__doc__" 211 vNo] 3) #[]
def K12.x31(P:iR):iS:=Obj.mk (Value.type "type") none (Data.cls (ClassData.mk (iT "TurnError") [Value.type "ValueError"] [vR 31,Value.type "ValueError",Value.type "Exception",Value.type "BaseException",Value.type "object"] 30 (iT "TurnError") true [] [vR 44,vR 56] false none false)) #[some (vR 22),none,some (vS "TurnError" 196),some (vS "TurnError" 204),some (Value.builtin "ValueError.__new__"),some (Value.bool true)]
def K12.x32(P:iR):iS:=Obj.mk (Value.type "getset_descriptor") none (Data.fields #[vS "__weakref__" 209,vR 31,Value.builtin "ExceptionGroup.__weakref__",vNo]) #[]
def K12.x43(P:iR):iS:=Obj.mk (Value.type "dict") none (Data.dict #[hE P "__module__" 221 (vS "turnery.errors" 194),hE P "__firstlineno__" 225 (vI 7 224),hE P "__static_attributes__" 226 (vR 42),hE P "__doc__" 227 vNo] 2) #[]
def K12.x44(P:iR):iS:=Obj.mk (Value.type "type") none (Data.cls (ClassData.mk (iT "NoText") [vR 31] [vR 44,vR 31,Value.type "ValueError",Value.type "Exception",Value.type "BaseException",Value.type "object"] 43 (iT "NoText") true [] [] false none false)) #[some (vR 35),none,some (vS "NoText" 214),some (vS "NoText" 222),some (Value.builtin "ValueError.__new__"),some (Value.bool true)]
def K12.x55(P:iR):iS:=Obj.mk (Value.type "dict") none (Data.dict #[hE P "__module__" 237 (vS "turnery.errors" 194),hE P "__firstlineno__" 241 (vI 9 240),hE P "__static_attributes__" 242 (vR 54),hE P "__doc__" 243 vNo] 2) #[]
def K12.x56(P:iR):iS:=Obj.mk (Value.type "type") none (Data.cls (ClassData.mk (iT "NoTurning") [vR 31] [vR 56,vR 31,Value.type "ValueError",Value.type "Exception",Value.type "BaseException",Value.type "object"] 55 (iT "NoTurning") true [] [] false none false)) #[some (vR 47),none,some (vS "NoTurning" 230),some (vS "NoTurning" 238),some (Value.builtin "ValueError.__new__"),some (Value.bool true)]
def K12.x61(P:iR):iS:=oT #[vS "text" 261,vS "told" 262,vS "start" 263,vS "word" 264]
def K12.x64(P:iR):iS:=oD "words" "words" 258 17 1 59 265
def K12.x65(P:iR):iS:=oF vF "words" "words" (top 11) 3 (vS "turnery.words" 246) (vR 64)
def K12.x68(P:iR):iS:=oT #[vS "text" 271,vS "start" 272,vS "first" 273]
def K12.x71(P:iR):iS:=oD "word_at" "word_at" 268 30 2 66 274
def K12.x72(P:iR):iS:=oF vF "word_at" "word_at" (top 12) 3 (vS "turnery.words" 246) (vR 71)
def K12.x75(P:iR):iS:=oT #[vS "text" 280,vS "start" 281,vS "name" 282]
def K12.x78(P:iR):iS:=oD "name_at" "name_at" 277 41 2 73 283
def K12.x79(P:iR):iS:=oF vF "name_at" "name_at" (top 13) 3 (vS "turnery.words" 246) (vR 78)
def K12.x82(P:iR):iS:=oT #[vS "text" 289,vS "start" 290,vS "figures" 291]
def K12.x85(P:iR):iS:=oD "below_zero_at" "below_zero_at" 286 46 2 80 292
def K12.x86(P:iR):iS:=oF vF "below_zero_at" "below_zero_at" (top 14) 3 (vS "turnery.words" 246) (vR 85)
def K12.x89(P:iR):iS:=oT #[vS "text" 298,vS "start" 299,vS "figures" 300]
def K12.x92(P:iR):iS:=oD "figures_at" "figures_at" 295 51 2 87 301
def K12.x93(P:iR):iS:=oF vF "figures_at" "figures_at" (top 15) 3 (vS "turnery.words" 246) (vR 92)
def K12.x96(P:iR):iS:=oT #[vS "text" 307,vS "start" 308,vS "signs" 309,vS "end" 310]
def K12.x99(P:iR):iS:=oD "run_at" "run_at" 304 60 3 94 311
def K12.x100(P:iR):iS:=oF vF "run_at" "run_at" (top 16) 3 (vS "turnery.words" 246) (vR 99)
def K12.x113(P:iR):iS:=oD "__init__" "Reader.__init__" 328 68 2 108 333
def K12.x114(P:iR):iS:=oF vF "__init__" "Reader.__init__" (L2.inClass (top 18) 0) 3 (12:) (vR 113)
def K12.x120(P:iR):iS:=oD "ahead" "Reader.ahead" 336 72 1 115 340
def K12.x121(P:iR):iS:=oF vF "ahead" "Reader.ahead" (L2.inClass (top 18) 1) 3 (12:) (vR 120)
def K12.x127(P:iR):iS:=oD "at_name" "Reader.at_name" 343 77 1 122 347
def K12.x128(P:iR):iS:=oF vF "at_name" "Reader.at_name" (L2.inClass (top 18) 2) 3 (12:) (vR 127)
def K12.x134(P:iR):iS:=oD "at_number" "Reader.at_number" 350 80 1 129 354
def K12.x135(P:iR):iS:=oF vF "at_number" "Reader.at_number" (L2.inClass (top 18) 3) 3 (12:) (vR 134)
def K12.x141(P:iR):iS:=oD "passed" "Reader.passed" 357 83 2 136 362
def K12.x142(P:iR):iS:=oF vF "passed" "Reader.passed" (L2.inClass (top 18) 4) 3 (12:) (vR 141)
def K12.x148(P:iR):iS:=oD "need" "Reader.need" 365 89 2 143 370
def K12.x149(P:iR):iS:=oF vF "need" "Reader.need" (L2.inClass (top 18) 5) 3 (12:) (vR 148)
def K12.x155(P:iR):iS:=oD "need_end" "Reader.need_end" 373 93 1 150 378
def K12.x156(P:iR):iS:=oF vF "need_end" "Reader.need_end" (L2.inClass (top 18) 6) 3 (12:) (vR 155)
def K12.x162(P:iR):iS:=oD "take_name" "Reader.take_name" 381 98 1 157 385
def K12.x163(P:iR):iS:=oF vF "take_name" "Reader.take_name" (L2.inClass (top 18) 7) 3 (12:) (vR 162)
def K12.x169(P:iR):iS:=oD "take_number" "Reader.take_number" 388 103 1 164 392
def K12.x170(P:iR):iS:=oF vF "take_number" "Reader.take_number" (L2.inClass (top 18) 8) 3 (12:) (vR 169)
def K12.x176(P:iR):iS:=oD "take_word" "Reader.take_word" 395 108 1 171 400
def K12.x177(P:iR):iS:=oF vF "take_word" "Reader.take_word" (L2.inClass (top 18) 9) 3 (12:) (vR 176)
def K12.x180(P:iR):iS:=oT #[vS "self" 406,vS "take_one" 407,vS "taken" 408]
def K12.x183(P:iR):iS:=oD "in_brackets" "Reader.in_brackets" 403 113 2 178 409
def K12.x184(P:iR):iS:=oF vF "in_brackets" "Reader.in_brackets" (L2.inClass (top 18) 10) 3 (12:) (vR 183)
def K12.x187(P:iR):iS:=oT #[vS "self" 415,vS "sign" 416,vS "take_one" 417]
def K12.x190(P:iR):iS:=oD "parted_by" "Reader.parted_by" 412 121 3 185 418
def K12.x191(P:iR):iS:=oF vF "parted_by" "Reader.parted_by" (L2.inClass (top 18) 11) 3 (12:) (vR 190)
def K12.x193(P:iR):iS:=Obj.mk (Value.type "dict") none (Data.dict #[hE P "__module__" 323 (12:),hE P "__firstlineno__" 327 (vI 66 326),hE P "__init__" 335 (vR 114),hE P "ahead" 342 (vR 121),hE P "at_name" 349 (vR 128),hE P "at_number" 356 (vR 135),hE P "passed" 364 (vR 142),hE P "need" 372 (vR 149),hE P "need_end" 380 (vR 156),hE P "take_name" 387 (vR 163),hE P "take_number" 394 (vR 170),hE P "take_word" 402 (vR 177),hE P "in_brackets" 411 (vR 184),hE P "parted_by" 420 (vR 191),hE P "__static_attributes__" 423 (vR 192),hE P "__dict__" 425 (vR 195),hE P "__weakref__" 427 (vR 196),hE P "__doc__" 428 vNo] 4) #[]
def K12.x194(P:iR):iS:=Obj.mk (Value.type "type") none (Data.cls (ClassData.mk (iT "Reader") [Value.type "object"] [vR 194,Value.type "object"] 193 (iT "Reader") true [] [] false none false)) #[none,none,some (vS "Reader" 316),some (vS "Reader" 324),some (Value.builtin "object.__new__"),some (Value.bool true)]
def K12.x195(P:iR):iS:=Obj.mk (Value.type "getset_descriptor") none (Data.fields #[vS "__dict__" 424,vR 194,Value.builtin "function.__dict__",Value.builtin "function.__dict__#set"]) #[]
def K12.x196(P:iR):iS:=Obj.mk (Value.type "getset_descriptor") none (Data.fields #[vS "__weakref__" 426,vR 194,Value.builtin "ExceptionGroup.__weakref__",vNo]) #[]
def K12.x204(P:iR):iS:=oD "begins_in" "begins_in" 431 123 2 199 436
def K12.x205(P:iR):iS:=oF vF "begins_in" "begins_in" (top 19) 3 (12:) (vR 204)
def K12.x211(P:iR):iS:=oD "is_call" "is_call" 441 126 1 206 445
def K12.x212(P:iR):iS:=oF vF "is_call" "is_call" (top 21) 3 (vS "turnery.terms" 439) (vR 211)
def K12.x216(P:iR):iS:=oZ "term_size" "term_size" 448 128 1 213 451 215
def K12.x217(P:iR):iS:=oF vF "term_size" "term_size" (top 22) 3 (vS "turnery.terms" 439) (vR 216)
def K12.x220(P:iR):iS:=oT #[vS "term" 457,vS "told" 458,vS "part" 459]
def K12.x223(P:iR):iS:=oD "calls_of" "calls_of" 454 132 1 218 460
def K12.x224(P:iR):iS:=oF vF "calls_of" "calls_of" (top 23) 3 (vS "turnery.terms" 439) (vR 223)
def K12.x228(P:iR):iS:=oZ "keeps_mark" "keeps_mark" 463 139 1 225 466 227
def K12.x229(P:iR):iS:=oF vF "keeps_mark" "keeps_mark" (top 24) 3 (vS "turnery.terms" 439) (vR 228)
def K12.x233(P:iR):iS:=oZ "with_modes" "with_modes" 469 143 2 230 472 232
def K12.x234(P:iR):iS:=oF vF "with_modes" "with_modes" (top 25) 3 (vS "turnery.terms" 439) (vR 233)
def K12.x240(P:iR):iS:=oD "with_parts" "with_parts" 475 147 2 235 480
def K12.x241(P:iR):iS:=oF vF "with_parts" "with_parts" (top 26) 3 (vS "turnery.terms" 439) (vR 240)
def K12.x247(P:iR):iS:=oD "show_mark" "show_mark" 485 150 1 242 489
def K12.x248(P:iR):iS:=oF vF "show_mark" "show_mark" (top 28) 3 (vS "turnery.treetexts" 483) (vR 247)
def K12.x254(P:iR):iS:=oD "show_in_brackets" "show_in_brackets" 492 152 1 249 496
def K12.x255(P:iR):iS:=oF vF "show_in_brackets" "show_in_brackets" (top 29) 3 (vS "turnery.treetexts" 483) (vR 254)
def K12.x261(P:iR):iS:=oD "has_one_twice" "has_one_twice" 501 157 1 256 505
def K12.x262(P:iR):iS:=oF vF "has_one_twice" "has_one_twice" (top 31) 3 (vS "turnery.woods" 499) (vR 261)
def K12.x266(P:iR):iS:=oZ "own_wood" "own_wood" 508 159 1 263 511 265
def K12.x267(P:iR):iS:=oF vF "own_wood" "own_wood" (top 32) 3 (vS "turnery.woods" 499) (vR 266)
def K12.x273(P:iR):iS:=oD "rows_of" "rows_of" 514 161 2 268 519
def K12.x274(P:iR):iS:=oF vF "rows_of" "rows_of" (top 33) 3 (vS "turnery.woods" 499) (vR 273)
def K12.x277(P:iR):iS:=oT #[vS "wood" 525,vS "kind" 526,vS "name" 527]
def K12.x280(P:iR):iS:=oD "row_of" "row_of" 522 163 3 275 528
def K12.x281(P:iR):iS:=oF vF "row_of" "row_of" (top 34) 3 (vS "turnery.woods" 499) (vR 280)
def K12.x285(P:iR):iS:=oZ "is_sound" "is_sound" 533 166 3 282 536 284
def K12.x286(P:iR):iS:=oF vF "is_sound" "is_sound" (top 36) 3 (vS "turnery.turnings" 531) (vR 285)
def K12.x290(P:iR):iS:=oZ "rules_fit" "rules_fit" 539 170 4 287 542 289
def K12.x291(P:iR):iS:=oF vF "rules_fit" "rules_fit" (top 37) 3 (vS "turnery.turnings" 531) (vR 290)
def K12.x295(P:iR):iS:=oZ "calls_fit" "calls_fit" 545 175 3 292 548 294
def K12.x296(P:iR):iS:=oF vF "calls_fit" "calls_fit" (top 38) 3 (vS "turnery.turnings" 531) (vR 295)
def K12.x299(P:iR):iS:=oT #[vS "modes" 554,vS "mode" 555,vS "branch" 556,vS "kinds" 557]
def K12.x302(P:iR):iS:=oD "call_fits" "call_fits" 551 177 4 297 558
def K12.x303(P:iR):iS:=oF vF "call_fits" "call_fits" (top 39) 3 (vS "turnery.turnings" 531) (vR 302)
def K12.x306(P:iR):iS:=oT #[vS "wood" 572,vS "text" 573,vS "reader" 574,vS "start" 575,vS "rules" 576]
def K12.x309(P:iR):iS:=oD "read_turning" "read_turning" 569 185 2 304 577
def K12.x310(P:iR):iS:=oF vF "read_turning" "read_turning" (top 44) 3 (15:) (vR 309)
def K12.x313(P:iR):iS:=oT #[vS "reader" 583,vS "mode" 584,vS "kind" 585,vS "name" 586]
def K12.x316(P:iR):iS:=oD "rule_from" "rule_from" 580 194 1 311 587
def K12.x317(P:iR):iS:=oF vF "rule_from" "rule_from" (top 45) 3 (15:) (vR 316)
def K12.x320(P:iR):iS:=oT #[vS "reader" 593,vS "room" 594,vS "mode" 595,vS "name" 596,vS "kept" 597,vS "add" 598]
def K12.x323(P:iR):iS:=oD "term_from" "term_from" 590 200 2 318 601
def K12.x324(P:iR):iS:=oF vF "term_from" "term_from" (top 46) 3 (15:) (vR 323)
def K12.x328(P:iR):iS:=oZ "check_numbers" "check_numbers" 604 210 2 325 607 327
def K12.x329(P:iR):iS:=oF vF "check_numbers" "check_numbers" (top 47) 3 (15:) (vR 328)
def K12.x333(P:iR):iS:=oZ "turning_of" "turning_of" 610 215 3 330 613 332
def K12.x334(P:iR):iS:=oF vF "turning_of" "turning_of" (top 48) 3 (15:) (vR 333)
def K12.x338(P:iR):iS:=oZ "mode_of" "mode_of" 616 226 3 335 619 337
def K12.x339(P:iR):iS:=oF vF "mode_of" "mode_of" (top 49) 3 (15:) (vR 338)
def K12.x343(P:iR):iS:=oZ "check_mode" "check_mode" 622 231 4 340 625 342
def K12.x344(P:iR):iS:=oF vF "check_mode" "check_mode" (top 50) 3 (15:) (vR 343)
def K12.x347(P:iR):iS:=oT #[vS "term" 631,vS "numbers" 632,vS "mode" 633,vS "branch" 634]
def K12.x350(P:iR):iS:=oD "numbered" "numbered" 628 243 2 345 635
def K12.x351(P:iR):iS:=oF vF "numbered" "numbered" (top 51) 3 (15:) (vR 350)
def K12.x354(P:iR):iS:=oT #[vS "turning" 641,vS "shown" 642,vS "mode" 643,vS "told" 644]
def K12.x357(P:iR):iS:=oD "show_turning" "show_turning" 638 248 1 352 645
def K12.x358(P:iR):iS:=oF vF "show_turning" "show_turning" (top 52) 3 (15:) (vR 357)
def K12.x362(P:iR):iS:=oZ "show_rules" "show_rules" 648 253 4 359 651 361
def K12.x363(P:iR):iS:=oF vF "show_rules" "show_rules" (top 53) 3 (15:) (vR 362)
def K12.x367(P:iR):iS:=oZ "show_term" "show_term" 654 256 1 364 657 366
def K12.x368(P:iR):iS:=oF vF "show_term" "show_term" (top 54) 3 (15:) (vR 367)
def K12.x371(P:iR):iS:=oT #[vS "mode" 663,vS "base" 664,vS "shown" 665,vS "rest" 666]
def K12.x374(P:iR):iS:=oD "show_mode" "show_mode" 660 261 1 369 667
def K12.x375(P:iR):iS:=oF vF "show_mode" "show_mode" (top 55) 3 (15:) (vR 374)
def K12.x378(P:iR):iS:=oT #[vS "_law_script" 675,vS "_law_k" 676]
def K12.x381(P:iR):iS:=oD "_law_cell_at" "_law_cell_at" 672 270 2 376 677
def K12.x382(P:iR):iS:=oF vF "_law_cell_at" "_law_cell_at" (top 57) 3 mN (vR 381)
def K12.x386(P:iR):iS:=oZ "_law_names" "_law_names" 680 274 3 383 683 385
def K12.x387(P:iR):iS:=oF vF "_law_names" "_law_names" (top 58) 3 mN (vR 386)
def K12.x391(P:iR):iS:=oZ "_law_rows" "_law_rows" 686 283 4 388 689 390
def K12.x392(P:iR):iS:=oF vF "_law_rows" "_law_rows" (top 59) 3 mN (vR 391)
def K12.x395(P:iR):iS:=oT #[vS "_law_number" 695,vS "_law_branches" 696,vS "_law_modes" 697,vS "_law_able" 698,vS "_law_k" 699,vS "_law_j" 700]
def K12.x398(P:iR):iS:=oD "_law_call" "_law_call" 692 291 3 393 701
def K12.x399(P:iR):iS:=oF vF "_law_call" "_law_call" (top 60) 3 mN (vR 398)
def K12.x402(P:iR):iS:=oT #[vS "_law_cells" 707,vS "_law_branches" 708,vS "_law_modes" 709,vS "_law_start" 710,vS "_law_term_here" 711,vS "_law_cell" 712,vS "_law_number" 713,vS "_law_kept" 714,vS "_law_more" 715,vS "_law_parts" 716,vS "_law_add" 717]
def K12.x405(P:iR):iS:=oD "_law_term" "_law_term" 704 300 4 400 718
def K12.x406(P:iR):iS:=oF vF "_law_term" "_law_term" (top 61) 3 mN (vR 405)
def K12.x409(P:iR):iS:=oT #[vS "_law_term_here" 724,vS "_law_names_here" 725,vS "_law_full" 726,vS "_law_row" 727,vS "_law_part" 728]
def K12.x412(P:iR):iS:=oD "_law_words" "_law_words" 721 310 3 407 729
def K12.x413(P:iR):iS:=oF vF "_law_words" "_law_words" (top 62) 3 mN (vR 412)
def K12.x416(P:iR):iS:=oT #[vS "_law_row" 735,vS "_law_blanks" 736,vS "_law_text_here" 737,vS "_law_k" 738,vS "_law_gap" 739]
def K12.x419(P:iR):iS:=oD "_law_joined" "_law_joined" 732 324 2 414 740
def K12.x420(P:iR):iS:=oF vF "_law_joined" "_law_joined" (top 63) 3 mN (vR 419)
def K12.x424(P:iR):iS:=oZ "_law_shown" "_law_shown" 743 333 2 421 746 423
def K12.x425(P:iR):iS:=oF vF "_law_shown" "_law_shown" (top 64) 3 mN (vR 424)
def K12.x429(P:iR):iS:=oZ "_law_numbered" "_law_numbered" 749 342 2 426 752 428
def K12.x430(P:iR):iS:=oF vF "_law_numbered" "_law_numbered" (top 65) 3 mN (vR 429)
def K12.x433(P:iR):iS:=oT #[vS "_law_script" 758,vS "_law_wood" 759,vS "_law_own" 760,vS "_law_cells" 761,vS "_law_rules" 762,vS "_law_lots" 763,vS "_law_k" 764,vS "_law_name" 765,vS "_law_branches" 766,vS "_law_start" 767,vS "_law_terms" 768,vS "_law_j" 769,vS "_law_dealt" 770]
def K12.x436(P:iR):iS:=oD "_law_drawn" "_law_drawn" 755 346 3 431 771
def K12.x437(P:iR):iS:=oF vF "_law_drawn" "_law_drawn" (top 66) 3 mN (vR 436)
def K12.x440(P:iR):iS:=oT #[vS "_law_terms" 777,vS "_law_cell" 778,vS "_law_found" 779,vS "_law_number" 780,vS "_law_term_here" 781]
def K12.x443(P:iR):iS:=oD "_law_turned_about" "_law_turned_about" 774 361 2 438 782
def K12.x444(P:iR):iS:=oF vF "_law_turned_about" "_law_turned_about" (top 67) 3 mN (vR 443)
def K12.x448(P:iR):iS:=oZ "_law_due" "_law_due" 785 368 4 445 788 447
def K12.x449(P:iR):iS:=oF vF "_law_due" "_law_due" (top 68) 3 mN (vR 448)
def K12.x452(P:iR):iS:=oT #[vS "_law_due_here" 794,vS "_law_text_here" 795,vS "_law_k" 796,vS "_law_kind" 797,vS "_law_rules" 798,vS "_law_row" 799,vS "_law_rule" 800]
def K12.x455(P:iR):iS:=oD "_law_text" "_law_text" 791 380 1 450 801
def K12.x456(P:iR):iS:=oF vF "_law_text" "_law_text" (top 69) 3 mN (vR 455)
def K12.x460(P:iR):iS:=oZ "law" "law" 804 388 1 457 807 459
def K12.x461(P:iR):iS:=oF vF "law" "law" (top 70) 3 mN (vR 460)
def K12.hp:Params->Fg:=λP=>[(2,Obj.mk vNo none (Data.dict #[]) #[]),(3,x3 P),(15,oT #[]),(17,oT #[vS "k" 190]),(18,oT #[]),(20,x20 P),(21,x21 P),(22,oT #[Value.type "ValueError"]),(29,oT #[]),(30,x30 P),(31,x31 P),(32,x32 P),(35,oT #[vR 31]),(42,oT #[]),(43,x43 P),(44,x44 P),(47,oT #[vR 31]),(54,oT #[]),(55,x55 P),(56,x56 P),(59,oT #[]),(61,x61 P),(62,oT #[]),(64,x64 P),(65,x65 P),(66,oT #[]),(68,x68 P),(69,oT #[]),(71,x71 P),(72,x72 P),(73,oT #[]),(75,x75 P),(76,oT #[]),(78,x78 P),(79,x79 P),(80,oT #[]),(82,x82 P),(83,oT #[]),(85,x85 P),(86,x86 P),(87,oT #[]),(89,x89 P),(90,oT #[]),(92,x92 P),(93,x93 P),(94,oT #[]),(96,x96 P),(97,oT #[]),(99,x99 P),(100,x100 P),(108,oT #[]),(110,oT #[vS "self" 331,vS "text" 332]),(111,oT #[]),(113,x113 P),(114,x114 P),(115,oT #[]),(117,oT #[vS "self" 339]),(118,oT #[]),(120,x120 P),(121,x121 P),(122,oT #[]),(124,oT #[vS "self" 346]),(125,oT #[]),(127,x127 P),(128,x128 P),(129,oT #[]),(131,oT #[vS "self" 353]),(132,oT #[]),(134,x134 P),(135,x135 P),(136,oT #[]),(138,oT #[vS "self" 360,vS "sign" 361]),(139,oT #[]),(141,x141 P),(142,x142 P),(143,oT #[]),(145,oT #[vS "self" 368,vS "sign" 369]),(146,oT #[]),(148,x148 P),(149,x149 P),(150,oT #[]),(152,oT #[vS "self" 376,vS "word" 377]),(153,oT #[]),(155,x155 P),(156,x156 P),(157,oT #[]),(159,oT #[vS "self" 384]),(160,oT #[]),(162,x162 P),(163,x163 P),(164,oT #[]),(166,oT #[vS "self" 391]),(167,oT #[]),(169,x169 P),(170,x170 P),(171,oT #[]),(173,oT #[vS "self" 398,vS "word" 399]),(174,oT #[]),(176,x176 P),(177,x177 P),(178,oT #[]),(180,x180 P),(181,oT #[]),(183,x183 P),(184,x184 P),(185,oT #[]),(187,x187 P),(188,oT #[]),(190,x190 P),(191,x191 P),(192,oT #[vS "found" 421,vS "spot" 422]),(193,x193 P),(194,x194 P),(195,x195 P),(196,x196 P),(199,oT #[]),(201,oT #[vS "word" 434,vS "signs" 435]),(202,oT #[]),(204,x204 P),(205,x205 P),(206,oT #[]),(208,oT #[vS "term" 444]),(209,oT #[]),(211,x211 P),(212,x212 P),(213,oT #[]),(216,x216 P),(217,x217 P),(218,oT #[]),(220,x220 P),(221,oT #[]),(223,x223 P),(224,x224 P),(225,oT #[]),(228,x228 P),(229,x229 P),(230,oT #[]),(233,x233 P),(234,x234 P),(235,oT #[]),(237,oT #[vS "term" 478,vS "parts" 479]),(238,oT #[]),(240,x240 P),(241,x241 P),(242,oT #[]),(244,oT #[vS "mark" 488]),(245,oT #[]),(247,x247 P),(248,x248 P),(249,oT #[]),(251,oT #[vS "texts" 495]),(252,oT #[]),(254,x254 P),(255,x255 P),(256,oT #[]),(258,oT #[vS "names" 504]),(259,oT #[]),(261,x261 P),(262,x262 P),(263,oT #[]),(266,x266 P),(267,x267 P),(268,oT #[]),(270,oT #[vS "wood" 517,vS "kind" 518]),(271,oT #[]),(273,x273 P),(274,x274 P),(275,oT #[]),(277,x277 P),(278,oT #[]),(280,x280 P),(281,x281 P),(282,oT #[]),(285,x285 P),(286,x286 P),(287,oT #[]),(290,x290 P),(291,x291 P),(292,oT #[]),(295,x295 P),(296,x296 P),(297,oT #[]),(299,x299 P),(300,oT #[]),(302,x302 P),(303,x303 P),(304,oT #[]),(306,x306 P),(307,oT #[]),(309,x309 P),(310,x310 P),(311,oT #[]),(313,x313 P),(314,oT #[]),(316,x316 P),(317,x317 P),(318,oT #[]),(320,x320 P),(321,oT #[vS "reader" 599,vS "room" 600]),(323,x323 P),(324,x324 P),(325,oT #[]),(328,x328 P),(329,x329 P),(330,oT #[]),(333,x333 P),(334,x334 P),(335,oT #[]),(338,x338 P),(339,x339 P),(340,oT #[]),(343,x343 P),(344,x344 P),(345,oT #[]),(347,x347 P),(348,oT #[]),(350,x350 P),(351,x351 P),(352,oT #[]),(354,x354 P),(355,oT #[]),(357,x357 P),(358,x358 P),(359,oT #[]),(362,x362 P),(363,x363 P),(364,oT #[]),(367,x367 P),(368,x368 P),(369,oT #[]),(371,x371 P),(372,oT #[]),(374,x374 P),(375,x375 P),(376,oT #[]),(378,x378 P),(379,oT #[]),(381,x381 P),(382,x382 P),(383,oT #[]),(386,x386 P),(387,x387 P),(388,oT #[]),(391,x391 P),(392,x392 P),(393,oT #[]),(395,x395 P),(396,oT #[]),(398,x398 P),(399,x399 P),(400,oT #[]),(402,x402 P),(403,oT #[]),(405,x405 P),(406,x406 P),(407,oT #[]),(409,x409 P),(410,oT #[]),(412,x412 P),(413,x413 P),(414,oT #[]),(416,x416 P),(417,oT #[]),(419,x419 P),(420,x420 P),(421,oT #[]),(424,x424 P),(425,x425 P),(426,oT #[]),(429,x429 P),(430,x430 P),(431,oT #[]),(433,x433 P),(434,oT #[]),(436,x436 P),(437,x437 P),(438,oT #[]),(440,x440 P),(441,oT #[]),(443,x443 P),(444,x444 P),(445,oT #[]),(448,x448 P),(449,x449 P),(450,oT #[]),(452,x452 P),(453,oT #[]),(455,x455 P),(456,x456 P),(457,oT #[]),(460,x460 P),(461,x461 P)]
end
def PySem.W.Fast.tw4617492522077791210:PySem.Params->Fg:=K12.hp
theorem PySem.W.Fast.te4617492522077791210:K12.hp=PySem.W.Fast.tw4617492522077791210:=rfl
namespace PySem.W.Fast
open PySem K12
def tw17640225596901027475:iR->iS:=λP=>oF vF "show_in_brackets" "show_in_brackets" (top 29) 3 (vS "turnery.treetexts" 483) (vR 254)
def te17640225596901027475:=@rfl _ tw17640225596901027475
def tw15733250843645815551:iR->iS:=λP=>oF vF "term_size" "term_size" (top 22) 3 (vS "turnery.terms" 439) (vR 216)
def te15733250843645815551:=@rfl _ tw15733250843645815551
def tw15816684501862541035:iR->iS:=λP=>oF vNo "mode_of" "mode_of" (top 49) 0 vNo vNo
def te15816684501862541035:=@rfl _ tw15816684501862541035
def tw3090577369027404366:iR->iS:=λP=>oF vF "calls_fit" "calls_fit" (top 38) 3 (vS "turnery.turnings" 531) (vR 295)
def te3090577369027404366:=@rfl _ tw3090577369027404366
def tw2106475609793461497:iR->iS:=λP=>oF vNo "calls_fit" "calls_fit" (top 38) 0 vNo vNo
def te2106475609793461497:=@rfl _ tw2106475609793461497
def tw9418034571904592602:iR->iS:=λP=>oF vNo "figures_at" "figures_at" (top 15) 0 vNo vNo
def te9418034571904592602:=@rfl _ tw9418034571904592602
def tw16860791973273656285:iR->iS:=λP=>oF vF "is_sound" "is_sound" (top 36) 3 (vS "turnery.turnings" 531) (vR 285)
def te16860791973273656285:=@rfl _ tw16860791973273656285
def tw13034300430362637070:iR->iS:=λP=>oF vF "take_name" "Reader.take_name" (L2.inClass (top 18) 7) 3 (12:) (vR 162)
def te13034300430362637070:=@rfl _ tw13034300430362637070
def tw16992323116721600650:iR->iS:=λP=>oF vNo "_law_term" "_law_term" (top 61) 0 vNo vNo
def te16992323116721600650:=@rfl _ tw16992323116721600650
def tw372224558406082902:iR->iS:=λP=>oF vNo "term_from" "term_from" (top 46) 0 vNo vNo
def te372224558406082902:=@rfl _ tw372224558406082902
def tw817247609939362344:iR->iS:=λP=>oF vF "_law_cell_at" "_law_cell_at" (top 57) 3 mN (vR 381)
def te817247609939362344:=@rfl _ tw817247609939362344
def tw1566374238156201650:iR->iS:=λP=>oF vF "__init__" "Reader.__init__" (L2.inClass (top 18) 0) 3 (12:) (vR 113)
def te1566374238156201650:=@rfl _ tw1566374238156201650
def tw2030244279538353413:iR->iS:=λP=>oF vNo "show_in_brackets" "show_in_brackets" (top 29) 0 vNo vNo
def te2030244279538353413:=@rfl _ tw2030244279538353413
def tw1243102071298633044:iR->iS:=λP=>oF vF "begins_in" "begins_in" (top 19) 3 (12:) (vR 204)
def te1243102071298633044:=@rfl _ tw1243102071298633044
def tw7766138561211437797:iR->iS:=λP=>oF vF "at_name" "Reader.at_name" (L2.inClass (top 18) 2) 3 (12:) (vR 127)
def te7766138561211437797:=@rfl _ tw7766138561211437797
def tw3793932280767564106:iR->iS:=λP=>oF vNo "show_term" "show_term" (top 54) 0 vNo vNo
def te3793932280767564106:=@rfl _ tw3793932280767564106
def tw15248537426934850931:iR->iS:=λP=>oF vNo "at_number" "Reader.at_number" (L2.inClass (top 18) 3) 0 vNo vNo
def te15248537426934850931:=@rfl _ tw15248537426934850931
def tw10203538900562545297:iR->iS:=λP=>oF vNo "word_at" "word_at" (top 12) 0 vNo vNo
def te10203538900562545297:=@rfl _ tw10203538900562545297
def tw4340483024396123595:iR->iS:=λP=>oF vF "own_wood" "own_wood" (top 32) 3 (vS "turnery.woods" 499) (vR 266)
def te4340483024396123595:=@rfl _ tw4340483024396123595
def tw4103034774565799512:iR->iS:=λP=>oF vNo "row_of" "row_of" (top 34) 0 vNo vNo
def te4103034774565799512:=@rfl _ tw4103034774565799512
def tw6742823023896771087:iR->iS:=λP=>oF vF "_law_term" "_law_term" (top 61) 3 mN (vR 405)
def te6742823023896771087:=@rfl _ tw6742823023896771087
def tw17361273597388630850:iR->iS:=λP=>oF vF "turning_of" "turning_of" (top 48) 3 (15:) (vR 333)
def te17361273597388630850:=@rfl _ tw17361273597388630850
def tw17973996706549069735:iR->iS:=λP=>oF vNo "_law_drawn" "_law_drawn" (top 66) 0 vNo vNo
def te17973996706549069735:=@rfl _ tw17973996706549069735
def tw6550947755325193856:iR->iS:=λP=>oF vF "calls_of" "calls_of" (top 23) 3 (vS "turnery.terms" 439) (vR 223)
def te6550947755325193856:=@rfl _ tw6550947755325193856
def tw6427097991947014143:iR->iS:=λP=>oF vF "_law_shown" "_law_shown" (top 64) 3 mN (vR 424)
def te6427097991947014143:=@rfl _ tw6427097991947014143
def tw5706277551917257631:iR->iS:=λP=>oF vNo "read_turning" "read_turning" (top 44) 0 vNo vNo
def te5706277551917257631:=@rfl _ tw5706277551917257631
def tw8462730360694672670:iR->iS:=λP=>oF vF "check_mode" "check_mode" (top 50) 3 (15:) (vR 343)
def te8462730360694672670:=@rfl _ tw8462730360694672670
def tw10415334961818017424:iR->iS:=λP=>oF vF "show_turning" "show_turning" (top 52) 3 (15:) (vR 357)
def te10415334961818017424:=@rfl _ tw10415334961818017424
def tw4265113629454178229:iR->iS:=λP=>oF vF "_law_due" "_law_due" (top 68) 3 mN (vR 448)
def te4265113629454178229:=@rfl _ tw4265113629454178229
def tw11443577457149109012:iR->iS:=λP=>oF vNo "is_sound" "is_sound" (top 36) 0 vNo vNo
def te11443577457149109012:=@rfl _ tw11443577457149109012
def tw2839914897201981550:iR->iS:=λP=>oF vNo "numbered" "numbered" (top 51) 0 vNo vNo
def te2839914897201981550:=@rfl _ tw2839914897201981550
def tw7746031064628158:iR->iS:=λP=>oF vF "term_from" "term_from" (top 46) 3 (15:) (vR 323)
def te7746031064628158:=@rfl _ tw7746031064628158
def tw17115495721702747730:iR->iS:=λP=>oF vNo "_wall" "_wall" (top 0) 0 vNo vNo
def te17115495721702747730:=@rfl _ tw17115495721702747730
def tw2973458509595009807:iR->iS:=λP=>oF vNo "_law_words" "_law_words" (top 62) 0 vNo vNo
def te2973458509595009807:=@rfl _ tw2973458509595009807
def tw10996248717682299151:iR->iS:=λP=>oF vF "rule_from" "rule_from" (top 45) 3 (15:) (vR 316)
def te10996248717682299151:=@rfl _ tw10996248717682299151
def tw6600920969722304703:iR->iS:=λP=>oF vF "show_mode" "show_mode" (top 55) 3 (15:) (vR 374)
def te6600920969722304703:=@rfl _ tw6600920969722304703
def tw12935644608758378217:iR->iS:=λP=>oF vNo "_law_call" "_law_call" (top 60) 0 vNo vNo
def te12935644608758378217:=@rfl _ tw12935644608758378217
def tw3351139850273483820:iR->iS:=λP=>oF vF "_law_rows" "_law_rows" (top 59) 3 mN (vR 391)
def te3351139850273483820:=@rfl _ tw3351139850273483820
def tw9670472666508080137:iR->iS:=λP=>oF vNo "take_number" "Reader.take_number" (L2.inClass (top 18) 8) 0 vNo vNo
def te9670472666508080137:=@rfl _ tw9670472666508080137
def tw6724682831194237952:iR->iS:=λP=>oF vNo "passed" "Reader.passed" (L2.inClass (top 18) 4) 0 vNo vNo
def te6724682831194237952:=@rfl _ tw6724682831194237952
def tw4489368954697911098:iR->iS:=λP=>oF vNo "_law_joined" "_law_joined" (top 63) 0 vNo vNo
def te4489368954697911098:=@rfl _ tw4489368954697911098
def tw9510146176121347345:iR->iS:=λP=>oF vF "ahead" "Reader.ahead" (L2.inClass (top 18) 1) 3 (12:) (vR 120)
def te9510146176121347345:=@rfl _ tw9510146176121347345
def tw11861177465453015131:iR->iS:=λP=>oF vNo "_law_numbered" "_law_numbered" (top 65) 0 vNo vNo
def te11861177465453015131:=@rfl _ tw11861177465453015131
def tw10499645537863594471:iR->iS:=λP=>oF vNo "has_one_twice" "has_one_twice" (top 31) 0 vNo vNo
def te10499645537863594471:=@rfl _ tw10499645537863594471
def tw12364224036871541902:iR->iS:=λP=>oF vF "read_turning" "read_turning" (top 44) 3 (15:) (vR 309)
def te12364224036871541902:=@rfl _ tw12364224036871541902
def tw903364113267198857:iR->iS:=λP=>oF vF "_law_words" "_law_words" (top 62) 3 mN (vR 412)
def te903364113267198857:=@rfl _ tw903364113267198857
def tw4684449313014701601:iR->iS:=λP=>oF vNo "own_wood" "own_wood" (top 32) 0 vNo vNo
def te4684449313014701601:=@rfl _ tw4684449313014701601
def tw17962467552812649170:iR->iS:=λP=>oF vF "show_term" "show_term" (top 54) 3 (15:) (vR 367)
def te17962467552812649170:=@rfl _ tw17962467552812649170
def tw11700021023266655318:iR->iS:=λP=>oF vNo "begins_in" "begins_in" (top 19) 0 vNo vNo
def te11700021023266655318:=@rfl _ tw11700021023266655318
def tw15153773397634616276:iR->iS:=λP=>oF vF "is_call" "is_call" (top 21) 3 (vS "turnery.terms" 439) (vR 211)
def te15153773397634616276:=@rfl _ tw15153773397634616276
def tw8353315833124234708:iR->iS:=λP=>oF vF "figures_at" "figures_at" (top 15) 3 (vS "turnery.words" 246) (vR 92)
def te8353315833124234708:=@rfl _ tw8353315833124234708
def tw11553788994166785426:iR->iS:=λP=>oF vNo "run_at" "run_at" (top 16) 0 vNo vNo
def te11553788994166785426:=@rfl _ tw11553788994166785426
def tw3672806959024109996:iR->iS:=λP=>oF vNo "_law_turned_about" "_law_turned_about" (top 67) 0 vNo vNo
def te3672806959024109996:=@rfl _ tw3672806959024109996
def tw3273728314305874484:iR->iS:=λP=>oF vNo "take_name" "Reader.take_name" (L2.inClass (top 18) 7) 0 vNo vNo
def te3273728314305874484:=@rfl _ tw3273728314305874484
def tw16976379950682686826:iR->iS:=λP=>oF vNo "rules_fit" "rules_fit" (top 37) 0 vNo vNo
def te16976379950682686826:=@rfl _ tw16976379950682686826
def tw14753988565902382174:iR->iS:=λP=>oF vNo "calls_of" "calls_of" (top 23) 0 vNo vNo
def te14753988565902382174:=@rfl _ tw14753988565902382174
def tw8236678046454817004:iR->iS:=λP=>oF vNo "rule_from" "rule_from" (top 45) 0 vNo vNo
def te8236678046454817004:=@rfl _ tw8236678046454817004
def tw5370331330447184734:iR->iS:=λP=>oF vNo "rows_of" "rows_of" (top 33) 0 vNo vNo
def te5370331330447184734:=@rfl _ tw5370331330447184734
def tw16466004129311257996:iR->iS:=λP=>oF vF "row_of" "row_of" (top 34) 3 (vS "turnery.woods" 499) (vR 280)
def te16466004129311257996:=@rfl _ tw16466004129311257996
def tw6347418586525601536:iR->iS:=λP=>oF vF "take_number" "Reader.take_number" (L2.inClass (top 18) 8) 3 (12:) (vR 169)
def te6347418586525601536:=@rfl _ tw6347418586525601536
def tw1738022833559590790:iR->iS:=λP=>oF vF "passed" "Reader.passed" (L2.inClass (top 18) 4) 3 (12:) (vR 141)
def te1738022833559590790:=@rfl _ tw1738022833559590790
def tw3734156364961258454:iR->iS:=λP=>oF vNo "_law_shown" "_law_shown" (top 64) 0 vNo vNo
def te3734156364961258454:=@rfl _ tw3734156364961258454
def tw12775047765517602150:iR->iS:=λP=>oF vNo "with_modes" "with_modes" (top 25) 0 vNo vNo
def te12775047765517602150:=@rfl _ tw12775047765517602150
def tw9723915686972388870:iR->iS:=λP=>oF vNo "keeps_mark" "keeps_mark" (top 24) 0 vNo vNo
def te9723915686972388870:=@rfl _ tw9723915686972388870
def tw10891303197762149066:iR->iS:=λP=>oF vF "with_parts" "with_parts" (top 26) 3 (vS "turnery.terms" 439) (vR 240)
def te10891303197762149066:=@rfl _ tw10891303197762149066
def tw6765703166246949680:iR->iS:=λP=>oF vNo "take_word" "Reader.take_word" (L2.inClass (top 18) 9) 0 vNo vNo
def te6765703166246949680:=@rfl _ tw6765703166246949680
def tw12630872943013190690:iR->iS:=λP=>oF vF "_law_joined" "_law_joined" (top 63) 3 mN (vR 419)
def te12630872943013190690:=@rfl _ tw12630872943013190690
def tw12078139030104094363:iR->iS:=λP=>oF vNo "check_mode" "check_mode" (top 50) 0 vNo vNo
def te12078139030104094363:=@rfl _ tw12078139030104094363
def tw11141400077792255917:iR->iS:=λP=>oF vF "run_at" "run_at" (top 16) 3 (vS "turnery.words" 246) (vR 99)
def te11141400077792255917:=@rfl _ tw11141400077792255917
def tw14003108485861263583:iR->iS:=λP=>oF vNo "show_mark" "show_mark" (top 28) 0 vNo vNo
def te14003108485861263583:=@rfl _ tw14003108485861263583
def tw1176711567354513093:iR->iS:=λP=>oF vF "need" "Reader.need" (L2.inClass (top 18) 5) 3 (12:) (vR 148)
def te1176711567354513093:=@rfl _ tw1176711567354513093
def tw16559649564108034748:iR->iS:=λP=>oF vNo "at_name" "Reader.at_name" (L2.inClass (top 18) 2) 0 vNo vNo
def te16559649564108034748:=@rfl _ tw16559649564108034748
def tw14761971912558661648:iR->iS:=λP=>oF vF "take_word" "Reader.take_word" (L2.inClass (top 18) 9) 3 (12:) (vR 176)
def te14761971912558661648:=@rfl _ tw14761971912558661648
def tw273525094869745169:iR->iS:=λP=>oF vNo "need" "Reader.need" (L2.inClass (top 18) 5) 0 vNo vNo
def te273525094869745169:=@rfl _ tw273525094869745169
def tw15323694901492895615:iR->iS:=λP=>oF vNo "is_call" "is_call" (top 21) 0 vNo vNo
def te15323694901492895615:=@rfl _ tw15323694901492895615
def tw2086010889896533450:iR->iS:=λP=>oF vF "_law_drawn" "_law_drawn" (top 66) 3 mN (vR 436)
def te2086010889896533450:=@rfl _ tw2086010889896533450
def tw18217553390144152008:iR->iS:=λP=>oF vF "below_zero_at" "below_zero_at" (top 14) 3 (vS "turnery.words" 246) (vR 85)
def te18217553390144152008:=@rfl _ tw18217553390144152008
def tw15508030819547531699:iR->iS:=λP=>oF vNo "need_end" "Reader.need_end" (L2.inClass (top 18) 6) 0 vNo vNo
def te15508030819547531699:=@rfl _ tw15508030819547531699
def tw11438790634972780077:iR->iS:=λP=>oF vNo "check_numbers" "check_numbers" (top 47) 0 vNo vNo
def te11438790634972780077:=@rfl _ tw11438790634972780077
def tw13450850718246751109:iR->iS:=λP=>oF vNo "parted_by" "Reader.parted_by" (L2.inClass (top 18) 11) 0 vNo vNo
def te13450850718246751109:=@rfl _ tw13450850718246751109
def tw1630564147114082361:iR->iS:=λP=>oF vNo "call_fits" "call_fits" (top 39) 0 vNo vNo
def te1630564147114082361:=@rfl _ tw1630564147114082361
def tw3854739198061072584:iR->iS:=λP=>oF vNo "show_rules" "show_rules" (top 53) 0 vNo vNo
def te3854739198061072584:=@rfl _ tw3854739198061072584
def tw16678317685438555852:iR->iS:=λP=>oF vF "_law_text" "_law_text" (top 69) 3 mN (vR 455)
def te16678317685438555852:=@rfl _ tw16678317685438555852
def tw17427346868562868912:iR->iS:=λP=>oF vNo "ahead" "Reader.ahead" (L2.inClass (top 18) 1) 0 vNo vNo
def te17427346868562868912:=@rfl _ tw17427346868562868912
def tw5031771776657115082:iR->iS:=λP=>oF vNo "_law_rows" "_law_rows" (top 59) 0 vNo vNo
def te5031771776657115082:=@rfl _ tw5031771776657115082
def tw7656627582578934800:iR->iS:=λP=>oF vF "_law_numbered" "_law_numbered" (top 65) 3 mN (vR 429)
def te7656627582578934800:=@rfl _ tw7656627582578934800
def tw3707919488151104799:iR->iS:=λP=>oF vF "keeps_mark" "keeps_mark" (top 24) 3 (vS "turnery.terms" 439) (vR 228)
def te3707919488151104799:=@rfl _ tw3707919488151104799
def tw14283880139100937491:iR->iS:=λP=>oF vF "with_modes" "with_modes" (top 25) 3 (vS "turnery.terms" 439) (vR 233)
def te14283880139100937491:=@rfl _ tw14283880139100937491
def tw10282358323837872895:iR->iS:=λP=>oF vF "_law_names" "_law_names" (top 58) 3 mN (vR 386)
def te10282358323837872895:=@rfl _ tw10282358323837872895
def tw4729022203966280184:iR->iS:=λP=>oF vF "numbered" "numbered" (top 51) 3 (15:) (vR 350)
def te4729022203966280184:=@rfl _ tw4729022203966280184
def tw8394671906133631338:iR->iS:=λP=>oF vNo "law" "law" (top 70) 0 vNo vNo
def te8394671906133631338:=@rfl _ tw8394671906133631338
def tw13178113824778762361:iR->iS:=λP=>oF vNo "words" "words" (top 11) 0 vNo vNo
def te13178113824778762361:=@rfl _ tw13178113824778762361
def tw10252374391027202964:iR->iS:=λP=>oF vF "mode_of" "mode_of" (top 49) 3 (15:) (vR 338)
def te10252374391027202964:=@rfl _ tw10252374391027202964
def tw1517977741337403447:iR->iS:=λP=>oF vNo "show_turning" "show_turning" (top 52) 0 vNo vNo
def te1517977741337403447:=@rfl _ tw1517977741337403447
def tw17810750361728832017:iR->iS:=λP=>oF vF "law" "law" (top 70) 3 mN (vR 460)
def te17810750361728832017:=@rfl _ tw17810750361728832017
def tw6992696802242079443:iR->iS:=λP=>oF vNo "with_parts" "with_parts" (top 26) 0 vNo vNo
def te6992696802242079443:=@rfl _ tw6992696802242079443
def tw17300335042940411592:iR->iS:=λP=>oF vF "_law_call" "_law_call" (top 60) 3 mN (vR 398)
def te17300335042940411592:=@rfl _ tw17300335042940411592
def tw15945260616027484758:iR->iS:=λP=>oF vF "words" "words" (top 11) 3 (vS "turnery.words" 246) (vR 64)
def te15945260616027484758:=@rfl _ tw15945260616027484758
def tw6488158760785334652:iR->iS:=λP=>oF vF "at_number" "Reader.at_number" (L2.inClass (top 18) 3) 3 (12:) (vR 134)
def te6488158760785334652:=@rfl _ tw6488158760785334652
def tw7899706313307064152:iR->iS:=λP=>oF vF "_law_turned_about" "_law_turned_about" (top 67) 3 mN (vR 443)
def te7899706313307064152:=@rfl _ tw7899706313307064152
def tw4100834993268755802:iR->iS:=λP=>oF vF "in_brackets" "Reader.in_brackets" (L2.inClass (top 18) 10) 3 (12:) (vR 183)
def te4100834993268755802:=@rfl _ tw4100834993268755802
def tw9752997841691269358:iR->iS:=λP=>oF vNo "_law_text" "_law_text" (top 69) 0 vNo vNo
def te9752997841691269358:=@rfl _ tw9752997841691269358
def tw9559591255628777657:iR->iS:=λP=>oF vNo "below_zero_at" "below_zero_at" (top 14) 0 vNo vNo
def te9559591255628777657:=@rfl _ tw9559591255628777657
def tw5219417990503627592:iR->iS:=λP=>oF vNo "_law_cell_at" "_law_cell_at" (top 57) 0 vNo vNo
def te5219417990503627592:=@rfl _ tw5219417990503627592
def tw3606581049089025721:iR->iS:=λP=>oF vF "rows_of" "rows_of" (top 33) 3 (vS "turnery.woods" 499) (vR 273)
def te3606581049089025721:=@rfl _ tw3606581049089025721
def tw13785674750366380545:iR->iS:=λP=>oF vF "show_rules" "show_rules" (top 53) 3 (15:) (vR 362)
def te13785674750366380545:=@rfl _ tw13785674750366380545
def tw2472060086368738020:iR->iS:=λP=>oF vNo "__init__" "Reader.__init__" (L2.inClass (top 18) 0) 0 vNo vNo
def te2472060086368738020:=@rfl _ tw2472060086368738020
def tw7592574399608513494:iR->iS:=λP=>oF vF "rules_fit" "rules_fit" (top 37) 3 (vS "turnery.turnings" 531) (vR 290)
def te7592574399608513494:=@rfl _ tw7592574399608513494
def tw12032806345099846157:iR->iS:=λP=>oF vNo "in_brackets" "Reader.in_brackets" (L2.inClass (top 18) 10) 0 vNo vNo
def te12032806345099846157:=@rfl _ tw12032806345099846157
def tw568828867092839350:iR->iS:=λP=>oF vF "check_numbers" "check_numbers" (top 47) 3 (15:) (vR 328)
def te568828867092839350:=@rfl _ tw568828867092839350
def tw885107620494810055:iR->iS:=λP=>oF vNo "name_at" "name_at" (top 13) 0 vNo vNo
def te885107620494810055:=@rfl _ tw885107620494810055
def tw15965190524187495896:iR->iS:=λP=>oF vNo "show_mode" "show_mode" (top 55) 0 vNo vNo
def te15965190524187495896:=@rfl _ tw15965190524187495896
def tw3011740461100162227:iR->iS:=λP=>oF vF "need_end" "Reader.need_end" (L2.inClass (top 18) 6) 3 (12:) (vR 155)
def te3011740461100162227:=@rfl _ tw3011740461100162227
def tw7046328862485240703:iR->iS:=λP=>oF vF "has_one_twice" "has_one_twice" (top 31) 3 (vS "turnery.woods" 499) (vR 261)
def te7046328862485240703:=@rfl _ tw7046328862485240703
def tw6928693329516704814:iR->iS:=λP=>oF vF "word_at" "word_at" (top 12) 3 (vS "turnery.words" 246) (vR 71)
def te6928693329516704814:=@rfl _ tw6928693329516704814
def tw7239172882992572959:iR->iS:=λP=>oF vF "name_at" "name_at" (top 13) 3 (vS "turnery.words" 246) (vR 78)
def te7239172882992572959:=@rfl _ tw7239172882992572959
def tw3824387045180914113:iR->iS:=λP=>oF vF "show_mark" "show_mark" (top 28) 3 (vS "turnery.treetexts" 483) (vR 247)
def te3824387045180914113:=@rfl _ tw3824387045180914113
def tw4227866285859304389:iR->iS:=λP=>oF vF "call_fits" "call_fits" (top 39) 3 (vS "turnery.turnings" 531) (vR 302)
def te4227866285859304389:=@rfl _ tw4227866285859304389
def tw11595543094136143139:iR->iS:=λP=>oF vNo "_law_names" "_law_names" (top 58) 0 vNo vNo
def te11595543094136143139:=@rfl _ tw11595543094136143139
def tw15750981117972806624:iR->iS:=λP=>oF vNo "term_size" "term_size" (top 22) 0 vNo vNo
def te15750981117972806624:=@rfl _ tw15750981117972806624
def tw4781371765039041463:iR->iS:=λP=>oF vF "_wall" "_wall" (top 0) 3 (vS "__main__" 164) (vR 20)
def te4781371765039041463:=@rfl _ tw4781371765039041463
def tw10979747452404560675:iR->iS:=λP=>oF vF "parted_by" "Reader.parted_by" (L2.inClass (top 18) 11) 3 (12:) (vR 190)
def te10979747452404560675:=@rfl _ tw10979747452404560675
def tw9524538640108910410:iR->iS:=λP=>oF vNo "_law_due" "_law_due" (top 68) 0 vNo vNo
def te9524538640108910410:=@rfl _ tw9524538640108910410
def tw5862519051013590369:iR->iS:=λP=>oF vNo "turning_of" "turning_of" (top 48) 0 vNo vNo
def te5862519051013590369:=@rfl _ tw5862519051013590369
end PySem.W.Fast
def PySem.W.Fast.tw367945217397217983:PySem.Program:=PySem.Challenge.pw_turnery_k12_turnings_read_and_shown
theorem PySem.W.Fast.te367945217397217983:(PySem.Challenge.pw_turnery_k12_turnings_read_and_shown:PySem.Program)=PySem.W.Fast.tw367945217397217983:=rfl
def PySem.W.Fast.tw12107715943149877871:PySem.Program:={ PySem.Challenge.pw_turnery_k12_turnings_read_and_shown with main:={ PySem.Challenge.pw_turnery_k12_turnings_read_and_shown.main with body:=[K12.top 0,K12.top 2,K12.top 3,K12.top 4,K12.top 6,K12.top 7,K12.top 8,K12.top 9,K12.top 10,K12.top 11,K12.top 12,K12.top 13,K12.top 14,K12.top 15,K12.top 16,K12.top 18,K12.top 19,K12.top 21,K12.top 22,K12.top 23,K12.top 24,K12.top 25,K12.top 26,K12.top 28,K12.top 29,K12.top 31,K12.top 32,K12.top 33,K12.top 34,K12.top 36,K12.top 37,K12.top 38,K12.top 39,K12.top 41,K12.top 42,K12.top 43,K12.top 44,K12.top 45,K12.top 46,K12.top 47,K12.top 48,K12.top 49,K12.top 50,K12.top 51,K12.top 52,K12.top 53,K12.top 54,K12.top 55,K12.top 57,K12.top 58,K12.top 59,K12.top 60,K12.top 61,K12.top 62,K12.top 63,K12.top 64,K12.top 65,K12.top 66,K12.top 67,K12.top 68,K12.top 69,K12.top 70] } }
theorem PySem.W.Fast.te12107715943149877871:({ PySem.Challenge.pw_turnery_k12_turnings_read_and_shown with main:={ PySem.Challenge.pw_turnery_k12_turnings_read_and_shown.main with body:=[K12.top 0,K12.top 2,K12.top 3,K12.top 4,K12.top 6,K12.top 7,K12.top 8,K12.top 9,K12.top 10,K12.top 11,K12.top 12,K12.top 13,K12.top 14,K12.top 15,K12.top 16,K12.top 18,K12.top 19,K12.top 21,K12.top 22,K12.top 23,K12.top 24,K12.top 25,K12.top 26,K12.top 28,K12.top 29,K12.top 31,K12.top 32,K12.top 33,K12.top 34,K12.top 36,K12.top 37,K12.top 38,K12.top 39,K12.top 41,K12.top 42,K12.top 43,K12.top 44,K12.top 45,K12.top 46,K12.top 47,K12.top 48,K12.top 49,K12.top 50,K12.top 51,K12.top 52,K12.top 53,K12.top 54,K12.top 55,K12.top 57,K12.top 58,K12.top 59,K12.top 60,K12.top 61,K12.top 62,K12.top 63,K12.top 64,K12.top 65,K12.top 66,K12.top 67,K12.top 68,K12.top 69,K12.top 70] } }:PySem.Program)=PySem.W.Fast.tw12107715943149877871:=rfl
def PySem.W.Fast.tw11986348273082688211:List PySem.Stmt:=(iU.drop 0).take 3
theorem PySem.W.Fast.te11986348273082688211:((iU.drop 0).take 3:List PySem.Stmt)=PySem.W.Fast.tw11986348273082688211:=rfl
def PySem.W.Fast.tw9488141261655628235:List PySem.Stmt:=(iU.drop 3).take 1
theorem PySem.W.Fast.te9488141261655628235:((iU.drop 3).take 1:List PySem.Stmt)=PySem.W.Fast.tw9488141261655628235:=rfl
def PySem.W.Fast.tw12884349838465091950:List PySem.Stmt:=(iU.drop 4).take 11
theorem PySem.W.Fast.te12884349838465091950:((iU.drop 4).take 11:List PySem.Stmt)=PySem.W.Fast.tw12884349838465091950:=rfl
def PySem.W.Fast.tw14159113018597977668:List PySem.Stmt:=(iU.drop 15).take 3
theorem PySem.W.Fast.te14159113018597977668:((iU.drop 15).take 3:List PySem.Stmt)=PySem.W.Fast.tw14159113018597977668:=rfl
def PySem.W.Fast.tw5763077514756307536:List PySem.Stmt:=(iU.drop 18).take 1
theorem PySem.W.Fast.te5763077514756307536:((iU.drop 18).take 1:List PySem.Stmt)=PySem.W.Fast.tw5763077514756307536:=rfl
def PySem.W.Fast.tw185612385788652879:List PySem.Stmt:=(iU.drop 19).take 16
theorem PySem.W.Fast.te185612385788652879:((iU.drop 19).take 16:List PySem.Stmt)=PySem.W.Fast.tw185612385788652879:=rfl
def PySem.W.Fast.tw10566414943355719923:List PySem.Stmt:=(iU.drop 35).take 17
theorem PySem.W.Fast.te10566414943355719923:((iU.drop 35).take 17:List PySem.Stmt)=PySem.W.Fast.tw10566414943355719923:=rfl
def PySem.W.Fast.tw6997691559436005892:List PySem.Stmt:=(iU.drop 52).take 14
theorem PySem.W.Fast.te6997691559436005892:((iU.drop 52).take 14:List PySem.Stmt)=PySem.W.Fast.tw6997691559436005892:=rfl
def PySem.W.Fast.tw9654055293163870906:List PySem.Stmt:=(iU.drop 66).take 5
theorem PySem.W.Fast.te9654055293163870906:((iU.drop 66).take 5:List PySem.Stmt)=PySem.W.Fast.tw9654055293163870906:=rfl
section
open PySem
open K12
def K12.x11(P:iR):iS:={ cls:=Value.type "tuple",data:=Data.seq #[] }
def K12.l12:List Value:=[vI 1 0,vI 0 0,vR 20,vI 5 0,vI 0 0,vR 27,vI 7 0,vI 0 0,vR 40,vI 9 0,vI 0 0,vR 52,vI 17 0,vI 0 0,vR 64,vI 30 0,vI 0 0,vR 71,vI 41 0,vI 0 0,vR 78,vI 46 0,vI 0 0,vR 85,vI 51 0,vI 0 0,vR 92,vI 60 0,vI 0 0,vR 99,vI 66 0,vI 0 0,vR 106,vI 123 0,vI 0 0,vR 204,vI 126 0,vI 0 0,vR 211,vI 128 0,vI 0 0,vR 216,vI 132 0,vI 0 0,vR 223,vI 139 0,vI 0 0,vR 228,vI 143 0,vI 0 0,vR 233,vI 147 0,vI 0 0,vR 240,vI 150 0,vI 0 0,vR 247,vI 152 0,vI 0 0,vR 254,vI 157 0,vI 0 0,vR 261,vI 159 0,vI 0 0,vR 266,vI 161 0,vI 0 0,vR 273,vI 163 0,vI 0 0,vR 280,vI 166 0,vI 0 0,vR 285,vI 170 0,vI 0 0,vR 290,vI 175 0,vI 0 0,vR 295,vI 177 0,vI 0 0,vR 302,vI 185 0,vI 0 0,vR 309,vI 194 0,vI 0 0,vR 316,vI 200 0,vI 0 0,vR 323,vI 210 0,vI 0 0,vR 328,vI 215 0,vI 0 0,vR 333,vI 226 0,vI 0 0,vR 338,vI 231 0,vI 0 0,vR 343,vI 243 0,vI 0 0,vR 350,vI 248 0,vI 0 0,vR 357,vI 253 0,vI 0 0,vR 362,vI 256 0,vI 0 0,vR 367,vI 261 0,vI 0 0,vR 374,vI 270 0,vI 0 0,vR 381,vI 274 0,vI 0 0,vR 386,vI 283 0,vI 0 0,vR 391,vI 291 0,vI 0 0,vR 398,vI 300 0,vI 0 0,vR 405,vI 310 0,vI 0 0,vR 412,vI 324 0,vI 0 0,vR 419,vI 333 0,vI 0 0,vR 424,vI 342 0,vI 0 0,vR 429,vI 346 0,vI 0 0,vR 436,vI 361 0,vI 0 0,vR 443,vI 368 0,vI 0 0,vR 448,vI 380 0,vI 0 0,vR 455,vI 388 0,vI 0 0,vR 460]
def K12.x12(P:iR):iS:={ cls:=vNo,data:=Data.fields l12.toArray }
def K12.x13(P:iR):iS:={ cls:=Value.type "code",data:=Data.fields #[vS "<module>" 182,vS "<module>" 183,vS "/claim/cut.py" 184,vI 1 0,vI 0 0,vI 0 0,vI 0 0,vI 0 0,vR 11,Value.bool false,vI 181 0,vR 12,vNo,vNo,vNo,vNo,vI 185 0,vI 1 0,vS "/claim/cut.py" 186] }
def K12.x14(P:iR):iS:={ cls:=Value.type "frame",slots:=#[some (vR 13),some (vR 3),some (vR 3),none,some (vS "__main__" 164),none,some (vR 0)] }
def K12.x19(P:iR):iS:=W.Fast.tw17115495721702747730 P
def K12.x23(P:iR):iS:={ cls:=Value.type "builtin_function_or_method",data:=Data.fields #[Value.builtin "type.__prepare__",Value.type "type"] }
def K12.x24(P:iR):iS:={ cls:=Value.type "dict",data:=Data.dict #[hE P "__module__" 203 (vS "turnery.errors" 194),hE P "__qualname__" 205 (vS "TurnError" 204),hE P "__firstlineno__" 207 (vI 5 206),hE P "__static_attributes__" 208 (vR 29)] 4 }
def K12.x25(P:iR):iS:={ cls:=Value.type "tuple",data:=Data.seq #[] }
def K12.x27(P:iR):iS:={ cls:=Value.type "code",data:=Data.fields #[vS "TurnError" 198,vS "TurnError" 199,vS "/claim/cut.py" 200,vI 5 0,vI 0 0,vI 0 0,vI 0 0,vI 0 0,vR 25,Value.bool false,vI 181 0,vR 26,vNo,vNo,vNo,vNo,vI 201 0,vI 5 0,vS "/claim/cut.py" 202] }
def K12.x28(P:iR):iS:={ cls:=Value.type "frame",slots:=#[some (vR 27),some (vR 3),some (vR 24),none,some (vS "turnery.errors" 194),none,some (vR 0)] }
def K12.x33(P:iR):iS:={ cls:=Value.type "super",data:=Data.fields #[vR 31,vR 31,vR 31] }
def K12.x34(P:iR):iS:={ cls:=Value.type "builtin_function_or_method",data:=Data.fields #[Value.builtin "object.__init_subclass__",vR 31] }
def K12.x36(P:iR):iS:={ cls:=Value.type "builtin_function_or_method",data:=Data.fields #[Value.builtin "type.__prepare__",Value.type "type"] }
def K12.x37(P:iR):iS:={ cls:=Value.type "dict",data:=Data.dict #[hE P "__module__" 221 (vS "turnery.errors" 194),hE P "__qualname__" 223 (vS "NoText" 222),hE P "__firstlineno__" 225 (vI 7 224),hE P "__static_attributes__" 226 (vR 42)] 4 }
def K12.x38(P:iR):iS:={ cls:=Value.type "tuple",data:=Data.seq #[] }
def K12.x40(P:iR):iS:={ cls:=Value.type "code",data:=Data.fields #[vS "NoText" 216,vS "NoText" 217,vS "/claim/cut.py" 218,vI 7 0,vI 0 0,vI 0 0,vI 0 0,vI 0 0,vR 38,Value.bool false,vI 181 0,vR 39,vNo,vNo,vNo,vNo,vI 219 0,vI 7 0,vS "/claim/cut.py" 220] }
def K12.x41(P:iR):iS:={ cls:=Value.type "frame",slots:=#[some (vR 40),some (vR 3),some (vR 37),none,some (vS "turnery.errors" 194),none,some (vR 0)] }
def K12.x45(P:iR):iS:={ cls:=Value.type "super",data:=Data.fields #[vR 44,vR 44,vR 44] }
def K12.x46(P:iR):iS:={ cls:=Value.type "builtin_function_or_method",data:=Data.fields #[Value.builtin "object.__init_subclass__",vR 44] }
def K12.x48(P:iR):iS:={ cls:=Value.type "builtin_function_or_method",data:=Data.fields #[Value.builtin "type.__prepare__",Value.type "type"] }
def K12.x49(P:iR):iS:={ cls:=Value.type "dict",data:=Data.dict #[hE P "__module__" 237 (vS "turnery.errors" 194),hE P "__qualname__" 239 (vS "NoTurning" 238),hE P "__firstlineno__" 241 (vI 9 240),hE P "__static_attributes__" 242 (vR 54)] 4 }
def K12.x50(P:iR):iS:={ cls:=Value.type "tuple",data:=Data.seq #[] }
def K12.x52(P:iR):iS:={ cls:=Value.type "code",data:=Data.fields #[vS "NoTurning" 232,vS "NoTurning" 233,vS "/claim/cut.py" 234,vI 9 0,vI 0 0,vI 0 0,vI 0 0,vI 0 0,vR 50,Value.bool false,vI 181 0,vR 51,vNo,vNo,vNo,vNo,vI 235 0,vI 9 0,vS "/claim/cut.py" 236] }
def K12.x53(P:iR):iS:={ cls:=Value.type "frame",slots:=#[some (vR 52),some (vR 3),some (vR 49),none,some (vS "turnery.errors" 194),none,some (vR 0)] }
def K12.x57(P:iR):iS:={ cls:=Value.type "super",data:=Data.fields #[vR 56,vR 56,vR 56] }
def K12.x58(P:iR):iS:={ cls:=Value.type "builtin_function_or_method",data:=Data.fields #[Value.builtin "object.__init_subclass__",vR 56] }
def K12.x63(P:iR):iS:=W.Fast.tw13178113824778762361 P
def K12.x70(P:iR):iS:=W.Fast.tw10203538900562545297 P
def K12.x77(P:iR):iS:=W.Fast.tw885107620494810055 P
def K12.x84(P:iR):iS:=W.Fast.tw9559591255628777657 P
def K12.x91(P:iR):iS:=W.Fast.tw9418034571904592602 P
def K12.x98(P:iR):iS:=W.Fast.tw11553788994166785426 P
def K12.x101(P:iR):iS:={ cls:=Value.type "tuple",data:=Data.seq #[] }
def K12.x102(P:iR):iS:={ cls:=Value.type "builtin_function_or_method",data:=Data.fields #[Value.builtin "type.__prepare__",Value.type "type"] }
def K12.x103(P:iR):iS:={ cls:=Value.type "dict",data:=Data.dict #[hE P "__module__" 323 (12:),hE P "__qualname__" 325 (vS "Reader" 324),hE P "__firstlineno__" 327 (vI 66 326),hE P "__init__" 335 (vR 114),hE P "ahead" 342 (vR 121),hE P "at_name" 349 (vR 128),hE P "at_number" 356 (vR 135),hE P "passed" 364 (vR 142),hE P "need" 372 (vR 149),hE P "need_end" 380 (vR 156),hE P "take_name" 387 (vR 163),hE P "take_number" 394 (vR 170),hE P "take_word" 402 (vR 177),hE P "in_brackets" 411 (vR 184),hE P "parted_by" 420 (vR 191),hE P "__static_attributes__" 423 (vR 192)] 16 }
def K12.x104(P:iR):iS:={ cls:=Value.type "tuple",data:=Data.seq #[] }
def K12.x105(P:iR):iS:={ cls:=vNo,data:=Data.fields #[vI 68 0,vI 4 0,vR 113,vI 72 0,vI 4 0,vR 120,vI 77 0,vI 4 0,vR 127,vI 80 0,vI 4 0,vR 134,vI 83 0,vI 4 0,vR 141,vI 89 0,vI 4 0,vR 148,vI 93 0,vI 4 0,vR 155,vI 98 0,vI 4 0,vR 162,vI 103 0,vI 4 0,vR 169,vI 108 0,vI 4 0,vR 176,vI 113 0,vI 4 0,vR 183,vI 121 0,vI 4 0,vR 190] }
def K12.x106(P:iR):iS:={ cls:=Value.type "code",data:=Data.fields #[vS "Reader" 318,vS "Reader" 319,vS "/claim/cut.py" 320,vI 66 0,vI 0 0,vI 0 0,vI 0 0,vI 0 0,vR 104,Value.bool false,vI 181 0,vR 105,vNo,vNo,vNo,vNo,vI 321 0,vI 66 0,vS "/claim/cut.py" 322] }
def K12.x107(P:iR):iS:={ cls:=Value.type "frame",slots:=#[some (vR 106),some (vR 3),some (vR 103),none,some (12:),none,some (vR 0)] }
def K12.x112(P:iR):iS:=W.Fast.tw2472060086368738020 P
def K12.x119(P:iR):iS:=W.Fast.tw17427346868562868912 P
def K12.x126(P:iR):iS:=W.Fast.tw16559649564108034748 P
def K12.x133(P:iR):iS:=W.Fast.tw15248537426934850931 P
def K12.x140(P:iR):iS:=W.Fast.tw6724682831194237952 P
def K12.x147(P:iR):iS:=W.Fast.tw273525094869745169 P
def K12.x154(P:iR):iS:=W.Fast.tw15508030819547531699 P
def K12.x161(P:iR):iS:=W.Fast.tw3273728314305874484 P
def K12.x168(P:iR):iS:=W.Fast.tw9670472666508080137 P
def K12.x175(P:iR):iS:=W.Fast.tw6765703166246949680 P
def K12.x182(P:iR):iS:=W.Fast.tw12032806345099846157 P
def K12.x189(P:iR):iS:=W.Fast.tw13450850718246751109 P
def K12.x197(P:iR):iS:={ cls:=Value.type "super",data:=Data.fields #[vR 194,vR 194,vR 194] }
def K12.x198(P:iR):iS:={ cls:=Value.type "builtin_function_or_method",data:=Data.fields #[Value.builtin "object.__init_subclass__",vR 194] }
def K12.x203(P:iR):iS:=W.Fast.tw11700021023266655318 P
def K12.x210(P:iR):iS:=W.Fast.tw15323694901492895615 P
def K12.x215(P:iR):iS:=W.Fast.tw15750981117972806624 P
def K12.x222(P:iR):iS:=W.Fast.tw14753988565902382174 P
def K12.x227(P:iR):iS:=W.Fast.tw9723915686972388870 P
def K12.x232(P:iR):iS:=W.Fast.tw12775047765517602150 P
def K12.x239(P:iR):iS:=W.Fast.tw6992696802242079443 P
def K12.x246(P:iR):iS:=W.Fast.tw14003108485861263583 P
def K12.x253(P:iR):iS:=W.Fast.tw2030244279538353413 P
def K12.x260(P:iR):iS:=W.Fast.tw10499645537863594471 P
def K12.x265(P:iR):iS:=W.Fast.tw4684449313014701601 P
def K12.x272(P:iR):iS:=W.Fast.tw5370331330447184734 P
def K12.x279(P:iR):iS:=W.Fast.tw4103034774565799512 P
def K12.x284(P:iR):iS:=W.Fast.tw11443577457149109012 P
def K12.x289(P:iR):iS:=W.Fast.tw16976379950682686826 P
def K12.x294(P:iR):iS:=W.Fast.tw2106475609793461497 P
def K12.x301(P:iR):iS:=W.Fast.tw1630564147114082361 P
def K12.x308(P:iR):iS:=W.Fast.tw5706277551917257631 P
def K12.x315(P:iR):iS:=W.Fast.tw8236678046454817004 P
def K12.x322(P:iR):iS:=W.Fast.tw372224558406082902 P
def K12.x327(P:iR):iS:=W.Fast.tw11438790634972780077 P
def K12.x332(P:iR):iS:=W.Fast.tw5862519051013590369 P
def K12.x337(P:iR):iS:=W.Fast.tw15816684501862541035 P
def K12.x342(P:iR):iS:=W.Fast.tw12078139030104094363 P
def K12.x349(P:iR):iS:=W.Fast.tw2839914897201981550 P
def K12.x356(P:iR):iS:=W.Fast.tw1517977741337403447 P
def K12.x361(P:iR):iS:=W.Fast.tw3854739198061072584 P
def K12.x366(P:iR):iS:=W.Fast.tw3793932280767564106 P
def K12.x373(P:iR):iS:=W.Fast.tw15965190524187495896 P
def K12.x380(P:iR):iS:=W.Fast.tw5219417990503627592 P
def K12.x385(P:iR):iS:=W.Fast.tw11595543094136143139 P
def K12.x390(P:iR):iS:=W.Fast.tw5031771776657115082 P
def K12.x397(P:iR):iS:=W.Fast.tw12935644608758378217 P
def K12.x404(P:iR):iS:=W.Fast.tw16992323116721600650 P
def K12.x411(P:iR):iS:=W.Fast.tw2973458509595009807 P
def K12.x418(P:iR):iS:=W.Fast.tw4489368954697911098 P
def K12.x423(P:iR):iS:=W.Fast.tw3734156364961258454 P
def K12.x428(P:iR):iS:=W.Fast.tw11861177465453015131 P
def K12.x435(P:iR):iS:=W.Fast.tw17973996706549069735 P
def K12.x442(P:iR):iS:=W.Fast.tw3672806959024109996 P
def K12.x447(P:iR):iS:=W.Fast.tw9524538640108910410 P
def K12.x454(P:iR):iS:=W.Fast.tw9752997841691269358 P
def K12.x459(P:iR):iS:=W.Fast.tw8394671906133631338 P
def _root_.PySem.W.Fast.tw9509029915115978510:Params->Heap:=λP=>{ objs:=⟨[W.boot_o_0 P,W.boot_o_1 P,Obj.mk vNo none (Data.dict #[]) #[],x3 P,W.boot_o_4 P,W.boot_o_5 P,W.boot_o_6 P,W.boot_o_7 P,W.boot_o_8 P,W.boot_o_9 P,W.boot_o_10 P,x11 P,x12 P,x13 P,x14 P,oT #[],oE,oT #[vS "k" 190],oT #[],x19 P,x20 P,x21 P,oT #[Value.type "ValueError"],x23 P,x24 P,x25 P,oE,x27 P,x28 P,oT #[],x30 P,x31 P,x32 P,x33 P,x34 P,oT #[vR 31],x36 P,x37 P,x38 P,oE,x40 P,x41 P,oT #[],x43 P,x44 P,x45 P,x46 P,oT #[vR 31],x48 P,x49 P,x50 P,oE,x52 P,x53 P,oT #[],x55 P,x56 P,x57 P,x58 P,oT #[],oE,x61 P,oT #[],x63 P,x64 P,x65 P,oT #[],oE,x68 P,oT #[],x70 P,x71 P,x72 P,oT #[],oE,x75 P,oT #[],x77 P,x78 P,x79 P,oT #[],oE,x82 P,oT #[],x84 P,x85 P,x86 P,oT #[],oE,x89 P,oT #[],x91 P,x92 P,x93 P,oT #[],oE,x96 P,oT #[],x98 P,x99 P,x100 P,x101 P,x102 P,x103 P,x104 P,x105 P,x106 P,x107 P,oT #[],oE,oT #[vS "self" 331,vS "text" 332],oT #[],x112 P,x113 P,x114 P,oT #[],oE,oT #[vS "self" 339],oT #[],x119 P,x120 P,x121 P,oT #[],oE,oT #[vS "self" 346],oT #[],x126 P,x127 P,x128 P,oT #[],oE,oT #[vS "self" 353],oT #[],x133 P,x134 P,x135 P,oT #[],oE,oT #[vS "self" 360,vS "sign" 361],oT #[],x140 P,x141 P,x142 P,oT #[],oE,oT #[vS "self" 368,vS "sign" 369],oT #[],x147 P,x148 P,x149 P,oT #[],oE,oT #[vS "self" 376,vS "word" 377],oT #[],x154 P,x155 P,x156 P,oT #[],oE,oT #[vS "self" 384],oT #[],x161 P,x162 P,x163 P,oT #[],oE,oT #[vS "self" 391],oT #[],x168 P,x169 P,x170 P,oT #[],oE,oT #[vS "self" 398,vS "word" 399],oT #[],x175 P,x176 P,x177 P,oT #[],oE,x180 P,oT #[],x182 P,x183 P,x184 P,oT #[],oE,x187 P,oT #[],x189 P,x190 P,x191 P,oT #[vS "found" 421,vS "spot" 422],x193 P,x194 P,x195 P,x196 P,x197 P,x198 P,oT #[],oE,oT #[vS "word" 434,vS "signs" 435],oT #[],x203 P,x204 P,x205 P,oT #[],oE,oT #[vS "term" 444],oT #[],x210 P,x211 P,x212 P,oT #[],oE,x215 P,x216 P,x217 P,oT #[],oE,x220 P,oT #[],x222 P,x223 P,x224 P,oT #[],oE,x227 P,x228 P,x229 P,oT #[],oE,x232 P,x233 P,x234 P,oT #[],oE,oT #[vS "term" 478,vS "parts" 479],oT #[],x239 P,x240 P,x241 P,oT #[],oE,oT #[vS "mark" 488],oT #[],x246 P,x247 P,x248 P,oT #[],oE,oT #[vS "texts" 495],oT #[],x253 P,x254 P,x255 P,oT #[],oE,oT #[vS "names" 504],oT #[],x260 P,x261 P,x262 P,oT #[],oE,x265 P,x266 P,x267 P,oT #[],oE,oT #[vS "wood" 517,vS "kind" 518],oT #[],x272 P,x273 P,x274 P,oT #[],oE,x277 P,oT #[],x279 P,x280 P,x281 P,oT #[],oE,x284 P,x285 P,x286 P,oT #[],oE,x289 P,x290 P,x291 P,oT #[],oE,x294 P,x295 P,x296 P,oT #[],oE,x299 P,oT #[],x301 P,x302 P,x303 P,oT #[],oE,x306 P,oT #[],x308 P,x309 P,x310 P,oT #[],oE,x313 P,oT #[],x315 P,x316 P,x317 P,oT #[],oE,x320 P,oT #[vS "reader" 599,vS "room" 600],x322 P,x323 P,x324 P,oT #[],oE,x327 P,x328 P,x329 P,oT #[],oE,x332 P,x333 P,x334 P,oT #[],oE,x337 P,x338 P,x339 P,oT #[],oE,x342 P,x343 P,x344 P,oT #[],oE,x347 P,oT #[],x349 P,x350 P,x351 P,oT #[],oE,x354 P,oT #[],x356 P,x357 P,x358 P,oT #[],oE,x361 P,x362 P,x363 P,oT #[],oE,x366 P,x367 P,x368 P,oT #[],oE,x371 P,oT #[],x373 P,x374 P,x375 P,oT #[],oE,x378 P,oT #[],x380 P,x381 P,x382 P,oT #[],oE,x385 P,x386 P,x387 P,oT #[],oE,x390 P,x391 P,x392 P,oT #[],oE,x395 P,oT #[],x397 P,x398 P,x399 P,oT #[],oE,x402 P,oT #[],x404 P,x405 P,x406 P,oT #[],oE,x409 P,oT #[],x411 P,x412 P,x413 P,oT #[],oE,x416 P,oT #[],x418 P,x419 P,x420 P,oT #[],oE,x423 P,x424 P,x425 P,oT #[],oE,x428 P,x429 P,x430 P,oT #[],oE,x433 P,oT #[],x435 P,x436 P,x437 P,oT #[],oE,x440 P,oT #[],x442 P,x443 P,x444 P,oT #[],oE,x447 P,x448 P,x449 P,oT #[],oE,x452 P,oT #[],x454 P,x455 P,x456 P,oT #[],oE,x459 P,x460 P,x461 P]⟩ }
def _root_.PySem.W.Fast.te9509029915115978510:=@rfl _ PySem.W.Fast.tw9509029915115978510
def K12.N:W.BT:=.nil
def K12.B(o:Obj)(l r:W.BT):W.BT:=.node o l r
def _root_.PySem.W.Fast.tw1953418531901490527:Params->W.BT:=λP=>B (W.boot_o_0 P) (B (W.boot_o_1 P) (B (x3 P) (B (W.boot_o_7 P) (B (oT #[]) (B (x31 P) (B (x63 P) (B (x127 P) (B (x255 P) N N) (2:)) (B (x191 P) (11:) (B (x447 P) N N))) (B (oE) (B (oT #[vS "self" 384]) (2:) (11:)) (B (x223 P) (B (x351 P) N N) N))) (B (oT #[vR 31]) (B (x79 P) (B (oT #[]) (2:) (B (x399 P) N N)) (B (oE) (2:) N)) (B (oT #[]) (B (x175 P) (B (x303 P) N N) (2:)) (B (x239 P) (B (x367 P) N N) N)))) (B (x23 P) (B (oE) (B (x71 P) (B (x135 P) (2:) (B (x391 P) N N)) (B (oT #[]) (B (x327 P) N N) (B (x455 P) N N))) (B (x103 P) (B (oT #[]) (B (x295 P) N N) (B (x423 P) N N)) (B (oE) (2:) N))) (B (x55 P) (B (oT #[]) (B (oE) (B (x279 P) N N) (2:)) (B (x215 P) (B (x343 P) N N) N)) (B (x119 P) (B (x183 P) (2:) (11:)) (B (x247 P) (B (x375 P) N N) N))))) (B (x11 P) (B (x19 P) (B (oT #[vR 31]) (B (oE) (B (oT #[vS "self" 353]) (2:) (B (x387 P) N N)) (B (x195 P) (B (x323 P) N N) (11:))) (B (x99 P) (B (x163 P) (B (x291 P) N N) (B (x419 P) N N)) (B (x227 P) (2:) N))) (B (oE) (B (oT #[]) (B (x147 P) (2:) (2:)) (B (x211 P) (B (x339 P) N N) N)) (B (oT #[]) (B (oE) (2:) (B (x435 P) N N)) (B (oE) (B (x371 P) N N) N)))) (B (x27 P) (B (x43 P) (B (x75 P) (B (oT #[]) (B (x267 P) N N) (B (x395 P) N N)) (B (x203 P) (11:) (B (x459 P) N N))) (B (x107 P) (B (oT #[]) (B (x299 P) N N) (11:)) (B (oT #[]) (B (x363 P) N N) N))) (B (oT #[]) (B (x91 P) (B (x155 P) (11:) (B (x411 P) N N)) (B (oE) (B (x347 P) N N) N)) (B (oE) (B (x187 P) (B (x315 P) N N) (B (x443 P) N N)) (B (oT #[vS "texts" 495]) (2:) N)))))) (B (W.boot_o_5 P) (B (W.boot_o_9 P) (B (oT #[vS "k" 190]) (B (x33 P) (B (x65 P) (B (oT #[]) (11:) (B (x385 P) N N)) (B (x193 P) (B (oT #[vS "reader" 599,vS "room" 600]) N N) (B (x449 P) N N))) (B (oT #[]) (B (x161 P) (B (x289 P) N N) (2:)) (B (oT #[]) (11:) N))) (B (x49 P) (B (oE) (B (oT #[vS "self" 368,vS "sign" 369]) (B (x273 P) N N) (11:)) (B (oT #[]) (B (x337 P) N N) N)) (B (x113 P) (B (x177 P) (11:) (B (x433 P) N N)) (B (x241 P) (2:) N)))) (B (x25 P) (B (x41 P) (B (oT #[]) (B (oE) (B (x265 P) N N) (2:)) (B (oT #[vS "word" 434,vS "signs" 435]) (B (x329 P) N N) (2:))) (B (x105 P) (B (x169 P) (2:) (B (x425 P) N N)) (B (x233 P) (B (x361 P) N N) N))) (B (x57 P) (B (x89 P) (B (oT #[]) (B (x281 P) N N) (B (x409 P) N N)) (B (x217 P) (2:) N)) (B (x121 P) (B (oT #[]) (B (x313 P) N N) (2:)) (B (oT #[]) (11:) N))))) (B (x13 P) (B (x21 P) (B (x37 P) (B (oT #[]) (B (x133 P) (B (x261 P) N N) (11:)) (B (x197 P) (2:) (2:))) (B (x101 P) (B (oE) (11:) (2:)) (B (x229 P) (B (x357 P) N N) N))) (B (x53 P) (B (x85 P) (B (x149 P) (B (x277 P) N N) (B (x405 P) N N)) (B (oT #[]) (11:) N)) (B (oT #[vS "self" 339]) (B (oT #[]) (B (x309 P) N N) (B (x437 P) N N)) (B (oT #[]) (B (x373 P) N N) N)))) (B (oT #[]) (B (x45 P) (B (x77 P) (B (x141 P) (11:) (B (x397 P) N N)) (B (x205 P) (B (x333 P) N N) (B (x461 P) N N))) (B (oE) (B (oT #[vS "self" 398,vS "word" 399]) (B (x301 P) N N) (B (x429 P) N N)) (B (oT #[vS "term" 478,vS "parts" 479]) (11:) N))) (B (x61 P) (B (x93 P) (B (oT #[]) (B (x285 P) N N) (B (x413 P) N N)) (B (oT #[]) (B (x349 P) N N) N)) (B (oT #[]) (B (x189 P) (B (x317 P) N N) (2:)) (B (x253 P) (B (x381 P) N N) N))))))) (B (Obj.mk vNo none (Data.dict #[]) #[]) (B (W.boot_o_4 P) (B (W.boot_o_8 P) (B (oE) (B (x32 P) (B (x64 P) (B (x128 P) (2:) (11:)) (B (oT #[vS "found" 421,vS "spot" 422]) (B (x320 P) N N) (B (x448 P) N N))) (B (x96 P) (B (oT #[]) (11:) (B (x416 P) N N)) (B (x224 P) (2:) N))) (B (x48 P) (B (oT #[]) (B (oE) (B (x272 P) N N) (2:)) (B (oT #[vS "term" 444]) (11:) N)) (B (x112 P) (B (x176 P) (2:) (11:)) (B (x240 P) (B (x368 P) N N) N)))) (B (x24 P) (B (x40 P) (B (x72 P) (B (oT #[]) (11:) (B (x392 P) N N)) (B (oE) (B (x328 P) N N) (B (x456 P) N N))) (B (x104 P) (B (x168 P) (B (x296 P) N N) (B (x424 P) N N)) (B (x232 P) (11:) N))) (B (x56 P) (B (oE) (B (oT #[vS "self" 376,vS "word" 377]) (B (x280 P) N N) (11:)) (B (x216 P) (B (x344 P) N N) N)) (B (x120 P) (B (x184 P) (11:) (B (x440 P) N N)) (B (x248 P) (2:) N))))) (B (x12 P) (B (x20 P) (B (x36 P) (B (x68 P) (B (oT #[]) (B (x260 P) N N) (2:)) (B (x196 P) (B (x324 P) N N) (B (x452 P) N N))) (B (x100 P) (B (oT #[]) (2:) (B (x420 P) N N)) (B (x228 P) (B (x356 P) N N) N))) (B (x52 P) (B (x84 P) (B (x148 P) (11:) (B (x404 P) N N)) (B (x212 P) (2:) N)) (B (oE) (B (x180 P) (B (x308 P) N N) (B (x436 P) N N)) (B (oT #[vS "mark" 488]) (2:) N)))) (B (x28 P) (B (x44 P) (B (oT #[]) (B (x140 P) (2:) (2:)) (B (x204 P) (B (x332 P) N N) (B (x460 P) N N))) (B (oT #[]) (B (oE) (2:) (B (x428 P) N N)) (B (oE) (2:) N))) (B (oE) (B (x92 P) (B (x156 P) (B (x284 P) N N) (B (x412 P) N N)) (B (x220 P) (2:) N)) (B (oT #[vS "self" 346]) (B (oT #[]) (B (x316 P) N N) (B (x444 P) N N)) (B (oT #[]) (B (x380 P) N N) N)))))) (B (W.boot_o_6 P) (B (W.boot_o_10 P) (B (oT #[]) (B (x34 P) (B (oT #[]) (B (oE) (B (oT #[vS "names" 504]) N N) (B (x386 P) N N)) (B (x194 P) (B (x322 P) N N) (2:))) (B (x98 P) (B (x162 P) (B (x290 P) N N) (B (x418 P) N N)) (B (oE) (B (x354 P) N N) N))) (B (x50 P) (B (x82 P) (B (oT #[]) (B (x274 P) N N) (B (x402 P) N N)) (B (x210 P) (B (x338 P) N N) N)) (B (x114 P) (B (oT #[]) (B (x306 P) N N) (2:)) (B (oT #[]) (11:) N)))) (B (oE) (B (oT #[]) (B (oE) (B (oT #[vS "self" 360,vS "sign" 361]) (B (x266 P) N N) (11:)) (B (oT #[]) (2:) (11:))) (B (x106 P) (B (x170 P) (11:) (2:)) (B (x234 P) (B (x362 P) N N) N))) (B (x58 P) (B (oT #[]) (B (x154 P) (2:) (2:)) (B (oT #[]) (11:) N)) (B (oT #[]) (B (oE) (2:) (B (x442 P) N N)) (B (oE) (B (x378 P) N N) N))))) (B (x14 P) (B (oT #[Value.type "ValueError"]) (B (x38 P) (B (x70 P) (B (x134 P) (B (x262 P) N N) (B (x390 P) N N)) (B (x198 P) (11:) (B (x454 P) N N))) (B (x102 P) (B (oT #[vS "self" 391]) (B (x294 P) N N) (11:)) (B (oT #[]) (B (x358 P) N N) N))) (B (oT #[]) (B (x86 P) (B (oT #[]) (2:) (B (x406 P) N N)) (B (oE) (B (x342 P) N N) N)) (B (oT #[]) (B (x182 P) (B (x310 P) N N) (2:)) (B (x246 P) (B (x374 P) N N) N)))) (B (x30 P) (B (x46 P) (B (x78 P) (B (x142 P) (B (oT #[vS "wood" 517,vS "kind" 518]) N N) (B (x398 P) N N)) (B (oT #[]) (B (x334 P) N N) N)) (B (oT #[vS "self" 331,vS "text" 332]) (B (oT #[]) (B (x302 P) N N) (B (x430 P) N N)) (B (oT #[]) (B (x366 P) N N) N))) (B (oT #[]) (B (oT #[]) (B (oE) (B (x286 P) N N) (2:)) (B (x222 P) (B (x350 P) N N) N)) (B (x126 P) (B (x190 P) (2:) (11:)) (B (x254 P) (B (x382 P) N N) N)))))))
def _root_.PySem.W.Fast.te1953418531901490527:=@rfl _ PySem.W.Fast.tw1953418531901490527
def K12.y3_482(P:iR):iS:={ cls:=Value.type "dict",data:=Data.dict (hE P "__name__" 165 mN::(l3 P).take 65).toArray 66 }
def K12.y12_482(P:iR):iS:={ cls:=vNo,data:=Data.fields (l12.take 147).toArray }
def _root_.PySem.W.Fast.tw2656501962744208062:Params->W.BT:=λP=>B (W.boot_o_0 P) (B (W.boot_o_1 P) (B (y3_482 P) (B (W.boot_o_7 P) (B (oT #[]) (B (x31 P) (B (x63 P) (B (x127 P) (B (x255 P) N N) (2:)) (B (x191 P) (11:) N)) (B (oE) (B (oT #[vS "self" 384]) (2:) (11:)) (B (x223 P) (B (x351 P) N N) N))) (B (oT #[vR 31]) (B (x79 P) (B (oT #[]) (2:) (B (x399 P) N N)) (B (oE) (2:) N)) (B (oT #[]) (B (x175 P) (B (x303 P) N N) N) (B (x239 P) (B (x367 P) N N) N)))) (B (x23 P) (B (oE) (B (x71 P) (B (x135 P) (2:) (B (x391 P) N N)) (B (oT #[]) (B (x327 P) N N) N)) (B (x103 P) (B (oT #[]) (B (x295 P) N N) (B (x423 P) N N)) (B (oE) (2:) N))) (B (x55 P) (B (oT #[]) (B (oE) (B (x279 P) N N) (2:)) (B (x215 P) (B (x343 P) N N) N)) (B (x119 P) (B (x183 P) (2:) N) (B (x247 P) (B (x375 P) N N) N))))) (B (x11 P) (B (x19 P) (B (oT #[vR 31]) (B (oE) (B (oT #[vS "self" 353]) (2:) (B (x387 P) N N)) (B (x195 P) (B (x323 P) N N) N)) (B (x99 P) (B (x163 P) (B (x291 P) N N) (B (x419 P) N N)) (B (x227 P) (2:) N))) (B (oE) (B (oT #[]) (B (x147 P) (2:) (2:)) (B (x211 P) (B (x339 P) N N) N)) (B (oT #[]) (B (oE) (2:) N) (B (oE) (B (x371 P) N N) N)))) (B (x27 P) (B (x43 P) (B (x75 P) (B (oT #[]) (B (x267 P) N N) (B (x395 P) N N)) (B (x203 P) (11:) N)) (B (x107 P) (B (oT #[]) (B (x299 P) N N) (11:)) (B (oT #[]) (B (x363 P) N N) N))) (B (oT #[]) (B (x91 P) (B (x155 P) (11:) (B (x411 P) N N)) (B (oE) (B (x347 P) N N) N)) (B (oE) (B (x187 P) (B (x315 P) N N) N) (B (oT #[vS "texts" 495]) (2:) N)))))) (B (W.boot_o_5 P) (B (W.boot_o_9 P) (B (oT #[vS "k" 190]) (B (x33 P) (B (x65 P) (B (oT #[]) (11:) (B (x385 P) N N)) (B (x193 P) (B (oT #[vS "reader" 599,vS "room" 600]) N N) N)) (B (oT #[]) (B (x161 P) (B (x289 P) N N) (2:)) (B (oT #[]) (11:) N))) (B (x49 P) (B (oE) (B (oT #[vS "self" 368,vS "sign" 369]) (B (x273 P) N N) (11:)) (B (oT #[]) (B (x337 P) N N) N)) (B (x113 P) (B (x177 P) (11:) N) (B (x241 P) (2:) N)))) (B (x25 P) (B (x41 P) (B (oT #[]) (B (oE) (B (x265 P) N N) (2:)) (B (oT #[vS "word" 434,vS "signs" 435]) (B (x329 P) N N) N)) (B (x105 P) (B (x169 P) (2:) (B (x425 P) N N)) (B (x233 P) (B (x361 P) N N) N))) (B (x57 P) (B (x89 P) (B (oT #[]) (B (x281 P) N N) (B (x409 P) N N)) (B (x217 P) (2:) N)) (B (x121 P) (B (oT #[]) (B (x313 P) N N) N) (B (oT #[]) (11:) N))))) (B (x13 P) (B (x21 P) (B (x37 P) (B (oT #[]) (B (x133 P) (B (x261 P) N N) (11:)) (B (x197 P) (2:) N)) (B (x101 P) (B (oE) (11:) (2:)) (B (x229 P) (B (x357 P) N N) N))) (B (x53 P) (B (x85 P) (B (x149 P) (B (x277 P) N N) (B (x405 P) N N)) (B (oT #[]) (11:) N)) (B (oT #[vS "self" 339]) (B (oT #[]) (B (x309 P) N N) N) (B (oT #[]) (B (x373 P) N N) N)))) (B (oT #[]) (B (x45 P) (B (x77 P) (B (x141 P) (11:) (B (x397 P) N N)) (B (x205 P) (B (x333 P) N N) N)) (B (oE) (B (oT #[vS "self" 398,vS "word" 399]) (B (x301 P) N N) (B (x429 P) N N)) (B (oT #[vS "term" 478,vS "parts" 479]) (11:) N))) (B (x61 P) (B (x93 P) (B (oT #[]) (B (x285 P) N N) (B (x413 P) N N)) (B (oT #[]) (B (x349 P) N N) N)) (B (oT #[]) (B (x189 P) (B (x317 P) N N) N) (B (x253 P) (B (x381 P) N N) N))))))) (B (Obj.mk vNo none (Data.dict #[]) #[]) (B (W.boot_o_4 P) (B (W.boot_o_8 P) (B (oE) (B (x32 P) (B (x64 P) (B (x128 P) (2:) (11:)) (B (oT #[vS "found" 421,vS "spot" 422]) (B (x320 P) N N) N)) (B (x96 P) (B (oT #[]) (11:) (B (x416 P) N N)) (B (x224 P) (2:) N))) (B (x48 P) (B (oT #[]) (B (oE) (B (x272 P) N N) (2:)) (B (oT #[vS "term" 444]) (11:) N)) (B (x112 P) (B (x176 P) (2:) N) (B (x240 P) (B (x368 P) N N) N)))) (B (x24 P) (B (x40 P) (B (x72 P) (B (oT #[]) (11:) (B (x392 P) N N)) (B (oE) (B (x328 P) N N) N)) (B (x104 P) (B (x168 P) (B (x296 P) N N) (B (x424 P) N N)) (B (x232 P) (11:) N))) (B (x56 P) (B (oE) (B (oT #[vS "self" 376,vS "word" 377]) (B (x280 P) N N) (11:)) (B (x216 P) (B (x344 P) N N) N)) (B (x120 P) (B (x184 P) (11:) N) (B (x248 P) (2:) N))))) (B (y12_482 P) (B (x20 P) (B (x36 P) (B (x68 P) (B (oT #[]) (B (x260 P) N N) (2:)) (B (x196 P) (B (x324 P) N N) N)) (B (x100 P) (B (oT #[]) (2:) (B (x420 P) N N)) (B (x228 P) (B (x356 P) N N) N))) (B (x52 P) (B (x84 P) (B (x148 P) (11:) (B (x404 P) N N)) (B (x212 P) (2:) N)) (B (oE) (B (x180 P) (B (x308 P) N N) N) (B (oT #[vS "mark" 488]) (2:) N)))) (B (x28 P) (B (x44 P) (B (oT #[]) (B (x140 P) (2:) (2:)) (B (x204 P) (B (x332 P) N N) N)) (B (oT #[]) (B (oE) (2:) (B (x428 P) N N)) (B (oE) (2:) N))) (B (oE) (B (x92 P) (B (x156 P) (B (x284 P) N N) (B (x412 P) N N)) (B (x220 P) (2:) N)) (B (oT #[vS "self" 346]) (B (oT #[]) (B (x316 P) N N) N) (B (oT #[]) (B (x380 P) N N) N)))))) (B (W.boot_o_6 P) (B (W.boot_o_10 P) (B (oT #[]) (B (x34 P) (B (oT #[]) (B (oE) (B (oT #[vS "names" 504]) N N) (B (x386 P) N N)) (B (x194 P) (B (x322 P) N N) N)) (B (x98 P) (B (x162 P) (B (x290 P) N N) (B (x418 P) N N)) (B (oE) (B (x354 P) N N) N))) (B (x50 P) (B (x82 P) (B (oT #[]) (B (x274 P) N N) (B (x402 P) N N)) (B (x210 P) (B (x338 P) N N) N)) (B (x114 P) (B (oT #[]) (B (x306 P) N N) N) (B (oT #[]) (11:) N)))) (B (oE) (B (oT #[]) (B (oE) (B (oT #[vS "self" 360,vS "sign" 361]) (B (x266 P) N N) (11:)) (B (oT #[]) (2:) N)) (B (x106 P) (B (x170 P) (11:) (2:)) (B (x234 P) (B (x362 P) N N) N))) (B (x58 P) (B (oT #[]) (B (x154 P) (2:) (2:)) (B (oT #[]) (11:) N)) (B (oT #[]) (B (oE) (2:) N) (B (oE) (B (x378 P) N N) N))))) (B (x14 P) (B (oT #[Value.type "ValueError"]) (B (x38 P) (B (x70 P) (B (x134 P) (B (x262 P) N N) (B (x390 P) N N)) (B (x198 P) (11:) N)) (B (x102 P) (B (oT #[vS "self" 391]) (B (x294 P) N N) (11:)) (B (oT #[]) (B (x358 P) N N) N))) (B (oT #[]) (B (x86 P) (B (oT #[]) (2:) (B (x406 P) N N)) (B (oE) (B (x342 P) N N) N)) (B (oT #[]) (B (x182 P) (B (x310 P) N N) N) (B (x246 P) (B (x374 P) N N) N)))) (B (x30 P) (B (x46 P) (B (x78 P) (B (x142 P) (B (oT #[vS "wood" 517,vS "kind" 518]) N N) (B (x398 P) N N)) (B (oT #[]) (B (x334 P) N N) N)) (B (oT #[vS "self" 331,vS "text" 332]) (B (oT #[]) (B (x302 P) N N) (B (x430 P) N N)) (B (oT #[]) (B (x366 P) N N) N))) (B (oT #[]) (B (oT #[]) (B (oE) (B (x286 P) N N) (2:)) (B (x222 P) (B (x350 P) N N) N)) (B (x126 P) (B (x190 P) (2:) N) (B (x254 P) (B (x382 P) N N) N)))))))
def _root_.PySem.W.Fast.te2656501962744208062:=@rfl _ PySem.W.Fast.tw2656501962744208062
def K12.y3_401(P:iR):iS:={ cls:=Value.type "dict",data:=Data.dict (hE P "__name__" 165 (15:)::(l3 P).take 52).toArray 53 }
def K12.y12_401(P:iR):iS:={ cls:=vNo,data:=Data.fields (l12.take 108).toArray }
def _root_.PySem.W.Fast.tw11583059713398106478:Params->W.BT:=λP=>B (W.boot_o_0 P) (B (W.boot_o_1 P) (B (y3_401 P) (B (W.boot_o_7 P) (B (oT #[]) (B (x31 P) (B (x63 P) (B (x127 P) (B (x255 P) N N) N) (B (x191 P) (11:) N)) (B (oE) (B (oT #[vS "self" 384]) (2:) N) (B (x223 P) (B (x351 P) N N) N))) (B (oT #[vR 31]) (B (x79 P) (B (oT #[]) (2:) N) (B (oE) (2:) N)) (B (oT #[]) (B (x175 P) (B (x303 P) N N) N) (B (x239 P) N N)))) (B (x23 P) (B (oE) (B (x71 P) (B (x135 P) (2:) N) (B (oT #[]) (B (x327 P) N N) N)) (B (x103 P) (B (oT #[]) (B (x295 P) N N) N) (11:))) (B (x55 P) (B (oT #[]) (B (oE) (B (x279 P) N N) N) (B (x215 P) (B (x343 P) N N) N)) (B (x119 P) (B (x183 P) (2:) N) (B (x247 P) N N))))) (B (x11 P) (B (x19 P) (B (oT #[vR 31]) (B (oE) (B (oT #[vS "self" 353]) (2:) N) (B (x195 P) (B (x323 P) N N) N)) (B (x99 P) (B (x163 P) (B (x291 P) N N) N) (B (x227 P) N N))) (B (oE) (B (oT #[]) (B (x147 P) (2:) N) (B (x211 P) (B (x339 P) N N) N)) (B (oT #[]) (B (oE) (2:) N) (11:)))) (B (x27 P) (B (x43 P) (B (x75 P) (B (oT #[]) (B (x267 P) N N) N) (B (x203 P) (11:) N)) (B (x107 P) (B (oT #[]) (B (x299 P) N N) N) (2:))) (B (oT #[]) (B (x91 P) (B (x155 P) (11:) N) (B (oE) (B (x347 P) N N) N)) (B (oE) (B (x187 P) (B (x315 P) N N) N) (B (oT #[vS "texts" 495]) N N)))))) (B (W.boot_o_5 P) (B (W.boot_o_9 P) (B (oT #[vS "k" 190]) (B (x33 P) (B (x65 P) (B (oT #[]) (11:) N) (B (x193 P) (B (oT #[vS "reader" 599,vS "room" 600]) N N) N)) (B (oT #[]) (B (x161 P) (B (x289 P) N N) N) (2:))) (B (x49 P) (B (oE) (B (oT #[vS "self" 368,vS "sign" 369]) (B (x273 P) N N) N) (B (oT #[]) (B (x337 P) N N) N)) (B (x113 P) (B (x177 P) (11:) N) (B (x241 P) N N)))) (B (x25 P) (B (x41 P) (B (oT #[]) (B (oE) (B (x265 P) N N) N) (B (oT #[vS "word" 434,vS "signs" 435]) (B (x329 P) N N) N)) (B (x105 P) (B (x169 P) (2:) N) (B (x233 P) N N))) (B (x57 P) (B (x89 P) (B (oT #[]) (B (x281 P) N N) N) (B (x217 P) (2:) N)) (B (x121 P) (B (oT #[]) (B (x313 P) N N) N) (2:))))) (B (x13 P) (B (x21 P) (B (x37 P) (B (oT #[]) (B (x133 P) (B (x261 P) N N) N) (B (x197 P) (2:) N)) (B (x101 P) (B (oE) (11:) N) (B (x229 P) N N))) (B (x53 P) (B (x85 P) (B (x149 P) (B (x277 P) N N) N) (B (oT #[]) (11:) N)) (B (oT #[vS "self" 339]) (B (oT #[]) (B (x309 P) N N) N) (2:)))) (B (oT #[]) (B (x45 P) (B (x77 P) (B (x141 P) (11:) N) (B (x205 P) (B (x333 P) N N) N)) (B (oE) (B (oT #[vS "self" 398,vS "word" 399]) (B (x301 P) N N) N) (B (oT #[vS "term" 478,vS "parts" 479]) N N))) (B (x61 P) (B (x93 P) (B (oT #[]) (B (x285 P) N N) N) (B (oT #[]) (B (x349 P) N N) N)) (B (oT #[]) (B (x189 P) (B (x317 P) N N) N) (B (x253 P) N N))))))) (B (Obj.mk vNo none (Data.dict #[]) #[]) (B (W.boot_o_4 P) (B (W.boot_o_8 P) (B (oE) (B (x32 P) (B (x64 P) (B (x128 P) (2:) N) (B (oT #[vS "found" 421,vS "spot" 422]) (B (x320 P) N N) N)) (B (x96 P) (B (oT #[]) (11:) N) (B (x224 P) N N))) (B (x48 P) (B (oT #[]) (B (oE) (B (x272 P) N N) N) (B (oT #[vS "term" 444]) (11:) N)) (B (x112 P) (B (x176 P) (2:) N) (B (x240 P) N N)))) (B (x24 P) (B (x40 P) (B (x72 P) (B (oT #[]) (11:) N) (B (oE) (B (x328 P) N N) N)) (B (x104 P) (B (x168 P) (B (x296 P) N N) N) (B (x232 P) N N))) (B (x56 P) (B (oE) (B (oT #[vS "self" 376,vS "word" 377]) (B (x280 P) N N) N) (B (x216 P) (B (x344 P) N N) N)) (B (x120 P) (B (x184 P) (11:) N) (B (x248 P) N N))))) (B (y12_401 P) (B (x20 P) (B (x36 P) (B (x68 P) (B (oT #[]) (B (x260 P) N N) N) (B (x196 P) (B (x324 P) N N) N)) (B (x100 P) (B (oT #[]) (2:) N) (B (x228 P) N N))) (B (x52 P) (B (x84 P) (B (x148 P) (11:) N) (B (x212 P) (2:) N)) (B (oE) (B (x180 P) (B (x308 P) N N) N) (B (oT #[vS "mark" 488]) N N)))) (B (x28 P) (B (x44 P) (B (oT #[]) (B (x140 P) (2:) N) (B (x204 P) (B (x332 P) N N) N)) (B (oT #[]) (B (oE) (2:) N) (11:))) (B (oE) (B (x92 P) (B (x156 P) (B (x284 P) N N) N) (B (x220 P) (2:) N)) (B (oT #[vS "self" 346]) (B (oT #[]) (B (x316 P) N N) N) (2:)))))) (B (W.boot_o_6 P) (B (W.boot_o_10 P) (B (oT #[]) (B (x34 P) (B (oT #[]) (B (oE) (B (oT #[vS "names" 504]) N N) N) (B (x194 P) (B (x322 P) N N) N)) (B (x98 P) (B (x162 P) (B (x290 P) N N) N) (11:))) (B (x50 P) (B (x82 P) (B (oT #[]) (B (x274 P) N N) N) (B (x210 P) (B (x338 P) N N) N)) (B (x114 P) (B (oT #[]) (B (x306 P) N N) N) (2:)))) (B (oE) (B (oT #[]) (B (oE) (B (oT #[vS "self" 360,vS "sign" 361]) (B (x266 P) N N) N) (B (oT #[]) (2:) N)) (B (x106 P) (B (x170 P) (11:) N) (B (x234 P) N N))) (B (x58 P) (B (oT #[]) (B (x154 P) (2:) N) (B (oT #[]) (11:) N)) (B (oT #[]) (B (oE) (2:) N) (11:))))) (B (x14 P) (B (oT #[Value.type "ValueError"]) (B (x38 P) (B (x70 P) (B (x134 P) (B (x262 P) N N) N) (B (x198 P) (11:) N)) (B (x102 P) (B (oT #[vS "self" 391]) (B (x294 P) N N) N) (2:))) (B (oT #[]) (B (x86 P) (B (oT #[]) (2:) N) (B (oE) (B (x342 P) N N) N)) (B (oT #[]) (B (x182 P) (B (x310 P) N N) N) (B (x246 P) N N)))) (B (x30 P) (B (x46 P) (B (x78 P) (B (x142 P) (B (oT #[vS "wood" 517,vS "kind" 518]) N N) N) (B (oT #[]) (B (x334 P) N N) N)) (B (oT #[vS "self" 331,vS "text" 332]) (B (oT #[]) (B (x302 P) N N) N) (2:))) (B (oT #[]) (B (oT #[]) (B (oE) (B (x286 P) N N) N) (B (x222 P) (B (x350 P) N N) N)) (B (x126 P) (B (x190 P) (2:) N) (B (x254 P) N N)))))))
def _root_.PySem.W.Fast.te11583059713398106478:=@rfl _ PySem.W.Fast.tw11583059713398106478
def K12.y3_329(P:iR):iS:={ cls:=Value.type "dict",data:=Data.dict (hE P "__name__" 165 (vS "turnery.woods" 499)::(l3 P).take 37).toArray 38 }
def K12.y12_329(P:iR):iS:={ cls:=vNo,data:=Data.fields (l12.take 72).toArray }
def _root_.PySem.W.Fast.tw13545344855760624523:Params->W.BT:=λP=>B (W.boot_o_0 P) (B (W.boot_o_1 P) (B (y3_329 P) (B (W.boot_o_7 P) (B (oT #[]) (B (x31 P) (B (x63 P) (B (x127 P) (B (x255 P) N N) N) (B (x191 P) N N)) (B (oE) (B (oT #[vS "self" 384]) N N) (B (x223 P) N N))) (B (oT #[vR 31]) (B (x79 P) (B (oT #[]) (2:) N) (11:)) (B (oT #[]) (B (x175 P) N N) (B (x239 P) N N)))) (B (x23 P) (B (oE) (B (x71 P) (B (x135 P) (2:) N) (2:)) (B (x103 P) (2:) (11:))) (B (x55 P) (B (oT #[]) (B (oE) (B (x279 P) N N) N) (B (x215 P) N N)) (B (x119 P) (B (x183 P) N N) (B (x247 P) N N))))) (B (x11 P) (B (x19 P) (B (oT #[vR 31]) (B (oE) (B (oT #[vS "self" 353]) (2:) N) (B (x195 P) N N)) (B (x99 P) (B (x163 P) N N) (B (x227 P) N N))) (B (oE) (B (oT #[]) (B (x147 P) (2:) N) (B (x211 P) N N)) (B (oT #[]) (11:) (11:)))) (B (x27 P) (B (x43 P) (B (x75 P) (B (oT #[]) (B (x267 P) N N) N) (B (x203 P) N N)) (B (x107 P) (2:) (2:))) (B (oT #[]) (B (x91 P) (B (x155 P) N N) (11:)) (B (oE) (B (x187 P) N N) (B (oT #[vS "texts" 495]) N N)))))) (B (W.boot_o_5 P) (B (W.boot_o_9 P) (B (oT #[vS "k" 190]) (B (x33 P) (B (x65 P) (B (oT #[]) (11:) N) (B (x193 P) N N)) (B (oT #[]) (B (x161 P) N N) (2:))) (B (x49 P) (B (oE) (B (oT #[vS "self" 368,vS "sign" 369]) (B (x273 P) N N) N) (2:)) (B (x113 P) (B (x177 P) N N) (B (x241 P) N N)))) (B (x25 P) (B (x41 P) (B (oT #[]) (B (oE) (B (x265 P) N N) N) (B (oT #[vS "word" 434,vS "signs" 435]) N N)) (B (x105 P) (B (x169 P) N N) (B (x233 P) N N))) (B (x57 P) (B (x89 P) (B (oT #[]) (B (x281 P) N N) N) (B (x217 P) N N)) (B (x121 P) (2:) (2:))))) (B (x13 P) (B (x21 P) (B (x37 P) (B (oT #[]) (B (x133 P) (B (x261 P) N N) N) (B (x197 P) N N)) (B (x101 P) (11:) (B (x229 P) N N))) (B (x53 P) (B (x85 P) (B (x149 P) (B (x277 P) N N) N) (2:)) (B (oT #[vS "self" 339]) (2:) (2:)))) (B (oT #[]) (B (x45 P) (B (x77 P) (B (x141 P) (11:) N) (B (x205 P) N N)) (B (oE) (B (oT #[vS "self" 398,vS "word" 399]) N N) (B (oT #[vS "term" 478,vS "parts" 479]) N N))) (B (x61 P) (B (x93 P) (2:) (2:)) (B (oT #[]) (B (x189 P) N N) (B (x253 P) N N))))))) (B (Obj.mk vNo none (Data.dict #[]) #[]) (B (W.boot_o_4 P) (B (W.boot_o_8 P) (B (oE) (B (x32 P) (B (x64 P) (B (x128 P) (2:) N) (B (oT #[vS "found" 421,vS "spot" 422]) N N)) (B (x96 P) (2:) (B (x224 P) N N))) (B (x48 P) (B (oT #[]) (B (oE) (B (x272 P) N N) N) (B (oT #[vS "term" 444]) N N)) (B (x112 P) (B (x176 P) N N) (B (x240 P) N N)))) (B (x24 P) (B (x40 P) (B (x72 P) (B (oT #[]) (11:) N) (11:)) (B (x104 P) (B (x168 P) N N) (B (x232 P) N N))) (B (x56 P) (B (oE) (B (oT #[vS "self" 376,vS "word" 377]) (B (x280 P) N N) N) (B (x216 P) N N)) (B (x120 P) (B (x184 P) N N) (B (x248 P) N N))))) (B (y12_329 P) (B (x20 P) (B (x36 P) (B (x68 P) (B (oT #[]) (B (x260 P) N N) N) (B (x196 P) N N)) (B (x100 P) (2:) (B (x228 P) N N))) (B (x52 P) (B (x84 P) (B (x148 P) (11:) N) (B (x212 P) N N)) (B (oE) (B (x180 P) N N) (B (oT #[vS "mark" 488]) N N)))) (B (x28 P) (B (x44 P) (B (oT #[]) (B (x140 P) (2:) N) (B (x204 P) N N)) (B (oT #[]) (11:) (11:))) (B (oE) (B (x92 P) (B (x156 P) N N) (B (x220 P) N N)) (B (oT #[vS "self" 346]) (2:) (2:)))))) (B (W.boot_o_6 P) (B (W.boot_o_10 P) (B (oT #[]) (B (x34 P) (B (oT #[]) (B (oE) (B (oT #[vS "names" 504]) N N) N) (B (x194 P) N N)) (B (x98 P) (B (x162 P) N N) (11:))) (B (x50 P) (B (x82 P) (B (oT #[]) (B (x274 P) N N) N) (B (x210 P) N N)) (B (x114 P) (2:) (2:)))) (B (oE) (B (oT #[]) (B (oE) (B (oT #[vS "self" 360,vS "sign" 361]) (B (x266 P) N N) N) (2:)) (B (x106 P) (B (x170 P) N N) (B (x234 P) N N))) (B (x58 P) (B (oT #[]) (B (x154 P) N N) (2:)) (B (oT #[]) (11:) (11:))))) (B (x14 P) (B (oT #[Value.type "ValueError"]) (B (x38 P) (B (x70 P) (B (x134 P) (B (x262 P) N N) N) (B (x198 P) N N)) (B (x102 P) (B (oT #[vS "self" 391]) N N) (2:))) (B (oT #[]) (B (x86 P) (B (oT #[]) (2:) N) (11:)) (B (oT #[]) (B (x182 P) N N) (B (x246 P) N N)))) (B (x30 P) (B (x46 P) (B (x78 P) (B (x142 P) (B (oT #[vS "wood" 517,vS "kind" 518]) N N) N) (2:)) (B (oT #[vS "self" 331,vS "text" 332]) (2:) (2:))) (B (oT #[]) (B (oT #[]) (11:) (B (x222 P) N N)) (B (x126 P) (B (x190 P) N N) (B (x254 P) N N)))))))
def _root_.PySem.W.Fast.te13545344855760624523:=@rfl _ PySem.W.Fast.tw13545344855760624523
def K12.y3_244(P:iR):iS:={ cls:=Value.type "dict",data:=Data.dict (hE P "__name__" 165 (12:)::(l3 P).take 24).toArray 25 }
def K12.y12_244(P:iR):iS:={ cls:=vNo,data:=Data.fields (l12.take 33).toArray }
def _root_.PySem.W.Fast.tw10260754110056492742:Params->W.BT:=λP=>B (W.boot_o_0 P) (B (W.boot_o_1 P) (B (y3_244 P) (B (W.boot_o_7 P) (B (oT #[]) (B (x31 P) (B (x63 P) (B (x127 P) N N) (B (x191 P) N N)) (B (oE) (B (oT #[vS "self" 384]) N N) N)) (B (oT #[vR 31]) (B (x79 P) (2:) N) (B (oT #[]) (B (x175 P) N N) N))) (B (x23 P) (B (oE) (B (x71 P) (B (x135 P) N N) N) (B (x103 P) (2:) N)) (B (x55 P) (B (oT #[]) (11:) N) (B (x119 P) (B (x183 P) N N) N)))) (B (x11 P) (B (x19 P) (B (oT #[vR 31]) (B (oE) (B (oT #[vS "self" 353]) N N) (B (x195 P) N N)) (B (x99 P) (B (x163 P) N N) N)) (B (oE) (B (oT #[]) (B (x147 P) N N) N) (B (oT #[]) (11:) N))) (B (x27 P) (B (x43 P) (B (x75 P) (2:) N) (B (x107 P) (2:) N)) (B (oT #[]) (B (x91 P) (B (x155 P) N N) N) (B (oE) (B (x187 P) N N) N))))) (B (W.boot_o_5 P) (B (W.boot_o_9 P) (B (oT #[vS "k" 190]) (B (x33 P) (B (x65 P) (2:) (B (x193 P) N N)) (B (oT #[]) (B (x161 P) N N) N)) (B (x49 P) (B (oE) (B (oT #[vS "self" 368,vS "sign" 369]) N N) N) (B (x113 P) (B (x177 P) N N) N))) (B (x25 P) (B (x41 P) (B (oT #[]) (11:) N) (B (x105 P) (B (x169 P) N N) N)) (B (x57 P) (B (x89 P) (2:) N) (B (x121 P) (2:) N)))) (B (x13 P) (B (x21 P) (B (x37 P) (B (oT #[]) (B (x133 P) N N) (B (x197 P) N N)) (B (x101 P) (11:) N)) (B (x53 P) (B (x85 P) (B (x149 P) N N) N) (B (oT #[vS "self" 339]) (2:) N))) (B (oT #[]) (B (x45 P) (B (x77 P) (B (x141 P) N N) N) (B (oE) (B (oT #[vS "self" 398,vS "word" 399]) N N) N)) (B (x61 P) (B (x93 P) (2:) N) (B (oT #[]) (B (x189 P) N N) N)))))) (B (Obj.mk vNo none (Data.dict #[]) #[]) (B (W.boot_o_4 P) (B (W.boot_o_8 P) (B (oE) (B (x32 P) (B (x64 P) (B (x128 P) N N) (B (oT #[vS "found" 421,vS "spot" 422]) N N)) (B (x96 P) (2:) N)) (B (x48 P) (B (oT #[]) (11:) N) (B (x112 P) (B (x176 P) N N) N))) (B (x24 P) (B (x40 P) (B (x72 P) (2:) N) (B (x104 P) (B (x168 P) N N) N)) (B (x56 P) (B (oE) (B (oT #[vS "self" 376,vS "word" 377]) N N) N) (B (x120 P) (B (x184 P) N N) N)))) (B (y12_244 P) (B (x20 P) (B (x36 P) (B (x68 P) (2:) (B (x196 P) N N)) (B (x100 P) (2:) N)) (B (x52 P) (B (x84 P) (B (x148 P) N N) N) (B (oE) (B (x180 P) N N) N))) (B (x28 P) (B (x44 P) (B (oT #[]) (B (x140 P) N N) N) (B (oT #[]) (11:) N)) (B (oE) (B (x92 P) (B (x156 P) N N) N) (B (oT #[vS "self" 346]) (2:) N))))) (B (W.boot_o_6 P) (B (W.boot_o_10 P) (B (oT #[]) (B (x34 P) (B (oT #[]) (11:) (B (x194 P) N N)) (B (x98 P) (B (x162 P) N N) N)) (B (x50 P) (B (x82 P) (2:) N) (B (x114 P) (2:) N))) (B (oE) (B (oT #[]) (B (oE) (B (oT #[vS "self" 360,vS "sign" 361]) N N) N) (B (x106 P) (B (x170 P) N N) N)) (B (x58 P) (B (oT #[]) (B (x154 P) N N) N) (B (oT #[]) (11:) N)))) (B (x14 P) (B (oT #[Value.type "ValueError"]) (B (x38 P) (B (x70 P) (B (x134 P) N N) (B (x198 P) N N)) (B (x102 P) (B (oT #[vS "self" 391]) N N) N)) (B (oT #[]) (B (x86 P) (2:) N) (B (oT #[]) (B (x182 P) N N) N))) (B (x30 P) (B (x46 P) (B (x78 P) (B (x142 P) N N) N) (B (oT #[vS "self" 331,vS "text" 332]) (2:) N)) (B (oT #[]) (B (oT #[]) (11:) N) (B (x126 P) (B (x190 P) N N) N))))))
def _root_.PySem.W.Fast.te10260754110056492742:=@rfl _ PySem.W.Fast.tw10260754110056492742
end
open PySem PySem.W PyProof.Rows
set_option maxRecDepth 100000 in
set_option maxHeartbeats 0 in
theorem PySem.Challenge.cw_turnery_k12_turnings_read_and_shown_holds : PySem.Challenge.rw_turnery_k12_turnings_read_and_shown.Holds := by
 w_on;o_law;k_head;(case hw=>w_witness2)
 k_fill
 refine K12.walk (c1:=323) (T1:=319) (l:=PySem.Challenge.rw_turnery_k12_turnings_read_and_shown) rfl rfl (λw h Y=>PySem.W.km_in_of Y) ?tb1 ?F
 case tb1=>
  intro w;refine' L2.TabAt.mk ⟨_,?a⟩ ?b ?c ?d;(case a=>exact rfl);(case b|c|d=>kernel_rfl)
 case F=>
  intro w mg fa h KX G hmg;refine' K12.all_mk (c1:=323) (T1:=319) KX G hmg ?d1 ?d2 ?d3 ?d4 ?d5 ?d6 ?d7 ?d8 ?d9 ?d10 ?d11 ?d12 ?d13 ?d14 ?d15 ?d16 ?d17 ?d18 ?d19 ?d20 ?d21 ?d22 ?d23 ?d24 ?d25 ?d26 ?d27 ?d28 ?d29 ?d30 ?d31 ?d32 ?d33 ?d34 ?d35 ?d36 ?d37 ?d38 ?d39 ?d40 ?d41 ?d42 ?d43 ?d44 ?d45 ?d46 ?d47 ?d48 ?d49 ?z1 ?z2 ?z3 ?z4 ?z5 ?z6 ?z7 ?z8 ?ht1 ?hh1 ?gA ?gB ?gC ?gD ?gE ?gF ?gG ?gH ?gI ?gJ ?gK ?gL ?gM ?gN ?gO ?s1
  (case ht1|hh1=>kernel_rfl)
  (case d1|d2|d3|d4|d5|d6|d7|d8|d9|d10|d11|d12|d13|d14|d15|d16|d17|d18|d19|d20|d21|d22|d23|d24|d25|d26|d27|d28|d29|d30|d31|d32|d33|d34|d35|d36|d37|d38|d39|d40|d41|d42|d43|d44|d45|d46|d47|d48|d49=>refine' L2.DefAt.mk' ?a ?l ?c ?k;(case a|l|c|k=>k_is))
  (case z1|z2|z3|z4|z5|z6|z7|z8|gA|gB|gC|gD|gE|gF|gG|gH|gI|gJ|gK|gL|gM|gN|gO=>k_is)
  case s1=>
   refine' K12.RdK.mk' ?aC ?pg ?hd ?po ?sa ?n1 ?n2 ?mk ?kc ?m1 ?m2 ?m3 ?m4 ?m5 ?m6 ?m7 ?m8 ?m9 ?m10 ?m11
   (case aC|pg|hd|po|sa|n1|n2|mk|kc=>k_is)
   (case m1|m2|m3|m4|m5|m6|m7|m8|m9|m10|m11=>refine' L2.MethAt.mk' ?a ?i ?l ?c ?k;(case a|i|l|c|k=>k_is))
