import PyProof.Rows.All
import Wide.All
import OpenK.AllK
import Wide.FinOn
import Lean
import PyProof.EqAt
import PyProof.EqKinds
import PyProof.TupleCall
import KE.KSortTup
import PyProof.PureStr
import KE.KLam
import KE.KNestM
import PyProof.DictItems
import PyProof.DictValues
import PyProof.DictWalks
import KE.KRevIter
import KE.KTryDeep
import KE.KTryOn
import OpenK.KOwn
import PyProof.FString
import PyProof.RulesAs
import PyProof.NsDelKeeps
import PySem.Challenge.RW_turnery_k27_whole_outcomes
set_option hygiene false
set_option compiler.extract_closed false
local macro_rules|`((0:))=>`((by decide +kernel))
local macro_rules|`((1:))=>`(⟨rfl,rfl,rfl,by decide +kernel,rfl,by decide +kernel,by decide +kernel⟩)
local macro_rules|`((2:))=>`((fun _ _=>rfl))
local macro_rules|`((3:))=>`((B (oT #[]) N N))
local macro_rules|`((4:))=>`((Nat.le_refl _))
local macro_rules|`((5:))=>`((Or.inl rfl))
local macro_rules|`((6:))=>`((model X.prog X.w))
local macro_rules|`((7:))=>`((by lia))
local macro_rules|`((8:))=>`((Addr × Obj))
local macro_rules|`((9:))=>`((∀ b o,b≠zp->b≠tu->b≠j1->b≠j2->s.heap.get? b=some o->h'.get? b=some o))
local macro_rules|`((10:))=>`((envOfC qual scope s.heap.objs.size f cd))
local macro_rules|`((11:))=>`((model prog w))
local macro_rules|`((12:))=>`((B (oE) N N))
local macro_rules|`((13:))=>`((fun vs H Q E h=>?_))
local macro_rules|`((14:))=>`((by simp))
local macro_rules|`((15:))=>`(((s.heap.update a (Obj.mapSeq fun _=>(#[]:Array Value))).push (seqObj "tuple" vs.toArray 0)))
local macro_rules|`((16:))=>`(⟨I.ok.mod,I.ok.kind,I.ok.glob,I.ok.blt,I.ok.above,I.ok.inj,I.ok.has,I.ok.cab,I.ok.hd,I.ok.frames,I.ok.stk,I.ok.exf,I.ok.bs,I.ok.bsz,I.ok.noex,I.ok.exfs,I.ok.funs,I.ok.frf⟩)
local macro_rules|`((17:))=>`((Q2 X (xs ++ caps) scope cl s3.heap.objs.size fp s3 H3))
local macro_rules|`((18:))=>`((by decide))
local macro_rules|`((19:))=>`(⟨.ref s.heap.objs.size,_,I2,rfl,⟨s.heap.objs.size,_,_,I.fresh,rfl,rfl,ex,ey⟩,⟨ad,J.extBut _ _ Ap.TIz (hk _ _ Ap.TIz Ap.TITO Ap.TIi1 Ap.TIi2 F),⟨_,_,J.extBut _ _ Ap.TOz a2⟩,a3.extBut J.extBut Ap.i1z,a4.extBut J.extBut Ap.i2z⟩,ae⟩)
local macro_rules|`((20:))=>`((wpAny_callSpecial?_slot (name:=Str.ofString "__next__") hi.typeIs F.slot_tuple_iterator_next (wpAny_call_entry F.slot_tuple_iterator_next hi.typeIs F.entry_tuple_iterator_next ?_ (F.args_tuple_iterator_next_1 _))))
local macro_rules|`((21:))=>`((by show 0<=sizeLine;decide))
local macro_rules|`((22:))=>`(⟨by decide,by decide⟩)
local macro_rules|`((23:))=>`((by intro z;cases z))
set_option genSizeOf false
set_option bootstrap.genMatcherCode false
local macro_rules
 | `($m:declModifiers def $i:declId $s:optDeclSig $v:declVal)=>if m.raw.getArgs.all (·.isNone) then `(noncomputable def $i:declId $s:optDeclSig $v:declVal) else Lean.Macro.throwUnsupported
 | `($m:declModifiers abbrev $i:declId $s:optDeclSig $v:declVal)=>if m.raw.getArgs.all (·.isNone) then `(noncomputable abbrev $i:declId $s:optDeclSig $v:declVal) else Lean.Macro.throwUnsupported
abbrev h8:=PySem.Params
abbrev h9:=PySem.Obj
abbrev ia:=@PySem.Str.ofString
abbrev ib:=PySem.Challenge.pw_turnery_k27_whole_outcomes.main.body
abbrev aA:=@PySem.wpAny_bind
abbrev aB:=@List.getElem?_eq_getElem
abbrev aC:=@List.length_map
abbrev aG:=@PySem.Heap.get?_push_of_some
abbrev aK:=@List.getElem?_eq_some_iff
abbrev aI:=@List.getElem?_map
abbrev aH:=@Option.some.inj
abbrev aD:=@PySem.wpAny_pure
abbrev aN:=@List.mem_of_getElem?
abbrev aJ:=@PySem.Heap.lt_size
abbrev aQ:=@PySem.Heap.get?_push_size
abbrev aE:=@if_pos
abbrev aM:=@List.mem_cons
abbrev aF:=@if_neg
abbrev aR:=@List.map_append
abbrev aW:=@Bool.false_ne_true
abbrev aV:=@List.size_toArray
abbrev bC:=@List.mem_cons_of_mem
abbrev aO:=@PySem.W.mg_of
abbrev bA:=@List.mem_cons_self
abbrev aZ:=@List.getElem_mem
abbrev aS:=@List.map_cons
abbrev bJ:=@List.mem_append_right
abbrev bL:=@List.take_of_length_le
abbrev bE:=@List.length_append
abbrev aX:=@PySem.boot_len
abbrev aT:=@List.mem_map
abbrev aP:=@PySem.wpAny_field
abbrev a_:=@List.mem_append
abbrev a':=@PySem.PassesOwn.never
abbrev bO:=@List.length_singleton
abbrev bD:=@Bool.and_eq_true
abbrev aU:=@Nat.ne_of_lt
abbrev bF:=@Int.toNat_natCast
abbrev aY:=@Nat.le_trans
abbrev bH:=@List.mem_nil_iff
abbrev bZ:=@List.mem_append_left
abbrev bP:=@Int.emod_lt_of_pos
abbrev bU:=@Nat.lt_of_lt_of_le
abbrev aL:=@Ne.symm
abbrev bN:=@decide_eq_false
abbrev bB:=@Nat.le_refl
abbrev b_:=@List.take_add_one
abbrev bQ:=@List.length_set
abbrev bR:=@Int.emod_nonneg
abbrev cN:=@PySem.F.plainAttrs_list
abbrev cC:=@List.getElem?_set
abbrev cA:=@List.length_take
abbrev cE:=@PySem.W.mg_none_of
abbrev cG:=@Int.toNat_of_nonneg
abbrev cV:=@PySem.wpAny_callSpecial?_slot
abbrev bI:=@List.map_map
abbrev cY:=@List.getElem?_append_left
abbrev cD:=@List.length_cons
abbrev bV:=@PySem.wpAny_seqItems
abbrev bW:=@decide_eq_true
abbrev dJ:=@List.getElem?_append_right
abbrev bX:=@Nat.lt_irrefl
abbrev cO:=@List.getElem_of_mem
abbrev bK:=@Nat.zero_le
abbrev cH:=@PySem.wpAny_call_entry
abbrev dM:=@PySem.F.slot_list_append
abbrev dN:=@PySem.F.type_list_append
abbrev cJ:=@of_decide_eq_true
abbrev cQ:=@PySem.wpAny_setField_rec
abbrev eB:=@List.getD_eq_getElem?_getD
abbrev cZ:=@List.length_replicate
abbrev cF:=@PySem.wpAny_holding
abbrev bS:=@PySem.wpAny_mono
abbrev cK:=@PySem.Heap.size_push
abbrev fA:=@PyProof.Rows.boot_isinstance
abbrev bG:=@or_false
abbrev c_:=@PySem.wpAny_newObj_type
abbrev fO:=@PyProof.Rows.slot_tuple_getitem
abbrev eP:=@PyProof.Rows.boot_tuple
abbrev cL:=@PySem.strLen_append
abbrev dO:=@List.mem_singleton
abbrev dQ:=@List.mem_filterMap
abbrev cW:=@PySem.W.kia_one
abbrev eQ:=@PySem.Heap.get?_update_other
abbrev dS:=@decide_eq_true_eq
abbrev dD:=@List.find?_cons
abbrev fP:=@PyProof.Rows.callWith_type1
abbrev dU:=@List.lookup_cons
abbrev dX:=@List.all_eq_true
abbrev cS:=@Nat.le_of_lt
abbrev fB:=@PyProof.Rows.boot_dict
abbrev eE:=@PySem.wpAny_truthy_bool
abbrev cI:=@PySem.wpAny_rule
abbrev dY:=@PySem.F.slot_zip_next
abbrev dZ:=@List.append_nil
abbrev fQ:=@List.getElem?_zip_eq_some
abbrev fC:=@PySem.Heap.get?_update_self
abbrev eG:=@PySem.wpAny_isInstance
abbrev cU:=@PySem.sizeLine_eq
abbrev eI:=@Option.map_some
abbrev fD:=@PySem.Heap.get?_update_ne
abbrev fE:=@PySem.Heap.SameBut.update
abbrev cX:=@PySem.wpAny_of_eq
abbrev d_:=@PySem.wpAny_attempt
abbrev cB:=@if_true
abbrev fF:=@PySem.wpAny_Call_Name_kw
abbrev fS:=@PySem.F.slot_dict_get
abbrev gr:=@List.mem_of_find?_eq_some
abbrev fU:=@PySem.lookup_relabel_local
abbrev eS:=@List.foldl_cons
abbrev fV:=@List.mem_of_mem_take
abbrev eJ:=@Bool.and_self
abbrev gs:=@List.length_eq_zero_iff
abbrev fW:=@beq_eq_false_iff_ne
abbrev bY:=@Or.inr
abbrev eU:=@PySem.wpAny_setField
abbrev eV:=@PySem.isSubtype_stop
abbrev eW:=@List.mem_range
abbrev fG:=@Nat.min_le_right
abbrev dF:=@True.intro
abbrev fX:=@PySem.Obj.data_mapFields
abbrev fH:=@List.forIn_cons
abbrev fI:=@PySem.wpAny_passesOwn
abbrev fJ:=@List.nil_append
abbrev eX:=@PySem.plainId_quiet
abbrev eY:=@PySem.wpAny_onRaise
abbrev eZ:=@List.sum_cons
abbrev gS:=@PySem.F.excBase_ValueError
abbrev gv:=@PySem.wpAny_updateSeq_pair
abbrev gw:=@PySem.Around.under_plainId
abbrev gT:=@List.pairwise_iff_getElem
abbrev gy:=@List.getElem?_append
abbrev eN:=@PySem.wpAny_letGo
abbrev fK:=@List.forIn_nil
abbrev fY:=@PySem.wpAny_pyIter_zip
abbrev fZ:=@PySem.F.plain_max_loop
abbrev e_:=@Nat.sub_self
abbrev f_:=@List.getElem_map
abbrev gA:=@List.filterMap_cons
abbrev gB:=@Array.length_toList
abbrev gC:=@PySem.mem_of_lookup
abbrev gU:=@PySem.F.plainAttrs_dict
abbrev gj:=@PySem.codeAny_builtin
abbrev gD:=@Bool.false_eq_true
abbrev gE:=@PySem.tupleKind_room_in1
abbrev gk:=@PyProof.Rows.KeyOrd.kle_refl
abbrev dG:=@if_false
abbrev gW:=@PySem.Calls.callWith_builtin
abbrev gX:=@List.length_eq_one_iff
abbrev gY:=@PySem.F.entry_dict_get
abbrev gF:=@PySem.F.args_zip_next_1
abbrev gZ:=@PySem.Obj.isFreed_of_fields
abbrev fL:=@PySem.wpAny_typeOf
abbrev fN:=@Nat.ne_of_gt
abbrev gn:=@PySem.wpAny_tryCatch
abbrev hV:=@PySem.F.slot_range_reversed
abbrev gI:=@List.zipIdx_cons
abbrev gJ:=@PySem.F.entry_zip_next
abbrev gK:=@List.getElem_inj
abbrev g_:=@PySem.Calls.evalArgs_plain
abbrev hJ:=@List.length_pos_iff
abbrev gL:=@List.zipIdx_nil
abbrev gM:=@List.mem_filter
abbrev gO:=@PySem.wpAny_execs_nil
abbrev gP:=@Bool.eq_iff_iff
abbrev gQ:=@List.nodup_cons
abbrev gR:=@Nat.le_add_left
abbrev hZ:=@List.mem_or_eq_of_mem_set
abbrev h7:=@PySem.F.args_tuple_add_2
abbrev gq:=@List.map_nil
abbrev Fg:=PySem.W.Frag
noncomputable section
set_option Elab.async false
set_option linter.all false
set_option maxRecDepth 100000
set_option maxHeartbeats 4000000
variable{h' h1 h2 base:PySem.Heap}{A:PySem.Around}{prog P:PySem.Program}{w:PySem.World}{E Q QQ:PySem.Value->PySem.Shared->Prop}{s s' s1:PySem.Shared}{v c u cd doc pm cdv ct oc vl vu:PySem.Value}{a it f l b dd zp ti tu j1 j2 t1 t2 d C dx acc lm wd lw ln lb fa T0 T1 T2 T3 CN CG lx c1 c2 c3:PySem.Addr}{o ob:PySem.Obj}{e tg iter value e1 e2 elt:PySem.Expr}{es elts ifs:List PySem.Expr}{vs its items us:Array PySem.Value}{i ep n1 n2 t' j n k' k1:Nat}{env:PySem.Env}{pos pos' tpos apos p2 cpos py px np:PySem.Pos}{x name qual kind kd:PySem.Str}{g':Array PySem.GenState}{d':PySem.Drawn}{ch fp ds:List PySem.Addr}{M:PySem.Model}{op:PySem.CmpOp}{body:List PySem.Stmt}{R:PySem.Result->PySem.Shared->Prop}{hi:Option Int}{p:Array Nat}{mA mg:PySem.Str->Option PySem.Value}{ρ:Option PySem.Heap}{fd:PySem.FuncData}{ps loose caps ss own kinds kn:List PySem.Str}{m:Int}{kws:List PySem.Keyword}{kindOf:PySem.Str->Option PySem.NameKind}{sc scope:PySem.Scope}{outer:List PySem.Env}{an od:Option PySem.Addr}{osl sl:Array (Option PySem.Value)}{its' bmN:List PySem.Value}{XP:(PySem.Str->Option PySem.Value)->PySem.Heap->Prop}{YP:PySem.World->PySem.Heap->Prop}{I:PySem.Heap->Prop}{cl:List (PySem.Str×PySem.Addr)}{cap bare:List Nat}{use:Option (PySem.Value->PySem.Sem Unit)}{cs:List (Int×Int)}{O:PyProof.Rows.KeyOrd}{dn:Int->Int->Prop}{newId Bn inN:String}{fl:PySem.Flow}{tk1 tk2:PySem.Tok}
namespace L2
open PySem PySem.Spec PyProof.Rows
theorem JL:entryFor table "proto.unchain"=some Builtin.«proto.unchain»:=entryFor_of_tree (by kernel_rfl)
def Hd(h:Heap)(A:Around):Prop:=A.handled=none\/∃(a:Addr)(o:Obj)(fs:Array Value),A.handled=some (.ref a)/\h.get? a=some o/\o.data=.fields fs/\fs[2]?=some .none
theorem Hd.keeps{h:Heap}(d:Hd h A)(k:∀b o,h.get? b=some o->h'.get? b=some o):Hd h' A:=by
 rcases d with d | ⟨a,o,fs,e,g,r⟩
 .exact .inl d
 .exact .inr ⟨a,o,fs,e,k _ _ g,r⟩
theorem Wk{fs:Array Value}(g:s.heap.get? a=some o)(d:o.data=.fields fs)(f:fs[2]?=some .none)(q:∀r,Q r s):wpAny (11:) A (runValue (Code.builtin "proto.unchain" { pos:=[v,.ref a,.ref a,.bool false] })) Q E s:=by
 refine wpAny_runValue (gj JL ?_);refine aA (aP g d f ?_);rw [aE (by rfl)];exact aD (q _)
theorem Xq{α:Type}{e:Addr}{oe:Obj}{es:Array Value}{Q:α->Shared->Prop}(d:Hd s.heap A)(ge:s.heap.get? e=some oe)(de:oe.data=.fields es)(z:2<es.size)(ne:∀a,A.handled=some (.ref a)->a≠e)
 (q:∀h',(∀b o,b≠e->s.heap.get? b=some o->h'.get? b=some o)->(∃o,h'.get? e=some o/\o.cls=oe.cls)->E (.ref e) { s with heap:=h' }):wpAny (11:) A (raiseNew (.ref e):Sem α) Q E s:=by
 simp only [raiseNew];refine aA (wpAny_handled ?_);rcases d with d | ⟨a,o,fs,d,g,f,F⟩
 .rw [d];exact aA (aD (wpAny_throw (q _ (λb o _ e=>e) ⟨oe,ge,rfl⟩)))
 .rw [d];have D:((Value.ref a !=Value.ref e)=true):=by
   have:=ne a d;simp [bne_iff_ne,this]
  simp only [D,cB];refine aA (cF (Wk g f F λr=>?_));show wpAny _ _ (setField (.ref e) 2 (.ref a)>>=_) _ _ s;refine aA (eU ge de z (wpAny_throw (q _ (λb o n e=>?_) ⟨_,fC _ ge (gZ (fX de _)),Obj.cls_mapFields ..⟩)));rw [fD _ _ _ _ n];exact e
theorem Za{α:Type}{E':Value->Shared->Prop}{Q:α->Shared->Prop}(d:Hd s.heap A)(q:∀h' e,(∀b o,s.heap.get? b=some o->h'.get? b=some o)->(∃o,h'.get? e=some o/\o.cls=.type "StopIteration")->E (.ref e) { s with heap:=h' }):wpAny (11:) A (newExc (.type "StopIteration") []) (λx s'=>wpAny (11:) A (raiseNew x:Sem α) Q E s') E' s:=by
 simp only [newExc,newTuple];refine(aA (c_ (aA (m:=firstArgMember _ _) (cX (a:=Value.none) (by first | rfl | (simp only [firstArgMember];rfl)) (c_ ?_ (by size_fits)))) (by size_fits)));refine Xq (d.keeps λb o e=>aG _ (aG _ e)) (aQ _ rfl) rfl (by simp only [Array.size_append];show 2<6+_;lia) (λa z=>?_) λh' D x=>q h' _ (λb o e=>D b o ?_ (aG _ (aG _ e))) x
 .rcases d with d | ⟨F,o,fs,d,g,_⟩
  .rw [d]at z;cases z
  .rw [d]at z;obtain rfl:F=a:=by injection (aH z)
   have:=aJ g;rw [cK];exact aU (Nat.lt_succ_of_lt this)
 .have:=aJ e;rw [cK];exact aU (Nat.lt_succ_of_lt this)
theorem Hd.upd{h:Heap}{it:Addr}{o:Obj}{vs:Array Value}{f:Obj->Obj}(d:Hd h A)(g:h.get? it=some o)(e:o.data=.fields vs)(z:vs.size<=2):Hd (h.update it f) A:=by
 rcases d with d | ⟨a,J,fs,d,F,G,D⟩
 .exact .inl d
 .refine .inr ⟨a,J,fs,d,?_,G,D⟩;rw [fD];exact F;intro x;subst x;rw [F]at g;obtain rfl:=aH g;rw [G]at e;obtain rfl:fs=vs:=by injection e
  rw [Array.getElem?_eq_none z]at D;cases D
theorem Hd.in1{h:Heap}(d:Hd h A):Hd h A.in1:=d
theorem W8{t:Addr}{Q:Option Value->Shared->Prop}(d:Hd s.heap A)(hi:s.heap.IsTupleIter it t i)(ht:s.heap.IsTuple t its)(hx:its[i]?=none)(fin:∀h',Heap.ExtBut it s.heap h'->Q none { s with heap:=h' }):wpAny (11:) A (pyNext (.ref it)) Q E s:=by
 obtain⟨M,z,U,D⟩:=id hi;obtain⟨Y,G,_,Z,J⟩:=ht;unfold pyNext;refine aA (d_ (20:));show wpAny _ _ (field (.ref it) 0>>=_) _ _ s;refine aA (aP z D (x:=.ref t) rfl ?_);show wpAny _ _ (if(Value.ref t==Value.none)=true then _ else _) _ _ s;rw [aF (show ¬((Value.ref t==Value.none)=true)from aW)];show wpAny _ _ (field (.ref it) 1>>=_) _ _ s;refine aA (aP z D (x:=.int i 0) rfl ?_);show wpAny _ _ (seqItems? (.ref t)>>=_) _ _ s;refine aA (bV G J ?_);simp only [bF,hx];refine aA (cI (aA (eU z D (14:) ?_)));show wpAny _ _ (newExc (.type "StopIteration") []>>=_) _ _ _;refine aA (m:=newExc (.type "StopIteration") []) ?_;refine Za ?_ λh' e k x=>?_
 .exact(d.upd z D (14:)).in1
 refine aA (eG (T:="StopIteration") (b:=true) x eV ?_);exact aD (fin _ λb o n g=>k _ _ (fE .. |>.extBut b o n g))
theorem Xp:entryFor table "list_iterator.__next__"=some Builtin.«list_iterator.__next__»:=entryFor_of_tree (by kernel_rfl)
theorem JZ{t:Addr}{Q:Option Value->Shared->Prop}(d:Hd s.heap A)(hi:s.heap.IsListIter it t i)(ht:s.heap.IsList t its)(hx:its[i]?=none)(fin:∀h',Heap.ExtBut it s.heap h'->Q none { s with heap:=h' }):wpAny (11:) A (pyNext (.ref it)) Q E s:=by
 obtain⟨J,z,M,D⟩:=id hi;obtain⟨U,F,_,Y,G⟩:=ht;unfold pyNext;refine aA (d_ (cV (name:=Str.ofString "__next__") hi.typeIs slot_listiter_next (cH slot_listiter_next hi.typeIs Xp ?_)));show wpAny _ _ (field (.ref it) 0>>=_) _ _ s;refine aA (aP z D (x:=.ref t) rfl ?_);show wpAny _ _ (if(Value.ref t==Value.none)=true then _ else _) _ _ s;rw [aF (show ¬((Value.ref t==Value.none)=true)from aW)];show wpAny _ _ (field (.ref it) 1>>=_) _ _ s;refine aA (aP z D (x:=.int i 0) rfl ?_);show wpAny _ _ (seqItems? (.ref t)>>=_) _ _ s;refine aA (bV F G ?_);simp only [bF,hx];refine aA (cI (aA (eU z D (14:) ?_)));show wpAny _ _ (newExc (.type "StopIteration") []>>=_) _ _ _;refine aA (m:=newExc (.type "StopIteration") []) ?_;refine Za ?_ λh' e k x=>?_
 .exact(d.upd z D (14:)).in1
 refine aA (eG (T:="StopIteration") (b:=true) x eV ?_);exact aD (fin _ λb o n g=>k _ _ (fE .. |>.extBut b o n g))
def hA(A:Around):List Addr:=match A.handled with
 | some (.ref a)=>[a]
 | _=>[]
theorem Hd.lt{h:Heap}(d:Hd h A):∀b∈hA A,b<h.objs.size:=λb z=>by
 unfold hA at z;rcases d with d | ⟨a,o,fs,d,g,_⟩
 .rw [d]at z;cases z
 .rw [d]at z;rw [dO.mp z];exact aJ g
theorem Hd.frame{h:Heap}(d:Hd h A)(k:∀b∈hA A,∀o,h.get? b=some o->h'.get? b=some o):Hd h' A:=by
 rcases d with d | ⟨a,o,fs,d,g,r⟩
 .exact .inl d
 .exact .inr ⟨a,o,fs,d,k a (by unfold hA;rw [d];exact dO.mpr rfl) o g,r⟩
theorem Walks.listH(I ax:Addr)(ne:ax≠I)(items:Array Value)(nI:I∉hA A):Walks prog w A I ([I,ax]++hA A) [I] items.size (λi v=>items[i]?=some v) λi h=>h.IsListIter I ax i/\h.IsList ax items/\Hd h A where
 sub:=λb D=>bZ _ (by simp at D;simp [D])
 frame:=λi h h' st k=>⟨st.1.at λo e=>k I (14:) o e,let⟨o,e,r⟩:=st.2.1;⟨o,k ax (14:) o e,r⟩,st.2.2.frame λb D o e=>k b (bJ _ D) o e⟩
 item:=λi s Q E hi st q=>wpAny_pyNext_list_item st.1 st.2.1 (x:=items[i]) (by simp [hi]) λh' G F=>q _ h' s.toks (by simp [hi]) ⟨G,let⟨o,e,r⟩:=st.2.1;⟨o,(F.2 ax ne).trans e,r⟩,st.2.2.frame λb D o e=>(F.2 b (λz=>nI (z ▸ D))).trans e⟩ λb o D e=>(F.2 b (by simpa using D)).trans e
 done:=λs Q E st q=>JZ st.2.2 st.1 st.2.1 (14:) λh' J=>q h' s.toks λb o D e=>J b o (by simpa using D) e
 self:=λi s Q E st q=>wpAny_pyIter_listiter st.1 q
theorem NO(a:Value):argsOk "sum" ⟨[a],[]⟩:=by unfold argsOk;kernel_rfl
theorem Sc{xs:Array (Int×Tok)}(d:Hd s.heap A)(hl:s.heap.IsList l (intItems xs))
 (h:∀(h':Heap)(tk:Nat)(t':Tok),(∀b o,s.heap.get? b=some o->h'.get? b=some o)->Q (.int (preSum (numAt xs) xs.size) t') { s with heap:=h',toks:=tk }):wpAny (11:) A (call (.builtin "sum") [.ref l]) Q E s:=by
 have J:(intItems xs).size=xs.size:=by simp [intItems]
 refine wpAny_call (codeAny_call_builtin F.plain_sum F.entry_sum ?_);have M:wpAny (11:) A.in1 (Builtin.sum ⟨[.ref l],[]⟩) (λfin s'=>match fin with
  | .done f=>(match(Except.ok f:Result)with | .ok (.ret v)=>Q v s' | .ok _=>False | .error e=>E e s')
  | .again U=>U.quiet=true/\codeAny (11:) A U (λr s'=>match r with | .ok (.ret v)=>Q v s' | .ok _=>False | .error e=>E e s') s') E s:=by
  show wpAny _ A.in1 (Builtin.Builtins.bindParams "sum" ["start"] 0 ⟨[],[]⟩>>=_) _ _ s;refine aA (cX (show Builtin.Builtins.bindParams "sum" ["start"] 0 ⟨[],[]⟩=pure [none]from rfl) ?_);refine aA (iter_intList hl λac e st Y Z=>?_);subst e;refine aA (wpAny_mkInt ?_);refine aA (aD ?_);refine aA ?_;refine cX (a:=PUnit.unit) (by first | rfl | kernel_rfl) ?_;refine aA (wpAny_newList ?_);have D:∀b∈hA A.in1,b<s.heap.objs.size:=d.in1.lt;have nI:s.heap.objs.size∉hA A.in1:=λz=>bX _ (D _ z);have W:=Walks.listH (prog:=prog) (w:=w) (A:=A.in1) s.heap.objs.size l Z (intItems xs) nI;have hS:(s.heap.push { cls:=Value.type "list_iterator",data:=Data.fields #[Value.ref l,Value.int 0 0] }).objs.size∉[s.heap.objs.size,l]++hA A.in1:=λhm=>by
   rcases a_.mp hm with z | z
   .exact bX _ (Y _ z)
   .have:=D _ z;rw [cK]at this;exact bX _ (Nat.lt_trans (Nat.lt_succ_self _) this)
  have k0:∀b o,s.heap.get? b=some o->(s.heap.push { cls:=Value.type "list_iterator",data:=Data.fields #[Value.ref l,Value.int 0 0] }).get? b=some o:=λb o e=>aG _ e;refine aD ⟨eX F.plain_sum_loop _,codeAny_sum_loopG W (numAt xs) (λ_ _=>intItems_at) _ hS _ 0 _ _ 0 0 (.inl rfl) rfl (bK _) (W.frame _ _ _ ⟨st.1,st.2,d.in1.keeps k0⟩ λb _ o e=>aG _ e) (aQ _ rfl) λh' tk t' hk=>?_⟩;rw [J];exact h h' tk t' (old_kept λb o hb e=>hk b o hb (aU (aJ e)) (aG _ e))
 simp only [checkBuiltinCall,F.kind_sum];cases G:Manifest.signature? "sum" with
 | none=>exact aD M
 | some aa=>
  have ab:Bind.checkArgs "sum" aa ⟨[.ref l],[]⟩=pure ():=by simpa only [argsOk,G]using NO (.ref l)
  simp only [ab];exact aD M
theorem N7{t:Addr}{Q:List Value->Shared->Prop}(d:Hd s.heap A)(ht:s.heap.IsTuple t items)(q:∀h',(∀b o,s.heap.get? b=some o->h'.get? b=some o)->Q items.toList { s with heap:=h' }):wpAny (11:) A (unpackItems (.ref t) items.size none) Q E s:=by
 have z:∀b o,s.heap.get? b=some o->(s.heap.push { cls:=Value.type "tuple_iterator",data:=Data.fields #[Value.ref t,Value.int 0 0] }).get? b=some o:=λb o e=>aG _ e;have D:t≠s.heap.objs.size:=let⟨o,e,_⟩:=ht;aU (aJ e)
 unfold unpackItems notIterableAtAll;refine aA (aA (wpAny_specialOf ht.typeIs F.slot_tuple_iter.lookup ?_));rw [aE (show(some (Value.builtin "tuple.__iter__")).isSome=true from rfl)];refine aD (aA (cF (wpAny_pyIter_tuple ht ?_)));refine aA (cF (wpAny_draw_tuple D items.size 0 _ _ ⟨_,aQ _ rfl,rfl,rfl⟩ (let⟨o,e,r⟩:=ht;⟨o,z _ _ e,r⟩) (7:) λh' hi G=>?_));rw [List.drop_zero,bL (14:)];rw [aF (14:)];have k1:∀b o,s.heap.get? b=some o->h'.get? b=some o:=λb o e=>(G.2 b (aU (aJ e))).trans (z _ _ e);refine aA (cF (W8 (d.keeps k1) hi (let⟨o,e,r⟩:=ht;⟨o,k1 _ _ e,r⟩) (14:) λh2 J=>?_));rw [aF (14:)];exact aD (q _ λb o e=>J b o (aU (aJ e)) (k1 _ _ e))
theorem JK{x1:Nat}{t:Addr}{Q:Unit->Shared->Prop}(d:Hd s.heap A)(ht:s.heap.IsTuple t items)(hl:(assignEach elts env).length=items.size)(hf:(assignEach elts env).findIdx? (λx=>x.fst)=none)
 (q:∀h',(∀b o,s.heap.get? b=some o->h'.get? b=some o)->wpAny (11:) A (assignInOrder ((assignEach elts env).map λx=>x.snd) items.toList) Q E { s with heap:=h' }):wpAny (11:) A (assign (.Tuple elts x1 pos) env (.ref t)) Q E s:=by
 rw [arm_assign_Tuple];refine aA (wpAny_standAt ?_);unfold unpack;rw [hl,hf];exact aA (cF (N7 d ht q))
theorem Hd.rng{h:Heap}{f:Obj->Obj}(d:Hd h A)(g:h.get? it=some o)(e:o.data=.fields vs)(z:vs[2]?≠some .none):Hd (h.update it f) A:=by
 rcases d with d | ⟨a,J,fs,d,D,F,G⟩
 .exact .inl d
 .refine .inr ⟨a,J,fs,d,?_,F,G⟩;rw [fD];exact D;intro x;subst x;rw [D]at g;obtain rfl:=aH g;rw [F]at e;obtain rfl:fs=vs:=by injection e
  exact z G
theorem Hd.no{h:Heap}(d:Hd h A)(g:h.get? b=some o)(e:o.data=.fields vs)(z:vs[2]?≠some .none):b∉hA A:=λD=>by
 unfold hA at D;rcases d with d | ⟨a,M,fs,d,F,G,J⟩
 .rw [d]at D;cases D
 .rw [d]at D;obtain rfl:=dO.mp D;rw [F]at g;obtain rfl:=aH g;rw [G]at e;obtain rfl:fs=vs:=by injection e
  exact z J
theorem Hd.noD{h:Heap}(d:Hd h A)(g:h.get? b=some o)(z:∀vs,o.data≠.fields vs):b∉hA A:=λD=>by
 unfold hA at D;rcases d with d | ⟨a,J,fs,d,F,G,M⟩
 .rw [d]at D;cases D
 .rw [d]at D;obtain rfl:=dO.mp D;rw [F]at g;obtain rfl:=aH g;exact z _ G
theorem Hd.but{h:Heap}(d:Hd h A)(g:h.get? b=some o)(e:o.data=.fields vs)(z:vs[2]?≠some .none)(k:∀c o,c≠b->h.get? c=some o->h'.get? c=some o):Hd h' A:=d.frame λc D o F=>k c o (λx=>d.no g e z (x ▸ D)) F
theorem U7{x left step:Int}{Q:Option Value->Shared->Prop}(d:Hd s.heap A)(hi:IsRangeIter s.heap it x left step)(hl:left<=0)(fin:∀h',Heap.ExtBut it s.heap h'->Q none { s with heap:=h' }):wpAny (11:) A (pyNext (.ref it)) Q E s:=by
 unfold pyNext;refine aA (d_ (cV (name:=Str.ofString "__next__") (T:="range_iterator") ⟨_,hi,rfl⟩ F.slot_range_iterator_next (cH F.slot_range_iterator_next ⟨_,hi,rfl⟩ F.entry_range_iterator_next ?_)));show wpAny _ _ (field (.ref it) 0>>=_) _ _ s;refine aA (aP hi rfl (x:=rawInt x) rfl ?_);show wpAny _ _ (field (.ref it) 1>>=_) _ _ s;refine aA (aP hi rfl (x:=rawInt left) rfl ?_);show wpAny _ _ (field (.ref it) 2>>=_) _ _ s;refine aA (aP hi rfl (x:=rawInt step) rfl ?_);show wpAny _ _ (if left<=0 then _ else _) _ _ s;rw [aE hl];refine aA (cI (aA ?_));show wpAny _ _ (newExc (.type "StopIteration") []>>=_) _ _ _;refine aA (m:=newExc (.type "StopIteration") []) ?_;refine Za ?_ λh' e k x=>?_
 .exact d.in1
 refine aA (eG (T:="StopIteration") (b:=true) x eV ?_);exact aD (fin _ λb o n g=>k _ _ g)
theorem Lg{K:Type} [DecidableEq K] {knd:KeyKind prog w K}   {kvs:List (K×Value)} {Q:Option Value->Shared->Prop} (d:Hd s.heap A) (hI:s.heap.IsValIter it dd i kvs.length ep) (x:Heap.DictAt knd s.heap dd kvs ep) (hx:kvs[i]?=none) (fin:∀h',Heap.ExtBut it s.heap h'->Q none { s with heap:=h' }):wpAny (11:) A (pyNext (.ref it)) Q E s:=by
 obtain⟨oi,G,ci,J⟩:=id hI;obtain⟨od,es,U,Z,D,_,pr,_⟩:=id x;have z:es.size=kvs.length:=by have:=pr.length;simpa using this
 have Y:es.size<=i:=by rw [z];exact List.getElem?_eq_none_iff.mp hx
 unfold pyNext;refine aA (d_ (cV (name:=Str.ofString "__next__") hI.typeIs F.slot_dict_valueiterator_next (cH F.slot_dict_valueiterator_next hI.typeIs F.entry_dict_valueiterator_next ?_)));refine aA (aD (aA (aA ?_)))
 first | refine aA (wpAny_typeNameOfWhole_valiter hI.typeIs (aD ?_)) | refine aA (wpAny_typeNameOf_valiter hI.typeIs (aD ?_))
 refine aA (wpAny_fieldsOf G J ?_);have M:Builtin.Dict_items.ownsTuple "dict_valueiterator"=false:=by decide
 simp only [M,gD,dG];show wpAny _ _ (if(Value.ref dd==Value.none)=true then _ else _) _ _ s;rw [aF (show ¬((Value.ref dd==Value.none)=true)from aW)];refine aA (aD (aA (wpAny_dictEntries U D ?_)));rw [aF (by simp [z])];refine aA (aD (aA (wpAny_dictEpoch U D ?_)));rw [aF (14:)];refine aD ?_;simp only [show ¬((i:Int)<0)from by lia,dG,bF,Array.getElem?_eq_none Y];refine aA ?_
 first | refine aA (wpAny_typeNameOfWhole_valiter hI.typeIs (aD ?_)) | refine aA (wpAny_typeNameOf_valiter hI.typeIs (aD ?_))
 show wpAny _ _ (setField (.ref it) 0 .none>>=_) _ _ s;refine aA (eU G J (14:) ?_);show wpAny _ _ (newExc (.type "StopIteration") []>>=_) _ _ _;refine aA (m:=newExc (.type "StopIteration") []) ?_;refine Za ?_ λh' e k x=>?_
 .exact(d.rng G J (14:)).in1
 refine aA (eG (T:="StopIteration") (b:=true) x eV ?_);exact aD (fin _ λb o n g=>k _ _ (fE .. |>.extBut b o n g))
theorem Vg{K:Type} [DecidableEq K] {knd:KeyKind prog w K}   {kvs:List (K×Value)} {ok ov:Value} {Q:Option Value->Shared->Prop} (d:Hd s.heap A) (hI:IsItemIter s.heap it dd i kvs.length ep ok ov) (x:Heap.DictAt knd s.heap dd kvs ep) (hx:kvs[i]?=none) (fin:∀h',Heap.ExtBut it s.heap h'->Q none { s with heap:=h' }):wpAny (11:) A (pyNext (.ref it)) Q E s:=by
 have z:s.TypeIs (.ref it) "dict_itemiterator":=⟨_,hI,rfl⟩;obtain⟨Z,es,M,Y,G,_,pr,_⟩:=id x;have D:es.size=kvs.length:=by have:=pr.length;simpa using this
 have U:es.size<=i:=by rw [D];exact List.getElem?_eq_none_iff.mp hx
 unfold pyNext;refine aA (d_ (cV (name:=Str.ofString "__next__") z F.slot_dict_itemiterator_next (cH F.slot_dict_itemiterator_next z F.entry_dict_itemiterator_next ?_)));refine aA (aD (aA (aA ?_)))
 first | refine aA (wpAny_typeNameOfWhole_itemiter z (aD ?_)) | refine aA (wpAny_typeNameOf_itemiter z (aD ?_))
 refine aA (wpAny_fieldsOf hI rfl ?_);have J:Builtin.Dict_items.ownsTuple "dict_itemiterator"=true:=by decide
 simp only [J,cB];show wpAny _ _ (if(Value.ref dd==Value.none)=true then _ else _) _ _ s;rw [aF (show ¬((Value.ref dd==Value.none)=true)from aW)];refine aA (aD (aA (wpAny_dictEntries M G ?_)));rw [aF (by simp [D])];refine aA (aD (aA (wpAny_dictEpoch M G ?_)));rw [aF (14:)];refine aD ?_;simp only [show ¬((i:Int)<0)from by lia,dG,bF,Array.getElem?_eq_none U];refine aA ?_
 first | refine aA (wpAny_typeNameOfWhole_itemiter z (aD ?_)) | refine aA (wpAny_typeNameOf_itemiter z (aD ?_))
 show wpAny _ _ (setField (.ref it) 2 .none>>=_) _ _ s;refine aA (eU hI rfl (14:) ?_);show wpAny _ _ (newExc (.type "StopIteration") []>>=_) _ _ _;refine aA (m:=newExc (.type "StopIteration") []) ?_;refine Za ?_ λh' e k x=>?_
 .exact(d.rng hI rfl (14:)).in1
 refine aA (eG (T:="StopIteration") (b:=true) x eV ?_);exact aD (fin _ λb o n g=>k _ _ (fE .. |>.extBut b o n g))
theorem JW{t:Addr}(d:Hd s.heap A)(hi:s.heap.IsListIter it t i)(ht:s.heap.IsList t its)(hx:its[i]?=none)
 (q:∀h' e,Heap.ExtBut it s.heap h'->(∃o,h'.get? e=some o/\o.cls=.type "StopIteration")->E (.ref e) { s with heap:=h' }):wpAny (11:) A (Builtin.SmallTypes.nextOf (.ref it)) Q E s:=by
 obtain⟨J,z,M,D⟩:=id hi;obtain⟨U,F,_,Y,G⟩:=ht;unfold Builtin.SmallTypes.nextOf;refine aA (cV (name:=Str.ofString "__next__") hi.typeIs slot_listiter_next (cH slot_listiter_next hi.typeIs Xp ?_));show wpAny _ _ (field (.ref it) 0>>=_) _ _ s;refine aA (aP z D (x:=.ref t) rfl ?_);show wpAny _ _ (if(Value.ref t==Value.none)=true then _ else _) _ _ s;rw [aF (show ¬((Value.ref t==Value.none)=true)from aW)];show wpAny _ _ (field (.ref it) 1>>=_) _ _ s;refine aA (aP z D (x:=.int i 0) rfl ?_);show wpAny _ _ (seqItems? (.ref t)>>=_) _ _ s;refine aA (bV F G ?_);simp only [bF,hx];refine aA (cI (aA (eU z D (14:) ?_)));show wpAny _ _ (newExc (.type "StopIteration") []>>=_) _ _ _;refine aA (m:=newExc (.type "StopIteration") []) ?_;refine Za ?_ λh' e k x=>?_
 .exact(d.upd z D (14:)).in1
 exact q h' e (λb o n g=>k _ _ (fE .. |>.extBut b o n g)) x
theorem NT{d:Value}{Q:Fin->Shared->Prop}(dH:Hd s.heap A)(Ap:ZipApart zp ti tu j1 j2 t1 t2)
 (gz:IsZip s.heap zp ti tu .none) (gi:IsPair s.heap ti (.ref j1) (.ref j2)) (gu:IsPair s.heap tu c d)
 (w1:s.heap.IsListIter j1 t1 n1) (w2:s.heap.IsListIter j2 t2 n2) (l1:s.heap.IsList t1 us) (l2:s.heap.IsList t2 vs) (ep:us[n1]?=none\/vs[n2]?=none)
 (k:∀h' e,(9:)->(∃o,h'.get? e=some o/\o.cls=.type "StopIteration")->E (.ref e) { s with heap:=h' }):
 wpAny (11:) A (Builtin.«zip.__next__» ⟨[.ref zp],[]⟩) Q E s:=by
 show wpAny _ _ (field (.ref zp) 2>>=_) _ _ _;refine aA (aP gz rfl (x:=.bool false) rfl ?_);show wpAny _ _ (field (.ref zp) 3>>=_) _ _ _;refine aA (aP gz rfl (x:=.ref ti) rfl ?_);refine aA (bV gi rfl ?_);show wpAny _ _ (Builtin.SmallTypes.ownedTupleIsFree (.ref zp)>>=_) _ _ _;refine aA ?_;(unfold Builtin.SmallTypes.ownedTupleIsFree);refine aA (aP gz rfl (x:=.none) rfl (aD ?_));simp only [cB];refine aA (cI (aA (aP gz rfl (x:=.ref tu) rfl ?_)));refine aA (cQ gz (14:) λha U G=>?_)
 replace U:IsZip ha zp ti tu .ellipsis:=U
 have dA:Hd ha A:=dH.but gz rfl (14:) G.extBut;have Y:=w1.extBut G.extBut Ap.i1z;have ab:=l1.extBut G.extBut Ap.l1z;refine aA ?_;simp only [fH,fK,gI,gL];refine aA (aA (eY ?_));show wpAny _ _ (Builtin.SmallTypes.nextOf (.ref j1)>>=_) _ _ _
 by_cases h1:us[n1]?=none
 .refine aA (JW dA Y ab h1 λhb e F ge=>?_);obtain⟨oe,D,J⟩:=ge;have ac:IsZip hb zp ti tu .ellipsis:=F _ _ Ap.i1z.symm U;have Z:e≠zp:=λx=>by subst x;rw [ac]at D;cases D;simp at J
  refine cQ ac (14:) λhc _ M=>k hc e (λb o b1 _ b3 _ x=>M.extBut _ _ b1 (F _ _ b3 (G.extBut _ _ b1 x))) ⟨oe,M.extBut _ _ Z D,J⟩
 .have h2:=ep.resolve_left h1;obtain⟨p,hp⟩:=Option.ne_none_iff_exists'.mp h1;refine aA (wpAny_nextOf_list_item Y ab hp λhb af F=>aD ?_);obtain⟨o1,g1,_,d1⟩:=id Y;have dB:Hd hb A:=dA.but g1 d1 (14:) F.extBut;have aa:IsPair hb tu c d:=F.extBut _ _ Ap.TOi1 (G.extBut _ _ Ap.TOz gu);refine aA (bV aa rfl (aA (gv aa λhc ag M=>?_)));have dC:Hd hc A:=dB.frame λb ae o e=>M.extBut b o (λz=>dB.noD aa (λvs x=>by cases x) (z ▸ ae)) e;refine aA (eN (aD (aA (aA (eY ?_)))));show wpAny _ _ (Builtin.SmallTypes.nextOf (.ref j2)>>=_) _ _ _;refine aA (JW dC (((w2.extBut G.extBut Ap.i2z).extBut F.extBut Ap.i12.symm).extBut M.extBut Ap.TOi2.symm) (((l2.extBut G.extBut Ap.l2z).extBut F.extBut Ap.l2i1).extBut M.extBut Ap.l2TO) h2 λhd e sd ge=>?_);obtain⟨oe,D,J⟩:=ge;have ad:IsZip hd zp ti tu .ellipsis:=sd _ _ Ap.i2z.symm (M.extBut _ _ Ap.TOz.symm (F.extBut _ _ Ap.i1z.symm U));have Z:e≠zp:=λx=>by subst x;rw [ad]at D;cases D;simp at J
  refine cQ ad (14:) λhf _ sf=>k hf e (λb o b1 b2 b3 b4 x=>sf.extBut _ _ b1 (sd _ _ b4 (M.extBut _ _ b2 (F.extBut _ _ b3 (G.extBut _ _ b1 x))))) ⟨oe,sf.extBut _ _ Z D,J⟩
theorem NJ{d:Value}{Q:Option Value->Shared->Prop}(dH:Hd s.heap A)(Ap:ZipApart zp ti tu j1 j2 t1 t2)
 (gz:IsZip s.heap zp ti tu .none) (gi:IsPair s.heap ti (.ref j1) (.ref j2)) (gu:IsPair s.heap tu c d) (w1:s.heap.IsListIter j1 t1 n1) (w2:s.heap.IsListIter j2 t2 n2) (l1:s.heap.IsList t1 us) (l2:s.heap.IsList t2 vs) (ep:us[n1]?=none\/vs[n2]?=none)
 (k:∀h',(9:)->Q none { s with heap:=h' }):wpAny (11:) A (pyNext (.ref zp)) Q E s:=by
 have z:s.TypeIs (.ref zp) "zip":=⟨_,gz,rfl⟩;unfold pyNext;refine aA (d_ (cV (name:=Str.ofString "__next__") z dY (cH dY z gJ (NT dH.in1 Ap gz gi gu w1 w2 l1 l2 ep λh' e D G=>?_) (gF _))));obtain⟨o,J,M⟩:=G;exact aA (eG (T:="StopIteration") (b:=true) ⟨o,J,M⟩ eV (aD (k _ D)))
theorem VR{α:Type}{o:Value}{msg:Str}{Q:α->Shared->Prop}(d:Hd s.heap A)(q:∀h' tk e,(∀b o,s.heap.get? b=some o->h'.get? b=some o)->(∃o,h'.get? e=some o/\o.cls=.type "AttributeError")->E (.ref e) { s with heap:=h',toks:=tk })(hz:msg.length<=sizeLine:=by decide):wpAny (11:) A (raiseAttrError o name msg:Sem α) Q E s:=by
 unfold raiseAttrError;simp only [newExc,newTuple];refine aA ?_;refine wpAny_mkStr ?_;refine aA (aA (c_ (aA (m:=firstArgMember _ _) (cX (a:=Value.none) (by first | rfl | (simp only [firstArgMember];rfl)) (c_ ?_ (by size_fits)))) (by size_fits)));refine aA (wpAny_mkText ?_);refine aA ?_;have z:((s.heap.push { cls:=Value.type "tuple",data:=Data.seq #[Value.str msg s.toks] }).push { cls:=Value.type "AttributeError",data:=Data.fields (#[Value.ref s.heap.objs.size,Value.none,Value.none,Value.none,Value.bool false,Value.none]++ownMembersOf (Value.type "AttributeError") [Value.str msg s.toks]) }).get? (s.heap.push { cls:=Value.type "tuple",data:=Data.seq #[Value.str msg s.toks] }).objs.size=some _:=aQ _ rfl;unfold noteAttr;refine aA ?_;unfold lacksNameAndObj;refine aA (eG (T:="AttributeError") (b:=true) ⟨_,z,rfl⟩ (by first | exact sub_AttributeError | kernel_rfl) ?_);rw [aF (18:)];refine aA (wpAny_load z ?_);refine cX (a:=true) (by first | rfl | kernel_rfl) ?_;rw [aE rfl];refine aA (cI (aA (fL (T:="AttributeError") ⟨_,z,rfl⟩ ?_)));refine wpAny_layMembers z rfl ?_;have G:∀b o,s.heap.get? b=some o->((s.heap.push { cls:=Value.type "tuple",data:=Data.seq #[Value.str msg s.toks] }).push { cls:=Value.type "AttributeError",data:=Data.fields (#[Value.ref s.heap.objs.size,Value.none,Value.none,Value.none,Value.bool false,Value.none]++ownMembersOf (Value.type "AttributeError") [Value.str msg s.toks]) }).get? b=some o:=λb o e=>aG _ (aG _ e);have D:∀b o,s.heap.get? b=some o->b≠(s.heap.push { cls:=Value.type "tuple",data:=Data.seq #[Value.str msg s.toks] }).objs.size:=λb o e=>by
  rw [cK];exact aU (Nat.lt_succ_of_lt (aJ e))
 refine Xq (d.keeps λb o e=>(fD _ _ _ _ (D b o e)).trans (G b o e)) (fC _ z (gZ (fX rfl _))) (fX rfl _) ?_ (λa F=>?_) λh' J x=>q h' _ _ (λb o e=>J b o (D b o e) ((fD _ _ _ _ (D b o e)).trans (G b o e))) ?_
 .simp
 .rcases d with d | ⟨M,o',fs,d,g,_⟩
  .rw [d]at F;cases F
  .rw [d]at F;obtain rfl:M=a:=by injection (aH F)
   exact D _ _ g
 .obtain⟨u,U,Y⟩:=x;exact⟨u,U,Y.trans (Obj.cls_mapFields ..)⟩
theorem Lu(a:Addr)(xs:Array Value)(k:Nat)(sl:Array (Option Value))(name:Str)(u:Tok)(hn:typeLookup (Value.type "list") name=pure none)(hs:[Str.ofString "__module__",Str.ofString "__name__",Str.ofString "__qualname__",Str.ofString "__doc__",Str.ofString "__annotations__"].contains name=false)(hz:∀z,z=(Str.ofString (toString "'"++toString ((Manifest.find? "list").elim "list" λx=>x.tpName)++toString "' object has no attribute '")++name++Str.ofString "'")->z.length<=sizeLine):
 Meets (Builtin.«object.__getattribute__» ⟨[.ref a,.str name u],[]⟩) λA R s=>s.heap.get? a=some { cls:=.type "list",data:=.seq xs k,slots:=sl }/\Hd s.heap A/\∀(h':Heap)(tk:Nat)(e:Addr),(∀b o,s.heap.get? b=some o->h'.get? b=some o)->(∃o,h'.get? e=some o/\o.cls=.type "AttributeError")->R (.error (.ref e)) { s with heap:=h',toks:=tk }:=by
 intro prog w A R s ⟨F,d,q⟩;have D:s.TypeIs (.ref a) "list":=⟨_,F,rfl⟩;unfold Builtin.«object.__getattribute__» Builtin.ObjectAttr.attrName
 repeat (any_goals (first | assumption | exact D | wp_step))
 rw [aF (by rw [hs];decide)]
 repeat (any_goals (first | assumption | exact D | wp_step))
 exact VR d.in1 (λh' tk e k x=>q h' tk e k x) (hz _ rfl)
theorem Me:(Str.ofString (toString "'"++toString ((Manifest.find? "list").elim "list" λx=>x.tpName)++toString "' object has no attribute '")++Str.ofString "keys"++Str.ofString "'").length<=sizeLine:=by first | decide+kernel | (show _<=16777216;kernel_rfl)
abbrev Key:=Sum Int Str
def J1:Key->Value->Bool
 | .inl k,v=>Value.isInt k v
 | .inr x,v=>Value.isStrOf x v
def S0(w:World):Key->Int
 | .inl k=>hashInt k
 | .inr x=>hashStr w x
theorem QT:∀{k:Key}{v:Value},J1 k v=true->(∃i t,k=Sum.inl i/\v=Value.int i t)\/(∃x t,k=Sum.inr x/\v=Value.str x t)
 | .inl i,v,h=>by
  obtain⟨t,e⟩:=Value.isInt_shape (k:=i) (v:=v) h;exact .inl ⟨i,t,rfl,e⟩
 | .inr x,v,h=>by
  obtain⟨t,e⟩:=Value.isStrOf_shape (x:=x) (v:=v) h;exact .inr ⟨x,t,rfl,e⟩
theorem Le(i:Int)(t:Tok):J1 (.inl i) (.int i t)=true:=by simp [J1,Value.isInt]
theorem G1(x:Str)(t:Tok):J1 (.inr x) (.str x t)=true:=by simp [J1,Value.isStrOf]
theorem P0(a b:Int):decide ((Sum.inl a:Key)=Sum.inl b)=(a==b):=by
 by_cases e:a=b
 .subst e;simp
 .have h:¬(Sum.inl a:Key)=Sum.inl b:=λq=>e (Sum.inl.inj q);rw [bN h];exact(fW.mpr e).symm
theorem Ra(a b:Str):decide ((Sum.inr a:Key)=Sum.inr b)=decide (a=b):=by
 by_cases e:a=b
 .subst e;simp
 .have h:¬(Sum.inr a:Key)=Sum.inr b:=λq=>e (Sum.inr.inj q);rw [bN h,bN e]
theorem PX(a:Int)(b:Str):decide ((Sum.inl a:Key)=Sum.inr b)=false:=bN (λq=>nomatch q)
theorem RU(a:Str)(b:Int):decide ((Sum.inr a:Key)=Sum.inl b)=false:=bN (λq=>nomatch q)
def Qv(prog:Program)(w:World):PySem.KeyKind prog w Key where
 is:=J1
 hash:=S0 w
 inj:=λv a b ha hb=>by
  rcases QT ha with⟨i,t,rfl,rfl⟩ | ⟨x,t,rfl,rfl⟩
  .rcases QT hb with⟨j,u,rfl,e⟩ | ⟨y,u,rfl,e⟩
   .injection e with e1 _;rw [e1]
   .exact nomatch e
  .rcases QT hb with⟨j,u,rfl,e⟩ | ⟨y,u,rfl,e⟩
   .exact nomatch e
   .injection e with e1 _;rw [e1]
 byValue:=λk v h=>by
  rcases QT h with⟨i,t,rfl,rfl⟩ | ⟨x,t,rfl,rfl⟩<;>rfl
 pyHash:=λhv h=>by
  rcases QT hv with⟨i,t,rfl,rfl⟩ | ⟨x,t,rfl,rfl⟩
  .exact wpAny_pyHash_int h
  .exact wpAny_pyHash_str h
 eqBool:=λhu hv h=>by
  rcases QT hu with⟨i,t,rfl,rfl⟩ | ⟨x,t,rfl,rfl⟩
  .rcases QT hv with⟨j,u,rfl,rfl⟩ | ⟨y,u,rfl,rfl⟩
   .rw [P0]at h;exact wpAny_eqBool_int h
   .rw [PX]at h;exact SeqAt.EqAt.int_str i t y u _ _ _ _ h
  .rcases QT hv with⟨j,u,rfl,rfl⟩ | ⟨y,u,rfl,rfl⟩
   .rw [RU]at h;exact SeqAt.EqAt.str_int x t j u _ _ _ _ h
   .rw [Ra]at h;exact wpAny_eqBool_str h
 «strs»:=λk x t v h=>by
  rcases QT h with⟨i,u,rfl,e⟩ | ⟨y,u,rfl,e⟩
  .exact nomatch e
  .injection e with e1 _;subst e1;cases v<;>rfl
theorem Wr(prog:Program)(w:World)(i:Int)(t:Tok):(Qv prog w).is (.inl i) (.int i t)=true:=Le i t
theorem Va(prog:Program)(w:World)(x:Str)(t:Tok):(Qv prog w).is (.inr x) (.str x t)=true:=G1 x t
inductive V where
 | non | bl (b:Bool) | int (i:Int) | str (x:Str) | byt (b:Array UInt8) | flt (b:UInt64) | ref (a:Addr) | ty (n:String)
 deriving DecidableEq
def RelV:V->Value->Prop
 | .non,u=>u=Value.none
 | .bl b,u=>u=Value.bool b
 | .int i,u=>∃t,u=Value.int i t
 | .str x,u=>∃t,u=Value.str x t
 | .byt b,u=>∃t,u=Value.bytes b t
 | .flt b,u=>∃t,u=Value.float b t
 | .ref a,u=>u=Value.ref a
 | .ty n,u=>u=Value.type n
abbrev Vals:List V->List Value->Prop:=Paired RelV
theorem Vals.length{xs:List V}{us:List Value}(r:Vals xs us):xs.length=us.length:=Paired.length r
theorem Vals.get:∀{xs:List V}{us:List Value}{i:Nat}{x:V},Vals xs us->xs[i]?=some x->∃u,us[i]?=some u/\RelV x u
 | _,_,_,_,.nil,e=>by simp at e
 | _,_,0,_,.cons r _,e=>by simp at e;subst e;exact⟨_,rfl,r⟩
 | _,_,i+1,x,.cons _ t,e=>by
  obtain⟨u,h1,h2⟩:=Vals.get (i:=i) (x:=x) t (by simpa using e);exact⟨u,by simpa using h1,h2⟩
theorem Vals.set{x:V}(r:RelV x u):∀{xs:List V}{us:List Value}(i:Nat),Vals xs us->Vals (xs.set i x) (us.set i u)
 | _,_,_,.nil=>.nil
 | _,_,0,.cons _ t=>.cons r t
 | _,_,i+1,.cons q t=>.cons q (Vals.set r i t)
theorem Vals.append:∀{xs ys:List V}{us ws:List Value},Vals xs us->Vals ys ws->Vals (xs++ys) (us++ws)
 | _,_,_,_,.nil,s=>s
 | _,_,_,_,.cons r t,s=>.cons r (Vals.append t s)
theorem Vals.take:∀{xs:List V}{us:List Value}(n:Nat),Vals xs us->Vals (xs.take n) (us.take n)
 | _,_,0,_=>.nil
 | _,_,_+1,.nil=>.nil
 | _,_,n+1,.cons r t=>.cons r (Vals.take n t)
theorem Vals.drop:∀{xs:List V}{us:List Value}(n:Nat),Vals xs us->Vals (xs.drop n) (us.drop n)
 | _,_,0,r=>r
 | _,_,_+1,.nil=>.nil
 | _,_,n+1,.cons _ t=>Vals.drop n t
def RelO:Option V->Option Value->Prop
 | some v,some u=>RelV v u
 | none,none=>True
 | _,_=>False
def KV{κ:Type}:List (κ×V)->List (κ×Value)->Prop:=Paired λ(p:κ×V)(q:κ×Value)=>p.1=q.1/\RelV p.2 q.2
def kV:Key->V
 | .inl i=>.int i
 | .inr x=>.str x
inductive HO where
 | lst (xs:List V)
 | tup (xs:List V)
 | dK (kvs:List (Key×V)) | dT (kvs:List (List Key×V))
 | set (S:Int->Bool) (n:Nat)
 | ins (C dx:Addr) (fs:List (Str×V))
 | own (x:Addr)
 | xd (fs:List (Str×V))
 | met (f x:Addr)
 | rng (lo hi:Int)
 | frz (o:Obj) (u:HO)
 | tbl (ps:Array Value)
 | ext (φ:Heap->Prop)
abbrev Hp:=Addr->Option HO
def upd(H:Hp)(a:Addr)(o:HO):Hp:=λb=>if b=a then some o else H b
theorem Qb{H:Hp}{a:Addr}{o:HO}:upd H a o a=some o:=by unfold upd;rw [aE rfl]
theorem Qi{H:Hp}{o:HO}(h:b≠a):upd H a o b=H b:=by unfold upd;rw [aF h]
theorem QM{H:Hp}{o u:HO}(h:H a=some o)(h':H b=some u)(d:o≠u):a≠b:=by
 intro e;subst e;rw [h]at h';exact d (aH h')
theorem Qj{H:Hp}{o:HO}(h:H a=some o)(h':H b=none):a≠b:=by
 intro e;subst e;rw [h]at h';cases h'
section
variable(P:Program)(w:World)
def ObjOk(H:Hp)(h:Heap)(a:Addr):HO->Prop
 | .lst xs=>xs.length<=sizeLine/\∃(its:List Value)(n:Nat),Vals xs its/\h.get? a=some { cls:=.type "list",data:=.seq its.toArray n }
 | .tup xs=>xs.length<=sizeLine/\∃its:List Value,Vals xs its/\IsTup h a its.toArray
 | .dK kvs=>kvs.length<=sizeLine/\(a==sysModules)=false/\∃vs,KV kvs vs/\h.DictOf (Qv P w) a vs
 | .dT kvs=>kvs.length<=sizeLine/\(a==sysModules)=false/\∃xs:List (List Key×Addr×Value),
  Paired (λ(p:List Key×V)(q:List Key×Addr×Value)=>p.1=q.1/\H q.2.1=some (.tup (p.1.map kV))/\RelV p.2 q.2.2) kvs xs/\
  ∃o es ep,h.get? a=some o/\o.ExactDict/\o.data=.dict es ep/\es.toList=xs.map (entryOfKey (tupleKind (Qv P w)))/\(xs.map (·.1)).Nodup
 | .set S n=>h.SetOf (intKind P w) a S n
 | .ins C dx fs=>H dx=some (.own a)/\fs.length<=1000/\dx≠a/\h.get? a=some (PySem.W.instObj C dx)/\
  ∃mA,h.Ns1 dx mA/\(∀f,RelO (fs.lookup f) (mA f))/\PySem.Within mA (fs.map (·.1))
 | .own _=>∃o,h.get? a=some o
 | .xd fs=>∃mA,h.Ns1 a mA/\∀f,RelO (fs.lookup f) (mA f)
 | .rng lo hi=>∃t u v,h.get? a=some { cls:=.type "range",data:=.fields #[.int lo t,.int hi u,.int 1 v] }
 | .frz o u=>h.get? a=some o/\ObjOk H h a u
 | .tbl ps=>h.get? a=some { cls:=.none,data:=.fields ps }
 | .met f x=>h.get? a=some (PySem.W.methodObj (.ref f) (.ref x))
 | .ext φ=>φ h/\(∃o,h.get? a=some o)/\∀h1 h2:Heap,φ h1->(∀o,h1.get? a=some o->h2.get? a=some o)->φ h2
def HOk(H:Hp)(h:Heap):Prop:=∀a o,H a=some o->ObjOk P w H h a o
end
section
variable{H H':Hp}{h:Heap}{o:HO}
theorem ObjOk.lt(x:ObjOk P w H h a o):a<h.objs.size:=by
 cases o with
 | lst xs=>obtain⟨_,_,_,_,e⟩:=x;exact aJ e
 | tup xs=>obtain⟨_,_,_,p⟩:=x;exact p.lt
 | dK kvs=>obtain⟨_,_,_,_,o,_,_,e,_⟩:=x;exact aJ e
 | dT kvs=>obtain⟨_,_,_,_,o,_,_,e,_⟩:=x;exact aJ e
 | set S n=>obtain⟨o,_,_,_,e,_⟩:=x;exact aJ e
 | ins C dx fs=>obtain⟨_,_,_,e,_⟩:=x;exact aJ e
 | own y=>obtain⟨_,e⟩:=x;exact aJ e
 | xd fs=>obtain⟨_,⟨_,_,_,e,_⟩,_⟩:=x;exact aJ e
 | rng lo hi=>obtain⟨_,_,_,e⟩:=x;exact aJ e
 | frz z u=>obtain⟨e,_⟩:=x;exact aJ e
 | tbl ps=>exact aJ (show h.get? a=some _ from x)
 | met f y=>exact aJ (show h.get? a=some _ from x)
 | ext D=>obtain⟨_,⟨_,e⟩,_⟩:=x;exact aJ e
theorem Paired.mapP{α β:Type}{F G:α->β->Prop}:∀{l₁:List α}{l₂:List β},Paired F l₁ l₂->(∀a b,F a b->G a b)->Paired G l₁ l₂
 | _,_,.nil,_=>.nil
 | _,_,.cons r t,f=>.cons (f _ _ r) (Paired.mapP t f)
theorem ObjOk.stay(x:ObjOk P w H h a o)(k:∀b u,(b=a\/H b=some (.own a))->h.get? b=some u->h'.get? b=some u)
 (ho:∀b,H b=some (.own a)->H' b=some (.own a)) (ht:∀b xs,H b=some (.tup xs)->H' b=some (.tup xs)):ObjOk P w H' h' a o:=by
 induction o with
 | lst xs=>obtain⟨z,its,n,r,e⟩:=x;exact⟨z,its,n,r,k _ _ (.inl rfl) e⟩
 | tup xs=>obtain⟨z,its,r,D,e,c⟩:=x;exact⟨z,its,r,D,k _ _ (.inl rfl) e,c⟩
 | dK kvs=>obtain⟨z,y,J,r,D,es,F,e,c⟩:=x;exact⟨z,y,J,r,D,es,F,k _ _ (.inl rfl) e,c⟩
 | dT kvs=>
  obtain⟨z,y,xs,r,D,es,F,e,c⟩:=x;exact⟨z,y,xs,Paired.mapP r λp q z=>⟨z.1,ht _ _ z.2.1,z.2.2⟩,D,es,F,k _ _ (.inl rfl) e,c⟩
 | set S n=>obtain⟨D,es,F,t,e,c⟩:=x;exact⟨D,es,F,t,k _ _ (.inl rfl) e,c⟩
 | ins C dx fs=>
  obtain⟨d,z,ne,e,mA,⟨G,es,F,e2,c⟩,r⟩:=x;exact⟨ho _ d,z,ne,k _ _ (.inl rfl) e,mA,⟨G,es,F,k _ _ (.inr d) e2,c⟩,r⟩
 | own y=>obtain⟨D,e⟩:=x;exact⟨D,k _ _ (.inl rfl) e⟩
 | xd fs=>obtain⟨mA,⟨G,es,F,e,c⟩,r⟩:=x;exact⟨mA,⟨G,es,F,k _ _ (.inl rfl) e,c⟩,r⟩
 | rng lo hi=>obtain⟨t,u,v,e⟩:=x;exact⟨t,u,v,k _ _ (.inl rfl) e⟩
 | frz D u M=>obtain⟨e,q⟩:=x;exact⟨k _ _ (.inl rfl) e,M q⟩
 | tbl ps=>
  have e:h.get? a=some { cls:=.none,data:=.fields ps }:=x;show h'.get? a=some { cls:=.none,data:=.fields ps };exact k a _ (.inl rfl) e
 | met f y=>
  have e:h.get? a=some (PySem.W.methodObj (.ref f) (.ref y)):=x;show h'.get? a=some (PySem.W.methodObj (.ref f) (.ref y));exact k a _ (.inl rfl) e
 | ext U=>obtain⟨p,⟨o,e⟩,st⟩:=x;exact⟨st _ _ p λo q=>k _ _ (.inl rfl) q,⟨o,k _ _ (.inl rfl) e⟩,st⟩
theorem HOk.lt(x:HOk P w H h)(e:H a=some o):a<h.objs.size:=(x a o e).lt
theorem HOk.fresh(x:HOk P w H h)(e:h.objs.size<=a):H a=none:=by
 cases q:H a with
 | none=>rfl
 | some u=>exact absurd (bU (x.lt q) e) (bX _)
theorem HOk.kept(x:HOk P w H h)(k:∀b u,h.get? b=some u->h'.get? b=some u):HOk P w H h':=λa o e=>
 (x a o e).stay (λb u _ q=>k b u q) (λ_ q=>q) λ_ _ q=>q
theorem HOk.laid(x:HOk P w H h)(k:∀b u,h.get? b=some u->h'.get? b=some u)(hp:h.objs.size<=a)(new:ObjOk P w (upd H a o) h' a o):HOk P w (upd H a o) h':=λb u e=>by
 have z:=x.fresh hp
 by_cases D:b=a
 .subst D;rw [Qb]at e;cases e;exact new
 .rw [Qi D]at e;exact(x b u e).stay (λc v _ q=>k c v q) (λc q=>by rw [Qi (Qj q z)];exact q) λc xs q=>by rw [Qi (Qj q z)];exact q
end
def Rd(H:Hp)(a:Addr)(u:HO):Prop:=H a=some u\/∃o,H a=some (.frz o u)
theorem Rd.ok{H:Hp}{h:Heap}{u:HO}(r:Rd H a u)(x:HOk P w H h):ObjOk P w H h a u:=by
 rcases r with r | ⟨o,r⟩
 .exact x a u r
 .obtain⟨_,q⟩:=x a _ r;exact q
def Mut:Option HO->Prop
 | some (.lst _)=>True
 | some (.dK _)=>True
 | some (.dT _)=>True
 | some (.set _ _)=>True
 | some (.ins _ _ _)=>True
 | some (.ext _)=>True
 | _=>False
section
variable{H:Hp}{h:Heap}{x e:Addr}{o':HO}
theorem HOk.write(ok:HOk P w H h)(mu:Mut (H x))(he:e=x\/H e=some (.own x))(k:∀b u,b≠e->h.get? b=some u->h'.get? b=some u)(heo:∃u,h'.get? e=some u)
 (new:ObjOk P w (upd H x o') h' x o'):HOk P w (upd H x o') h':=λb u q=>by
 have F:∀c y,H c=some (.own y)->c≠x:=λc y r z=>by subst z;rw [r]at mu;exact mu
 have J:∀c xs,H c=some (.tup xs)->c≠x:=λc xs r z=>by subst z;rw [r]at mu;exact mu
 by_cases G:b=x
 .subst G;rw [Qb]at q;cases q;exact new
 .rw [Qi G]at q
  by_cases D:b=e
  .have M:H b=some (.own x):=by
    rcases he with z | z
    .exact absurd (D.trans z) G
    .rw [D];exact z
   rw [q]at M;cases M;obtain⟨v,U⟩:=heo;exact⟨v,by rw [D];exact U⟩
  .refine(ok b u q).stay (λc v hc r=>k c v ?_ r) (λc r=>by rw [Qi (F c b r)];exact r) λc xs r=>by rw [Qi (J c xs r)];exact r
   rcases hc with rfl | hc
   .exact D
   .rintro rfl;rcases he with z | z
    .exact F c b hc z
    .rw [hc]at z;cases z;exact G rfl
end
structure Un(fs ex:List Addr)(H H':Hp)(h h':Heap):Prop where
 keep:∀b o,h.get? b=some o->H b=none->b∉fs->b∉ex->h'.get? b=some o
 slot:∀b o,h.get? b=some o->H b=none->b∈fs->b∉ex->∃sl,h'.get? b=some { o with slots:=sl }
 free:∀b o,h.get? b=some o->H b=none->b∉ex->H' b=none
 there:∀b o,h.get? b=some o->b∉ex->∃o',h'.get? b=some o'
 tups:∀b xs,H b=some (.tup xs)->H' b=some (.tup xs)
 frzs:∀b o u,H b=some (.frz o u)->H' b=some (.frz o u)
 tbls:∀b ps,H b=some (.tbl ps)->∃more,H' b=some (.tbl (ps++more))
section
variable{fs fs' ex ex':List Addr}{H H1 H2:Hp}{h:Heap}{x e:Addr}{o:HO}
theorem Un.any(u:Un fs ex H H1 h h1)(q:h.get? b=some ob)(n:H b=none)(hx:b∉ex):∃sl,h1.get? b=some { ob with slots:=sl }:=by
 by_cases z:b∈fs
 .exact u.slot b ob q n z hx
 .exact⟨ob.slots,u.keep b ob q n z hx⟩
theorem Un.kept(k:∀b u,h.get? b=some u->h'.get? b=some u):Un fs ex H H h h':=
 ⟨λb z q _ _ _=>k b z q,λb z q _ _ _=>⟨z.slots,k b z q⟩,λ_ _ _ n _=>n,λb z q _=>⟨z,k b z q⟩,λ_ _ q=>q,λ_ _ _ q=>q,λ_ ps q=>⟨#[],by rw [q];simp⟩⟩
theorem Un.refl:Un fs ex H H h h:=Un.kept λ_ _ q=>q
theorem Un.laid(k:∀b u,h.get? b=some u->h'.get? b=some u)(hp:h.objs.size<=a)(hn:H a=none):Un fs ex H (upd H a o) h h' where
 keep:=λb u q _ _ _=>k b u q
 slot:=λb u q _ _ _=>⟨u.slots,k b u q⟩
 free:=λb u q n _=>by rw [Qi (aU (bU (aJ q) hp))];exact n
 there:=λb u q _=>⟨u,k b u q⟩
 tups:=λb xs q=>by rw [Qi (Qj q hn)];exact q
 frzs:=λb u xs q=>by rw [Qi (Qj q hn)];exact q
 tbls:=λb ps q=>⟨#[],by rw [Qi (Qj q hn),q];simp⟩
theorem Un.write(mu:Mut (H x))(he:e=x\/H e=some (.own x))(k:∀b u,b≠e->h.get? b=some u->h'.get? b=some u)(heo:∃u,h'.get? e=some u):Un fs ex H (upd H x o) h h':=by
 have G:∀b,H b=none->b≠x:=λb n z=>by subst z;rw [n]at mu;exact mu
 have J:∀b,H b=none->b≠e:=λb n z=>by
  subst z;rcases he with r | r
  .exact G b n r
  .rw [n]at r;cases r
 have F:∀b u,H b=some u->¬Mut (some u)->b≠x:=λb u q nm z=>by subst z;rw [q]at mu;exact nm mu
 refine⟨λb u q n _ _=>k b u (J b n) q,λb u q n _ _=>⟨u.slots,k b u (J b n) q⟩,λb u q n _=>by rw [Qi (G b n)];exact n,λb u q _=>?_,λb xs q=>by rw [Qi (F b _ q λz=>z)];exact q,λb u xs q=>by rw [Qi (F b _ q λz=>z)];exact q,λb ps q=>⟨#[],by rw [Qi (F b _ q λz=>z),q];simp⟩⟩
 by_cases D:b=e
 .subst D;exact heo
 .exact⟨u,k b u D q⟩
end
def trk(h:Heap)(H:Hp):List Addr:=(List.range h.objs.size).filter λa=>(H a).isSome
def JM(h:Heap)(H:Hp):Heap:=PySem.W.hideAll h (trk h H)
theorem G7(h:Heap)(H:Hp):(JM h H).objs.size=h.objs.size:=PySem.W.hideAll_size _ _
theorem Mr{h:Heap}{H:Hp}(e:h.get? b=some o)(n:H b=none):(JM h H).get? b=some o:=
 PySem.W.hideAll_get _ e λz=>by
  have q:(H b).isSome=true:=(gM.mp z).2;rw [n]at q;simp at q
theorem OF{h:Heap}{H:Hp}(e:(JM h H).get? b=some o):h.get? b=some o/\H b=none:=by
 have D:h.get? b=some o:=PySem.W.of_hideAll (trk h H) e;refine⟨D,?_⟩;cases q:H b with
 | none=>rfl
 | some x=>
  have F:b∈trk h H:=gM.mpr ⟨eW.mpr (aJ D),by simp [q]⟩;have z:(JM h H).get? b=none:=PySem.W.hideAll_none (trk h H) F;rw [z]at e;cases e
end L2
variable{xs ys zs:List L2.V}{H H' H1 H2 H0:L2.Hp}{y sv rv:L2.V}{Pv:Nat->List L2.V->L2.Hp->Prop}{kvs:List (L2.Key×L2.V)}
namespace L2
open PySem PySem.Spec PyProof.Rows
structure Mod(K:Fg)(mg:Str->Option Value)(base:Heap):Prop where
 kin:K.In base
 glob:base.Ns mainGlobals mg
 blt:∃mb,base.Ns builtinsNs mb/\∀x:Str,x≠"__name__"->mb x=bootBuiltins x
 nolimit:base.NoLimit
structure Cx where
 prog:Program
 w:World
 K:Fg
 mg:Str->Option Value
 base:Heap
 A:Around
 N:List Str
 s₀:Shared
 H₀:Hp
 env:Env
 outer:List Env
 stack:List Env
 ex:List Addr
 fn:Str->Bool
 calm:Bool
 pn:List (8:)
 xe:Value->Shared->Prop
def frs(l:List Env):List Addr:=l.filterMap (·.frame)
abbrev Cx.fs(X:Cx):List Addr:=frs X.outer
def Vis(sc:Scope)(x:Str):Prop:=sc.names.lookup x=some .local\/sc.names.lookup x=some .cell\/sc.names.lookup x=some .free
def Loc(sc:Scope)(x:Str):Prop:=sc.names.lookup x=some .local\/sc.names.lookup x=some .cell
def Tw(env:Env)(h:Heap)(m:Str->Option Value)(x:Str)(u:Value):Prop:=
 (env.kindOf x=some .local/\m x=some u)\/((env.kindOf x=some .cell\/env.kindOf x=some .free)/\∃c,env.cells.lookup x=some c/\h.IsCell c (some u))
structure Cx.Ok(X:Cx):Prop where
 mod:Mod X.K X.mg X.base
 kind:X.env.scope.kind=.function
 glob:X.env.globals=mainGlobals
 blt:X.env.builtins=builtinsNs
 above:X.s₀.heap.objs.size<=X.env.locals
 inj:∀x y c,X.env.cells.lookup x=some c->X.env.cells.lookup y=some c->x=y
 has:∀x,(X.env.kindOf x=some .cell\/X.env.kindOf x=some .free)->∃c,X.env.cells.lookup x=some c
 cab:∀x c,X.fn x=true->X.env.cells.lookup x=some c->X.s₀.heap.objs.size<=c
 hd:X.calm=true->Hd X.base X.A
 frames:X.A.frames=some X.stack
 stk:X.stack=X.outer\/(X.stack=X.env::X.outer/\X.env.frame=some X.env.locals)
 exf:∀b∈X.ex,b≠X.env.locals/\∀x c,X.env.cells.lookup x=some c->c≠b
 bs:∀b o,X.base.get? b=some o->X.s₀.heap.get? b=some o/\X.H₀ b=none
 bsz:X.base.objs.size<=X.s₀.heap.objs.size
 noex:∀b o,X.base.get? b=some o->b∉X.ex
 exfs:∀b∈X.ex,b∉X.fs
 funs:X.s₀.heap.FunFrames X.base X.outer
 frf:∀b∈X.fs,X.H₀ b=none
structure Inv(X:Cx)(pins:List (8:))(σ:List (Option V))(H:Hp)(s:Shared):Prop where
 ok:X.Ok
 os:s.os=X.s₀.os
 bare:AllBare s.gens
 base:Un X.fs X.ex X.H₀ H X.s₀.heap s.heap
 loc:∃m,s.heap.Ns X.env.locals m/\∀(i:Nat)(x:Str)(v:V),X.N[i]?=some x->σ[i]?=some (some v)->Vis X.env.scope x->∃u,RelV v u/\Tw X.env s.heap m x u
 cell:∀x c,X.env.cells.lookup x=some c->∃v,s.heap.IsCell c v
 free:H X.env.locals=none
 freeC:∀x c,X.env.cells.lookup x=some c->H c=none
 pin:∀p∈X.pn++pins,s.heap.get? p.1=some p.2/\H p.1=none/\p.1≠X.env.locals/\p.1∉X.fs/\∀v,p.2.data≠.cell v
 hok:HOk X.prog X.w H s.heap
 len:σ.length=X.N.length
section
variable{X:Cx}{pins:List (8:)}{σ:List (Option V)}
theorem Cx.Ok.nofr(ok:X.Ok)(e:X.base.get? b=some o):b∉X.fs:=λz=>by
 have:=(ok.funs.mem z).1;rw [e]at this;cases this
theorem Inv.bs(I:Inv X pins σ H s):∀b o,X.base.get? b=some o->s.heap.get? b=some o/\H b=none:=λb o e=>
 ⟨I.base.keep b o (I.ok.bs b o e).1 (I.ok.bs b o e).2 (I.ok.nofr e) (I.ok.noex b o e),I.base.free b o (I.ok.bs b o e).1 (I.ok.bs b o e).2 (I.ok.noex b o e)⟩
theorem Inv.bk(I:Inv X pins σ H s):∀b o,X.base.get? b=some o->s.heap.get? b=some o:=λb o e=>(I.bs b o e).1
theorem Inv.hd(I:Inv X pins σ H s)(hc:X.calm=true):Hd s.heap X.A:=(I.ok.hd hc).keeps I.bk
theorem Inv.mod(I:Inv X pins σ H s):Mod X.K X.mg X.base:=I.ok.mod
theorem Inv.kIn(I:Inv X pins σ H s):X.K.In s.heap:=I.ok.mod.kin.keeps I.bk
theorem Inv.lt(I:Inv X pins σ H s):X.env.locals<s.heap.objs.size:=let⟨_,z,_⟩:=I.loc;z.lt
theorem Inv.sz(I:Inv X pins σ H s):X.s₀.heap.objs.size<=s.heap.objs.size:=aY I.ok.above (cS I.lt)
theorem Inv.nofs(I:Inv X pins σ H s)(h:s.heap.objs.size<=a):a∉X.fs:=λz=>by
 obtain⟨_,o,D,_⟩:=I.ok.funs.mem z;exact absurd (bU (aJ D) (aY I.sz h)) (bX _)
theorem Inv.cne(I:Inv X pins σ H s):∀x c,X.env.cells.lookup x=some c->c≠X.env.locals:=λx c e z=>by
 obtain⟨v,o,D,hd⟩:=I.cell x c e;obtain⟨m,⟨o',es,J,F,G,_⟩,_⟩:=I.loc;rw [z,F]at D;cases D;rw [G]at hd;cases hd
theorem Inv.funs(I:Inv X pins σ H s):s.heap.FunFrames X.base X.outer:=by
 have all:∀(l:List Env),(∀b∈frs l,b∈X.fs)->X.s₀.heap.FunFrames X.base l->s.heap.FunFrames X.base l:=by
  intro l
  induction l with
  | nil=>intro _ _;trivial
  | cons env r M=>
   intro J U;obtain⟨Y,⟨L,o,D,Z,ho,hd⟩,hr⟩:=U;have F:L∈X.fs:=J L (by unfold frs;rw [gA,D];exact bA);obtain⟨sl,e⟩:=I.base.slot L o ho (I.ok.frf L F) F λz=>I.ok.exfs L z F;exact⟨Y,⟨L,_,D,Z,e,hd⟩,M (λb G=>J b (by unfold frs;rw [gA,D];exact bC _ G)) hr⟩
 exact all X.outer (λ_ G=>G) I.ok.funs
theorem Inv.stack(I:Inv X pins σ H s):s.heap.FunFrames X.base X.stack:=by
 rcases I.ok.stk with e | ⟨e,z⟩
 .rw [e];exact I.funs
 .rw [e];obtain⟨m,D,_⟩:=I.loc;refine .cons (by rw [I.ok.kind];decide) z D ?_ I.funs;exact Heap.get?_none_of_le (aY I.ok.bsz I.ok.above)
theorem Inv.stkSub(I:Inv X pins σ H s):∀b∈frs X.stack,b∈X.env.locals::X.fs:=λb z=>by
 rcases I.ok.stk with e | ⟨e,D⟩
 .rw [e]at z;exact bC _ z
 .rw [e]at z;unfold frs at z;rw [gA,D]at z;exact z
theorem Inv.stkFree(I:Inv X pins σ H s):∀b∈frs X.stack,H b=none:=λb hb=>by
 rcases aM.mp (I.stkSub b hb)with e | hb
 .rw [e];exact I.free
 .obtain⟨_,o,D,_⟩:=I.ok.funs.mem hb;exact I.base.free b o D (I.ok.frf b hb) λz=>I.ok.exfs b z hb
theorem Inv.step(I:Inv X pins σ H s)
 (hch:∀b∈ch,(b∈X.ex\/X.s₀.heap.objs.size<=b)/\b≠X.env.locals/\(∀x c,X.env.cells.lookup x=some c->c≠b)/\∀p∈X.pn++pins,p.1≠b)
 (keep:∀b o,b≠X.env.locals->b∉X.fs->b∉ch->s.heap.get? b=some o->H b=none->h'.get? b=some o)
 (slot:∀b o,b≠X.env.locals->b∈X.fs->b∉ch->s.heap.get? b=some o->H b=none->∃sl,h'.get? b=some { o with slots:=sl }) (free:∀b o,b∉ch->s.heap.get? b=some o->H b=none->H' b=none)
 (there:∀b o,b∉ch->s.heap.get? b=some o->∃o',h'.get? b=some o')
 (tups:∀b xs,H b=some (.tup xs)->H' b=some (.tup xs)) (frzs:∀b o u,H b=some (.frz o u)->H' b=some (.frz o u)) (tbls:∀b ps,H b=some (.tbl ps)->∃more,H' b=some (.tbl (ps++more)))
 (ns:∀m,s.heap.Ns X.env.locals m->h'.Ns X.env.locals m) (hok:HOk X.prog X.w H' h') (hg:AllBare g'):
 Inv X pins σ H' { s with heap:=h',gens:=g',drawn:=d',toks:=t' }:=by
 have Y:∀b o,X.s₀.heap.get? b=some o->b≠X.env.locals:=λb o e=>aU (bU (aJ e) I.ok.above);have J:∀b o,X.s₀.heap.get? b=some o->b∉X.ex->b∉ch:=λb o e D G=>by
  rcases(hch b G).1 with z | z
  .exact D z
  .exact absurd (bU (aJ e) z) (bX _)
 have M:∀x c,X.env.cells.lookup x=some c->∀v,s.heap.IsCell c v->h'.IsCell c v:=λx c e v ⟨o,U,hd⟩=>by
  have F:c∉ch:=λz=>(hch c z).2.2.1 x c e rfl
  by_cases Z:c∈X.fs
  .obtain⟨sl,q⟩:=slot c o (I.cne x c e) Z F U (I.freeC x c e);exact⟨_,q,hd⟩
  .exact⟨o,keep c o (I.cne x c e) Z F U (I.freeC x c e),hd⟩
 refine⟨I.ok,I.os,hg,⟨λb o e n G D=>?_,λb o e n G D=>?_,λb o e n D=>?_,λb o e D=>?_,λb xs e=>tups b xs (I.base.tups b xs e),λb o xs e=>frzs b o xs (I.base.frzs b o xs e),λb ps e=>?_⟩,?_,λx c e=>?_,?_,λx c e=>?_,λp hp=>?_,hok,I.len⟩
 .exact keep b o (Y b o e) G (J b o e D) (I.base.keep b o e n G D) (I.base.free b o e n D)
 .obtain⟨sl,e1⟩:=I.base.slot b o e n G D;obtain⟨aa,e2⟩:=slot b _ (Y b o e) G (J b o e D) e1 (I.base.free b o e n D);exact⟨aa,e2⟩
 .obtain⟨o',e1⟩:=I.base.there b o e D;exact free b o' (J b o e D) e1 (I.base.free b o e n D)
 .obtain⟨o',e1⟩:=I.base.there b o e D;exact there b o' (J b o e D) e1
 .obtain⟨m1,e1⟩:=I.base.tbls b ps e;obtain⟨m2,e2⟩:=tbls b _ e1;exact⟨m1++m2,by rw [e2,Array.append_assoc]⟩
 .obtain⟨m,hn,hl⟩:=I.loc;refine⟨m,ns m hn,λi x v e1 e2 e3=>?_⟩;obtain⟨u,r,l⟩:=hl i x v e1 e2 e3;refine⟨u,r,?_⟩;rcases l with l | ⟨k,c,e,z⟩
  .exact .inl l
  .exact .inr ⟨k,c,e,M x c e _ z⟩
 .obtain⟨v,z⟩:=I.cell x c e;exact⟨v,M x c e v z⟩
 .obtain⟨m,⟨o,_,_,U,_⟩,_⟩:=I.loc;exact free _ o (λz=>(hch _ z).2.1 rfl) U I.free
 .obtain⟨v,o,U,hd⟩:=I.cell x c e;exact free c o (λz=>(hch c z).2.2.1 x c e rfl) U (I.freeC x c e)
 .obtain⟨e,n,ne,nf,d⟩:=I.pin p hp;have F:p.1∉ch:=λz=>(hch p.1 z).2.2.2 p hp rfl;exact⟨keep p.1 p.2 ne nf F e n,free p.1 p.2 F e n,ne,nf,d⟩
theorem Inv.un{t':Nat}(I:Inv X pins σ H s)(u:Un X.fs [] H H' s.heap h')(hok:HOk X.prog X.w H' h'):Inv X pins σ H' { s with heap:=h',toks:=t' }:=by
 obtain⟨m,⟨o,es,ep,G,r⟩,_⟩:=id I.loc;obtain⟨sl,U⟩:=u.any G I.free (14:);exact I.step (g':=s.gens) (d':=s.drawn) (ch:=[]) (λ_ z=>nomatch z) (λb o _ F _ e n=>u.keep b o e n F (14:)) (λb o _ F _ e n=>u.slot b o e n F (14:)) (λb o _ e n=>u.free b o e n (14:)) (λb o _ e=>u.there b o e (14:)) u.tups u.frzs u.tbls (λm' Y=>by
  obtain⟨o',J,M,D,Z⟩:=Y;rw [G]at D;cases D;exact⟨_,J,M,U,Z⟩) hok I.bare
theorem Inv.call(I:Inv X pins σ H s)(u:Un (frs X.stack) ch H H' s.heap h')(hok:HOk X.prog X.w H' h')(hg:AllBare g')
 (hch:∀b∈ch,(b∈X.ex\/X.s₀.heap.objs.size<=b)/\b≠X.env.locals/\(∀x c,X.env.cells.lookup x=some c->c≠b)/\∀p∈X.pn++pins,p.1≠b):
 Inv X pins σ H' { s with heap:=h',gens:=g',drawn:=d',toks:=t' }:=by
 obtain⟨m,⟨o,es,ep,J,r⟩,_⟩:=id I.loc;obtain⟨sl,G⟩:=u.any J I.free λz=>(hch _ z).2.1 rfl;exact I.step (ch:=ch) hch (λb o G Y D e n=>u.keep b o e n (λz=>(aM.mp (I.stkSub b z)).elim G Y) D) (λb o _ _ D e n=>u.any e n D) (λb o D e n=>u.free b o e n D) (λb o D e=>u.there b o e D) u.tups u.frzs u.tbls (λm' Z=>by
  obtain⟨o',M,U,F,r'⟩:=Z;rw [J]at F;cases F;exact⟨_,M,U,G,r'⟩) hok hg
theorem Inv.turned(I:Inv X pins σ H s)(k:∀b o,b≠it->s.heap.get? b=some o->h'.get? b=some o)(hn:H it=none)(hL:it≠X.env.locals)
 (h1:it∈X.ex\/X.s₀.heap.objs.size<=it) (h2:∀x c,X.env.cells.lookup x=some c->c≠it) (h3:∀p∈X.pn++pins,p.1≠it):Inv X pins σ H { s with heap:=h',toks:=t' }:=by
 have F:∀b u,H b=some u->b≠it:=λb u e z=>by rw [z,hn]at e;cases e
 refine I.step (g':=s.gens) (d':=s.drawn) (ch:=[it]) (λb G=>?_) (λb o _ _ D e _=>k b o (λz=>D (by simp [z])) e) (λb o _ _ D e _=>⟨o.slots,k b o (λz=>D (by simp [z])) e⟩) (λ_ _ _ _ n=>n)
  (λb o D e=>⟨o,k b o (λz=>D (by simp [z])) e⟩) (λ_ _ e=>e) (λ_ _ _ e=>e) (λb ps e=>⟨#[],by rw [e];simp⟩) (λm J=>?_) (λb u e=>?_) I.bare
 .have e:b=it:=by simpa using G
  subst e;exact⟨h1,hL,h2,h3⟩
 .obtain⟨o,es,M,U,r⟩:=J;exact⟨o,es,M,k _ o (aL hL) U,r⟩
 .refine(I.hok b u e).stay (λc v D q=>k c v ?_ q) (λ_ q=>q) λ_ _ q=>q;rcases D with z | z
  .rw [z];exact F b u e
  .exact F c _ z
theorem Inv.tok(I:Inv X pins σ H s)(t:Nat):Inv X pins σ H { s with toks:=t }:=I.un (h':=s.heap) (t':=t) Un.refl I.hok
theorem Inv.kept(I:Inv X pins σ H s)(k:∀b u,s.heap.get? b=some u->h'.get? b=some u):Inv X pins σ H { s with heap:=h',toks:=t' }:=I.un (Un.kept k) (I.hok.kept k)
theorem Inv.laid{o:HO}(I:Inv X pins σ H s)(k:∀b u,s.heap.get? b=some u->h'.get? b=some u)(hp:s.heap.objs.size<=a)(new:ObjOk X.prog X.w (upd H a o) h' a o):
 Inv X pins σ (upd H a o) { s with heap:=h',toks:=t' }:=I.un (Un.laid k hp (I.hok.fresh hp)) (I.hok.laid k hp new)
theorem Inv.write{x e:Addr}{o:HO}(I:Inv X pins σ H s)(mu:Mut (H x))(he:e=x\/H e=some (.own x))(k:∀b u,b≠e->s.heap.get? b=some u->h'.get? b=some u)(heo:∃u,h'.get? e=some u)
 (new:ObjOk X.prog X.w (upd H x o) h' x o):Inv X pins σ (upd H x o) { s with heap:=h',toks:=t' }:=I.un (Un.write mu he k heo) (I.hok.write mu he k heo new)
theorem Inv.pins_of{pins':List (8:)}(I:Inv X pins σ H s)(h:∀p∈pins',s.heap.get? p.1=some p.2/\H p.1=none/\p.1≠X.env.locals/\p.1∉X.fs/\∀v,p.2.data≠.cell v):Inv X pins' σ H s:=
 ⟨I.ok,I.os,I.bare,I.base,I.loc,I.cell,I.free,I.freeC,λp hp=>(a_.mp hp).elim (λz=>I.pin p (bZ _ z)) (h p),I.hok,I.len⟩
theorem WX{N:List Str}(hN:N.Nodup)(a:N[i]?=some x)(b:N[j]?=some x):i=j:=by
 obtain⟨h1,e1⟩:=aK.mp a;obtain⟨h2,e2⟩:=aK.mp b;exact(gK hN).mp (e1.trans e2.symm)
theorem JP{M:Model}{A:Around}{E:Value->Shared->Prop}{i:Nat}{x:Str}{v:V}{u:Value}{Q:Unit->Shared->Prop}(I:Inv X pins σ H s)(hN:X.N.Nodup)(hi:X.N[i]?=some x)(hx:Loc X.env.scope x)(r:RelV v u)
 (h:∀s',Inv X pins (σ.set i (some v)) H s'->(∃a,Heap.SameBut a s.heap s'.heap/\(a=X.env.locals\/X.env.cells.lookup x=some a))->Q () s') (hf:X.fn x=true\/X.env.scope.names.lookup x=some .local:=by first | exact .inl rfl | exact .inr rfl | assumption):wpAny M A (storeName X.env x u) Q E s:=by
 obtain⟨m,hn,hl⟩:=id I.loc;have ae:(X.env.scope.kind== .class||(X.env.scope.kind== .module&&X.env.locals !=X.env.globals))=false:=by rw [I.ok.kind];rfl
 have aa:i<σ.length:=by rw [I.len];exact(aK.mp hi).1
 have cne:=I.cne;have F:∀{a:Addr}{h':Heap},(∃o,s.heap.get? a=some o/\H a=none)->Heap.SameBut a s.heap h'->HOk X.prog X.w H h':=λ{a h'} ha D b ob e=>by
  obtain⟨_,_,U⟩:=ha;refine(I.hok b ob e).stay (λc Z hc q=>(D.2 c ?_).trans q) (λ_ q=>q) λ_ _ q=>q;rintro rfl;rcases hc with rfl | hc
  .rw [U]at e;cases e
  .rw [U]at hc;cases hc
 rcases hx with hk | hk
 .refine wpAny_storeName_local hk hn (λh' ag D=>?_) ae;obtain⟨oL,_,_,ah,_⟩:=id hn;refine h _ ⟨I.ok,I.os,I.bare,⟨λb o e n G hx=>?_,λb o e n G hx=>?_,I.base.free,λb o e hx=>?_,I.base.tups,I.base.frzs,I.base.tbls⟩,⟨_,ag,λj y v' e1 e2 e3=>?_⟩,λy c e=>?_,I.free,I.freeC,λp hp=>?_,F ⟨oL,ah,I.free⟩ D,by simpa using I.len⟩ ⟨_,D,.inl rfl⟩
  .exact(D.2 b (aU (bU (aJ e) I.ok.above))).trans (I.base.keep b o e n G hx)
  .obtain⟨sl,e1⟩:=I.base.slot b o e n G hx;exact⟨sl,(D.2 b (aU (bU (aJ e) I.ok.above))).trans e1⟩
  .obtain⟨o',e1⟩:=I.base.there b o e hx;exact⟨o',(D.2 b (aU (bU (aJ e) I.ok.above))).trans e1⟩
  .by_cases J:j=i
   .subst J;rw [hi]at e1;cases e1;rw [List.getElem?_set_self aa]at e2;cases e2;exact⟨u,r,.inl ⟨hk,by simp⟩⟩
   .rw [List.getElem?_set_ne (aL J)]at e2;obtain⟨u',r',q⟩:=hl j y v' e1 e2 e3;refine⟨u',r',?_⟩;rcases q with⟨k,e⟩ | ⟨k,c,e,z⟩
    .refine .inl ⟨k,?_⟩;have:y≠x:=λe=>J (WX hN e1 (e ▸ hi));simp [this,e]
    .exact .inr ⟨k,c,e,z.sameBut D (cne y c e)⟩
  .obtain⟨Z,z⟩:=I.cell y c e;exact⟨Z,z.sameBut D (cne y c e)⟩
  .obtain⟨e,n,ne,nf,d⟩:=I.pin p hp;exact⟨(D.2 p.1 ne).trans e,n,ne,nf,d⟩
 .have Y:X.fn x=true:=by
   rcases hf with z | z
   .exact z
   .rw [z]at hk;cases hk
  obtain⟨c,hc⟩:=I.ok.has x (.inl hk);obtain⟨Z,z⟩:=I.cell x c hc;refine wpAny_storeName_cell I.ok.kind hk hc z (λh' ab D=>?_);obtain⟨oc,ac,af⟩:=id z;refine h { s with heap:=h' } ⟨I.ok,I.os,I.bare,⟨λb o e n G hx=>?_,λb o e n G hx=>?_,I.base.free,λb o e hx=>?_,I.base.tups,I.base.frzs,I.base.tbls⟩,⟨m,hn.sameBut D (aL (cne x c hc)),λj y v' e1 e2 e3=>?_⟩,λy c' e=>?_,I.free,I.freeC,λp hp=>?_,F ⟨oc,ac,I.freeC x c hc⟩ D,by simpa using I.len⟩ ⟨c,D,.inr hc⟩
  .exact(D.2 b (aU (bU (aJ e) (I.ok.cab x c Y hc)))).trans (I.base.keep b o e n G hx)
  .obtain⟨sl,e1⟩:=I.base.slot b o e n G hx;exact⟨sl,(D.2 b (aU (bU (aJ e) (I.ok.cab x c Y hc)))).trans e1⟩
  .obtain⟨o',e1⟩:=I.base.there b o e hx;exact⟨o',(D.2 b (aU (bU (aJ e) (I.ok.cab x c Y hc)))).trans e1⟩
  .by_cases J:j=i
   .subst J;rw [hi]at e1;cases e1;rw [List.getElem?_set_self aa]at e2;cases e2;exact⟨u,r,.inr ⟨.inl hk,c,hc,ab⟩⟩
   .rw [List.getElem?_set_ne (aL J)]at e2;obtain⟨u',r',q⟩:=hl j y v' e1 e2 e3;refine⟨u',r',?_⟩;rcases q with q | ⟨k,c',e,z'⟩
    .exact .inl q
    .refine .inr ⟨k,c',e,z'.sameBut D ?_⟩;rintro rfl;exact J (WX hN e1 (I.ok.inj _ _ _ e hc ▸ hi))
  .by_cases ad:c'=c
   .subst ad;exact⟨_,ab⟩
   .obtain⟨w2,z2⟩:=I.cell y c' e;exact⟨w2,z2.sameBut D ad⟩
  .obtain⟨e,n,ne,nf,d⟩:=I.pin p hp;refine⟨(D.2 p.1 ?_).trans e,n,ne,nf,d⟩;intro q;rw [q,ac]at e;have q':oc=p.2:=aH e;exact d Z (by rw [<-q'];exact af)
theorem WJ{v:V}{Q:Unit->Shared->Prop}(I:Inv X pins σ H s)(hN:X.N.Nodup)(hi:X.N[i]?=some x)(hx:Loc X.env.scope x)(r:RelV v u)
 (h:∀s',Inv X pins (σ.set i (some v)) H s'->Q () s') (hf:X.fn x=true\/X.env.scope.names.lookup x=some .local:=by first | exact .inl rfl | exact .inr rfl | assumption):wpAny M A (storeName X.env x u) Q E s:=
 JP I hN hi hx r (λs' z _=>h s' z) hf
theorem Inv.call'(I:Inv X pins σ H s)(ho:s'.os=s.os)(u:Un (frs X.stack) ch H H' s.heap s'.heap)(hok:HOk X.prog X.w H' s'.heap)(hg:AllBare s'.gens)
 (hch:∀b∈ch,(b∈X.ex\/X.s₀.heap.objs.size<=b)/\b≠X.env.locals/\(∀x c,X.env.cells.lookup x=some c->c≠b)/\∀p∈X.pn++pins,p.1≠b):Inv X pins σ H' s':=by
 obtain⟨h',g',d',t',o'⟩:=s';have e:o'=s.os:=ho;subst e;exact I.call (g':=g') (t':=t') (d':=d') u hok hg hch
end
abbrev XK:=Value->Option Addr->Hp->Prop
abbrev St:=List (Option V)
abbrev VK:=V->Hp->Prop
abbrev TE:=St->Hp->VK->Prop
abbrev TT:=St->Hp->(Bool->Hp->Prop)->Prop
abbrev TA:=St->Hp->(List V->Hp->Prop)->Prop
structure Ends where
 nx:St->Hp->Prop
 rt:VK
 bk:St->Hp->Prop:=λ_ _=>False
 ct:St->Hp->Prop:=λ_ _=>False
abbrev TS:=Ends->St->Hp->Prop
def EP(X:Cx)(pins:List (8:))(σ:St)(Q:VK)(u:Value)(s':Shared):Prop:=∃v H',Inv X pins σ H' s'/\RelV v u/\Q v H'
def TP(X:Cx)(pins:List (8:))(σ:St)(Q:Bool->Hp->Prop)(b:Bool)(s':Shared):Prop:=∃H',Inv X pins σ H' s'/\Q b H'
def AP(X:Cx)(pins:List (8:))(σ:St)(Q:List V->Hp->Prop)(us:List Value)(s':Shared):Prop:=∃vs H',Inv X pins σ H' s'/\Vals vs us/\Q vs H'
def SP(X:Cx)(pins:List (8:))(D:Ends)(f:Flow)(s':Shared):Prop:=
 match f with
 | .next=>∃σ' H',Inv X pins σ' H' s'/\D.nx σ' H'
 | .brk=>∃σ' H',Inv X pins σ' H' s'/\D.bk σ' H'
 | .cont=>∃σ' H',Inv X pins σ' H' s'/\D.ct σ' H'
 | .ret u=>∃v σ' H',Inv X pins σ' H' s'/\RelV v u/\D.rt v H'
def PE(X:Cx)(e:Expr)(t:TE):Prop:=
 ∀(pins:List (8:))(s:Shared)(σ:St)(H:Hp)(Q:VK),Inv X pins σ H s->t σ H Q->wpAny (6:) X.A (eval e X.env) (EP X pins σ Q) X.xe s
def PT(X:Cx)(e:Expr)(t:TT):Prop:=
 ∀(pins:List (8:))(s:Shared)(σ:St)(H:Hp)(Q:Bool->Hp->Prop),Inv X pins σ H s->t σ H Q->wpAny (6:) X.A (isTrue e X.env (eval e X.env)) (TP X pins σ Q) X.xe s
def PW(X:Cx)(e:Expr)(t:TT):Prop:=
 ∀(whole:Sem Value)(pins:List (8:))(s:Shared)(σ:St)(H:Hp)(Q:Bool->Hp->Prop),Inv X pins σ H s->t σ H Q->wpAny (6:) X.A (isTrue e X.env whole) (TP X pins σ Q) X.xe s
theorem PW.pt{X:Cx}{t:TT}(h:PW X e t):PT X e t:=h _
def PA(X:Cx)(es:List Expr)(t:TA):Prop:=
 ∀(pos:Pos)(pins:List (8:))(s:Shared)(σ:St)(H:Hp)(Q:List V->Hp->Prop),Inv X pins σ H s->t σ H Q->wpAny (6:) X.A (spliced (backTo pos (starEach es X.env))) (AP X pins σ Q) X.xe s
def PS(X:Cx)(st:Stmt)(t:TS):Prop:=
 ∀(pins:List (8:))(s:Shared)(σ:St)(H:Hp)(D:Ends),Inv X pins σ H s->t D σ H->wpAny (6:) X.A (exec st X.env) (SP X pins D) X.xe s
def PSs(X:Cx)(st:List Stmt)(t:TS):Prop:=
 ∀(pins:List (8:))(s:Shared)(σ:St)(H:Hp)(D:Ends),Inv X pins σ H s->t D σ H->wpAny (6:) X.A (execs st X.env) (SP X pins D) X.xe s
theorem thn{α:Type}{t:Sem α}{Q Q':α->Shared->Prop}(h:wpAny M A t Q E s)(hQ:∀a s,Q a s->Q' a s):wpAny M A t Q' E s:=bS h hQ λ_ _ x=>x
end L2
variable{X:L2.Cx}{ta te to tl tv ty:L2.TE}{D:L2.Ends}{tc tt:L2.TT}{tk:L2.TA}{a1 a2 a3 a4 a5 a6 a7:L2.TS}{trs:List (L2.TE×L2.TE)}
namespace L2
open PySem PySem.Spec PyProof.Rows
section
def ZL(i:Nat):TE:=λσ H Q=>∃v,σ[i]?=some (some v)/\Q v H
def tC(v:V):TE:=λ_ H Q=>Q v H
theorem Mp{i:Nat}{x:Str}{pos:Pos}(hN:X.N[i]?=some x)(hv:Vis X.env.scope x)(hd:(x==("__debug__":Str))=false:=by decide)(hcd:(x==("__classdict__":Str))=false:=by decide):PE X (.Name x pos) (ZL i):=by
 intro pins s σ H Q I h;obtain⟨v,e,h⟩:=h;obtain⟨m,F,G⟩:=I.loc;obtain⟨u,r,l⟩:=G i x v hN e hv;have fin:EP X pins σ Q u s:=⟨v,H,I,r,h⟩;rcases l with⟨hk,J⟩ | ⟨hk,c,D,z⟩
 .exact wpAny_Name (wpAny_loadName_local I.ok.kind hk F J fin) hd
 .rcases hk with hk | hk
  .exact wpAny_Name (wpAny_loadName_cell I.ok.kind hk D z fin) hd
  .exact wpAny_Name (wpAny_loadName_free I.ok.kind hk D z fin hcd) hd
theorem Qd{i j pos}:PE X (.Constant (.int i) j pos) (tC (.int i)):=λ_ _ _ H _ I h=>wpAny_Constant_int ⟨.int i,H,I.tok _,⟨_,rfl⟩,h⟩
theorem Zy{b j pos}:PE X (.Constant (.bool b) j pos) (tC (.bl b)):=λ_ _ _ H _ I h=>Constant_bool ⟨.bl b,H,I,rfl,h⟩
theorem Z8{j pos}:PE X (.Constant .none j pos) (tC .non):=λ_ _ _ H _ I h=>Constant_none ⟨.non,H,I,rfl,h⟩
theorem Zi{x j pos}:PE X (.Constant (.str x) j pos) (tC (.str x)):=λ_ _ _ H _ I h=>Calls.Constant_str ⟨.str x,H,I.tok _,⟨_,rfl⟩,h⟩
def Gl(X:Cx)(x:Str):Prop:=X.env.kindOf x=some .globalImplicit
theorem YC{pins:List (8:)}{σ:St}(I:Inv X pins σ H s)(hg:Gl X x)(hm:X.mg x=some u)(h:Q u s)
 (hd:(x==("__debug__":Str))=false:=by decide):wpAny (6:) X.A (eval (.Name x pos) X.env) Q E s:=
 Calls.Name_function_global I.ok.kind hg (Calls.loadGlobal_global (by rw [I.ok.glob];exact I.mod.glob.keeps I.bk) hm h) hd
theorem Z5{pins:List (8:)}{σ:St}(I:Inv X pins σ H s)(hg:Gl X x)(hm:X.mg x=none)(hv:bootBuiltins x=some u)(h:Q u s)
 (hn:x≠"__name__":=by decide) (hd:(x==("__debug__":Str))=false:=by decide):wpAny (6:) X.A (eval (.Name x pos) X.env) Q E s:=by
 obtain⟨z,h1,h2⟩:=I.mod.blt;exact Calls.Name_function_global I.ok.kind hg (Calls.loadGlobal_builtin (by rw [I.ok.glob];exact I.mod.glob.keeps I.bk) hm (by rw [I.ok.blt];exact h1.keeps I.bk) ((h2 x hn).trans hv) h) hd
theorem UN{x:Str}{v:V}{u:Value}{pos:Pos}(hg:Gl X x)(hm:X.mg x=some u)(r:RelV v u)(hd:(x==("__debug__":Str))=false:=by decide):PE X (.Name x pos) (tC v):=
 λ_ _ _ H _ I h=>YC I hg hm ⟨v,H,I,r,h⟩ hd
theorem Z9{x:Str}{v:V}{u:Value}{pos:Pos}(hg:Gl X x)(hm:X.mg x=none)(hv:bootBuiltins x=some u)(r:RelV v u)(hn:x≠"__name__":=by decide)(hd:(x==("__debug__":Str))=false:=by decide):PE X (.Name x pos) (tC v):=
 λ_ _ _ H _ I h=>Z5 I hg hm hv ⟨v,H,I,r,h⟩ hn hd
variable{a b:Expr}{tb:TE}
def PC(X:Cx)(op:CmpOp)(a b:Expr)(t:TE):Prop:=
 ∀(pins:List (8:))(s:Shared)(σ:St)(H:Hp)(Q:VK),Inv X pins σ H s->t σ H Q->
  wpAny (6:) X.A (eval a X.env) (λv s₁=>wpAny (6:) X.A (eval b X.env) (λu s₂=>wpAny (6:) X.A (compareOp op v u) (EP X pins σ Q) X.xe s₂) X.xe s₁) X.xe s
theorem LV(b:Expr)(h:op≠.In)(h2:op≠.NotIn):behindInMarks op b=false:=by
 have e1:(op==CmpOp.In)=false:=by cases op<;>first | rfl | exact absurd rfl h
 have e2:(op==CmpOp.NotIn)=false:=by cases op<;>first | rfl | exact absurd rfl h2
 cases b<;>simp [behindInMarks,e1,e2]
def SV(ta:TE):TE:=λσ H Q=>ta σ H λx H1=>Q (.bl (decide (x=.non))) H1
theorem RelV.none_iff{x:V}(r:RelV x v):(v==Value.none)=decide (x=.non):=by
 cases x with
 | non=>cases r;rfl
 | bl _=>cases r;rfl
 | int _=>obtain⟨t,rfl⟩:=r;rfl
 | str _=>obtain⟨t,rfl⟩:=r;rfl
 | byt _=>obtain⟨t,rfl⟩:=r;rfl
 | flt _=>obtain⟨t,rfl⟩:=r;rfl
 | ref _=>cases r;rfl
 | ty _=>cases r;rfl
theorem Pq{j pos'}(ha:PE X a ta):PC X .Is a (.Constant .none j pos') (SV ta):=by
 intro pins s σ H Q I h;refine thn (ha pins s σ H _ I h) λv G ⟨x,H1,z,D,F⟩=>?_;exact Constant_none (is_none_gen ⟨.bl _,H1,z,by rw [D.none_iff];rfl,F⟩)
def tB(t:TE):TT:=λσ H Q=>t σ H λx H1=>∃c,x=.bl c/\Q c H1
theorem Nu{t:TE}(h:PC X op a b t)(h1:behindInMarks op b=false:=by first | exact LV _ (18:) (18:) | rfl):PT X (.Compare a [op] [b] pos) (tB t):=by
 intro pins s σ H Q I z;refine wpAny_isTrue_Compare1 (thn (h pins s σ H _ I z) λv J h1=>thn h1 λu M h2=>thn h2 λc U ⟨x,H1,D,F,G⟩=>?_) h1;obtain⟨d,rfl,q⟩:=G;cases F;exact eE ⟨H1,D,q⟩
theorem Q7{t:TE}(h:PE X e t)(he:∀whole,isTrue e X.env whole=(do let v <-whole;standAt e.pos;holding [v] (truthy v)):=by intro _;rfl):PT X e (tB t):=by
 intro pins s σ H Q I z;refine isTrue_plain (thn (h pins s σ H _ I z) λv J ⟨x,H1,D,F,G⟩=>?_) (he _);obtain⟨d,rfl,q⟩:=G;cases F;exact eE ⟨H1,D,q⟩
variable{tA tB':TT}{rest:List Expr}
def Tr(t u:TT):TT:=λσ H Q=>t σ H λc H1=>if c=true then u σ H1 Q else Q false H1
def tOr(t u:TT):TT:=λσ H Q=>t σ H λc H1=>if c=true then Q true H1 else u σ H1 Q
def To(t:TT):TT:=λσ H Q=>t σ H λc H1=>Q (!c) H1
theorem pw_and1(ha:PT X a tA):PW X (.BoolOp .And [a] pos) tA:=by
 intro z pins s σ H Q I h;refine isTrue_and (thn (ha pins s σ H Q I h) λc D e=>?_);cases c with
 | true=>exact isTrue_and_nil e
 | false=>exact e
theorem pw_or1(ha:PT X a tA):PW X (.BoolOp .Or [a] pos) tA:=by
 intro z pins s σ H Q I h;refine isTrue_or (thn (ha pins s σ H Q I h) λc D e=>?_);cases c with
 | false=>exact isTrue_or_nil e
 | true=>exact e
theorem pw_and(ha:PT X a tA)(hb:PW X (.BoolOp .And (b::rest) pos) tB'):PW X (.BoolOp .And (a::b::rest) pos) (Tr tA tB'):=by
 intro F pins s σ H Q I h;refine isTrue_and (thn (ha pins s σ H _ I h) λc G ⟨H1,z,D⟩=>?_);cases c with
 | true=>exact hb F pins G σ H1 Q z D
 | false=>exact⟨H1,z,D⟩
theorem pw_or(ha:PT X a tA)(hb:PW X (.BoolOp .Or (b::rest) pos) tB'):PW X (.BoolOp .Or (a::b::rest) pos) (tOr tA tB'):=by
 intro F pins s σ H Q I h;refine isTrue_or (thn (ha pins s σ H _ I h) λc G ⟨H1,z,D⟩=>?_);cases c with
 | true=>exact⟨H1,z,D⟩
 | false=>exact hb F pins G σ H1 Q z D
theorem Zq(ha:PT X a tA):PT X (.UnaryOp .Not a pos) (To tA):=by
 intro pins s σ H Q I h;exact isTrue_not (ha pins s σ H (λc H1=>Q (!c) H1) I h)
def R1(ta tb:TE):TE:=λσ H Q=>ta σ H λx H1=>∃c,x=.bl c/\if c=true then tb σ H1 Q else Q (.bl false) H1
def Td(ta tb:TE):TE:=λσ H Q=>ta σ H λx H1=>∃c,x=.bl c/\if c=true then Q (.bl true) H1 else tb σ H1 Q
def Sx(ta:TE):TE:=λσ H Q=>ta σ H λx H1=>∃c,x=.bl c/\Q (.bl (!c)) H1
theorem XN{op}{t:TE}(h:PE X a t):PE X (.BoolOp op [a] pos) t:=λpins s σ H Q I z=>BoolOp_one (h pins s σ H Q I z)
theorem VO(ha:PE X a ta)(hb:PE X (.BoolOp .And (b::rest) pos) tb):PE X (.BoolOp .And (a::b::rest) pos) (R1 ta tb):=by
 intro pins s σ H Q I h;refine BoolOp_and (thn (ha pins s σ H _ I h) λv F ⟨x,H1,D,G,z⟩=>?_);obtain⟨c,rfl,z⟩:=z;cases G;refine eE ?_;cases c with
 | true=>exact hb pins F σ H1 Q D z
 | false=>exact⟨.bl false,H1,D,rfl,z⟩
theorem SQ(ha:PE X a ta)(hb:PE X (.BoolOp .Or (b::rest) pos) tb):PE X (.BoolOp .Or (a::b::rest) pos) (Td ta tb):=by
 intro pins s σ H Q I h;refine BoolOp_or (thn (ha pins s σ H _ I h) λv F ⟨x,H1,D,G,z⟩=>?_);obtain⟨c,rfl,z⟩:=z;cases G;refine eE ?_;cases c with
 | false=>exact hb pins F σ H1 Q D z
 | true=>exact⟨.bl true,H1,D,rfl,z⟩
theorem PM(ha:PE X a ta):PE X (.UnaryOp .Not a pos) (Sx ta):=by
 intro pins s σ H Q I h;refine UnaryOp_ (thn (ha pins s σ H _ I h) λv G ⟨x,H1,D,F,z⟩=>?_);obtain⟨c,rfl,z⟩:=z;cases F;exact not_of (eE ⟨.bl (!c),H1,D,rfl,z⟩)
def tIf(t:TT)(ta tb:TE):TE:=λσ H Q=>t σ H λc H1=>if c=true then ta σ H1 Q else tb σ H1 Q
theorem MO{c:Expr}(hc:PT X c tA)(ha:PE X a ta)(hb:PE X b tb):PE X (.IfExp c a b pos) (tIf tA ta tb):=by
 intro pins s σ H Q I h;refine wpAny_IfExp (thn (hc pins s σ H _ I h) λd z ⟨H1,D,F⟩=>?_);cases d with
 | true=>exact ha pins z σ H1 Q D F
 | false=>exact hb pins z σ H1 Q D F
end
def SqL(K:Fg)(H:Hp)(a:Addr)(xs:List V):Prop:=
 Rd H a (.lst xs) \/
  ∃(o:Obj)(its:Array Value)(n:Nat),K.lookup a=some o/\o.cls=.type "list"/\ o.dict=none/\o.data=.seq its n/\its.size<=sizeLine/\Vals xs its.toList
def SqT(K:Fg)(H:Hp)(a:Addr)(xs:List V):Prop:=
 Rd H a (.tup xs) \/
  ∃(o:Obj)(its:Array Value)(n:Nat),K.lookup a=some o/\o.cls=.type "tuple"/\ o.data=.seq its n/\its.size<=sizeLine/\Vals xs its.toList
def Tf:Value->Option V
 | .none=>some .non
 | .bool b=>some (.bl b)
 | .int i _=>some (.int i)
 | .str x _=>some (.str x)
 | .bytes b _=>some (.byt b)
 | .float b _=>some (.flt b)
 | .ref a=>some (.ref a)
 | .type n=>some (.ty n)
 | _=>none
theorem RelV.abs{x:V}(r:RelV x u):Tf u=some x:=by
 cases x with
 | non=>cases r;rfl
 | bl _=>cases r;rfl
 | int _=>obtain⟨t,rfl⟩:=r;rfl
 | str _=>obtain⟨t,rfl⟩:=r;rfl
 | byt _=>obtain⟨t,rfl⟩:=r;rfl
 | flt _=>obtain⟨t,rfl⟩:=r;rfl
 | ref _=>cases r;rfl
 | ty _=>cases r;rfl
theorem RelV.inj{x:V}(r:RelV x u)(q:RelV y u):x=y:=aH (r.abs.symm.trans q.abs)
theorem Vals.inj:∀{xs ys:List V}{us:List Value},Vals xs us->Vals ys us->xs=ys
 | _,_,_,.nil,.nil=>rfl
 | _,_,_,.cons r t,.cons z D=>by rw [r.inj z,Vals.inj t D]
section
variable{pins:List (8:)}{σ:St}
theorem SqL.of{K:Fg}(h:H a=some (.lst xs)):SqL K H a xs:=.inl (.inl h)
theorem SqT.of{K:Fg}(h:H a=some (.tup xs)):SqT K H a xs:=.inl (.inl h)
theorem Inv.list(I:Inv X pins σ H s)(h:SqL X.K H a xs):∃its:List Value,Vals xs its/\PlainL s.heap a its.toArray/\xs.length<=sizeLine:=by
 rcases h with h | ⟨o,its,n,D,F,hd,G,J,r⟩
 .obtain⟨z,its,n,r,e⟩:=h.ok I.hok;exact⟨its,r,⟨_,n,e,rfl,rfl,rfl⟩,z⟩
 .refine⟨its.toList,r,⟨o,n,I.kIn a o D,F,hd,by simpa using G⟩,?_⟩;have e:=r.length;simp only [gB]at e;lia
theorem Inv.tuple(I:Inv X pins σ H s)(h:SqT X.K H a xs):∃its:List Value,Vals xs its/\IsTup s.heap a its.toArray/\xs.length<=sizeLine:=by
 rcases h with h | ⟨o,its,n,D,F,G,J,r⟩
 .obtain⟨z,its,r,p⟩:=h.ok I.hok;exact⟨its,r,p,z⟩
 .refine⟨its.toList,r,⟨o,I.kIn a o D,F,n,by simpa using G⟩,?_⟩;have e:=r.length;simp only [gB]at e;lia
theorem Inv.list_inj(I:Inv X pins σ H s)(h:SqL X.K H a xs)(h':SqL X.K H a ys):xs=ys:=by
 obtain⟨its,r,⟨o,n,e,_,_,d⟩,_⟩:=I.list h;obtain⟨z,G,⟨o',M,D,_,_,F⟩,_⟩:=I.list h';rw [e]at D;cases D;rw [d]at F;injection F with J _;have:its=z:=by simpa using congrArg Array.toList J
 subst this;exact r.inj G
theorem Inv.tuple_inj(I:Inv X pins σ H s)(h:SqT X.K H a xs)(h':SqT X.K H a ys):xs=ys:=by
 obtain⟨its,r,⟨o,e,_,n,d⟩,_⟩:=I.tuple h;obtain⟨z,G,⟨o',D,_,M,F⟩,_⟩:=I.tuple h';rw [e]at D;cases D;rw [d]at F;injection F with J _;have:its=z:=by simpa using congrArg Array.toList J
 subst this;exact r.inj G
end
abbrev Cx.wish(X:Cx)(E:Value->Shared->Prop):Cx:={ X with xe:=E }
abbrev Cx.nox(X:Cx):Cx:=X.wish λ_ _=>False
theorem Cx.Ok.wish(ok:X.Ok)(E:Value->Shared->Prop):(X.wish E).Ok:=
 ⟨ok.mod,ok.kind,ok.glob,ok.blt,ok.above,ok.inj,ok.has,ok.cab,ok.hd,ok.frames,ok.stk,ok.exf,ok.bs,ok.bsz,ok.noex,ok.exfs,ok.funs,ok.frf⟩
theorem Cx.Ok.unwish(ok:(X.wish E).Ok):X.Ok:=
 ⟨ok.mod,ok.kind,ok.glob,ok.blt,ok.above,ok.inj,ok.has,ok.cab,ok.hd,ok.frames,ok.stk,ok.exf,ok.bs,ok.bsz,ok.noex,ok.exfs,ok.funs,ok.frf⟩
section
variable{pins:List (8:)}{σ:St}
theorem Inv.wish(I:Inv X pins σ H s)(E:Value->Shared->Prop):Inv (X.wish E) pins σ H s:=⟨I.ok.wish E,I.os,I.bare,I.base,I.loc,I.cell,I.free,I.freeC,I.pin,I.hok,I.len⟩
theorem Inv.unwish(I:Inv (X.wish E) pins σ H s):Inv X pins σ H s:=⟨I.ok.unwish,I.os,I.bare,I.base,I.loc,I.cell,I.free,I.freeC,I.pin,I.hok,I.len⟩
theorem SP.unwish{f:Flow}(h:SP (X.wish E) pins D f s'):SP X pins D f s':=by
 cases f with
 | next=>obtain⟨z,H',I,q⟩:=h;exact⟨z,H',I.unwish,q⟩
 | brk=>obtain⟨z,H',I,q⟩:=h;exact⟨z,H',I.unwish,q⟩
 | cont=>obtain⟨z,H',I,q⟩:=h;exact⟨z,H',I.unwish,q⟩
 | ret u=>obtain⟨v,z,H',I,r,q⟩:=h;exact⟨v,z,H',I.unwish,r,q⟩
theorem PE.nox{t:TE}(h:PE X.nox e t):PE X e t:=λpins s σ H Q I D=>
 bS (h pins s σ H Q (I.wish _) D) (λ_ _ ⟨v,H',F,r,q⟩=>⟨v,H',F.unwish,r,q⟩) λ_ _ z=>False.elim z
theorem PSs.nox{st:List Stmt}{t:TS}(h:PSs X.nox st t):PSs X st t:=λpins s σ H D I F=>
 bS (h pins s σ H D (I.wish _) F) (λ_ _ q=>q.unwish) λ_ _ z=>False.elim z
end
section
variable{st:Stmt}{rest:List Stmt}{t u:TS}
def SJ:TS:=λD σ H=>D.nx σ H
def QA(t u:TS):TS:=λD σ H=>t { D with nx:=u D } σ H
theorem Qw:PSs X [] SJ:=λ_ _ σ H _ I h=>gO ⟨σ,H,I,h⟩
theorem Qe(h1:PS X st t)(h2:PSs X rest u):PSs X (st::rest) (QA t u):=by
 intro pins s σ H D I h;refine wpAny_execs_cons (thn (h1 pins s σ H { D with nx:=u D } I h) λf z q=>?_);cases f with
 | next=>
  obtain⟨F,H',G,q⟩:=q;exact h2 pins z F H' D G q
 | ret v=>exact q
 | brk=>exact q
 | cont=>exact q
theorem Qh(h1:PS X st t):PSs X [st] t:=by
 intro pins s σ H D I h;refine wpAny_execs_cons (thn (h1 pins s σ H D I h) λf z q=>?_);cases f with
 | next=>exact gO q
 | ret v=>exact q
 | brk=>exact q
 | cont=>exact q
theorem Inv.quiet{pins:List (8:)}{σ:St}(I:Inv X pins σ H s):interactive X.env=false:=by simp [interactive,I.ok.kind]
def Sm(te:TE):TS:=λD σ H=>te σ H λ_ H1=>D.nx σ H1
theorem QS(he:PE X e te)(hs:swapsWith e none pos.line X.env=pure false:=by rfl):PS X (.Expr e pos) (Sm te):=by
 intro pins s σ H D I h;exact wpAny_Expr_any (thn (he pins s σ H _ I h) λv G ⟨x,H1,z,J,F⟩=>⟨σ,H1,z,F⟩) I.quiet hs
def Tk(te:TE):TS:=λD σ H=>te σ H D.rt
theorem Qp(he:PE X e te):PS X (.Return (some e) pos) (Tk te):=by
 intro pins s σ H D I h;exact wpAny_Return_some (thn (he pins s σ H _ I h) λv J ⟨x,H1,z,F,G⟩=>⟨x,σ,H1,z,F,G⟩)
def Tg(c:TT)(t u:TS):TS:=λD σ H=>c σ H λb H1=>if b=true then t D σ H1 else u D σ H1
theorem QP{c:Expr}{a b:List Stmt}(hc:PT X c tc)(ha:PSs X a t)(hb:PSs X b u):PS X (.If c a b pos) (Tg tc t u):=by
 intro pins s σ H D I h;refine wpAny_If (thn (hc pins s σ H _ I h) λd z ⟨H1,F,G⟩=>?_);cases d with
 | true=>exact ha pins z σ H1 D F G
 | false=>exact hb pins z σ H1 D F G
def PN:TS:=λ_ _ _=>False
theorem Nz:PS X st PN:=λ_ _ _ _ _ _ h=>h.elim
end
abbrev TG:=V->St->Hp->(St->Hp->Prop)->Prop
abbrev TGs:=List V->St->Hp->(St->Hp->Prop)->Prop
def PG(X:Cx)(target:Expr)(t:TG):Prop:=
 ∀(pins:List (8:))(s:Shared)(σ:St)(H:Hp)(v:V)(u:Value)(Q:St->Hp->Prop),Inv X pins σ H s->RelV v u->t v σ H Q->
  wpAny (6:) X.A (assign target X.env u) (λ_ s'=>∃σ' H',Inv X pins σ' H' s'/\Q σ' H') X.xe s
def PGs(X:Cx)(ts:List Expr)(t:TGs):Prop:=
 ∀(pins:List (8:))(s:Shared)(σ:St)(H:Hp)(vs:List V)(us:List Value)(Q:St->Hp->Prop),Inv X pins σ H s->Vals vs us->t vs σ H Q->
  wpAny (6:) X.A (assignInOrder ((assignEach ts X.env).map (·.2)) us) (λ_ s'=>∃σ' H',Inv X pins σ' H' s'/\Q σ' H') X.xe s
abbrev Rw:=V->V->V->Hp->(Hp->Prop)->Prop
def Sz(X:Cx)(t:Rw):Prop:=
 ∀(pins:List (8:))(s:Shared)(σ:St)(H:Hp)(o i v:V)(ov iv u:Value)(Q:Hp->Prop),Inv X pins σ H s->RelV o ov->RelV i iv->RelV v u->t o i v H Q->
  wpAny (6:) X.A (setItem ov iv u) (λ_ s'=>∃H',Inv X pins σ H' s'/\Q H') X.xe s
def Zz(i:Nat):TG:=λv σ H Q=>Q (σ.set i (some v)) H
theorem Qt{i:Nat}{x:Str}(hN:X.N.Nodup)(hi:X.N[i]?=some x)(hx:Loc X.env.scope x)(hf:X.fn x=true\/X.env.scope.names.lookup x=some .local:=by first | exact .inl rfl | exact .inr rfl | assumption):PG X (.Name x pos) (Zz i):=by
 intro pins s σ H v u Q I r h;exact wpAny_assign_Name (WJ I hN hi hx r (λs' z=>⟨_,H,z,h⟩) hf)
def ME:TGs:=λvs σ H Q=>vs=[]/\Q σ H
def Ud(t:TG)(u:TGs):TGs:=λvs σ H Q=>∃v r,vs=v::r/\t v σ H λσ' H'=>u r σ' H' Q
theorem ZN:PGs X [] ME:=by
 intro pins s σ H z D Q I r h;obtain⟨e,h⟩:=h;subst e;cases r;exact assignInOrder_nil ⟨σ,H,I,h⟩
theorem QR{t:TG}{u:TGs}(h1:PG X e t)(h2:PGs X es u)
 (hs:(assignEach (e::es) X.env).map (·.2)=assign e X.env::(assignEach es X.env).map (·.2):=by rfl):PGs X (e::es) (Ud t u):=by
 intro pins s σ H M U Q I r h;obtain⟨v,Y,e1,h⟩:=h;subst e1;cases r with
 | cons r z=>
  rw [hs];refine assignInOrder_cons (thn (h1 pins s σ H _ _ _ I r h) λ_ D ⟨F,H1,G,J⟩=>?_);exact h2 pins D F H1 _ _ Q G z J
def L6(K:Fg)(n:Nat)(t:TGs):TG:=λv σ H Q=>∃a xs,v=.ref a/\SqT K H a xs/\xs.length=n/\t xs σ H Q
theorem Yu{k:Nat}{t:TGs}(hc:X.calm=true)(h:PGs X es t)
 (hn:(assignEach es X.env).length=n:=by rfl) (hst:(assignEach es X.env).findIdx? (·.1)=none:=by rfl):PG X (.Tuple es k pos) (L6 X.K n t):=by
 intro pins s σ H v u Q I r z;obtain⟨a,xs,e1,F,G,z⟩:=z;subst e1;cases r;obtain⟨its,D,J,Y⟩:=I.tuple F;refine JK (I.hd hc) J (by simp [hn,<-G,D.length]) hst λh' M=>?_;have U:Inv X pins σ H { s with heap:=h' }:=I.kept (t':=s.toks) M;exact h pins _ σ H xs _ Q U (by simpa using D) z
def S7(to ti:TE)(t:Rw):TG:=λv σ H Q=>to σ H λo H1=>ti σ H1 λi H2=>t o i v H2 λH3=>Q σ H3
theorem X5{o i:Expr}{ti:TE}{t:Rw}(ho:PE X o to)(hi:PE X i ti)(hs:Sz X t)
 (ha:∀v,assign (.Subscript o i pos) X.env v=(do
  let ov <-holding [v] (eval o X.env)
  let iv <-holding [v,ov] (eval i X.env)
  standAt pos
  holding [v,ov,iv] (setItem ov iv v)
  release [v,ov,iv] []):=by intro _;rfl):PG X (.Subscript o i pos) (S7 to ti t):=by
 intro pins s σ H v u Q I r h;rw [ha];refine aA (cF (thn (ho pins s σ H _ I h) λov z ⟨x,H1,D,F,G⟩=>?_));refine aA (cF (thn (hi pins z σ H1 _ D G) λiv J ⟨y,H2,M,U,Y⟩=>?_));refine aA (wpAny_standAt (aA (cF (thn (hs pins J σ H2 x y v ov iv u _ M F U r Y) λ_ s3 ⟨Z,I3,q3⟩=>?_))));exact wpAny_release ⟨σ,Z,I3,q3⟩
def RJ(te:TE)(g:TG):TS:=λD σ H=>te σ H λx H1=>g x σ H1 D.nx
theorem YQ{g:TG}(he:PE X e te)(hg:PG X tg g)(hs:swapsWithSole [tg] e pos.line X.env=pure false:=by rfl)(hw:swappedStores [tg] e X.env=pure none:=by rfl)
 (h1:(assignEach [tg] X.env).map (·.2)=[assign tg X.env]:=by rfl):PS X (.Assign [tg] e pos) (RJ te g):=by
 intro pins s σ H D I h;refine wpAny_Assign_stores (thn (he pins s σ H _ I h) λv z ⟨x,H1,F,G,J⟩=>?_) hs hw;rw [h1];exact thn (hg pins z σ H1 x v _ F G J) λ_ M q=>q
theorem Qm{i:Nat}{x:Str}{e:Expr}{te:TE}{pos':Pos}(hN:X.N.Nodup)(hi:X.N[i]?=some x)(hx:Loc X.env.scope x)(he:PE X e te)(hs:swapsWith e (some (.Name x pos')) pos.line X.env=pure false:=by rfl)(hf:X.fn x=true\/X.env.scope.names.lookup x=some .local:=by first | exact .inl rfl | exact .inr rfl | assumption):
 PS X (.Assign [.Name x pos'] e pos) (RJ te (Zz i)):=by
 intro pins s σ H D I h;refine wpAny_Assign_Name (thn (he pins s σ H _ I h) λv M ⟨y,H1,z,F,G⟩=>?_) hs;exact WJ z hN hi hx F (λU J=>⟨_,H1,J,G⟩) hf
def PB(c:TT)(tb:TS):TS:=λD σ H=>∃W:Nat->St->Hp->Prop,(∃m,W m σ H)/\∀m σ H,W m σ H->
 c σ H λb H1=>if b=true then ∃N:St->Hp->Prop,(∀σ' H',N σ' H'->∃m',m'<m/\W m' σ' H')/\tb { D with nx:=N,ct:=N,bk:=D.nx } σ H1 else D.nx σ H1
theorem W9{c:Expr}{tb:TS}(hp:PassesOwn (6:) X.A X.env X.xe)(hc:PT X c tc)(hb:PSs X body tb):PS X (.While c body [] pos) (PB tc tb):=by
 intro pins s σ H D I h;obtain⟨W,⟨m0,w0⟩,turn⟩:=h;refine wpAny_While (codeAny_whileLoop (λn s'=>∃aa H',Inv X pins aa H' s'/\W n aa H') ?_ m0 ⟨σ,H,I,w0⟩);rintro n s1 ⟨G,H1,I1,w1⟩;refine fI hp (thn (hc pins s1 G H1 _ I1 (turn n G H1 w1)) λb s2 ⟨H2,I2,J⟩=>?_);cases b with
 | true=>
  obtain⟨N,hN,J⟩:=J;rw [aE rfl];refine fI hp (thn (hb pins s2 G H2 _ I2 J) λf s3 M=>?_);cases f with
  | next=>
   obtain⟨z,F,U,Y⟩:=M;obtain⟨Z,hm,w3⟩:=hN z F Y;exact⟨Z,hm,z,F,U,w3⟩
  | cont=>
   obtain⟨z,F,U,Y⟩:=M;obtain⟨Z,hm,w3⟩:=hN z F Y;exact⟨Z,hm,z,F,U,w3⟩
  | brk=>exact M
  | ret v=>exact M
 | false=>
  rw [aF aW];exact gO ⟨G,H2,I2,J⟩
structure It where
 go:Nat->Hp->Prop
 yld:Nat->Hp->V->Hp->Prop
 stop:Nat->Hp->Prop
def YX(X:Cx)(pins:List (8:))(H:Hp)(b:Addr):Prop:=
 H b=none/\b≠X.env.locals/\b∉X.fs/\(b∈X.ex\/X.s₀.heap.objs.size<=b)/\(∀x c,X.env.cells.lookup x=some c->c≠b)/\∀p∈X.pn++pins,p.1≠b
theorem Inv.fpOk{pins:List (8:)}{σ:St}(I:Inv X pins σ H s)(hb:s.heap.objs.size<=b)(hn:H' b=none):YX X pins H' b:=by
 refine⟨hn,fN (bU I.lt hb),I.nofs hb,.inr (aY I.sz hb),λx c e z=>?_,λp hp z=>?_⟩
 .obtain⟨v,q⟩:=I.cell x c e;exact absurd (bU q.lt (by rw [z];exact hb)) (bX _)
 .exact absurd (bU (aJ (I.pin p hp).1) (by rw [z];exact hb)) (bX _)
structure Turn(P:Program)(w:World)(K:Fg)(tg:Expr)(J:It)(fp:List Addr)(it:Addr)(tn:Nat->Heap->Prop):Prop where
 mem:it∈fp
 obj:∀i h,tn i h->∀b∈fp,∃o,h.get? b=some o/\∀v,o.data≠.cell v
 keep:∀i h h',tn i h->(∀b∈fp,∀o,h.get? b=some o->h'.get? b=some o)->tn i h'
 item:∀(X:Cx),X.prog=P->X.w=w->X.K=K->X.calm=true->∀(i:Nat)(pins:List (8:))(s:Shared)(σ:St)(H:Hp)(E:Value->Shared->Prop),Inv X pins σ H s->(∀b∈fp,YX X pins H b)->tn i s.heap->J.go i H->
  wpAny (model P w) X.A (pyNext (.ref it)) (λr s1=>∃u,r=some u/\
   wpAny (model P w) X.A (letOwnedTupleGo tg (.ref it) u) (λ_ s2=>∃x H',Inv X pins σ H' s2/\RelV x u/\J.yld i H x H'/\tn (i+1) s2.heap/\∀b∈fp,H' b=none) E s1) E s
 done:∀(X:Cx),X.prog=P->X.w=w->X.K=K->X.calm=true->∀(i:Nat)(pins:List (8:))(s:Shared)(σ:St)(H:Hp)(E:Value->Shared->Prop),Inv X pins σ H s->(∀b∈fp,YX X pins H b)->tn i s.heap->J.stop i H->
  wpAny (model P w) X.A (pyNext (.ref it)) (λr s1=>r=none/\Inv X pins σ H s1) E s
 self:∀(A:Around)(i:Nat)(s:Shared)(Q:Value->Shared->Prop)(E:Value->Shared->Prop),tn i s.heap->Q (.ref it) s->wpAny (model P w) A (pyIter (.ref it)) Q E s
abbrev TI:=St->Hp->(It->Hp->Prop)->Prop
def PIE(X:Cx)(pins:List (8:))(σ:St)(tg:Expr)(R:It->Hp->Prop)(itv:Value)(s2:Shared):Prop:=
 ∃(it:Addr)(fp:List Addr)(tn:Nat->Heap->Prop)(J:It)(H':Hp),itv=.ref it/\Inv X pins σ H' s2/\Turn X.prog X.w X.K tg J fp it tn/\tn 0 s2.heap/\(∀b∈fp,YX X pins H' b)/\R J H'
def PI(X:Cx)(tg iter:Expr)(wi:TI):Prop:=
 ∀(pins:List (8:))(s:Shared)(σ:St)(H:Hp)(R:It->Hp->Prop),Inv X pins σ H s->wi σ H R->
  wpAny (6:) X.A (eval iter X.env) (λv s1=>wpAny (6:) X.A (pyIter v) (PIE X pins σ tg R) X.xe s1) X.xe s
theorem Wg{M:Model}{A:Around}{E:Value->Shared->Prop}{s:Shared}{tg:Expr}{it:Addr}{u:Value}{o:Obj}{n:String}{vs:Array Value}{Q:Unit->Shared->Prop}(ho:s.heap.get? it=some o)(hc:o.cls=.type n)(hd:o.data=.fields vs)
 (hn:["enumerate","zip","dict_itemiterator","dict_reverseitemiterator","odict_iterator","itertools.zip_longest","itertools.pairwise"].contains n=false) (hQ:Q () s):wpAny M A (letOwnedTupleGo tg (.ref it) u) Q E s:=by
 unfold letOwnedTupleGo;cases tg<;>first
  | exact aD hQ
  | (cases u<;>first
   | exact aD hQ
   | (refine aA (wpAny_load ho ?_)
      rw [hc,hd];show wpAny M A (if(["enumerate","zip","dict_itemiterator","dict_reverseitemiterator","odict_iterator","itertools.zip_longest","itertools.pairwise"].contains n&&vs[0]? ==some (rawInt _))=true then _ else _) Q E s;rw [aF (by intro h;rw [hn,Bool.false_and]at h;cases h)];exact aD hQ))
def Itl(K:Fg)(a:Addr):It:=
 ⟨λi H=>∃xs x,SqL K H a xs/\xs[i]?=some x,λi H x H'=>H'=H/\∀xs,SqL K H a xs->xs[i]?=some x,λi H=>∃xs,SqL K H a xs/\xs.length<=i⟩
def Itt(K:Fg)(a:Addr):It:=
 ⟨λi H=>∃xs x,SqT K H a xs/\xs[i]?=some x,λi H x H'=>H'=H/\∀xs,SqT K H a xs->xs[i]?=some x,λi H=>∃xs,SqT K H a xs/\xs.length<=i⟩
def Itr(lo:Int)(n:Nat):It:=⟨λi _=>i<n,λi H x H'=>H'=H/\x=.int (lo+i),λi _=>n<=i⟩
theorem Lx{K:Fg}(a it:Addr):Turn P w K tg (Itl K a) [it] it (λi h=>h.IsListIter it a i) where
 mem:=by simp
 obj:=λi h st b D=>by
  have e:b=it:=by simpa using D
  subst e;obtain⟨o,e,c,d⟩:=st;exact⟨o,e,λv z=>by rw [d]at z;cases z⟩
 keep:=λi h h' st k=>st.at λo e=>k it (14:) o e
 item:=by
  intro X M U Y hc i pins s σ H E I F st Z;subst M U Y;obtain⟨xs,x,G,hx⟩:=Z;obtain⟨its,rv,p,hz⟩:=I.list G;obtain⟨u,hu,ru⟩:=rv.get hx;obtain⟨f0,f1,f2,f3,f4,f5⟩:=F it (14:);refine wpAny_pyNext_list_item st p.isList (x:=u) (by simpa using hu) λh' J sb=>?_;have I1:Inv X pins σ H { s with heap:=h' }:=I.turned (t':=s.toks) (λb o D e=>(sb.2 b D).trans e) f0 f1 f3 f4 f5;obtain⟨o,e,c,d⟩:=id J;exact⟨u,rfl,Wg (s:={ s with heap:=h' }) e c d (18:) ⟨x,H,I1,ru,⟨rfl,λys hy=>by rw [I.list_inj hy G];exact hx⟩,J,λb D=>(F b D).1⟩⟩
 done:=by
  intro X M U Y hc i pins s σ H E I F st Z;subst M U Y;obtain⟨xs,G,hx⟩:=Z;obtain⟨its,rv,p,hz⟩:=I.list G;obtain⟨f0,f1,f2,f3,f4,f5⟩:=F it (14:);have hl:=rv.length;exact JZ (I.hd hc) st p.isList (by simp;lia) λh' eb=>⟨rfl,I.turned (t':=s.toks) (λb o D e=>eb b o D e) f0 f1 f3 f4 f5⟩
 self:=λ_ _ _ _ _ st h=>wpAny_pyIter_listiter st h
theorem VF{K:Fg}(a it:Addr):Turn P w K tg (Itt K a) [it] it (λi h=>h.IsTupleIter it a i) where
 mem:=by simp
 obj:=λi h st b D=>by
  have e:b=it:=by simpa using D
  subst e;obtain⟨o,e,c,d⟩:=st;exact⟨o,e,λv z=>by rw [d]at z;cases z⟩
 keep:=λi h h' st k=>st.at λo e=>k it (14:) o e
 item:=by
  intro X M U Y hc i pins s σ H E I F st Z;subst M U Y;obtain⟨xs,x,G,hx⟩:=Z;obtain⟨its,rv,p,hz⟩:=I.tuple G;obtain⟨u,hu,ru⟩:=rv.get hx;obtain⟨f0,f1,f2,f3,f4,f5⟩:=F it (14:);refine wpAny_pyNext_tuple_item st (show s.heap.IsTuple a its.toArray from p) (x:=u) (by simpa using hu) λh' J sb=>?_;have I1:Inv X pins σ H { s with heap:=h' }:=I.turned (t':=s.toks) (λb o D e=>(sb.2 b D).trans e) f0 f1 f3 f4 f5;obtain⟨o,e,c,d⟩:=id J;exact⟨u,rfl,Wg (s:={ s with heap:=h' }) e c d (18:) ⟨x,H,I1,ru,⟨rfl,λys hy=>by rw [I.tuple_inj hy G];exact hx⟩,J,λb D=>(F b D).1⟩⟩
 done:=by
  intro X M U Y hc i pins s σ H E I F st Z;subst M U Y;obtain⟨xs,G,hx⟩:=Z;obtain⟨its,rv,p,hz⟩:=I.tuple G;obtain⟨f0,f1,f2,f3,f4,f5⟩:=F it (14:);have hl:=rv.length;exact W8 (I.hd hc) st (show s.heap.IsTuple a its.toArray from p) (by simp;lia) λh' eb=>⟨rfl,I.turned (t':=s.toks) (λb o D e=>eb b o D e) f0 f1 f3 f4 f5⟩
 self:=λ_ _ _ _ _ st h=>wpAny_pyIter_tupleiter st h
theorem VP{K:Fg}(it:Addr)(lo:Int)(n:Nat):Turn P w K tg (Itr lo n) [it] it (λi h=>IsRangeIter h it (lo+(i:Nat)*1) ((n:Int)-(i:Nat)) 1) where
 mem:=by simp
 obj:=λi h st b D=>by
  have e:b=it:=by simpa using D
  subst e;exact⟨_,st,λv z=>by
   have z':Data.fields _=Data.cell v:=z;cases z'⟩
 keep:=λi h h' st k=>k it (14:) _ st
 item:=by
  intro X J M U hc i pins s σ H E I F st Y;subst J M U;obtain⟨Z,f1,f2,f3,f4,f5⟩:=F it (14:);have ab:i<n:=Y;refine wpAny_pyNext_range_item st (7:) λh' aa sb=>?_;have I1:Inv X pins σ H { s with heap:=h',toks:=s.toks+1 }:=I.turned (λb o D e=>(sb.2 b (by simpa using D)).trans e) Z f1 f3 f4 f5;have G:IsRangeIter h' it (lo+((i+1:Nat):Int)*1) ((n:Int)-((i+1:Nat):Int)) 1:=by
   rw [show lo+((i+1:Nat):Int)*1=lo+(i:Nat)*1+1 by lia,show(n:Int)-((i+1:Nat):Int)=(n:Int)-(i:Nat)-1 by lia];exact aa
  refine⟨_,rfl,Wg (s:={ s with heap:=h',toks:=s.toks+1 }) (n:="range_iterator") G rfl rfl (18:) ⟨.int (lo+i),H,I1,⟨s.toks,?_⟩,⟨rfl,rfl⟩,G,λb D=>(F b D).1⟩⟩;rw [Int.mul_one]
 done:=by
  intro X J M U hc i pins s σ H E I F st Y;subst J M U;obtain⟨Z,f1,f2,f3,f4,f5⟩:=F it (14:);exact U7 (I.hd hc) st (by have:n<=i:=Y;lia) λh' eb=>⟨rfl,I.turned (t':=s.toks) (λb o D e=>eb b o D e) Z f1 f3 f4 f5⟩
 self:=λ_ _ _ _ _ st h=>wpAny_pyIter_rangeiter st h
end L2
variable{g:L2.TG}{wi:L2.TI}
namespace L2
open PySem PySem.Spec PyProof.Rows
def Pg(K:Fg)(tl:TE):TI:=λσ H R=>tl σ H λx H1=>∃a,x=.ref a/\(∃xs,SqL K H1 a xs)/\R (Itl K a) H1
def S3(K:Fg)(tl:TE):TI:=λσ H R=>tl σ H λx H1=>∃a,x=.ref a/\(∃xs,SqT K H1 a xs)/\R (Itt K a) H1
theorem Q1{l:Expr}(hl:PE X l tl):PI X tg l (Pg X.K tl):=by
 intro pins s σ H R I h;refine thn (hl pins s σ H _ I h) λv z ⟨x,H1,D,F,G⟩=>?_;obtain⟨a,e,⟨xs,J⟩,q⟩:=G;subst e;cases F;obtain⟨its,U,p,Y⟩:=D.list J;refine wpAny_pyIter_list p.isList ?_;refine⟨z.heap.objs.size,[z.heap.objs.size],_,_,H1,rfl,D.kept (t':=z.toks) λb o e=>aG _ e,Lx a _,⟨_,aQ _ rfl,rfl,rfl⟩,λb M=>?_,q⟩;have e:b=z.heap.objs.size:=by simpa using M
 subst e;exact D.fpOk (4:) (D.hok.fresh (4:))
theorem Yg{l:Expr}(hl:PE X l tl):PI X tg l (S3 X.K tl):=by
 intro pins s σ H R I h;refine thn (hl pins s σ H _ I h) λv z ⟨x,H1,D,F,G⟩=>?_;obtain⟨a,e,⟨xs,J⟩,q⟩:=G;subst e;cases F;obtain⟨its,U,p,Y⟩:=D.tuple J;refine wpAny_pyIter_tuple (show z.heap.IsTuple a its.toArray from p) ?_;refine⟨z.heap.objs.size,[z.heap.objs.size],_,_,H1,rfl,D.kept (t':=z.toks) λb o e=>aG _ e,VF a _,⟨_,aQ _ rfl,rfl,rfl⟩,λb M=>?_,q⟩;have e:b=z.heap.objs.size:=by simpa using M
 subst e;exact D.fpOk (4:) (D.hok.fresh (4:))
theorem ML{pins:List (8:)}{σ:St}{R:It->Hp->Prop}{lo hi:Int}{t u v:Tok}{tk:Nat}(I:Inv X pins σ H s)(h1:-(2^62)<=lo)(h2:lo<2^62)(h3:-(2^62)<=hi)(h4:hi<2^62)
 (q:R (Itr lo (hi-lo).toNat) H):wpAny (6:) X.A (pyIter (.ref s.heap.objs.size)) (PIE X pins σ tg R) E { s with heap:=s.heap.push { cls:=.type "range",data:=.fields #[.int lo t,.int hi u,.int 1 v] },toks:=tk }:=by
 refine wpAny_pyIter_range (IsRange.new ..) (small_one h1 h2 h3 h4) ?_;have z:Inv X pins σ H { s with heap:=s.heap.push { cls:=.type "range",data:=.fields #[.int lo t,.int hi u,.int 1 v] },toks:=tk }:=I.kept λb o e=>aG _ e;refine⟨(s.heap.push { cls:=.type "range",data:=.fields #[.int lo t,.int hi u,.int 1 v] }).objs.size,[(s.heap.push { cls:=.type "range",data:=.fields #[.int lo t,.int hi u,.int 1 v] }).objs.size],_,_,H,rfl,z.kept (t':=tk) λb o e=>aG _ e,VP _ lo (hi-lo).toNat,?_,λb D=>?_,q⟩
 .have e1:lo+((0:Nat):Int)*1=lo:=by simp
  have e2:(((hi-lo).toNat:Nat):Int)-((0:Nat):Int)=Builtin.Range.rangeSize lo hi 1:=by rw [rangeSize_one];split<;>lia
  show IsRangeIter _ _ (lo+((0:Nat):Int)*1) ((((hi-lo).toNat:Nat):Int)-((0:Nat):Int)) 1;rw [e1,e2];exact aQ _ rfl
 .have e:b=(s.heap.push { cls:=.type "range",data:=.fields #[.int lo t,.int hi u,.int 1 v] }).objs.size:=by simpa using D
  subst e;exact z.fpOk (4:) (z.hok.fresh (4:))
def SK(ta:TA):TI:=λσ H R=>ta σ H λvs H1=>∃j:Int,vs=[.int j]/\-(2^62)<=j/\j<2^62/\R (Itr 0 j.toNat) H1
theorem QN{a:Expr}{ta:TA}{p:Pos}(hg:Gl X "range")(hm:X.mg "range"=none)(ha:PA X [a] ta)(hs:starEach [a] X.env=[(false,eval a X.env)]:=by rfl):PI X tg (.Call (.Name "range" p) [a] [] pos) (SK ta):=by
 intro pins s σ H R I h;refine Call_ (Z5 I hg hm boot_range (fP (thn (ha pos pins s σ H _ I h) λM U ⟨Y,H1,D,F,z⟩=>?_) hs rfl));obtain⟨j,e,z,G,q⟩:=z;subst e;cases F with
 | cons r J=>
  cases J;obtain⟨t,rfl⟩:=r;exact call_range_1 (ML D (7:) (7:) z G (by simpa using q))
def Tn(wi:TI)(g:TG)(tb:TS):TS:=λD σ H=>wi σ H λJ H1=>∃W:Nat->Nat->St->Hp->Prop,(∃m,W 0 m σ H1)/\∀i m σ H,W i m σ H->
 (J.stop i H/\D.nx σ H)\/(J.go i H/\∃N:St->Hp->Prop,(∀σ' H',N σ' H'->∃m',m'<m/\W (i+1) m' σ' H')/\∀x H',J.yld i H x H'->g x σ H' λσ2 H2=>tb { D with nx:=N,ct:=N,bk:=D.nx } σ2 H2)
def JA(fp:List Addr)(h:Heap):List (8:):=fp.filterMap λb=>(h.get? b).map λo=>(b,o)
theorem Yh{h:Heap}(hb:b∈fp)(e:h.get? b=some o):(b,o)∈JA fp h:=dQ.mpr ⟨b,hb,by rw [e];rfl⟩
theorem Li{h:Heap}{p:Addr×Obj}(hp:p∈JA fp h):p.1∈fp/\h.get? p.1=some p.2:=by
 obtain⟨b,z,e⟩:=dQ.mp hp;cases q:h.get? b with
 | none=>rw [q]at e;cases e
 | some o=>
  rw [q]at e;have D:(b,o)=p:=aH e;subst D;exact⟨z,q⟩
theorem Inv.pinned{pins:List (8:)}{σ:St}(I:Inv X pins σ H s)(hf:∀b∈fp,YX X pins H b)(ho:∀b∈fp,∃o,s.heap.get? b=some o/\∀v,o.data≠.cell v):Inv X (pins++JA fp s.heap) σ H s:=
 I.pins_of λp hp=>(a_.mp hp).elim (λz=>I.pin p (bJ _ z)) λz=>by
  obtain⟨D,e⟩:=Li z;obtain⟨G,J,M,_⟩:=hf p.1 D;obtain⟨o,F,d⟩:=ho p.1 D;rw [e]at F;cases F;exact⟨e,G,J,M,d⟩
theorem Inv.unpinned{pins pl:List (8:)}{σ:St}(I:Inv X (pins++pl) σ H s):Inv X pins σ H s:=I.pins_of λp hp=>I.pin p (bJ _ (bZ _ hp))
theorem QO{tb:TS}(hp:PassesOwn (6:) X.A X.env X.xe)(hc:X.calm=true)(hi:PI X tg iter wi)(hg:PG X tg g)(hb:PSs X body tb)
 (hs:∀x,foldedSetIterable iter X.env x=pure x:=by intro _;rfl):PS X (.For tg iter body [] pos) (Tn wi g tb):=by
 intro pins s σ H D I h;refine wpAny_For (thn (hi pins s σ H _ I h) λv s1 h1=>thn h1 λaj s2 h2=>?_) hs;obtain⟨it,fp,tn,J,H2,e,I2,T,af,f2,W,⟨m0,w0⟩,turn⟩:=h2;subst e;have U:∀{H':Hp},(∀b∈fp,H' b=none)->∀b∈fp,YX X pins H' b:=λhn b hb=>⟨hn b hb,(f2 b hb).2⟩;refine codeAny_forLoop_any (λn s'=>∃i Z H',Inv X pins Z H' s'/\tn i s'.heap/\(∀b∈fp,H' b=none)/\W i n Z H') ?_ m0 ⟨0,σ,H2,I2,af,λb hb=>(f2 b hb).1,w0⟩;rintro n s3 ⟨i,aa,H3,I3,ac,ad,w3⟩;rcases turn i n aa H3 w3 with⟨ae,qn⟩ | ⟨go,N,hN,step⟩
 .refine fI hp (thn (T.done X rfl rfl rfl hc i pins s3 aa H3 X.xe I3 (U ad) ac ae) λr s4 ⟨hr,I4⟩=>?_);subst hr;exact gO ⟨aa,H3,I4,qn⟩
 .refine fI hp (thn (T.item X rfl rfl rfl hc i pins s3 aa H3 X.xe I3 (U ad) ac go) λr s4 ⟨u,hr,h4⟩=>?_);subst hr;refine fI hp (thn h4 λ_ s5 ⟨x,H5,I5,r5,y5,ab,ag⟩=>?_);have ah:=I5.pinned (U ag) (T.obj _ _ ab);refine fI hp (thn (hg _ s5 aa H5 x u _ ah r5 (step x H5 y5)) λ_ s6 ⟨ai,H6,I6,q6⟩=>?_);refine fI hp (thn (hb _ s6 ai H6 _ I6 q6) λf s7 M=>?_);have Y:∀{z:St}{F:Hp},Inv X (pins++JA fp s5.heap) z F s7->N z F->∃m,m<n/\∃i Z H',Inv X pins Z H' s7/\tn i s7.heap/\(∀b∈fp,H' b=none)/\W i m Z H':=λ{z F} G n7=>by
   obtain⟨m',hm,w7⟩:=hN z F n7;refine⟨m',hm,i+1,z,F,G.unpinned,T.keep _ _ _ ab λb hb o e=>(G.pin (b,o) (bJ _ (bJ _ (Yh hb e)))).1,λb hb=>?_,w7⟩;obtain⟨o,e,d⟩:=T.obj _ _ ab b hb;exact(G.pin (b,o) (bJ _ (bJ _ (Yh hb e)))).2.1
  cases f with
  | next=>obtain⟨z,F,G,n7⟩:=M;exact Y G n7
  | cont=>obtain⟨z,F,G,n7⟩:=M;exact Y G n7
  | brk=>obtain⟨z,F,G,M⟩:=M;exact⟨z,F,G.unpinned,M⟩
  | ret v=>obtain⟨x7,z,F,G,r7,M⟩:=M;exact⟨x7,z,F,G.unpinned,r7,M⟩
theorem ZX{K:Fg}{a:Addr}{xs:List V}{g:TG}{tb:TS}{D:Ends}{σ:St}{H:Hp}(Pv:Nat->St->Hp->Prop)(h0:Pv 0 σ H)(hl:∀i σ H,i<=xs.length->Pv i σ H->SqL K H a xs)
 (hs:∀i x σ H,xs[i]?=some x->Pv i σ H->g x σ H λσ2 H2=>tb { D with nx:=Pv (i+1),ct:=Pv (i+1),bk:=D.nx } σ2 H2) (hd:∀σ H,Pv xs.length σ H->D.nx σ H):
 ∃W:Nat->Nat->St->Hp->Prop,(∃m,W 0 m σ H)/\∀i m σ H,W i m σ H->
  ((Itl K a).stop i H/\D.nx σ H)\/((Itl K a).go i H/\∃N:St->Hp->Prop,(∀σ' H',N σ' H'->∃m',m'<m/\W (i+1) m' σ' H')/\∀x H',(Itl K a).yld i H x H'->g x σ H' λσ2 H2=>tb { D with nx:=N,ct:=N,bk:=D.nx } σ2 H2):=by
 refine⟨λi m σ H=>m=xs.length-i/\i<=xs.length/\Pv i σ H,⟨xs.length,by simp,bK _,h0⟩,?_⟩;rintro i m σ H ⟨rfl,hi,p⟩;have q:=hl i σ H hi p
 by_cases z:i<xs.length
 .refine .inr ⟨⟨xs,xs[i],q,by simp [z]⟩,Pv (i+1),λσ' H' F=>⟨xs.length-(i+1),by lia,rfl,z,F⟩,λx H' y=>?_⟩;obtain⟨e,y⟩:=y;subst e;exact hs i x σ _ (y xs q) p
 .have e:i=xs.length:=by lia
  subst e;exact .inl ⟨⟨xs,q,bB _⟩,hd σ H p⟩
theorem YB{K:Fg}{a:Addr}{xs:List V}{g:TG}{tb:TS}{D:Ends}{σ:St}{H:Hp}(Pv:Nat->St->Hp->Prop)(h0:Pv 0 σ H)(hl:∀i σ H,i<=xs.length->Pv i σ H->SqT K H a xs)
 (hs:∀i x σ H,xs[i]?=some x->Pv i σ H->g x σ H λσ2 H2=>tb { D with nx:=Pv (i+1),ct:=Pv (i+1),bk:=D.nx } σ2 H2) (hd:∀σ H,Pv xs.length σ H->D.nx σ H):
 ∃W:Nat->Nat->St->Hp->Prop,(∃m,W 0 m σ H)/\∀i m σ H,W i m σ H->
  ((Itt K a).stop i H/\D.nx σ H)\/((Itt K a).go i H/\∃N:St->Hp->Prop,(∀σ' H',N σ' H'->∃m',m'<m/\W (i+1) m' σ' H')/\∀x H',(Itt K a).yld i H x H'->g x σ H' λσ2 H2=>tb { D with nx:=N,ct:=N,bk:=D.nx } σ2 H2):=by
 refine⟨λi m σ H=>m=xs.length-i/\i<=xs.length/\Pv i σ H,⟨xs.length,by simp,bK _,h0⟩,?_⟩;rintro i m σ H ⟨rfl,hi,p⟩;have q:=hl i σ H hi p
 by_cases z:i<xs.length
 .refine .inr ⟨⟨xs,xs[i],q,by simp [z]⟩,Pv (i+1),λσ' H' F=>⟨xs.length-(i+1),by lia,rfl,z,F⟩,λx H' y=>?_⟩;obtain⟨e,y⟩:=y;subst e;exact hs i x σ _ (y xs q) p
 .have e:i=xs.length:=by lia
  subst e;exact .inl ⟨⟨xs,q,bB _⟩,hd σ H p⟩
theorem Zc{lo:Int}{n:Nat}{g:TG}{tb:TS}{D:Ends}{σ:St}{H:Hp}(Pv:Nat->St->Hp->Prop)(h0:Pv 0 σ H)
 (hs:∀i σ H,i<n->Pv i σ H->g (.int (lo+i)) σ H λσ2 H2=>tb { D with nx:=Pv (i+1),ct:=Pv (i+1),bk:=D.nx } σ2 H2) (hd:∀σ H,Pv n σ H->D.nx σ H):
 ∃W:Nat->Nat->St->Hp->Prop,(∃m,W 0 m σ H)/\∀i m σ H,W i m σ H->
  ((Itr lo n).stop i H/\D.nx σ H)\/((Itr lo n).go i H/\∃N:St->Hp->Prop,(∀σ' H',N σ' H'->∃m',m'<m/\W (i+1) m' σ' H')/\∀x H',(Itr lo n).yld i H x H'->g x σ H' λσ2 H2=>tb { D with nx:=N,ct:=N,bk:=D.nx } σ2 H2):=by
 refine⟨λi m σ H=>m=n-i/\i<=n/\Pv i σ H,⟨n,by simp,bK _,h0⟩,?_⟩;rintro i m σ H ⟨rfl,hi,p⟩
 by_cases z:i<n
 .refine .inr ⟨z,Pv (i+1),λσ' H' F=>⟨n-(i+1),by lia,rfl,z,F⟩,λx H' y=>?_⟩;obtain⟨e,y⟩:=y;subst e y;exact hs i σ _ z p
 .have e:i=n:=by lia
  subst e;exact .inl ⟨bB _,hd σ H p⟩
abbrev R2:=V->V->Hp->VK->Prop
def OpR(X:Cx)(f:Value->Value->Sem Value)(r:R2):Prop:=
 ∀(pins:List (8:))(s:Shared)(σ:St)(H:Hp)(x y:V)(v u:Value)(Q:VK),Inv X pins σ H s->RelV x v->RelV y u->r x y H Q->
  wpAny (6:) X.A (f v u) (EP X pins σ Q) X.xe s
def UnR(X:Cx)(f:Value->Sem Value)(r:V->Hp->VK->Prop):Prop:=
 ∀(pins:List (8:))(s:Shared)(σ:St)(H:Hp)(x:V)(v:Value)(Q:VK),Inv X pins σ H s->RelV x v->r x H Q->
  wpAny (6:) X.A (f v) (EP X pins σ Q) X.xe s
def ZK(X:Cx)(f:Value)(r:List V->Hp->VK->Prop):Prop:=
 ∀(pins:List (8:))(s:Shared)(σ:St)(H:Hp)(xs:List V)(us:List Value)(Q:VK),Inv X pins σ H s->Vals xs us->r xs H Q->
  wpAny (6:) X.A (call f us) (EP X pins σ Q) X.xe s
def tOp(r:R2)(ta tb:TE):TE:=λσ H Q=>ta σ H λx H1=>tb σ H1 λy H2=>r x y H2 Q
def tUn(r:V->Hp->VK->Prop)(ta:TE):TE:=λσ H Q=>ta σ H λx H1=>r x H1 Q
def rI(C:Int->Int->Prop)(g:Int->Int->V):R2:=λx y H Q=>∃i j,x=.int i/\y=.int j/\C i j/\Q (g i j) H
def rI0(g:Int->Int->V):R2:=λx y H Q=>∃i j,x=.int i/\y=.int j/\Q (g i j) H
def rU(g:Int->V):V->Hp->VK->Prop:=λx H Q=>∃i,x=.int i/\Q (g i) H
section
variable{a b c:Expr}{tb tc:TE}
theorem PV(ha:PE X a ta)(hb:PE X b tb){pins:List (8:)}{σ:St}{R:V->V->Hp->Prop}(I:Inv X pins σ H s)
 (h:ta σ H λx H1=>tb σ H1 λy H2=>R x y H2)  {f:Value->Value->Sem Value}
 (hf:∀v u s2 x y H2,Inv X pins σ H2 s2->RelV x v->RelV y u->R x y H2->wpAny (6:) X.A (f v u) Q X.xe s2):
 wpAny (6:) X.A (eval a X.env) (λv s₁=>wpAny (6:) X.A (eval b X.env) (λu s₂=>wpAny (6:) X.A (f v u) Q X.xe s₂) X.xe s₁) X.xe s:=by
 refine thn (ha pins s σ H _ I h) λv z ⟨x,H1,D,F,G⟩=>?_;refine thn (hb pins z σ H1 _ D G) λu s2 ⟨y,H2,J,M,U⟩=>?_;exact hf v u s2 x y H2 J F M U
theorem Qo{op:Operator}{r:R2}(ho:OpR X (binaryOp op) r)(ha:PE X a ta)(hb:PE X b tb):PE X (.BinOp a op b pos) (tOp r ta tb):=by
 intro pins s σ H Q I h;exact wpAny_BinOp (PV ha hb I h λv u z x y H2 D F G q=>ho pins z σ H2 x y v u Q D F G q)
theorem SG{op:UnaryOp}{r:V->Hp->VK->Prop}(ho:UnR X (unaryOp op) r)(ha:PE X a ta):PE X (.UnaryOp op a pos) (tUn r ta):=by
 intro pins s σ H Q I h;exact UnaryOp_ (thn (ha pins s σ H _ I h) λv z ⟨x,H1,D,F,G⟩=>ho pins z σ H1 x v Q D F G)
theorem opI{f:Value->Value->Sem Value}{C:Int->Int->Prop}{g:Int->Int->Int}
 (rule:∀(i j:Int)(t u:Tok)(s:Shared)(Q:Value->Shared->Prop)(E:Value->Shared->Prop),C i j->Q (.int (g i j) s.toks) { s with toks:=s.toks+1 }->wpAny (6:) X.A (f (.int i t) (.int j u)) Q E s):
 OpR X f (rI C λi j=>.int (g i j)):=by
 intro pins s σ H x y v u Q I z D h;obtain⟨i,j,rfl,rfl,F,q⟩:=h;obtain⟨t,rfl⟩:=z;obtain⟨G,rfl⟩:=D;exact rule i j t G s _ _ F ⟨.int (g i j),H,I.tok _,⟨_,rfl⟩,q⟩
theorem SB{f:Value->Value->Sem Value}{g:Int->Int->Int}
 (rule:∀(i j:Int)(t u:Tok)(s:Shared)(Q:Value->Shared->Prop)(E:Value->Shared->Prop),Q (.int (g i j) s.toks) { s with toks:=s.toks+1 }->wpAny (6:) X.A (f (.int i t) (.int j u)) Q E s):
 OpR X f (rI0 λi j=>.int (g i j)):=by
 intro pins s σ H x y v u Q I z D h;obtain⟨i,j,rfl,rfl,q⟩:=h;obtain⟨t,rfl⟩:=z;obtain⟨F,rfl⟩:=D;exact rule i j t F s _ _ ⟨.int (g i j),H,I.tok _,⟨_,rfl⟩,q⟩
theorem P9{f:Value->Value->Sem Value}{g:Int->Int->Bool}
 (rule:∀(i j:Int)(t u:Tok)(s:Shared)(Q:Value->Shared->Prop)(E:Value->Shared->Prop),Q (.bool (g i j)) s->wpAny (6:) X.A (f (.int i t) (.int j u)) Q E s):
 OpR X f (rI0 λi j=>.bl (g i j)):=by
 intro pins s σ H x y v u Q I z D h;obtain⟨i,j,rfl,rfl,q⟩:=h;obtain⟨t,rfl⟩:=z;obtain⟨F,rfl⟩:=D;exact rule i j t F s _ _ ⟨.bl (g i j),H,I,rfl,q⟩
def Tv(i j:Int):Prop:=0<j/\j<1073741824
def Tl(i j:Int):Prop:=0<=j/\j<=1000000/\i.natAbs<2^64
def CMul(i j:Int):Prop:=(-(2^64)<i/\i<2^64)\/(-(2^64)<j/\j<2^64)
theorem CMul.ok{i j:Int}(h:CMul i j):IntMulOk i j:=by
 rcases h with⟨h1,h2⟩ | ⟨h1,h2⟩
 .exact .of_left (intBits_le_64 h1 h2)
 .exact .of_right (intBits_le_64 h1 h2)
theorem QI:OpR X (binaryOp .Add) (rI0 λi j=>.int (i+j)):=SB λ_ _ _ _ _ _ _ q=>add_int q
theorem Ye:OpR X (binaryOp .Sub) (rI0 λi j=>.int (i-j)):=SB λ_ _ _ _ _ _ _ q=>sub_int q
theorem Yd:OpR X (binaryOp .Mult) (rI CMul λi j=>.int (i*j)):=opI λ_ _ _ _ _ _ _ z q=>mul_int q z.ok
theorem Q6:OpR X (binaryOp .FloorDiv) (rI Tv λi j=>.int (i/j)):=opI λi j _ _ _ _ _ z q=>by
 have h1:(0:Int)<j:=z.1;have h2:j<1073741824:=z.2;exact floordiv_int (7:) (by rw [Int.fdiv_eq_ediv_of_nonneg i (7:)];exact q) (.inl (PyProof.noPylong_small (7:)))
theorem QB:OpR X (binaryOp .Mod) (rI (λ_ j=>0<j) λi j=>.int (i%j)):=opI λi j _ _ _ _ _ z q=>by
 have h1:(0:Int)<j:=z;exact mod_int' (7:) (by rw [Int.fmod_eq_emod_of_nonneg i (7:)];exact q)
theorem Nf:OpR X (binaryOp .Pow) (rI Tl λi j=>.int (i^j.toNat)):=opI λ_ _ _ _ _ _ _ z q=>pow_int_small z.1 z.2.1 z.2.2 q
theorem unI{f:Value->Sem Value}{g:Int->Int}
 (rule:∀(i:Int)(t:Tok)(s:Shared)(Q:Value->Shared->Prop)(E:Value->Shared->Prop),Q (.int (g i) s.toks) { s with toks:=s.toks+1 }->wpAny (6:) X.A (f (.int i t)) Q E s):
 UnR X f (rU λi=>.int (g i)):=by
 intro pins s σ H x v Q I z h;obtain⟨i,rfl,q⟩:=h;obtain⟨t,rfl⟩:=z;exact rule i t s _ _ ⟨.int (g i),H,I.tok _,⟨_,rfl⟩,q⟩
theorem R0:UnR X (unaryOp .USub) (rU λi=>.int (-i)):=unI λ_ _ _ _ _ q=>neg_int q
end
def Su:V->V->Bool
 | .non,.non=>true | .non,.int _=>true | .int _,.non=>true | .non,.bl _=>true | .bl _,.non=>true | .non,.str _=>true | .str _,.non=>true
 | .int _,.int _=>true | .bl _,.bl _=>true | .str _,.str _=>true | .byt _,.byt _=>true
 | .int _,.str _=>true | .str _,.int _=>true | .bl _,.str _=>true | .str _,.bl _=>true
 | _,_=>false
def rEq:R2:=λx y H Q=>Su x y=true/\Q (.bl (decide (x=y))) H
def rNe:R2:=λx y H Q=>Su x y=true/\Q (.bl (!decide (x=y))) H
theorem Go{i j:Int}:decide (V.int i=V.int j)=(i==j):=by
 rw [gP];simp
theorem MK{i j:Bool}:decide (V.bl i=V.bl j)=(i==j):=by
 rw [gP];simp
theorem GA{i j:Str}:decide (V.str i=V.str j)=(i==j):=by
 rw [gP];simp
theorem V5{i j:Array UInt8}:decide (V.byt i=V.byt j)=(i.toList==j.toList):=by
 rw [gP];cases i;cases j;simp
section
variable{a b c:Expr}{tb tc:TE}
theorem QF{pins:List (8:)}{σ:St}{Q:VK}{k k':Bool}(I:Inv X pins σ H s)(q:Q (.bl k) H)(e:k=k'):EP X pins σ Q (.bool k') s:=by
 subst e;exact⟨.bl k,H,I,rfl,q⟩
theorem Yj:OpR X (compareOp .Eq) rEq:=by
 intro pins s σ H x y v u Q I G z h;obtain⟨F,q⟩:=h;cases x with
 | non=>
  cases G;cases y with
  | non=>cases z;exact PySem.EqNone.eq_none_none (QF I q (14:))
  | bl j=>cases z;exact PySem.EqNone.eq_none_bool (QF I q (14:))
  | int j=>obtain⟨D,rfl⟩:=z;exact PySem.EqNone.eq_none_int (QF I q (14:))
  | str j=>obtain⟨D,rfl⟩:=z;exact PySem.EqNone.eq_none_str (QF I q (14:))
  | _=>exact absurd (show false=true from F) aW
 | bl i=>
  cases G;cases y with
  | non=>cases z;exact PySem.EqNone.eq_bool_none (QF I q (14:))
  | bl j=>cases z;exact eq_bool (QF I q MK)
  | str j=>obtain⟨D,rfl⟩:=z;exact PySem.EqMixed.eq_bool_str (QF I q (14:))
  | _=>exact absurd (show false=true from F) aW
 | int i=>
  obtain⟨t,rfl⟩:=G;cases y with
  | non=>cases z;exact PySem.EqNone.eq_int_none (QF I q (14:))
  | int j=>obtain⟨D,rfl⟩:=z;exact eq_int (QF I q Go)
  | str j=>obtain⟨D,rfl⟩:=z;exact PySem.EqMixed.eq_int_str (QF I q (14:))
  | _=>exact absurd (show false=true from F) aW
 | str i=>
  obtain⟨t,rfl⟩:=G;cases y with
  | non=>cases z;exact PySem.EqNone.eq_str_none (QF I q (14:))
  | bl j=>cases z;exact PySem.EqMixed.eq_str_bool (QF I q (14:))
  | int j=>obtain⟨D,rfl⟩:=z;exact PySem.EqMixed.eq_str_int (QF I q (14:))
  | str j=>obtain⟨D,rfl⟩:=z;exact eq_str (QF I q GA)
  | _=>exact absurd (show false=true from F) aW
 | byt i=>
  obtain⟨t,rfl⟩:=G;cases y with
  | byt j=>obtain⟨D,rfl⟩:=z;exact PySem.W.eq_bytes (QF I q V5)
  | _=>exact absurd (show false=true from F) aW
 | _=>cases y<;>exact absurd (show false=true from F) aW
theorem Pc:OpR X (compareOp .NotEq) rNe:=by
 intro pins s σ H x y v u Q I G z h;obtain⟨F,q⟩:=h;cases x with
 | non=>
  cases G;cases y with
  | non=>cases z;exact PySem.EqNone.ne_none_none (QF I q (14:))
  | bl j=>cases z;exact PySem.EqNone.ne_none_bool (QF I q (14:))
  | int j=>obtain⟨D,rfl⟩:=z;exact PySem.EqNone.ne_none_int (QF I q (14:))
  | str j=>obtain⟨D,rfl⟩:=z;exact PySem.EqNone.ne_none_str (QF I q (14:))
  | _=>exact absurd (show false=true from F) aW
 | bl i=>
  cases G;cases y with
  | non=>cases z;exact PySem.EqNone.ne_bool_none (QF I q (14:))
  | bl j=>cases z;exact ne_bool (QF I q (congrArg not MK))
  | str j=>obtain⟨D,rfl⟩:=z;exact PySem.EqMixed.ne_bool_str (QF I q (14:))
  | _=>exact absurd (show false=true from F) aW
 | int i=>
  obtain⟨t,rfl⟩:=G;cases y with
  | non=>cases z;exact PySem.EqNone.ne_int_none (QF I q (14:))
  | int j=>obtain⟨D,rfl⟩:=z;exact ne_int (QF I q (congrArg not Go))
  | str j=>obtain⟨D,rfl⟩:=z;exact PySem.EqMixed.ne_int_str (QF I q (14:))
  | _=>exact absurd (show false=true from F) aW
 | str i=>
  obtain⟨t,rfl⟩:=G;cases y with
  | non=>cases z;exact PySem.EqNone.ne_str_none (QF I q (14:))
  | bl j=>cases z;exact PySem.EqMixed.ne_str_bool (QF I q (14:))
  | int j=>obtain⟨D,rfl⟩:=z;exact PySem.EqMixed.ne_str_int (QF I q (14:))
  | str j=>obtain⟨D,rfl⟩:=z;exact ne_str (QF I q (congrArg not GA))
  | _=>exact absurd (show false=true from F) aW
 | byt i=>
  obtain⟨t,rfl⟩:=G;cases y with
  | byt j=>obtain⟨D,rfl⟩:=z;exact PySem.W.ne_bytes (QF I q (congrArg not V5))
  | _=>exact absurd (show false=true from F) aW
 | _=>cases y<;>exact absurd (show false=true from F) aW
theorem GQ:OpR X (compareOp .Lt) (rI0 λi j=>.bl (decide (i<j))):=P9 λ_ _ _ _ _ _ _ q=>lt_int q
theorem Vd:OpR X (compareOp .LtE) (rI0 λi j=>.bl (decide (i<=j))):=P9 λ_ _ _ _ _ _ _ q=>le_int q
theorem Xa:OpR X (compareOp .Gt) (rI0 λi j=>.bl (decide (j<i))):=P9 λ_ _ _ _ _ _ _ q=>gt_int q
theorem Na:OpR X (compareOp .Is) (λx y H Q=>y=.non/\Q (.bl (decide (x=.non))) H):=by
 intro pins s σ H x y v u Q I z D h;obtain⟨rfl,q⟩:=h;cases D;refine is_none_gen (QF I q ?_);cases x<;>first
  | (cases z;rfl)
  | (obtain⟨t,rfl⟩:=z;rfl)
theorem Qy(b:Expr)(h:op≠.In:=by decide)(h2:op≠.NotIn:=by decide):behindInMarks op b=false:=by
 have e1:(op==CmpOp.In)=false:=by cases op<;>first | rfl | exact absurd rfl h
 have e2:(op==CmpOp.NotIn)=false:=by cases op<;>first | rfl | exact absurd rfl h2
 cases b<;>simp [behindInMarks,e1,e2]
theorem Yi{r:R2}(ho:OpR X (compareOp op) r)(ha:PE X a ta)(hb:PE X b tb)(hm:behindInMarks op b=false):PE X (.Compare a [op] [b] pos) (tOp r ta tb):=by
 intro pins s σ H Q I h;exact wpAny_Compare1 (PV ha hb I h λv u z x y H2 D F G q=>ho pins z σ H2 x y v u Q D F G q) hm
def SA(t:TE):TT:=λσ H Q=>t σ H λx H'=>∃k,x=.bl k/\Q k H'
theorem Qx{op:CmpOp}{r:R2}(ho:OpR X (compareOp op) r)(ha:PE X a ta)(hb:PE X b tb)(hm:behindInMarks op b=false):PT X (.Compare a [op] [b] pos) (SA (tOp r ta tb)):=by
 intro pins s σ H Q I h;refine wpAny_isTrue_Compare1 (thn (ha pins s σ H _ I h) λv D ⟨x,H1,F,G,J⟩=>thn (hb pins D σ H1 _ F J) λu M ⟨y,H2,U,Y,Z⟩=>
  thn (ho pins M σ H2 x y v u _ U G Y Z) λc s3 ⟨z,H3,I3,r3,k,e,q3⟩=>?_) hm
 subst e;cases r3;exact eE ⟨H3,I3,q3⟩
def Rv(r r':R2)(ta tb tc:TE):TE:=λσ H Q=>ta σ H λx H1=>tb σ H1 λy H2=>r x y H2 λz H3=>∃k,z=.bl k/\
 (if k=true then tc σ H3 λw' H4=>r' y w' H4 Q else Q (.bl false) H3)
theorem MZ{op':CmpOp}{r r':R2}(ho:OpR X (compareOp op) r)(ho':OpR X (compareOp op') r')(ha:PE X a ta)(hb:PE X b tb)(hc:PE X c tc)
 (hm:lastMarks [op,op'] [b,c]=false:=by with_unfolding_all rfl):PE X (.Compare a [op,op'] [b,c] pos) (Rv r r' ta tb tc):=by
 intro pins s σ H Q I h;refine Compare_chain (thn (ha pins s σ H _ I h) λv M ⟨x,H1,U,Y,Z⟩=>chain_link (thn (hb pins M σ H1 _ U Z) λu s2 ⟨y,H2,I2,D,q2⟩=>
  thn (ho pins s2 σ H2 x y v u _ I2 Y D q2) λd s3 ⟨z,F,G,r3,k,e,J⟩=>?_)) hm
 subst e;cases r3;refine eE ?_;cases k with
 | false=>exact ite_ff ⟨.bl false,F,G,rfl,J⟩
 | true=>exact ite_tt (chain_last (thn (hc pins s3 σ F _ G J) λw' s4 ⟨z',H4,I4,r4,q4⟩=>ho' pins s4 σ H4 y z' u w' Q I4 D r4 q4))
theorem UW:(sizeLine:Nat)<2^63:=by rw [cU];decide
theorem GJ{x:V}{us:List Value}(r:Vals [x] us):∃u,us=[u]/\RelV x u:=by
 cases r with
 | cons z D=>cases D;exact⟨_,rfl,z⟩
theorem GM{x:V}{us:List Value}(r:Vals [x,y] us):∃u w',us=[u,w']/\RelV x u/\RelV y w':=by
 cases r with
 | cons z D=>
  cases D with
  | cons F G=>cases G;exact⟨_,_,rfl,z,F⟩
theorem Xb(hz:X.A.handled=none):ZK X (.builtin "max") (λxs H Q=>∃i j,xs=[.int i,.int j]/\Q (.int (if j>i then j else i)) H):=by
 intro pins s σ H xs D Q I r h;obtain⟨i,j,rfl,q⟩:=h;obtain⟨u,F,rfl,⟨t,rfl⟩,⟨G,rfl⟩⟩:=GM r;refine max_two_ints hz λh' tk k=>⟨_,H,I.kept k,?_,q⟩
 by_cases z:j>i
 .rw [aE z,aE z];exact⟨_,rfl⟩
 .rw [aF z,aF z];exact⟨_,rfl⟩
theorem Lf(hz:X.A.handled=none):ZK X (.builtin "min") (λxs H Q=>∃i j,xs=[.int i,.int j]/\Q (.int (if j<i then j else i)) H):=by
 intro pins s σ H xs D Q I r h;obtain⟨i,j,rfl,q⟩:=h;obtain⟨u,F,rfl,⟨t,rfl⟩,⟨G,rfl⟩⟩:=GM r;refine min_two_ints hz λh' tk k=>⟨_,H,I.kept k,?_,q⟩
 by_cases z:j<i
 .rw [aE z,aE z];exact⟨_,rfl⟩
 .rw [aF z,aF z];exact⟨_,rfl⟩
theorem J7:ZK X (.type "int") (λxs H Q=>(∃i,xs=[.int i]/\Q (.int i) H)\/∃k,xs=[.bl k]/\Q (.int (if k then 1 else 0)) H):=by
 intro pins s σ H xs D Q I r h;rcases h with⟨i,rfl,q⟩ | ⟨k,rfl,q⟩
 .obtain⟨u,rfl,t,rfl⟩:=GJ r;exact call_int_int ⟨.int i,H,I,⟨_,rfl⟩,q⟩
 .obtain⟨u,rfl,z⟩:=GJ r;cases z;exact call_int_bool ⟨.int (if k then 1 else 0),H,I.tok _,⟨_,rfl⟩,q⟩
end
structure ObjM(h:Heap)(x dx C:Addr)(mA:Str->Option Value):Prop where
 obj:h.get? x=some (PySem.W.instObj C dx)
 ns:h.Ns1 dx mA
 ne:dx≠x
theorem Ly{h:Heap}(n:h.Ns1 dx mA):∃od,h.get? dx=some od/\∀name,PySem.W.lookIn name od=some (mA name):=by
 obtain⟨o,es,Y,F,hd,G,_,J⟩:=n;refine⟨o,F,λname=>?_⟩;have e:=J name;unfold nsFind findBy at e;rw [<-Array.find?_toList]at e;unfold PySem.W.lookIn;rw [hd];dsimp only;split
 .rename_i y q;rw [q]at e;exact congrArg some e
 .rename_i q;rw [q]at e;have a:es.toList.any (·.refKey)=false:=by
   rw [List.any_eq_false];intro y M;obtain⟨z,t,D⟩:=G y (Array.mem_toList_iff.mp M);simp [DictEntry.refKey,D]
  have U:¬es.toList.any (·.refKey)=true:=by rw [a];exact aW
  rw [aF U];exact congrArg some e
theorem ObjM.look{h:Heap}{x:Addr}(I:ObjM h x dx C mA):∃od,PySem.W.InstAt h x (PySem.W.instObj C dx) C (some od)/\∀name,PySem.W.lookIn name od=some (mA name):=
 let⟨od,z,D⟩:=Ly I.ns
 ⟨od,⟨I.obj,rfl,rfl,z⟩,D⟩
section
variable{K:Fg}{x:Addr}
end
theorem RelO.some_of{v:V}{o:Option Value}(r:RelO (some v) o):∃u,o=some u/\RelV v u:=by
 cases o with
 | none=>exact(show False from r).elim
 | some u=>exact⟨u,rfl,r⟩
section
variable{h:Heap}{fs fs':List (Str×V)}
theorem OP(hok:HOk P w H h)(e:H a=some (.ins C dx fs)):∃mA,ObjM h a dx C mA/\(∀f,RelO (fs.lookup f) (mA f))/\PySem.Within mA (fs.map (·.1))/\fs.length<=1000/\H dx=some (.own a):=by
 obtain⟨d,z,ne,D,mA,n,r,q⟩:=(show ObjOk P w H h a (.ins C dx fs)from hok a _ e);exact⟨mA,⟨D,n,ne⟩,r,q,z,d⟩
end
structure Cls(K:Fg)(C:Addr):Prop where
 pg:PySem.W.plainGet K C Str.empty=true
 hd:PySem.W.hasDictIn K C=true
 po:PySem.W.plainOver K C=true
 sa:PySem.W.findIn K (.ref C) "__setattr__"=some (some (.builtin "object.__setattr__"))
theorem Cls.get{K:Fg}(c:Cls K C)(f:Str):PySem.W.plainGet K C f=true:=c.pg
section
variable{pins:List (8:)}{σ:St}{fs:List (Str×V)}{f:Str}{v:V}
end
section
variable{o:Expr}{f:Str}
end
section
variable{pins:List (8:)}{σ:St}{b:Bool}
inductive TyOf(K:Fg)(H:Hp):V->Value->Prop where
 | non:TyOf K H .non (.type "NoneType")
 | bl (x:Bool):TyOf K H (.bl x) (.type "bool")
 | int (i:Int):TyOf K H (.int i) (.type "int")
 | str (x:Str):TyOf K H (.str x) (.type "str")
 | flt (x:UInt64):TyOf K H (.flt x) (.type "float")
 | lst {a:Addr} {xs:List V} (e:H a=some (.lst xs)):TyOf K H (.ref a) (.type "list")
 | frz {a:Addr} {o:Obj} {xs:List V} (e:H a=some (.frz o (.lst xs))):TyOf K H (.ref a) (.type "list")
 | tup {a:Addr} {xs:List V} (e:H a=some (.tup xs)):TyOf K H (.ref a) (.type "tuple")
 | dK {a:Addr} {kvs:List (Key×V)} (e:H a=some (.dK kvs)):TyOf K H (.ref a) (.type "dict")
 | dT {a:Addr} {kvs:List (List Key×V)} (e:H a=some (.dT kvs)):TyOf K H (.ref a) (.type "dict")
 | ins {a C dx:Addr} {fs:List (Str×V)} (e:H a=some (.ins C dx fs)) (cl:Cls K C) (ha:PySem.W.findIn K (.ref C) "__class__"=some (some (.builtin "object.__class__")))
  (hn:PySem.W.specialIn K (.builtin "object.__class__") "__get__"=some (some (.builtin "getset_descriptor.__get__"))) (htk:PySem.W.takesIn K (.builtin "object.__class__")=some true)
  (hm:PySem.W.mroIn K C (.type "object")=some true):TyOf K H (.ref a) (.ref C)
theorem GW{x:V}{t:Value}(I:Inv X pins σ H s)(rx:RelV x u)(ty:TyOf X.K H x t)(e:PySem.W.kitOne X.K t c=some b)(h:∀tk,Q (.bool b) { s with toks:=tk }):
 wpAny (6:) A (call (.builtin "isinstance") [u,c]) Q E s:=by
 cases ty with
 | non=>cases (show u=Value.none from rx);exact cW PySem.W.kitx_none I.kIn dF e (λz=>nomatch z) h
 | bl y=>cases (show u=Value.bool y from rx);exact cW PySem.W.kitx_bool I.kIn dF e (λz=>nomatch z) h
 | int i=>obtain⟨t,q⟩:=(show ∃t,u=Value.int i t from rx);cases q;exact cW PySem.W.kitx_int I.kIn dF e (λz=>nomatch z) h
 | str y=>obtain⟨t,q⟩:=(show ∃t,u=Value.str y t from rx);cases q;exact cW PySem.W.kitx_str I.kIn dF e (λz=>nomatch z) h
 | flt y=>obtain⟨t,q⟩:=(show ∃t,u=Value.float y t from rx);cases q;exact cW PySem.W.kitx_float I.kIn dF e (λz=>nomatch z) h
 | @lst a xs D=>
  cases (show u=Value.ref a from rx);obtain⟨_,_,n,_,h1⟩:=(show ObjOk X.prog X.w H s.heap a (.lst xs)from I.hok a _ D);exact cW PySem.W.kitx_list I.kIn ⟨_,h1,rfl⟩ e (λz=>nomatch z) h
 | @frz a G xs D=>
  cases (show u=Value.ref a from rx);obtain⟨_,_,_,n,_,h1⟩:=(show ObjOk X.prog X.w H s.heap a (.frz G (.lst xs))from I.hok a _ D);exact cW PySem.W.kitx_list I.kIn ⟨_,h1,rfl⟩ e (λz=>nomatch z) h
 | @tup a xs D=>
  cases (show u=Value.ref a from rx);obtain⟨_,_,_,p⟩:=(show ObjOk X.prog X.w H s.heap a (.tup xs)from I.hok a _ D);obtain⟨o,h1,h2,_⟩:=p;exact cW PySem.W.kitx_tuple I.kIn ⟨o,h1,h2⟩ e (λz=>nomatch z) h
 | @dK a kvs D=>
  cases (show u=Value.ref a from rx);obtain⟨_,_,vs,_,p⟩:=(show ObjOk X.prog X.w H s.heap a (.dK kvs)from I.hok a _ D);obtain⟨o,es,M,h1,h2,_⟩:=p;exact cW PySem.W.kitx_dict I.kIn ⟨o,h1,h2.1⟩ e (λz=>nomatch z) h
 | @dT a kvs D=>
  cases (show u=Value.ref a from rx);obtain⟨_,_,xs,_,o,es,M,h1,h2,_⟩:=(show ObjOk X.prog X.w H s.heap a (.dT kvs)from I.hok a _ D);exact cW PySem.W.kitx_dict I.kIn ⟨o,h1,h2.1⟩ e (λz=>nomatch z) h
 | @ins a C dx fs D cl U Y F Z=>
  cases (show u=Value.ref a from rx);obtain⟨mA,O,_⟩:=OP I.hok D;obtain⟨od,J,_⟩:=O.look;exact cW (PySem.W.kitx_own (cl.get _) cl.hd U Y F Z) I.kIn J e (λz=>nomatch z) h
end
def HdR(ρ:Option Heap)(A:Around):Prop:=match ρ with
 | none=>A.handled=none
 | some b=>Hd b A
abbrev rm(soft:Bool)(base:Heap):Option Heap:=cond soft (some base) none
structure Room(k:Nat)(A:Around)(ρ:Option Heap:=none):Prop where
 hd:HdR ρ A
 dp:A.depth+3*k+5<recursionLimit
 un:A.units+16*k+200<cLine
theorem Room.mono{k:Nat}(r:Room k A ρ)(h:j<=k):Room j A ρ:=⟨r.hd,by have:=r.dp;lia,by have:=r.un;lia⟩
theorem Room.deeper{k:Nat}(r:Room (k+1) A ρ)(env:Env):Room k (A.deeper env) ρ:=
 ⟨r.hd,by have:=r.dp;show A.depth+1+3*k+5<_;lia,by have:=r.un;show A.units+3+16*k+200<_;lia⟩
theorem Room.h{k:Nat}{soft:Bool}(r:Room k A (rm soft base)):Hd base A:=by
 cases soft
 .exact .inl r.hd
 .exact r.hd
theorem Room.soft{k:Nat}(r:Room k A):Room k A (some base):=⟨.inl r.hd,r.dp,r.un⟩
theorem Room.depth{k:Nat}(r:Room k A ρ):A.depth<recursionLimit:=by have:=r.dp;lia
theorem Room.units{k:Nat}(r:Room k A ρ):A.units+64<cLine:=by have:=r.un;lia
def Vf:TA:=λ_ H Q=>Q [] H
def Zu(ta:TE)(tr:TA):TA:=λσ H Q=>ta σ H λx H1=>tr σ H1 λxs H2=>Q (x::xs) H2
section
variable{t:TA}
theorem Qc:PA X [] Vf:=λ_ _ _ _ H Q I h=>Calls.spliced_nil ⟨[],H,I,.nil,h⟩
theorem Qa(ha:PE X e te)(hr:PA X es t)(hs:starEach (e::es) X.env=(false,eval e X.env)::starEach es X.env:=by rfl):PA X (e::es) (Zu te t):=by
 intro pos pins s σ H Q I h;rw [hs];show wpAny _ _ (spliced ((false,eval e X.env)::backTo pos (starEach es X.env))) _ _ s;refine Calls.spliced_cons (thn (ha pins s σ H _ I h) λu z ⟨x,H1,D,F,G⟩=>?_);exact thn (hr pos pins z σ H1 _ D G) λY Z ⟨xs,H2,J,M,U⟩=>⟨x::xs,H2,J,.cons F M,U⟩
def Pl(t:TA):TE:=λσ H Q=>t σ H λxs H1=>xs.length<=sizeLine/\∀p,H1 p=none->Q (.ref p) (upd H1 p (.tup xs))
def Th(t:TA):TE:=λσ H Q=>t σ H λxs H1=>xs.length<=sizeLine/\∀p,H1 p=none->Q (.ref p) (upd H1 p (.lst xs))
theorem QE{x1}(h:PA X es t):PE X (.Tuple es x1 pos) (Pl t):=by
 intro pins s σ H Q I G;refine wpAny_Tuple_spliced (thn (h pos pins s σ H _ I G) λJ D ⟨xs,H1,F,r,z,q⟩=>⟨by rw [<-r.length];exact z,?_⟩);have M:H1 D.heap.objs.size=none:=F.hok.fresh (4:);refine⟨.ref D.heap.objs.size,upd H1 D.heap.objs.size (.tup xs),F.laid (t':=D.toks) (λb u e=>aG _ e) (4:) ?_,rfl,q _ M⟩;exact⟨z,J,r,⟨_,aQ _ rfl,rfl,_,rfl⟩⟩
theorem QH(h:PA X es t):PE X (.List es pos) (Th t):=by
 intro pins s σ H Q I G;refine wpAny_List_spliced (thn (h pos pins s σ H _ I G) λJ D ⟨xs,H1,F,r,z,q⟩=>⟨by rw [<-r.length];exact z,?_⟩);have M:H1 D.heap.objs.size=none:=F.hok.fresh (4:);refine⟨.ref D.heap.objs.size,upd H1 D.heap.objs.size (.lst xs),F.laid (t':=D.toks) (λb u e=>aG _ e) (4:) ?_,rfl,q _ M⟩;exact⟨z,J,0,r,aQ _ rfl⟩
end
abbrev Sp:=List V->Hp->VK->XK->Prop
abbrev CXT:=List Env->Hp->Shared->XK->Value->Shared->Prop
structure Env0(P:Program)(w:World)(K:Fg)(mg:Str->Option Value)(base:Heap)(A:Around)(outer:List Env)(s:Shared)(H:Hp):Prop where
 frames:A.frames=some outer
 mod:Mod K mg base
 bs:∀b o,base.get? b=some o->s.heap.get? b=some o/\H b=none
 bsz:base.objs.size<=s.heap.objs.size
 funs:s.heap.FunFrames base outer
 frf:∀b∈frs outer,H b=none
 hok:HOk P w H s.heap
 bare:AllBare s.gens
def CE(outer:List Env)(P:Program)(w:World)(H:Hp)(s:Shared)(Q:VK)(u:Value)(s':Shared):Prop:=
 ∃v H',s'.os=s.os/\AllBare s'.gens/\Un (frs outer) [] H H' s.heap s'.heap/\HOk P w H' s'.heap/\RelV v u/\Q v H'
def CR(CX:CXT)(outer:List Env)(P:Program)(w:World)(H:Hp)(s:Shared)(Q:VK)(E:XK)(r:Result)(s':Shared):Prop:=
 match r with
 | .ok (.ret u)=>CE outer P w H s Q u s'
 | .ok _=>False
 | .error e=>CX outer H s E e s'
structure FnOk(P:Program)(w:World)(K:Fg)(mg:Str->Option Value)(base:Heap)(CX:CXT)(k:Nat)(f:Addr)(fd:FuncData)(ps:List Str)(sp:Sp)(soft:Bool:=false):Prop where
 len:∀vs H Q E,sp vs H Q E->vs.length=ps.length
 run:∀(A:Around)(outer:List Env)(s:Shared)(H:Hp)(args:Args)(us:List Value)(vs:List V)(Q:VK)(E:XK),Room k A (rm soft base)->Env0 P w K mg base A outer s H->BindsTo s fd args (ps.zip us)->Vals vs us->sp vs H Q E->
  codeAny (model P w) A (.call (.ref f) args) (CR CX outer P w H s Q E) s
theorem FnOk.hard{K:Fg}{CX:CXT}{k:Nat}{sp:Sp}(F:FnOk P w K mg base CX k f fd ps sp true):FnOk P w K mg base CX k f fd ps sp:=⟨F.len,λA outer s H z D G Q E J=>F.run A outer s H z D G Q E J.soft⟩
section
variable{pins:List (8:)}{σ:St}
theorem Inv.env0(I:Inv X pins σ H s):Env0 X.prog X.w X.K X.mg X.base X.A X.stack s H:=
 ⟨I.ok.frames,I.ok.mod,I.bs,aY I.ok.bsz I.sz,I.stack,I.stkFree,I.hok,I.bare⟩
theorem Inv.after{Q:VK}(I:Inv X pins σ H s)(h:CE X.stack X.prog X.w H s Q u s'):EP X pins σ Q u s':=by
 obtain⟨v,H',G,bare,un,D,r,q⟩:=h;obtain⟨J,g,d,t,F⟩:=s';obtain rfl:F=s.os:=G;exact⟨v,H',I.call (h':=J) (g':=g) (d':=d) (t':=t) (ch:=[]) un D bare (λb z=>absurd z (14:)),r,q⟩
end
def J9(sp:Sp)(dvs:List V)(E:XK)(t:TA):TE:=λσ H Q=>t σ H λvs H1=>sp (vs++dvs) H1 Q E
def Binds(K:Fg)(fd:FuncData)(ps:List Str)(ds:List Value):Prop:=
 ∀(s:Shared)(us:List Value),K.In s.heap->(us++ds).length=ps.length->BindsTo s fd ⟨us,[]⟩ (ps.zip (us++ds))
theorem Binds.all{K:Fg}(h:∀us:List Value,us.length=ps.length->bindArgs fd ⟨us,[]⟩=pure (ps.zip us)):Binds K fd ps []:=λs us _ z=>by
 rw [dZ]at z ⊢;exact .of_eq (h us z)
def XX(CX:CXT)(X:Cx)(E:XK):Prop:=∀(pins:List (8:))(σ:St)(H:Hp)(s:Shared)(e:Value)(s':Shared),Inv X pins σ H s->CX X.stack H s E e s'->X.xe e s'
section
variable{CX:CXT}{k:Nat}{sp:Sp}{dvs:List V}{ds:List Value}{E:XK}{m:Str}{p:Pos}{o:Expr}{t:TA}
theorem Rs{pins:List (8:)}{σ:St}{Q:VK}{us:List Value}{vs:List V}{soft:Bool}(F:FnOk X.prog X.w X.K X.mg X.base CX k f fd ps sp soft)(hr:Room k X.A (rm soft X.base))(hb:Binds X.K fd ps ds)(hd:Vals dvs ds)(hx:XX CX X E)
 (I:Inv X pins σ H s) (r:Vals vs us) (h:sp (vs++dvs) H Q E):wpAny (6:) X.A (call (.ref f) us) (EP X pins σ Q) X.xe s:=by
 have D:Vals (vs++dvs) (us++ds):=r.append hd;have G:(us++ds).length=ps.length:=by rw [<-D.length];exact F.len _ _ _ _ h
 refine wpAny_call (codeAny_mono (F.run X.A X.stack s H ⟨us,[]⟩ (us++ds) (vs++dvs) Q E hr I.env0 (hb s us I.kIn G) D h) λr s' z=>?_);cases r with
 | error e=>exact hx pins σ H s e s' I z
 | ok J=>
  cases J with
  | ret u=>exact I.after z
  | next=>exact False.elim z
  | brk=>exact False.elim z
  | cont=>exact False.elim z
theorem N9{soft:Bool}(F:FnOk X.prog X.w X.K X.mg X.base CX k f fd ps sp soft)(hr:Room k X.A (rm soft X.base))(hg:Gl X x)(hm:X.mg x=some (.ref f))(hk:PySem.W.keepIn X.K (.ref f)=true)(hb:Binds X.K fd ps ds)(hd:Vals dvs ds)(hx:XX CX X E)
 (ha:PA X (e::es) t) (hdb:(x==("__debug__":Str))=false:=by decide) (he:starEach (e::es) X.env=(false,eval e X.env)::starEach es X.env:=by rfl) (hpl:(backTo pos (starEach es X.env)).any (·.1)=false:=by rfl):
 PE X (.Call (.Name x p) (e::es) [] pos) (J9 sp dvs E t):=by
 intro pins s σ H Q I h;refine fF (YC I hg hm ?_ hdb);refine PySem.W.callWith_K (h₀:=X.base) I.ok.mod.kin hk (thn (ha pos pins s σ H _ I h) λD G ⟨J,H1,z,r,q⟩=>⟨z.kIn,?_⟩) he hpl;exact Rs F hr hb hd hx z r q
end
def PK(X:Cx)(kws:List Keyword)(t:TA):Prop:=
 ∀(pos:Pos)(pins:List (8:))(s:Shared)(σ:St)(H:Hp)(Q:List V->Hp->Prop),Inv X pins σ H s->t σ H Q->wpAny (6:) X.A (evalAll ((backToKw pos (keywordEach kws X.env)).map (·.2))) (AP X pins σ Q) X.xe s
section
variable{CX:CXT}{k:Nat}{ks:List Str}{sp:Sp}{E:XK}{m:Str}{p kpos:Pos}{o:Expr}{t:TA}{nm:Option Str}
theorem P4:PK X [] Vf:=λ_ _ _ _ H Q I h=>wpAny_evalAll_nil ⟨[],H,I,.nil,h⟩
theorem NY(ha:PE X e te)(hr:PK X kws t):PK X (⟨nm,e,kpos⟩::kws) (Zu te t):=by
 intro pos pins s σ H Q I h;show wpAny _ _ (evalAll ((do let v <-eval e X.env;standAt pos;pure v)::(backToKw pos (keywordEach kws X.env)).map (·.2))) _ _ s;refine wpAny_evalAll_cons (aA (thn (ha pins s σ H _ I h) λu z ⟨x,H1,D,F,G⟩=>aA (wpAny_standAt (aD ?_))));exact thn (hr pos pins z σ H1 _ D G) λY Z ⟨xs,H2,J,M,U⟩=>⟨x::xs,H2,J,.cons F M,U⟩
variable{g:List Value->List Value->List Value}{gV:List V->List V->List V}
end
structure FnScope(N P:List Str)(sc:Scope):Prop where
 kind:sc.kind=.function
 co:sc.isCoroutine=false
 gen:sc.isGenerator=false
 nd:N.Nodup
 pre:N.take P.length=P
 par:∀x∈P,sc.names.lookup x=some .local\/sc.names.lookup x=some .cell
 nofree:∀y∈sc.names,y.2≠.free
theorem JV:∀{binds:List (Str×Value)}{m:Str->Option Value},(∀v,(x,v)∉binds)->bindL kindOf binds m x=m x
 | [],_,_=>rfl
 | (n,v)::r,m,h=>by
  unfold bindL;rw [JV λw z=>h w (bC _ z)];split
  .have:x≠n:=by rintro rfl;exact h v bA
   simp [this]
  .rfl
theorem Xk:∀{binds:List (Str×Value)}{m:Str->Option Value},(∀v,(x,v)∉binds)->bindC kindOf binds m x=m x
 | [],_,_=>rfl
 | (n,v)::r,m,h=>by
  unfold bindC;rw [Xk λw z=>h w (bC _ z)];split
  .rfl
  .have:x≠n:=by rintro rfl;exact h v bA
   simp [this]
theorem Xi:∀{P:List Str}{vs:List Value}{i:Nat}{m:Str->Option Value},P.Nodup->P[i]?=some x->vs[i]?=some v->kindOf x=some .local->
 bindL kindOf (P.zip vs) m x=some v
 | [],_,_,_,_,h,_,_=>by simp at h
 | _::_,[],_,_,_,_,h,_=>by simp at h
 | p::P,w::vs,0,m,nd,h1,h2,hk=>by
  simp at h1 h2;subst h1;subst h2;show bindL kindOf ((p,w)::P.zip vs) m p=_;unfold bindL;rw [JV λv z=>(gQ.mp nd).1 (List.of_mem_zip z).1,aE hk];simp
 | p::P,w::vs,i+1,m,nd,h1,h2,hk=>by
  show bindL kindOf ((p,w)::P.zip vs) m x=_;unfold bindL;exact Xi (i:=i) (gQ.mp nd).2 (by simpa using h1) (by simpa using h2) hk
theorem JY:∀{P:List Str}{vs:List Value}{i:Nat}{m:Str->Option Value},P.Nodup->P[i]?=some x->vs[i]?=some v->kindOf x≠some .local->
 bindC kindOf (P.zip vs) m x=some v
 | [],_,_,_,_,h,_,_=>by simp at h
 | _::_,[],_,_,_,_,h,_=>by simp at h
 | p::P,w::vs,0,m,nd,h1,h2,hk=>by
  simp at h1 h2;subst h1;subst h2;show bindC kindOf ((p,w)::P.zip vs) m p=_;unfold bindC;rw [Xk λv z=>(gQ.mp nd).1 (List.of_mem_zip z).1,aF hk];simp
 | p::P,w::vs,i+1,m,nd,h1,h2,hk=>by
  show bindC kindOf ((p,w)::P.zip vs) m x=_;unfold bindC;exact JY (i:=i) (gQ.mp nd).2 (by simpa using h1) (by simpa using h2) hk
def start(N:List Str)(vs:List V):St:=vs.map some++List.replicate (N.length-vs.length) none
def QC(CX:CXT)(P:Program)(w:World)(K:Fg)(mg:Str->Option Value)(base:Heap)(N:List Str)(qual:Str)(scope:Scope)(f:Addr)(cd:Value)(A:Around)(outer:List Env)(s:Shared)(H:Hp)(E:XK):Cx where
 prog:=P
 w:=w
 K:=K
 mg:=mg
 base:=base
 A:=A.deeper (10:)
 N:=N
 s₀:=s
 H₀:=H
 env:=envOfC qual scope s.heap.objs.size f cd
 outer:=outer
 stack:=envOfC qual scope s.heap.objs.size f cd::outer
 ex:=[]
 calm:=true
 fn:=λ_=>true
 pn:=[]
 xe:=λe s'=>wpAny (model P w) (A.deeper (10:)) (leaving (10:) e) (λ_ s''=>CX outer H s E e s'') (λe' s''=>CX outer H s E e' s'') s'
theorem WE{sc:Scope}{n:Nat}{x:Str}(h:sc.names.lookup x=some .cell):∃c,(cellsFrom n sc.names []).lookup x=some c:=by
 have q:=PySem.W.cellsFrom_some sc.names n [] (.inl h);exact Option.isSome_iff_exists.mp q
theorem Xd{CX:CXT}{K:Fg}{N:List Str}{E:XK}{us:List Value}{vs:List V}
 (S:FnScope N ps scope) (hd:Hd base A) (e0:Env0 P w K mg base A outer s H) (hl:vs.length=ps.length) (r:Vals vs us)
 (x:InCallC s s.heap.objs.size (bindL (10:).kindOf (ps.zip us) λ_=>none) (cellsFrom (s.heap.objs.size+1) scope.names []) (bindC (10:).kindOf (ps.zip us) λ_=>none) s1):
 Inv (QC CX P w K mg base N qual scope f cd A outer s H E) [] (start N vs) H s1:=by
 have Y:ps.length<=N.length:=by have:=congrArg List.length S.pre;rw [cA]at this;lia
 obtain⟨h1,tk,rfl,G⟩:=x.done;have D:∀b:Addr,b∉(QC CX P w K mg base N qual scope f cd A outer s H E).ex:=λb z=>absurd (show b∈([]:List Addr)from z) (14:);refine⟨⟨e0.mod,S.kind,rfl,rfl,bB _,λy z c h1 h2=>?_,λy hy=>?_,λy c _ h=>?_,λ_=>hd,Around.frames_deeper e0.frames,.inr ⟨rfl,rfl⟩,λb z=>absurd z (D b),e0.bs,e0.bsz,λb _ _=>D b,λb z=>absurd z (D b),e0.funs,e0.frf⟩,rfl,e0.bare,Un.kept G,⟨_,x.toInCall.ns,λi y v h1 h2 Z=>?_⟩,λy c h=>⟨_,x.cell y c h⟩,e0.hok.fresh (4:),λy c h=>?_,λp hp=>absurd (show p∈([]:List (8:))from hp) (14:),e0.hok.kept G,?_⟩
 .exact name_of_addr x.apart (gC h1) (gC h2)
 .have hy:scope.names.lookup y=some .cell\/scope.names.lookup y=some .free:=hy;rcases hy with hy | hy
  .exact WE hy
  .exact absurd rfl (S.nofree _ (gC hy))
 .exact cS (x.above y c (gC h))
 .have hi:i<vs.length:=by
   unfold start at h2
   by_cases hi:i<vs.length
   .exact hi
   .rw [dJ (by simpa using hi)]at h2;rw [List.getElem?_replicate]at h2;split at h2<;>cases h2
  have M:vs[i]?=some v:=by
   unfold start at h2;rw [cY (by simpa using hi),aI]at h2;cases e:vs[i]? with
   | none=>rw [e]at h2;cases h2
   | some a=>rw [e]at h2;cases h2;rfl
  obtain⟨u,J,U⟩:=r.get M;have hp:ps[i]?=some y:=by
   rw [<-S.pre,List.getElem?_take_of_lt (7:)];exact h1
  have F:ps.Nodup:=by rw [<-S.pre];exact S.nd.sublist (List.take_sublist _ _)
  refine⟨u,U,?_⟩;rcases S.par y (aN hp)with k | k
  .exact .inl ⟨k,Xi F hp J k⟩
  .obtain⟨c,e⟩:=WE (n:=s.heap.objs.size+1) k;refine .inr ⟨.inl k,c,e,?_⟩;have q:=x.cell y c e;rw [JY F hp J (by show scope.names.lookup y≠_;rw [k];decide)]at q;exact q
 .exact e0.hok.fresh (cS (x.above y c (gC h)))
 .unfold start;show _=N.length;rw [bE,aC,cZ];lia
theorem GP{CX:CXT}{K:Fg}{k:Nat}{params:Arguments}{dV kV:Value}
  {N:List Str} {sp:Sp} (lk:K.lookup f=some ⟨oc,od,.func (PySem.W.fnOf name qual params body scope dV kV doc pm an cdv ct),osl⟩) (hcd:PySem.W.codeIn K cdv qual=true) (S:FnScope N ps scope)
 (len:∀vs H Q E,sp vs H Q E->vs.length=ps.length)
 {soft:Bool} (hbody:∀(A:Around)(outer:List Env)(s:Shared)(H:Hp)(vs:List V)(Q:VK)(E:XK),Room k (A.deeper (envOfC qual scope s.heap.objs.size f cdv)) (rm soft base)->sp vs H Q E->
  ∃t,PSs (QC CX P w K mg base N qual scope f cdv A outer s H E) body t/\t { nx:=λ_ H'=>Q .non H',rt:=Q } (start N vs) H):
 FnOk P w K mg base CX (k+1) f (PySem.W.fnOf name qual params body scope dV kV doc pm an cdv ct) ps sp soft:=by
 refine⟨len,λA outer s H ab us vs Q E U D hb r M=>?_⟩;have hl:=len _ _ _ _ M;have Z:K.In s.heap:=D.mod.kin.keeps λb o e=>(D.bs b o e).1;have aa:s.heap.NoLimit:=D.mod.nolimit.keeps λb o e=>(D.bs b o e).1;have F:∀y∈ps.zip us,scope.names.lookup y.1=some .local\/(scope.names.lookup y.1=some .cell/\((cellsFrom (s.heap.objs.size+1) scope.names []).lookup y.1).isSome=true):=λ⟨n,v⟩ hy=>by
  rcases S.par n (List.of_mem_zip hy).1 with q | q
  .exact .inl q
  .exact .inr ⟨q,PySem.W.cellsFrom_some _ _ _ (.inl q)⟩
 refine codeAny_call_function U.depth (Z _ _ lk) rfl S.co S.gen rfl (PySem.W.codeRec_of Z hcd) (hb _ _ _ _ ?_);refine wpAny_newFunctionEnv_cells S.kind F λenv he s1 x=>?_;subst he;refine⟨aa.keeps x.toInCall.keep,codeAny_func ?_⟩;obtain⟨t,ht,hq⟩:=hbody A outer s H vs Q E (U.deeper _) M;have I:Inv (QC CX P w K mg base N qual scope f cdv A outer s H E) [] (start N vs) H s1:=Xd S U.h D hl r x;refine bS (ht [] s1 (start N vs) H _ I hq) (λfl s' z=>?_) λe s' z=>z;have fin:∀{G:St}{H':Hp}{v:V}{u:Value},Inv (QC CX P w K mg base N qual scope f cdv A outer s H E) [] G H' s'->RelV v u->Q v H'->CE outer P w H s Q u s':=
  λ{G H' v u} J Y q=>⟨v,H',J.os,J.bare,J.base,J.hok,Y,q⟩
 cases fl with
 | ret u=>
  obtain⟨v,G,H',J,Y,q⟩:=z;exact fin J Y q
 | next=>
  obtain⟨G,H',J,q⟩:=z;exact fin (v:=V.non) (u:=Value.none) J rfl q
 | brk=>
  obtain⟨_,_,_,q⟩:=z;exact False.elim q
 | cont=>
  obtain⟨_,_,_,q⟩:=z;exact False.elim q
end L2
variable{CX:L2.CXT}{sp:L2.Sp}
namespace L2
open PySem PySem.Spec PyProof.Rows
section
variable{p:Pos}{t:TA}{id T:String}{r:List V->Hp->VK->Prop}
def tCB(r:List V->Hp->VK->Prop)(t:TA):TE:=λσ H Q=>t σ H λvs H1=>r vs H1 Q
theorem Qq(hc:ZK X (.builtin id) r)(hg:Gl X x)(hm:X.mg x=none)(hv:bootBuiltins x=some (.builtin id))(ha:PA X (e::es) t)(hn:x≠"__name__":=by decide)(hdb:(x==("__debug__":Str))=false:=by decide)
 (he:starEach (e::es) X.env=(false,eval e X.env)::starEach es X.env:=by rfl) (hpl:(backTo pos (starEach es X.env)).any (·.1)=false:=by rfl):PE X (.Call (.Name x p) (e::es) [] pos) (tCB r t):=by
 intro pins s σ H Q I h;refine fF (Z5 I hg hm hv ?_ hn hdb);exact PyProof.Rows.callWith_builtin1 (thn (ha pos pins s σ H _ I h) λz D ⟨F,H1,G,J,M⟩=>hc pins D σ H1 F z Q G J M) he hpl
theorem QK(hc:ZK X (.type T) r)(hg:Gl X x)(hm:X.mg x=none)(hv:bootBuiltins x=some (.type T))(ha:PA X (e::es) t)(hn:x≠"__name__":=by decide)(hdb:(x==("__debug__":Str))=false:=by decide)
 (he:starEach (e::es) X.env=(false,eval e X.env)::starEach es X.env:=by rfl) (hpl:(backTo pos (starEach es X.env)).any (·.1)=false:=by rfl):PE X (.Call (.Name x p) (e::es) [] pos) (tCB r t):=by
 intro pins s σ H Q I h;refine fF (Z5 I hg hm hv ?_ hn hdb);exact fP (thn (ha pos pins s σ H _ I h) λz D ⟨F,H1,G,J,M⟩=>hc pins D σ H1 F z Q G J M) he hpl
end
end L2
namespace HT
open PySem PyProof.Rows
section
open PySem.SeqAt
open PySem.AutoSeq1 (wpAny_loadPart')
open PySem.MeetsSeq PySem.MeetsSeq2 PySem.MeetsSeq3
end
theorem cat_tup{t:Addr}{vs ws:List Value}(ht:IsTup s.heap t vs.toArray)(hb:IsTup s.heap b ws.toArray)(hv:vs≠[])
 (h1:ws=[]->Q (.ref t) s) (h2:ws≠[]->Q (.ref s.heap.objs.size) { s with heap:=s.heap.push { cls:=.type "tuple",data:=.seq (vs++ws).toArray } })
 (hsz:vs.length+ws.length<=sizeLine):wpAny (11:) A (binaryOp .Add (.ref t) (.ref b)) Q E s:=by
 obtain⟨⟨cls,Z,data,sl⟩,D,hc,n,hd⟩:=id ht;obtain⟨⟨ab,J,aa,M⟩,z,U,n2,Y⟩:=id hb;simp only at hc hd U Y;subst hc hd U Y;have e:vs.toArray++ws.toArray=(vs++ws).toArray:=by simp
 by_cases G:ws=[]
 .exact concat_meets ⟨_,D,rfl⟩ ⟨_,z,rfl⟩ noFill_tuple_add seq_tuple_add PySem.F.slot_tuple_add PySem.F.entry_tuple_add (h7 _ _)
   (tuple_addW1 t b vs.toArray ws.toArray n n2 Z J sl M (by simpa using hv) (by simp [G])) ⟨D,z,h1 G⟩
 .refine concat_meets ⟨_,D,rfl⟩ ⟨_,z,rfl⟩ noFill_tuple_add seq_tuple_add PySem.F.slot_tuple_add PySem.F.entry_tuple_add (h7 _ _)
   (tuple_addW2 t b vs.toArray ws.toArray n n2 Z J sl M (by simpa using hv) (by simpa using G) (by rw [aV,aV];exact hsz)) ⟨D,z,?_⟩
  rw [e];exact h2 G
def sIx(n d:Nat):Option Int->Nat
 | none=>d
 | some v=>if v<0 then(v+(n:Int)).toNat else min v.toNat n
theorem sIx_none(n d:Nat):sIx n d none=d:=rfl
theorem sIx_nat(n d k:Nat):sIx n d (some (k:Int))=min k n:=by
 show(if(k:Int)<0 then((k:Int)+(n:Int)).toNat else min (k:Int).toNat n)=min k n;rw [aF (7:),bF]
theorem Rj(n d:Nat)(hd:d<=n)(o:Option Int):sIx n d o<=n:=by
 cases o with
 | none=>exact hd
 | some v=>
  show(if v<0 then(v+(n:Int)).toNat else min v.toNat n)<=n
  by_cases z:v<0
  .rw [aE z];lia
  .rw [aF z];exact fG _ _
theorem Gg(v:Int)(n d:Nat):(if v<0 then max (v+(n:Int)) 0 else min v (n:Int))=((sIx n d (some v):Nat):Int):=by
 show(if v<0 then max (v+(n:Int)) 0 else min v (n:Int))=(((if v<0 then(v+(n:Int)).toNat else min v.toNat n):Nat):Int)
 by_cases z:v<0
 .simp only [aE z];lia
 .simp only [aF z];lia
theorem Vh(lo hi:Option Int)(n:Nat):Builtin.Slice.sliceAdjust lo hi 1 (n:Int)=(((sIx n 0 lo:Nat):Int),((sIx n n hi:Nat):Int)):=by
 have h1:¬((1:Int)<0):=by lia
 unfold Builtin.Slice.sliceAdjust;simp only [h1,dG];refine Prod.ext ?_ ?_
 .cases lo with
  | none=>rfl
  | some v=>exact Gg v n 0
 .cases hi with
  | none=>rfl
  | some v=>exact Gg v n n
theorem Vx(i j:Nat):Builtin.Slice.slicePlaces (i:Int) (j:Int) 1=j-i:=by
 unfold Builtin.Slice.slicePlaces;have h1:(1:Int)>0:=by lia
 simp only [h1,cB,Int.ediv_one];split<;>lia
theorem U4{o:Option Int}{Q:Option Int->Shared->Prop}(p:IsPart v o)(h:Q o s):wpAny (11:) A (Builtin.Slice.slicePartIndex v) Q E s:=by
 cases p with
 | none=>exact slicePart_none h
 | int i t=>exact slicePart_int h
theorem ZW{sl:Addr}{lo:Option Int}{Q:Int×Int×Nat->Shared->Prop}(hs:s.heap.IsSliceOf sl vl vu .none)(pl:IsPart vl lo)(pu:IsPart vu hi)
 (h:Q (((sIx n 0 lo:Nat):Int),1,sIx n n hi-sIx n 0 lo) s):wpAny (11:) A (Builtin.Slice.sliceApplied (.ref sl) (pure (n:Int))) Q E s:=by
 obtain⟨G,z,F,D⟩:=id hs;unfold Builtin.Slice.sliceApplied Builtin.Slice.sliceFields;refine aA (aA (aP z D (x:=vl) rfl (aA (aP z D (x:=vu) rfl (aA (aP z D (x:=.none) rfl (aD ?_)))))));refine aA (slicePart_none ?_);show wpAny _ _ (if((1:Int)==0)=true then _ else _) _ _ s;rw [aF (18:)];refine aA (U4 pl (aA (U4 pu (aA (aD ?_)))));show wpAny _ _ (match Builtin.Slice.sliceAdjust lo hi 1 (n:Int)with | (lo,hi)=>pure (lo,(1:Int),Builtin.Slice.slicePlaces lo hi 1)) _ _ s;rw [Vh lo hi n];show wpAny _ _ (pure (((sIx n 0 lo:Nat):Int),(1:Int),Builtin.Slice.slicePlaces ((sIx n 0 lo:Nat):Int) ((sIx n n hi:Nat):Int) 1)) _ _ s;rw [Vx];exact aD h
theorem Ny(xs:Array Value)(i k:Nat):((List.range k).filterMap λ(m:Nat)=>xs[((i:Int)+(m:Int)*1).toNat]?).toArray=((xs.toList.drop i).take k).toArray:=by
 have e:(λ(m:Nat)=>xs[((i:Int)+(m:Int)*1).toNat]?)=λm=>xs[i+m]?:=by
  funext m
  have:((i:Int)+(m:Int)*1).toNat=i+m:=by lia
  rw [this]
 rw [e];have:=pick_run xs i k;rw [List.filterMap_map]at this;have e2:((λx=>xs[x]?)∘λx=>i+x)=λm=>xs[i+m]?:=rfl;rw [e2]at this;rw [this]
theorem getItem_tuple_cut{t sl:Addr}{lo:Option Int}(ht:IsTup s.heap t items)(hs:s.heap.IsSliceOf sl vl vu .none)(pl:IsPart vl lo)(pu:IsPart vu hi)
 (hw:¬(sIx items.size 0 lo=0/\sIx items.size items.size hi=items.size))
 (h:Q (.ref s.heap.objs.size) { s with heap:=s.heap.push { cls:=.type "tuple",data:=.seq ((items.toList.drop (sIx items.size 0 lo)).take (sIx items.size items.size hi-sIx items.size 0 lo)).toArray } })
 (hsz:items.size<=sizeLine):wpAny (11:) A (getItem (.ref t) (.ref sl)) Q E s:=by
 have z:sizeOk (.seq ((items.toList.drop (sIx items.size 0 lo)).take (sIx items.size items.size hi-sIx items.size 0 lo)).toArray):=by
  show((items.toList.drop (sIx items.size 0 lo)).take (sIx items.size items.size hi-sIx items.size 0 lo)).toArray.size<=sizeLine;rw [aV,cA,List.length_drop,gB];lia
 have Y:sIx items.size items.size hi<=items.size:=Rj _ _ (4:) hi;obtain⟨M,D,F,U⟩:=id hs;have G:s.TypeIs (.ref sl) "slice":=⟨M,D,F⟩;unfold getItem
 try with_reducible refine cF ?_
 first | refine aA (aD ?_) | skip
 refine aA (wpAny_sequenceKey ht.typeIs (18:) ?_);refine aA (cV (name:=Str.ofString "__getitem__") ht.typeIs fO
  (cH fO ht.typeIs entry_tuple_getitem ?_ (args_tuple_getitem _ _)))
 show wpAny _ _ (Builtin.Tuple.tupleItemsOf (.ref t)>>=_) _ _ s;refine aA (tupleItemsOf_ ht ?_);refine aA (fL G ?_);rw [aE (18:)];refine aA (ZW hs pl pu ?_);have J:¬((((sIx items.size 0 lo:Nat):Int)==0&&(1:Int)==1&&(sIx items.size items.size hi-sIx items.size 0 lo)==items.size)=true):=by
  intro q;rw [bD,bD]at q;have Z:((sIx items.size 0 lo:Nat):Int)=0:=eq_of_beq q.1.1;have q2:sIx items.size items.size hi-sIx items.size 0 lo=items.size:=eq_of_beq q.2;exact hw ⟨by lia,by lia⟩
 show wpAny _ _ (if(((sIx items.size 0 lo:Nat):Int)==0&&(1:Int)==1&&(sIx items.size items.size hi-sIx items.size 0 lo)==items.size)=true then _ else _) _ _ s;rw [aF J,Ny]
 first
  | exact aA (m:=Builtin.Tuple.tupleExact _) (c_ (aD ⟨_,rfl,aD h⟩) z)
  | exact aA (m:=Builtin.Tuple.tupleExact _) (c_ (aA (aD (aD ⟨_,rfl,aD h⟩))) z)
  | exact aA (aA (m:=Builtin.Tuple.tupleExact _) (c_ (aD (aD ⟨_,rfl,aD h⟩)) z))
  | exact aA (aA (m:=Builtin.Tuple.tupleExact _) (c_ (aD ⟨_,rfl,aD h⟩) z))
end HT
namespace L2
open PySem PySem.Spec PyProof.Rows
abbrev TO:=St->Hp->(Option Int->Hp->Prop)->Prop
def PO(X:Cx)(e:Option Expr)(t:TO):Prop:=
 ∀(pins:List (8:))(s:Shared)(σ:St)(H:Hp)(Q:Option Int->Hp->Prop),Inv X pins σ H s->t σ H Q->
  wpAny (6:) X.A (evalPart e X.env) (λu s'=>∃o H',Inv X pins σ H' s'/\IsPart u o/\Q o H') X.xe s
def Od:TO:=λ_ H Q=>Q none H
def Se(t:TE):TO:=λσ H Q=>t σ H λx H1=>∃i,x=.int i/\Q (some i) H1
section
variable{lo hi:Option Expr}{tl th:TO}
theorem UM:PO X none Od:=by
 intro pins s σ H Q I h;rw [evalPart_none];exact aD ⟨none,H,I,.none,h⟩
theorem ZP(h:PE X e te):PO X (some e) (Se te):=by
 intro pins s σ H Q I z;rw [evalPart_some];refine thn (h pins s σ H _ I z) λu J ⟨x,H1,D,F,G⟩=>?_;obtain⟨i,rfl,q⟩:=G;obtain⟨t,rfl⟩:=F;exact⟨some i,H1,D,.int i t,q⟩
def SlR(X:Cx)(r:V->Option Int->Option Int->Hp->VK->Prop):Prop:=
 ∀(pins:List (8:))(s:Shared)(σ:St)(H:Hp)(x:V)(v vl vu:Value)(lo hi:Option Int)(sl:Addr)(Q:VK),Inv X pins σ H s->RelV x v->s.heap.IsSliceOf sl vl vu .none->IsPart vl lo->IsPart vu hi->r x lo hi H Q->
  ∃T id,typeLookup (.type T) "__getitem__"=pure (some (.builtin id))/\s.TypeIs v T/\wpAny (6:) X.A (getItem v (.ref sl)) (EP X pins σ Q) X.xe s
def tSl(r:V->Option Int->Option Int->Hp->VK->Prop)(te:TE)(tl th:TO):TE:=λσ H Q=>te σ H λx H1=>tl σ H1 λl H2=>th σ H2 λu H3=>r x l u H3 Q
theorem Z0{r:V->Option Int->Option Int->Hp->VK->Prop}(hr:SlR X r)(he:PE X e te)(hl:PO X lo tl)(hu:PO X hi th):PE X (.Subscript e (.Slice lo hi none p2) pos) (tSl r te tl th):=by
 intro pins s σ H Q I h;refine Subscript_ (thn (he pins s σ H _ I h) λv J ⟨x,H1,M,U,Y⟩=>?_);refine wpAny_Slice (thn (hl pins J σ H1 _ M Y) λD Z ⟨l,H2,I2,pl,q2⟩=>thn (hu pins Z σ H2 _ I2 q2) λF z ⟨u,G,I3,pu,q3⟩=>?_);rw [evalPart_none];refine aD ?_;have I4:Inv X pins σ G { z with heap:=z.heap.push { cls:=.type "slice",data:=.fields #[D,F,.none] } }:=I3.kept (t':=z.toks) λb ob q=>aG _ q;obtain⟨T,id,hT,ht,hg⟩:=hr pins { z with heap:=z.heap.push { cls:=.type "slice",data:=.fields #[D,F,.none] } } σ G x v D F l u z.heap.objs.size Q I4 U (Heap.IsSliceOf.new ..) pl pu q3;show wpAny (6:) X.A (subscriptTail e (.Slice lo hi none p2) v (.ref z.heap.objs.size)) (EP X pins σ Q) X.xe { z with heap:=z.heap.push { cls:=.type "slice",data:=.fields #[D,F,.none] } };exact tail_any (ops:=[.ref z.heap.objs.size,v]) ht hT hg (by with_unfolding_all rfl)
def cutV(xs:List V)(lo hi:Option Int):List V:=(xs.drop (HT.sIx xs.length 0 lo)).take (HT.sIx xs.length xs.length hi-HT.sIx xs.length 0 lo)
theorem UA(xs:List V)(lo hi:Option Int):(cutV xs lo hi).length<=xs.length:=by
 unfold cutV;rw [cA,List.length_drop];lia
def Tp(K:Fg):V->Option Int->Option Int->Hp->VK->Prop:=λx lo hi H Q=>∃a xs,x=.ref a/\SqT K H a xs/\
 ¬(HT.sIx xs.length 0 lo=0/\HT.sIx xs.length xs.length hi=xs.length)/\∀p,H p=none->Q (.ref p) (upd H p (.tup (cutV xs lo hi)))
theorem Rx:SlR X (Tp X.K):=by
 intro pins s σ H x v vl vu lo hi sl Q I G J M U h;obtain⟨a,xs,rfl,Y,Z,q⟩:=h;cases G;obtain⟨its,r,D,F⟩:=I.tuple Y;have z:its.toArray.size=xs.length:=by rw [aV];exact r.length.symm
 refine⟨"tuple",_,fO.lookup,D.typeIs,?_⟩;refine HT.getItem_tuple_cut D J M U (by rw [z];exact Z) ?_ (by rw [z];exact F);rw [z];refine⟨.ref s.heap.objs.size,_,I.laid (t':=s.toks) (o:=.tup (cutV xs lo hi)) (λb ob q=>aG _ q) (4:) ?_,rfl,q _ (I.hok.fresh (4:))⟩;exact⟨aY (UA xs lo hi) F,_,(r.drop (HT.sIx xs.length 0 lo)).take (HT.sIx xs.length xs.length hi-HT.sIx xs.length 0 lo),IsTup.new _ _⟩
def Sh(K:Fg):R2:=λx y H Q=>∃a b xs ys,x=.ref a/\y=.ref b/\SqT K H a xs/\SqT K H b ys/\xs≠[]/\xs.length+ys.length<=sizeLine/\
 (ys=[]->Q (.ref a) H)/\(ys≠[]->∀p,H p=none->Q (.ref p) (upd H p (.tup (xs++ys))))
theorem Vals.nil_iff{us:List Value}(r:Vals xs us):us=[]↔xs=[]:=by
 cases r with
 | nil=>simp
 | cons _ _=>simp
theorem Op:OpR X (binaryOp .Add) (Sh X.K):=by
 intro pins s σ H x y v u Q I J M h;obtain⟨a,b,xs,ys,rfl,rfl,U,Y,Z,G,q1,q2⟩:=h;cases J;cases M;obtain⟨its,F,p1,_⟩:=I.tuple U;obtain⟨aa,D,p2,_⟩:=I.tuple Y;refine HT.cat_tup p1 p2 (λz=>Z (F.nil_iff.mp z)) (λz=>⟨.ref a,H,I,rfl,q1 (D.nil_iff.mp z)⟩) (λz=>?_) (by rw [<-F.length,<-D.length];exact G);refine⟨.ref s.heap.objs.size,_,I.laid (t':=s.toks) (o:=.tup (xs++ys)) (λb ob q=>aG _ q) (4:) ?_,rfl,q2 (λw=>z (D.nil_iff.mpr w)) _ (I.hok.fresh (4:))⟩;exact⟨by rw [bE];exact G,_,F.append D,IsTup.new _ _⟩
end
def ixN(n:Nat)(i:Int):Option Nat:=if 0<=i then(if i<n then some i.toNat else none)else if-(n:Int)<=i then some (i+n).toNat else none
def atI{α:Type}(xs:List α)(i:Int):Option α:=(ixN xs.length i).bind λj=>xs[j]?
theorem Gc{i:Int}(h:ixN n i=some j):seqIndex? i n=some j/\j<n/\-(n:Int)<=i/\i<n:=by
 unfold ixN at h
 by_cases z:0<=i
 .rw [aE z]at h
  by_cases h1:i<n
  .rw [aE h1]at h;have e:i.toNat=j:=aH h;exact⟨by rw [seqIndex_of z h1,e],by lia,by lia,h1⟩
  .rw [aF h1]at h;cases h
 .rw [aF z]at h
  by_cases h1:-(n:Int)<=i
  .rw [aE h1]at h;have e:(i+n).toNat=j:=aH h;exact⟨by rw [seqIndex_neg (7:) h1,e],by lia,h1,by lia⟩
  .rw [aF h1]at h;cases h
theorem XA{α:Type}{xs:List α}{i:Int}{v:α}(h:atI xs i=some v):∃j,seqIndex? i xs.length=some j/\xs[j]?=some v/\j<xs.length/\-(xs.length:Int)<=i/\i<xs.length:=by
 unfold atI at h;cases e:ixN xs.length i with
 | none=>rw [e]at h;cases h
 | some j=>
  rw [e]at h;obtain⟨h1,h2,z,D⟩:=Gc e;exact⟨j,h1,h,h2,z,D⟩
theorem Qs{α:Type}{xs:List α}{j:Nat}{v:α}(h:xs[j]?=some v):atI xs (j:Int)=some v:=by
 have z:j<xs.length:=(aK.mp h).1;have e:ixN xs.length (j:Int)=some j:=by
  unfold ixN;rw [aE (7:),aE (7:)];simp
 unfold atI;rw [e];exact h
theorem NK{α:Type}(xs:List α)(v:α):atI (xs++[v]) (-1)=some v:=by
 have z:(xs++[v]).length=xs.length+1:=by simp
 have e:ixN (xs++[v]).length (-1)=some xs.length:=by
  unfold ixN;rw [z,aF (18:),aE (7:)]
  congr 1
  lia
 unfold atI;rw [e];show(xs++[v])[xs.length]?=some v;simp
def N4(b:Expr):Prop:=∀o i,subscripted b false o i=operate [o,i] (getItem o i)
def IxR(X:Cx)(r:R2):Prop:=
 ∀(value slice:Expr)(pins:List (8:))(s:Shared)(σ:St)(H:Hp)(x y:V)(v u:Value)(Q:VK),Inv X pins σ H s->RelV x v->RelV y u->r x y H Q->
  subscripted slice false v u=operate [v,u] (getItem v u)->wpAny (6:) X.A (subscriptTail value slice v u) (EP X pins σ Q) X.xe s
def MtR(X:Cx)(id:String)(r:V->List V->Hp->VK->Prop):Prop:=
 ∀(pins:List (8:))(s:Shared)(σ:St)(H:Hp)(x:V)(xs:List V)(v:Value)(us:List Value)(Q:VK),Inv X pins σ H s->RelV x v->Vals xs us->r x xs H Q->
  wpAny (6:) X.A (call (.builtin id) (v::us)) (EP X pins σ Q) X.xe s
section
variable{a b:Expr}{tb:TE}
theorem Qg{r:R2}(hr:IxR X r)(ha:PE X a ta)(hb:PE X b tb)(hs:N4 b):PE X (.Subscript a b pos) (tOp r ta tb):=by
 intro pins s σ H Q I h;exact Subscript_ (PV ha hb I h λv u z x y H2 D F G q=>hr a b pins z σ H2 x y v u Q D F G q (hs _ _))
def Uj(K:Fg):R2:=λx y H Q=>∃p xs i v,x=.ref p/\y=.int i/\SqL K H p xs/\atI xs i=some v/\Q v H
def Lp(K:Fg):R2:=λx y H Q=>∃p xs i v,x=.ref p/\y=.int i/\SqT K H p xs/\atI xs i=some v/\Q v H
def R9:R2:=λx y H Q=>∃z i c,x=.str z/\y=.int i/\z.length<=sizeLine/\atI z.cps.toList i=some c/\Q (.str ⟨#[c]⟩) H
theorem Ql:IxR X (Uj X.K):=by
 intro value Y pins s σ H x y v u Q I Z ry h G;obtain⟨p,xs,i,z,rfl,rfl,hq,he,q⟩:=h;cases Z;obtain⟨t,rfl⟩:=ry;obtain⟨its,r,D,hz⟩:=I.list hq;obtain⟨j,h1,h2,h3,h4,h5⟩:=XA he;obtain⟨w,J,M⟩:=r.get h2;have hl:=r.length;have hn:=UW;have fin:EP X pins σ Q w s:=⟨z,H,I,M,q⟩
 by_cases U:0<=i
 .have F:i.toNat=j:=by
   rw [seqIndex_of U h5]at h1;exact aH h1
  exact item_listR D.isList U (7:) (by rw [F];simpa using J) fin G
 .have F:(i+(its.toArray.size:Int)).toNat=j:=by
   rw [seqIndex_neg (7:) h4]at h1;rw [aV,<-hl];exact aH h1
  exact subscriptTail_builtinR (x:=w) D.isList.typeIs slot_list_getitem.lookup
   (wpAny_getItem_list_neg (Q:=λr s'=>r=w/\EP X pins σ Q r s') D.isList (7:) (by rw [aV]<;>lia) (7:) (by rw [F];simpa using J) ⟨rfl,fin⟩) G
theorem Qk:IxR X (Lp X.K):=by
 intro value G pins s σ H x y v u Q I J M h U;obtain⟨p,xs,i,z,rfl,rfl,Y,Z,q⟩:=h;cases J;obtain⟨t,rfl⟩:=M;obtain⟨its,r,D,hz⟩:=I.tuple Y;obtain⟨j,h1,h2,h3,h4,h5⟩:=XA Z;obtain⟨w,ew,F⟩:=r.get h2;have hl:=r.length;have hn:=UW;have fin:EP X pins σ Q w s:=⟨z,H,I,F,q⟩;exact subscriptTail_builtinR (x:=w) D.typeIs slot_tuple_getitem.lookup
  (getItem_tuple (j:=j) (Q:=λr s'=>r=w/\EP X pins σ Q r s') D (7:) (7:) (by rw [aV,<-hl];exact h1) (by simpa using ew) ⟨rfl,fin⟩) U
theorem Nv:IxR X R9:=by
 intro value D pins s σ H x y v u Q I F G h J;obtain⟨z,i,c,rfl,rfl,hz,M,q⟩:=h;obtain⟨t,rfl⟩:=F;obtain⟨t',rfl⟩:=G;obtain⟨j,h1,h2,h3,U,Y⟩:=XA M;have Z:z.cps.toList.length=z.length:=by simp [Str.length]
 rw [Z]at h1 U Y;have hn:=UW;exact tail_any (typeIs_str s z t) slot_str_getitem.lookup (getItem_str (c:=c) (by
  have e1:decide (i< -(2^63:Int))=false:=bN (7:);have e2:decide (i>=2^63)=false:=bN (7:);rw [e1,e2,Bool.or_false]) (by rw [h1];simpa using h2) ⟨.str ⟨#[c]⟩,H,I.tok _,⟨_,rfl⟩,q⟩) J
theorem VX(its:List Value)(n j:Nat)(u:Value):Obj.mapSeq (·.setIfInBounds j u) { cls:=.type "list",data:=.seq its.toArray n }={ cls:=.type "list",data:=.seq (its.set j u).toArray n }:=by
 simp [Obj.mapSeq]
theorem Inv.lst{pins:List (8:)}{σ:St}{p:Addr}(I:Inv X pins σ H s)(h:H p=some (.lst xs)):
 ∃(its:List Value)(n:Nat),Vals xs its/\s.heap.get? p=some { cls:=.type "list",data:=.seq its.toArray n }/\xs.length<=sizeLine:=by
 obtain⟨z,its,n,r,e⟩:=I.hok p _ h;exact⟨its,n,r,e,z⟩
theorem Inv.lstUpd{pins:List (8:)}{σ:St}{p:Addr}{its:List Value}{n':Nat}{f:Obj->Obj}(I:Inv X pins σ H s)(h:H p=some (.lst xs))
 (ho:s.heap.get? p=some { cls:=.type "list",data:=.seq its.toArray n }) (hf:f { cls:=.type "list",data:=.seq its.toArray n }={ cls:=.type "list",data:=.seq its'.toArray n' }) (r:Vals ys its') (hz:ys.length<=sizeLine) (t:Nat):
 Inv X pins σ (upd H p (.lst ys)) { s with heap:=s.heap.update p f,toks:=t }:=by
 have e:(s.heap.update p f).get? p=some { cls:=.type "list",data:=.seq its'.toArray n' }:=by
  rw [fC f ho (by rw [hf]<;>rfl),hf]
 refine I.write (x:=p) (e:=p) (by rw [h];trivial) (.inl rfl) (λb u z q=>(eQ _ _ (aL z)).trans q) ⟨_,e⟩ ?_;exact⟨hz,its',n',r,e⟩
def R6:V->V->V->Hp->(Hp->Prop)->Prop:=λo i v H Q=>∃p xs k j,o=.ref p/\i=.int k/\H p=some (.lst xs)/\ixN xs.length k=some j/\Q (upd H p (.lst (xs.set j v)))
theorem Uh:Sz X R6:=by
 intro pins s σ H o i v ov iv u Q I Y Z rv h;obtain⟨p,xs,k,j,rfl,rfl,hp,hj,q⟩:=h;cases Y;obtain⟨t,rfl⟩:=Z;obtain⟨its,n,r,z,hz⟩:=I.lst hp;obtain⟨h1,h2,G,J⟩:=Gc hj;have D:=r.length;have hn:=UW;have M:Inv X pins σ (upd H p (.lst (xs.set j v))) { s with heap:=s.heap.update p (Obj.mapSeq (·.setIfInBounds j u)) }:=
  I.lstUpd hp z (VX its n j u) (r.set rv j) (by rw [bQ];exact hz) s.toks
 by_cases U:0<=k
 .have F:k.toNat=j:=by
   rw [seqIndex_of U J]at h1;exact aH h1
  exact PySem.W.ki_setAt z U (7:) (by rw [aV,<-D];exact J) (by rw [F];exact⟨_,M,q⟩)
 .have F:(k+(its.toArray.size:Int)).toNat=j:=by
   rw [seqIndex_neg (7:) G]at h1;rw [aV,<-D];exact aH h1
  exact PySem.W.ki_setBack z (7:) (by rw [aV,<-D];exact G) (7:) (by rw [F];exact⟨_,M,q⟩)
theorem XY(lo hi:Option Int)(n:Nat):(sliceBounds lo hi none n).1=((HT.sIx n 0 lo:Nat):Int)/\(sliceBounds lo hi none n).2.1=((HT.sIx n n hi:Nat):Int)/\(sliceBounds lo hi none n).2.2=1:=by
 refine⟨?_,?_,rfl⟩
 .cases lo with
  | none=>simp [sliceBounds,HT.sIx]
  | some i=>
   simp only [sliceBounds,HT.sIx,Option.getD_none,show(1:Int)>0 by decide,cB]
   by_cases h:i<0
   .simp only [h,cB]<;>lia
   .simp only [h,dG]<;>lia
 .cases hi with
  | none=>simp [sliceBounds,HT.sIx]
  | some i=>
   simp only [sliceBounds,HT.sIx,Option.getD_none,show(1:Int)>0 by decide,cB]
   by_cases h:i<0
   .simp only [h,cB]<;>lia
   .simp only [h,dG]<;>lia
theorem JN(its:List Value)(lo hi:Option Int):slicePick its.toArray lo hi none=((its.drop (HT.sIx its.length 0 lo)).take (HT.sIx its.length its.length hi-HT.sIx its.length 0 lo)).toArray:=by
 obtain⟨h1,h2,z⟩:=XY lo hi its.toArray.size;unfold slicePick;rw [h1,h2,z];simp only [sliceRange_one,pick_run,aV]<;>rfl
def So(K:Fg):V->Option Int->Option Int->Hp->VK->Prop:=λx lo hi H Q=>∃a xs,x=.ref a/\SqL K H a xs/\∀p,H p=none->Q (.ref p) (upd H p (.lst (cutV xs lo hi)))
theorem Y9:SlR X (So X.K):=by
 intro pins s σ H x v Z vu lo hi sl Q I F G J M h;obtain⟨a,xs,rfl,U,q⟩:=h;cases F;obtain⟨its,r,D,Y⟩:=I.list U;have z:=r.length;refine⟨"list",_,slot_list_getitem.lookup,D.isList.typeIs,?_⟩;refine wpAny_getItem_list_slice D.isList G J M .none (14:) ?_ (by rw [aV]<;>lia);rw [JN,<-z];refine⟨.ref s.heap.objs.size,_,I.laid (t':=s.toks) (o:=.lst (cutV xs lo hi)) (λb ob q=>aG _ q) (4:) ?_,rfl,q _ (I.hok.fresh (4:))⟩;exact⟨aY (UA xs lo hi) Y,_,0,(r.drop (HT.sIx xs.length 0 lo)).take (HT.sIx xs.length xs.length hi-HT.sIx xs.length 0 lo),aQ _ rfl⟩
theorem Qn:ZK X (.builtin "len") (λxs H Q=>∃p ys,xs=[.ref p]/\(SqL X.K H p ys\/SqT X.K H p ys)/\Q (.int ys.length) H):=by
 intro pins s σ H xs M Q I r h;obtain⟨p,ys,rfl,hq,q⟩:=h;obtain⟨u,rfl,G⟩:=GJ r;cases G;have U:=UW;rcases hq with hq | hq
 .obtain⟨its,D,F,J⟩:=I.list hq;have z:=D.length;exact Calls.call_len_list F.isList (by simp only [aV]<;>lia) ⟨.int ys.length,H,I.tok _,⟨s.toks+1,by rw [aV,z]⟩,q⟩
 .obtain⟨its,D,F,J⟩:=I.tuple hq;have z:=D.length;exact len_tuple F (by simp only [aV]<;>lia) ⟨.int ys.length,H,I.tok _,⟨s.toks+1,by rw [aV,z]⟩,q⟩
theorem Ze:ZK X (.type "tuple") (λxs H Q=>∃p ys,xs=[.ref p]/\((SqL X.K H p ys/\∀l,H l=none->Q (.ref l) (upd H l (.tup ys)))\/(SqT X.K H p ys/\Q (.ref p) H))):=by
 intro pins s σ H xs us Q I r h;obtain⟨p,ys,rfl,h⟩:=h;obtain⟨u,rfl,M⟩:=GJ r;cases M;rcases h with⟨z,q⟩ | ⟨z,q⟩
 .obtain⟨its,D,F,G⟩:=I.list z;have U:=D.length;refine call_tuple_list F.isList (λh' Y=>?_) (by simp only [aV]<;>lia);have J:Inv X pins σ H { s with heap:=h' }:=I.kept (t':=s.toks) Y;have Z:Inv X pins σ (upd H h'.objs.size (.tup ys)) { s with heap:=h'.push { cls:=.type "tuple",data:=.seq its.toArray } }:=
   J.laid (t':=s.toks) (λb o e=>aG _ e) (4:) (show ObjOk X.prog X.w _ _ _ (.tup ys)from⟨G,its,D,IsTup.new _ _⟩)
  exact⟨.ref h'.objs.size,_,Z,rfl,q _ (J.hok.fresh (4:))⟩
 .obtain⟨its,D,F,G⟩:=I.tuple z;exact call_tuple_same F ⟨.ref p,H,I,rfl,q⟩
def tyV(K:Fg)(T:String)(x:V)(H:Hp):Prop:=match x with
 | .str _=>T="str"
 | .int _=>T="int"
 | .ref p=>(T="list"/\ ∃xs,SqL K H p xs)\/(T="tuple"/\ ∃o,K.lookup p=some o/\o.cls=.type "tuple"/\ o.dict=none) \/
  (T="dict"/\ ((∃kvs,H p=some (.dK kvs))\/∃kvs,H p=some (.dT kvs)))\/(T="set"/\ ∃S n,H p=some (.set S n))
 | _=>False
theorem NM{pins:List (8:)}{σ:St}{T:String}{x:V}(I:Inv X pins σ H s)(r:RelV x v)(ty:tyV X.K T x H):
 s.TypeIs v T/\∀a,v=.ref a->∃ob,s.heap.get? a=some ob/\ob.dict=none:=by
 cases x with
 | str z=>
  obtain⟨t,rfl⟩:=r;cases (show T="str" from ty);exact⟨typeIs_str s z t,λ_ e=>nomatch e⟩
 | int i=>
  obtain⟨t,rfl⟩:=r;cases (show T="int" from ty);exact⟨typeIs_int s i t,λ_ e=>nomatch e⟩
 | ref p=>
  cases r;rcases ty with⟨rfl,xs,G⟩ | ⟨rfl,o,D,J,hd⟩ | ⟨rfl,D⟩ | ⟨rfl,S,n,D⟩
  .obtain⟨its,_,F,_⟩:=I.list G;refine⟨F.isList.typeIs,λa e=>?_⟩;cases e;obtain⟨o,n,e,c,hd,_⟩:=F;exact⟨o,e,hd⟩
  .refine⟨⟨o,I.kIn p o D,J⟩,λa e=>?_⟩;cases e;exact⟨o,I.kIn _ o D,hd⟩
  .have z:∃o,s.heap.get? p=some o/\o.ExactDict:=by
    rcases D with⟨kvs,D⟩ | ⟨kvs,D⟩
    .obtain⟨_,_,_,_,o,_,_,e,ex,_⟩:=I.hok p _ D;exact⟨o,e,ex⟩
    .obtain⟨_,_,_,_,o,_,_,e,ex,_⟩:=I.hok p _ D;exact⟨o,e,ex⟩
   obtain⟨o,e,ex⟩:=z;refine⟨⟨o,e,ex.1⟩,λa e2=>?_⟩;cases e2;exact⟨o,e,ex.2.1⟩
  .obtain⟨o,_,_,_,e,ex,_⟩:=I.hok p _ D;refine⟨⟨o,e,ex.1⟩,λa e2=>?_⟩;cases e2;exact⟨o,e,ex.2.1⟩
 | _=>exact False.elim ty
def Tt(K:Fg)(T:String)(r:V->List V->Hp->VK->Prop)(to:TE):TE:=λσ H Q=>to σ H λx H1=>tyV K T x H1/\r x [] H1 Q
def tBM(K:Fg)(T:String)(r:V->List V->Hp->VK->Prop)(to:TE)(t:TA):TE:=λσ H Q=>to σ H λx H1=>tyV K T x H1/\t σ H1 λxs H2=>r x xs H2 Q
variable{o:Expr}{t:TA}{T id:String}{r:V->List V->Hp->VK->Prop}
theorem MQ(pa:PlainAttrs T)(slot:Slot T name id)(hty:typeOf (.builtin id)=pure (.type "method_descriptor"))(hm:MtR X id r)(ho:PE X o to)
 (hbase:attributeBase o name X.env (eval o X.env)=eval o X.env:=by rfl) (hline:(apos.endLine==cpos.line)=true:=by rfl):PE X (.Call (.Attribute o name apos) [] [] cpos) (Tt X.K T r to):=by
 intro pins s σ H Q I h;refine wpAny_Call_method0_late hbase hline (thn (ho pins s σ H _ I h) λv F ⟨x,H1,z,D,ty,G⟩=>?_);obtain⟨h1,h2⟩:=NM z D ty;exact⟨T,id,pa,slot,hty,h1,h2,gW rfl (PySem.evalArgs_none (hm pins F σ H1 x [] v [] Q z D .nil G))⟩
theorem ZJ(pa:PlainAttrs T)(slot:Slot T name id)(hty:typeOf (.builtin id)=pure (.type "method_descriptor"))(hm:MtR X id r)(ho:PE X o to)(ha:PA X (e::es) t)
 (hbase:attributeBase o name X.env (eval o X.env)=eval o X.env:=by rfl)
 (hfew:((backTo cpos (starEach (e::es) X.env)).all (λx=>!x.1)&&(backToKw cpos (keywordEach [] X.env)).all (λx=>x.1.isSome)
  &&decide ((e::es).length+([]:List Keyword).length+(if([]:List Keyword).isEmpty then 0 else 1)<30))=true:=by rfl)
 (hline:(apos.endLine==cpos.line)=true:=by rfl) (hs:starEach (e::es) X.env=(false,eval e X.env)::starEach es X.env:=by rfl) (hplain:(backTo cpos (starEach es X.env)).any (·.1)=false:=by rfl):
 PE X (.Call (.Attribute o name apos) (e::es) [] cpos) (tBM X.K T r to t):=by
 intro pins s σ H Q I h;refine wpAny_Call_method_late hbase hfew hline rfl (thn (ho pins s σ H _ I h) λv F ⟨x,H1,z,D,ty,G⟩=>?_);obtain⟨h1,h2⟩:=NM z D ty;refine⟨T,id,pa,slot,hty,h1,h2,?_⟩;have hA:=ha cpos pins F σ H1 _ z G;rw [hs]at hA ⊢;refine gW (by show(false||(backTo cpos (starEach es X.env)).any (·.1))=false;rw [hplain]<;>rfl) (g_ ?_);exact thn hA λJ M ⟨U,H2,Y,Z,q2⟩=>hm pins M σ H2 x U v J Q Y D Z q2
end
def MtM(X:Cx)(id:String)(r:V->List V->Hp->VK->Prop):Prop:=
 ∀(pins:List (8:))(s:Shared)(σ:St)(H:Hp)(x:V)(xs:List V)(v:Value)(us:List Value)(Q:VK),Inv X pins σ H s->RelV x v->Vals xs us->r x xs H Q->
  wpAny (6:) X.A (call (.builtin id) (v::us)) (EP X pins σ Q) X.xe s
theorem Vals.one:∀{x:V}{us:List Value},Vals [x] us->∃u,us=[u]/\RelV x u
 | _,_,.cons r .nil=>⟨_,rfl,r⟩
theorem Vals.two:∀{x y:V}{us:List Value},Vals [x,y] us->∃u v,us=[u,v]/\RelV x u/\RelV y v
 | _,_,_,.cons r (.cons q .nil)=>⟨_,_,rfl,r,q⟩
theorem Vals.eraseIdx:∀{xs:List V}{us:List Value}(i:Nat),Vals xs us->Vals (xs.eraseIdx i) (us.eraseIdx i)
 | _,_,_,.nil=>.nil
 | _,_,0,.cons _ t=>t
 | _,_,i+1,.cons r t=>.cons r (Vals.eraseIdx i t)
theorem Xm{α:Type}:∀(l:List α)(i:Nat),(l.eraseIdx i).length<=l.length
 | [],_=>bB _
 | _::_,0=>Nat.le_succ _
 | _::r,i+1=>Nat.succ_le_succ (Xm r i)
section
variable{pins:List (8:)}{σ:St}
theorem Inv.lset{its:List Value}{f:Array Value->Array Value}(I:Inv X pins σ H s)(hH:H l=some (.lst xs))
 (e:s.heap.get? l=some { cls:=.type "list",data:=.seq its.toArray n }) (hf:f its.toArray=its'.toArray) (hv:Vals ys its') (hz:ys.length<=sizeLine):
 Inv X pins σ (upd H l (.lst ys)) { s with heap:=s.heap.update l (Obj.mapSeq f),toks:=t' }:=by
 have q:=PySem.IsL.update e f;rw [hf]at q;refine I.write (x:=l) (e:=l) (by rw [hH];exact trivial) (.inl rfl) (λF u z D=>(eQ s.heap (Obj.mapSeq f) (aL z)).trans D) ⟨_,q⟩ ?_;exact⟨hz,its',_,hv,q⟩
theorem Inv.lnew{its:List Value}(I:Inv X pins σ H s)(hv:Vals ys its)(hz:ys.length<=sizeLine):
 Inv X pins σ (upd H s.heap.objs.size (.lst ys)) { s with heap:=s.heap.push { cls:=.type "list",data:=.seq its.toArray },toks:=t' }:=
 I.laid (λ_ _ q=>aG _ q) (4:) ⟨hz,its,0,hv,aQ _ rfl⟩
theorem Inv.fresh(I:Inv X pins σ H s):H s.heap.objs.size=none:=I.hok.fresh (4:)
theorem Inv.lstM(I:Inv X pins σ H s)(hH:H l=some (.lst xs)):xs.length<=sizeLine/\∃(its:List Value)(n:Nat),Vals xs its/\xs.length=its.length/\s.heap.get? l=some { cls:=.type "list",data:=.seq its.toArray n }:=by
 obtain⟨z,its,n,r,e⟩:=I.hok l _ hH;exact⟨z,its,n,r,r.length,e⟩
theorem NB(h:n<=sizeLine):Builtin.List.listTooLong n=false:=by
 unfold Builtin.List.listTooLong;exact bN (7:)
end
def OW:V->List V->Hp->VK->Prop:=λx vs H Q=>∃l xs y,x=.ref l/\vs=[y]/\H l=some (.lst xs)/\xs.length<sizeLine/\Q .non (upd H l (.lst (xs++[y])))
theorem Q4:MtM X "list.append" OW:=by
 intro pins s σ H x U v Y Q I G J h;obtain⟨l,xs,y,rfl,rfl,D,Z,q⟩:=h;cases G;obtain⟨u,rfl,M⟩:=J.one;obtain⟨z,its,n,r,hl,e⟩:=I.lstM D;refine call_meets F.slot_list_append ⟨_,e,rfl⟩ F.entry_list_append (F.args_list_append_2 _ _) (PySem.list_append l its.toArray n u (by rw [aV];lia)) ⟨e,?_⟩;refine⟨.non,_,I.lset (its':=its++[u]) D e (14:) (r.append (.cons M .nil)) ?_,rfl,q⟩;rw [bE,bO];lia
def OT:V->List V->Hp->VK->Prop:=λx vs H Q=>∃l b xs zs,x=.ref l/\vs=[.ref b]/\H l=some (.lst xs)/\H b=some (.lst zs)/\xs.length+zs.length<=sizeLine/\Q .non (upd H l (.lst (xs++zs)))
theorem JX:MtM X "list.extend" OT:=by
 intro pins s σ H x vs v us Q I U Y h;obtain⟨l,b,xs,zs,rfl,rfl,J,Z,hz,q⟩:=h;cases U;obtain⟨u,rfl,ru⟩:=Y.one;cases ru;obtain⟨z,its,n,r,hl,e⟩:=I.lstM J;obtain⟨z2,D,n2,r2,aa,e2⟩:=I.lstM Z;have M:its.toArray.size+D.toArray.size<=sizeLine:=by rw [aV,aV];lia
 have G:¬(!its.toArray.isEmpty&&Builtin.List.listTooLong (its.toArray.size+D.toArray.size))=true:=by
  rw [NB M,Bool.and_false];exact aW
 refine call_meets F.slot_list_extend ⟨_,e,rfl⟩ F.entry_list_extend (F.args_list_extend_2 _ _)
  (AutoSeq1.list_extend_list_list_0 l its.toArray n b D.toArray n2 G (by rw [aV];lia) (7:)) ⟨e,e2,?_⟩
 refine⟨.non,_,I.lset (its':=its++D) J e (14:) (r.append r2) ?_,rfl,q⟩;rw [bE];lia
def RZ:V->List V->Hp->VK->Prop:=λx vs H Q=>∃l xs i k y,x=.ref l/\vs=[.int i]/\H l=some (.lst xs)/\-(2^63)<=i/\i<2^63/\seqIndex? i xs.length=some k/\xs[k]?=some y/\Q y (upd H l (.lst (xs.eraseIdx k)))
theorem LS:MtM X "list.pop" RZ:=by
 intro pins s σ H x vs v us Q I J M h;obtain⟨l,xs,i,k,y,rfl,rfl,D,h1,h2,U,Y,q⟩:=h;cases J;obtain⟨u,rfl,Z⟩:=M.one;obtain⟨t,rfl⟩:=Z;obtain⟨z,its,n,r,hl,e⟩:=I.lstM D;obtain⟨w,hw,G⟩:=r.get Y;refine call_meets F.slot_list_pop ⟨_,e,rfl⟩ F.entry_list_pop (F.args_list_pop_2 _ _)
  (MeetsSeq.list_pop_at l its.toArray n i t k w (fitsIndex_both h1 h2) (by rw [aV,<-hl];exact U) (by rw [<-Array.getElem?_toList];exact hw) (by rw [aV];lia)) ⟨e,?_⟩
 refine⟨y,_,I.lset (its':=its.eraseIdx k) D e ?_ (r.eraseIdx k) ?_,G,q⟩
 .show its.toArray.eraseIdxIfInBounds k=(its.eraseIdx k).toArray;rw [List.eraseIdxIfInBounds_toArray]
 .have:=Xm xs k;lia
end L2
namespace Att
open PySem PySem.W PySem.Calls PyProof.Rows
theorem UE{P:Params}{h:Heap}:∀(ns:List Int)(vs:List Value),WellAll P h vs (ns.map WData.int)->IntsAre vs ns:=by
 intro ns
 induction ns with
 | nil=>
  intro vs w;rw [gq]at w;cases w;exact .nil
 | cons n ns z=>
  intro vs w;rw [aS]at w;cases w with
  | cons a b=>
   cases a;exact .cons _ _ (z _ b)
theorem Ls{l:OpenLaw}(hn:l.most=some n){P:Params}{h:Heap}{args:List WData}{vals:List Value}
 (hpre:l.row.toRowW.claim.pre args=true) (hwl:WellAll P h vals args):
 ∃a vs ns,vals=[Value.ref a]/\args=[WData.list (ns.map WData.int)]/\h.get? a=some { cls:=.type "list",data:=.seq vs.toArray }/\IntsAre vs ns/\ns.length<=n:=by
 have J:WShape.hasAll [] args [.list .int]=true:=(pre_splitW hpre).1;have M:l.pre.holds [] { args:=args }=true:=(pre_splitW hpre).2;obtain⟨d,r,rfl,h1,h2⟩:=hasAllW_cons J;obtain rfl:=hasAllW_nil h2;obtain⟨xs,rfl,U⟩:=hasW_list h1;obtain⟨ns,rfl⟩:=items_int U;have F:ns.length<=n:=by
  unfold OpenLaw.pre at M;have z:(WTm.not (.lt (.lit (.int (n:Int))) (.len (.arg 0)))).holds [] { args:=[.list (ns.map .int)] }=true:=by
   have z:=(holds_andW M).1;rw [hn]at z;exact z
  have D:=condW_of z (w_not (w_lt w_lit (w_len_list (w_arg rfl))));rw [aC]at D;refine Nat.le_of_not_lt λq=>?_;have Y:(n:Int)<((ns.length:Nat):Int):=by lia
  first
   | (rw [bW Y]at D;exact absurd D (18:))
   | (simp at D;lia)
 cases hwl with
 | cons Z w2=>
  cases w2;cases Z with
  | list ho G=>exact⟨_,_,ns,rfl,rfl,ho,UE ns _ G,F⟩
theorem Lj(l:OpenLaw)(args:List WData):l.row.toRowW.claim.post args (.bool true) args=true:=
 postW_of (r:=l.row.toRowW) (X:=(true==true))
  (show WShape.has [] (.bool true) .bool=true by first | rfl | decide | simp [WShape.has,WShape.arms,WShape.armsAll])
  (show(WTm.eq .res (.lit (.bool true))).value [] { args:=args,res:=some (.bool true),after:=args }=some (.bool (true==true))from w_eq_bool (w_res rfl) w_lit) rfl
theorem attach_call{l:OpenLaw}{q:Program}{d:DefRec}
 (hn:l.most=some n) (hdf:d.params.defaults=[])
 (call:∀(w:World)(s₀ s₁:Shared)(mg mb:Str->Option Value)(fa:Addr)(o:Obj)(pm cd doc:Value)(a:Addr)(vs:List Value)(ns:List Int),Ground q loose [] XP w s₀ mg mb s₁.heap->YP w s₁.heap->
  s₁.heap.get? fa=some o->o.data=.func (docDef d.name d.params d.body d.scope pm cd doc)->s₁.heap.CodeRec cd d.name->mg d.name=some (.ref fa)->
  s₁.heap.get? a=some { cls:=.type "list",data:=.seq vs.toArray }->IntsAre vs ns->ns.length<=n->s₁.gens=#[]->
  codeAny (model l.prog w) callerA (.call (.ref fa) ⟨[.ref a],[]⟩) (λr s'=>r=.ok (.ret (.bool true))/\OldK s₁.heap s'.heap/\s'.os=s₁.os/\AllBare s'.gens) s₁):
 WalkO q loose XP YP l.row.toRowW d [] (λf vs=>PySem.call f vs):=by
 intro w s₀ s₁ mg mb G Y fa o pm cd doc dV kV ho hd M U Z hg ab ac as D ad ae aa af;obtain rfl:dV=.none:=Dflts.none U hdf;obtain rfl:kV=.none:=Dflts.noKw U;obtain⟨a,vs,ns,rfl,rfl,F,z,J⟩:=Ls hn D aa;refine enter_call (codeAny_mono (call w s₀ s₁ mg mb fa o pm cd doc a vs ns G Y ho (fd_plain hd) M Z F z J hg) λr s' hq=>?_);obtain⟨rfl,h2,h3,h4⟩:=hq;exact⟨.inl ⟨.bool true,.bool true,[],rfl,λ_=>rfl,.bool true,Lj l _,λ_=>⟨List.Pairwise.nil,λ_ hm=>(nomatch hm)⟩⟩,h2,h3,h4⟩
section
variable{K:Frag}
end
end Att
namespace L2
open PySem PySem.Spec PyProof.Rows
theorem Xl:∀{vs:List Value}{ns:List Int},IntsAre vs ns->Vals (ns.map V.int) vs
 | _,_,.nil=>.nil
 | _,_,.cons n t h=>.cons ⟨t,rfl⟩ (Xl h)
def defArgs(s:Stmt):Arguments:=match s with
 | .FunctionDef _ a _ _ _ _ _ _ _ _=>a
 | _=>{ posonlyargs:=[],args:=[],vararg:=none,kwonlyargs:=[],kw_defaults:=[],kwarg:=none,defaults:=[] }
def defBody(s:Stmt):List Stmt:=match s with
 | .FunctionDef _ _ b _ _ _ _ _ _ _=>b
 | _=>[]
def defScope(s:Stmt):Scope:=match s with
 | .FunctionDef _ _ _ _ _ _ sc _ _ _=>sc
 | _=>{ kind:=.function,names:=[],isGenerator:=false,isCoroutine:=false }
abbrev CX0:CXT:=λ_ _ _ _ _ _=>False
abbrev E0:XK:=λ_ _ _=>False
theorem ST:XX CX0 X E0:=λ_ _ _ _ _ _ _ h=>h.elim
structure Fun(K:Fg)(x qual:Str)(st:Stmt)(f:Addr)(fd:FuncData):Prop where
 ex:∃(oc:Value)(od:Option Addr)(kV doc pm:Value)(an:Option Addr)(cdv ct:Value)(osl:Array (Option Value)),
  fd=PySem.W.fnOf x qual (defArgs st) (defBody st) (defScope st) .none kV doc pm an cdv ct/\K.lookup f=some ⟨oc,od,.func fd,osl⟩/\PySem.W.codeIn K cdv qual=true
 kp:PySem.W.keepIn K (.ref f)=true
section
variable{K:Fg}
theorem Fun.ok{st:Stmt}{N:List Str}{k:Nat}(F:Fun K x qual st f fd)(S:FnScope N ps (defScope st))(len:∀vs H Q E,sp vs H Q E->vs.length=ps.length)
 {soft:Bool} (hbody:∀(cdv:Value)(A:Around)(outer:List Env)(s:Shared)(H:Hp)(vs:List V)(Q:VK)(E:XK),Room k (A.deeper (envOfC qual (defScope st) s.heap.objs.size f cdv)) (rm soft base)->sp vs H Q E->
  ∃t,PSs (QC CX0 P w K mg base N qual (defScope st) f cdv A outer s H E).nox (defBody st) t/\t { nx:=λ_ H'=>Q .non H',rt:=Q } (start N vs) H):FnOk P w K mg base CX0 (k+1) f fd ps sp soft:=by
 obtain⟨Y,Z,kV,M,pm,an,cdv,ct,U,rfl,G,z⟩:=F.ex;refine GP G z S len λA outer s H vs Q E J D=>?_;obtain⟨t,h,q⟩:=hbody cdv A outer s H vs Q E J D;exact⟨t,h.nox,q⟩
theorem Fun.binds{st:Stmt}(F:Fun K x qual st f fd)
 (h:∀(kV doc pm:Value)(an:Option Addr)(cdv ct:Value)(us:List Value),us.length=ps.length->bindArgs (PySem.W.fnOf x qual (defArgs st) (defBody st) (defScope st) .none kV doc pm an cdv ct) ⟨us,[]⟩=pure (ps.zip us)):Binds K fd ps []:=by
 obtain⟨G,J,kV,doc,pm,an,cdv,ct,z,rfl,M,D⟩:=F.ex;exact .all (h kV doc pm an cdv ct)
theorem QY{x qual:Str}{st:Stmt}{f:Addr}{oc:Value}{od an:Option Addr}{osl:Array (Option Value)}{kV doc pm cdv ct:Value}(l:K.lookup f=some ⟨oc,od,.func (PySem.W.fnOf x qual (defArgs st) (defBody st) (defScope st) .none kV doc pm an cdv ct),osl⟩)
 (c:PySem.W.codeIn K cdv qual=true) (k:PySem.W.keepIn K (.ref f)=true):Fun K x qual st f (PySem.W.fnOf x qual (defArgs st) (defBody st) (defScope st) .none kV doc pm an cdv ct):=⟨⟨oc,od,kV,doc,pm,an,cdv,ct,osl,rfl,l,c⟩,k⟩
end
theorem Zp{k:Nat}(hr:Room k A ρ):A.units+1<cLine:=Nat.lt_of_le_of_lt (Nat.add_le_add_left (by decide:1<=64) _) hr.units
theorem pv(i:Nat)(hN:X.N[i]?=some x:=by rfl)(hv:Vis X.env.scope x:=by first | exact Or.inl rfl | exact bY (5:) | exact bY (bY rfl))(hd:(x==("__debug__":Str))=false:=by decide)
 (hcd:(x==("__classdict__":Str))=false:=by decide):PE X (.Name x pos) (ZL i):=Mp hN hv hd hcd
theorem Zf{A B:Prop}(h:B):if false=true then A else B:=by
 rw [aF aW];exact h
theorem Zd{A B:Prop}(h:A):if true=true then A else B:=by
 rw [aE rfl];exact h
theorem Z6{c A B:Prop} [Decidable c] (h1:c->A) (h2:¬c->B):if c then A else B:=by
 by_cases h:c
 .rw [aE h];exact h1 h
 .rw [aF h];exact h2 h
theorem O8{c A B:Prop} [Decidable c] (hc:c) (h:B):if(!decide c)=true then A else B:=by
 rw [bW hc];exact Zf h
def Same(H H':Hp):Prop:=∀b o,H b=some o->H' b=some o
theorem Same.refl(H:Hp):Same H H:=λ_ _ h=>h
theorem Same.trans(a:Same H H1)(b:Same H1 H2):Same H H2:=λc o h=>b c o (a c o h)
theorem Same.free(e:Same H H')(h:H' l=Option.none):H l=Option.none:=by
 cases q:H l with
 | none=>rfl
 | some o=>
  rw [e l o q]at h;cases h
theorem Same.seq{K:Fg}(e:Same H H')(h:SqL K H a xs):SqL K H' a xs:=by
 rcases h with(h | ⟨o,h⟩) | h
 .exact .inl (.inl (e _ _ h))
 .exact .inl (.inr ⟨o,e _ _ h⟩)
 .exact .inr h
theorem ZR:ZK X (.builtin "isinstance") (λxs H Q=>∃x T t b,xs=[x,.ty T]/\TyOf X.K H x t/\PySem.W.kitOne X.K t (.type T)=some b/\Q (.bl b) H):=by
 intro pins s σ H xs F Q I r h;obtain⟨x,T,t,b,rfl,ty,e,q⟩:=h;obtain⟨u,c,rfl,z,D⟩:=GM r;cases (show c=Value.type T from D);exact GW I z ty e λtk=>⟨.bl b,H,I.tok tk,rfl,q⟩
mutual
inductive RdV(K:Fg)(H:Hp):V->PyData->Prop where
 | non:RdV K H .non .none
 | bl (b:Bool):RdV K H (.bl b) (.bool b)
 | int (i:Int):RdV K H (.int i) (.int i)
 | str (x:Str):RdV K H (.str x) (.str x)
 | lst {a:Addr} {xs:List V} {ds:List PyData}:SqL K H a xs->RdAll K H xs ds->RdV K H (.ref a) (.list ds)
 | tup {a:Addr} {xs:List V} {ds:List PyData}:SqT K H a xs->RdAll K H xs ds->RdV K H (.ref a) (.tuple ds)
inductive RdAll(K:Fg)(H:Hp):List V->List PyData->Prop where
 | nil:RdAll K H [] []
 | cons {v:V} {vs:List V} {d:PyData} {ds:List PyData}:RdV K H v d->RdAll K H vs ds->RdAll K H (v::vs) (d::ds)
end
section
variable{pins:List (8:)}{σ:St}
mutual
theorem RdV.reads(I:Inv X pins σ H s):∀{v:V}{d:PyData}{u:Value},RdV X.K H v d->RelV v u->∃as,Reads s.heap u d as
 | _,_,u,.non,r=>by cases (show u=Value.none from r);exact⟨_,.none⟩
 | _,_,u,.bl b,r=>by cases (show u=Value.bool b from r);exact⟨_,.bool b⟩
 | _,_,u,.int i,r=>by obtain⟨t,e⟩:=(show ∃t,u=Value.int i t from r);cases e;exact⟨_,.int i t⟩
 | _,_,u,.str x,r=>by obtain⟨t,e⟩:=(show ∃t,u=Value.str x t from r);cases e;exact⟨_,.str x t⟩
 | _,_,u,@RdV.lst _ _ a xs ds z D,r=>by
  cases (show u=Value.ref a from r);obtain⟨its,F,⟨o,n,e,c,_,G⟩,_⟩:=I.list z;obtain⟨as,q⟩:=RdAll.reads I D F;exact⟨_,.list e c G (by simpa using q)⟩
 | _,_,u,@RdV.tup _ _ a xs ds z D,r=>by
  cases (show u=Value.ref a from r);obtain⟨its,F,⟨o,e,c,n,G⟩,_⟩:=I.tuple z;obtain⟨as,q⟩:=RdAll.reads I D F;exact⟨_,.tuple e c G (by simpa using q)⟩
theorem RdAll.reads(I:Inv X pins σ H s):∀{vs:List V}{ds:List PyData}{us:List Value},RdAll X.K H vs ds->Vals vs us->∃as,ReadsAll s.heap us ds as
 | _,_,_,.nil,r=>by cases r;exact⟨_,.nil⟩
 | _,_,_,.cons h t,r=>by
  cases r with
  | cons z D=>
   obtain⟨as,q⟩:=RdV.reads I h z;obtain⟨bs,F⟩:=RdAll.reads I t D;exact⟨_,.cons q F⟩
end
end
def N0(K:Fg)(A:Around)(neg:Bool):R2:=λx y H Q=>∃d e:PyData,RdV K H x d/\RdV K H y e/\d.canLay0=true/\e.canLay0=true/\A.units+min d.depth e.depth<cLine/\Q (.bl (if neg then !PyData.eqv d e else PyData.eqv d e)) H
theorem Rc:OpR X (compareOp .Eq) (N0 X.K X.A false):=by
 intro pins s σ H x y v u Q I z D h;obtain⟨d,e,hd,F,cd,G,J,q⟩:=h;obtain⟨Y,M⟩:=hd.reads I z;obtain⟨bs,U⟩:=F.reads I D;exact SeqAt.compareEq_reads M U cd G J ⟨.bl _,H,I,rfl,q⟩
theorem Yc:OpR X (compareOp .NotEq) (N0 X.K X.A true):=by
 intro pins s σ H x y v u Q I z D h;obtain⟨d,e,hd,F,cd,G,J,q⟩:=h;obtain⟨Y,M⟩:=hd.reads I z;obtain⟨bs,U⟩:=F.reads I D;exact SeqAt.compareNe_reads M U cd G J ⟨.bl _,H,I,rfl,q⟩
mutual
theorem ZV:∀d:PyData,d.canLay0=true->PyData.eqv d d=true
 | .none,_=>by simp [PyData.eqv]
 | .bool _,_=>by simp [PyData.eqv]
 | .int _,_=>by simp [PyData.eqv]
 | .str _,_=>by simp [PyData.eqv]
 | .list xs,h=>by
  simp only [PyData.eqv];exact Yy xs (by simpa [PyData.canLay0]using h)
 | .tuple xs,h=>by
  simp only [PyData.eqv];exact Yy xs (by simpa [PyData.canLay0]using h)
 | .dict _,h=>by simp [PyData.canLay0]at h
theorem Yy:∀ds:List PyData,PyData.canLayAll0 ds=true->PyData.eqvAll ds ds=true
 | [],_=>by simp [PyData.eqvAll]
 | d::ds,h=>by
  simp only [PyData.canLayAll0,bD]at h;simp only [PyData.eqvAll,bD];exact⟨ZV d h.1,Yy ds h.2⟩
end
structure Fn(P:Program)(w:World)(K:Fg)(mg:Str->Option Value)(base:Heap)(k:Nat)(x:Str)(ps:List Str)(sp:Sp)(soft:Bool:=false):Prop where
 ex:∃(f:Addr)(fd:FuncData),FnOk P w K mg base CX0 k f fd ps sp soft/\Binds K fd ps []/\PySem.W.keepIn K (.ref f)=true/\mg x=some (.ref f)
theorem Qr{k:Nat}{p:Pos}{t:TA}{soft:Bool}(F:Fn X.prog X.w X.K X.mg X.base k x ps sp soft)(hr:Room k' X.A (rm soft X.base))(ha:PA X (e::es) t)(hk:k<=k':=by decide)(hg:Gl X x:=by rfl)
 (hdb:(x==("__debug__":Str))=false:=by decide) (he:starEach (e::es) X.env=(false,eval e X.env)::starEach es X.env:=by rfl) (hpl:(backTo pos (starEach es X.env)).any (·.1)=false:=by rfl):
 PE X (.Call (.Name x p) (e::es) [] pos) (J9 sp [] E0 t):=by
 obtain⟨f,fd,h1,h2,z,D⟩:=F.ex;exact N9 h1 (hr.mono hk) hg D z h2 .nil ST ha hdb he hpl
theorem Wz{c A B:Prop} [Decidable c] (hc:c) (h:A):if decide c=true then A else B:=by
 rw [bW hc];exact Zd h
theorem Wt{c A B:Prop} [Decidable c] (hc:¬c) (h:B):if decide c=true then A else B:=by
 rw [bN hc];exact Zf h
theorem Qf{H:Hp}{p:Addr}(h:H p=Option.none)(o:HO):Same H (upd H p o):=λb u q=>by rw [Qi (Qj q h)];exact q
def S(l:List Nat):Str:=⟨l.toArray⟩
theorem Ms(l:List Nat):(S l).cps.toList=l:=by simp [S]
theorem V8(l:List Nat):(S l).length=l.length:=by simp [S,Str.length]
theorem Pi{a b:List Nat}(h:S a=S b):a=b:=by
 have:=congrArg (λz:Str=>z.cps.toList) h
 simpa [Ms]using this
def S1(t:TS):TS:=λD σ H=>∃R:St->Hp->Prop,t { D with nx:=R } σ H/\∀σ' H',R σ' H'->D.nx σ' H'
theorem YR{st:Stmt}{t:TS}(h:PS X st t):PS X st (S1 t):=by
 intro pins s σ H D I z;obtain⟨R,h1,h2⟩:=z;refine thn (h pins s σ H { D with nx:=R } I h1) λf J q=>?_;cases f with
 | next=>
  obtain⟨F,H',G,q⟩:=q;exact⟨F,H',G,h2 _ _ q⟩
 | brk=>exact q
 | cont=>exact q
 | ret v=>exact q
theorem Jn:∀xs:List Str,PyData.depthAll (xs.map PyData.str)=0
 | []=>by simp [PyData.depthAll]
 | x::r=>by simp [PyData.depthAll,PyData.depth,Jn r]
structure DefAt(K:Fg)(x:Str)(st:Stmt):Prop where
 ex:∃(f:Addr)(oc:Value)(od:Option Addr)(kV doc pm:Value)(an:Option Addr)(cdv ct:Value)(osl:Array (Option Value)),
  PySem.W.nsIn K mainGlobals x=some (some (.ref f))/\K.lookup f=some ⟨oc,od,.func (PySem.W.fnOf x x (defArgs st) (defBody st) (defScope st) .none kV doc pm an cdv ct),osl⟩/\PySem.W.codeIn K cdv x=true/\PySem.W.keepIn K (.ref f)=true
theorem DefAt.mk'{K:Fg}{st:Stmt}{kV:Value}
 (a:PySem.W.nsIn K mainGlobals x=some (some (.ref f))) (l:K.lookup f=some ⟨oc,od,.func (PySem.W.fnOf x x (defArgs st) (defBody st) (defScope st) .none kV doc pm an cdv ct),osl⟩) (c:PySem.W.codeIn K cdv x=true) (k:PySem.W.keepIn K (.ref f)=true):DefAt K x st:=
 ⟨f,oc,od,kV,doc,pm,an,cdv,ct,osl,a,l,c,k⟩
theorem DefAt.fn{P:Program}{w:World}{K:Fg}{mg:Str->Option Value}{base h:Heap}{k:Nat}{x:Str}{st:Stmt}{ps:List Str}{sp:Sp}{soft:Bool}(D:DefAt K x st)(X:K.In h)(G:h.Ns mainGlobals mg)
 (ok:∀(f:Addr)(fd:FuncData),Fun K x x st f fd->FnOk P w K mg base CX0 k f fd ps sp soft)
 (hb:∀(kV doc pm:Value)(an:Option Addr)(cdv ct:Value)(us:List Value),us.length=ps.length->bindArgs (PySem.W.fnOf x x (defArgs st) (defBody st) (defScope st) .none kV doc pm an cdv ct) ⟨us,[]⟩=pure (ps.zip us)):Fn P w K mg base k x ps sp soft:=by
 obtain⟨f,M,U,kV,doc,pm,an,cdv,ct,J,a,l,c,z⟩:=D.ex;have F:=QY (st:=st) l c z;exact⟨f,_,ok f _ F,F.binds hb,z,aO X G a⟩
end L2
namespace L2
open PySem
theorem let1{b:TS}{σ:St}(h:let B1:TS:=b;QA a1 B1 D σ H):(QA a1 (b)) D σ H:=h
theorem let2{b:TS}{σ:St}(h:let B2:TS:=b;let B1:TS:=QA a2 B2;QA a1 B1 D σ H):(QA a1 (QA a2 (b))) D σ H:=h
theorem let3{b:TS}{σ:St}(h:let B3:TS:=b;let B2:TS:=QA a3 B3;let B1:TS:=QA a2 B2;QA a1 B1 D σ H):(QA a1 (QA a2 (QA a3 (b)))) D σ H:=h
theorem let4{b:TS}{σ:St}(h:let B4:TS:=b;let B3:TS:=QA a4 B4;let B2:TS:=QA a3 B3;let B1:TS:=QA a2 B2;QA a1 B1 D σ H):(QA a1 (QA a2 (QA a3 (QA a4 (b))))) D σ H:=h
theorem let6{b:TS}{σ:St}(h:let B6:TS:=b;let B5:TS:=QA a6 B6;let B4:TS:=QA a5 B5;let B3:TS:=QA a4 B4;let B2:TS:=QA a3 B3;let B1:TS:=QA a2 B2;QA a1 B1 D σ H):(QA a1 (QA a2 (QA a3 (QA a4 (QA a5 (QA a6 (b))))))) D σ H:=h
theorem let7{b:TS}{σ:St}(h:let B7:TS:=b;let B6:TS:=QA a7 B7;let B5:TS:=QA a6 B6;let B4:TS:=QA a5 B5;let B3:TS:=QA a4 B4;let B2:TS:=QA a3 B3;let B1:TS:=QA a2 B2;QA a1 B1 D σ H):(QA a1 (QA a2 (QA a3 (QA a4 (QA a5 (QA a6 (QA a7 (b)))))))) D σ H:=h
theorem let14{a8 a9 a10 a11 a12 a13 a14 b:TS}{σ:St}(h:let B14:TS:=b;let B13:TS:=QA a14 B14;let B12:TS:=QA a13 B13;let B11:TS:=QA a12 B12;let B10:TS:=QA a11 B11;let B9:TS:=QA a10 B10;let B8:TS:=QA a9 B9;let B7:TS:=QA a8 B8;let B6:TS:=QA a7 B7;let B5:TS:=QA a6 B6;let B4:TS:=QA a5 B5;let B3:TS:=QA a4 B4;let B2:TS:=QA a3 B3;let B1:TS:=QA a2 B2;QA a1 B1 D σ H):(QA a1 (QA a2 (QA a3 (QA a4 (QA a5 (QA a6 (QA a7 (QA a8 (QA a9 (QA a10 (QA a11 (QA a12 (QA a13 (QA a14 (b))))))))))))))) D σ H:=h
abbrev J3:=Nat->St->Hp->Prop
abbrev JC:=Nat->List V->Hp->Prop
abbrev J2:=St->Hp->Prop
end L2
namespace L2
open PySem PySem.Spec PyProof.Rows
def Sk(K:Fg):R2:=λx y H Q=>∃a b xs ys,x=.ref a/\y=.ref b/\SqT K H a xs/\SqT K H b ys/\xs.length+ys.length<=sizeLine/\
 ∀p H',Same H H'->SqT K H' p (xs++ys)->Q (.ref p) H'
theorem X2:OpR X (binaryOp .Add) (Sk X.K):=by
 intro pins s σ H x y v u Q I Y Z h;obtain⟨a,b,xs,ys,e1,e2,J,M,hz,q⟩:=h
 by_cases hx:xs=[]
 .subst e1;subst e2;subst hx;cases (show v=Value.ref a from Y);cases (show u=Value.ref b from Z);obtain⟨its,r1,p1,_⟩:=I.tuple J;obtain⟨U,r2,p2,_⟩:=I.tuple M;cases r1;obtain⟨⟨cls,dd,ad,sl⟩,ho,hc,n,hd⟩:=id p1;obtain⟨⟨ae,aa,ac,ab⟩,z,D,n2,G⟩:=id p2;simp only at hc hd D G;subst hc hd D G;exact concat_meets ⟨_,ho,rfl⟩ ⟨_,z,rfl⟩ noFill_tuple_add seq_tuple_add PySem.F.slot_tuple_add PySem.F.entry_tuple_add (h7 _ _)
   (tuple_addW0 a b _ U.toArray n n2 dd aa sl ab rfl) ⟨ho,z,⟨.ref b,H,I,rfl,q b H (Same.refl H) (by simpa using M)⟩⟩
 .refine Op pins s σ H x y v u Q I Y Z ⟨a,b,xs,ys,e1,e2,J,M,hx,hz,λhy=>?_,λhy p hp=>?_⟩
  .subst hy;exact q a H (Same.refl H) (by simpa using J)
  .exact q p _ (Qf hp _) (SqT.of Qb)
theorem Same.seqT{K:Fg}(e:Same H H')(h:SqT K H a xs):SqT K H' a xs:=by
 rcases h with(h | ⟨o,h⟩) | h
 .exact .inl (.inl (e _ _ h))
 .exact .inl (.inr ⟨o,e _ _ h⟩)
 .exact .inr h
def Itd(hi:Int)(n:Nat):It:=⟨λi _=>i<n,λi H x H'=>H'=H/\x=.int (hi-i),λi _=>n<=i⟩
theorem Wi{K:Fg}(it:Addr)(hi:Int)(n:Nat):Turn P w K tg (Itd hi n) [it] it (λi h=>IsRangeIter h it (hi+(i:Nat)*(-1)) ((n:Int)-(i:Nat)) (-1)) where
 mem:=by simp
 obj:=λi h st b D=>by
  have e:b=it:=by simpa using D
  subst e;exact⟨_,st,λv z=>by
   have z':Data.fields _=Data.cell v:=z;cases z'⟩
 keep:=λi h h' st k=>k it (14:) _ st
 item:=by
  intro X J M U hc i pins s σ H E I F st Y;subst J M U;have aa:i<n:=Y;obtain⟨Z,f1,f2,f3,f4,f5⟩:=F it (14:);refine wpAny_pyNext_range_item st (7:) λh' ab sb=>?_;have I1:Inv X pins σ H { s with heap:=h',toks:=s.toks+1 }:=I.turned (t':=s.toks+1) (λb o D e=>(sb.2 b D).trans e) Z f1 f3 f4 f5;have G:IsRangeIter h' it (hi+((i+1:Nat):Int)*(-1)) ((n:Int)-((i+1:Nat):Int)) (-1):=by
   have e1:hi+((i+1:Nat):Int)*(-1)=hi+(i:Nat)*(-1)+(-1):=by lia
   have e2:(n:Int)-((i+1:Nat):Int)=(n:Int)-(i:Nat)-1:=by lia
   rw [e1,e2];exact ab
  exact⟨_,rfl,Wg (s:={ s with heap:=h',toks:=s.toks+1 }) (n:="range_iterator") G rfl rfl (18:) ⟨.int (hi-i),H,I1,⟨s.toks,by congr 1;lia⟩,⟨rfl,rfl⟩,G,λb D=>(F b D).1⟩⟩
 done:=by
  intro X J M U hc i pins s σ H E I F st Y;subst J M U;have aa:n<=i:=Y;obtain⟨Z,f1,f2,f3,f4,f5⟩:=F it (14:);exact U7 (I.hd hc) st (7:) λh' eb=>⟨rfl,I.turned (t':=s.toks) (λb o D e=>eb b o D e) Z f1 f3 f4 f5⟩
 self:=λ_ _ _ _ _ st h=>wpAny_pyIter_rangeiter st h
theorem JH{hi:Int}{n:Nat}{g:TG}{tb:TS}{D:Ends}{σ:St}{H:Hp}(Pv:Nat->St->Hp->Prop)(h0:Pv 0 σ H)
 (hs:∀i σ H,i<n->Pv i σ H->g (.int (hi-i)) σ H λσ2 H2=>tb { D with nx:=Pv (i+1),ct:=Pv (i+1),bk:=D.nx } σ2 H2) (hd:∀σ H,Pv n σ H->D.nx σ H):
 ∃W:Nat->Nat->St->Hp->Prop,(∃m,W 0 m σ H)/\∀i m σ H,W i m σ H->
  ((Itd hi n).stop i H/\D.nx σ H)\/((Itd hi n).go i H/\∃N:St->Hp->Prop,(∀σ' H',N σ' H'->∃m',m'<m/\W (i+1) m' σ' H')/\∀x H',(Itd hi n).yld i H x H'->g x σ H' λσ2 H2=>tb { D with nx:=N,ct:=N,bk:=D.nx } σ2 H2):=by
 refine⟨λi m σ H=>m=n-i/\i<=n/\Pv i σ H,⟨n-0,rfl,bK _,h0⟩,?_⟩;rintro i m σ H ⟨rfl,F,p⟩
 by_cases h:i<n
 .refine .inr ⟨h,Pv (i+1),λσ' H' z=>⟨n-(i+1),by lia,rfl,h,z⟩,?_⟩;rintro x H' ⟨rfl,rfl⟩;exact hs i σ _ h p
 .have e:i=n:=by lia
  subst e;exact .inl ⟨bB _,hd σ H p⟩
def Q2(X:Cx)(N':List Str)(scope:Scope)(cl:List (Str×Addr))(C:Addr)(fp:List Addr)(s₀:Shared)(H₀:Hp):Cx:=
 { X with N:=N',s₀:=s₀,H₀:=H₀,env:=compEnvC scope cl C X.env,outer:=X.stack,ex:=fp,fn:=λ_=>false,pn:=[],xe:=λ_ _=>False }
def PF(X:Cx)(ifs:List Expr)(t:TT):Prop:=
 ∀(pins:List (8:))(s:Shared)(σ:St)(H:Hp)(Q:Bool->Hp->Prop),Inv X pins σ H s->t σ H Q->
  wpAny (6:) X.A (forIn ifs true λc r=>if r=true then do let ok <-isTrue c X.env (eval c X.env);pure (ForInStep.yield ok)else pure (ForInStep.yield r)) (TP X pins σ Q) X.xe s
theorem Q5:PF X [] (λ_ H Q=>Q true H):=by
 intro pins s σ H Q I h;rw [fK];exact aD ⟨H,I,h⟩
theorem Vi{c:Expr}{t:TT}(hc:PT X c t):PF X [c] t:=by
 intro pins s σ H Q I h;rw [fH];refine aA ?_;rw [aE rfl];refine aA (thn (hc pins s σ H Q I h) λok z q=>aD ?_);dsimp only;rw [fK];exact aD q
structure OwnAt(X:Cx)(pins:List (8:))(H:Hp)(s:Shared)(C:Addr):Prop where
 ns:∃m,s.heap.Ns C m
 free:H C=none
 loc:C≠X.env.locals
 above:X.s₀.heap.objs.size<=C
 cells:∀x c,X.env.cells.lookup x=some c->c≠C
 pins:∀p∈X.pn++pins,p.1≠C
theorem OwnAt.go{pins:List (8:)}{σ:St}(I:Inv X pins σ H s)(o:OwnAt X pins H s C)(hb:Heap.SameBut C s.heap h'):Inv X pins σ H { s with heap:=h' }:=
 I.turned (t':=s.toks) (λb u z e=>(hb.2 b z).trans e) o.free o.loc (.inr o.above) o.cells o.pins
def Wf(n:Nat)(Pv:Nat->List V->Hp->Prop):Nat->Nat->Hp->Prop:=λi m H=>m=n-i/\i<=n/\∃ys,Pv i ys H
def L5(n:Nat)(Pv:Nat->List V->Hp->Prop)(acc:Addr)(i m:Nat):VK:=λy H5=>∃ys,H5 acc=some (.lst ys)/\ys.length<sizeLine/\∃m',m'<m/\Wf n Pv (i+1) m' (upd H5 acc (.lst (ys++[y])))
theorem Qz{n:Nat}{Pv:Nat->List V->Hp->Prop}{acc:Addr}{i:Nat}{y:V}{H5:Hp}{ys:List V}(hi:i<n)(hacc:H5 acc=some (.lst ys))(hl:ys.length<5000)(hP:Pv (i+1) (ys++[y]) (upd H5 acc (.lst (ys++[y])))):L5 n Pv acc i (n-i) y H5:=
 ⟨ys,hacc,Nat.lt_trans hl (18:),n-(i+1),by lia,rfl,hi,_,hP⟩
theorem YL(hi:i<n)(hP:Pv (i+1) ys H):∃m',m'<n-i/\Wf n Pv (i+1) m' H:=⟨n-(i+1),by lia,rfl,hi,ys,hP⟩
theorem Z4:ZK X (.builtin "isinstance") (λxs H Q=>∃a ys T b,xs=[.ref a,.ty T]/\SqT X.K H a ys/\PySem.W.kitOne X.K (.type "tuple") (.type T)=some b/\Q (.bl b) H):=by
 intro pins s σ H xs J Q I r h;obtain⟨a,ys,T,b,rfl,D,e,q⟩:=h;obtain⟨u,c,rfl,F,G⟩:=GM r;cases (show c=Value.type T from G);cases (show u=Value.ref a from F);obtain⟨its,M,p,_⟩:=I.tuple D;obtain⟨o,h1,h2,_⟩:=p;exact cW PySem.W.kitx_tuple I.kIn ⟨o,h1,h2⟩ e (λz=>nomatch z) λtk=>⟨.bl b,H,I.tok tk,rfl,q⟩
def SD(t:TT):TT:=λσ H Q=>∃R:Bool->Hp->Prop,t σ H R/\∀b H',R b H'->Q b H'
theorem PL{t:TT}(h:PT X e t):PT X e (SD t):=by
 intro pins s σ H Q I z;obtain⟨R,h1,h2⟩:=z;refine thn (h pins s σ H R I h1) λb F q=>?_;obtain⟨H',D,q⟩:=q;exact⟨H',D,h2 _ _ q⟩
theorem X3{K:Fg}:∀p:List Int,RdAll K H (p.map V.int) (p.map PyData.int)
 | []=>.nil
 | i::r=>.cons (.int i) (X3 r)
theorem Jh:∀p:List Int,PyData.canLayAll0 (p.map PyData.int)=true
 | []=>by simp [PyData.canLayAll0]
 | i::r=>by simp only [aS,PyData.canLayAll0,PyData.canLay0,Jh r,eJ]
section
variable{pins:List (8:)}{σ:St}
theorem Inv.turnedL(I:Inv X pins σ H s)(k:∀b o,b∉ch->s.heap.get? b=some o->h'.get? b=some o)(hf:∀b∈ch,YX X pins H b):Inv X pins σ H { s with heap:=h',toks:=t' }:=by
 have F:∀b u,H b=some u->b∉ch:=λb u e z=>by rw [(hf b z).1]at e;cases e
 refine I.step (g':=s.gens) (d':=s.drawn) (ch:=ch) (λb G=>?_) (λb o _ _ D e _=>k b o D e) (λb o _ _ D e _=>⟨o.slots,k b o D e⟩) (λ_ _ _ _ n=>n)
  (λb o D e=>⟨o,k b o D e⟩) (λ_ _ e=>e) (λ_ _ _ e=>e) (λb ps e=>⟨#[],by rw [e];simp⟩) (λm J=>?_) (λb u e=>?_) I.bare
 .obtain⟨f0,M,f2,U,Y,Z⟩:=hf b G;exact⟨U,M,Y,Z⟩
 .obtain⟨o,es,ep,ho,r⟩:=J;exact⟨o,es,ep,k _ o (λz=>(hf _ z).2.1 rfl) ho,r⟩
 .refine(I.hok b u e).stay (λc v D q=>k c v ?_ q) (λ_ q=>q) λ_ _ q=>q;rcases D with z | z
  .rw [z];exact F b u e
  .exact F c _ z
theorem Inv.turnedNew{o:HO}(I:Inv X pins σ H s)(k:∀b o,b∉ch->s.heap.get? b=some o->h'.get? b=some o)(hf:∀b∈ch,YX X pins H b)
 (hp:s.heap.objs.size<=a) (new:ObjOk X.prog X.w (upd H a o) h' a o):Inv X pins σ (upd H a o) { s with heap:=h',toks:=t' }:=by
 have F:H a=none:=I.hok.fresh hp;have J:∀b u,H b=some u->b∉ch:=λb u e z=>by rw [(hf b z).1]at e;cases e
 have lt:∀b u,s.heap.get? b=some u->b≠a:=λb u e=>aU (bU (aJ e) hp);refine I.step (g':=s.gens) (d':=s.drawn) (ch:=ch) (λb G=>?_) (λb o _ _ D e _=>k b o D e) (λb o _ _ D e _=>⟨o.slots,k b o D e⟩) (λb u _ e n=>by rw [Qi (lt b u e)];exact n)
  (λb o D e=>⟨o,k b o D e⟩) (λb xs e=>by rw [Qi (Qj e F)];exact e) (λb u xs e=>by rw [Qi (Qj e F)];exact e) (λb ps e=>⟨#[],by rw [Qi (Qj e F),e];simp⟩) (λm M=>?_) (λb u e=>?_) I.bare
 .obtain⟨f0,U,f2,Y,Z,f5⟩:=hf b G;exact⟨Y,U,Z,f5⟩
 .obtain⟨o,es,ep,ho,r⟩:=M;exact⟨o,es,ep,k _ o (λz=>(hf _ z).2.1 rfl) ho,r⟩
 .by_cases G:b=a
  .subst G;rw [Qb]at e;cases e;exact new
  .rw [Qi G]at e;refine(I.hok b u e).stay (λc v D q=>k c v ?_ q) (λc q=>by rw [Qi (Qj q F)];exact q) λc xs q=>by rw [Qi (Qj q F)];exact q
   rcases D with z | z
   .rw [z];exact J b u e
   .exact J c _ z
end
def Itz(K:Fg)(a b:Addr)(xs ys:List V):It:=
 ⟨λi H=>SqL K H a xs/\SqL K H b ys/\i<xs.length/\i<ys.length,λi H x H'=>∃p u v,H p=none/\x=.ref p/\H'=upd H p (.tup [u,v])/\xs[i]?=some u/\ys[i]?=some v,λi H=>SqL K H a xs/\SqL K H b ys/\(xs.length<=i\/ys.length<=i)⟩
theorem MI{K:Fg}(a b z:Addr)(xs ys:List V)(TI TO i1 i2:Addr)(Ap:ZipApart z TI TO i1 i2 a b):
 Turn P w K (.Tuple elts k1 pos) (Itz K a b xs ys) [z,TI,TO,i1,i2] z (λi h=>IsZip h z TI TO .none/\IsPair h TI (.ref i1) (.ref i2)/\(∃u v,IsPair h TO u v)/\h.IsListIter i1 a i/\h.IsListIter i2 b i) where
 mem:=by simp
 obj:=λi h st c D=>by
  obtain⟨M,F,⟨u,v,G⟩,h1,h2⟩:=st;simp only [aM,bH,bG]at D;rcases D with rfl | rfl | rfl | rfl | rfl
  .exact⟨_,M,λv z=>by have U:Data.fields _=Data.cell v:=z;cases U⟩
  .exact⟨_,F,λv z=>by have U:Data.seq _ _=Data.cell v:=z;cases U⟩
  .exact⟨_,G,λv z=>by have U:Data.seq _ _=Data.cell v:=z;cases U⟩
  .obtain⟨o,e,c,d⟩:=h1;exact⟨o,e,λv z=>by rw [d]at z;cases z⟩
  .obtain⟨o,e,c,d⟩:=h2;exact⟨o,e,λv z=>by rw [d]at z;cases z⟩
 keep:=λi h h' st k=>by
  obtain⟨M,F,⟨u,v,G⟩,h1,h2⟩:=st;exact⟨k z (14:) _ M,k TI (14:) _ F,⟨u,v,k TO (14:) _ G⟩,h1.at λo e=>k i1 (14:) o e,h2.at λo e=>k i2 (14:) o e⟩
 item:=by
  intro X hP hw hK D i pins s σ H E I hf st hg;subst hP hw hK;obtain⟨M,F,⟨u0,v0,G⟩,h1,h2⟩:=st;obtain⟨qa,qb,lx,ly⟩:=hg;obtain⟨its,rv,p,_⟩:=I.list qa;obtain⟨ab,Y,p2,_⟩:=I.list qb;have ex:xs[i]?=some xs[i]:=aB lx;have ey:ys[i]?=some ys[i]:=aB ly;obtain⟨u,hu,ru⟩:=rv.get ex;obtain⟨v,hv,ac⟩:=Y.get ey;refine wpAny_pyNext_zip_item Ap M F G h1 h2 p.isList p2.isList (x:=u) (y:=v) (by simpa using hu) (by simpa using hv) λh' a1 a2 a3 a4 a5 a6 hk=>?_;refine⟨.ref s.heap.objs.size,rfl,wpAny_letOwnedTupleGo_zip (s:={ s with heap:=h' }) a1 λaa ad J=>?_⟩;have lt:∀{c o},s.heap.get? c=some o->c≠s.heap.objs.size:=λe=>aU (aJ e);have e5:IsPair aa s.heap.objs.size u v:=(J.2 _ (aL (lt M))).trans a5;have Z:∀c∈[z,TO,i1,i2],YX X pins H c:=λc D=>hf c (by
   simp only [aM,bH,bG]at D ⊢;rcases D with rfl | rfl | rfl | rfl<;>simp)
  have I2:Inv X pins σ (upd H s.heap.objs.size (.tup [xs[i],ys[i]])) { s with heap:=aa,toks:=s.toks }:=by
   refine I.turnedNew (ch:=[z,TO,i1,i2]) (λc o D e=>?_) Z (4:) ⟨by show 2<=sizeLine;decide,[u,v],.cons ru (.cons ac .nil),⟨_,e5,rfl,_,rfl⟩⟩;simp only [aM,bH,bG,not_or]at D;exact(J.2 c D.1).trans (hk c o D.1 D.2.1 D.2.2.1 D.2.2.2 e)
  have ae:∀c∈[z,TI,TO,i1,i2],upd H s.heap.objs.size (.tup [xs[i],ys[i]]) c=none:=λc D=>by
   have af:=hf c D;have:c≠s.heap.objs.size:=by
    simp only [aM,bH,bG]at D;rcases D with rfl | rfl | rfl | rfl | rfl
    .exact lt M
    .exact lt F
    .exact lt G
    .obtain⟨o,e,_⟩:=h1;exact lt e
    .obtain⟨o,e,_⟩:=h2;exact lt e
   rw [Qi this];exact af.1
  exact(19:)
 done:=by
  intro X hP hw hK D i pins s σ H E I hf st hg;subst hP hw hK;obtain⟨M,F,⟨u0,v0,G⟩,h1,h2⟩:=st;obtain⟨qa,qb,hl⟩:=hg;obtain⟨its,rv,p,_⟩:=I.list qa;obtain⟨ab,Y,p2,_⟩:=I.list qb;have l1:=rv.length;have l2:=Y.length;have Z:∀c∈[z,TO,i1,i2],YX X pins H c:=λc D=>hf c (by
   simp only [aM,bH,bG]at D ⊢;rcases D with rfl | rfl | rfl | rfl<;>simp)
  refine NJ (I.hd D) Ap M F G h1 h2 p.isList p2.isList ?_ λh' hk=>⟨rfl,I.turnedL (t':=s.toks) (ch:=[z,TO,i1,i2]) (λc o D e=>?_) Z⟩
  .rcases hl with q | q
   .exact .inl (by simp;lia)
   .exact .inr (by simp;lia)
  .simp only [aM,bH,bG,not_or]at D;exact hk c o D.1 D.2.1 D.2.2.1 D.2.2.2 e
 self:=λ_ _ _ _ _ st h=>fY st.1 h
theorem nne{x y:Nat}(h:x<y\/y<x):x≠y:=by lia
def S2(K:Fg)(ta:TA):TI:=λσ H R=>ta σ H λvs H1=>∃a b xs ys,vs=[.ref a,.ref b]/\SqL K H1 a xs/\SqL K H1 b ys/\R (Itz K a b xs ys) H1
theorem MX{ta:TA}{p:Pos}(hg:Gl X "zip")(hm:X.mg "zip"=none)(ha:PA X [e1,e2] ta)(hs:starEach [e1,e2] X.env=[(false,eval e1 X.env),(false,eval e2 X.env)]:=by rfl)(hs2:starEach [e2] X.env=[(false,eval e2 X.env)]:=by rfl):
 PI X (.Tuple elts k1 tpos) (.Call (.Name "zip" p) [e1,e2] [] pos) (S2 X.K ta):=by
 intro pins s σ H R I h;refine Call_ (Z5 I hg hm PyProof.Rows.boot_zip (fP (thn (ha pos pins s σ H _ I h) λus z ⟨vs,H1,D,r1,q1⟩=>?_) (by rw [hs,hs2]) (by rw [hs2];rfl)));obtain⟨a,b,xs,ys,e,qa,qb,q⟩:=q1;subst e;obtain⟨u1,u2,e3,r3,r4⟩:=r1.two;subst e3;cases (show u1=Value.ref a from r3);cases (show u2=Value.ref b from r4);obtain⟨its,rv,J,_⟩:=D.list qa;obtain⟨aa,ab,F,_⟩:=D.list qb;have la:@LT.lt Nat _ a z.heap.objs.size:=by obtain⟨o,n,e,_⟩:=J;exact aJ e
 have lb:@LT.lt Nat _ b z.heap.objs.size:=by obtain⟨o,n,e,_⟩:=F;exact aJ e
 refine call_zip_2 J.isList F.isList λh' M U Y h1 h2 ac hk=>?_;refine fY M ?_;have I2:Inv X pins σ H1 { z with heap:=h' }:=D.kept (t':=z.toks) hk;refine⟨z.heap.objs.size+4,[z.heap.objs.size+4,z.heap.objs.size+2,z.heap.objs.size+3,z.heap.objs.size,z.heap.objs.size+1],_,_,H1,rfl,I2,MI a b (z.heap.objs.size+4) xs ys (z.heap.objs.size+2) (z.heap.objs.size+3) z.heap.objs.size (z.heap.objs.size+1) ?_,⟨M,U,⟨_,_,Y⟩,h1,h2⟩,λc Z=>?_,q⟩
 .constructor<;>(refine nne ?_;lia)
 .have G:@LE.le Nat _ z.heap.objs.size c:=by
   simp only [aM,bH,bG]at Z;rcases Z with rfl | rfl | rfl | rfl | rfl<;>lia
  exact D.fpOk G (D.hok.fresh G)
theorem Gq{K:Fg}{a b:Addr}{xs ys:List V}{g:TG}{tb:TS}{D:Ends}{σ:St}{H:Hp}(hlen:xs.length=ys.length)(Pv:Nat->St->Hp->Prop)(h0:Pv 0 σ H)(hl:∀i σ H,i<=xs.length->Pv i σ H->SqL K H a xs/\SqL K H b ys)
 (hs:∀i u v p σ H,xs[i]?=some u->ys[i]?=some v->H p=none->Pv i σ H->g (.ref p) σ (upd H p (.tup [u,v])) λσ2 H2=>tb { D with nx:=Pv (i+1),ct:=Pv (i+1),bk:=D.nx } σ2 H2) (hd:∀σ H,Pv xs.length σ H->D.nx σ H):
 ∃W:Nat->Nat->St->Hp->Prop,(∃m,W 0 m σ H)/\∀i m σ H,W i m σ H->
  ((Itz K a b xs ys).stop i H/\D.nx σ H)\/((Itz K a b xs ys).go i H/\∃N:St->Hp->Prop,(∀σ' H',N σ' H'->∃m',m'<m/\W (i+1) m' σ' H')/\∀x H',(Itz K a b xs ys).yld i H x H'->g x σ H' λσ2 H2=>tb { D with nx:=N,ct:=N,bk:=D.nx } σ2 H2):=by
 refine⟨λi m σ H=>m=xs.length-i/\i<=xs.length/\Pv i σ H,⟨xs.length-0,rfl,bK _,h0⟩,?_⟩;rintro i m σ H ⟨rfl,hi,p⟩;obtain⟨F,G⟩:=hl i σ H hi p
 by_cases h:i<xs.length
 .refine .inr ⟨⟨F,G,h,by lia⟩,Pv (i+1),λσ' H' z=>⟨xs.length-(i+1),by lia,rfl,h,z⟩,?_⟩;rintro x H' ⟨z,u,v,hp,rfl,rfl,J,M⟩;exact hs i u v z σ H J M hp p
 .have e:i=xs.length:=by lia
  subst e;exact .inl ⟨⟨F,G,.inl (4:)⟩,hd σ H p⟩
theorem YZ:∀{ns:List Int}{us:List Value},Vals (ns.map V.int) us->∃xs:List (Int×Tok),us=xs.map (λp=>Value.int p.1 p.2)/\xs.map (·.1)=ns
 | [],_,.nil=>⟨[],rfl,rfl⟩
 | n::ns,_,.cons r rr=>by
  obtain⟨t,e⟩:=r;obtain⟨xs,e1,e2⟩:=YZ rr;exact⟨(n,t)::xs,by rw [e,e1];rfl,by rw [aS,e2]⟩
theorem JO(xs:List (Int×Tok)):intItems xs.toArray=(xs.map (λp=>Value.int p.1 p.2)).toArray:=by
 simp [intItems]
theorem L7(xs:List (Int×Tok))(j:Nat):numAt xs.toArray j=(xs.map (·.1)).getD j 0:=by rw [numAt_eq]
theorem NZ(xs:List (Int×Tok))(j:Nat):preSum (numAt xs.toArray) j=((xs.map (·.1)).take j).sum:=by rw [preSum_eq]
theorem gtI{prog:Program}{w:World}{A:Around}{E:Value->Shared->Prop}{s:Shared}{a M:Int}{t u:Tok}{Q:Value->Shared->Prop}(h:Q (.bool (decide (M<a))) s):wpAny (11:) A (richCompare .Gt (.int a t) (.int M u)) Q E s:=
 CmpOf.ints_gt (P:=λk v=>∃t,v=.int (if k=0 then a else M) t) (λk=>if k=0 then a else M) (λ_ _ h=>h) 0 1 _ _ s Q E ⟨t,rfl⟩ ⟨u,rfl⟩ h
def Mx(val:Nat->Int)(i:Nat)(M:Int):Prop:=(∃j,j<i/\val j=M)/\∀j,j<i->val j<=M
section
variable{I:Addr}{wr:List Addr}{P:Nat->Value->Prop}{St:Nat->Heap->Prop}
theorem Lm(W:Walks prog w A.in1 I fp wr n P St)(val:Nat->Int)(hval:∀i v,P i v->∃t,v=.int (val i) t)(d:Value)(S:Addr)(hSf:S∉fp):
 ∀(k i:Nat)(s:Shared)(ob:List Value)(c:Nat),n-i=k->i<=n->St i s.heap->((i=0/\ob=[])\/∃M t,ob=[Value.int M t,.int M t]/\Mx val i M)->
  s.heap.get? S=some { cls:=.type "list",dict:=none,data:=.seq ob.toArray c,slots:=#[] }->
  (∀v h' tk,((n=0/\v=d)\/∃M t,v=.int M t/\Mx val n M)->(∀b o,b∉wr->b≠S->s.heap.get? b=some o->h'.get? b=some o)->R (.ok (.ret v)) { s with heap:=h',toks:=tk })->
  codeAny (11:) A (.builtin "max.loop" ⟨[.ref I,.none,.ref S],[(Str.ofString "default",d)]⟩) R s:=by
 have ae:S∉wr:=λh=>hSf (W.sub _ h);have Z:(toString "max"++toString ".loop":String)="max.loop":=by decide
 intro k
 induction k with
 | zero=>
  intro i s ob c hk hi ab af hS hR;have ai:i=n:=by lia
  subst ai;refine gj F.entry_max_loop ?_;rw [gw fZ _];show wpAny _ A.in1 (seqItems? (.ref S)>>=_) _ _ s;refine aA (bV hS rfl ?_);rcases af with⟨h0,rfl⟩ | ⟨M,t,rfl,hM⟩
  .show wpAny _ A.in1 (tryCatch (pyNext (.ref I)) _>>=_) _ _ s;refine aA (gn (W.done s _ _ ab λh' tk z=>?_));show wpAny _ A.in1 (rule _>>=_) _ _ _;exact aA (cI (aD (hR d h' tk (.inl ⟨h0,rfl⟩) λb o hb _ e=>z b o hb e)))
  .show wpAny _ A.in1 (tryCatch (pyNext (.ref I)) _>>=_) _ _ s;refine aA (gn (W.done s _ _ ab λh' tk z=>?_));show wpAny _ A.in1 (updateSeq S (λ_=>#[])>>=_) _ _ _;refine aA (wpAny_updateSeq (z S _ ae hS) rfl (aA (eN (aD (hR _ _ tk (.inr ⟨M,t,rfl,hM⟩) λb o D G e=>?_)))));exact(eQ _ _ (aL G)).trans (z b o D e)
 | succ k ih=>
  intro i s ob c hk hi ab af hS hR;have ac:i<n:=by lia
  refine gj F.entry_max_loop ?_;rw [gw fZ _];show wpAny _ A.in1 (seqItems? (.ref S)>>=_) _ _ s;refine aA (bV hS rfl ?_);rcases af with⟨h0,rfl⟩ | ⟨M,t,rfl,hM⟩
  .show wpAny _ A.in1 (tryCatch (pyNext (.ref I)) _>>=_) _ _ s;refine aA (gn (W.item i s _ _ ac ab λv h' tk hP aa z=>?_));obtain⟨tv,rfl⟩:=hval i v hP;have Y:=z S _ ae hS;show wpAny _ A.in1 (updateSeq S (λ_=>#[_,_])>>=_) _ _ _;refine aA (wpAny_updateSeq Y rfl ?_);rw [Z];refine aD ⟨eX fZ _,ih (i+1) _ [.int (val i) tv,.int (val i) tv] _ (7:) ac (W.frame _ _ _ aa λb ag o e=>?_) (.inr ⟨val i,tv,rfl,⟨i,by lia,rfl⟩,λj hj=>?_⟩) (fC _ Y rfl) λv ad J hv U=>?_⟩
   .exact(eQ _ _ (λh:S=b=>hSf (by rw [h];exact ag))).trans e
   .have:j=i:=by lia
    rw [this];exact Int.le_refl _
   .exact hR v ad J hv λb o D G e=>U b o D G ((eQ _ _ (aL G)).trans (z b o D e))
  .show wpAny _ A.in1 (tryCatch (pyNext (.ref I)) _>>=_) _ _ s;refine aA (gn (W.item i s _ _ ac ab λv h' tk hP aa z=>?_));obtain⟨tv,rfl⟩:=hval i v hP;have Y:=z S _ ae hS;show wpAny _ A.in1 (tryCatch (holding [_,_] (richCompare .Gt _ _>>=_)) _>>=_) _ _ _;refine aA (gn (cF (aA (gtI (M:=M) ?_))));refine aA (cF (eE ?_));refine aA (eN (aD ?_))
   by_cases hb:M<val i
   .rw [bW hb];simp only [cB];refine aA (wpAny_updateSeq Y rfl (aA (eN ?_)));rw [Z];refine aD ⟨eX fZ _,ih (i+1) _ [.int (val i) tv,.int (val i) tv] _ (7:) ac (W.frame _ _ _ aa λb ag o e=>?_) (.inr ⟨val i,tv,rfl,⟨i,by lia,rfl⟩,λj hj=>?_⟩) (fC _ Y rfl) λv ad J hv U=>?_⟩
    .exact(eQ _ _ (λh:S=b=>hSf (by rw [h];exact ag))).trans e
    .by_cases ah:j=i
     .rw [ah];exact Int.le_refl _
     .have:=hM.2 j (7:);lia
    .exact hR v ad J hv λb o D G e=>U b o D G ((eQ _ _ (aL G)).trans (z b o D e))
   .rw [bN hb];simp only [gD,dG];refine aA (eN ?_);rw [Z];refine aD ⟨eX fZ _,ih (i+1) _ [.int M t,.int M t] c (7:) ac aa (.inr ⟨M,t,rfl,?_,λj hj=>?_⟩) Y λv ad J hv U=>?_⟩
    .obtain⟨j,hj,e⟩:=hM.1;exact⟨j,by lia,e⟩
    .by_cases ah:j=i
     .rw [ah];lia
     .exact hM.2 j (7:)
    .exact hR v ad J hv λb o D G e=>U b o D G (z b o D e)
end
theorem Lk(a d:Value):argsOk "max" ⟨[a],[(Str.ofString "default",d)]⟩:=by unfold argsOk;kernel_rfl
theorem Lq{xs:List (Int×Tok)}{d:Value}(hh:Hd s.heap A)(hl:s.heap.IsList l (intItems xs.toArray))
 (h:∀v h' tk,((xs.length=0/\v=d)\/∃M t,v=.int M t/\Mx (numAt xs.toArray) xs.length M)->(∀b o,s.heap.get? b=some o->h'.get? b=some o)->Q v { s with heap:=h',toks:=tk }):
 wpAny (11:) A (call (.builtin "max") [.ref l] [(Str.ofString "default",d)]) Q E s:=by
 have D:(toString "max"++toString ".loop":String)="max.loop":=by decide
 have U:(intItems xs.toArray).size=xs.length:=by simp [intItems]
 refine wpAny_call (codeAny_call_builtin F.plain_max F.entry_max ?_);have Y:wpAny (11:) A.in1 (Builtin.«max» ⟨[.ref l],[(Str.ofString "default",d)]⟩) (λfin s'=>match fin with
  | .done f=>(match(Except.ok f:Result)with | .ok (.ret v)=>Q v s' | .ok _=>False | .error e=>E e s')
  | .again Z=>Z.quiet=true/\codeAny (11:) A Z (λr s'=>match r with | .ok (.ret v)=>Q v s' | .ok _=>False | .error e=>E e s') s') E s:=by
  show wpAny _ A.in1 (Builtin.Builtins.bindParams "max" ["key","default"] 0 ⟨[],[(Str.ofString "default",d)]⟩>>=_) _ _ s;refine aA (cX (show Builtin.Builtins.bindParams "max" ["key","default"] 0 ⟨[],[(Str.ofString "default",d)]⟩=pure [none,some d]from rfl) ?_);refine aA (aD ?_);refine aA (iter_intList hl λaf e st aa ab=>?_);subst e;refine aA (c_ ?_);have G:∀b∈hA A.in1,b<s.heap.objs.size:=hh.in1.lt;have ac:(s.heap.push { cls:=.type "list_iterator",data:=.fields #[.ref l,.int 0 0] }).objs.size∉[s.heap.objs.size,l]++hA A.in1:=λhm=>by
   rcases a_.mp hm with z | z
   .exact bX _ (aa _ z)
   .have:=G _ z;rw [cK]at this;exact bX _ (Nat.lt_trans (Nat.lt_succ_self _) this)
  rw [D];have W:=Walks.listH (prog:=prog) (w:=w) (A:=A.in1) s.heap.objs.size l ab (intItems xs.toArray) λz=>bX _ (G _ z);refine aD ⟨eX fZ _,Lm W (numAt xs.toArray) (λ_ _=>intItems_at) d _ ac _ 0 _ [] 0 rfl (bK _) (W.frame _ _ _ ⟨st.1,st.2,hh.in1.keeps λb o e=>aG _ e⟩ λb _ o e=>aG _ e) (.inl ⟨rfl,rfl⟩) (aQ _ rfl) λv h' tk hv hk=>?_⟩;rw [U]at hv;exact h v h' tk hv (old_kept λb o hb e=>hk b o hb (aU (aJ e)) (aG _ e))
 simp only [checkBuiltinCall,F.kind_max];cases J:Manifest.signature? "max" with
 | none=>exact aD Y
 | some ad=>
  have ae:Bind.checkArgs "max" ad ⟨[.ref l],[(Str.ofString "default",d)]⟩=pure ():=by simpa only [argsOk,J]using Lk (.ref l) d
  simp only [ae];exact aD Y
section
variable{p:Pos}{t:TA}{id:String}{ks:List Str}{r:List V->List V->Hp->VK->Prop}
def Mt(X:Cx)(id:String)(ks:List Str)(r:List V->List V->Hp->VK->Prop):Prop:=
 ∀(pins:List (8:))(s:Shared)(σ:St)(H:Hp)(vs:List V)(us:List Value)(zs:List V)(ws:List Value)(Q:VK),Inv X pins σ H s->Vals vs us->Vals zs ws->r vs zs H Q->wpAny (6:) X.A (call (.builtin id) us (ks.zip ws)) (EP X pins σ Q) X.xe s
def Ta(r:List V->List V->Hp->VK->Prop)(t tk:TA):TE:=λσ H Q=>t σ H λvs H1=>tk σ H1 λzs H2=>r vs zs H2 Q
theorem G9(hc:Mt X id ks r)(hg:Gl X x)(hm:X.mg x=none)(hv:bootBuiltins x=some (.builtin id))(ha:PA X (e::es) t)(hkw:PK X kws tk)(hks:(backToKw pos (keywordEach kws X.env)).filterMap (·.1)=ks:=by rfl)
 (hn:x≠"__name__":=by decide) (hdb:(x==("__debug__":Str))=false:=by decide)
 (he:backTo pos (starEach (e::es) X.env)=(false,eval e X.env)::backTo pos (starEach es X.env):=by rfl)
 (hpl:(backTo pos (starEach (e::es) X.env)).any (·.1)=false:=by rfl)
 (hall:(backToKw pos (keywordEach kws X.env)).all (·.1.isSome)=true:=by rfl)
 (hno:(backToKw pos (keywordEach kws X.env)).any (·.1.isNone)=false:=by rfl):PE X (.Call (.Name x p) (e::es) kws pos) (Ta r t tk):=by
 intro pins s σ H Q I h;refine fF (Z5 I hg hm hv (callWith_kw ?_ he hpl hall hno) hn hdb);refine thn (ha pos pins s σ H _ I h) λz D ⟨F,H1,G,J,q⟩=>thn (hkw pos pins D σ H1 _ G q) λM U ⟨zs,H2,Y,Z,q2⟩=>?_;rw [hks];exact hc pins U σ H2 F z zs M Q Y J Z q2
theorem G3(hc:X.calm=true):Mt X "max" ["default"] (λvs zs H Q=>∃l ns d,vs=[.ref l]/\zs=[d]/\SqL X.K H l (ns.map V.int)/\(ns=[]->Q d H)/\∀M,M∈ns->(∀n∈ns,n<=M)->Q (.int M) H):=by
 intro pins s σ H vs us zs ws Q I z J h;obtain⟨l,ns,d,rfl,rfl,U,Y,q⟩:=h;cases z with
 | cons r Z=>
  cases Z;cases J with
  | cons rd D=>
   cases D;obtain rfl:_=Value.ref l:=r;obtain⟨its,z,pl,_⟩:=I.list U;obtain⟨ys,rfl,e2⟩:=YZ z;have hL:s.heap.IsList l (intItems ys.toArray):=by rw [JO];exact pl.isList
   have aa:ys.length=ns.length:=by rw [<-e2];simp
   show wpAny _ _ (call (.builtin "max") [.ref l] [(Str.ofString "default",_)]) _ _ s;refine Lq (I.hd hc) hL λv h' tk hv hk=>?_;have F:=I.kept (t':=tk) hk;rcases hv with⟨h0,rfl⟩ | ⟨M,t,rfl,⟨j,hj,G⟩,hM⟩
   .exact⟨d,H,F,rd,Y (gs.mp (7:))⟩
   .rw [L7,e2]at G;refine⟨.int M,H,F,⟨t,rfl⟩,q M ?_ λn hn=>?_⟩
    .rw [<-G,eB,aB (7:)];exact aZ _
    .obtain⟨i,hi,rfl⟩:=cO hn;have:=hM i (7:);rw [L7,e2,eB,aB hi]at this;exact this
end
structure CompG(X:Cx)(xs caps:List Str)(cap:List Nat)(scope:Scope)(cl:List (Str×Addr)):Prop where
 clos:closureFor scope X.env=pure cl
 cell:∀y∈scope.names,y.2≠.cell
 kind:scope.kind=.function
 names:∀y∈scope.names,y.2=.local->scope.names.lookup y.1=some .local
 lx:∀x∈xs,scope.names.lookup x=some .local
 nd:(xs++caps).Nodup
 from_:∀y c,cl.lookup y=some c->X.env.cells.lookup y=some c
 has:∀y,((relabel scope X.env).names.lookup y=some .cell\/(relabel scope X.env).names.lookup y=some .free)->∃c,cl.lookup y=some c
 len:cap.length=caps.length
 cps:∀(i:Nat)(y:Str),caps[i]?=some y->∃j,cap[i]?=some j/\X.N[j]?=some y/\X.env.scope.names.lookup y=some .cell/\(relabel scope X.env).names.lookup y=some .cell
def XM(cap:List Nat)(σ:St):St:=cap.map λj=>(σ[j]?).getD none
def XO(n:Nat)(wi:TI)(cap:List Nat)(g:TG)(tt:TT)(te:TE):TE:=λσ H Q=>wi σ H λJ H1=>∀acc,H1 acc=none->∃W:Nat->Nat->Hp->Prop,(∃m,W 0 m (upd H1 acc (.lst [])))/\∀i m H2,W i m H2->
 (J.stop i H2/\Q (.ref acc) H2)\/(J.go i H2/\∀x H3,J.yld i H2 x H3->∀as:St,as.length=n->g x (as++XM cap σ) H3 λσ4 H4=>(∃bs:St,bs.length=n/\σ4=bs++XM cap σ)/\tt σ4 H4 λok H5=>if ok=true then
  te σ4 H5 (λy H6=>∃ys,H6 acc=some (.lst ys)/\ys.length<sizeLine/\∃m',m'<m/\W (i+1) m' (upd H6 acc (.lst (ys++[y]))))
  else ∃m',m'<m/\W (i+1) m' H5)
theorem WK{xs:List Str}
 (O:CompG X xs caps cap scope cl) (hc:X.calm=true) (hi:PI X tg iter wi) (hg:∀C fp s₀ H₀,PG (Q2 X (xs++caps) scope cl C fp s₀ H₀) tg g)
 (ht:∀C fp s₀ H₀,PF (Q2 X (xs++caps) scope cl C fp s₀ H₀) ifs tt)
 (hs:∀x,foldedSetIterable iter X.env x=pure x) {pins:List (8:)}  {σ:St}  {Q:VK}   (I:Inv X pins σ H s)
 (h:XO xs.length wi cap g tt te σ H Q)
 (hfin:∀D C H' s',Inv X pins σ H' s'->OwnAt X pins H' s' C->Q (.ref D) H'->compPost (6:) X.A X.xe use QQ (.ref D) C (.ok .next) s')
 (hw:∀{fp:List Addr}{s3:Shared}{H3:Hp}{D:Value}{p9:List (8:)}{s9:Shared}{σ9:St}{H9:Hp}{Q9:VK},Inv X pins σ H3 s3->(∀b∈fp,(b∈X.ex\/X.s₀.heap.objs.size<=b)/\b≠X.env.locals/\(∀x c,X.env.cells.lookup x=some c->c≠b)/\∀p∈X.pn++pins,p.1≠b)->Inv (17:) p9 σ9 H9 s9->te σ9 H9 Q9->
  wpAny (6:) X.A (eval elt (compEnvC scope cl s3.heap.objs.size X.env)) (EP (17:) p9 σ9 Q9) (notedBy (6:) X.A (compEnvC scope cl s3.heap.objs.size X.env) (λx s'=>compPost (6:) X.A X.xe use QQ D s3.heap.objs.size (.error x) s')) s9):
 wpAny (6:) X.A (comprehension (.ListComp elt [⟨tg,iter,ifs,0⟩] scope pos) scope X.env pos' (newList []) false (eval iter X.env) use) QQ X.xe s:=by
 refine wpAny_comprehension_free rfl hs O.clos O.kind O.names (thn (hi pins s σ H _ I h) λv s1 h1=>thn h1 λbo Z h2=>?_);obtain⟨it,fp,tn,J,H1,e,I2,T,t0,Y,hR⟩:=h2;subst e;refine c_ (wpAny_newFunctionEnv O.cell (by intro y hy;simp at hy) (λan ap aq=>?_) O.kind);have ai:H1 Z.heap.objs.size=none:=I2.fresh;obtain⟨W,⟨m0,w0⟩,turn⟩:=hR Z.heap.objs.size ai;have G:Inv X pins σ (upd H1 Z.heap.objs.size (.lst [])) { Z with heap:=Z.heap.push { cls:=.type "list",data:=.seq ([]:List Value).toArray } }:=I2.lnew (t':=Z.toks) (ys:=[]) (its:=[]) .nil (bK _);generalize ar:({ Z with heap:=Z.heap.push { cls:=.type "list",data:=.seq ([]:List Value).toArray } }:Shared)=s3 at ap aq G ⊢;generalize hD:Z.heap.objs.size=D at G w0 turn ai ⊢;generalize a8:upd H1 D (.lst [])=H3 at G w0;have U:∀b o,s3.heap.get? b=some o->an.get? b=some o:=λb o e=>(aq.2 b (aU (aJ e))).trans (aG _ e);have a1:∀b∈fp,H3 b=none:=λb F=>by
  rw [<-a8,Qi]
  .exact(Y b F).1
  .intro z;obtain⟨o,e,_⟩:=T.obj _ _ t0 b F;exact absurd (aJ e) (by rw [z,hD];exact bX _)
 have ah:H3 s3.heap.objs.size=none:=G.fresh;have aj:∀b∈fp,b≠s3.heap.objs.size:=λb F z=>by
  obtain⟨o,e,_⟩:=T.obj _ _ t0 b F;have h2:s3.heap.objs.size=Z.heap.objs.size+1:=by rw [<-ar];exact cK ..
  exact absurd (aJ e) (by rw [z,h2];exact Nat.not_lt.mpr (Nat.le_succ _))
 have t3:tn 0 an:=T.keep _ _ _ t0 λb F o e=>U b o (by rw [<-ar];exact aG _ e);have au:(17:).Ok:=by
  refine⟨G.ok.mod,O.kind,G.ok.glob,G.ok.blt,bB _,λy z c e1 e2=>G.ok.inj y z c (O.from_ y c e1) (O.from_ z c e2),λy hy=>O.has y hy,λy c z _=>(nomatch z),G.ok.hd,G.ok.frames,.inl rfl,λb F=>⟨aj b F,λy c e=>?_⟩,G.bs,aY G.ok.bsz G.sz,λb o e F=>?_,λb F z=>?_,G.stack,G.stkFree⟩
  .exact(Y b F).2.2.2.2.1 y c (O.from_ y c e)
  .rcases(Y b F).2.2.2.1 with q | q
   .exact G.ok.noex b o e q
   .exact absurd (bU (aJ e) (aY G.ok.bsz q)) (bX _)
  .rcases aM.mp (G.stkSub b z)with q | q
   .exact(Y b F).2.1 q
   .exact(Y b F).2.2.1 q
 have I4:Inv (17:) [] (List.replicate xs.length none++XM cap σ) H3 { s3 with heap:=an,toks:=s3.toks+([]:List (Str×Value)).length }:=by
  obtain⟨m,hn,hl⟩:=id G.loc;refine⟨au,rfl,G.bare,Un.kept U,⟨_,ap,λi y v e1 e2 e3=>?_⟩,λy c e=>?_,ah,λy c e=>G.freeC y c (O.from_ y c e),λp hp=>(nomatch hp),G.hok.kept U,?_⟩
  .by_cases av:i<xs.length
   .rw [cY (by rw [cZ];exact av),List.getElem?_replicate,aE av]at e2;cases e2
   .have a9:caps[i-xs.length]?=some y:=by
     have a2:(xs++caps)[i]?=some y:=e1
     rwa [dJ (7:)]at a2
    obtain⟨j,hj,hN,hk,aw⟩:=O.cps _ y a9;have af:(σ[j]?).getD none=some v:=by
     rw [dJ (by rw [cZ];lia),cZ]at e2;unfold XM at e2
     simpa [hj]using e2
    have a3:σ[j]?=some (some v):=by
     cases q:σ[j]? with
     | none=>rw [q]at af;cases af
     | some a=>rw [q]at af;exact congrArg some af
    obtain⟨u,r,l⟩:=hl j y v hN a3 (.inr (.inl hk));refine⟨u,r,?_⟩;rcases l with⟨k,_⟩ | ⟨k,c,e,z⟩
    .have k':X.env.scope.names.lookup y=some .local:=k;rw [hk]at k';cases k'
    .obtain⟨c',ax⟩:=O.has y (.inl aw);have:c'=c:=aH ((O.from_ y c' ax).symm.trans e);subst this;refine .inr ⟨.inl aw,c',ax,?_⟩;obtain⟨o,ho,hd⟩:=z;exact⟨o,U _ _ ho,hd⟩
  .obtain⟨v,o,ho,hd⟩:=G.cell y c (O.from_ y c e);exact⟨v,o,U _ _ ho,hd⟩
  .show(List.replicate xs.length none++XM cap σ).length=(xs++caps).length;simp [XM,O.len]
 have fin:∀(H':Hp)(ba:St)(s':Shared),Inv (17:) [] ba H' s'->Q (.ref D) H'->
  compPost (6:) X.A X.xe use QQ (.ref D) s3.heap.objs.size (.ok .next) s':=λH' ba s' I' q=>by
  obtain⟨m,hn,_⟩:=id I'.loc;have hU:Un (frs X.stack) fp H3 H' s3.heap s'.heap:=I'.base;have a4:HOk X.prog X.w H' s'.heap:=I'.hok;have bb:s'.os=s3.os:=I'.os;have I6:Inv X pins σ H' s':=G.call' (ch:=fp) bb hU a4 I'.bare (λb F=>⟨(Y b F).2.2.2.1,(Y b F).2.1,(Y b F).2.2.2.2⟩);refine hfin D _ H' s' I6 ⟨⟨m,hn⟩,I'.free,fN G.lt,G.sz,λy c e z=>?_,λp hp z=>?_⟩ q
  .obtain⟨v,hv⟩:=G.cell y c e;exact absurd hv.lt (by rw [z];exact bX _)
  .exact absurd (aJ (G.pin p hp).1) (by rw [z];exact bX _)
 have ae:∀{H':Hp},(∀b∈fp,H' b=none)->∀b∈fp,YX (17:) [] H' b:=λhn b F=>
  ⟨hn b F,aj b F,au.exfs b F,.inl F,λy c e=>(Y b F).2.2.2.2.1 y c (O.from_ y c e),λp hp=>(nomatch hp)⟩
 have ak:codeAny (6:) X.A (.compLoop (.ListComp elt [⟨tg,iter,ifs,0⟩] scope pos) 0 (.ref it) (.ref D) (compEnvC scope cl s3.heap.objs.size X.env))
  (compPost (6:) X.A X.xe use QQ (.ref D) s3.heap.objs.size) { s3 with heap:=an,toks:=s3.toks+([]:List (Str×Value)).length }:=by
  refine codeAny_loop rfl (λn s'=>∃i as H',as.length=xs.length/\Inv (17:) [] (as++XM cap σ) H' s'/\tn i s'.heap/\(∀b∈fp,H' b=none)/\W i n H') ?_ m0 ⟨0,_,H3,cZ,I4,t3,a1,w0⟩;rintro n s5 ⟨i,as,H5,bc,I5,ay,az,w5⟩;show wpAny _ _ ((compTurn (.ListComp elt [⟨tg,iter,ifs,0⟩] scope pos) 0 (.ref it) (.ref D) (compEnvC scope cl s3.heap.objs.size X.env)).onRaise (λx=>do noteFrame x (compEnvC scope cl s3.heap.objs.size X.env);theTreesLotGoes x)) _ _ s5;refine wpAny_noted ?_;rw [compTurn_list];refine aA (wpAny_standAt (aA ?_));have aa:∀{M:Model}{A:Around}{α:Type}{t:Sem α}{P:α->Shared->Prop}{E':Value->Shared->Prop}{s':Shared},wpAny M A t P (λ_ _=>False) s'->wpAny M A t P E' s':=λh=>bS h (λ_ _ q=>q) λ_ _ z=>z.elim;rcases turn i n H5 w5 with⟨a5,qn⟩ | ⟨go,step⟩
  .refine aa (thn (T.done (17:) rfl rfl rfl hc i [] s5 _ H5 (λ_ _=>False) I5 (ae az) ay a5) λr s6 ⟨hr,I6⟩=>?_);subst hr;exact aD (fin H5 _ s6 I6 qn)
  .refine aa (thn (T.item (17:) rfl rfl rfl hc i [] s5 _ H5 (λ_ _=>False) I5 (ae az) ay go) λr s6 ⟨u,hr,h6⟩=>?_);subst hr;refine aA (aa (thn h6 λ_ s7 ⟨y,H7,I7,r7,y7,al,bd⟩=>?_));have be:=I7.pinned (ae bd) (T.obj _ _ al);have a6:=step y H7 y7 as bc;refine aA (aa (thn (hg s3.heap.objs.size fp s3 H3 _ s7 _ H7 y _ _ be r7 a6) λ_ s8 ⟨bq,H8,I8,⟨bs,bf,bn⟩,ao⟩=>?_));subst bn;refine aA (aa (thn (ht s3.heap.objs.size fp s3 H3 _ s8 _ H8 _ I8 ao) λbg s9 ⟨H9,I9,q9⟩=>?_));have ag:∀{ab:Hp}{ac:Shared}{m':Nat},Inv (17:) ([]++JA fp s7.heap) (bs++XM cap σ) ab ac->m'<n->W (i+1) m' ab->
    ∃m,m<n/\∃i as H',as.length=xs.length/\Inv (17:) [] (as++XM cap σ) H' ac/\tn i ac.heap/\(∀b∈fp,H' b=none)/\W i m H':=λ{ab ac m'} ad hm am=>by
    refine⟨m',hm,i+1,bs,ab,bf,ad.unpinned,T.keep _ _ _ al λb F o e=>(ad.pin (b,o) (bJ _ (bJ _ (Yh F e)))).1,λb F=>?_,am⟩;obtain⟨o,e,d⟩:=T.obj _ _ al b F;exact(ad.pin (b,o) (bJ _ (bJ _ (Yh F e)))).2.1
   cases bg with
   | false=>
    rw [aF aW]at q9;obtain⟨m',hm,w9⟩:=q9;exact aD ⟨rfl,ag I9 hm w9⟩
   | true=>
    rw [aE rfl]at q9;refine aA (aA (thn (hw G (λb F=>⟨(Y b F).2.2.2.1,(Y b F).2.1,(Y b F).2.2.2.2⟩) I9 q9) λyv ac ⟨yy,ab,ad,bh,ys,bi,a7,m',hm,am⟩=>?_));refine aA (aa (thn (Q4 (X:=Q2 X (xs++caps) scope cl s3.heap.objs.size fp s3 H3) _ ac _ ab (.ref D) [yy] (.ref D) [yv] (λ_ a0=>W (i+1) m' a0) ad rfl (.cons bh .nil) ⟨D,ys,yy,rfl,rfl,bi,a7,am⟩) λ_ bp ⟨_,a0,bj,_,bm⟩=>?_));exact aD (aD ⟨rfl,ag bj hm bm⟩)
 refine codeAny_compStart_list ak (T.self _ 0 _ _ _ t3 ak)
theorem JF{X:Cx}{elt iter tg:Expr}{xs:List Str}{ifs:List Expr}{scope:Scope}{pos pos':Pos}{wi:TI}{g:TG}{tt:TT}{te:TE}{cl:List (Str×Addr)}{caps:List Str}{cap:List Nat}
 (O:CompG X xs caps cap scope cl) (hc:X.calm=true) (hi:PI X tg iter wi) (hg:∀C fp s₀ H₀,PG (Q2 X (xs++caps) scope cl C fp s₀ H₀) tg g)
 (ht:∀C fp s₀ H₀,PF (Q2 X (xs++caps) scope cl C fp s₀ H₀) ifs tt) (he:∀C fp s₀ H₀,PE (Q2 X (xs++caps) scope cl C fp s₀ H₀) elt te)
 (hs:∀x,foldedSetIterable iter X.env x=pure x) {pins:List (8:)} {s:Shared} {σ:St} {H:Hp} {Q:VK} {use:Option (Value->Sem Unit)} {QQ:Value->Shared->Prop} (I:Inv X pins σ H s)
 (h:XO xs.length wi cap g tt te σ H Q)
 (hfin:∀D C H' s',Inv X pins σ H' s'->OwnAt X pins H' s' C->Q (.ref D) H'->compPost (6:) X.A X.xe use QQ (.ref D) C (.ok .next) s'):
 wpAny (6:) X.A (comprehension (.ListComp elt [⟨tg,iter,ifs,0⟩] scope pos) scope X.env pos' (newList []) false (eval iter X.env) use) QQ X.xe s:=
 WK O hc hi hg ht hs I h hfin λ_ _ z F=>bS (he _ _ _ _ _ _ _ _ _ z F) (λ_ _ q=>q) λ_ _ G=>G.elim
theorem QU{X:Cx}{elt iter tg:Expr}{xs:List Str}{ifs:List Expr}{scope:Scope}{pos:Pos}{wi:TI}{g:TG}{tt:TT}{te:TE}{cl:List (Str×Addr)}{caps:List Str}{cap:List Nat}
 (O:CompG X xs caps cap scope cl) (hc:X.calm=true) (hi:PI X tg iter wi) (hg:∀C fp s₀ H₀,PG (Q2 X (xs++caps) scope cl C fp s₀ H₀) tg g)
 (ht:∀C fp s₀ H₀,PF (Q2 X (xs++caps) scope cl C fp s₀ H₀) ifs tt) (he:∀C fp s₀ H₀,PE (Q2 X (xs++caps) scope cl C fp s₀ H₀) elt te)
 (hs:∀x,foldedSetIterable iter X.env x=pure x:=by intro _;rfl):
 PE X (.ListComp elt [⟨tg,iter,ifs,0⟩] scope pos) (XO xs.length wi cap g tt te):=by
 intro pins s σ H Q I h;rw [eval_ListComp];exact JF (use:=none) O hc hi hg ht he hs I h λD C H' s' z o q=>by
  obtain⟨m,F⟩:=o.ns;exact⟨m,F,λh' G=>⟨.ref D,H',o.go z G,rfl,q⟩⟩
theorem ZA{X:Cx}{elt iter tg:Expr}{xs:List Str}{y:Str}{py:Pos}{ifs:List Expr}{scope:Scope}{pos spos:Pos}{wi:TI}{g:TG}{tt:TT}{te:TE}{cl:List (Str×Addr)}{caps:List Str}{cap:List Nat}{i:Nat}
 (O:CompG X xs caps cap scope cl) (hc:X.calm=true) (hi:PI X tg iter wi) (hg:∀C fp s₀ H₀,PG (Q2 X (xs++caps) scope cl C fp s₀ H₀) tg g)
 (ht:∀C fp s₀ H₀,PF (Q2 X (xs++caps) scope cl C fp s₀ H₀) ifs tt) (he:∀C fp s₀ H₀,PE (Q2 X (xs++caps) scope cl C fp s₀ H₀) elt te)
 (hN:X.N.Nodup) (hy:X.N[i]?=some y) (hl:X.env.scope.names.lookup y=some .local)
 (hsw:swapsWith (.ListComp elt [⟨tg,iter,ifs,0⟩] scope pos) (some (.Name y py)) spos.line X.env=pure true:=by rfl)
 (hs:∀x,foldedSetIterable iter X.env x=pure x:=by intro _;rfl):
 PS X (.Assign [.Name y py] (.ListComp elt [⟨tg,iter,ifs,0⟩] scope pos) spos) (RJ (XO xs.length wi cap g tt te) (Zz i)):=by
 intro pins s σ H D I h;rw [exec_Assign_Name_used _ _ _ _ hsw];refine aA (wpAny_standAt (aA ?_));show wpAny _ X.A (do let _ <-comprehension (.ListComp elt [⟨tg,iter,ifs,0⟩] scope pos) scope X.env _ (newList []) false (eval iter X.env) (some (assign (.Name y py) X.env))) _ _ s;refine aA (thn (JF (use:=some (assign (.Name y py) X.env)) (QQ:=λ_ s'=>SP X pins D .next s') O hc hi hg ht he hs I h λJ C H' s' U o q=>?_) λ_ s' Y=>aD (aD Y));obtain⟨m,M⟩:=o.ns;show wpAny _ X.A (assign (.Name y py) X.env (.ref J)) _ _ s';refine wpAny_assign_Name (JP (v:=.ref J) U hN hy (.inl hl) rfl (λZ I2 F=>?_) (.inr hl));obtain⟨a,F,ha⟩:=F;have G:C≠a:=by
  rcases ha with z | z
  .rw [z];exact o.loc
  .exact aL (o.cells y a z)
 have o2:OwnAt X pins H' Z C:=⟨⟨m,M.sameBut F G⟩,o.free,o.loc,o.above,o.cells,o.pins⟩;refine⟨m,M.sameBut F G,λh' hb=>?_⟩;exact⟨_,H',o2.go I2 hb,q⟩
section
variable{xs:List Str}
theorem Zm(O:CompG X [x] caps cap scope cl):∀C fp s₀ H₀,PG (Q2 X ([x]++caps) scope cl C fp s₀ H₀) (.Name x px) (Zz 0):=λC fp s₀ H₀=>
 Qt (X:=Q2 X ([x]++caps) scope cl C fp s₀ H₀) (i:=0) O.nd rfl (.inl (fU (O.lx x (14:)))) (.inr (fU (O.lx x (14:))))
theorem M9{y:Str}{k:Nat}(O:CompG X [x,y] caps cap scope cl)(hc:X.calm=true):∀C fp s₀ H₀,PG (Q2 X ([x,y]++caps) scope cl C fp s₀ H₀) (.Tuple [.Name x px,.Name y py] k pos) (L6 X.K 2 (Ud (Zz 0) (Ud (Zz 1) ME))):=λC fp s₀ H₀=>
 Yu (X:=Q2 X ([x,y]++caps) scope cl C fp s₀ H₀) hc (QR (Qt (i:=0) O.nd rfl (.inl (fU (O.lx x (14:)))) (.inr (fU (O.lx x (14:)))))
  (QR (Qt (i:=1) O.nd rfl (.inl (fU (O.lx y (14:)))) (.inr (fU (O.lx y (14:))))) ZN))
end
theorem Xr{k:NameKind}{y:Str}:∀{l:List (Str×NameKind)},l.lookup y=some k->(y,k)∈l
 | [],h=>by simp at h
 | (n,j)::r,h=>by
  cases z:y==n with
  | true=>
   simp only [dU,z]at h;have:y=n:=by simpa using z
   cases h;rw [this];exact bA
  | false=>
   simp only [dU,z]at h;exact bC _ (Xr h)
theorem JJ{y:Str}{c:Addr}:∀{l:List (Str×Addr)},l.lookup y=some c->(y,c)∈l
 | [],h=>by simp at h
 | (n,j)::r,h=>by
  cases z:y==n with
  | true=>
   simp only [dU,z]at h;have:y=n:=by simpa using z
   cases h;rw [this];exact bA
  | false=>
   simp only [dU,z]at h;exact bC _ (JJ h)
theorem Js{y:Str}{c:Addr}:∀{l:List (Str×Addr)},(y,c)∈l->∃c',l.lookup y=some c'
 | [],h=>by cases h
 | (n,j)::r,h=>by
  cases D:y==n with
  | true=>exact⟨j,by simp only [dU,D]⟩
  | false=>
   simp only [dU,D];rcases aM.mp h with z | z
   .have:y=n:=congrArg Prod.fst z;rw [this]at D;simp at D
   .exact Js z
theorem Y4{y:Str}(hf:env.scope.kind=.function)(hy:env.kindOf y=some .cell):∀{names:List (Str×NameKind)},names.lookup y=some .free->
 (names.map λ(n,k)=>if(k==NameKind.free&&env.scope.kind== .function&&env.kindOf n==some .cell)then(n,NameKind.cell)else(n,k)).lookup y=some .cell
 | [],h=>by simp at h
 | (n,k)::r,h=>by
  show List.lookup y ((if(k==NameKind.free&&env.scope.kind== .function&&env.kindOf n==some .cell)=true then(n,NameKind.cell)else(n,k))::_)=_;cases z:y==n with
  | true=>
   simp only [dU,z]at h;have e:y=n:=by simpa using z
   cases h;rw [<-e,hf,hy];simp
  | false=>
   simp only [dU,z]at h;have D:=Y4 hf hy h;split
   .simp only [dU,z];exact D
   .simp only [dU,z];exact D
def Jw(names:List (Str×NameKind)):List Str:=names.filterMap λz=>if z.2==NameKind.free then some z.1 else none
theorem YS{env:Env}:∀(names:List (Str×NameKind))(caps:List Str)(cs:List Addr)(acc:List (Str×Addr)),Jw names=caps->caps.map (λy=>env.cells.lookup y)=cs.map some->
 (forIn names acc λ(x:Str×NameKind)(r:List (Str×Addr))=>(if(x.2==NameKind.free)=true then do let a <-cellOf env x.1;pure (ForInStep.yield ((x.1,a)::r))else pure (ForInStep.yield r):Sem (ForInStep (List (Str×Addr)))))=(pure ((caps.zip cs).reverse++acc):Sem (List (Str×Addr)))
 | [],caps,cs,acc,h1,h2=>by
  have:caps=[]:=h1.symm;subst this;simp
 | (n,k)::r,caps,cs,acc,h1,h2=>by
  rw [fH]
  by_cases z:(k==NameKind.free)=true
  .have e1:caps=n::Jw r:=by
    rw [<-h1];unfold Jw;rw [gA];simp only [z,cB]
   subst e1;cases cs with
   | nil=>simp at h2
   | cons c cs=>
    simp only [aS,List.cons.injEq]at h2;have D:cellOf env n=pure c:=by unfold cellOf;rw [h2.1]
    simp only [z,cB,D,pure_bind];rw [YS r _ cs ((n,c)::acc) rfl h2.2];simp
  .have e1:caps=Jw r:=by
    rw [<-h1];unfold Jw;rw [gA];simp only [z]
    rfl
   subst e1;simp only [z,dG,pure_bind];exact YS r _ cs acc rfl h2
theorem UF{cs:List Addr}(hf:Jw scope.names=caps)(hc:caps.map (λy=>env.cells.lookup y)=cs.map some):closureFor scope env=pure (caps.zip cs).reverse:=by
 have h:=YS (env:=env) scope.names caps cs [] hf hc;rw [dZ]at h;unfold closureFor;simp only [bind_pure];exact h
theorem CompG.many{xs:List Str}{cs:List Addr}(hk:scope.kind=.function)(hf:X.env.scope.kind=.function)(hfr:Jw scope.names=caps)
 (hnc:∀z∈scope.names,z.2≠.cell) (hl:∀y∈scope.names,y.2=.local->scope.names.lookup y.1=some .local) (hlx:∀x∈xs,scope.names.lookup x=some .local) (hnd:(xs++caps).Nodup)
 (hfl:∀y∈caps,scope.names.lookup y=some .free) (hce:caps.map (λy=>X.env.scope.names.lookup y)=caps.map λ_=>some .cell) (hcs:caps.map (λy=>X.env.cells.lookup y)=cs.map some)
 (hN:cap.map (λj=>X.N[j]?)=caps.map some):CompG X xs caps cap scope (caps.zip cs).reverse:=by
 have ab:caps.length=cs.length:=by simpa using congrArg List.length hcs
 have J:∀(i:Nat)(y:Str),caps[i]?=some y->∃c,cs[i]?=some c/\X.env.cells.lookup y=some c:=λi y h=>by
  have e:=congrArg (λl=>l[i]?) hcs;simp only [aI,h]at e;cases q:cs[i]? with
  | none=>rw [q]at e;simp at e
  | some c=>rw [q]at e;exact⟨c,rfl,by simpa using e⟩
 refine⟨UF hfr hcs,hnc,hk,hl,hlx,hnd,λy c h=>?_,λy h=>?_,?_,λi y h=>?_⟩
 .have G:=JJ h;rw [List.mem_reverse]at G;obtain⟨i,hi,e⟩:=cO G;have Y:i<caps.length:=by rw [List.length_zip]at hi;lia
  have M:i<cs.length:=by rw [List.length_zip]at hi;lia
  rw [List.getElem_zip]at e;obtain⟨c',e1,e2⟩:=J i caps[i] (aB Y);have e3:caps[i]=y:=congrArg Prod.fst e;have e4:cs[i]=c:=congrArg Prod.snd e;rw [aB M,e4]at e1;cases e1;rw [<-e3];exact e2
 .have G:y∈caps:=by
   have U:∀k:NameKind,(k=.cell\/k=.free)->(relabel scope X.env).names.lookup y=some k->y∈caps:=λk hk h=>by
    have h1:=Xr h;obtain⟨z,Z,e⟩:=aT.mp h1;obtain⟨n,kk⟩:=z;have D:kk=.free/\n=y:=by
     dsimp only at e;split at e
     .rename_i q;simp only [bD]at q;exact⟨by simpa using q.1.1,congrArg Prod.fst e⟩
     .have e2:kk=k:=congrArg Prod.snd e;refine⟨?_,congrArg Prod.fst e⟩;rcases hk with z | z
      .exact absurd (e2.trans z) (hnc _ Z)
      .exact e2.trans z
    rw [<-hfr];refine dQ.mpr ⟨(n,kk),Z,?_⟩;rw [D.1,D.2];rfl
   rcases h with h | h
   .exact U _ (.inl rfl) h
   .exact U _ (.inr rfl) h
  obtain⟨i,hi,e⟩:=cO G;have M:i<cs.length:=by lia
  refine Js (c:=cs[i]) ?_;rw [List.mem_reverse];have aa:i<(caps.zip cs).length:=by rw [List.length_zip];lia
  have:=aZ aa;rw [List.getElem_zip,e]at this;exact this
 .have:=congrArg List.length hN
  simpa using this
 .have e:=congrArg (λl=>l[i]?) hN;simp only [aI,h]at e;have G:=aN h;cases q:cap[i]? with
  | none=>rw [q]at e;simp at e
  | some j=>
   rw [q]at e;have F:X.env.scope.names.lookup y=some .cell:=by
    have e2:=congrArg (λl=>l[i]?) hce
    simpa only [aI,h,eI,Option.some.injEq]using e2
   exact⟨j,rfl,by simpa using e,F,Y4 hf F (hfl y G)⟩
theorem Zj{J:It}{n N:Nat}{cs:St}{g:TG}{tt:TT}{te:TE}{H1:Hp}{acc:Addr}{Q:Hp->Prop}(Pv:Nat->List V->Hp->Prop)(h0:Pv 0 [] (upd H1 acc (.lst [])))
 (hstop:∀ys H,Pv N ys H->J.stop N H/\Q H)
 (hstep:∀i ys H,i<N->Pv i ys H->J.go i H/\∀x H3,J.yld i H x H3->∀as:St,as.length=n->g x (as++cs) H3 λσ4 H4=>(∃bs:St,bs.length=n/\σ4=bs++cs)/\tt σ4 H4 λok H5=>if ok=true then te σ4 H5 (L5 N Pv acc i (N-i))else ∃m',m'<N-i/\Wf N Pv (i+1) m' H5):
 ∃W:Nat->Nat->Hp->Prop,(∃m,W 0 m (upd H1 acc (.lst [])))/\∀i m H2,W i m H2->
  (J.stop i H2/\Q H2)\/(J.go i H2/\∀x H3,J.yld i H2 x H3->∀as:St,as.length=n->g x (as++cs) H3 λσ4 H4=>(∃bs:St,bs.length=n/\σ4=bs++cs)/\tt σ4 H4 λok H5=>if ok=true then
   te σ4 H5 (λy H6=>∃ys,H6 acc=some (.lst ys)/\ys.length<sizeLine/\∃m',m'<m/\W (i+1) m' (upd H6 acc (.lst (ys++[y]))))
   else ∃m',m'<m/\W (i+1) m' H5):=by
 refine⟨Wf N Pv,⟨N-0,rfl,bK _,[],h0⟩,?_⟩;rintro i m H2 ⟨rfl,hi,ys,p⟩
 by_cases h:i<N
 .exact .inr (hstep i ys H2 h p)
 .have e:i=N:=by lia
  subst e;exact .inl (hstop ys H2 p)
abbrev Ll(N:Nat)(Pv:Nat->List V->Hp->Prop)(acc:Addr)(i:Nat)(te:TE)(σ:St):Bool->Hp->Prop:=λok H5=>if ok=true then te σ H5 (L5 N Pv acc i (N-i))else ∃m',m'<N-i/\Wf N Pv (i+1) m' H5
abbrev Jx(J:It)(n:Nat)(cs:St)(g:TG)(tt:TT)(te:TE)(H1:Hp)(acc:Addr)(Q:Hp->Prop):Prop:=
 ∃W:Nat->Nat->Hp->Prop,(∃m,W 0 m (upd H1 acc (.lst [])))/\∀i m H2,W i m H2->
  (J.stop i H2/\Q H2)\/(J.go i H2/\∀x H3,J.yld i H2 x H3->∀as:St,as.length=n->g x (as++cs) H3 λσ4 H4=>(∃bs:St,bs.length=n/\σ4=bs++cs)/\tt σ4 H4 λok H5=>if ok=true then
   te σ4 H5 (λy H6=>∃ys,H6 acc=some (.lst ys)/\ys.length<sizeLine/\∃m',m'<m/\W (i+1) m' (upd H6 acc (.lst (ys++[y]))))
   else ∃m',m'<m/\W (i+1) m' H5)
section
variable{K:Fg}{cs:St}{Q:Hp->Prop}
theorem ZD(Pv:Nat->List V->Hp->Prop)(h0:Pv 0 [] (upd H1 acc (.lst [])))(hl:∀i ys H,i<=xs.length->Pv i ys H->SqL K H a xs)
 (hs:∀i x ys H,i<xs.length->xs[i]?=some x->Pv i ys H->tt (some x::cs) H (Ll xs.length Pv acc i te (some x::cs))) (hd:∀ys H,Pv xs.length ys H->Q H):Jx (Itl K a) 1 cs (Zz 0) tt te H1 acc Q:=by
 refine Zj Pv h0 (λys H p=>⟨⟨xs,hl _ _ _ (4:) p,bB _⟩,hd ys H p⟩) λi ys H hi p=>⟨⟨xs,xs[i],hl _ _ _ (cS hi) p,aB hi⟩,?_⟩;rintro x J ⟨rfl,F⟩ G z;obtain⟨D,rfl⟩: ∃D,G=[D]:=gX.mp z;exact⟨⟨[some x],rfl,rfl⟩,hs i x ys _ hi (F xs (hl _ _ _ (cS hi) p)) p⟩
theorem VM(Pv:Nat->List V->Hp->Prop)(h0:Pv 0 [] (upd H1 acc (.lst [])))(hl:∀i ys H,i<=xs.length->Pv i ys H->SqT K H a xs)
 (hs:∀i x ys H,i<xs.length->xs[i]?=some x->Pv i ys H->tt (some x::cs) H (Ll xs.length Pv acc i te (some x::cs))) (hd:∀ys H,Pv xs.length ys H->Q H):Jx (Itt K a) 1 cs (Zz 0) tt te H1 acc Q:=by
 refine Zj Pv h0 (λys H p=>⟨⟨xs,hl _ _ _ (4:) p,bB _⟩,hd ys H p⟩) λi ys H hi p=>⟨⟨xs,xs[i],hl _ _ _ (cS hi) p,aB hi⟩,?_⟩;rintro x J ⟨rfl,F⟩ G z;obtain⟨D,rfl⟩: ∃D,G=[D]:=gX.mp z;exact⟨⟨[some x],rfl,rfl⟩,hs i x ys _ hi (F xs (hl _ _ _ (cS hi) p)) p⟩
theorem Z2{lo:Int}{n:Nat}(Pv:Nat->List V->Hp->Prop)(h0:Pv 0 [] (upd H1 acc (.lst [])))
 (hs:∀i ys H,i<n->Pv i ys H->tt (some (.int (lo+i))::cs) H (Ll n Pv acc i te (some (.int (lo+i))::cs))) (hd:∀ys H,Pv n ys H->Q H):Jx (Itr lo n) 1 cs (Zz 0) tt te H1 acc Q:=by
 refine Zj Pv h0 (λys H p=>⟨bB _,hd ys H p⟩) λi ys H hi p=>⟨hi,?_⟩;rintro x G ⟨rfl,rfl⟩ F z;obtain⟨D,rfl⟩: ∃D,F=[D]:=gX.mp z;exact⟨⟨[some _],rfl,rfl⟩,hs i ys _ hi p⟩
theorem X7{as:St}(h:as.length=2):∃a0 a1,as=[a0,a1]:=by
 match as,h with
 | [a0,a1],_=>exact⟨a0,a1,rfl⟩
theorem O2(Pv:Nat->List V->Hp->Prop)(h0:Pv 0 [] (upd H1 acc (.lst [])))(hl:∀i ys H,i<=xs.length->Pv i ys H->SqL K H a xs)
 (hs:∀i x ys H,i<xs.length->xs[i]?=some x->Pv i ys H->∃p u v,x=.ref p/\SqT K H p [u,v]/\tt (some u::some v::cs) H (Ll xs.length Pv acc i te (some u::some v::cs))) (hd:∀ys H,Pv xs.length ys H->Q H):Jx (Itl K a) 2 cs (L6 K 2 (Ud (Zz 0) (Ud (Zz 1) ME))) tt te H1 acc Q:=by
 refine Zj Pv h0 (λys H p=>⟨⟨xs,hl _ _ _ (4:) p,bB _⟩,hd ys H p⟩) λi ys H hi p=>⟨⟨xs,xs[i],hl _ _ _ (cS hi) p,aB hi⟩,?_⟩;rintro x G ⟨rfl,D⟩ J z;obtain⟨M,U,rfl⟩:=X7 z;obtain⟨q,u,v,rfl,F,h⟩:=hs i x ys _ hi (D xs (hl _ _ _ (cS hi) p)) p;exact⟨q,[u,v],rfl,F,rfl,u,[v],rfl,v,[],rfl,rfl,⟨[some u,some v],rfl,rfl⟩,h⟩
end
section
variable{κ:Type} [DecidableEq κ]
def valV(kvs:List (κ×V))(k:κ):Option V:=(kvs.find? λkv=>decide (kv.1=k)).map (·.2)
def putK(kvs:List (κ×V))(k:κ)(v:V):List (κ×V):=
 if(kvs.any λkv=>decide (kv.1=k))=true then kvs.map (λkv=>if kv.1=k then(kv.1,v)else kv)else kvs++[(k,v)]
theorem Q0{p:κ×V}{r:List (κ×V)}{k:κ}(e:p.1=k):valV (p::r) k=some p.2:=by simp [valV,dD,e]
theorem QW{p:κ×V}{r:List (κ×V)}{k:κ}(e:¬p.1=k):valV (p::r) k=valV r k:=by simp [valV,dD,e]
theorem Yo(k:κ):∀kvs:List (κ×V),(kvs.any λkv=>decide (kv.1=k))=(valV kvs k).isSome
 | []=>rfl
 | p::r=>by
  rw [List.any_cons]
  by_cases e:p.1=k
  .simp only [Q0 e,bW e,Bool.true_or,Option.isSome_some]
  .rw [QW e,bN e,Bool.false_or];exact Yo k r
theorem W5(k j:κ)(y:V):∀kvs:List (κ×V),valV (kvs.map λkv=>if kv.1=k then(kv.1,y)else kv) j=(valV kvs j).map λx=>if j=k then y else x
 | []=>rfl
 | p::r=>by
  have D:=W5 k j y r;rw [aS]
  by_cases h:p.1=k
  .rw [aE h]
   by_cases e:p.1=j
   .rw [Q0 (p:=(p.1,y)) e,Q0 e,eI,aE (e.symm.trans h)]
   .rw [QW (p:=(p.1,y)) e,QW e,D]
  .rw [aF h]
   by_cases e:p.1=j
   .rw [Q0 (p:=p) e,Q0 e,eI,aF (λz=>h (e.trans z))]
   .rw [QW (p:=p) e,QW e,D]
theorem Xs(k j:κ)(y:V):∀kvs:List (κ×V),valV kvs k=none->valV (kvs++[(k,y)]) j=if j=k then some y else valV kvs j
 | [],_=>by
  by_cases e:k=j
  .rw [aE e.symm];exact Q0 (p:=(k,y)) e
  .rw [aF (λz=>e z.symm)];exact QW (p:=(k,y)) e
 | p::r,hn=>by
  rw [List.cons_append];have D:¬p.1=k:=λz=>by rw [Q0 z]at hn;cases hn
  rw [QW D]at hn;have F:=Xs k j y r hn
  by_cases e:p.1=j
  .rw [Q0 e,Q0 e,aF (λz=>D (e.trans z))]
  .rw [QW e,QW e,F]
theorem UZ(kvs:List (κ×V))(k j:κ)(y:V):valV (putK kvs k y) j=if j=k then some y else valV kvs j:=by
 unfold putK
 by_cases a:(kvs.any λz=>decide (z.1=k))=true
 .rw [aE a,W5];rw [Yo]at a
  by_cases e:j=k
  .obtain⟨x,D⟩:=Option.isSome_iff_exists.mp a;rw [aE e,e,D,eI,aE rfl]
  .rw [aF e];cases valV kvs j with
   | none=>rfl
   | some x=>rw [eI,aF e]
 .rw [aF a];refine Xs k j y kvs ?_;rw [Yo]at a;cases q:valV kvs k with
  | none=>rfl
  | some x=>rw [q]at a;exact(a rfl).elim
theorem Yw(kvs:List (κ×V))(k:κ)(v:V):(putK kvs k v).length<=kvs.length+1:=by
 unfold putK;split
 .rw [aC];lia
 .rw [bE,cD,List.length_nil];lia
theorem MR{kvs:List (κ×V)}{k:κ}(v:V)(h:valV kvs k=none):putK kvs k v=kvs++[(k,v)]:=by
 unfold putK;rw [Yo,h];exact aF (18:)
theorem RelO.isSome_eq{o:Option V}{u:Option Value}(r:RelO o u):o.isSome=u.isSome:=by
 cases o with
 | none=>cases u with
  | none=>rfl
  | some _=>exact(show False from r).elim
 | some _=>cases u with
  | none=>exact(show False from r).elim
  | some _=>rfl
theorem RelO.getD{o:Option V}{u:Option Value}{d:V}{d':Value}(r:RelO o u)(rd:RelV d d'):RelV (o.getD d) (u.getD d'):=by
 cases o with
 | none=>cases u with
  | none=>exact rd
  | some _=>exact(show False from r).elim
 | some _=>cases u with
  | none=>exact(show False from r).elim
  | some _=>exact r
theorem KV.val{kvs:List (κ×V)}{vs:List (κ×Value)}(r:KV kvs vs)(k:κ):RelO (valV kvs k) (valueAt vs k):=by
 unfold KV at r
 induction r with
 | nil=>exact dF
 | @cons p q ps D h t G=>
  obtain⟨h1,h2⟩:=h
  by_cases e:p.1=k
  .have F:q.1=k:=h1.symm.trans e;have b:valueAt (q::D) k=some q.2:=by simp [valueAt,dD,F]
   rw [Q0 e,b];exact h2
  .have F:¬q.1=k:=λz=>e (h1.trans z);have b:valueAt (q::D) k=valueAt D k:=by simp [valueAt,dD,F]
   rw [QW e,b];exact G
theorem KV.any{kvs:List (κ×V)}{vs:List (κ×Value)}(r:KV kvs vs)(k:κ):(kvs.any λkv=>decide (kv.1=k))=vs.any λkv=>decide (kv.1=k):=by
 unfold KV at r
 induction r with
 | nil=>rfl
 | cons h t z=>rw [List.any_cons,List.any_cons,z,h.1]
theorem KV.repl{kvs:List (κ×V)}{vs:List (κ×Value)}(r:KV kvs vs)(k:κ)(ry:RelV y u):
 KV (kvs.map λkv=>if kv.1=k then(kv.1,y)else kv) (vs.map λkv=>if kv.1=k then(kv.1,u)else kv):=by
 unfold KV at r ⊢
 induction r with
 | nil=>exact .nil
 | @cons p q ps F h t D=>
  rw [aS,aS];refine .cons ?_ D;obtain⟨h1,h2⟩:=h
  by_cases e:p.1=k
  .rw [aE e,aE (h1.symm.trans e)];exact⟨h1,ry⟩
  .rw [aF e,aF (λz=>e (h1.trans z))];exact⟨h1,h2⟩
theorem KV.put{kvs:List (κ×V)}{vs:List (κ×Value)}(r:KV kvs vs)(k:κ)(ry:RelV y u):KV (putK kvs k y) (stored vs k u):=by
 unfold putK stored;rw [r.any k]
 by_cases e:(vs.any λz=>decide (z.1=k))=true
 .rw [aE e,aE e];exact r.repl k ry
 .rw [aF e,aF e];exact Paired.snoc r ⟨rfl,ry⟩
theorem KV.length{kvs:List (κ×V)}{vs:List (κ×Value)}(r:KV kvs vs):kvs.length=vs.length:=Paired.length r
end
theorem Y8{P:Program}{w:World}{k:Key}{u:Value}(r:RelV (kV k) u):(Qv P w).is k u=true:=by
 cases k with
 | inl i=>obtain⟨t,e⟩:=(show ∃t,u=Value.int i t from r);subst e;exact Wr P w i t
 | inr x=>obtain⟨t,e⟩:=(show ∃t,u=Value.str x t from r);subst e;exact Va P w x t
theorem JQ:∀{ks:List Key}{us:List Value},Vals (ks.map kV) us->ItemsAre (Qv P w) ks us
 | [],_,r=>by rw [gq]at r;cases r;exact .nil
 | k::ks,_,r=>by
  rw [aS]at r;cases r with
  | cons h t=>exact .cons (Y8 h) (JQ t)
abbrev KT(H:Hp):List (List Key×V)->List (List Key×Addr×Value)->Prop:=Paired λp q=>p.1=q.1/\H q.2.1=some (.tup (p.1.map kV))/\RelV p.2 q.2.2
theorem KT.val{kvs:List (List Key×V)}{xs:List (List Key×Addr×Value)}(r:KT H kvs xs)(k:List Key):RelO (valV kvs k) ((atKey xs k).map (·.2)):=by
 induction r with
 | nil=>exact dF
 | @cons p q ps D h t G=>
  obtain⟨h1,_,h2⟩:=h
  by_cases e:p.1=k
  .have F:q.1=k:=h1.symm.trans e;have b:atKey (q::D) k=some q.2:=by simp [atKey,dD,F]
   rw [Q0 e,b];exact h2
  .have F:¬q.1=k:=λz=>e (h1.trans z);have b:atKey (q::D) k=atKey D k:=by simp [atKey,dD,F]
   rw [QW e,b];exact G
theorem KT.repl{kvs:List (List Key×V)}{xs:List (List Key×Addr×Value)}(r:KT H kvs xs)(k:List Key)(ry:RelV y u):
 KT H (kvs.map λkv=>if kv.1=k then(kv.1,y)else kv) (xs.map (putAt k u)):=by
 induction r with
 | nil=>exact .nil
 | @cons p q ps G h t D=>
  rw [aS,aS];refine .cons ?_ D;obtain⟨h1,h2,F⟩:=h;unfold putAt
  by_cases e:p.1=k
  .rw [aE e,aE (h1.symm.trans e)];exact⟨h1,h2,ry⟩
  .rw [aF e,aF (λz=>e (h1.trans z))];exact⟨h1,h2,F⟩
theorem KT.put{kvs:List (List Key×V)}{xs:List (List Key×Addr×Value)}(r:KT H kvs xs)(k:List Key)(hb:H b=some (.tup (k.map kV)))(ry:RelV y u):
 KT H (putK kvs k y) (storedH xs k b u):=by
 have e:(kvs.any λz=>decide (z.1=k))=(atKey xs k).isSome:=by
  rw [Yo,(r.val k).isSome_eq,Option.isSome_map]
 unfold putK storedH;rw [e]
 by_cases q:(atKey xs k).isSome=true
 .rw [aE q,aE q];exact r.repl k ry
 .rw [aF q,aF q];exact Paired.snoc r ⟨rfl,hb,ry⟩
theorem KT.keeps{kvs:List (List Key×V)}{xs:List (List Key×Addr×Value)}(r:KT H kvs xs)(ht:∀b ys,H b=some (.tup ys)->H' b=some (.tup ys)):KT H' kvs xs:=
 Paired.mapP r λ_ _ z=>⟨z.1,ht _ _ z.2.1,z.2.2⟩
section
variable{h:Heap}
theorem Pf{u:HO}(ok:HOk P w H h)(e:Rd H a u):ObjOk P w H h a u:=e.ok ok
theorem JD(ok:HOk P w H h)(e:Rd H a (.dK kvs)):kvs.length<=sizeLine/\(a==sysModules)=false/\∃vs,KV kvs vs/\h.DictOf (Qv P w) a vs:=
 show ObjOk P w H h a (.dK kvs)from Pf ok e
theorem Xn(ok:HOk P w H h)(e:H a=some (.dK kvs)):kvs.length<=sizeLine/\(a==sysModules)=false/\∃vs,KV kvs vs/\h.DictOf (Qv P w) a vs:=JD ok (.inl e)
theorem Ui{ks:List Key}(ok:HOk P w H h)(e:H a=some (.tup (ks.map kV))):(tupleKind (Qv P w)).is h ks a:=by
 obtain⟨_,its,r,o,h1,h2,n,z⟩:=(show ObjOk P w H h a (.tup (ks.map kV))from ok a _ e);exact⟨o,its.toArray,n,h1,h2,z,by simpa using JQ r⟩
theorem UX{kvs:List (List Key×V)}(ok:HOk P w H h)(e:Rd H a (.dT kvs)):kvs.length<=sizeLine/\(a==sysModules)=false/\
 ∃xs,KT H kvs xs/\h.DictOfH (tupleKind (Qv P w)) a xs:=by
 obtain⟨z,y,xs,r,o,es,F,h1,h2,G,J,M⟩:=(show ObjOk P w H h a (.dT kvs)from Pf ok e);refine⟨z,y,xs,r,o,es,F,h1,h2,G,J,λx hx=>?_,M⟩;have all:∀{l:List (List Key×V)}{m:List (List Key×Addr×Value)},KT H l m->∀x∈m,(tupleKind (Qv P w)).is h x.1 x.2.1:=by
  intro l m q
  induction q with
  | nil=>intro x hx;exact nomatch hx
  | @cons p q ps Y D t U=>
   intro x hx;rcases aM.mp hx with e | hx
   .subst e;exact Ui ok (by rw [<-D.1];exact D.2.1)
   .exact U x hx
 exact all r x hx
theorem Sw{kvs:List (List Key×V)}(ok:HOk P w H h)(e:H a=some (.dT kvs)):kvs.length<=sizeLine/\(a==sysModules)=false/\
 ∃xs,KT H kvs xs/\h.DictOfH (tupleKind (Qv P w)) a xs:=UX ok (.inl e)
end
def DGet(H:Hp)(a:Addr)(y:V)(r:Option V):Prop:=
 (∃kvs k,Rd H a (.dK kvs)/\y=kV k/\r=valV kvs k)\/∃kvs k b,Rd H a (.dT kvs)/\y=.ref b/\H b=some (.tup (k.map kV))/\r=valV kvs k
def DPut(H:Hp)(a:Addr)(y v:V)(H':Hp):Prop:=
 (∃kvs k,H a=some (.dK kvs)/\y=kV k/\kvs.length<sizeLine/\H'=upd H a (.dK (putK kvs k v))) \/
 ∃kvs k b,H a=some (.dT kvs)/\y=.ref b/\H b=some (.tup (k.map kV))/\kvs.length<sizeLine/\H'=upd H a (.dT (putK kvs k v))
theorem DGet.k{H:Hp}{a:Addr}{kvs:List (Key×V)}{k:Key}(e:H a=some (.dK kvs)):DGet H a (kV k) (valV kvs k):=.inl ⟨kvs,k,.inl e,rfl,rfl⟩
theorem DPut.t{H:Hp}{a b:Addr}{kvs:List (List Key×V)}{k:List Key}{v:V}(e:H a=some (.dT kvs))(eb:H b=some (.tup (k.map kV)))(hl:kvs.length<sizeLine):
 DPut H a (.ref b) v (upd H a (.dT (putK kvs k v))):=.inr ⟨kvs,k,b,e,rfl,eb,hl,rfl⟩
section
variable{pins:List (8:)}{σ:St}{v:V}{r:Value}{o:Option V}
theorem Inv.big(I:Inv X pins σ H s):sysModules<s.heap.objs.size:=by
 have h:mainGlobals<s.heap.objs.size:=(I.mod.glob.keeps I.bk).lt;exact Nat.lt_trans (18:) h
theorem Lw(hu:A.units+1<cLine)(I:Inv X pins σ H s)(g:DGet H a y (some v))(ry:RelV y u)(h:∀w' s',Inv X pins σ H s'->RelV v w'->Q w' s'):
 wpAny (6:) A (getItem (.ref a) u) Q E s:=by
 rcases g with⟨kvs,k,e,G,l⟩ | ⟨kvs,k,b,e,G,Y,l⟩
 .subst G;obtain⟨z,hd,Z,D,J⟩:=JD I.hok e;obtain⟨w',M,F⟩:=RelO.some_of (v:=v) (o:=valueAt Z k) (by rw [l];exact D.val k);exact wpAny_getItem_of (Y8 ry) J.mapOf M (h w' _ (I.tok _) F)
 .subst G;cases (show u=Value.ref b from ry);obtain⟨z,hd,xs,D,J⟩:=UX I.hok e;obtain⟨w',M,F⟩:=RelO.some_of (v:=v) (o:=(atKey xs k).map (·.2)) (by rw [l];exact D.val k);obtain⟨p,hp,U⟩:=Option.map_eq_some_iff.mp M;refine wpAny_getItem_heap (gE hu) (Ui I.hok Y) J hp ?_;rw [U];exact h w' _ (I.tok _) F
theorem N2(hu:A.units+1<cLine)(I:Inv X pins σ H s)(g:DGet H a y o)(ry:RelV y u)(h:∀s',Inv X pins σ H s'->Q (.bool (!o.isSome)) s'):
 wpAny (6:) A (compareOp .NotIn u (.ref a)) Q E s:=by
 rcases g with⟨kvs,k,e,F,l⟩ | ⟨kvs,k,b,e,F,J,l⟩
 .subst F;obtain⟨z,hd,M,D,G⟩:=JD I.hok e;refine wpAny_notIn_of (Y8 ry) hd G.mapOf ?_;rw [<-(D.val k).isSome_eq,<-l];exact h _ (I.tok _)
 .subst F;cases (show u=Value.ref b from ry);obtain⟨z,hd,xs,D,G⟩:=UX I.hok e;refine wpAny_notIn_heap (gE hu) (Ui I.hok J) hd G ?_;have q:=(D.val k).isSome_eq;rw [Option.isSome_map]at q;rw [<-q,<-l];exact h _ (I.tok _)
theorem Wc{ob:HO}(I:Inv X pins σ H s)(mu:Mut (H a))(hs:Heap.SameBut a s.heap h')(he:∃q,h'.get? a=some q)(new:ObjOk X.prog X.w (upd H a ob) h' a ob):
 Inv X pins σ (upd H a ob) { s with heap:=h',toks:=t' }:=
 I.write (x:=a) (e:=a) mu (.inl rfl) (λb q D z=>(hs.2 b D).trans z) he new
theorem XV{vs:List (Key×Value)}(z:kvs.length<=sizeLine)(hd:(a==sysModules)=false)(rel:KV kvs vs)(dd:h'.DictOf (Qv P w) a vs):
 ObjOk P w H' h' a (.dK kvs):=⟨z,hd,vs,rel,dd⟩
theorem G6{Q:Unit->Shared->Prop}(hu:A.units+1<cLine)(I:Inv X pins σ H s)(g:DPut H a y v H')(ry:RelV y u)(rv:RelV v r)(h:∀s',Inv X pins σ H' s'->Q () s'):
 wpAny (6:) A (setItem (.ref a) u r) Q E s:=by
 rcases g with⟨kvs,k,e,J,l,M⟩ | ⟨kvs,k,b,e,J,eb,l,M⟩
 .subst J M;obtain⟨z,hd,vs,D,U⟩:=Xn I.hok e;have Y:vs.length<=sizeLine:=by rw [<-D.length];exact z
  have Z:(putK kvs k v).length<=sizeLine:=by have:=Yw kvs k v;lia
  refine wpAny_setItem_pairs (hsz:=Y) (Y8 ry) U λh' F hs=>h _ ?_;have he:∃q,h'.get? a=some q:=let⟨q,_,_,G,_⟩:=F;⟨q,G⟩
  exact Wc I (by rw [e];exact dF) hs he (XV Z hd (D.put k rv) F)
 .subst J M;cases (show u=Value.ref b from ry);obtain⟨z,hd,xs,D,U⟩:=Sw I.hok e;have Y:xs.length<=sizeLine:=by rw [<-Paired.length D];exact z
  have Z:(putK kvs k v).length<=sizeLine:=by have:=Yw kvs k v;lia
  refine wpAny_setItem_heap (hsz:=Y) (gE hu) (Ui I.hok eb) U λh' F hs=>h _ ?_;obtain⟨q,es,ep,G,h2,h3,h4,_,h5⟩:=F;refine Wc I (by rw [e];exact dF) hs ⟨q,G⟩ ⟨Z,hd,_,(D.put k eb rv).keeps λc ys ec=>?_,q,es,ep,G,h2,h3,h4,h5⟩;rw [Qi (QM ec e (λz=>nomatch z))];exact ec
end
section
variable{pins:List (8:)}{σ:St}{k:Key}
end
def SN(i:Expr):Prop:=∀ov iv,subscripted i false ov iv=operate [ov,iv] (getItem ov iv)
theorem OR{slice:Expr}{T id:String}
 (hl:typeLookup (.type T) "__getitem__"=pure (some (.builtin id))) (hs:SN slice)
 (h:wpAny (11:) A (eval value env) (λo s₁=>wpAny (11:) A (eval slice env) (λi s₂=>s₂.TypeIs o T/\wpAny (11:) A (getItem o i) Q E s₂) E s₁) E s):
 wpAny (11:) A (eval (.Subscript value slice pos) env) Q E s:=by
 refine Subscript_ (bS h (λo s₁ G=>bS G (λi s₂ z=>?_) λ_ _ x=>x) λ_ _ x=>x);obtain⟨D,z⟩:=z;unfold subscriptTail;refine aA ?_;rw [getitemInPython_of_ne D.not_modules];refine aA (wpAny_specialOf D hl ?_);have fin:wpAny (11:) A (subscripted slice false o i) (λr F=>wpAny (11:) A (letTemporaryGo value o r>>=λ_=>pure r) Q E F) E s₂:=by
  rw [hs o i];exact wpAny_operating (bS z (λr F J=>aA (wpAny_letTemporaryGo (aD J))) λ_ _ x=>x)
 first
  | exact aD (aA fin)
  | exact aA (aD (aA fin))
  | exact aA fin
theorem Vb{pins:List (8:)}{σ:St}{o:Option V}(I:Inv X pins σ H s)(g:DGet H a y o):s.TypeIs (.ref a) "dict":=by
 rcases g with⟨kvs,k,e,_,_⟩ | ⟨kvs,k,b,e,_,_,_⟩
 .obtain⟨_,_,D,_,z⟩:=JD I.hok e;exact z.typeIs
 .obtain⟨_,_,xs,_,z⟩:=UX I.hok e;exact z.typeIs
def Si(td ty:TE):TE:=λσ H Q=>td σ H λx H1=>ty σ H1 λy H2=>∃a v,x=.ref a/\DGet H2 a y (some v)/\Q v H2
def Oa(ty td:TE):TE:=λσ H Q=>ty σ H λy H1=>td σ H1 λx H2=>∃a o,x=.ref a/\DGet H2 a y o/\Q (.bl (!o.isSome)) H2
def SL(td ty tv:TE):TS:=λD σ H=>tv σ H λv H1=>td σ H1 λx H2=>ty σ H2 λy H3=>∃a H4,x=.ref a/\DPut H3 a y v H4/\D.nx σ H4
section
variable{o i:Expr}{td:TE}
theorem Zh(hu:X.A.units+1<cLine)(ho:PE X o td)(hi:PE X i ty)(hs:SN i):PE X (.Subscript o i pos) (Si td ty):=by
 intro pins s σ H Q I h;refine OR PySem.F.slot_dict_getitem.lookup hs (thn (ho pins s σ H _ I h) λu G ⟨x,H1,J,M,U⟩=>thn (hi pins G σ H1 _ J U) λiv s2 ⟨y,H2,z,Y,a,v,ex,g,Z⟩=>?_);subst ex;obtain rfl:u=Value.ref a:=M;exact⟨Vb z g,Lw hu z g Y λw' s3 I3 D=>⟨v,H2,I3,D,Z⟩⟩
theorem Lr(hu:X.A.units+1<cLine)(hi:PE X i ty)(ho:PE X o td):PC X .NotIn i o (Oa ty td):=by
 intro pins s σ H Q I h;refine thn (hi pins s σ H _ I h) λiv z ⟨y,H1,D,F,G⟩=>thn (ho pins z σ H1 _ D G) λu s2 ⟨x,H2,J,M,a,U,ex,g,Y⟩=>?_;subst ex;obtain rfl:u=Value.ref a:=M;exact N2 hu J g F λs3 Z=>⟨.bl (!U.isSome),H2,Z,rfl,Y⟩
theorem XB(hu:X.A.units+1<cLine)(ho:PE X o td)(hi:PE X i ty)(hv:PE X value tv)(hs:swapsWith value (some (.Subscript o i pos')) pos.line X.env=pure false):
 PS X (.Assign [.Subscript o i pos'] value pos) (SL td ty tv):=by
 intro pins s σ H D I h;refine wpAny_Assign_Subscript (thn (hv pins s σ H _ I h) λr z ⟨v,H1,F,G,J⟩=>thn (ho pins z σ H1 _ F J) λu M ⟨x,H2,U,Y,Z⟩=>thn (hi pins M σ H2 _ U Z) λiv s3 ⟨y,H3,I3,ry,a,H4,ex,g,q3⟩=>?_) hs;subst ex;obtain rfl:u=Value.ref a:=Y;exact G6 hu I3 g ry G λs4 I4=>⟨σ,H4,I4,q3⟩
end
theorem WT(h:Heap)(hb:sysModules<h.objs.size):ObjOk P w H (h.push { cls:=.type "dict",data:=.dict #[] }) h.objs.size (.dK []):=
 ⟨bK _,fW.mpr (aL (aU hb)),[],.nil,Heap.DictOf.new h⟩
theorem MH(h:Heap)(hb:sysModules<h.objs.size):ObjOk P w H (h.push { cls:=.type "dict",data:=.dict #[] }) h.objs.size (.dT []):=
 ⟨bK _,fW.mpr (aL (aU hb)),[],.nil,_,#[],0,aQ _ rfl,⟨rfl,rfl,rfl⟩,rfl,rfl,List.nodup_nil⟩
def VA:TE:=λ_ H Q=>∀p,H p=none->Q (.ref p) (upd H p (.dK []))
def Rt:TE:=λ_ H Q=>∀p,H p=none->Q (.ref p) (upd H p (.dT []))
theorem WG:PE X (.Dict [] [] pos) VA:=λpins s σ H Q I h=>
 wpAny_Dict_empty ⟨.ref s.heap.objs.size,_,I.laid (a:=s.heap.objs.size) (o:=.dK []) (t':=s.toks) (λ_ _ q=>aG _ q) (4:) (WT s.heap I.big),rfl,h _ (I.hok.fresh (4:))⟩
theorem MG:PE X (.Dict [] [] pos) Rt:=λpins s σ H Q I h=>
 wpAny_Dict_empty ⟨.ref s.heap.objs.size,_,I.laid (a:=s.heap.objs.size) (o:=.dT []) (t':=s.toks) (λ_ _ q=>aG _ q) (4:) (MH s.heap I.big),rfl,h _ (I.hok.fresh (4:))⟩
def VQ:List (TE×TE)->St->Hp->(List (V×V)->Hp->Prop)->Prop
 | [],_,H,Q=>Q [] H
 | (tk,tv)::r,σ,H,Q=>tk σ H λx H1=>tv σ H1 λy H2=>VQ r σ H2 λps H3=>Q ((x,y)::ps) H3
abbrev VV:List (V×V)->List (Value×Value)->Prop:=Paired λp q=>RelV p.1 q.1/\RelV p.2 q.2
def PPs(X:Cx)(pos:Pos)(keys:List (Option Expr))(values:List Expr)(trs:List (TE×TE)):Prop:=
 ∀(pins:List (8:))(s:Shared)(σ:St)(H:Hp)(Q:List (V×V)->Hp->Prop),Inv X pins σ H s->VQ trs σ H Q->
  wpAny (6:) X.A (evalPairs (pairTrees keys values X.env pos)) (λvs s'=>∃ps H',Inv X pins σ H' s'/\VV ps vs/\Q ps H') X.xe s
theorem Ob:PPs X pos [] [] []:=λpins s σ H Q I h=>pairTrees_nil_walk ⟨[],H,I,.nil,h⟩
theorem Nh{k v:Expr}{ks:List (Option Expr)}{vs:List Expr}{tk:TE}(hk:PE X k tk)(hv:PE X v tv)(hr:PPs X pos ks vs trs):
 PPs X pos (some k::ks) (v::vs) ((tk,tv)::trs):=λpins s σ H Q I h=>
 pairTrees_cons_walk (thn (hk pins s σ H _ I h) λu D ⟨x,H1,F,G,J⟩=>thn (hv pins D σ H1 _ F J) λw2 M ⟨y,H2,U,Y,Z⟩=>
  thn (hr pins M σ H2 _ U Z) λws s3 ⟨ps,H3,I3,z,q3⟩=>⟨(x,y)::ps,H3,I3,.cons ⟨G,Y⟩ z,q3⟩)
def Uk(kvs more:List (Key×V)):List (Key×V):=more.foldl (λacc kv=>putK acc kv.1 kv.2) kvs
theorem KV.merge:∀{more:List (Key×V)}{rs:List (Key×Value)}{kvs:List (Key×V)}{vs:List (Key×Value)},KV more rs->KV kvs vs->KV (Uk kvs more) (merged vs rs):=by
 intro more rs kvs vs r;unfold KV at r
 induction r generalizing kvs vs with
 | nil=>intro q;exact q
 | @cons p q ps F h t z=>
  intro D;have e:KV (putK kvs p.1 p.2) (stored vs q.1 q.2):=by
   have:=D.put p.1 h.2;rw [<-h.1];exact this
  exact z e
theorem YO:∀(more kvs:List (Key×V)),(Uk kvs more).length<=kvs.length+more.length
 | [],kvs=>by show kvs.length<=kvs.length+0;lia
 | p::r,kvs=>by
  have h1:=YO r (putK kvs p.1 p.2);have h2:=Yw kvs p.1 p.2;show(Uk (putK kvs p.1 p.2) r).length<=_;rw [cD];lia
theorem U8{P:Program}{w:World}:∀{kvs:List (Key×V)}{ws:List (Value×Value)},VV (kvs.map λkv=>(kV kv.1,kv.2)) ws->∃rs,Carries (Qv P w) ws rs/\KV kvs rs
 | [],_,r=>by rw [gq]at r;cases r;exact⟨[],dF,.nil⟩
 | p::kvs,_,r=>by
  rw [aS]at r;cases r with
  | @cons a b D bs h t=>
   obtain⟨rs,c,q⟩:=U8 (P:=P) (w:=w) t;obtain⟨F,z⟩:=b;exact⟨(p.1,z)::rs,⟨Y8 h.1,rfl,c⟩,.cons ⟨rfl,h.2⟩ q⟩
def Sa(trs:List (TE×TE)):TE:=λσ H Q=>∀p,H p=none->VQ trs σ (upd H p (.dK [])) λps H2=>H2 p=some (.dK [])/\∃kvs:List (Key×V),ps=kvs.map (λkv=>(kV kv.1,kv.2))/\kvs.length<=15/\Q (.ref p) (upd H2 p (.dK (Uk [] kvs)))
theorem OI{keys:List (Option Expr)}{values:List Expr}(h:PPs X pos keys values trs)(hall:keys.all (·.isSome)=true)(hl:keys.length=values.length)(h0:keys≠[])
 (h15:keys.length<=15):PE X (.Dict keys values pos) (Sa trs):=by
 intro pins s σ H Q I q;have J:=I.hok.fresh (bB s.heap.objs.size);have M:=I.laid (a:=s.heap.objs.size) (o:=.dK []) (h':=s.heap.push { cls:=.type "dict",data:=.dict #[] }) (t':=s.toks) (λ_ _ q=>aG _ q) (4:) (WT s.heap I.big);refine wpAny_Dict_walk (knd:=Qv X.prog X.w) hall hl h0 h15 (thn (h pins _ σ _ _ M (q _ J)) λws s2 ⟨ps,H2,F,G,e,kvs,U,lk,Y⟩=>?_);subst U;obtain⟨Z,c,rk⟩:=U8 (P:=X.prog) (w:=X.w) G;obtain⟨z,hd,aa,r0,dd⟩:=Xn F.hok e;cases r0;refine⟨Z,c,dd,λh' D hs=>⟨.ref s.heap.objs.size,_,?_,rfl,Y⟩⟩;have hz:(Uk [] kvs).length<=sizeLine:=by
  have h1:=YO kvs [];rw [List.length_nil]at h1;rw [cU];lia
 have he:∃q,h'.get? s.heap.objs.size=some q:=let⟨q,_,_,hq,_⟩:=D;⟨q,hq⟩
 exact Wc F (by rw [e];exact dF) hs he (XV hz hd (rk.merge .nil) D)
structure M1(X:Cx)(o:Expr)(m:Str)(apos:Pos)(e:Expr)(cpos:Pos):Prop where
 base:attributeBase o m X.env (eval o X.env)=eval o X.env
 few:((backTo cpos (starEach [e] X.env)).all (λx=>!x.1)&&(backToKw cpos (keywordEach [] X.env)).all (λx=>x.1.isSome)
  &&decide (([e]:List Expr).length+([]:List Keyword).length+(if([]:List Keyword).isEmpty then 0 else 1)<30))=true
 line:(apos.endLine==cpos.line)=true
 trees:backTo cpos (starEach [e] X.env)=[(false,eval e X.env)]
structure M2(X:Cx)(o:Expr)(m:Str)(apos:Pos)(e f:Expr)(cpos:Pos):Prop where
 base:attributeBase o m X.env (eval o X.env)=eval o X.env
 few:((backTo cpos (starEach [e,f] X.env)).all (λx=>!x.1)&&(backToKw cpos (keywordEach [] X.env)).all (λx=>x.1.isSome)
  &&decide (([e,f]:List Expr).length+([]:List Keyword).length+(if([]:List Keyword).isEmpty then 0 else 1)<30))=true
 line:(apos.endLine==cpos.line)=true
 trees:backTo cpos (starEach [e,f] X.env)=[(false,eval e X.env),(false,eval f X.env)]
def IsD(H:Hp)(a:Addr):Prop:=(∃kvs,Rd H a (.dK kvs))\/∃kvs,Rd H a (.dT kvs)
theorem Ng{pins:List (8:)}{σ:St}(I:Inv X pins σ H s)(d:IsD H a):
 s.TypeIs (.ref a) "dict"/\ (∀b,Value.ref a=.ref b->∃ob,s.heap.get? b=some ob/\ob.dict=none)/\(a==sysModules)=false:=by
 rcases d with⟨kvs,e⟩ | ⟨kvs,e⟩
 .obtain⟨_,hd,D,_,z⟩:=JD I.hok e;refine⟨z.typeIs,λb q=>?_,hd⟩;cases q;obtain⟨ob,_,_,h1,h2,_⟩:=z;exact⟨ob,h1,h2.2.1⟩
 .obtain⟨_,hd,xs,_,z⟩:=UX I.hok e;refine⟨z.typeIs,λb q=>?_,hd⟩;cases q;obtain⟨ob,_,_,h1,h2,_⟩:=z;exact⟨ob,h1,h2.2.1⟩
section
variable{pins:List (8:)}{σ:St}{d:V}{r:Value}{o:Option V}
theorem Rq(hu:A.units+1<cLine)(I:Inv X pins σ H s)(g:DGet H a y o)(ry:RelV y u)(h:∀w' s',Inv X pins σ H s'->RelV (o.getD .non) w'->Q w' s'):
 wpAny (6:) A (call (.builtin "dict.get") [.ref a,u]) Q E s:=by
 rcases g with⟨kvs,k,e,J,l⟩ | ⟨kvs,k,b,e,J,M,l⟩
 .subst J;obtain⟨z,hd,U,D,G⟩:=JD I.hok e;refine call_meetsIn fS G.typeIs gY (PySem.F.args_dict_get_2 _ _) (meets_dict_get (Qv X.prog X.w) a (Y8 ry) hd) ⟨_,G.mapOf,h _ _ (I.tok _) ?_⟩;rw [l];exact(D.val k).getD rfl
 .subst J;cases (show u=Value.ref b from ry);obtain⟨z,hd,xs,D,G⟩:=UX I.hok e;refine call_meetsIn fS G.typeIs gY (PySem.F.args_dict_get_2 _ _) (meetsH_dict_get (tupleKind (Qv X.prog X.w)) a b hd) ⟨gE hu,k,xs,Ui I.hok M,G,h _ _ (I.tok _) ?_⟩;rw [l];exact(D.val k).getD rfl
theorem PR(hu:A.units+1<cLine)(I:Inv X pins σ H s)(g:DGet H a y o)(ry:RelV y u)(rd:RelV d r)(h:∀w' s',Inv X pins σ H s'->RelV (o.getD d) w'->Q w' s'):
 wpAny (6:) A (call (.builtin "dict.get") [.ref a,u,r]) Q E s:=by
 rcases g with⟨kvs,k,e,J,l⟩ | ⟨kvs,k,b,e,J,M,l⟩
 .subst J;obtain⟨z,hd,U,D,G⟩:=JD I.hok e;refine call_meetsIn fS G.typeIs gY (PySem.F.args_dict_get_3 _ _ _) (meets_dict_get_default (Qv X.prog X.w) a (Y8 ry) hd r) ⟨_,G.mapOf,h _ _ (I.tok _) ?_⟩;rw [l];exact(D.val k).getD rd
 .subst J;cases (show u=Value.ref b from ry);obtain⟨z,hd,xs,D,G⟩:=UX I.hok e;refine call_meetsIn fS G.typeIs gY (PySem.F.args_dict_get_3 _ _ _) (meetsH_dict_get_default (tupleKind (Qv X.prog X.w)) a b hd r) ⟨gE hu,k,xs,Ui I.hok M,G,h _ _ (I.tok _) ?_⟩;rw [l];exact(D.val k).getD rd
end
def PH(td ty:TE):TE:=λσ H Q=>td σ H λx H1=>∃a,x=.ref a/\IsD H1 a/\ty σ H1 λy H2=>∃o,DGet H2 a y o/\Q (o.getD .non) H2
def Pt(td ty tx:TE):TE:=λσ H Q=>td σ H λx H1=>∃a,x=.ref a/\IsD H1 a/\ty σ H1 λy H2=>tx σ H2 λz H3=>∃o,DGet H3 a y o/\Q (o.getD z) H3
section
variable{o f:Expr}{td tx:TE}
theorem MS(hu:X.A.units+1<cLine)(ho:PE X o td)(he:PE X e ty)(m:M1 X o "get" apos e cpos):PE X (.Call (.Attribute o "get" apos) [e] [] cpos) (PH td ty):=by
 intro pins s σ H Q I h;refine wpAny_Call_method m.base m.few m.line gU fS PySem.F.type_dict_get (thn (ho pins s σ H _ I h) λu G ⟨x,H1,z,J,a,ex,d,M⟩=>?_);subst ex;obtain rfl:u=Value.ref a:=J;obtain⟨t1,t2,_⟩:=Ng z d;refine⟨t1,t2,?_⟩;rw [m.trees];refine gW rfl (g_ (Calls.spliced_cons (thn (he pins G σ H1 _ z M) λiv s2 ⟨y,H2,U,Y,ov,g,Z⟩=>Calls.spliced_nil ?_)));exact Rq hu U g Y λw' s3 I3 D=>⟨_,H2,I3,D,Z⟩
theorem LZ(hu:X.A.units+1<cLine)(ho:PE X o td)(he:PE X e ty)(hf:PE X f tx)(m:M2 X o "get" apos e f cpos):PE X (.Call (.Attribute o "get" apos) [e,f] [] cpos) (Pt td ty tx):=by
 intro pins s σ H Q I h;refine wpAny_Call_method m.base m.few m.line gU fS PySem.F.type_dict_get (thn (ho pins s σ H _ I h) λu J ⟨x,H1,D,M,a,ex,d,U⟩=>?_);subst ex;obtain rfl:u=Value.ref a:=M;obtain⟨t1,t2,_⟩:=Ng D d;refine⟨t1,t2,?_⟩;rw [m.trees];refine gW rfl (g_ (Calls.spliced_cons (thn (he pins J σ H1 _ D U) λiv Y ⟨y,H2,Z,ry,q2⟩=>
  Calls.spliced_cons (thn (hf pins Y σ H2 _ Z q2) λfv s3 ⟨z,H3,I3,rz,ov,g,q3⟩=>Calls.spliced_nil ?_))))
 exact PR hu I3 g ry rz λw' s4 I4 G=>⟨_,H3,I4,G,q3⟩
end
section
variable{pins:List (8:)}{σ:St}
end
section
variable{pins:List (8:)}{σ:St}
end
end L2
namespace Srt
open PySem PySem.W PyProof.Rows
variable{α β:Type}{key:Nat->O.α}
def Ok(O:KeyOrd)(key:Nat->O.α)(n:Nat)(Q:α->Prop):KasT α->Prop
 | .ret a=>Q a
 | .ask i j k=>i<n/\j<n/\Ok O key n Q (k (O.blt (key i) (key j)))
theorem Ok.bind{t:KasT α}{f:α->KasT β}{Q:β->Prop}:Ok O key n (λa=>Ok O key n Q (f a)) t->Ok O key n Q (t.bind f):=by
 induction t with
 | ret a=>exact id
 | ask i j k z=>exact λh=>⟨h.1,h.2.1,z _ h.2.2⟩
theorem Ok.wp{cmp:Nat->Nat->(Bool->Shared->Prop)->Shared->Prop}(hc:∀i j C,i<n->j<n->C (O.blt (key i) (key j)) s->cmp i j C s){G:α->Shared->Prop}{Q:α->Prop}(hq:∀a,Q a->G a s){t:KasT α}:Ok O key n Q t->t.kasWp cmp G s:=by
 induction t with
 | ret a=>exact hq a
 | ask i j k z=>exact λh=>hc i j _ h.1 h.2.1 (z _ h.2.2)
def Pm(n:Nat)(p:Array Nat):Prop:=p.toList.Perm (List.range n)
theorem Pm.size(h:Pm n p):p.size=n:=by
 have:=h.length_eq
 simpa using this
theorem Pm.lt{p:Array Nat}(h:Pm n p){i:Nat}(hi:i<n):p.getD i 0<n:=by
 have z:i<p.size:=by rw [h.size];exact hi
 have e:p.getD i 0=p[i]:=by simp [Array.getD,z]
 rw [e];have:p[i]∈p.toList:=by simp
 exact eW.mp (h.mem_iff.mp this)
theorem Pm.of{q:Array Nat}(h:Pm n p)(e:q.Perm p):Pm n q:=(Array.perm_iff_toList_perm.mp e).trans h
variable(key) in
def kk(p:Array Nat)(i:Nat):O.α:=key (p.getD i 0)
theorem Yr{q:Array Nat}(h:p[i]?=q[j]?):kk key p i=kk key q j:=by
 unfold kk;rw [Array.getD_eq_getD_getElem?,Array.getD_eq_getD_getElem?,h]
variable(key) in
def Up(p:Array Nat)(k:Nat):Prop:=∀i j,i<=j->j<k->O.kle (kk key p i) (kk key p j)
variable(key) in
def LJ(p:Array Nat)(k:Nat):Prop:=∀i j,i<=j->j<k->O.kle (kk key p j) (kk key p i)
theorem Vy(hj:j<=p.size)(k:Nat):kk key (kas_rev p i j) k=if i<=k/\k<j then kk key p (i+j-1-k)else kk key p k:=by
 have e:=getElem?_mirror_all (xs:=p) (i:=i) hj k;unfold kas_rev
 by_cases h:i<=k/\k<j
 .rw [aE h]at e ⊢;exact Yr e
 .rw [aF h]at e ⊢;exact Yr e
theorem Jb{p:Array Nat}{i j:Nat}(hj:j<=p.size)(heq:∀k,i<=k->k<j->kk key p k=kk key p (j-1))(k:Nat):kk key (kas_rev p i j) k=kk key p k:=by
 rw [Vy hj]
 by_cases h:i<=k/\k<j
 .rw [aE h,heq _ (7:) (7:),heq k h.1 h.2]
 .rw [aF h]
theorem Pm.rev(h:Pm n p)(i j:Nat):Pm n (kas_rev p i j):=h.of (mirror_perm _ _ _ _)
theorem Of{m:Nat}(h1:1<=m)(hs:Up key p m)(h:O.kle (kk key p (m-1)) (kk key p m)):Up key p (m+1):=λi j z F=>by
 by_cases D:j<m
 .exact hs i j z D
 .have:j=m:=by lia
  subst this
  by_cases hi:i=j
  .subst hi;exact gk _
  .exact KeyOrd.kle_trans (hs i (j-1) (7:) (7:)) h
theorem YE{m:Nat}(h1:1<=m)(hs:LJ key p m)(h:O.kle (kk key p m) (kk key p (m-1))):LJ key p (m+1):=λi j z F=>by
 by_cases D:j<m
 .exact hs i j z D
 .have:j=m:=by lia
  subst this
  by_cases hi:i=j
  .subst hi;exact gk _
  .exact KeyOrd.kle_trans h (hs i (j-1) (7:) (7:))
theorem Vk(hP:Pm n p){Q:Nat->Prop}:∀(f m:Nat),1<=m->m+f<=n->Up key p m->(∀m',m<=m'->m'<=m+f->Up key p m'->(m'=m+f\/O.klt (kk key p m') (kk key p (m'-1)))->Q m')->Ok O key n Q (kas_asc p f m)
 | 0,m,_,_,z,h=>h m (4:) (4:) z (.inl rfl)
 | f+1,m,h1,F,z,h=>by
  refine⟨hP.lt (7:),hP.lt (7:),?_⟩;show Ok O key n Q (if O.blt (kk key p m) (kk key p (m-1))=true then .ret m else kas_asc p f (m+1));cases D:O.blt (kk key p m) (kk key p (m-1))with
  | true=>
   rw [aE rfl];exact h m (4:) (7:) z (.inr D)
  | false=>
   rw [aF aW];exact Vk hP f (m+1) (7:) (7:) (Of h1 z D) λm' a b c d=>h m' (7:) (7:) c (by rcases d with d | d;exact .inl (7:);exact .inr d)
variable(key) in
def RV(p:Array Nat)(m q:Nat):Prop:=q+1<=m/\∀i,m-(q+1)<=i->i<m->kk key p i=kk key p (m-1)
theorem UQ{Q:Array Nat×Nat×Nat->Prop}:∀(f:Nat)(p:Array Nat)(m q:Nat),Pm n p->1<=m->m+f<=n->LJ key p m->RV key p m q->
 (∀p' m' q',Pm n p'->m<=m'->m'<=m+f->LJ key p' m'->RV key p' m' q'->Q (p',m',q'))->Ok O key n Q (kas_desc f p m q)
 | 0,p,m,q,z,_,_,F,D,h=>h p m q z (4:) (4:) F D
 | f+1,p,m,q,z,h1,Z,F,D,h=>by
  have Y:=z.size;refine⟨z.lt (7:),z.lt (7:),?_⟩;show Ok O key n Q (if O.blt (kk key p m) (kk key p (m-1))=true then(if q>0 then kas_desc f (kas_rev p (m-(q+1)) m) (m+1) 0 else kas_desc f p (m+1) 0)
   else .ask (p.getD (m-1) 0) (p.getD m 0) λd=>if d=true then .ret (p,m,q)else kas_desc f p (m+1) (q+1))
  have one:∀p':Array Nat,RV key p' (m+1) 0:=λp'=>⟨by lia,λi a b=>by congr 1;lia⟩;cases G:O.blt (kk key p m) (kk key p (m-1))with
  | true=>
   rw [aE rfl];have hd:=YE h1 F (KeyOrd.kle_of_klt G)
   by_cases J:q>0
   .rw [aE J];have e:=Jb (key:=key) (p:=p) (i:=m-(q+1)) (j:=m) (7:) D.2;refine UQ f _ (m+1) 0 (z.rev _ _) (7:) (7:) (λi j a b=>by rw [e,e];exact hd i j a b) (one _) λp' m' q' a b c d g=>h p' m' q' a (7:) (7:) d g
   .rw [aF J];exact UQ f p (m+1) 0 z (7:) (7:) hd (one _) λp' m' q' a b c d g=>h p' m' q' a (7:) (7:) d g
  | false=>
   rw [aF aW];refine⟨z.lt (7:),z.lt (7:),?_⟩;show Ok O key n Q (if O.blt (kk key p (m-1)) (kk key p m)=true then .ret (p,m,q)else kas_desc f p (m+1) (q+1));cases M:O.blt (kk key p (m-1)) (kk key p m)with
   | true=>
    rw [aE rfl];exact h p m q z (4:) (7:) F D
   | false=>
    rw [aF aW];have U:kk key p m=kk key p (m-1):=KeyOrd.kle_antisymm M G;refine UQ f p (m+1) (q+1) z (7:) (7:) (YE h1 F M) ⟨by have:=D.1;lia,λi a b=>?_⟩ λp' m' q' a b c d g=>h p' m' q' a (7:) (7:) d g;rw [Nat.add_sub_cancel]
    by_cases hi:i=m
    .rw [hi]
    .rw [U];exact D.2 i (7:) (7:)
theorem V9{m:Nat}(hP:Pm n p)(h1:1<=m)(hm:m<=n)(hs:LJ key p m){Q:Nat×Array Nat->Prop}(h:∀m' p',Pm n p'->1<=m'->m'<=n->Up key p' m'->Q (m',p')):Ok O key n Q (kas_tail3 m n p):=by
 have z:=hP.size;refine Ok.bind (Vk (hP.rev 0 m) (n-m) m h1 (7:) (λi j D F=>?_) λm' a b c _=>h m' _ (hP.rev 0 m) (7:) (7:) c);rw [Vy (7:),Vy (7:),aE (7:),aE (7:)];exact hs _ _ (7:) (7:)
theorem UB{m:Nat}(hP:Pm n p)(h1:1<=m)(hm:m+1<=n)(hs:LJ key p (m+1)){Q:Nat×Array Nat->Prop}(h:∀m' p',Pm n p'->1<=m'->m'<=n->Up key p' m'->Q (m',p')):Ok O key n Q (kas_descPart m n p):=by
 refine Ok.bind (UQ (n-(m+1)) p (m+1) 0 hP (7:) (7:) hs ⟨by lia,λi a b=>by congr 1;lia⟩ λp' m' z a b c d g=>?_);have F:=a.size;show Ok O key n Q (if z>0 then kas_tail3 m' n (kas_rev p' (m'-(z+1)) m')else kas_tail3 m' n p')
 by_cases D:z>0
 .rw [aE D];have e:=Jb (key:=key) (p:=p') (i:=m'-(z+1)) (j:=m') (7:) g.2;exact V9 (a.rev _ _) (7:) (7:) (λi j x y=>by rw [e,e];exact d i j x y) h
 .rw [aF D];exact V9 a (7:) (7:) d h
theorem NP(hP:Pm n p)(h1:1<=n){Q:Nat×Array Nat->Prop}(h:∀m' p',Pm n p'->1<=m'->m'<=n->Up key p' m'->Q (m',p')):Ok O key n Q (kas_count n p):=by
 have U:=hP.size;refine Ok.bind (Vk hP (n-1) 1 (4:) (7:) (λi j a b=>?_) λm a b c d=>?_)
 .have:i=j:=by lia
  subst this;exact gk _
 .show Ok O key n Q (if(m==n)=true then .ret (m,p)else if m>1 then .ask (p.getD 0 0) (p.getD (m-1) 0) λc=>if c=true then .ret (m,p)else kas_descPart m n (kas_rev p 0 m)else kas_descPart m n p)
  by_cases F:m=n
  .rw [aE (by simpa using F)];exact h m p hP a (7:) c
  .rw [aF (by simpa using F)];have D:O.klt (kk key p m) (kk key p (m-1)):=by
    rcases d with d | d
    .exact absurd (7:) F
    .exact d
   by_cases G:m>1
   .rw [aE G];refine⟨hP.lt (7:),hP.lt (7:),?_⟩;show Ok O key n Q (if O.blt (kk key p 0) (kk key p (m-1))=true then .ret (m,p)else kas_descPart m n (kas_rev p 0 m));cases J:O.blt (kk key p 0) (kk key p (m-1))with
    | true=>
     rw [aE rfl];exact h m p hP a (7:) c
    | false=>
     rw [aF aW];have z:∀k,0<=k->k<m->kk key p k=kk key p (m-1):=λk _ M=>
      KeyOrd.kle_antisymm (c k (m-1) (7:) (7:)) (KeyOrd.kle_trans J (c 0 k (7:) M))
     have e:=Jb (key:=key) (p:=p) (i:=0) (j:=m) (7:) z;refine UB (hP.rev _ _) (7:) (7:) (YE (7:) (λi j x y=>?_) ?_) h
     .rw [e,e,z i (7:) (7:),z j (7:) y];exact gk _
     .rw [e,e];exact KeyOrd.kle_of_klt D
   .rw [aF G];have:m=1:=by lia
    subst this;refine UB hP (4:) (7:) (YE (4:) (λi j x y=>?_) (KeyOrd.kle_of_klt D)) h;have:i=j:=by lia
    subst this;exact gk _
theorem Jc{k:Nat}(hP:Pm n p)(hk:k<n)(hs:Up key p k){Q:Nat->Prop}
 (h:∀l,l<=k->(∀i,i<l->O.kle (kk key p i) (kk key p k))->(∀i,l<=i->i<k->O.klt (kk key p k) (kk key p i))->Q l):∀(f l r:Nat),l<=r->r<=k->r-l<=f->
  (∀i,i<l->O.kle (kk key p i) (kk key p k))->(∀i,r<=i->i<k->O.klt (kk key p k) (kk key p i))->Ok O key n Q (kas_place p k f l r)
 | 0,l,r,a,b,c,d,e=>by
  have:l=r:=by lia
  subst this;exact h l b d e
 | f+1,l,r,a,b,c,d,e=>by
  show Ok O key n Q (if l>=r then .ret l else .ask (p.getD k 0) (p.getD ((l+r)/2) 0) λc=>if c=true then kas_place p k f l ((l+r)/2)else kas_place p k f ((l+r)/2+1) r)
  by_cases z:l>=r
  .rw [aE z];have:l=r:=by lia
   subst this;exact h l b d e
  .rw [aF z];refine⟨hP.lt hk,hP.lt (7:),?_⟩;show Ok O key n Q (if O.blt (kk key p k) (kk key p ((l+r)/2))=true then kas_place p k f l ((l+r)/2)else kas_place p k f ((l+r)/2+1) r);cases D:O.blt (kk key p k) (kk key p ((l+r)/2))with
   | true=>
    rw [aE rfl];exact Jc hP hk hs h f l ((l+r)/2) (7:) (7:) (7:) d λi x y=>KeyOrd.klt_of_klt_of_kle D (hs _ _ x y)
   | false=>
    rw [aF aW];exact Jc hP hk hs h f ((l+r)/2+1) r (7:) b (7:) (λi x=>KeyOrd.kle_trans (hs i ((l+r)/2) (7:) (7:)) D) e
theorem JS{k d:Nat}(hs:k<p.size)(hd:d<=k)(i:Nat):kk key (bubble p k d) i=if i=k-d then kk key p k else if k-d<i/\i<=k then kk key p (i-1)else kk key p i:=by
 have e:=getElem?_bubble hs d hd i
 by_cases h1:i=k-d
 .rw [aE h1]at e ⊢;exact Yr e
 .rw [aF h1]at e ⊢
  by_cases h2:k-d<i/\i<=k
  .rw [aE h2]at e ⊢;exact Yr e
  .rw [aF h2]at e ⊢;exact Yr e
theorem MP{Q:Array Nat->Prop}:∀(f:Nat)(p:Array Nat)(k:Nat),Pm n p->1<=k->k+f=n->Up key p k->(∀p',Pm n p'->Up key p' n->Q p')->Ok O key n Q (kas_bin f p k)
 | 0,p,k,z,_,F,D,h=>h p z (by rw [<-F];exact D)
 | f+1,p,k,z,h1,F,D,h=>by
  have J:=z.size;have G:k<n:=by lia
  refine Ok.bind (Jc z G D (λl a b c=>?_) k 0 k (bK _) (4:) (7:) (λi x=>by lia) λi x y=>by lia);refine MP f _ (k+1) (z.of (bubble_perm _ _ _)) (7:) (7:) (λi j M U=>?_) h;rw [JS (7:) (7:),JS (7:) (7:),show k-(k-l)=l by lia]
  repeat' split
  all_goals first
   | (exfalso;lia)
   | exact gk _
   | exact b _ (7:)
   | exact KeyOrd.kle_of_klt (c _ (7:) (7:))
   | exact D _ _ (7:) (7:)
theorem sort_ok(h1:1<=n){Q:Array Nat->Prop}(h:∀p,Pm n p->Up key p n->Q p):Ok O key n Q (kas_sort n):=by
 have D:Pm n (List.toArray (List.range n)):=List.Perm.refl _;refine Ok.bind (NP D h1 λm p a b c d=>?_);show Ok O key n Q (if m<n then kas_bin (n-max m 1) p (max m 1)else .ret p);have F:max m 1=m:=by lia
 by_cases z:m<n
 .rw [aE z,F];exact MP (n-m) p m a b (7:) d h
 .rw [aF z];have:m=n:=by lia
  subst this;exact h p a d
end Srt
namespace L2
open PySem PySem.Spec PyProof.Rows PySem.W
theorem M5{vs:List Value}{P:PySem.Fin->Shared->Prop}(O:KeyOrd)(key:Nat->O.α)(κ:SortKind)(ho:s.heap.get? a=some (seqObj "list" vs.toArray n))(h64:vs.length<64)
 (hk:∀(s':Shared)(Q:SortKind->Shared->Prop),(∀b o,b≠a->s.heap.get? b=some o->s'.heap.get? b=some o)->2<=vs.length->Q κ s'->wpAny (11:) A (keyKind' vs.toArray) Q E s')
 (hc:∀(s':Shared)(i j:Nat)(C:Bool->Shared->Prop),(∀b o,b≠a->s.heap.get? b=some o->s'.heap.get? b=some o)->i<vs.length->j<vs.length->C (O.blt (key i) (key j)) s'->wpAny (11:) A (keyLt' κ (vs.getD i Value.none) (vs.getD j Value.none)) C (λ_ _=>False) s')
 (h:∀p:Array Nat,Srt.Pm vs.length p->Srt.Up (O:=O) key p vs.length->P (.done (.ret .none)) { s with heap:=sortedHeap s.heap a vs (p.toList.map λi=>vs.getD i Value.none).toArray }):
 wpAny (11:) A (Builtin.«list.sort» ⟨[.ref a],[]⟩) P E s:=by
 have aa:a<s.heap.objs.size:=aJ ho;rw [list_sort_plain];refine aA (listItems_at ho rfl ?_);refine aA (listUpdate_at ho rfl ?_ (by rw [aV,cU];lia) (bK _));obtain⟨e1,F⟩: ∃e1,(s.heap.update a (Obj.mapSeq λ_=>(#[]:Array Value))).get? a=some (seqObj "list" #[] e1):=⟨_,get?_update_seq ho λ_=>#[]⟩;refine aA (seqEpoch_at F rfl (aA (wpAny_newTuple ?_ (by show vs.length<=_;rw [cU];lia))));refine aA (wpAny_newList (cF ?_) (bK _));have keep:∀b o,b≠a->s.heap.get? b=some o->((15:).push (seqObj "list" #[] 0)).get? b=some o:=λb o hb e=>
  aG _ (aG _ ((fD _ _ _ _ hb).trans e))
 have z:((15:).push (seqObj "list" #[] 0)).get? a=some (seqObj "list" #[] e1):=aG _ (aG _ F);show wpAny (11:) A _ P E { s with heap:=(15:).push (seqObj "list" #[] 0) };dsimp only;have hz:vs.toArray.size=vs.length:=aV
 by_cases h2:vs.toArray.size<2
 .rw [aE h2,aE h2];refine aA (aD ?_);rw [StateT.run_pure];refine aA (aD ?_);dsimp only;refine aA (seqEpoch_at z rfl ?_);have e2:(arrOf (SortSt.mk' general' (vs.toArray.zip vs.toArray) #[] 7 none)).map (·.2)=vs.toArray:=by
   show(vs.toArray.zip vs.toArray).map (·.2)=vs.toArray;apply Array.toList_inj.mp;rw [Array.toList_map,Array.toList_zip];exact List.map_snd_zip (4:)
  rw [e2];refine aA (listUpdate_at z rfl ?_ (hsz2:=by show vs.toArray.size<=_;rw [cU];lia));simp only [bne_self_eq_false,gD,dG];have:=h (List.range vs.length).toArray (List.Perm.refl _) (λi j ab J=>by
   have:i=j:=by lia
   subst this;exact O.irrefl _)
  have e3:((List.range vs.length).toArray.toList.map λi=>vs.getD i Value.none)=vs:=by
   apply List.ext_getElem (14:);intro i a b;simp at a;simp [a]
  rw [e3]at this;exact aD this
 .rw [aF h2,aF h2];refine aA ?_;refine hk { s with heap:=(15:).push (seqObj "list" #[] 0) } _ keep (7:) ?_;refine aA (bS (kat_run (Q:=λD s'=>∃p:Array Nat,Srt.Pm vs.length p/\Srt.Up (O:=O) key p vs.length/\(arrOf D).map (·.2)=(p.toList.map λi=>vs.getD i Value.none).toArray/\failedOf D=none/\
   s'={ s with heap:=(15:).push (seqObj "list" #[] 0) })
   (G:=λp s'=>Srt.Pm vs.length p/\Srt.Up (O:=O) key p vs.length/\s'={ s with heap:=(15:).push (seqObj "list" #[] 0) })
   (vs:=vs) (ks:=vs) rfl (7:) (7:) (λp D s' ac M U hg=>?_) ?_) (λr s' hq=>?_) λ_ _ e=>e)
  .obtain⟨hP,hU,es⟩:=hg;exact⟨p,hP,hU,kat_snds rfl M,U,es⟩
  .refine Srt.Ok.wp (O:=O) (key:=key) (n:=vs.length) (λi j C hi J hC=>?_) (Q:=λp=>Srt.Pm vs.length p/\Srt.Up (O:=O) key p vs.length) (λp hp=>⟨hp.1,hp.2,rfl⟩) (Srt.sort_ok (7:) λp a b=>⟨a,b⟩);exact hc { s with heap:=(15:).push (seqObj "list" #[] 0) } i j C keep hi J hC
  .obtain⟨p,Y,o2,Z,o4,rfl⟩:=hq;obtain⟨⟨⟩,D⟩:=r;dsimp only at Z o4 ⊢;refine aA (seqEpoch_at z rfl ?_);rw [Z];refine aA (listUpdate_at z rfl ?_ (hsz2:=by show(p.toList.map λi=>vs.getD i Value.none).toArray.size<=_;rw [aV,aC,Y.length_eq,List.length_range,cU];lia));rw [o4];simp only [bne_self_eq_false,gD,dG];exact aD (h p Y o2)
theorem Vn{vs:List Value}(O:KeyOrd)(key:Nat->O.α)(κ:SortKind)(hl:s.heap.IsList l vs.toArray)(h64:vs.length<64)
 (hk:∀(s':Shared)(E':Value->Shared->Prop)(Q:SortKind->Shared->Prop),(∀b o,s.heap.get? b=some o->s'.heap.get? b=some o)->2<=vs.length->Q κ s'->wpAny (11:) A.in1.in1 (keyKind' vs.toArray) Q E' s')
 (hc:∀(s':Shared)(i j:Nat)(C:Bool->Shared->Prop),(∀b o,s.heap.get? b=some o->s'.heap.get? b=some o)->i<vs.length->j<vs.length->C (O.blt (key i) (key j)) s'->wpAny (11:) A.in1.in1 (keyLt' κ (vs.getD i Value.none) (vs.getD j Value.none)) C (λ_ _=>False) s')
 (h:∀p:Array Nat,Srt.Pm vs.length p->Srt.Up (O:=O) key p vs.length->Q (.ref (s.heap.objs.size+1)) { s with heap:=sortedAll s.heap vs (p.toList.map λi=>vs.getD i Value.none).toArray }):
 wpAny (11:) A (call (.builtin "sorted") [.ref l]) Q E s:=by
 refine Calls.call_function_entry kind_sorted plain_sorted entry_sorted (args_sorted1 _) ?_;unfold Builtin.«sorted»;refine aA (m:=checkCount "sorted" 1 1 _) (aD ?_);refine aA (collect_list hl ?_ (by rw [cU];lia));refine aA (wpAny_newList ?_ (by rw [cU];lia));have F:((s.heap.push (seqObj "list" #[] 0)).update s.heap.objs.size (Obj.mapSeq (· ++vs.toArray))).objs.size=s.heap.objs.size+1:=by rw [Heap.size_update,size_push']
 have G:(((s.heap.push (seqObj "list" #[] 0)).update s.heap.objs.size (Obj.mapSeq (· ++vs.toArray))).push (seqObj "list" vs.toArray 0)).get? (s.heap.objs.size+1)=some (seqObj "list" vs.toArray 0):=by
  rw [<-F];exact aQ _ rfl
 have keep:∀b o,s.heap.get? b=some o->(((s.heap.push (seqObj "list" #[] 0)).update s.heap.objs.size (Obj.mapSeq (· ++vs.toArray))).push (seqObj "list" vs.toArray 0)).get? b=some o:=λb o e=>by
  have D:b<s.heap.objs.size:=aJ e;exact aG _ ((fD _ _ _ _ (aU D)).trans (aG _ e))
 show wpAny _ _ _ _ _ { s with heap:=((s.heap.push (seqObj "list" #[] 0)).update s.heap.objs.size (Obj.mapSeq (· ++vs.toArray))).push (seqObj "list" vs.toArray 0) };rw [F];refine aA (cF (cH slot_list_sort ⟨_,G,rfl⟩ entry_list_sort ?_ (args_list_sort _)));have J:∀(s':Shared),(∀b o,b≠s.heap.objs.size+1->(((s.heap.push (seqObj "list" #[] 0)).update s.heap.objs.size (Obj.mapSeq (· ++vs.toArray))).push (seqObj "list" vs.toArray 0)).get? b=some o->s'.heap.get? b=some o)->∀b o,s.heap.get? b=some o->s'.heap.get? b=some o:=λs' h b o e=>by
  have D:b<s.heap.objs.size:=aJ e;exact h b o (λz=>by rw [z]at D;exact absurd D (Nat.not_lt.mpr (Nat.le_succ _))) (keep b o e)
 refine M5 (A:=A.in1.in1) O key κ G h64 (λs' U M h2 Y=>hk s' _ U (J s' M) h2 Y) (λs' i j C M hi Z hC=>hc s' i j C (J s' M) hi Z hC) λp o1 o2=>⟨_,rfl,aD ⟨_,rfl,h p o1 o2⟩⟩
theorem OE{x y:Addr}{fx sx fy sy:Value}{b:Bool}{C:Bool->Shared->Prop}(hx:s.heap.IsTuple x [fx,sx].toArray)(hy:s.heap.IsTuple y [fy,sy].toArray)
 (hne:x≠y->SeqAt.EqAt A s fx fy false/\wpAny (11:) A (oneLt' b fx fy) C (λ_ _=>False) s) (heq:x=y->SeqAt.EqAt A s fx fx true/\SeqAt.EqAt A s sx sx true/\C false s):
 wpAny (11:) A (keyLt' (tuples' b) (.ref x) (.ref y)) C E s:=by
 obtain⟨ox,G,cx,nx,dx⟩:=hx;obtain⟨oy,J,cy,ny,z⟩:=hy;refine kat_lt G dx J z ?_
 by_cases h:x=y
 .subst h;obtain rfl:=aH (G.symm.trans J);rw [dx]at z;injection z with e1 e2;have e3:[fx,sx]=[fy,sy]:=by simpa using congrArg Array.toList e1
  injection e3 with M U;injection U with Y e7;subst M Y;obtain⟨D,F,Z⟩:=heq rfl;show KatLex prog w A b _ C [(fx,fx),(sx,sx)] 0 s;refine kat_cons (D _ _ _ _ (kat_yes (kat_cons (F _ _ _ _ (kat_yes (kat_nil ?_))))));exact Z
 .obtain⟨D,F⟩:=hne h;show KatLex prog w A b _ C [(fx,fy),(sx,sy)] 0 s;refine kat_cons (D _ _ _ _ (kat_no ?_));have:(b&&(0:Nat)==0)=b:=by simp
  rw [this];exact F
theorem NU{α:Type}{O:KeyOrd}{ts:List α}{d:α}{key:α->O.α}{p:Array Nat}(hP:Srt.Pm ts.length p)(hU:Srt.Up (O:=O) (λi=>key (ts.getD i d)) p ts.length):
 (p.toList.map λi=>ts.getD i d).Perm ts/\(p.toList.map λi=>ts.getD i d).Pairwise λx y=>O.blt (key y) (key x)=false:=by
 constructor
 .have h1:=List.Perm.map (λi=>ts.getD i d) hP;have e:(List.range ts.length).map (λi=>ts.getD i d)=ts:=by
   apply List.ext_getElem (14:);intro i a b;simp at a;simp [a]
  rwa [e]at h1
 .rw [gT];intro i j hi z D;have J:=hP.size;simp only [aC,gB]at hi z;have:=hU i j (cS D) (7:);unfold KeyOrd.kle Srt.kk at this;have F:p.getD i 0=p[i]:=by simp [Array.getD,hi]
  have G:p.getD j 0=p[j]:=by simp [Array.getD,z]
  rw [F,G]at this
  simpa using this
theorem IsTuple.keeps{h:Heap}{xs:Array Value}(k:∀b o,h.get? b=some o->h'.get? b=some o)(x:h.IsTuple a xs):h'.IsTuple a xs:=by
 obtain⟨o,e,r⟩:=x;exact⟨o,k _ _ e,r⟩
theorem YG{α:Type}{f:α->Addr}:∀{ts:List α}{us:List Value},Vals (ts.map λt=>V.ref (f t)) us->us=ts.map λt=>Value.ref (f t)
 | [],_,.nil=>rfl
 | t::ts,_,.cons r rr=>by
  have e:_=Value.ref (f t):=r;rw [aS,<-YG rr,<-e]
theorem JR{α:Type}{f:α->Addr}:∀ts:List α,Vals (ts.map λt=>V.ref (f t)) (ts.map λt=>Value.ref (f t))
 | []=>.nil
 | t::ts=>.cons rfl (JR ts)
end L2
namespace L2
open PySem PySem.Spec PyProof.Rows
theorem Zl:plainId "dict.update.loop"=true:=by decide+kernel
theorem Yq:entryFor table "dict.update.loop"=some Builtin.«dict.update.loop»:=entryFor_of_tree (by kernel_rfl)
theorem Jz:typeLookup (.type "list") "keys"=pure none:=by rw [typeLookup_type,builtinLookup_eq_fast];kernel_rfl
theorem LI{xs:Array Value}{k:Nat}{Q:Option Value->Shared->Prop}(hx:s.heap.get? a=some { cls:=.type "list",dict:=none,data:=.seq xs k,slots:=sl })(dH:Hd s.heap A)
 (h:∀h' tk,(∀b o,s.heap.get? b=some o->h'.get? b=some o)->Q none { s with heap:=h',toks:=tk }):wpAny (11:) A (getAttr? (.ref a) "keys") Q E s:=by
 obtain⟨hp,g,d,tk,G⟩:=s;have J:∀D,(⟨hp,g,d,D,G⟩:Shared).TypeIs (.ref a) "list":=λ_=>⟨_,hx,rfl⟩;have f1:=sub_AttributeError;have f3:=F.slot_list_getattribute.lookup;have f4:=F.slot_list_getattribute.bind (.ref a);have f5:=am_list_getattr_none;unfold getAttr? getAttrBy? getAttrBy
 repeat (any_goals (first | assumption | exact J _ | ((with_reducible show wpAny _ _ (call (Value.builtin "list.__getattribute__") _ _) _ _ _);refine call_meets F.slot_list_getattribute (J _) am_entry_list_getattribute (F.args_list_getattribute_2 _ _) (Lu a xs k sl "keys" _ Jz (0:) λz e=>e ▸ Me) ⟨hx,by first | exact dH | exact dH.in1,λh' D e M U=>?_⟩) | wp_step))
 obtain⟨Y,Z,ce⟩:=U;have tE:(⟨h',g,d,D,G⟩:Shared).TypeIs (.ref e) "AttributeError":=⟨Y,Z,ce⟩;show wpAny _ _ (getattributeRaised _ _ _ _ _ _ _) _ _ _;unfold getattributeRaised
 repeat (any_goals (first | assumption | wp_step))
 exact h _ _ M
theorem Jj{h:Heap}{u:Obj}(ha:h.get? a=some o)(hb:h.get? b=some u)(hc:o.cls≠u.cls):a≠b:=λe=>by
 subst e;rw [ha]at hb;exact hc (congrArg Obj.cls (aH hb))
def Z1(kvs:List (Key×Value)):List (Key×Value)->List (Key×Value)
 | []=>kvs
 | p::r=>Z1 (stored kvs p.1 p.2) r
theorem WP{R:Result->Shared->Prop}{l d it:Addr}{items:Array Value}(nI:it∉hA A.in1)(hli:l≠it)(hd0:(d==sysModules)=false):∀(ps:List (Key×Value))(i:Nat)(s:Shared)(kvs:List (Key×Value)),Hd s.heap A->i+ps.length=items.size->s.heap.IsListIter it l i->s.heap.IsList l items->s.heap.DictOf (Qv prog w) d kvs->kvs.length+ps.length<=sizeLine->
 (∀(j:Nat)(q:Key×Value),ps[j]?=some q->∃p u,items[i+j]?=some (.ref p)/\(Qv prog w).is q.1 u=true/\s.heap.IsTuple p #[u,q.2])->
 (∀h' tk,h'.DictOf (Qv prog w) d (Z1 kvs ps)->(∀b o,b≠it->b≠d->s.heap.get? b=some o->h'.get? b=some o)->R (.ok (.ret .none)) { s with heap:=h',toks:=tk })->
 codeAny (11:) A (.builtin "dict.update.loop" ⟨[.ref d,.ref it,rawInt (i:Int),.none],[]⟩) R s
 | [],i,s,kvs,dH,hk,M,hL,Y,hz,hp,hR=>by
  have W:=Walks.listH (prog:=prog) (w:=w) (A:=A.in1) it l hli items nI;have ap:i=items.size:=by simpa using hk
  subst ap;refine gj Yq ?_;rw [gw Zl _];show wpAny _ A.in1 (pyNext (.ref it)>>=_) _ _ s;refine aA (W.done s _ _ ⟨M,hL,dH.in1⟩ λh' tk Z=>?_);show wpAny _ A.in1 (Builtin.Dict.addKeywords d []>>=_) _ _ _;refine aA (aD (aD ?_));have aa:d≠it:=by
   obtain⟨o,es,ep,D,J,_⟩:=Y;obtain⟨o2,F,G,_⟩:=M;exact Jj D F (by rw [J.1,G];intro z;injection z with z;exact absurd z (18:))
  exact hR h' tk (Y.extBut (b:=it) (λa o ad e=>Z a o (by simpa using ad) e) aa) (λb o h1 _ e=>Z b o (by simpa using h1) e)
 | q::ps,i,s,kvs,dH,hk,M,hL,Y,hz,hp,hR=>by
  have W:=Walks.listH (prog:=prog) (w:=w) (A:=A.in1) it l hli items nI;obtain⟨p,u,ah,aq,ai⟩:=hp 0 q rfl;rw [Nat.add_zero]at ah;have ar:i<items.size:=by rw [cD]at hk;lia
  have aa:d≠it:=by
   obtain⟨o,es,ep,D,J,_⟩:=Y;obtain⟨o2,F,G,_⟩:=M;exact Jj D F (by rw [J.1,G];intro z;injection z with z;exact absurd z (18:))
  have as:d≠l:=by
   obtain⟨o,es,ep,D,J,_⟩:=Y;obtain⟨o2,F,G,_⟩:=hL;exact Jj D F (by rw [J.1,G];intro z;injection z with z;exact absurd z (18:))
  have ae:∀{p:Addr}{xs:Array Value},s.heap.IsTuple p xs->p≠it/\p≠d:=λ{p xs} ht=>by
   obtain⟨o,D,J,_⟩:=ht;obtain⟨o2,F,G,_⟩:=id M;obtain⟨o3,es,ep,af,aj,_⟩:=id Y;exact⟨Jj D F (by rw [J,G];intro z;injection z with z;exact absurd z (18:)),Jj D af (by rw [J,aj.1];intro z;injection z with z;exact absurd z (18:))⟩
  refine gj Yq ?_;rw [gw Zl _];show wpAny _ A.in1 (pyNext (.ref it)>>=_) _ _ s;refine aA (W.item i s _ _ ar ⟨M,hL,dH.in1⟩ λv h' tk hP U Z=>?_);obtain rfl:v=.ref p:=aH ((show items[i]?=some v from hP).symm.trans ah);have ag:∀b o,b≠it->s.heap.get? b=some o->h'.get? b=some o:=λb o hb e=>Z b o (by simpa using hb) e;have al:h'.IsTuple p #[u,q.2]:=by
   obtain⟨o,D,r⟩:=id ai;exact⟨o,ag _ _ (ae ai).1 D,r⟩
  obtain⟨o,D,J,n,am⟩:=id al;refine aA (cF ?_);refine aA (gn ?_);unfold Builtin.Dict.pairItems;refine aA (fL (T:="tuple") (s:={ s with heap:=h',toks:=tk }) ⟨o,D,J⟩ ?_);rw [aE (0:)];refine aA ?_;show wpAny _ A.in1 (load p>>=_) _ _ _;refine aA (wpAny_load D ?_);rw [am];refine aD (aD ?_);have ak:h'.DictOf (Qv prog w) d kvs:=Y.extBut (b:=it) (λa o ad e=>ag a o ad e) aa;refine cF (wpAny_dictSet_pairs (s:={ s with heap:=h',toks:=tk }) aq ak (λab an hs=>?_) (by rw [cD]at hz;lia));have ao:ab.IsListIter it l (i+1):=by
   obtain⟨o,D,r⟩:=U.1;exact⟨o,(hs.2 it (aL aa)).trans D,r⟩
  have au:ab.IsList l items:=by
   obtain⟨o,D,r⟩:=U.2.1;exact⟨o,(hs.2 l (aL as)).trans D,r⟩
  have ac:∀b o,b≠it->b≠d->s.heap.get? b=some o->ab.get? b=some o:=λb o h1 h2 e=>(hs.2 b h2).trans (ag b o h1 e);have a0:(stored kvs q.1 q.2).length<=kvs.length+1:=by
   unfold stored;split
   .rw [aC];lia
   .rw [bE];simp
  refine aD ⟨eX Zl _,?_⟩;have av:Hd ab A:=U.2.2.frame λb hb o e=>(hs.2 b λz=>by
   rw [z]at hb;obtain⟨od,es,ep,af,aj,aw,_⟩:=ak;exact Hd.noD (show Hd h' A.in1 from U.2.2) af (λvs x=>by rw [aw]at x;cases x) hb).trans e
  refine WP nI hli hd0 ps (i+1) _ (stored kvs q.1 q.2) av (by rw [cD]at hk;lia) ao au an (by rw [cD]at hz;lia) (λj r hj=>?_) λh3 ax ay az=>?_
  .obtain⟨p',u',e1,e2,e3⟩:=hp (j+1) r (by simpa using hj);refine⟨p',u',by rw [<-e1];congr 1;lia,e2,?_⟩;obtain⟨o,D,rr⟩:=id e3;exact⟨o,ac _ _ (ae e3).1 (ae e3).2 D,rr⟩
  .exact hR h3 ax ay λb o h1 h2 e=>az b o h1 h2 (ac b o h1 h2 e)
theorem Jy{ps:List (Key×Value)}(dH:Hd s.heap A)(hb:sysModules<s.heap.objs.size){ol:Obj}{nl:Nat}(hl:s.heap.get? l=some ol)(hlc:ol.cls=.type "list")(hld:ol.dict=none)(hlt:ol.data=.seq items nl)(hz:ps.length<=sizeLine)(hn:ps.length=items.size)
 (hp:∀(j:Nat)(q:Key×Value),ps[j]?=some q->∃p u,items[j]?=some (.ref p)/\(Qv prog w).is q.1 u=true/\s.heap.IsTuple p #[u,q.2])
 (h:∀h' tk,h'.DictOf (Qv prog w) s.heap.objs.size (Z1 [] ps)->(∀b o,s.heap.get? b=some o->h'.get? b=some o)->Q (.ref s.heap.objs.size) { s with heap:=h',toks:=tk }):
 wpAny (11:) A (call (.type "dict") [.ref l]) Q E s:=by
 refine callType_codes (Q₁:=λY ab=>Y=.ref s.heap.objs.size/\ab={ s with heap:=s.heap.push { cls:=.type "dict",data:=.dict #[] } }) F.kt_called_dict (F.kt_typeCall_dict_1 _) F.entry_dict_init (kt_code_dict_new _ ⟨rfl,rfl⟩) ?_;rintro Y ab ⟨rfl,rfl⟩;have D:(s.heap.push { cls:=.type "dict",data:=.dict #[] }).DictOf (Qv prog w) s.heap.objs.size []:=Heap.DictOf.new s.heap;have M:(s.heap.push { cls:=.type "dict",data:=.dict #[] }).get? l=some ol:=aG _ hl;have hT:({ s with heap:=s.heap.push { cls:=.type "dict",data:=.dict #[] } }:Shared).TypeIs (.ref l) "list":=⟨_,M,hlc⟩;obtain⟨c1,d1,t1,s1⟩:=ol;simp only at hlc hld hlt;subst hlc hld hlt;refine⟨D.typeIs,F.args_dict_init_2 _ _,?_⟩;unfold Builtin.«dict.__init__»;refine aA ?_;unfold Builtin.Dict.selfAndRest;refine aA (wpAny_notOrdered_dict D.typeIs ?_);show wpAny _ _ (pure (s.heap.objs.size,[Value.ref l])) _ _ _;refine aD ?_;show wpAny _ _ (Builtin.Dict.updateFrom "dict.__init__" s.heap.objs.size (.ref l) [] .none) _ _ _;unfold Builtin.Dict.updateFrom;refine aA (fL hT ?_);rw [aE (18:)];refine aA (LI M ((show Hd (s.heap.push _) A from dH.keeps λb o e=>aG _ e)) λh2 ac G=>?_);simp only [Option.isNone_none,cB];refine aA (cI ?_);have Z:h2.IsList l items:=⟨_,G _ _ M,rfl,nl,rfl⟩;refine aA (wpAny_pyIter_list (s:={ s with heap:=h2,toks:=ac }) Z ?_);have aa:l<h2.objs.size:=aJ (G _ _ M);have ae:s.heap.objs.size<h2.objs.size:=by
  obtain⟨o,es,ep,U,_⟩:=id D;exact aJ (G _ _ U)
 have ad:h2.DictOf (Qv prog w) s.heap.objs.size []:=by
  obtain⟨o,es,ep,U,r⟩:=id D;exact⟨o,es,ep,G _ _ U,r⟩
 have J:∀b o,s.heap.get? b=some o->h2.get? b=some o:=λb o e=>G b o (aG _ e);refine aD ⟨eX Zl _,WP (A:=A.in1) (it:=h2.objs.size) (l:=l) (items:=items) (λz=>by have:=(dH.keeps J).lt _ z;exact bX _ this) (aU aa) (fW.mpr (aL (aU hb))) ps 0 _ [] ((dH.keeps J).keeps λb o e=>aG _ e) (by simpa using hn) ⟨_,aQ _ rfl,rfl,rfl⟩ (Z.push _) (ad.push _) (by simpa using hz) (λj q hq=>?_) λh' tk hD hk=>⟨rfl,?_⟩⟩
 .obtain⟨p,u,e1,e2,o,U,r⟩:=hp j q hq;exact⟨p,u,by rw [Nat.zero_add];exact e1,e2,o,aG _ (J _ _ U),r⟩
 .refine h h' tk hD λb o e=>hk b o ?_ ?_ (aG _ (J b o e))
  .exact aU (aJ (J b o e))
  .exact aU (aJ e)
theorem VB{kvs:List (Key×Value)}{k:Key}(h:k∉kvs.map (·.1)):stored kvs k v=kvs++[(k,v)]:=by
 unfold stored;rw [aF];intro z;obtain⟨D,h1,h2⟩:=List.any_eq_true.mp z;exact h (aT.mpr ⟨D,h1,cJ h2⟩)
theorem Ya:∀(ps kvs:List (Key×Value)),((kvs++ps).map (·.1)).Nodup->Z1 kvs ps=kvs++ps
 | [],kvs,_=>by simp [Z1]
 | p::r,kvs,h=>by
  have z:p.1∉kvs.map (·.1):=λD=>by
   rw [aR,List.nodup_append]at h;exact h.2.2 _ D _ (14:) rfl
  show Z1 (stored kvs p.1 p.2) r=_;rw [VB z];have e:kvs++[(p.1,p.2)]++r=kvs++p::r:=by simp
  rw [Ya r _ (by rw [e];exact h),e]
theorem Wv{pins:List (8:)}{σ:St}(I:Inv X pins σ H s):∀ts:List (Addr×Str×V),(∀t∈ts,SqT X.K H t.1 [.str t.2.1,t.2.2])->
 ∃ps:List (Key×Value),KV (ts.map λt=>((Sum.inr t.2.1:Key),t.2.2)) ps/\∀(j:Nat)(q:Key×Value),ps[j]?=some q->∃p u,(ts.map λt=>Value.ref t.1)[j]?=some (.ref p)/\(Qv X.prog X.w).is q.1 u=true/\s.heap.IsTuple p #[u,q.2]
 | [],_=>⟨[],.nil,λj q h=>by simp at h⟩
 | t::r,h=>by
  obtain⟨ps,h1,h2⟩:=Wv I r λu F=>h u (bC _ F);obtain⟨its,G,p,_⟩:=I.tuple (h t bA);obtain⟨u,v,rfl,J,z⟩:=G.two;refine⟨(Sum.inr t.2.1,v)::ps,.cons ⟨rfl,z⟩ h1,λj q D=>?_⟩;cases j with
  | zero=>
   have:q=(Sum.inr t.2.1,v):=by simpa using D.symm
   subst this;exact⟨t.1,u,rfl,Y8 (k:=Sum.inr t.2.1) J,p⟩
  | succ j=>
   obtain⟨M,U,e1,e2,e3⟩:=h2 j q (by simpa using D);exact⟨M,U,by simpa using e1,e2,e3⟩
theorem KV.keys'{ps:List (Key×Value)}(r:KV kvs ps):ps.map (·.1)=kvs.map (·.1):=by
 induction r with
 | nil=>rfl
 | cons h _ z=>rw [aS,aS,z,h.1]
theorem Zs(hc:X.calm=true):ZK X (.type "dict") (λxs H Q=>∃(l:Addr)(ts:List (Addr×Str×V)),xs=[.ref l]/\SqL X.K H l (ts.map λt=>V.ref t.1)/\(∀t∈ts,SqT X.K H t.1 [.str t.2.1,t.2.2])/\(ts.map λt=>t.2.1).Nodup/\ts.length<=1000/\
 ∀d,H d=none->Q (.ref d) (upd H d (.dK (ts.map λt=>((Sum.inr t.2.1:Key),t.2.2))))):=by
 intro pins s σ H xs us Q I r h;obtain⟨l,ts,rfl,hl,ht,G,hz,q⟩:=h;cases r with
 | cons r rr=>
  cases rr;obtain rfl:_=Value.ref l:=r;obtain⟨its,rv,⟨o,n,e,c,dn,dt⟩,_⟩:=I.list hl;obtain rfl:=YG rv;obtain⟨ps,D,J⟩:=Wv I ts ht;have F:ps.length=ts.length:=by have:=D.length;rw [aC]at this;exact this.symm
  have M:ps.length<=sizeLine:=by rw [F,cU];lia
  refine Jy (I.hd hc) I.big e c dn dt M (by rw [aV,aC];exact F) (λj q hq=>by simpa using J j q hq) λh' tk U hk=>?_;have Y:((([]:List (Key×Value))++ps).map (·.1)).Nodup:=by
   rw [fJ,KV.keys' D,bI];have e2:(ts.map ((λx:Key×V=>x.1)∘λt=>((Sum.inr t.2.1:Key),t.2.2)))=(ts.map λt=>t.2.1).map (Sum.inr:Str->Key):=by rw [bI];rfl
   rw [e2];exact List.Pairwise.map _ (λa b Z z=>Z (by injection z)) G
  rw [Ya ps [] Y,fJ]at U;have aa:=I.hok.fresh (bB s.heap.objs.size);refine⟨.ref s.heap.objs.size,_,I.laid (a:=s.heap.objs.size) (o:=.dK (ts.map λt=>((Sum.inr t.2.1:Key),t.2.2))) (t':=tk) hk (4:) (XV (by rw [aC,cU];lia) (fW.mpr (aL (aU I.big))) D U),rfl,q _ aa⟩
theorem U2:∀{bs:List Bool}{us:List Value},Vals (bs.map V.bl) us->us=bs.map Value.bool
 | [],_,.nil=>rfl
 | b::bs,_,.cons r rr=>by
  have e:_=Value.bool b:=r;rw [aS,<-U2 rr,<-e]
theorem G8(hc:X.calm=true):ZK X (.builtin "all") (λxs H Q=>∃(l:Addr)(bs:List Bool),xs=[.ref l]/\SqL X.K H l (bs.map V.bl)/\Q (.bl (bs.all id)) H):=by
 intro pins s σ H xs us Q I r h;obtain⟨l,bs,rfl,Z,q⟩:=h;cases r with
 | cons r rr=>
  cases rr;obtain rfl:_=Value.ref l:=r;obtain⟨its,rv,p,_⟩:=I.list Z;obtain rfl:=U2 rv;have M:=p.isList;have U:l<s.heap.objs.size:=by obtain⟨_,e,_⟩:=M;exact aJ e
  refine call_all_walk (wpAny_pyIter_list M ?_);have Y:Hd s.heap X.A.in1:=I.hd hc;refine⟨s.heap.objs.size,[s.heap.objs.size,l]++hA X.A.in1,[s.heap.objs.size],(bs.map Value.bool).toArray.size,_,_,λi=>(bs[i]?).getD true,rfl,Walks.listH (A:=X.A.in1) _ l (aU U) (bs.map Value.bool).toArray (λz=>bX _ (Y.lt _ z)),⟨⟨_,aQ _ rfl,rfl,rfl⟩,M.push _,Y.keeps λb o e=>aG _ e⟩,λi v s' Q' E' hP hQ=>?_,λh' tk hk=>?_⟩
  .have D:(bs.map Value.bool)[i]?=some v:=by simpa using hP
   rw [aI]at D;cases F:bs[i]? with
   | none=>rw [F]at D;simp at D
   | some b=>
    rw [F]at D;obtain rfl:Value.bool b=v:=by simpa using D
    have G:Q' ((bs[i]?).getD true) s':=hQ;rw [F]at G;exact eE G
  .have e:((List.range (bs.map Value.bool).toArray.size).all λi=>(bs[i]?).getD true)=bs.all id:=by
    rw [aV,aC,gP,dX,dX];constructor
    .intro h x hx;obtain⟨i,hi,rfl⟩:=cO hx;have:=h i (eW.mpr hi);rw [aB hi]at this;exact this
    .intro h i hi;have J:=eW.mp hi;rw [aB J];exact h _ (aZ J)
   rw [e];exact⟨.bl _,H,I.kept (t':=tk) (λb o F=>hk b o (λhm=>by rw [dO.mp hm]at F;exact bX _ (aJ F)) (aG _ F)),rfl,q⟩
end L2
namespace TM
inductive Tree(α:Type) where
 | node (name:α) (mark:Int) (bs:List (Tree α))
variable{α:Type}
def Tree.bs:Tree α->List (Tree α)
 | .node _ _ bs=>bs
structure Rows(α:Type) where
 n:Nat
 nm:Nat->α
 mr:Nat->Int
 up:Nat->Nat
variable{R:Rows α}
section
variable{K:Nat->List Int}{B:Nat->Tree α}{o0:Tree α}
variable{B':Nat->Tree α}{o:Tree α}{s:Nat}
end
end TM
variable{r:TM.Tree PySem.Str}{ts:List (TM.Tree PySem.Str)}
namespace L2
open PySem PySem.Spec PyProof.Rows TM
mutual
inductive TrV(K:Fg)(H:Hp):V->Tree Str->Prop where
 | mk {a b:Addr} {vs:List V} {ts:List (Tree Str)} {name:Str} {mark:Int}:SqT K H a [.str name,.int mark,.ref b]->SqT K H b vs->TrAll K H vs ts->vs.length<=1000->TrV K H (.ref a) (.node name mark ts)
inductive TrAll(K:Fg)(H:Hp):List V->List (Tree Str)->Prop where
 | nil:TrAll K H [] []
 | cons {v:V} {vs:List V} {t:Tree Str} {ts:List (Tree Str)}:TrV K H v t->TrAll K H vs ts->TrAll K H (v::vs) (t::ts)
end
mutual
theorem TrV.mono{K:Fg}{H H':Hp}(k:∀a xs,SqT K H a xs->SqT K H' a xs):∀{v:V}{t:Tree Str},TrV K H v t->TrV K H' v t
 | _,_,.mk h1 h2 z D=>.mk (k _ _ h1) (k _ _ h2) (TrAll.mono k z) D
theorem TrAll.mono{K:Fg}{H H':Hp}(k:∀a xs,SqT K H a xs->SqT K H' a xs):∀{vs:List V}{ts:List (Tree Str)},TrAll K H vs ts->TrAll K H' vs ts
 | _,_,.nil=>.nil
 | _,_,.cons h t=>.cons (TrV.mono k h) (TrAll.mono k t)
end
theorem TrAll.length{K:Fg}:∀{vs:List V}{ts:List (Tree Str)},TrAll K H vs ts->vs.length=ts.length
 | _,_,.nil=>rfl
 | _,_,.cons _ t=>by rw [cD,cD,TrAll.length t]
theorem TrAll.get{K:Fg}:∀{vs:List V}{ts:List (Tree Str)}{i:Nat}{t:Tree Str},TrAll K H vs ts->ts[i]?=some t->∃v,vs[i]?=some v/\TrV K H v t
 | _,_,_,_,.nil,e=>by simp at e
 | _,_,0,_,.cons h _,e=>by simp at e;subst e;exact⟨_,rfl,h⟩
 | _,_,i+1,t,.cons _ r,e=>by
  obtain⟨v,h1,h2⟩:=TrAll.get (i:=i) (t:=t) r (by simpa using e);exact⟨v,by simpa using h1,h2⟩
theorem TrAll.append{K:Fg}:∀{vs ws:List V}{ts us:List (Tree Str)},TrAll K H vs ts->TrAll K H ws us->TrAll K H (vs++ws) (ts++us)
 | _,_,_,_,.nil,h=>h
 | _,_,_,_,.cons a t,h=>.cons a (TrAll.append t h)
theorem SqT.put{K:Fg}{o:HO}(h:SqT K H a xs)(hd:H d=some (.lst ys)):SqT K (upd H d o) a xs:=by
 rcases h with(h | ⟨D,h⟩) | h
 .exact .inl (.inl (by rw [Qi (QM h hd (23:))];exact h))
 .exact .inl (.inr ⟨D,by rw [Qi (QM h hd (23:))];exact h⟩)
 .exact .inr h
end L2
namespace TM
variable{α:Type}
mutual
noncomputable def sz:Tree α->Nat
 | .node _ _ bs=>1+szs bs
noncomputable def szs:List (Tree α)->Nat
 | []=>0
 | t::r=>sz t+szs r
end
mutual
noncomputable def lv:Tree α->Nat
 | .node _ _ bs=>1+lvs bs
noncomputable def lvs:List (Tree α)->Nat
 | []=>0
 | t::r=>max (lv t) (lvs r)
end
theorem Nn(t:Tree α):sz t=1+szs t.bs:=by cases t;simp [sz,Tree.bs]
theorem Q8(t:Tree α):lv t=1+lvs t.bs:=by cases t;simp [lv,Tree.bs]
theorem UK:∀ts:List (Tree α),((ts.map λt=>(sz t:Int)).sum)=(szs ts:Int)
 | []=>by simp [szs]
 | t::r=>by rw [aS,eZ,UK r];simp [szs]
theorem Pd{ts:List (Tree α)}{t:Tree α}(h:t∈ts):sz t<=szs ts:=by
 induction ts with
 | nil=>cases h
 | cons u r z=>
  simp only [szs];rcases aM.mp h with rfl | h
  .lia
  .have:=z h;lia
theorem ZI{ts:List (Tree α)}{t:Tree α}(h:t∈ts):lv t<=lvs ts:=by
 induction ts with
 | nil=>cases h
 | cons u r z=>
  simp only [lvs];rcases aM.mp h with rfl | h
  .lia
  .have:=z h;lia
variable{R:Rows α}{K:Nat->List Int}{B:Nat->Tree α}{o0:Tree α}
end TM
namespace TT
open TM PySem
inductive Lab where
 | call (m b:Int)
 | put (nm:Str) (kept:Bool) (add:Int)
abbrev Tm:=Tree Lab
def ZH(m b:Int):Tm:=.node (.call m b) 0 []
def lcl:Lab->List (Int×Int)
 | .call m b=>[(m,b)]
 | .put _ _ _=>[]
def isC:Lab->Bool
 | .call _ _=>true
 | .put _ _ _=>false
def lab:Tm->Lab
 | .node l _ _=>l
mutual
noncomputable def cls:Tm->List (Int×Int)
 | .node l _ bs=>lcl l++Zn bs
noncomputable def Zn:List Tm->List (Int×Int)
 | []=>[]
 | t::r=>cls t++Zn r
end
theorem Pz{ts:List Tm}{t:Tm}(h:t∈ts):∀c,c∈cls t->c∈Zn ts:=by
 induction ts with
 | nil=>cases h
 | cons u r D=>
  intro c z;simp only [Zn];rcases aM.mp h with rfl | h
  .exact bZ _ z
  .exact bJ _ (D h c z)
theorem Xg:∀(ts:List Tm)(t:Tm),Zn (ts++[t])=Zn ts++cls t
 | [],t=>by simp [Zn]
 | u::r,t=>by rw [List.cons_append];simp only [Zn,Xg r t,List.append_assoc]
mutual
theorem Gp:∀t:Tm,(cls t).length<=sz t
 | .node l _ bs=>by
  simp only [cls,sz,bE];have:=Jp bs;have h:(lcl l).length<=1:=by cases l<;>simp [lcl]
  lia
theorem Jp:∀ts:List Tm,(Zn ts).length<=szs ts
 | []=>by simp [Zn,szs]
 | t::r=>by simp only [Zn,szs,bE];have h1:=Gp t;have h2:=Jp r;lia
end
variable{R:Rows Lab}
variable{B B':Nat->Tm}{f:Int->Int->Tm}
end TT
variable{q:TT.Tm×TM.Tree PySem.Str}
namespace L2
open PySem PyProof.Rows TM TT
abbrev YT:Str:=Str.ofString "call"
abbrev PUT:Str:=Str.ofString "put"
mutual
inductive TmV(K:Fg)(H:Hp):V->Tm->Prop where
 | call {a:Addr} {m b:Int}:SqT K H a [.str YT,.int m,.int b]->TmV K H (.ref a) (.node (.call m b) 0 [])
 | put {a b:Addr} {vs:List V} {ts:List Tm} {n:Str} {k:Bool} {ad:Int}:SqT K H a [.str PUT,.str n,.bl k,.int ad,.ref b]->SqT K H b vs->TmAll K H vs ts->vs.length<=1000->TmV K H (.ref a) (.node (.put n k ad) 0 ts)
inductive TmAll(K:Fg)(H:Hp):List V->List Tm->Prop where
 | nil:TmAll K H [] []
 | cons {v:V} {vs:List V} {t:Tm} {ts:List Tm}:TmV K H v t->TmAll K H vs ts->TmAll K H (v::vs) (t::ts)
end
mutual
theorem TmV.mono{K:Fg}{H H':Hp}(k:∀a xs,SqT K H a xs->SqT K H' a xs):∀{v:V}{t:Tm},TmV K H v t->TmV K H' v t
 | _,_,.call h=>.call (k _ _ h)
 | _,_,.put h1 h2 z D=>.put (k _ _ h1) (k _ _ h2) (TmAll.mono k z) D
theorem TmAll.mono{K:Fg}{H H':Hp}(k:∀a xs,SqT K H a xs->SqT K H' a xs):∀{vs:List V}{ts:List Tm},TmAll K H vs ts->TmAll K H' vs ts
 | _,_,.nil=>.nil
 | _,_,.cons h t=>.cons (TmV.mono k h) (TmAll.mono k t)
end
theorem TmAll.length{K:Fg}:∀{vs:List V}{ts:List Tm},TmAll K H vs ts->vs.length=ts.length
 | _,_,.nil=>rfl
 | _,_,.cons _ t=>by rw [cD,cD,TmAll.length t]
theorem TmAll.get{K:Fg}:∀{vs:List V}{ts:List Tm}{i:Nat}{t:Tm},TmAll K H vs ts->ts[i]?=some t->∃v,vs[i]?=some v/\TmV K H v t
 | _,_,_,_,.nil,e=>by simp at e
 | _,_,0,_,.cons h _,e=>by simp at e;subst e;exact⟨_,rfl,h⟩
 | _,_,i+1,t,.cons _ r,e=>by
  obtain⟨v,h1,h2⟩:=TmAll.get (i:=i) (t:=t) r (by simpa using e);exact⟨v,by simpa using h1,h2⟩
theorem TmAll.append{K:Fg}:∀{vs ws:List V}{ts us:List Tm},TmAll K H vs ts->TmAll K H ws us->TmAll K H (vs++ws) (ts++us)
 | _,_,_,_,.nil,h=>h
 | _,_,_,_,.cons a t,h=>.cons a (TmAll.append t h)
def tdl:Lab->List PyData->PyData
 | .call m b,_=>.tuple [.str YT,.int m,.int b]
 | .put n k a,ds=>.tuple [.str PUT,.str n,.bool k,.int a,.tuple ds]
mutual
noncomputable def tmd:Tm->PyData
 | .node l _ bs=>tdl l (Wp bs)
noncomputable def Wp:List Tm->List PyData
 | []=>[]
 | t::r=>tmd t::Wp r
end
def MOk(d:Nat)(t:Tm):Prop:=(tmd t).canLay0=true/\(tmd t).depth<=d
theorem MOk.mono{d e:Nat}{t:Tm}(h:MOk d t)(hd:d<=e):MOk e t:=⟨h.1,aY h.2 hd⟩
theorem GC{d:Nat}:∀ts:List Tm,(∀t∈ts,MOk d t)->PyData.canLayAll0 (Wp ts)=true/\PyData.depthAll (Wp ts)<=d
 | [],_=>by simp [Wp,PyData.canLayAll0,PyData.depthAll]
 | t::r,h=>by
  obtain⟨h1,h2⟩:=h t bA;obtain⟨z,F⟩:=GC r λu D=>h u (bC _ D);simp only [Wp,PyData.canLayAll0,PyData.depthAll,h1,z,eJ,true_and];lia
theorem M6:PyData.strOk YT=true:=by decide+kernel
theorem O6:PyData.strOk PUT=true:=by decide+kernel
theorem OH(m b:Int)(mk:Int)(bs:List Tm):MOk 1 (.node (.call m b) mk bs):=by
 constructor
 .simp only [tmd,tdl,PyData.canLay0,PyData.canLayAll0,M6,eJ]
 .simp only [tmd,tdl,PyData.depth,PyData.depthAll];lia
theorem Ro{d:Nat}{n:Str}{k:Bool}{a mk:Int}{ts:List Tm}(hn:PyData.strOk n=true)(h:∀t∈ts,MOk d t):MOk (d+2) (.node (.put n k a) mk ts):=by
 obtain⟨h1,h2⟩:=GC ts h;constructor
 .simp only [tmd,tdl,PyData.canLay0,PyData.canLayAll0,h1,hn,O6,eJ]
 .simp only [tmd,tdl,PyData.depth,PyData.depthAll];lia
end L2
namespace L2
open PySem PySem.Spec PyProof.Rows PySem.W
@[reducible] def strOrd:KeyOrd:=⟨List Nat,λa b=>decide (a<b),λa=>strKind.irrefl a,λa b c=>strKind.trans a b c,λa b c=>strKind.negTrans a b c,λa b=>strKind.total a b⟩
abbrev PNx:=Addr×Str×Addr×List Str
def PairN(h:Heap)(t:PNx):Prop:=∃(tk:Tok)(as:List Addr),h.IsTuple t.1 [Value.str t.2.1 tk,Value.ref t.2.2.1].toArray/\Reads h (.ref t.2.2.1) (.tuple (t.2.2.2.map PyData.str)) as
theorem PairN.keeps{h:Heap}{t:PNx}(k:∀b o,h.get? b=some o->h'.get? b=some o)(x:PairN h t):PairN h' t:=by
 obtain⟨tk,z,h1,h2⟩:=x;exact⟨tk,z,IsTuple.keeps k h1,Reads.keeps k h2⟩
theorem Ue{K:Fg}:∀p:List Str,RdAll K H (p.map V.str) (p.map PyData.str)
 | []=>.nil
 | i::r=>.cons (.str i) (Ue r)
theorem Yz:∀p:List Str,(∀x∈p,PyData.strOk x=true)->PyData.canLayAll0 (p.map PyData.str)=true
 | [],_=>by simp [PyData.canLayAll0]
 | i::r,h=>by simp only [aS,PyData.canLayAll0,PyData.canLay0,Yz r λx z=>h x (bC _ z),h i bA,eJ]
theorem Jf{h:Heap}:∀{ts:List PNx},(∀t∈ts,PairN h t)->∃fs:List Value,KatTups h (ts.map λt=>Value.ref t.1) fs/\(∀v∈fs,∃x t,v=Value.str x t)/\fs.length=ts.length
 | [],_=>⟨[],KatTups.nil,λv hv=>(nomatch hv),rfl⟩
 | t::r,ht=>by
  obtain⟨tk,J,⟨o,go,z,n,D⟩,_⟩:=ht t bA;obtain⟨fs,h1,h2,F⟩:=Jf λu G=>ht u (bC _ G);refine⟨Value.str t.2.1 tk::fs,KatTups.cons go z D rfl h1,λv hv=>?_,by simp [F]⟩;rcases aM.mp hv with rfl | hv
  .exact⟨_,_,rfl⟩
  .exact h2 v hv
theorem Ni{t u:PNx}{C:Bool->Shared->Prop}(ht:PairN s.heap t)(hu:PairN s.heap u)(hok:∀x∈t.2.2.2,PyData.strOk x=true)(hd:t.1≠u.1->t.2.1≠u.2.1)(hA:A.units+2<cLine)(h:C (decide (t.2.1.cps.toList<u.2.1.cps.toList)) s):wpAny (11:) A (keyLt' (tuples' true) (.ref t.1) (.ref u.1)) C E s:=by
 obtain⟨tk,as,h1,F⟩:=ht;obtain⟨D,aa,G,g4⟩:=hu;have z:(PyData.tuple (t.2.2.2.map PyData.str)).canLay0=true:=by simp only [PyData.canLay0];exact Yz _ hok
 have ab:(PyData.tuple (t.2.2.2.map PyData.str)).depth<=1:=by simp only [PyData.depth,Jn];lia
 refine OE h1 G (λJ=>?_) (λM=>?_)
 .refine⟨?_,oneLt_str h⟩;have e:=(eqGives_str t.2.1 u.2.1 tk D).at A s;have:(t.2.1==u.2.1)=false:=by simpa using hd J
  rw [this]at e;exact e
 .refine⟨?_,?_,?_⟩
  .have e:=(eqGives_str t.2.1 t.2.1 tk tk).at A s
   simpa using e
  .have e:=SeqAt.eqAt_reads _ _ A s _ _ _ _ F F z z (7:);rw [ZV _ z]at e;exact e
  .have e1:t.2.1=u.2.1:=by
    obtain⟨o,e,_,n,d⟩:=h1;obtain⟨o2,e2,_,n2,U⟩:=G;rw [M,e2]at e;cases e;rw [d]at U;injection U with Y z2;have Z:[Value.str t.2.1 tk,Value.ref t.2.2.1]=[Value.str u.2.1 D,Value.ref u.2.2.1]:=by simpa using congrArg Array.toList Y
    injection Z with z4 z5;injection z4
   rw [<-e1,bN (List.lt_irrefl _)]at h;exact h
theorem X1(hu:X.A.units+4<cLine):ZK X (.builtin "sorted") (λxs H Q=>∃(l:Addr)(ts:List PNx),xs=[.ref l]/\SqL X.K H l (ts.map λt=>V.ref t.1)/\(∀t∈ts,SqT X.K H t.1 [.str t.2.1,.ref t.2.2.1]/\SqT X.K H t.2.2.1 (t.2.2.2.map V.str)/\∀x∈t.2.2.2,PyData.strOk x=true)/\(ts.map λt=>t.2.1).Nodup/\ts.length<64/\
 ∀(out:List PNx) p,out.Perm ts->(out.Pairwise λx y=>¬y.2.1.cps.toList<x.2.1.cps.toList)->H p=none->Q (.ref p) (upd H p (.lst (out.map λt=>V.ref t.1)))):=by
 intro pins s σ H xs us Q I r h;obtain⟨l,ts,rfl,hl,ht,aa,ab,q⟩:=h;cases r with
 | cons r rr=>
  cases rr;obtain rfl:_=Value.ref l:=r;obtain⟨its,G,p,_⟩:=I.list hl;obtain rfl:=YG G;have J:∀t∈ts,PairN s.heap t:=λt z=>by
   obtain⟨h1,h2,_⟩:=ht t z;obtain⟨af,r1,p1,_⟩:=I.tuple h1;obtain⟨u,v,rfl,ru,G⟩:=r1.two;cases (show v=Value.ref _ from G);obtain⟨tk,rfl⟩:=(show ∃tk,u=Value.str _ tk from ru);obtain⟨as,q4⟩:=(RdV.tup h2 (Ue _)).reads I (show RelV (.ref t.2.2.1) (.ref t.2.2.1)from rfl);exact⟨tk,as,p1,q4⟩
  let d:PNx:=(0,⟨#[]⟩,0,[])
  have M:∀i,i<ts.length->(ts.map λt=>Value.ref t.1).getD i Value.none=.ref (ts.getD i d).1:=λi hi=>by simp [eB,hi]
  have md:∀i,i<ts.length->ts.getD i d∈ts:=λi hi=>by simp [eB,hi]
  have ek:(Value.type "str" !=Value.type "tuple")=true:=by decide+kernel
  refine Vn strOrd (λi=>(ts.getD i d).2.1.cps.toList) (tuples' true) p.isList (by simpa using ab) (λs' E' Q' F h2 hq=>?_) (λs' i j C F hi D hC=>?_) λU Y o2=>?_
  .obtain⟨fs,f1,f2,f3⟩:=Jf (h:=s'.heap) λt z=>(J t z).keeps F;refine kat_kind (T:=.type "str") f1 (by rw [f3];rw [aC]at h2;lia) (λv hv=>?_) (0:) (by rw [ek];exact hq);obtain⟨x,t,rfl⟩:=f2 v hv;exact .now
  .rw [aC]at hi D;rw [M i hi,M j D];refine Ni ((J _ (md i hi)).keeps F) ((J _ (md j D)).keeps F) (ht _ (md i hi)).2.2 (λac Z=>ac ?_) (by show X.A.units+1+1+2<cLine;lia) hC;have ad:i=j:=by
    have a1:(ts.map λt=>t.2.1)[i]'(by simpa using hi)=(ts.getD i d).2.1:=by simp [eB,hi]
    have a2:(ts.map λt=>t.2.1)[j]'(by simpa using D)=(ts.getD j d).2.1:=by simp [eB,D]
    exact(gK aa).mp (a1.trans (Z.trans a2.symm))
   rw [ad]
  .rw [aC]at Y o2;obtain⟨w1,w2⟩:=NU (O:=strOrd) (ts:=ts) (d:=d) (key:=λt=>t.2.1.cps.toList) Y o2;have em:(U.toList.map λi=>(ts.map λt=>Value.ref t.1).getD i Value.none)=(U.toList.map λi=>ts.getD i d).map λt=>Value.ref t.1:=by
    rw [bI];refine List.map_congr_left λi hi=>?_;exact M i (eW.mp (Y.mem_iff.mp hi))
   rw [em];generalize U.toList.map (λi=>ts.getD i d)=out at w1 w2;obtain⟨e,Z⟩:=sortedAll_at s.heap (ts.map λt=>Value.ref t.1) (out.map λt=>Value.ref t.1).toArray;have ae:H (s.heap.objs.size+1)=none:=I.hok.fresh (Nat.le_succ _);refine⟨.ref (s.heap.objs.size+1),_,I.laid (t':=s.toks) (o:=.lst (out.map λt=>V.ref t.1)) (λb o g=>sortedAll_old g) (Nat.le_succ _) ?_,rfl,q out _ w1 (w2.imp λh=>by simpa using h) ae⟩;exact⟨by rw [aC,w1.length_eq,cU];lia,_,e,JR out,Z⟩
end L2
namespace L2
open PySem PySem.Spec PyProof.Rows
section
variable{t:Addr}{x:Value}
theorem Z3(hi:s.heap.IsTupleIter it t i)(ht:s.heap.IsTuple t its)(hx:its[i]?=some x)(q:∀h',h'.IsTupleIter it t (i+1)->Heap.SameBut it s.heap h'->Q x { s with heap:=h' }):
 wpAny (11:) A (Builtin.SmallTypes.nextOf (.ref it)) Q E s:=by
 obtain⟨U,D,G,z⟩:=id hi;obtain⟨Y,J,_,Z,M⟩:=ht;unfold Builtin.SmallTypes.nextOf;refine aA (20:);show wpAny _ _ (field (.ref it) 0>>=_) _ _ s;refine aA (aP D z (x:=.ref t) rfl ?_);show wpAny _ _ (if(Value.ref t==Value.none)=true then _ else _) _ _ s;rw [aF (show ¬((Value.ref t==Value.none)=true)from aW)];show wpAny _ _ (field (.ref it) 1>>=_) _ _ s;refine aA (aP D z (x:=.int i 0) rfl ?_);show wpAny _ _ (seqItems? (.ref t)>>=_) _ _ s;refine aA (bV J M ?_);simp only [bF,hx];refine aA (eU D z (14:) (aD ⟨x,rfl,aD (q _ ⟨_,fC _ D (gZ (fX z _)),(Obj.cls_mapFields ..).trans G,?_⟩ (fE ..))⟩));rw [fX z];simp [rawInt]
theorem Uz(d:Hd s.heap A)(hi:s.heap.IsTupleIter it t i)(ht:s.heap.IsTuple t its)(hx:its[i]?=none)
 (q:∀h' e,Heap.ExtBut it s.heap h'->(∃o,h'.get? e=some o/\o.cls=.type "StopIteration")->E (.ref e) { s with heap:=h' }):wpAny (11:) A (Builtin.SmallTypes.nextOf (.ref it)) Q E s:=by
 obtain⟨M,z,U,D⟩:=id hi;obtain⟨Y,G,_,Z,J⟩:=ht;unfold Builtin.SmallTypes.nextOf;refine aA (20:);show wpAny _ _ (field (.ref it) 0>>=_) _ _ s;refine aA (aP z D (x:=.ref t) rfl ?_);show wpAny _ _ (if(Value.ref t==Value.none)=true then _ else _) _ _ s;rw [aF (show ¬((Value.ref t==Value.none)=true)from aW)];show wpAny _ _ (field (.ref it) 1>>=_) _ _ s;refine aA (aP z D (x:=.int i 0) rfl ?_);show wpAny _ _ (seqItems? (.ref t)>>=_) _ _ s;refine aA (bV G J ?_);simp only [bF,hx];refine aA (cI (aA (eU z D (14:) ?_)));show wpAny _ _ (newExc (.type "StopIteration") []>>=_) _ _ _;refine aA (m:=newExc (.type "StopIteration") []) ?_;refine Za ?_ λh' e k x=>?_
 .exact(d.upd z D (14:)).in1
 exact q h' e (λb o n g=>k _ _ (fE .. |>.extBut b o n g)) x
end
theorem LD{p q d:Value}(Ap:ZipApart zp ti tu j1 j2 t1 t2)
 (gz:IsZip s.heap zp ti tu .none) (gi:IsPair s.heap ti (.ref j1) (.ref j2)) (gu:IsPair s.heap tu c d)
 (w1:s.heap.IsTupleIter j1 t1 n1) (w2:s.heap.IsTupleIter j2 t2 n2) (l1:s.heap.IsTuple t1 us) (l2:s.heap.IsTuple t2 vs) (ep:us[n1]?=some p) (eq:vs[n2]?=some q)
 (k:∀h',IsZip h' zp ti tu (rawInt s.heap.objs.size)->IsPair h' tu p q->h'.IsTupleIter j1 t1 (n1+1)->h'.IsTupleIter j2 t2 (n2+1)->IsPair h' s.heap.objs.size p q->
  (9:)->Q (.ref s.heap.objs.size) { s with heap:=h' }):
 wpAny (11:) A (Builtin.«zip.__next__» ⟨[.ref zp],[]⟩) (λfin s'=>∃v,fin=.done (.ret v)/\Q v s') E s:=by
 show wpAny _ _ (field (.ref zp) 2>>=_) _ _ _;refine aA (aP gz rfl (x:=.bool false) rfl ?_);show wpAny _ _ (field (.ref zp) 3>>=_) _ _ _;refine aA (aP gz rfl (x:=.ref ti) rfl ?_);refine aA (bV gi rfl ?_);show wpAny _ _ (Builtin.SmallTypes.ownedTupleIsFree (.ref zp)>>=_) _ _ _;refine aA ?_;(unfold Builtin.SmallTypes.ownedTupleIsFree);refine aA (aP gz rfl (x:=.none) rfl (aD ?_));simp only [cB];refine aA (cI (aA (aP gz rfl (x:=.ref tu) rfl ?_)));refine aA (cQ gz (14:) λha aa D=>?_)
 replace aa:IsZip ha zp ti tu .ellipsis:=aa
 refine aA ?_;simp only [fH,fK,gI,gL];refine aA (aA (eY ?_));show wpAny _ _ (Builtin.SmallTypes.nextOf (.ref j1)>>=_) _ _ _;refine aA (Z3 (w1.extBut D.extBut Ap.i1z) (l1.extBut D.extBut Ap.l1z) ep λhb ai Y=>aD ?_);have af:IsPair hb tu c d:=Y.extBut _ _ Ap.TOi1 (D.extBut _ _ Ap.TOz gu);refine aA (bV af rfl (aA (gv af λhc ab Z=>?_)))
 replace ab:IsPair hc tu p d:=ab
 refine aA (eN (aD (aA (aA (eY ?_)))));show wpAny _ _ (Builtin.SmallTypes.nextOf (.ref j2)>>=_) _ _ _;refine aA (Z3 (((w2.extBut D.extBut Ap.i2z).extBut Y.extBut Ap.i12.symm).extBut Z.extBut Ap.TOi2.symm) (((l2.extBut D.extBut Ap.l2z).extBut Y.extBut Ap.l2i1).extBut Z.extBut Ap.l2TO) eq λhd aj sd=>aD ?_);have ag:IsPair hd tu p d:=sd.extBut _ _ Ap.TOi2 ab;refine aA (bV ag rfl (aA (gv ag λz G se=>?_)))
 replace G:IsPair z tu p q:=G
 refine aA (eN (aD (aD (aA (bV G rfl (aA (wpAny_newTuple ?_)))))));have J:z.objs.size=s.heap.objs.size:=by rw [se.1,sd.1,Z.1,Y.1,D.1]
 have ah:IsZip z zp ti tu .ellipsis:=se.extBut _ _ Ap.TOz.symm (sd.extBut _ _ Ap.i2z.symm (Z.extBut _ _ Ap.TOz.symm (Y.extBut _ _ Ap.i1z.symm aa)));have ae:∀b o,b≠zp->b≠tu->b≠j1->b≠j2->s.heap.get? b=some o->z.get? b=some o:=λb o F b2 b3 b4 e=>se.extBut _ _ b2 (sd.extBut _ _ b4 (Z.extBut _ _ b2 (Y.extBut _ _ b3 (D.extBut _ _ F e))));have ak:z.IsTupleIter j1 t1 (n1+1):=((ai.extBut Z.extBut Ap.TOi1.symm).extBut sd.extBut Ap.i12).extBut se.extBut Ap.TOi1.symm;have al:z.IsTupleIter j2 t2 (n2+1):=aj.extBut se.extBut Ap.TOi2.symm;have lz:zp<z.objs.size:=aJ ah;show wpAny _ _ (Builtin.SmallTypes.ownedTupleHandOut (.ref zp) (.ref z.objs.size)>>=_) _ _ _;refine aA ?_;(unfold Builtin.SmallTypes.ownedTupleHandOut);have am:IsZip (z.push { cls:=.type "tuple",data:=.seq #[p,q] }) zp ti tu .ellipsis:=aG _ ah;refine aA (cQ am (14:) λhg ac sg=>?_)
 replace ac:IsZip hg zp ti tu (rawInt z.objs.size):=ac
 refine cQ ac (14:) λhh M sh=>?_
 replace M:IsZip hh zp ti tu (rawInt z.objs.size):=M
 have U:∀b o,b≠zp->z.get? b=some o->hh.get? b=some o:=λb o F e=>sh.extBut _ _ F (sg.extBut _ _ F (aG _ e));have ad:IsPair hh z.objs.size p q:=sh.extBut _ _ (fN lz) (sg.extBut _ _ (fN lz) (aQ _ rfl));rw [J]at M ad;refine aD ⟨_,rfl,?_⟩;show Q (.ref z.objs.size) _;rw [J];exact k hh M (U _ _ Ap.TOz G) (ak.at λo e=>U _ o Ap.i1z e) (al.at λo e=>U _ o Ap.i2z e) ad λb o F b2 b3 b4 e=>U b o F (ae b o F b2 b3 b4 e)
theorem Nx{zp ti tu j1 j2 t1 t2:Addr}{n1 n2:Nat}{us vs:Array Value}{c d:Value}{Q:Fin->Shared->Prop}(dH:Hd s.heap A)(Ap:ZipApart zp ti tu j1 j2 t1 t2)
 (gz:IsZip s.heap zp ti tu .none) (gi:IsPair s.heap ti (.ref j1) (.ref j2)) (gu:IsPair s.heap tu c d)
 (w1:s.heap.IsTupleIter j1 t1 n1) (l1:s.heap.IsTuple t1 us) (ep:us[n1]?=none)
 (k:∀h' e,(9:)->(∃o,h'.get? e=some o/\o.cls=.type "StopIteration")->E (.ref e) { s with heap:=h' }):
 wpAny (11:) A (Builtin.«zip.__next__» ⟨[.ref zp],[]⟩) Q E s:=by
 show wpAny _ _ (field (.ref zp) 2>>=_) _ _ _;refine aA (aP gz rfl (x:=.bool false) rfl ?_);show wpAny _ _ (field (.ref zp) 3>>=_) _ _ _;refine aA (aP gz rfl (x:=.ref ti) rfl ?_);refine aA (bV gi rfl ?_);show wpAny _ _ (Builtin.SmallTypes.ownedTupleIsFree (.ref zp)>>=_) _ _ _;refine aA ?_;(unfold Builtin.SmallTypes.ownedTupleIsFree);refine aA (aP gz rfl (x:=.none) rfl (aD ?_));simp only [cB];refine aA (cI (aA (aP gz rfl (x:=.ref tu) rfl ?_)));refine aA (cQ gz (14:) λha z F=>?_)
 replace z:IsZip ha zp ti tu .ellipsis:=z
 refine aA ?_;simp only [fH,fK,gI,gL];refine aA (aA (eY ?_));show wpAny _ _ (Builtin.SmallTypes.nextOf (.ref j1)>>=_) _ _ _;refine aA (Uz (dH.but gz rfl (14:) F.extBut) (w1.extBut F.extBut Ap.i1z) (l1.extBut F.extBut Ap.l1z) ep λhb e M ge=>?_);obtain⟨oe,D,G⟩:=ge;have J:IsZip hb zp ti tu .ellipsis:=M _ _ Ap.i1z.symm z;have U:e≠zp:=λx=>by subst x;rw [J]at D;cases D;simp at G
 refine cQ J (14:) λhc _ Y=>k hc e (λb o Z _ b3 _ x=>Y.extBut _ _ Z (M _ _ b3 (F.extBut _ _ Z x))) ⟨oe,Y.extBut _ _ U D,G⟩
theorem Us{zp ti tu j1 j2 t1 t2:Addr}{n1 n2:Nat}{us vs:Array Value}{p q c d:Value}{Q:Option Value->Shared->Prop}(Ap:ZipApart zp ti tu j1 j2 t1 t2)
 (gz:IsZip s.heap zp ti tu .none) (gi:IsPair s.heap ti (.ref j1) (.ref j2)) (gu:IsPair s.heap tu c d)
 (w1:s.heap.IsTupleIter j1 t1 n1) (w2:s.heap.IsTupleIter j2 t2 n2) (l1:s.heap.IsTuple t1 us) (l2:s.heap.IsTuple t2 vs) (ep:us[n1]?=some p) (eq:vs[n2]?=some q)
 (k:∀h',IsZip h' zp ti tu (rawInt s.heap.objs.size)->IsPair h' tu p q->h'.IsTupleIter j1 t1 (n1+1)->h'.IsTupleIter j2 t2 (n2+1)->IsPair h' s.heap.objs.size p q->
  (9:)->Q (some (.ref s.heap.objs.size)) { s with heap:=h' }):
 wpAny (11:) A (pyNext (.ref zp)) Q E s:=by
 have z:s.TypeIs (.ref zp) "zip":=⟨_,gz,rfl⟩;unfold pyNext;exact aA (d_ (cV (name:=Str.ofString "__next__") z dY (cH dY z gJ (LD Ap gz gi gu w1 w2 l1 l2 ep eq λh' D G J M U Y=>aD (k h' D G J M U Y)) (gF _))))
theorem UC{zp ti tu j1 j2 t1 t2:Addr}{n1 n2:Nat}{us:Array Value}{c d:Value}{Q:Option Value->Shared->Prop}(dH:Hd s.heap A)(Ap:ZipApart zp ti tu j1 j2 t1 t2)
 (gz:IsZip s.heap zp ti tu .none) (gi:IsPair s.heap ti (.ref j1) (.ref j2)) (gu:IsPair s.heap tu c d) (w1:s.heap.IsTupleIter j1 t1 n1) (l1:s.heap.IsTuple t1 us) (ep:us[n1]?=none)
 (k:∀h',(9:)->Q none { s with heap:=h' }):wpAny (11:) A (pyNext (.ref zp)) Q E s:=by
 have z:s.TypeIs (.ref zp) "zip":=⟨_,gz,rfl⟩;unfold pyNext;refine aA (d_ (cV (name:=Str.ofString "__next__") z dY (cH dY z gJ (Nx dH.in1 (n2:=n2) (vs:=us) Ap gz gi gu w1 l1 ep λh' e D G=>?_) (gF _))));obtain⟨o,J,M⟩:=G;exact aA (eG (T:="StopIteration") (b:=true) ⟨o,J,M⟩ eV (aD (k _ D)))
abbrev zT1(h:Heap)(t1:Addr):Heap:=h.push { cls:=.type "tuple_iterator",data:=.fields #[.ref t1,.int 0 0] }
abbrev zT2(h:Heap)(t1 t2:Addr):Heap:=(zT1 h t1).push { cls:=.type "tuple_iterator",data:=.fields #[.ref t2,.int 0 0] }
abbrev zT3(h:Heap)(t1 t2:Addr):Heap:=(zT2 h t1 t2).push { cls:=.type "tuple",data:=.seq #[.ref h.objs.size,.ref (zT1 h t1).objs.size] }
abbrev zT4(h:Heap)(t1 t2:Addr):Heap:=(zT3 h t1 t2).push { cls:=.type "tuple",data:=.seq #[.none,.none] }
abbrev zT5(h:Heap)(t1 t2:Addr):Heap:=(zT4 h t1 t2).push { cls:=.type "zip",data:=.fields #[.none,.bool false,.bool false,.ref (zT2 h t1 t2).objs.size,.ref (zT3 h t1 t2).objs.size] }
theorem MU(t1 t2:Addr)(us vs:Array Value):
 Meets (Builtin.«zip.__new__» ⟨[.type "zip",.ref t1,.ref t2],[]⟩) (λ_ R s=>s.heap.IsTuple t1 us/\s.heap.IsTuple t2 vs/\
  R (.ok (.ret (.ref (zT4 s.heap t1 t2).objs.size))) { s with heap:=zT5 s.heap t1 t2 }):=
 .of_wp λprog w A R s h=>by
  obtain⟨hp,g,d,tk,z⟩:=s;obtain⟨D,F,h⟩:=h;have G:=sub_zip;have J:Heap.IsTuple (Shared.heap ⟨hp,g,d,tk,z⟩) t1 us:=D;have L2:Heap.IsTuple (Shared.heap ⟨hp.push { cls:=.type "tuple_iterator",data:=.fields #[.ref t1,.int 0 0] },g,d,tk,z⟩) t2 vs:=let⟨o,e,r⟩:=F;⟨o,aG _ e,r⟩
  wp_walk using wpAny_pyIter_tuple J,wpAny_pyIter_tuple L2
  exact⟨_,rfl,h⟩
theorem LA(l1:s.heap.IsTuple t1 us)(l2:s.heap.IsTuple t2 vs)
 (h:∀h',IsZip h' (s.heap.objs.size+4) (s.heap.objs.size+2) (s.heap.objs.size+3) .none->IsPair h' (s.heap.objs.size+2) (.ref s.heap.objs.size) (.ref (s.heap.objs.size+1))->
  IsPair h' (s.heap.objs.size+3) .none .none->h'.IsTupleIter s.heap.objs.size t1 0->h'.IsTupleIter (s.heap.objs.size+1) t2 0->
  (∀c o,s.heap.get? c=some o->h'.get? c=some o)->Q (.ref (s.heap.objs.size+4)) { s with heap:=h' }):
 wpAny (11:) A (call (.type "zip") [.ref t1,.ref t2]) Q E s:=by
 refine callType_new F.called_zip (18:) (F.typeCall_zip_2 _ _) (F.newCall_zip_2 _ _) (λM=>F.args_object_init_3 M _ _) F.entry_zip_new (MU t1 t2 us vs) ⟨l1,l2,?_⟩;have z:(zT1 s.heap t1).objs.size=s.heap.objs.size+1:=cK ..;have D:(zT2 s.heap t1 t2).objs.size=s.heap.objs.size+2:=by rw [cK,z]
 have G:(zT3 s.heap t1 t2).objs.size=s.heap.objs.size+3:=by rw [cK,D]
 have U:(zT4 s.heap t1 t2).objs.size=s.heap.objs.size+4:=by rw [cK,G]
 have J:(zT5 s.heap t1 t2).get? (zT4 s.heap t1 t2).objs.size=some _:=aQ _ rfl;have Y:(zT5 s.heap t1 t2).get? (zT3 s.heap t1 t2).objs.size=some _:=aG _ (aQ _ rfl);have Z:(zT5 s.heap t1 t2).get? (zT2 s.heap t1 t2).objs.size=some _:=aG _ (aG _ (aQ _ rfl));have r2:(zT5 s.heap t1 t2).get? (zT1 s.heap t1).objs.size=some _:=aG _ (aG _ (aG _ (aQ _ rfl)));have r1:(zT5 s.heap t1 t2).get? s.heap.objs.size=some _:=aG _ (aG _ (aG _ (aG _ (aQ _ rfl))));show _/\_;rw [D,G,U]at J;rw [z,D]at Z;rw [G]at Y;rw [z]at r2;rw [U];exact⟨⟨_,J,rfl⟩,h _ J Z Y ⟨_,r1,rfl,rfl⟩ ⟨_,r2,rfl,rfl⟩ λb o x=>aG _ (aG _ (aG _ (aG _ (aG _ x))))⟩
def Po(K:Fg)(a b:Addr)(xs ys:List V):It:=
 ⟨λi H=>SqT K H a xs/\SqT K H b ys/\i<xs.length/\i<ys.length,λi H x H'=>∃p u v,H p=none/\x=.ref p/\H'=upd H p (.tup [u,v])/\xs[i]?=some u/\ys[i]?=some v,λi H=>SqT K H a xs/\xs.length<=i⟩
theorem LC{K:Fg}(a b z:Addr)(xs ys:List V)(TI TO i1 i2:Addr)(Ap:ZipApart z TI TO i1 i2 a b):
 Turn P w K (.Tuple elts k1 pos) (Po K a b xs ys) [z,TI,TO,i1,i2] z (λi h=>IsZip h z TI TO .none/\IsPair h TI (.ref i1) (.ref i2)/\(∃u v,IsPair h TO u v)/\h.IsTupleIter i1 a i/\h.IsTupleIter i2 b i) where
 mem:=by simp
 obj:=λi h st c D=>by
  obtain⟨M,F,⟨u,v,G⟩,h1,h2⟩:=st;simp only [aM,bH,bG]at D;rcases D with rfl | rfl | rfl | rfl | rfl
  .exact⟨_,M,λv z=>by have U:Data.fields _=Data.cell v:=z;cases U⟩
  .exact⟨_,F,λv z=>by have U:Data.seq _ _=Data.cell v:=z;cases U⟩
  .exact⟨_,G,λv z=>by have U:Data.seq _ _=Data.cell v:=z;cases U⟩
  .obtain⟨o,e,c,d⟩:=h1;exact⟨o,e,λv z=>by rw [d]at z;cases z⟩
  .obtain⟨o,e,c,d⟩:=h2;exact⟨o,e,λv z=>by rw [d]at z;cases z⟩
 keep:=λi h h' st k=>by
  obtain⟨M,F,⟨u,v,G⟩,h1,h2⟩:=st;exact⟨k z (14:) _ M,k TI (14:) _ F,⟨u,v,k TO (14:) _ G⟩,h1.at λo e=>k i1 (14:) o e,h2.at λo e=>k i2 (14:) o e⟩
 item:=by
  intro X hP hw hK D i pins s σ H E I Z st hg;subst hP hw hK;obtain⟨M,F,⟨u0,v0,G⟩,h1,h2⟩:=st;obtain⟨qa,qb,lx,ly⟩:=hg;obtain⟨its,rv,p,_⟩:=I.tuple qa;obtain⟨ag,ab,p2,_⟩:=I.tuple qb;have ex:xs[i]?=some xs[i]:=aB lx;have ey:ys[i]?=some ys[i]:=aB ly;obtain⟨u,hu,ru⟩:=rv.get ex;obtain⟨v,hv,ac⟩:=ab.get ey;refine Us Ap M F G h1 h2 p p2 (p:=u) (q:=v) (by simpa using hu) (by simpa using hv) λh' a1 a2 a3 a4 a5 hk=>?_;refine⟨.ref s.heap.objs.size,rfl,wpAny_letOwnedTupleGo_zip (s:={ s with heap:=h' }) a1 λaa ad J=>?_⟩;have lt:∀{c o},s.heap.get? c=some o->c≠s.heap.objs.size:=λe=>aU (aJ e);have e5:IsPair aa s.heap.objs.size u v:=(J.2 _ (aL (lt M))).trans a5;have Y:∀c∈[z,TO,i1,i2],YX X pins H c:=λc D=>Z c (by
   simp only [aM,bH,bG]at D ⊢;rcases D with rfl | rfl | rfl | rfl<;>simp)
  have I2:Inv X pins σ (upd H s.heap.objs.size (.tup [xs[i],ys[i]])) { s with heap:=aa,toks:=s.toks }:=by
   refine I.turnedNew (ch:=[z,TO,i1,i2]) (λc o D e=>?_) Y (4:) ⟨by show 2<=sizeLine;decide,[u,v],.cons ru (.cons ac .nil),⟨_,e5,rfl,_,rfl⟩⟩;simp only [aM,bH,bG,not_or]at D;exact(J.2 c D.1).trans (hk c o D.1 D.2.1 D.2.2.1 D.2.2.2 e)
  have ae:∀c∈[z,TI,TO,i1,i2],upd H s.heap.objs.size (.tup [xs[i],ys[i]]) c=none:=λc D=>by
   have af:=Z c D;have:c≠s.heap.objs.size:=by
    simp only [aM,bH,bG]at D;rcases D with rfl | rfl | rfl | rfl | rfl
    .exact lt M
    .exact lt F
    .exact lt G
    .obtain⟨o,e,_⟩:=h1;exact lt e
    .obtain⟨o,e,_⟩:=h2;exact lt e
   rw [Qi this];exact af.1
  exact(19:)
 done:=by
  intro X hP hw hK D i pins s σ H E I Z st hg;subst hP hw hK;obtain⟨M,F,⟨u0,v0,G⟩,h1,h2⟩:=st;obtain⟨qa,hl⟩:=hg;obtain⟨its,rv,p,_⟩:=I.tuple qa;have l1:=rv.length;have Y:∀c∈[z,TO,i1,i2],YX X pins H c:=λc D=>Z c (by
   simp only [aM,bH,bG]at D ⊢;rcases D with rfl | rfl | rfl | rfl<;>simp)
  refine UC (n2:=0) (I.hd D) Ap M F G h1 p (by simp;lia) λh' hk=>⟨rfl,I.turnedL (t':=s.toks) (ch:=[z,TO,i1,i2]) (λc o D e=>?_) Y⟩;simp only [aM,bH,bG,not_or]at D;exact hk c o D.1 D.2.1 D.2.2.1 D.2.2.2 e
 self:=λ_ _ _ _ _ st h=>fY st.1 h
def SM(K:Fg)(ta:TA):TI:=λσ H R=>ta σ H λvs H1=>∃a b xs ys,vs=[.ref a,.ref b]/\SqT K H1 a xs/\SqT K H1 b ys/\R (Po K a b xs ys) H1
theorem Oy{ta:TA}{p:Pos}(hg:Gl X "zip")(hm:X.mg "zip"=none)(ha:PA X [e1,e2] ta)(hs:starEach [e1,e2] X.env=[(false,eval e1 X.env),(false,eval e2 X.env)]:=by rfl)(hs2:starEach [e2] X.env=[(false,eval e2 X.env)]:=by rfl):
 PI X (.Tuple elts k1 tpos) (.Call (.Name "zip" p) [e1,e2] [] pos) (SM X.K ta):=by
 intro pins s σ H R I h;refine Call_ (Z5 I hg hm PyProof.Rows.boot_zip (fP (thn (ha pos pins s σ H _ I h) λus z ⟨vs,H1,D,r1,q1⟩=>?_) (by rw [hs,hs2]) (by rw [hs2];rfl)));obtain⟨a,b,xs,ys,e,qa,qb,q⟩:=q1;subst e;obtain⟨u1,u2,e3,r3,r4⟩:=r1.two;subst e3;cases (show u1=Value.ref a from r3);cases (show u2=Value.ref b from r4);obtain⟨its,rv,J,_⟩:=D.tuple qa;obtain⟨aa,ab,F,_⟩:=D.tuple qb;have la:@LT.lt Nat _ a z.heap.objs.size:=by obtain⟨o,e,_⟩:=J;exact aJ e
 have lb:@LT.lt Nat _ b z.heap.objs.size:=by obtain⟨o,e,_⟩:=F;exact aJ e
 refine LA J F λh' M U Y h1 h2 hk=>?_;refine fY M ?_;have I2:Inv X pins σ H1 { z with heap:=h' }:=D.kept (t':=z.toks) hk;refine⟨z.heap.objs.size+4,[z.heap.objs.size+4,z.heap.objs.size+2,z.heap.objs.size+3,z.heap.objs.size,z.heap.objs.size+1],_,_,H1,rfl,I2,LC a b (z.heap.objs.size+4) xs ys (z.heap.objs.size+2) (z.heap.objs.size+3) z.heap.objs.size (z.heap.objs.size+1) ?_,⟨M,U,⟨_,_,Y⟩,h1,h2⟩,λc Z=>?_,q⟩
 .constructor<;>(refine nne ?_;lia)
 .have G:@LE.le Nat _ z.heap.objs.size c:=by
   simp only [aM,bH,bG]at Z;rcases Z with rfl | rfl | rfl | rfl | rfl<;>lia
  exact D.fpOk G (D.hok.fresh G)
theorem O0{K:Fg}{a b acc:Addr}{xs zs:List V}{tt:TT}{te:TE}{cs:St}{H1:Hp}{Q:Hp->Prop}(hlen:xs.length=zs.length)(Pv:Nat->List V->Hp->Prop)(h0:Pv 0 [] (upd H1 acc (.lst [])))(hl:∀i ys H,i<=xs.length->Pv i ys H->SqT K H a xs/\SqT K H b zs)
 (hs:∀i u v p ys H,i<xs.length->xs[i]?=some u->zs[i]?=some v->H p=none->Pv i ys H->tt (some u::some v::cs) (upd H p (.tup [u,v])) (Ll xs.length Pv acc i te (some u::some v::cs))) (hd:∀ys H,Pv xs.length ys H->Q H):Jx (Po K a b xs zs) 2 cs (L6 K 2 (Ud (Zz 0) (Ud (Zz 1) ME))) tt te H1 acc Q:=by
 refine Zj (N:=xs.length) Pv h0 (λys H p=>?_) λi ys H hi p=>?_
 .obtain⟨z,D⟩:=hl _ _ _ (4:) p;exact⟨⟨z,bB _⟩,hd ys H p⟩
 .obtain⟨z,D⟩:=hl _ _ _ (cS hi) p;refine⟨⟨z,D,hi,by lia⟩,?_⟩;rintro x U ⟨q,u,v,G,rfl,rfl,J,M⟩ Y F;obtain⟨Z,a1,rfl⟩:=X7 F;exact⟨q,[u,v],rfl,SqT.of Qb,rfl,u,[v],rfl,v,[],rfl,rfl,⟨[some u,some v],rfl,rfl⟩,hs i u v q ys _ hi J M G p⟩
def SH(K:Fg):R2:=λx y H Q=>∃l b xs zs,x=.ref l/\y=.ref b/\SqL K H l xs/\SqL K H b zs/\xs.length+zs.length<=sizeLine/\∀p,H p=none->Q (.ref p) (upd H p (.lst (xs++zs)))
theorem OO:OpR X (binaryOp .Add) (SH X.K):=by
 intro pins s σ H x y v u Q I rx ry h;obtain⟨l,b,xs,zs,rfl,rfl,ha,hb,hz,q⟩:=h;cases rx;cases ry;obtain⟨its,D,⟨⟨c1,d1,t1,s1⟩,n1,G,e1,J,k1⟩,_⟩:=I.list ha;obtain⟨z,M,⟨⟨c2,d2,t2,s2⟩,n2,U,e2,Y,Z⟩,_⟩:=I.list hb;simp only at e1 J k1 e2 Y Z;subst e1 J k1 e2 Y Z;have l1:=D.length;have l2:=M.length;refine concat_meets ⟨_,G,rfl⟩ ⟨_,U,rfl⟩ noFill_list_add seq_list_add PySem.F.slot_list_add PySem.F.entry_list_add (PySem.F.args_list_add_2 _ _) (list_addW l b _ _ n1 n2 none none s1 s2 (by rw [aV,aV];lia)) ⟨G,U,?_⟩;have ea:its.toArray++z.toArray=(its++z).toArray:=by simp
 rw [ea];exact⟨.ref _,_,I.lnew (t':=s.toks) (D.append M) (by rw [bE];lia),rfl,q _ I.fresh⟩
theorem Gu(xs:List V)(k:Nat):cutV xs none (some (k:Int))=xs.take k:=by
 unfold cutV;rw [HT.sIx_none,HT.sIx_nat,List.drop_zero,Nat.sub_zero]
 by_cases h:k<=xs.length
 .rw [Nat.min_eq_left h]
 .rw [Nat.min_eq_right (7:),bL (4:),bL (7:)]
theorem XW{k:Nat}(h:k<n):ixN n (k:Int)=some k:=by
 unfold ixN;rw [aE (7:),aE (7:)];simp
theorem QL:sizeLine=16777216:=by decide
theorem Zg(h:n<=5000):n<=sizeLine:=by rw [QL];lia
end L2
namespace K9
open PySem L2 TM
mutual
noncomputable def isT(f:Str->Str->Option (List Str)):Tree Str->Str->Bool
 | .node n _ bs,k=>match f k n with
  | none=>false
  | some ss=>decide (ss.length=bs.length)&&YM f bs ss
noncomputable def YM(f:Str->Str->Option (List Str)):List (Tree Str)->List Str->Bool
 | [],ss=>ss.isEmpty
 | b::bs,ss=>match ss with
  | []=>false
  | s::r=>isT f b s&&YM f bs r
end
theorem V0(f:Str->Str->Option (List Str)){t:Tree Str}{n:Str}{bs:List (Tree Str)}(e:t=.node n m bs)(k:Str):isT f t k=match f k n with
 | none=>false
 | some z=>decide (z.length=bs.length)&&YM f bs z:=by subst e;simp only [isT]
theorem WV(f:Str->Str->Option (List Str)):∀(bs:List (Tree Str))(ss:List Str),ss.length=bs.length->YM f bs ss=(List.zipWith (λs b=>isT f b s) ss bs).all id
 | [],[],_=>by simp [YM]
 | [],_::_,h=>by simp at h
 | _::_,[],h=>by simp at h
 | b::bs,s::ss,h=>by
  simp only [YM,List.zipWith_cons_cons,List.all_cons,id];rw [WV f bs ss (by simpa using h)]
mutual
noncomputable def td:Tree Str->PyData
 | .node n m bs=>.tuple [.str n,.int m,.tuple (tds bs)]
noncomputable def tds:List (Tree Str)->List PyData
 | []=>[]
 | t::r=>td t::tds r
end
mutual
theorem TrV.rd{K:Fg}{H:Hp}:∀{v:V}{t:Tree Str},TrV K H v t->RdV K H v (td t)
 | _,_,.mk h1 h2 z _=>by
  simp only [td];exact .tup h1 (.cons (.str _) (.cons (.int _) (.cons (.tup h2 (TrAll.rd z)) .nil)))
theorem TrAll.rd{K:Fg}{H:Hp}:∀{vs:List V}{ts:List (Tree Str)},TrAll K H vs ts->RdAll K H vs (tds ts)
 | _,_,.nil=>by simp only [tds];exact .nil
 | _,_,.cons h t=>by simp only [tds];exact .cons (TrV.rd h) (TrAll.rd t)
end
def LayT(t:Tree Str):Prop:=(td t).canLay0=true
theorem Xw:∀ts:List (Tree Str),(∀t∈ts,LayT t)->PyData.canLayAll0 (tds ts)=true
 | [],_=>by simp [tds,PyData.canLayAll0]
 | t::r,h=>by
  have h1:(td t).canLay0=true:=h t bA;simp only [tds,PyData.canLayAll0,h1,Xw r λu z=>h u (bC _ z),eJ]
theorem LayT.node{n:Str}(hn:PyData.strOk n=true)(h:∀t∈ts,LayT t):LayT (.node n m ts):=by
 unfold LayT;simp only [td,PyData.canLay0,PyData.canLayAll0,hn,Xw ts h,eJ]
theorem U9:∀ts:List (Tree Str),PyData.canLayAll0 (tds ts)=true->∀t∈ts,LayT t
 | [],_=>λt ht=>by cases ht
 | u::r,h=>λt ht=>by
  simp only [tds,PyData.canLayAll0,bD]at h;rcases aM.mp ht with rfl | ht
  .exact h.1
  .exact U9 r h.2 t ht
theorem LayT.bs{t:Tree Str}(h:LayT t):∀u∈t.bs,LayT u:=by
 cases t with
 | node n m bs=>
  unfold LayT at h;simp only [td,PyData.canLay0,PyData.canLayAll0,bD]at h;exact U9 bs h.2.2.1
abbrev KdT:=Addr×Str×Addr×List PNx
def RowAt(K:Fg)(H:Hp)(t:PNx):Prop:=SqT K H t.1 [.str t.2.1,.ref t.2.2.1]/\SqT K H t.2.2.1 (t.2.2.2.map V.str)
def RowsL(K:Fg)(H:Hp)(lr:Addr)(rs:List PNx):Prop:=SqL K H lr (rs.map λt=>V.ref t.1)/\∀t∈rs,RowAt K H t
def WoodAt(K:Fg)(H:Hp)(w:Addr)(ks:List KdT):Prop:=SqL K H w (ks.map λk=>V.ref k.1)/\∀k∈ks,SqT K H k.1 [.str k.2.1,.ref k.2.2.1]/\RowsL K H k.2.2.1 k.2.2.2
theorem RowAt.same{K:Fg}{t:PNx}(g:Same H H')(h:RowAt K H t):RowAt K H' t:=⟨g.seqT h.1,g.seqT h.2⟩
theorem RowsL.same{K:Fg}{lr:Addr}{rs:List PNx}(g:Same H H')(h:RowsL K H lr rs):RowsL K H' lr rs:=⟨g.seq h.1,λt z=>(h.2 t z).same g⟩
theorem WoodAt.same{K:Fg}{w:Addr}{ks:List KdT}(g:Same H H')(h:WoodAt K H w ks):WoodAt K H' w ks:=⟨g.seq h.1,λk z=>⟨g.seqT (h.2 k z).1,(h.2 k z).2.same g⟩⟩
structure RowsOk(rs:List PNx):Prop where
 nd:(rs.map λt=>t.2.1).Nodup
 len:rs.length<=10
 nm:∀r∈rs,PyData.strOk r.2.1=true
 kn:∀r∈rs,∀x∈r.2.2.2,PyData.strOk x=true
 kl:∀r∈rs,r.2.2.2.length<=4
structure WoodOk(ks:List KdT):Prop where
 nd:(ks.map λk=>k.2.1).Nodup
 len:ks.length<=10
 rows:∀k∈ks,RowsOk k.2.2.2
def Qu(ks:List KdT)(kind:Str):List PNx:=((ks.find? λk=>decide (k.2.1=kind)).map λk=>k.2.2.2).getD []
def QX(ks:List KdT)(kind name:Str):Option (List Str):=((Qu ks kind).find? λr=>decide (r.2.1=name)).map λr=>r.2.2.2
theorem UO{α:Type}(f:α->Str)(g:α->V)(z:Str):∀l:List α,valV (l.map λx=>((Sum.inr (f x):Key),g x)) (Sum.inr z)=(l.find? λx=>decide (f x=z)).map g
 | []=>rfl
 | x::r=>by
  rw [aS,dD]
  by_cases e:f x=z
  .rw [Q0 (p:=((Sum.inr (f x):Key),g x)) (by rw [e]),bW e];rfl
  .rw [QW (p:=((Sum.inr (f x):Key),g x)) (λq=>e (by injection q)),bN e];exact UO f g z r
theorem Ji{ks:List KdT}(h:WoodOk ks)(kind:Str):RowsOk (Qu ks kind):=by
 unfold Qu;cases e:ks.find? λk=>decide (k.2.1=kind)with
 | none=>exact⟨List.nodup_nil,bK _,λr z=>(nomatch z),λr z=>(nomatch z),λr z=>(nomatch z)⟩
 | some k=>exact h.rows k (gr e)
theorem N8{ks:List KdT}(h:WoodOk ks)(e:QX ks kind name=some ss):(∀x∈ss,PyData.strOk x=true)/\ss.length<=4:=by
 unfold QX at e;cases z:(Qu ks kind).find? λr=>decide (r.2.1=name)with
 | none=>rw [z]at e;cases e
 | some r=>
  rw [z]at e;have D:=gr z;have:r.2.2.2=ss:=by simpa using e
  rw [<-this];exact⟨(Ji h kind).kn r D,(Ji h kind).kl r D⟩
def Tc(K:Fg)(H:Hp)(v:V):Option (List Str)->Prop
 | none=>v=.non
 | some ss=>∃b,v=.ref b/\SqT K H b (ss.map V.str)
theorem US{K:Fg}{v:V}{t:Tree Str}(h:TrV K H v t):∃a b vs name mark,v=.ref a/\t=.node name mark t.bs/\SqT K H a [.str name,.int mark,.ref b]/\SqT K H b vs/\TrAll K H vs t.bs/\vs.length<=1000:=by
 cases h with
 | mk h1 h2 z D=>exact⟨_,_,_,_,_,rfl,rfl,h1,h2,z,D⟩
end K9
variable{ks:List K9.KdT}
namespace K11
open PySem L2 TM TT K9
def YV(mk ks:List Str)(c:Int×Int):Bool:=decide (0<=c.1)&&decide (c.1<mk.length)&&decide (0<=c.2)&&decide (c.2<ks.length)&&decide (mk[c.1.toNat]?=ks[c.2.toNat]?)
def Ys(mk ks:List Str)(t:Tm):Bool:=(cls t).all (YV mk ks)
abbrev Md:=Str×List Tm
abbrev MdT:=Addr×Str×Addr×List V×List Tm
def MdT.md(m:MdT):Md:=(m.2.1,m.2.2.2.2)
def MdAt(K:Fg)(H:Hp)(m:MdT):Prop:=SqT K H m.1 [.str m.2.1,.ref m.2.2.1]/\SqL K H m.2.2.1 m.2.2.2.1/\TmAll K H m.2.2.2.1 m.2.2.2.2
def ModesL(K:Fg)(H:Hp)(lm:Addr)(ms:List MdT):Prop:=SqL K H lm (ms.map λm=>V.ref m.1)/\∀m∈ms,MdAt K H m
theorem MdAt.same{K:Fg}{m:MdT}(g:Same H H')(h:MdAt K H m):MdAt K H' m:=⟨g.seqT h.1,g.seq h.2.1,h.2.2.mono λ_ _=>g.seqT⟩
theorem ModesL.same{K:Fg}{ms:List MdT}(g:Same H H')(h:ModesL K H lm ms):ModesL K H' lm ms:=⟨g.seq h.1,λm z=>(h.2 m z).same g⟩
abbrev mds(ms:List MdT):List Md:=ms.map MdT.md
abbrev mks(ms:List Md):List Str:=ms.map (·.1)
def ZZ(ks:List KdT)(mk:List Str)(m:Md):Bool:=
 decide ((Qu ks m.1).length≠0)&&decide (m.2.length=(Qu ks m.1).length)&&(List.zipWith (λ(r:PNx) t=>Ys mk r.2.2.2 t) (Qu ks m.1) m.2).all id
def ruleK(ks:List KdT)(m:Md)(name:Str):Option Tm:=(((Qu ks m.1).zip m.2).find? λx=>decide (x.1.2.1=name)).map (·.2)
def TmO(K:Fg)(H:Hp)(v:V):Option Tm->Prop
 | none=>v=.non
 | some t=>TmV K H v t
end K11
variable{ms:List K11.MdT}
namespace K27
open PySem L2 TM TT K9 K11
def nmT:Tree Str->Str
 | .node n _ _=>n
def mkT:Tree Str->Int
 | .node _ m _=>m
def Yk(ks:List KdT)(ms:List Md)(t:Tm)(r:Tree Str):Option (Tm×Tree Str):=
 match lab t with
 | .put _ _ _=>none
 | .call m b=>match r.bs[b.toNat]? with
  | none=>none
  | some c=>match ms[m.toNat]? with
   | none=>none
   | some md=>match ruleK ks md (nmT c)with
    | none=>none
    | some u=>some (u,c)
def Ym(ks:List KdT)(ms:List Md):Nat->Tm×Tree Str->Tm×Tree Str
 | 0,p=>p
 | n+1,p=>match Yk ks ms p.1 p.2 with
  | none=>p
  | some q=>Ym ks ms n q
theorem WM{ms:List Md}{t:Tm}(h:Yk ks ms t r=some q):q.2∈r.bs:=by
 unfold Yk at h;cases D:lab t with
 | put n k a=>rw [D]at h;cases h
 | call m b=>
  rw [D]at h;simp only at h;cases z:r.bs[b.toNat]? with
  | none=>rw [z]at h;cases h
  | some c=>
   rw [z]at h;simp only at h;cases F:ms[m.toNat]? with
   | none=>rw [F]at h;cases h
   | some md=>
    rw [F]at h;simp only at h;cases G:ruleK ks md (nmT c)with
    | none=>rw [G]at h;cases h
    | some u=>
     rw [G]at h;obtain rfl:=aH h;exact aN z
theorem UY{ms:List Md}:∀(n:Nat)(p:Tm×Tree Str),lv p.2<=n->Ym ks ms (n+1) p=Ym ks ms n p
 | 0,p,h=>by rw [Q8]at h;lia
 | n+1,p,h=>by
  rw [Ym]
  conv=>rhs;rw [Ym]
  cases e:Yk ks ms p.1 p.2 with
  | none=>rfl
  | some q=>
   have h1:=ZI (WM e);rw [Q8]at h;exact UY n q (7:)
def come(ks:List KdT)(ms:List Md)(p:Tm×Tree Str):Tm×Tree Str:=Ym ks ms 60 p
theorem Xt{ms:List Md}{p:Tm×Tree Str}(hl:lv p.2<=60)(h:Yk ks ms p.1 p.2=some q):come ks ms p=come ks ms q:=by
 have h1:=ZI (WM h);rw [Q8]at hl;unfold come;rw [UY 59 q (7:)];rw [Ym,h]
theorem W3{ms:List Md}{p:Tm×Tree Str}(h:isC (lab p.1)=false):come ks ms p=p:=by
 unfold come;rw [Ym];have:Yk ks ms p.1 p.2=none:=by
  unfold Yk;cases z:lab p.1 with
  | put n k a=>rfl
  | call m b=>rw [z]at h;cases h
 rw [this]
structure Tu where
 ks:List KdT
 k0:Str
 start:Tm
 ms:List Md
structure TuOk(T:Tu):Prop where
 rf:∀m∈T.ms,ZZ T.ks (mks T.ms) m=true
 st:Ys (mks T.ms) [T.k0] T.start=true
def St(T:Tu)(p:Tm×Tree Str):Prop:=∃kinds,Ys (mks T.ms) kinds p.1=true/\kinds.length=p.2.bs.length/\YM (QX T.ks) p.2.bs kinds=true
theorem Gx{f:Str->Str->Option (List Str)}:∀{bs:List (Tree Str)}{ss:List Str}{i:Nat}{b:Tree Str}{s:Str},YM f bs ss=true->bs[i]?=some b->ss[i]?=some s->isT f b s=true
 | [],_,_,_,_,_,h,_=>by simp at h
 | _::_,[],_,_,_,_,_,h=>by simp at h
 | b::bs,s::ss,0,b',s',h,h1,h2=>by
  simp only [YM,bD]at h;simp at h1 h2;rw [<-h1,<-h2];exact h.1
 | b::bs,s::ss,i+1,b',s',h,h1,h2=>by
  simp only [YM,bD]at h;exact Gx (i:=i) h.2 (by simpa using h1) (by simpa using h2)
theorem JG{f:Str->Str->Option (List Str)}{t:Tree Str}{k:Str}(h:isT f t k=true):∃ss,f k (nmT t)=some ss/\ss.length=t.bs.length/\YM f t.bs ss=true:=by
 cases t with
 | node n m bs=>
  simp only [isT]at h;cases e:f k n with
  | none=>rw [e]at h;cases h
  | some ss=>
   rw [e]at h;simp only [bD,dS]at h;exact⟨ss,e,h.1,h.2⟩
theorem WR{α β:Type}(p:α->Bool)(f:α->β->Bool):∀{as:List α}{bs:List β}{a:α},as.length=bs.length->(List.zipWith f as bs).all id=true->as.find? p=some a->∃b,(as.zip bs).find? (λx=>p x.1)=some (a,b)/\f a b=true/\b∈bs
 | [],_,_,_,_,h=>by simp at h
 | x::as,[],_,hl,_,_=>by simp at hl
 | x::as,y::bs,a,hl,ha,h=>by
  simp only [List.zipWith_cons_cons,List.all_cons,id,bD]at ha;rw [dD]at h;rw [List.zip_cons_cons,dD];cases hp:p x with
  | true=>
   rw [hp]at h;obtain rfl:=aH h;exact⟨y,by simp [hp],ha.1,bA⟩
  | false=>
   rw [hp]at h;obtain⟨b,h1,h2,z⟩:=WR p f (by simpa using hl) ha.2 h;exact⟨b,by simpa [hp]using h1,h2,bC _ z⟩
theorem NQ{t:Tm}{b:Int}(h:lab t=.call m b):(m,b)∈cls t:=by
 cases t with
 | node l k bs=>
  have:l=.call m b:=h;subst this;simp [cls,lcl]
theorem YH{mk ks:List Str}{b:Int}(h:YV mk ks (m,b)=true):0<=m/\m<mk.length/\0<=b/\b<ks.length/\mk[m.toNat]?=ks[b.toNat]?:=by
 unfold YV at h;simp only [bD,dS]at h;obtain⟨⟨⟨⟨h1,h2⟩,z⟩,D⟩,F⟩:=h;exact⟨h1,h2,z,D,F⟩
theorem NN{mk ks:List Str}{t:Tm}{b:Int}(h:Ys mk ks t=true)(hl:lab t=.call m b):YV mk ks (m,b)=true:=by
 unfold Ys at h;exact dX.mp h _ (NQ hl)
theorem Um{T:Tu}(ok:TuOk T){md:Md}(hm:md∈T.ms)(hr:QX T.ks md.1 name=some ss):∃u,ruleK T.ks md name=some u/\Ys (mks T.ms) ss u=true/\u∈md.2:=by
 have h:=ok.rf md hm;unfold ZZ at h;simp only [bD,dS]at h;obtain⟨⟨_,h2⟩,D⟩:=h;unfold QX at hr;cases z:(Qu T.ks md.1).find? λr=>decide (r.2.1=name)with
 | none=>rw [z]at hr;cases hr
 | some r=>
  rw [z]at hr;have e:r.2.2.2=ss:=by simpa using hr
  obtain⟨u,F,G,J⟩:=WR (λr:PNx=>decide (r.2.1=name)) (λ(r:PNx) t=>Ys (mks T.ms) r.2.2.2 t) h2.symm D z;refine⟨u,?_,by rw [<-e];exact G,J⟩;unfold ruleK;rw [F];rfl
theorem St.next{T:Tu}(ok:TuOk T){p:Tm×Tree Str}(h:St T p){b:Int}(hl:lab p.1=.call m b):
 ∃c md u,0<=b/\0<=m/\p.2.bs[b.toNat]?=some c/\T.ms[m.toNat]?=some md/\ruleK T.ks md (nmT c)=some u/\u∈md.2/\Yk T.ks T.ms p.1 p.2=some (u,c)/\St T (u,c):=by
 obtain⟨z,U,aa,Y⟩:=h;obtain⟨Z,m1,b0,b1,e⟩:=YH (NN U hl);have J:b.toNat<p.2.bs.length:=by lia
 have D:m.toNat<T.ms.length:=by rw [aC]at m1;lia
 have ab:b.toNat<z.length:=by lia
 have F:p.2.bs[b.toNat]?=some p.2.bs[b.toNat]:=aB J;have G:T.ms[m.toNat]?=some T.ms[m.toNat]:=aB D;have hk:z[b.toNat]?=some T.ms[m.toNat].1:=by rw [<-e,aI,G];rfl
 obtain⟨ss,h1,h2,h3⟩:=JG (Gx Y F hk);obtain⟨u,M,h5,h6⟩:=Um ok (aZ D) h1;refine⟨_,_,u,b0,Z,F,G,M,h6,?_,ss,h5,h2,h3⟩;unfold Yk;rw [hl];simp only [F,G,M]
theorem UT{T:Tu}(ok:TuOk T):∀(n:Nat)(p:Tm×Tree Str),lv p.2<=n->n<=60->St T p->St T (come T.ks T.ms p)/\isC (lab (come T.ks T.ms p).1)=false/\lv (come T.ks T.ms p).2<=lv p.2
 | 0,p,h,_,_=>by rw [Q8]at h;lia
 | n+1,p,h,hn,D=>by
  cases F:lab p.1 with
  | put nm k a=>
   have z:isC (lab p.1)=false:=by rw [F];rfl
   rw [W3 z];exact⟨D,z,bB _⟩
  | call m b=>
   obtain⟨c,md,u,_,_,z,_,_,_,G,J⟩:=D.next ok F;rw [Xt (7:) G];have h1:=ZI (aN z);have h0:=Q8 p.2;obtain⟨M,U,Y⟩:=UT ok n (u,c) (by show lv c<=n;lia) (7:) J;have Z:lv (come T.ks T.ms (u,c)).2<=lv c:=Y;exact⟨M,U,by lia⟩
def ZS(T:Tu)(p:Tm×Tree Str)(j:Int):Option (Tm×Tree Str):=if 0<=j then(p.1.bs[j.toNat]?).map λu=>come T.ks T.ms (u,p.2)else none
def Zv(T:Tu):Tm×Tree Str->List Int->Option (Tm×Tree Str)
 | p,[]=>some p
 | p,j::r=>match ZS T p j with
  | none=>none
  | some q=>Zv T q r
theorem Uy(T:Tu):∀(p:Tm×Tree Str)(l r:List Int),Zv T p (l++r)=(Zv T p l).bind λq=>Zv T q r
 | p,[],r=>rfl
 | p,j::l,r=>by
  simp only [List.cons_append,Zv];cases ZS T p j with
  | none=>rfl
  | some q=>exact Uy T q l r
theorem St.part{T:Tu}{p:Tm×Tree Str}(h:St T p){u:Tm}(hu:u∈p.1.bs):St T (u,p.2):=by
 obtain⟨z,D,h1,h2⟩:=h;refine⟨z,?_,h1,h2⟩;unfold Ys at D ⊢;rw [dX]at D ⊢;intro c F;refine D c ?_;cases hp:p.1 with
 | node l k bs=>
  rw [hp]at hu;simp only [cls];exact bJ _ (Pz hu c F)
structure At(T:Tu)(p:Tm×Tree Str):Prop where
 st:St T p
 pt:isC (lab p.1)=false
 lv:TM.lv p.2<=60
theorem At.step{T:Tu}(ok:TuOk T){p:Tm×Tree Str}(h:At T p){j:Int}(e:ZS T p j=some q):At T q:=by
 unfold ZS at e
 by_cases D:0<=j
 .rw [aE D]at e;cases z:p.1.bs[j.toNat]? with
  | none=>rw [z]at e;cases e
  | some u=>
   rw [z]at e;obtain rfl:come T.ks T.ms (u,p.2)=q:=aH e;obtain⟨F,G,J⟩:=UT ok 60 (u,p.2) h.lv (4:) (h.st.part (aN z));exact⟨F,G,aY J h.lv⟩
 .rw [aF D]at e;cases e
def G4(p:Tm×Tree Str):Int:=match lab p.1 with
 | .call _ _=>0
 | .put _ k a=>if k=true then a+mkT p.2 else a
def GV(p:Tm×Tree Str):Str:=match lab p.1 with
 | .call _ _=>S []
 | .put n _ _=>n
def upT(t:Tree Str):Tree Str:=.node (S []) 0 [t]
theorem St.start{T:Tu}(ok:TuOk T){t:Tree Str}(h:isT (QX T.ks) t T.k0=true):St T (T.start,upT t):=
 ⟨[T.k0],ok.st,rfl,by simp [upT,Tree.bs,YM,h]⟩
theorem St.mode{T:Tu}{t:Tree Str}{md:Md}(h0:0<=m)(hm:T.ms[m.toNat]?=some md)(h:isT (QX T.ks) t md.1=true):St T (ZH m 0,upT t):=by
 refine⟨[md.1],?_,rfl,by simp [upT,Tree.bs,YM,h]⟩;have z:m.toNat<T.ms.length:=(aK.mp hm).1;unfold Ys;simp only [ZH,cls,lcl,Zn,dZ,List.all_cons,List.all_nil,Bool.and_true];unfold YV;simp only [aC,aI,hm,bD,dS,eI,bO];exact⟨⟨⟨⟨h0,by lia⟩,by lia⟩,by lia⟩,rfl⟩
end K27
variable{T:K27.Tu}
namespace L2
open PySem PySem.Spec PyProof.Rows PySem.W
end L2
namespace L2
open PySem PySem.Spec PyProof.Rows
theorem LB{p q d:Value}(Ap:ZipApart zp ti tu j1 j2 t1 t2)
 (gz:IsZip s.heap zp ti tu .none) (gi:IsPair s.heap ti (.ref j1) (.ref j2)) (gu:IsPair s.heap tu c d)
 (w1:s.heap.IsTupleIter j1 t1 n1) (w2:s.heap.IsListIter j2 t2 n2) (l1:s.heap.IsTuple t1 us) (l2:s.heap.IsList t2 vs) (ep:us[n1]?=some p) (eq:vs[n2]?=some q)
 (k:∀h',IsZip h' zp ti tu (rawInt s.heap.objs.size)->IsPair h' tu p q->h'.IsTupleIter j1 t1 (n1+1)->h'.IsListIter j2 t2 (n2+1)->IsPair h' s.heap.objs.size p q->
  (9:)->Q (.ref s.heap.objs.size) { s with heap:=h' }):
 wpAny (11:) A (Builtin.«zip.__next__» ⟨[.ref zp],[]⟩) (λfin s'=>∃v,fin=.done (.ret v)/\Q v s') E s:=by
 show wpAny _ _ (field (.ref zp) 2>>=_) _ _ _;refine aA (aP gz rfl (x:=.bool false) rfl ?_);show wpAny _ _ (field (.ref zp) 3>>=_) _ _ _;refine aA (aP gz rfl (x:=.ref ti) rfl ?_);refine aA (bV gi rfl ?_);show wpAny _ _ (Builtin.SmallTypes.ownedTupleIsFree (.ref zp)>>=_) _ _ _;refine aA ?_;(unfold Builtin.SmallTypes.ownedTupleIsFree);refine aA (aP gz rfl (x:=.none) rfl (aD ?_));simp only [cB];refine aA (cI (aA (aP gz rfl (x:=.ref tu) rfl ?_)));refine aA (cQ gz (14:) λha aa D=>?_)
 replace aa:IsZip ha zp ti tu .ellipsis:=aa
 refine aA ?_;simp only [fH,fK,gI,gL];refine aA (aA (eY ?_));show wpAny _ _ (Builtin.SmallTypes.nextOf (.ref j1)>>=_) _ _ _;refine aA (Z3 (w1.extBut D.extBut Ap.i1z) (l1.extBut D.extBut Ap.l1z) ep λhb ai Y=>aD ?_);have af:IsPair hb tu c d:=Y.extBut _ _ Ap.TOi1 (D.extBut _ _ Ap.TOz gu);refine aA (bV af rfl (aA (gv af λhc ab Z=>?_)))
 replace ab:IsPair hc tu p d:=ab
 refine aA (eN (aD (aA (aA (eY ?_)))));show wpAny _ _ (Builtin.SmallTypes.nextOf (.ref j2)>>=_) _ _ _;refine aA (wpAny_nextOf_list_item (((w2.extBut D.extBut Ap.i2z).extBut Y.extBut Ap.i12.symm).extBut Z.extBut Ap.TOi2.symm) (((l2.extBut D.extBut Ap.l2z).extBut Y.extBut Ap.l2i1).extBut Z.extBut Ap.l2TO) eq λhd aj sd=>aD ?_);have ag:IsPair hd tu p d:=sd.extBut _ _ Ap.TOi2 ab;refine aA (bV ag rfl (aA (gv ag λz G se=>?_)))
 replace G:IsPair z tu p q:=G
 refine aA (eN (aD (aD (aA (bV G rfl (aA (wpAny_newTuple ?_)))))));have J:z.objs.size=s.heap.objs.size:=by rw [se.1,sd.1,Z.1,Y.1,D.1]
 have ah:IsZip z zp ti tu .ellipsis:=se.extBut _ _ Ap.TOz.symm (sd.extBut _ _ Ap.i2z.symm (Z.extBut _ _ Ap.TOz.symm (Y.extBut _ _ Ap.i1z.symm aa)));have ae:∀b o,b≠zp->b≠tu->b≠j1->b≠j2->s.heap.get? b=some o->z.get? b=some o:=λb o F b2 b3 b4 e=>se.extBut _ _ b2 (sd.extBut _ _ b4 (Z.extBut _ _ b2 (Y.extBut _ _ b3 (D.extBut _ _ F e))));have ak:z.IsTupleIter j1 t1 (n1+1):=((ai.extBut Z.extBut Ap.TOi1.symm).extBut sd.extBut Ap.i12).extBut se.extBut Ap.TOi1.symm;have al:z.IsListIter j2 t2 (n2+1):=aj.extBut se.extBut Ap.TOi2.symm;have lz:zp<z.objs.size:=aJ ah;show wpAny _ _ (Builtin.SmallTypes.ownedTupleHandOut (.ref zp) (.ref z.objs.size)>>=_) _ _ _;refine aA ?_;(unfold Builtin.SmallTypes.ownedTupleHandOut);have am:IsZip (z.push { cls:=.type "tuple",data:=.seq #[p,q] }) zp ti tu .ellipsis:=aG _ ah;refine aA (cQ am (14:) λhg ac sg=>?_)
 replace ac:IsZip hg zp ti tu (rawInt z.objs.size):=ac
 refine cQ ac (14:) λhh M sh=>?_
 replace M:IsZip hh zp ti tu (rawInt z.objs.size):=M
 have U:∀b o,b≠zp->z.get? b=some o->hh.get? b=some o:=λb o F e=>sh.extBut _ _ F (sg.extBut _ _ F (aG _ e));have ad:IsPair hh z.objs.size p q:=sh.extBut _ _ (fN lz) (sg.extBut _ _ (fN lz) (aQ _ rfl));rw [J]at M ad;refine aD ⟨_,rfl,?_⟩;show Q (.ref z.objs.size) _;rw [J];exact k hh M (U _ _ Ap.TOz G) (ak.at λo e=>U _ o Ap.i1z e) (al.at λo e=>U _ o Ap.i2z e) ad λb o F b2 b3 b4 e=>U b o F (ae b o F b2 b3 b4 e)
theorem Mc{zp ti tu j1 j2 t1 t2:Addr}{n1 n2:Nat}{us vs:Array Value}{c d:Value}{Q:Fin->Shared->Prop}(dH:Hd s.heap A)(Ap:ZipApart zp ti tu j1 j2 t1 t2)
 (gz:IsZip s.heap zp ti tu .none) (gi:IsPair s.heap ti (.ref j1) (.ref j2)) (gu:IsPair s.heap tu c d)
 (w1:s.heap.IsTupleIter j1 t1 n1) (l1:s.heap.IsTuple t1 us) (ep:us[n1]?=none)
 (k:∀h' e,(9:)->(∃o,h'.get? e=some o/\o.cls=.type "StopIteration")->E (.ref e) { s with heap:=h' }):
 wpAny (11:) A (Builtin.«zip.__next__» ⟨[.ref zp],[]⟩) Q E s:=by
 show wpAny _ _ (field (.ref zp) 2>>=_) _ _ _;refine aA (aP gz rfl (x:=.bool false) rfl ?_);show wpAny _ _ (field (.ref zp) 3>>=_) _ _ _;refine aA (aP gz rfl (x:=.ref ti) rfl ?_);refine aA (bV gi rfl ?_);show wpAny _ _ (Builtin.SmallTypes.ownedTupleIsFree (.ref zp)>>=_) _ _ _;refine aA ?_;(unfold Builtin.SmallTypes.ownedTupleIsFree);refine aA (aP gz rfl (x:=.none) rfl (aD ?_));simp only [cB];refine aA (cI (aA (aP gz rfl (x:=.ref tu) rfl ?_)));refine aA (cQ gz (14:) λha z F=>?_)
 replace z:IsZip ha zp ti tu .ellipsis:=z
 refine aA ?_;simp only [fH,fK,gI,gL];refine aA (aA (eY ?_));show wpAny _ _ (Builtin.SmallTypes.nextOf (.ref j1)>>=_) _ _ _;refine aA (Uz (dH.but gz rfl (14:) F.extBut) (w1.extBut F.extBut Ap.i1z) (l1.extBut F.extBut Ap.l1z) ep λhb e M ge=>?_);obtain⟨oe,D,G⟩:=ge;have J:IsZip hb zp ti tu .ellipsis:=M _ _ Ap.i1z.symm z;have U:e≠zp:=λx=>by subst x;rw [J]at D;cases D;simp at G
 refine cQ J (14:) λhc _ Y=>k hc e (λb o Z _ b3 _ x=>Y.extBut _ _ Z (M _ _ b3 (F.extBut _ _ Z x))) ⟨oe,Y.extBut _ _ U D,G⟩
theorem Uw{zp ti tu j1 j2 t1 t2:Addr}{n1 n2:Nat}{us vs:Array Value}{p q c d:Value}{Q:Option Value->Shared->Prop}(Ap:ZipApart zp ti tu j1 j2 t1 t2)
 (gz:IsZip s.heap zp ti tu .none) (gi:IsPair s.heap ti (.ref j1) (.ref j2)) (gu:IsPair s.heap tu c d)
 (w1:s.heap.IsTupleIter j1 t1 n1) (w2:s.heap.IsListIter j2 t2 n2) (l1:s.heap.IsTuple t1 us) (l2:s.heap.IsList t2 vs) (ep:us[n1]?=some p) (eq:vs[n2]?=some q)
 (k:∀h',IsZip h' zp ti tu (rawInt s.heap.objs.size)->IsPair h' tu p q->h'.IsTupleIter j1 t1 (n1+1)->h'.IsListIter j2 t2 (n2+1)->IsPair h' s.heap.objs.size p q->
  (9:)->Q (some (.ref s.heap.objs.size)) { s with heap:=h' }):
 wpAny (11:) A (pyNext (.ref zp)) Q E s:=by
 have z:s.TypeIs (.ref zp) "zip":=⟨_,gz,rfl⟩;unfold pyNext;exact aA (d_ (cV (name:=Str.ofString "__next__") z dY (cH dY z gJ (LB Ap gz gi gu w1 w2 l1 l2 ep eq λh' D G J M U Y=>aD (k h' D G J M U Y)) (gF _))))
theorem UD{zp ti tu j1 j2 t1 t2:Addr}{n1 n2:Nat}{us:Array Value}{c d:Value}{Q:Option Value->Shared->Prop}(dH:Hd s.heap A)(Ap:ZipApart zp ti tu j1 j2 t1 t2)
 (gz:IsZip s.heap zp ti tu .none) (gi:IsPair s.heap ti (.ref j1) (.ref j2)) (gu:IsPair s.heap tu c d) (w1:s.heap.IsTupleIter j1 t1 n1) (l1:s.heap.IsTuple t1 us) (ep:us[n1]?=none)
 (k:∀h',(9:)->Q none { s with heap:=h' }):wpAny (11:) A (pyNext (.ref zp)) Q E s:=by
 have z:s.TypeIs (.ref zp) "zip":=⟨_,gz,rfl⟩;unfold pyNext;refine aA (d_ (cV (name:=Str.ofString "__next__") z dY (cH dY z gJ (Mc dH.in1 (n2:=n2) (vs:=us) Ap gz gi gu w1 l1 ep λh' e D G=>?_) (gF _))));obtain⟨o,J,M⟩:=G;exact aA (eG (T:="StopIteration") (b:=true) ⟨o,J,M⟩ eV (aD (k _ D)))
abbrev zM1(h:Heap)(t1:Addr):Heap:=h.push { cls:=.type "tuple_iterator",data:=.fields #[.ref t1,.int 0 0] }
abbrev zM2(h:Heap)(t1 t2:Addr):Heap:=(zM1 h t1).push { cls:=.type "list_iterator",data:=.fields #[.ref t2,.int 0 0] }
abbrev zM3(h:Heap)(t1 t2:Addr):Heap:=(zM2 h t1 t2).push { cls:=.type "tuple",data:=.seq #[.ref h.objs.size,.ref (zM1 h t1).objs.size] }
abbrev zM4(h:Heap)(t1 t2:Addr):Heap:=(zM3 h t1 t2).push { cls:=.type "tuple",data:=.seq #[.none,.none] }
abbrev zM5(h:Heap)(t1 t2:Addr):Heap:=(zM4 h t1 t2).push { cls:=.type "zip",data:=.fields #[.none,.bool false,.bool false,.ref (zM2 h t1 t2).objs.size,.ref (zM3 h t1 t2).objs.size] }
theorem NC(t1 t2:Addr)(us vs:Array Value):
 Meets (Builtin.«zip.__new__» ⟨[.type "zip",.ref t1,.ref t2],[]⟩) (λ_ R s=>s.heap.IsTuple t1 us/\s.heap.IsList t2 vs/\
  R (.ok (.ret (.ref (zM4 s.heap t1 t2).objs.size))) { s with heap:=zM5 s.heap t1 t2 }):=
 .of_wp λprog w A R s h=>by
  obtain⟨hp,g,d,tk,z⟩:=s;obtain⟨D,F,h⟩:=h;have G:=sub_zip;have J:Heap.IsTuple (Shared.heap ⟨hp,g,d,tk,z⟩) t1 us:=D;have L2:Heap.IsList (Shared.heap ⟨hp.push { cls:=.type "tuple_iterator",data:=.fields #[.ref t1,.int 0 0] },g,d,tk,z⟩) t2 vs:=let⟨o,e,r⟩:=F;⟨o,aG _ e,r⟩
  wp_walk using wpAny_pyIter_tuple J,wpAny_pyIter_list L2
  exact⟨_,rfl,h⟩
theorem GZ(l1:s.heap.IsTuple t1 us)(l2:s.heap.IsList t2 vs)
 (h:∀h',IsZip h' (s.heap.objs.size+4) (s.heap.objs.size+2) (s.heap.objs.size+3) .none->IsPair h' (s.heap.objs.size+2) (.ref s.heap.objs.size) (.ref (s.heap.objs.size+1))->
  IsPair h' (s.heap.objs.size+3) .none .none->h'.IsTupleIter s.heap.objs.size t1 0->h'.IsListIter (s.heap.objs.size+1) t2 0->
  (∀c o,s.heap.get? c=some o->h'.get? c=some o)->Q (.ref (s.heap.objs.size+4)) { s with heap:=h' }):
 wpAny (11:) A (call (.type "zip") [.ref t1,.ref t2]) Q E s:=by
 refine callType_new F.called_zip (18:) (F.typeCall_zip_2 _ _) (F.newCall_zip_2 _ _) (λM=>F.args_object_init_3 M _ _) F.entry_zip_new (NC t1 t2 us vs) ⟨l1,l2,?_⟩;have z:(zM1 s.heap t1).objs.size=s.heap.objs.size+1:=cK ..;have D:(zM2 s.heap t1 t2).objs.size=s.heap.objs.size+2:=by rw [cK,z]
 have G:(zM3 s.heap t1 t2).objs.size=s.heap.objs.size+3:=by rw [cK,D]
 have U:(zM4 s.heap t1 t2).objs.size=s.heap.objs.size+4:=by rw [cK,G]
 have J:(zM5 s.heap t1 t2).get? (zM4 s.heap t1 t2).objs.size=some _:=aQ _ rfl;have Y:(zM5 s.heap t1 t2).get? (zM3 s.heap t1 t2).objs.size=some _:=aG _ (aQ _ rfl);have Z:(zM5 s.heap t1 t2).get? (zM2 s.heap t1 t2).objs.size=some _:=aG _ (aG _ (aQ _ rfl));have r2:(zM5 s.heap t1 t2).get? (zM1 s.heap t1).objs.size=some _:=aG _ (aG _ (aG _ (aQ _ rfl)));have r1:(zM5 s.heap t1 t2).get? s.heap.objs.size=some _:=aG _ (aG _ (aG _ (aG _ (aQ _ rfl))));show _/\_;rw [D,G,U]at J;rw [z,D]at Z;rw [G]at Y;rw [z]at r2;rw [U];exact⟨⟨_,J,rfl⟩,h _ J Z Y ⟨_,r1,rfl,rfl⟩ ⟨_,r2,rfl,rfl⟩ λb o x=>aG _ (aG _ (aG _ (aG _ (aG _ x))))⟩
def Mm(K:Fg)(a b:Addr)(xs ys:List V):It:=
 ⟨λi H=>SqT K H a xs/\SqL K H b ys/\i<xs.length/\i<ys.length,λi H x H'=>∃p u v,H p=none/\x=.ref p/\H'=upd H p (.tup [u,v])/\xs[i]?=some u/\ys[i]?=some v,λi H=>SqT K H a xs/\xs.length<=i⟩
theorem G5{K:Fg}(a b z:Addr)(xs ys:List V)(TI TO i1 i2:Addr)(Ap:ZipApart z TI TO i1 i2 a b):
 Turn P w K (.Tuple elts k1 pos) (Mm K a b xs ys) [z,TI,TO,i1,i2] z (λi h=>IsZip h z TI TO .none/\IsPair h TI (.ref i1) (.ref i2)/\(∃u v,IsPair h TO u v)/\h.IsTupleIter i1 a i/\h.IsListIter i2 b i) where
 mem:=by simp
 obj:=λi h st c D=>by
  obtain⟨M,F,⟨u,v,G⟩,h1,h2⟩:=st;simp only [aM,bH,bG]at D;rcases D with rfl | rfl | rfl | rfl | rfl
  .exact⟨_,M,λv z=>by have U:Data.fields _=Data.cell v:=z;cases U⟩
  .exact⟨_,F,λv z=>by have U:Data.seq _ _=Data.cell v:=z;cases U⟩
  .exact⟨_,G,λv z=>by have U:Data.seq _ _=Data.cell v:=z;cases U⟩
  .obtain⟨o,e,c,d⟩:=h1;exact⟨o,e,λv z=>by rw [d]at z;cases z⟩
  .obtain⟨o,e,c,d⟩:=h2;exact⟨o,e,λv z=>by rw [d]at z;cases z⟩
 keep:=λi h h' st k=>by
  obtain⟨M,F,⟨u,v,G⟩,h1,h2⟩:=st;exact⟨k z (14:) _ M,k TI (14:) _ F,⟨u,v,k TO (14:) _ G⟩,h1.at λo e=>k i1 (14:) o e,h2.at λo e=>k i2 (14:) o e⟩
 item:=by
  intro X hP hw hK D i pins s σ H E I Z st hg;subst hP hw hK;obtain⟨M,F,⟨u0,v0,G⟩,h1,h2⟩:=st;obtain⟨qa,qb,lx,ly⟩:=hg;obtain⟨its,rv,p,_⟩:=I.tuple qa;obtain⟨ag,ab,p2,_⟩:=I.list qb;have ex:xs[i]?=some xs[i]:=aB lx;have ey:ys[i]?=some ys[i]:=aB ly;obtain⟨u,hu,ru⟩:=rv.get ex;obtain⟨v,hv,ac⟩:=ab.get ey;refine Uw Ap M F G h1 h2 p p2.isList (p:=u) (q:=v) (by simpa using hu) (by simpa using hv) λh' a1 a2 a3 a4 a5 hk=>?_;refine⟨.ref s.heap.objs.size,rfl,wpAny_letOwnedTupleGo_zip (s:={ s with heap:=h' }) a1 λaa ad J=>?_⟩;have lt:∀{c o},s.heap.get? c=some o->c≠s.heap.objs.size:=λe=>aU (aJ e);have e5:IsPair aa s.heap.objs.size u v:=(J.2 _ (aL (lt M))).trans a5;have Y:∀c∈[z,TO,i1,i2],YX X pins H c:=λc D=>Z c (by
   simp only [aM,bH,bG]at D ⊢;rcases D with rfl | rfl | rfl | rfl<;>simp)
  have I2:Inv X pins σ (upd H s.heap.objs.size (.tup [xs[i],ys[i]])) { s with heap:=aa,toks:=s.toks }:=by
   refine I.turnedNew (ch:=[z,TO,i1,i2]) (λc o D e=>?_) Y (4:) ⟨by show 2<=sizeLine;decide,[u,v],.cons ru (.cons ac .nil),⟨_,e5,rfl,_,rfl⟩⟩;simp only [aM,bH,bG,not_or]at D;exact(J.2 c D.1).trans (hk c o D.1 D.2.1 D.2.2.1 D.2.2.2 e)
  have ae:∀c∈[z,TI,TO,i1,i2],upd H s.heap.objs.size (.tup [xs[i],ys[i]]) c=none:=λc D=>by
   have af:=Z c D;have:c≠s.heap.objs.size:=by
    simp only [aM,bH,bG]at D;rcases D with rfl | rfl | rfl | rfl | rfl
    .exact lt M
    .exact lt F
    .exact lt G
    .obtain⟨o,e,_⟩:=h1;exact lt e
    .obtain⟨o,e,_⟩:=h2;exact lt e
   rw [Qi this];exact af.1
  exact(19:)
 done:=by
  intro X hP hw hK D i pins s σ H E I Z st hg;subst hP hw hK;obtain⟨M,F,⟨u0,v0,G⟩,h1,h2⟩:=st;obtain⟨qa,hl⟩:=hg;obtain⟨its,rv,p,_⟩:=I.tuple qa;have l1:=rv.length;have Y:∀c∈[z,TO,i1,i2],YX X pins H c:=λc D=>Z c (by
   simp only [aM,bH,bG]at D ⊢;rcases D with rfl | rfl | rfl | rfl<;>simp)
  refine UD (n2:=0) (I.hd D) Ap M F G h1 p (by simp;lia) λh' hk=>⟨rfl,I.turnedL (t':=s.toks) (ch:=[z,TO,i1,i2]) (λc o D e=>?_) Y⟩;simp only [aM,bH,bG,not_or]at D;exact hk c o D.1 D.2.1 D.2.2.1 D.2.2.2 e
 self:=λ_ _ _ _ _ st h=>fY st.1 h
def Sq(K:Fg)(ta:TA):TI:=λσ H R=>ta σ H λvs H1=>∃a b xs ys,vs=[.ref a,.ref b]/\SqT K H1 a xs/\SqL K H1 b ys/\R (Mm K a b xs ys) H1
theorem OZ{ta:TA}{p:Pos}(hg:Gl X "zip")(hm:X.mg "zip"=none)(ha:PA X [e1,e2] ta)(hs:starEach [e1,e2] X.env=[(false,eval e1 X.env),(false,eval e2 X.env)]:=by rfl)(hs2:starEach [e2] X.env=[(false,eval e2 X.env)]:=by rfl):
 PI X (.Tuple elts k1 tpos) (.Call (.Name "zip" p) [e1,e2] [] pos) (Sq X.K ta):=by
 intro pins s σ H R I h;refine Call_ (Z5 I hg hm PyProof.Rows.boot_zip (fP (thn (ha pos pins s σ H _ I h) λus z ⟨vs,H1,D,r1,q1⟩=>?_) (by rw [hs,hs2]) (by rw [hs2];rfl)));obtain⟨a,b,xs,ys,e,qa,qb,q⟩:=q1;subst e;obtain⟨u1,u2,e3,r3,r4⟩:=r1.two;subst e3;cases (show u1=Value.ref a from r3);cases (show u2=Value.ref b from r4);obtain⟨its,rv,J,_⟩:=D.tuple qa;obtain⟨aa,ab,F,_⟩:=D.list qb;have la:@LT.lt Nat _ a z.heap.objs.size:=by obtain⟨o,e,_⟩:=J;exact aJ e
 have lb:@LT.lt Nat _ b z.heap.objs.size:=by obtain⟨o,_,e,_⟩:=F;exact aJ e
 refine GZ J F.isList λh' M U Y h1 h2 hk=>?_;refine fY M ?_;have I2:Inv X pins σ H1 { z with heap:=h' }:=D.kept (t':=z.toks) hk;refine⟨z.heap.objs.size+4,[z.heap.objs.size+4,z.heap.objs.size+2,z.heap.objs.size+3,z.heap.objs.size,z.heap.objs.size+1],_,_,H1,rfl,I2,G5 a b (z.heap.objs.size+4) xs ys (z.heap.objs.size+2) (z.heap.objs.size+3) z.heap.objs.size (z.heap.objs.size+1) ?_,⟨M,U,⟨_,_,Y⟩,h1,h2⟩,λc Z=>?_,q⟩
 .constructor<;>(refine nne ?_;lia)
 .have G:@LE.le Nat _ z.heap.objs.size c:=by
   simp only [aM,bH,bG]at Z;rcases Z with rfl | rfl | rfl | rfl | rfl<;>lia
  exact D.fpOk G (D.hok.fresh G)
theorem NL{K:Fg}{a b:Addr}{xs ys:List V}{g:TG}{tb:TS}{D:Ends}{σ:St}{H:Hp}(hlen:xs.length=ys.length)(Pv:Nat->St->Hp->Prop)(h0:Pv 0 σ H)(hl:∀i σ H,i<=xs.length->Pv i σ H->SqT K H a xs/\SqL K H b ys)
 (hs:∀i u v p σ H,xs[i]?=some u->ys[i]?=some v->H p=none->Pv i σ H->g (.ref p) σ (upd H p (.tup [u,v])) λσ2 H2=>tb { D with nx:=Pv (i+1),ct:=Pv (i+1),bk:=D.nx } σ2 H2) (hd:∀σ H,Pv xs.length σ H->D.nx σ H):
 ∃W:Nat->Nat->St->Hp->Prop,(∃m,W 0 m σ H)/\∀i m σ H,W i m σ H->
  ((Mm K a b xs ys).stop i H/\D.nx σ H)\/((Mm K a b xs ys).go i H/\∃N:St->Hp->Prop,(∀σ' H',N σ' H'->∃m',m'<m/\W (i+1) m' σ' H')/\∀x H',(Mm K a b xs ys).yld i H x H'->g x σ H' λσ2 H2=>tb { D with nx:=N,ct:=N,bk:=D.nx } σ2 H2):=by
 refine⟨λi m σ H=>m=xs.length-i/\i<=xs.length/\Pv i σ H,⟨xs.length-0,rfl,bK _,h0⟩,?_⟩;rintro i m σ H ⟨rfl,hi,p⟩;obtain⟨F,G⟩:=hl i σ H hi p
 by_cases h:i<xs.length
 .refine .inr ⟨⟨F,G,h,by lia⟩,Pv (i+1),λσ' H' z=>⟨xs.length-(i+1),by lia,rfl,h,z⟩,?_⟩;rintro x H' ⟨z,u,v,hp,rfl,rfl,J,M⟩;exact hs i u v z σ H J M hp p
 .have e:i=xs.length:=by lia
  subst e;exact .inl ⟨⟨F,bB _⟩,hd σ H p⟩
end L2
namespace K27
open PySem L2 TM TT K9 K11
def top(i:Nat):Stmt:=PySem.Challenge.pw_turnery_k27_whole_outcomes.main.body.getD i (.Pass ⟨0,0,0,0⟩)
abbrev RX:Stmt:=top 1
abbrev sCO:Stmt:=top 2
abbrev sMP:Stmt:=top 3
abbrev sPH:Stmt:=top 4
abbrev sHN:Stmt:=top 10
abbrev X9:Stmt:=top 12
abbrev VY:Stmt:=top 13
abbrev Wq:Stmt:=top 14
abbrev Y6:Stmt:=top 15
abbrev Y0:Stmt:=top 16
abbrev NF:Stmt:=top 18
abbrev P2:Stmt:=top 20
abbrev Vj:Stmt:=top 21
abbrev Jr:Stmt:=top 22
abbrev L3:Stmt:=top 23
abbrev U3:Stmt:=top 24
abbrev NE:Stmt:=top 26
abbrev Nt:Stmt:=top 27
abbrev YJ:Stmt:=top 28
abbrev YD:Stmt:=top 29
abbrev Mn:Stmt:=top 30
abbrev XE:Stmt:=top 31
abbrev Ve:Stmt:=top 32
abbrev UL:Stmt:=top 36
abbrev YI:Stmt:=top 37
abbrev ZF:Stmt:=top 38
abbrev Mv:Stmt:=top 40
abbrev VU:Stmt:=top 41
abbrev Vq:Stmt:=top 42
abbrev VG:Stmt:=top 43
abbrev Ge:Stmt:=top 44
abbrev Xu:Stmt:=top 45
abbrev VT:Stmt:=top 46
abbrev Jg:Stmt:=top 47
abbrev Nw:Stmt:=top 48
abbrev Jk:Stmt:=top 49
abbrev Ju:Stmt:=top 50
abbrev VL:Stmt:=top 51
abbrev W1:Stmt:=top 52
abbrev LR:Stmt:=top 53
abbrev Vs:Stmt:=top 54
abbrev W4:Stmt:=top 55
abbrev JE:Stmt:=top 56
abbrev W2:Stmt:=top 57
abbrev V1:Stmt:=top 58
abbrev XG:Stmt:=top 59
abbrev OG:Stmt:=top 60
abbrev W7:Stmt:=top 61
structure Gm(mg:Str->Option Value):Prop where
 len:mg "len"=none
 isi:mg "isinstance"=none
 int:mg "int"=none
 boo:mg "bool"=none
 str:mg "str"=none
 tup:mg "tuple"=none
 lst:mg "list"=none
 rng:mg "range"=none
 zip:mg "zip"=none
 dct:mg "dict"=none
 all:mg "all"=none
 srt:mg "sorted"=none
 rev:mg "reversed"=none
 sum:mg "sum"=none
 max:mg "max"=none
theorem ZC{K:Fg}{v:V}{t:Tm}(h:TmV K H v t):(∃a m b,v=.ref a/\t=ZH m b/\SqT K H a [.str YT,.int m,.int b]) \/
 ∃a b vs n k ad,v=.ref a/\t=.node (.put n k ad) 0 t.bs/\SqT K H a [.str PUT,.str n,.bl k,.int ad,.ref b]/\SqT K H b vs/\TmAll K H vs t.bs/\vs.length<=1000:=by
 cases h with
 | call h=>exact .inl ⟨_,_,_,rfl,rfl,h⟩
 | put h1 h2 z D=>exact .inr ⟨_,_,_,_,_,_,rfl,rfl,h1,h2,z,D⟩
theorem Ub{α:Type}{p:α->Bool}:∀{l:List α}{i:Nat}{x:α},l[i]?=some x->p x=true->(∀(j:Nat) y,j<i->l[j]?=some y->p y=false)->l.find? p=some x
 | [],i,x,h,_,_=>by simp at h
 | a::r,0,x,h,hp,_=>by
  have:a=x:=by simpa using h
  subst this;rw [dD,hp]
 | a::r,i+1,x,h,hp,hn=>by
  have z:=hn 0 a (7:) rfl;rw [dD,z];exact Ub (i:=i) (by simpa using h) hp λj y D e=>hn (j+1) y (7:) (by simpa using e)
theorem GO{α:Type}{p:α->Bool}{l:List α}(h:∀(j:Nat) y,l[j]?=some y->p y=false):l.find? p=none:=by
 rw [List.find?_eq_none];intro x z;obtain⟨j,D,e⟩:=cO z;have:=h j x (by rw [aB D,e]);simp [this]
def Jv(K:Fg):Sp:=λvs H Q _=>∃(v:V)(t:Tm),vs=[v]/\TmV K H v t/\Q (.bl (isC (lab t))) H
def Y3(K:Fg):Sp:=λvs H Q _=>∃(w:Addr)(kind:Str)(ks:List KdT),vs=[.ref w,.str kind]/\WoodAt K H w ks/\WoodOk ks/\∀(lr:Addr)(H':Hp),Same H H'->RowsL K H' lr (Qu ks kind)->Q (.ref lr) H'
def UJ(K:Fg):Sp:=λvs H Q _=>∃(w:Addr)(kind name:Str)(ks:List KdT),vs=[.ref w,.str kind,.str name]/\WoodAt K H w ks/\WoodOk ks/\∀(v:V)(H':Hp),Same H H'->Tc K H' v (QX ks kind name)->Q v H'
def Z7(K:Fg)(n:Nat):Sp:=λvs H Q _=>∃(w:Addr)(kind:Str)(v:V)(t:Tree Str)(ks:List KdT),vs=[.ref w,.str kind,v]/\WoodAt K H w ks/\WoodOk ks/\TrV K H v t/\lv t<=n/\∀H':Hp,Same H H'->Q (.bl (isT (QX ks) t kind)) H'
def X6(K:Fg):Sp:=λvs H Q _=>∃(p w lm:Addr)(v:V)(i:Nat)(name:Str)(ks:List KdT)(ms:List MdT)(m:MdT),vs=[.ref p,.int (i:Int),.str name]/\SqT K H p [.ref w,v,.ref lm]/\WoodAt K H w ks/\WoodOk ks/\ModesL K H lm ms/\ms[i]?=some m/\m.2.2.2.2.length=(Qu ks m.2.1).length/\∀v' H',Same H H'->TmO K H' v' (ruleK ks m.md name)->Q v' H'
def Xx(K:Fg):Sp:=λvs H Q _=>∃(a:Addr)(ns:List Int)(k:Int),vs=[.ref a,.int k]/\0<=k/\SqL K H a (ns.map V.int)/\∀c:Int,Q (.int c) H
def UH:Sp:=λvs H Q _=>∃i:Int,vs=[.int i]/\Q (.bl true) H
def PU(K:Fg):Sp:=λvs H Q _=>∃(v:V)(n:Str)(k:Bool)(ad m:Int)(ts:List Tm),vs=[v,.int m]/\TmV K H v (.node (.put n k ad) 0 ts)/\∀(p:Addr)(H':Hp),Same H H'->H' p=some (.tup [.str n,.int (if k=true then ad+m else ad),.int ((ts.length:Nat):Int)])->Q (.ref p) H'
def Oi(K:Fg):Sp:=λvs H Q _=>∃(v:V)(n:Str)(k:Bool)(ad m:Int)(ts:List Tm),vs=[v,.int m]/\TmV K H v (.node (.put n k ad) 0 ts)/\Q (.int (if k=true then ad+m else ad)) H
def Re(K:Fg):Sp:=λvs H Q _=>∃(b:Addr)(xs:List V)(i:Int),vs=[.ref b,.int i]/\SqT K H b xs/\Q (.bl (decide (0<=i/\i<(xs.length:Int)))) H
def U6(K:Fg):Sp:=λvs H Q _=>∃(w:Addr)(kind:Str)(v:V)(t:Tree Str)(ks:List KdT),vs=[.ref w,.str kind,v]/\WoodAt K H w ks/\WoodOk ks/\TrV K H v t/\lv t<=40/\isT (QX ks) t kind=true/\∀H':Hp,Same H H'->Q .non H'
def Yl(K:Fg):Sp:=λvs H Q _=>∃(w:Addr)(v:V)(t:Tree Str)(ks:List KdT)(k0:KdT),vs=[.ref w,v]/\WoodAt K H w ks/\WoodOk ks/\ks[0]?=some k0/\TrV K H v t/\lv t<=40/\isT (QX ks) t k0.2.1=true/\∀H':Hp,Same H H'->Q .non H'
def UR(K:Fg):Sp:=λvs H Q _=>∃(v:V)(t:Tree Str),vs=[v]/\TrV K H v t/\∀(v':V)(H':Hp),Same H H'->TrV K H' v' (upT t)->Q v' H'
section
variable{K:Fg}{soft:Bool}
theorem R3:FnScope ["term"] ["term"] (defScope RX):=(1:)
theorem Ps(F:Fun K "is_call" "is_call" RX f fd):FnOk P w K mg base CX0 1 f fd ["term"] (Jv K) soft:=by
 refine F.ok R3 (λz H Q E h=>?_) (λJ A outer s H z Q E M h=>?_)
 .obtain⟨v,t,rfl,_⟩:=h
  rfl
 obtain⟨v,t,rfl,D,q⟩:=h;refine⟨_,(Qh (Qp (Yi Yj (Qg Qk (pv 0) Qd (2:)) Zi (Qy _)))),?_⟩
 try dsimp only [QC,Cx.nox]
 rcases ZC D with⟨a,m,b,rfl,rfl,h1⟩ | ⟨a,b,bs,n,k,U,rfl,G,h1,h2,Y,Z⟩
 .refine⟨_,rfl,a,_,0,_,rfl,rfl,h1,rfl,rfl,?_⟩;have e:decide (V.str YT=V.str YT)=true:=bW rfl;show Q (.bl (decide (V.str YT=V.str YT))) H;rw [e];exact q
 .refine⟨_,rfl,a,_,0,_,rfl,rfl,h1,rfl,rfl,?_⟩;have e:decide (V.str PUT=V.str YT)=false:=by decide+kernel
  show Q (.bl (decide (V.str PUT=V.str YT))) H;rw [G]at q;rw [e];exact q
theorem Mq:FnScope ["wood","kind"] ["wood","kind"] (defScope X9):=(1:)
theorem G0(F:Fun K "rows_of" "rows_of" X9 f fd)(G:Gm mg):FnOk P w K mg base CX0 1 f fd ["wood","kind"] (Y3 K) soft:=by
 refine F.ok Mq (λY H Q E h=>?_) (λab A outer s H Y Q E Z h=>?_)
 .obtain⟨w,z,ks,rfl,_⟩:=h
  rfl
 obtain⟨wd,z,ks,rfl,J,U,q⟩:=h;refine⟨_,(Qh (Qp (LZ (Zp Z) (QK (Zs rfl) rfl G.dct fB (Qa (pv 0) Qc)) (pv 1) (QH Qc) ⟨rfl,rfl,rfl,rfl⟩))),?_⟩
 try dsimp only [QC,Cx.nox]
 have aa:=U.len;refine⟨_,rfl,wd,ks.map (λk=>(k.1,k.2.1,V.ref k.2.2.1)),rfl,(by rw [bI];exact J.1),λt M=>?_,(by rw [bI];exact U.nd),(by rw [aC];lia),λd hd=>⟨d,rfl,.inl ⟨_,.inl Qb⟩,_,rfl,(21:),λp hp=>⟨_,DGet.k (k:=Sum.inr z) ((Qf hp _) _ _ Qb),?_⟩⟩⟩
 .obtain⟨k,hk,rfl⟩:=aT.mp M;exact(J.2 k hk).1
 .have g1:=Qf hd (.dK ((ks.map (λk=>(k.1,k.2.1,V.ref k.2.2.1))).map λt=>((Sum.inr t.2.1:Key),t.2.2)));have g2:=Qf hp (.lst []);have D:=g1.trans g2;have ev:valV ((ks.map (λk=>(k.1,k.2.1,V.ref k.2.2.1))).map λt=>((Sum.inr t.2.1:Key),t.2.2)) (Sum.inr z)=(ks.find? λk=>decide (k.2.1=z)).map λk=>V.ref k.2.2.1:=by
   rw [bI];exact UO (λk:KdT=>k.2.1) (λk=>V.ref k.2.2.1) z ks
  rw [ev];unfold Qu at q;cases e:ks.find? λk=>decide (k.2.1=z)with
  | none=>
   rw [e]at q;exact q p _ D ⟨SqL.of Qb,λt M=>(nomatch M)⟩
  | some k=>
   rw [e]at q;exact q k.2.2.1 _ D ((J.2 k (gr e)).2.same D)
theorem NW:FnScope ["wood","kind","name"] ["wood","kind","name"] (defScope VY):=(1:)
theorem ND(F:Fun K "row_of" "row_of" VY f fd)(G:Gm mg)(RO:Fn P w K mg base 1 "rows_of" ["wood","kind"] (Y3 K) soft):FnOk P w K mg base CX0 2 f fd ["wood","kind","name"] (UJ K) soft:=by
 refine F.ok NW (13:) (λab A outer s H vs Q E U h=>?_)
 .obtain⟨w,z,name,ks,rfl,_⟩:=h
  rfl
 obtain⟨wd,z,name,ks,rfl,hW,Y,q⟩:=h;refine⟨_,(Qh (Qp (MS (Zp U) (QK (Zs rfl) rfl G.dct fB (Qa (Qr RO U (Qa (pv 0) (Qa (pv 1) Qc))) Qc)) (pv 2) ⟨rfl,rfl,rfl,rfl⟩))),?_⟩
 try dsimp only [QC,Cx.nox]
 refine⟨_,rfl,_,rfl,wd,z,ks,rfl,hW,Y,λlr H1 Z J=>?_⟩;have D:=Ji Y z;have aa:=D.len;refine⟨lr,(Qu ks z).map (λr=>(r.1,r.2.1,V.ref r.2.2.1)),rfl,(by rw [bI];exact J.1),λt ht=>?_,(by rw [bI];exact D.nd),(by rw [aC];lia),λd hd=>⟨d,rfl,.inl ⟨_,.inl Qb⟩,_,rfl,_,DGet.k (k:=Sum.inr name) Qb,?_⟩⟩
 .obtain⟨k,hk,rfl⟩:=aT.mp ht;exact(J.2 k hk).1
 .have M:=Qf hd (.dK (((Qu ks z).map (λr=>(r.1,r.2.1,V.ref r.2.2.1))).map λt=>((Sum.inr t.2.1:Key),t.2.2)));have ev:valV (((Qu ks z).map (λr=>(r.1,r.2.1,V.ref r.2.2.1))).map λt=>((Sum.inr t.2.1:Key),t.2.2)) (Sum.inr name)=((Qu ks z).find? λr=>decide (r.2.1=name)).map λr=>V.ref r.2.2.1:=by
   rw [bI];exact UO (λr:PNx=>r.2.1) (λr=>V.ref r.2.2.1) name (Qu ks z)
  rw [ev];unfold QX at q;cases e:(Qu ks z).find? λr=>decide (r.2.1=name)with
  | none=>
   rw [e]at q;exact q .non _ (Z.trans M) rfl
  | some r=>
   rw [e]at q;exact q (.ref r.2.2.1) _ (Z.trans M) ⟨_,rfl,M.seqT (J.2 r (gr e)).2⟩
theorem VE:FnScope ["wood","kind","tree","branches","kinds"] ["wood","kind","tree"] (defScope Wq):=(1:)
theorem O7(F:Fun K "is_of" "is_of" Wq f fd)(G:Gm mg)(RR:Fn P w K mg base 2 "row_of" ["wood","kind","name"] (UJ K) soft)(R:Fn P w K mg base (n+2) "is_of" ["wood","kind","tree"] (Z7 K n) soft):FnOk P w K mg base CX0 (n+3) f fd ["wood","kind","tree"] (Z7 K (n+1)) soft:=by
 refine F.ok VE (13:) (λak A outer s H vs Q E hr h=>?_)
 .obtain⟨w,J,v,t,ks,rfl,_⟩:=h
  rfl
 obtain⟨wd,J,v,t,ks,rfl,hW,hO,ht,ae,q⟩:=h;refine⟨_,(Qe (Qm (i:=3) VE.nd rfl (5:) (Qg Qk (pv 2) Qd (2:)))
  (Qe (Qm (i:=4) VE.nd rfl (5:) (Qr RR hr (Qa (pv 0) (Qa (pv 1) (Qa (Qg Qk (pv 2) Qd (2:)) Qc))) (gR 2 n)))
  (Qe (QP (PW.pt (pw_or (Nu (Pq (pv 4))) (pw_or1 (Qx Pc (Qq Qn rfl G.len aX (Qa (pv 4) Qc)) (Qq Qn rfl G.len aX (Qa (pv 3) Qc)) (Qy _))))) (Qh (Qp Zy)) Qw)
  (Qh (Qp (Qq (G8 rfl) rfl G.all PyProof.Rows.boot_all (Qa (QU (CompG.many (xs:=["wanted","branch"]) (caps:=["wood"]) (cap:=[0]) (cs:=[_]) rfl rfl (0:) (0:) (0:) (0:) (0:) (0:) rfl rfl rfl) rfl (Oy rfl G.zip (Qa (pv 4) (Qa (pv 3) Qc))) (M9 (CompG.many (xs:=["wanted","branch"]) (caps:=["wood"]) (cap:=[0]) (cs:=[_]) rfl rfl (0:) (0:) (0:) (0:) (0:) (0:) rfl rfl rfl) rfl) (λ_ _ _ _=>Q5) (λ_ _ _ _=>Qr R hr (Qa (pv 2) (Qa (pv 0) (Qa (pv 1) Qc))) (4:))) Qc))))))),?_⟩
 try dsimp only [QC,Cx.nox]
 refine L2.let3 ?_
 intros
 obtain⟨a,b,bs,name,ai,rfl,et,h1,h2,h3,al⟩:=US ht;have Z:=h3.length;rw [V0 _ et]at q;rw [Q8]at ae;refine⟨_,rfl,a,_,2,_,rfl,rfl,h1,rfl,?_⟩;refine⟨_,rfl,_,rfl,_,rfl,a,_,0,_,rfl,rfl,h1,rfl,wd,J,name,ks,rfl,hW,hO,λrv H1 M U=>?_⟩;cases e:QX ks J name with
 | none=>
  rw [e]at U q;cases (show rv=.non from U);exact⟨_,rfl,_,rfl,Wz rfl (q H1 M)⟩
 | some D=>
  rw [e]at U q;obtain⟨br,rfl,aa⟩:=U;refine⟨_,rfl,_,rfl,Wt (λz=>nomatch z) ⟨_,rfl,br,_,rfl,.inr aa,_,rfl,b,_,rfl,.inr (M.seqT h2),rfl,_,rfl,?_⟩⟩
  by_cases hl:D.length=t.bs.length
  .refine O8 (by rw [aC,hl,Z]) ?_;refine⟨_,rfl,_,rfl,br,b,_,bs,rfl,aa,M.seqT h2,λacc ab=>?_⟩;have af:(D.map V.str).length=bs.length:=by rw [aC,hl,Z]
   refine let J_:JC:=(λi ys H'=>H' acc=some (.lst ys)/\Same H1 H'/\ys=((List.zipWith (λs b=>isT (QX ks) b s) D t.bs).take i).map V.bl);O0 (K:=K) (xs:=D.map V.str) (zs:=bs) (cs:=[some (.ref wd)]) (tt:=λ_ H Q=>Q true H) (te:=J9 (Z7 K n) [] E0 (Zu (ZL 2) (Zu (ZL 0) (Zu (ZL 1) Vf)))) af J_
    ⟨Qb,Qf ab _,rfl⟩ ?_ ?_ ?_
   .rintro i ys H' _ ⟨_,g,_⟩;exact⟨g.seqT aa,(M.trans g).seqT h2⟩
   .rintro i u v p ys H' hi hu hv hp ⟨Y,g,rfl⟩;have ad:i<D.length:=by simpa using hi
    have ac:i<t.bs.length:=by lia
    have aj:i<bs.length:=by lia
    obtain⟨cv,ag,ah⟩:=h3.get (aB ac);obtain rfl:cv=v:=aH (ag.symm.trans hv);obtain rfl:u=.str D[i]:=by
     rw [aI,aB ad]at hu;exact(aH hu).symm
    have gp:=Qf hp (.tup [.str D[i],cv]);have gg:=M.trans (g.trans gp);have a1:=ZI (aZ ac);refine Zd ⟨_,rfl,_,rfl,_,rfl,wd,D[i],cv,t.bs[i],ks,rfl,hW.same gg,hO,ah.mono λ_ _=>gg.seqT,by lia,λH4 g4=>?_⟩;refine Qz hi (g4 _ _ (gp _ _ Y)) (by rw [aC,cA,List.length_zipWith];lia) ⟨Qb,λx u e=>?_,?_⟩
    .rw [Qi (Qj e ab)];exact g4 _ _ (gp _ _ (g _ _ e))
    .rw [b_,List.getElem?_zipWith,aB ad,aB ac,aR]
     rfl
   rintro ys H2 ⟨Y,g2,rfl⟩;rw [bL (by rw [List.length_zipWith,aC];lia)]at Y;refine⟨acc,_,rfl,SqL.of Y,?_⟩;have q':=q H2 (M.trans g2);simp only [hl,decide_true,Bool.true_and,WV _ _ _ hl]at q';exact q'
  .have e2:(!decide (V.int (((D.map V.str).length:Nat):Int)=V.int ((bs.length:Nat):Int)))=true:=by
    rw [aC,bN]
    .rfl
    .intro z;injection z with z;lia
   rw [e2];refine Zd ?_;have q':=q H1 M;simp only [hl,decide_false,Bool.false_and]at q';exact q'
theorem Lv{k:Nat}:FnOk P w K mg base CX0 k f fd ["wood","kind","tree"] (Z7 K 0) soft:=by
 have no:∀z H Q E,¬Z7 K 0 z H Q E:=λz H Q E h=>by
  obtain⟨w,D,v,t,ks,_,_,_,_,F,_⟩:=h;rw [Q8]at F;lia
 exact⟨λz H Q E h=>absurd h (no z H Q E),λA outer s H G J z Q E _ _ _ _ h=>absurd h (no z H Q E)⟩
theorem WH(F:Fun K "is_of" "is_of" Wq f fd)(G:Gm mg)(RR:Fn P w K mg base 2 "row_of" ["wood","kind","name"] (UJ K) soft)(hb:Binds K fd ["wood","kind","tree"] [])(hm:mg "is_of"=some (.ref f)):∀n:Nat,FnOk P w K mg base CX0 (n+2) f fd ["wood","kind","tree"] (Z7 K n) soft
 | 0=>Lv
 | n+1=>O7 F G RR ⟨f,fd,WH F G RR hb hm n,hb,F.kp,hm⟩
theorem JI:FnScope ["turning","mode","name","kind","rules","row","rule"] ["turning","mode","name"] (defScope NF):=(1:)
theorem O3(F:Fun K "rule_of" "rule_of" NF f fd)(G:Gm mg)(RO:Fn P w K mg base 1 "rows_of" ["wood","kind"] (Y3 K) soft):FnOk P w K mg base CX0 2 f fd ["turning","mode","name"] (X6 K) soft:=by
 refine F.ok JI (13:) (λak A outer s H vs Q E hr h=>?_)
 .obtain⟨p,wd,lm,v,i,name,ks,ms,m,rfl,_⟩:=h
  rfl
 obtain⟨p,wd,lm,v,i,name,ks,ms,m,rfl,hp,hW,hO,hM,hm,aj,q⟩:=h;refine⟨_,(Qe (Qm (i:=3) JI.nd rfl (5:) (Qg Qk (Qg Ql (Qg Qk (pv 0) Qd (2:)) (pv 1) (2:)) Qd (2:)))
  (Qe (Qm (i:=4) JI.nd rfl (5:) (Qg Qk (Qg Ql (Qg Qk (pv 0) Qd (2:)) (pv 1) (2:)) Qd (2:)))
  (Qe (QO a' rfl (MX rfl G.zip (Qa (Qr RO hr (Qa (Qg Qk (pv 0) Qd (2:)) (Qa (pv 3) Qc))) (Qa (pv 4) Qc))) (Yu rfl (QR (Qt (i:=5) JI.nd rfl (5:)) (QR (Qt (i:=6) JI.nd rfl (5:)) ZN)))
   (Qh (QP (Qx Yj (Qg Qk (pv 5) Qd (2:)) (pv 2) (Qy _)) (Qh (Qp (pv 6))) Qw)))
  (Qh (Qp Z8))))),?_⟩
 try dsimp only [QC,Cx.nox]
 refine L2.let3 ?_
 intros
 have ad:=aN hm;have hA:=hM.2 m ad;have aa:atI (ms.map λm=>V.ref m.1) (i:Int)=some (.ref m.1):=Qs (by rw [aI,hm];rfl);refine⟨_,rfl,p,_,2,_,rfl,rfl,hp,rfl,_,rfl,lm,_,_,_,rfl,rfl,hM.1,aa,m.1,_,0,_,rfl,rfl,hA.1,rfl,?_⟩;refine⟨_,rfl,p,_,2,_,rfl,rfl,hp,rfl,_,rfl,lm,_,_,_,rfl,rfl,hM.1,aa,m.1,_,1,_,rfl,rfl,hA.1,rfl,?_⟩;refine⟨_,rfl,p,_,0,_,rfl,rfl,hp,rfl,_,rfl,wd,m.2.1,ks,rfl,hW,hO,λlr H1 U hR=>⟨_,rfl,lr,m.2.2.1,_,m.2.2.2.1,rfl,hR.1,U.seq hA.2.1,?_⟩⟩;have al:=hA.2.2.length;have ab:((Qu ks m.2.1).map λt=>V.ref t.1).length=(Qu ks m.2.1).length:=aC ..;refine let J_:J3:=(λj σ H'=>∃Y Z,σ=[some (.ref p),some (.int (i:Int)),some (.str name),some (.str m.2.1),some (.ref m.2.2.1),Y,Z]/\Same H1 H'/\∀(k:Nat) r,k<j->(Qu ks m.2.1)[k]?=some r->r.2.1≠name);Gq (K:=K) (by rw [ab];lia) J_
  ⟨none,none,rfl,Same.refl _,λk r M _=>by lia⟩ ?_ ?_ ?_
 .rintro j σ H' _ ⟨Y,Z,_,g,_⟩;exact⟨g.seq hR.1,(U.trans g).seq hA.2.1⟩
 .rintro j u v' pp σ H' hu hv ae ⟨Y,Z,rfl,g,D⟩;have J:j<(Qu ks m.2.1).length:=by
   have:=(aK.mp hu).1
   simpa using this
  have ac:j<m.2.2.2.2.length:=by lia
  obtain⟨cv,af,ag⟩:=hA.2.2.get (aB ac);obtain rfl:cv=v':=aH (af.symm.trans hv);obtain rfl:u=.ref (Qu ks m.2.1)[j].1:=by
   rw [aI,aB J]at hu;exact(aH hu).symm
  have gp:=Qf ae (.tup [.ref (Qu ks m.2.1)[j].1,cv]);have gg:=U.trans (g.trans gp);have ah:=(hR.2 _ (aZ J)).same (g.trans gp);refine⟨pp,_,rfl,SqT.of Qb,rfl,_,_,rfl,_,_,rfl,rfl,?_⟩;refine⟨_,rfl,_,_,0,_,rfl,rfl,ah.1,rfl,_,rfl,rfl,_,rfl,?_⟩
  by_cases he:(Qu ks m.2.1)[j].2.1=name
  .refine Wz (by rw [he]) ⟨_,rfl,q cv _ gg ?_⟩;have ef:((Qu ks m.2.1).zip m.2.2.2.2).find? (λx=>decide (x.1.2.1=name))=some ((Qu ks m.2.1)[j],m.2.2.2.2[j]):=by
    refine Ub (i:=j) (by rw [fQ];exact⟨aB J,aB ac⟩) (bW he) λk y M e=>?_;rw [fQ]at e;exact bN (D k y.1 M e.1)
   unfold ruleK MdT.md;rw [ef];exact ag.mono λ_ _=>gg.seqT
  .refine Wt (λz=>he (by injection z)) ⟨_,_,rfl,g.trans gp,λk r M e=>?_⟩
   by_cases ai:k=j
   .subst ai;rw [aB J]at e;cases e;exact he
   .exact D k r (7:) e
 .rintro σ H' ⟨Y,Z,rfl,g,D⟩;refine q .non H' (U.trans g) ?_;have ef:((Qu ks m.2.1).zip m.2.2.2.2).find? (λx=>decide (x.1.2.1=name))=none:=by
   refine GO λk y e=>?_;rw [fQ]at e;have M:=(aK.mp e.1).1;exact bN (D k y.1 (by rw [ab];exact M) e.1)
  unfold ruleK MdT.md;rw [ef]
  rfl
theorem Ru:FnScope ["_law_script","_law_k"] ["_law_script","_law_k"] (defScope Mv):=(1:)
theorem O1(F:Fun K "_law_cell_at" "_law_cell_at" Mv f fd)(G:Gm mg):FnOk P w K mg base CX0 1 f fd ["_law_script","_law_k"] (Xx K) soft:=by
 refine F.ok Ru (λD H Q E h=>?_) (λU A outer s H D Q E Z h=>?_)
 .obtain⟨a,ns,k,rfl,_⟩:=h
  rfl
 obtain⟨a,ns,k,rfl,Y,z,q⟩:=h;obtain⟨j,rfl⟩: ∃j:Nat,k=(j:Int):=⟨k.toNat,by lia⟩;refine⟨_,(Qe (QP (Qx GQ (pv 1) (Qq Qn rfl G.len aX (Qa (pv 0) Qc)) (Qy _)) (Qh (Qp (Qg Ql (pv 0) (pv 1) (2:)))) Qw)
  (Qh (Qp Qd))),?_⟩
 try dsimp only [QC,Cx.nox]
 refine L2.let1 ?_
 intros
 refine⟨_,rfl,_,rfl,a,_,rfl,.inl z,_,_,rfl,rfl,_,rfl,Z6 (λc=>?_) (λc=>?_)⟩
 .have J:(j:Int)<(((ns.map V.int).length:Nat):Int):=cJ c;rw [aC]at J;have M:j<ns.length:=by lia
  exact⟨_,rfl,_,rfl,a,_,j,.int ns[j],rfl,rfl,z,Qs (by rw [aI,aB M];rfl),q _⟩
 .exact q 0
theorem N1:FnScope ["_law_found"] ["_law_found"] (defScope Vs):=(1:)
theorem M0(F:Fun K "_law_whole" "_law_whole" Vs f fd)(G:Gm mg):FnOk P w K mg base CX0 1 f fd ["_law_found"] UH soft:=by
 refine F.ok N1 (λz H Q E h=>?_) (λD A outer s H z Q E J h=>?_)
 .obtain⟨i,rfl,_⟩:=h
  rfl
 obtain⟨i,rfl,q⟩:=h;refine⟨_,(Qh (Qp (VO (Qq ZR rfl G.isi fA (Qa (pv 0) (Qa (Z9 (v:=.ty "int") rfl G.int PyProof.Rows.boot_int rfl) Qc))) (XN (PM (Qq ZR rfl G.isi fA (Qa (pv 0) (Qa (Z9 (v:=.ty "bool") rfl G.boo PyProof.Rows.boot_bool rfl) Qc)))))))),?_⟩
 try dsimp only [QC,Cx.nox]
 exact⟨_,rfl,_,"int",_,true,rfl,.int _,rfl,_,rfl,Zd ⟨_,rfl,_,"bool",_,false,rfl,.int _,rfl,_,rfl,q⟩⟩
theorem Tj:FnScope ["term","mark"] ["term","mark"] (defScope sMP):=(1:)
theorem SF(F:Fun K "mark_put" "mark_put" sMP f fd):FnOk P w K mg base CX0 1 f fd ["term","mark"] (Oi K) soft:=by
 refine F.ok Tj (λz H Q E h=>?_) (λM A outer s H z Q E U h=>?_)
 .obtain⟨v,n,k,D,m,G,rfl,_⟩:=h
  rfl
 obtain⟨v,n,k,D,m,G,rfl,J,q⟩:=h;refine⟨_,(Qh (Qp (MO (Q7 (Qg Qk (pv 0) Qd (2:))) (Qo QI (Qg Qk (pv 0) Qd (2:)) (pv 1)) (Qg Qk (pv 0) Qd (2:))))),?_⟩
 try dsimp only [QC,Cx.nox]
 cases J with
 | put h1 h2 Y Z=>
  refine⟨_,rfl,_,_,2,_,rfl,rfl,h1,rfl,_,rfl,?_⟩;cases k with
  | true=>exact Zd ⟨_,rfl,_,_,3,_,rfl,rfl,h1,rfl,_,rfl,_,_,rfl,rfl,q⟩
  | false=>exact Zf ⟨_,rfl,_,_,3,_,rfl,rfl,h1,rfl,q⟩
theorem S4:FnScope ["term","mark"] ["term","mark"] (defScope sPH):=(1:)
theorem Sv(F:Fun K "put_head" "put_head" sPH f fd)(G:Gm mg)(RM:Fn P w K mg base 1 "mark_put" ["term","mark"] (Oi K) soft):FnOk P w K mg base CX0 2 f fd ["term","mark"] (PU K) soft:=by
 refine F.ok S4 (λz H Q E h=>?_) (λaa A outer s H z Q E Y h=>?_)
 .obtain⟨v,n,k,D,m,J,rfl,_⟩:=h
  rfl
 obtain⟨v,n,k,D,m,J,rfl,M,q⟩:=h;refine⟨_,(Qh (Qp (QE (Qa (Qg Qk (pv 0) Qd (2:)) (Qa (Qr RM Y (Qa (pv 0) (Qa (pv 1) Qc))) (Qa (Qq Qn rfl G.len aX (Qa (Qg Qk (pv 0) Qd (2:)) Qc)) Qc)))))),?_⟩
 try dsimp only [QC,Cx.nox]
 have U:=M;cases M with
 | @put a b z _ _ _ _ h1 h2 Z h4=>
  refine⟨_,rfl,a,_,1,_,rfl,rfl,h1,rfl,_,rfl,_,rfl,_,n,k,D,m,J,rfl,U,?_⟩;refine⟨_,rfl,a,_,4,_,rfl,rfl,h1,rfl,b,z,rfl,.inr h2,(by show 3<=sizeLine;decide),λp hp=>?_⟩;refine q p _ (Qf hp _) ?_;rw [Z.length];exact Qb
theorem Tq:FnScope ["branches","number"] ["branches","number"] (defScope sHN):=(1:)
theorem SE(F:Fun K "has_number" "has_number" sHN f fd)(G:Gm mg):FnOk P w K mg base CX0 1 f fd ["branches","number"] (Re K) soft:=by
 refine F.ok Tq (λD H Q E h=>?_) (λM A outer s H D Q E U h=>?_)
 .obtain⟨b,xs,i,rfl,_⟩:=h
  rfl
 obtain⟨b,xs,i,rfl,J,q⟩:=h;refine⟨_,(Qe (QP (Q7 (Qq ZR rfl G.isi fA (Qa (pv 1) (Qa (Z9 (v:=.ty "bool") rfl G.boo PyProof.Rows.boot_bool rfl) Qc)))) (Qh (Qp Zy)) Qw)
  (Qh (Qp (MZ Vd GQ Qd (pv 1) (Qq Qn rfl G.len aX (Qa (pv 0) Qc)))))),?_⟩
 try dsimp only [QC,Cx.nox]
 refine L2.let1 ?_
 intros
 refine⟨_,rfl,_,"bool",_,false,rfl,.int _,rfl,_,rfl,Zf ?_⟩;refine⟨_,rfl,_,_,rfl,rfl,_,rfl,?_⟩;refine Z6 (λc=>?_) (λc=>?_)
 .have z:(0:Int)<=i:=cJ c;refine⟨_,rfl,b,xs,rfl,.inr J,_,_,rfl,rfl,?_⟩;have e:decide (i<((xs.length:Nat):Int))=decide (0<=i/\i<(xs.length:Int)):=by simp [z]
  show Q (.bl (decide (i<((xs.length:Nat):Int)))) H;rw [e];exact q
 .have z:¬(0:Int)<=i:=of_decide_eq_false (Bool.eq_false_iff.mpr c);have e:false=decide (0<=i/\i<(xs.length:Int)):=by simp [z]
  rw [e];exact q
theorem WQ:FnScope ["wood","kind","tree"] ["wood","kind","tree"] (defScope Y6):=(1:)
theorem Lo(F:Fun K "need_of" "need_of" Y6 f fd)(RI:Fn P w K mg base 42 "is_of" ["wood","kind","tree"] (Z7 K 40) soft):FnOk P w K mg base CX0 43 f fd ["wood","kind","tree"] (U6 K) soft:=by
 refine F.ok WQ (λG H Q E h=>?_) (λaa A outer s H G Q E J h=>?_)
 .obtain⟨w,z,v,t,ks,rfl,_⟩:=h
  rfl
 obtain⟨wd,z,v,t,ks,rfl,M,U,Y,D,Z,q⟩:=h;refine⟨_,(Qh (QP (Zq (Q7 (Qr RI J (Qa (pv 0) (Qa (pv 1) (Qa (pv 2) Qc)))))) (Qh Nz) Qw)),?_⟩
 try dsimp only [QC,Cx.nox]
 refine⟨_,rfl,_,rfl,_,rfl,wd,z,v,t,ks,rfl,M,U,Y,D,λH1 g1=>⟨_,rfl,?_⟩⟩;rw [Z];exact Zf (q H1 g1)
theorem W0:FnScope ["wood","tree"] ["wood","tree"] (defScope Y0):=(1:)
theorem Lb(F:Fun K "need_in" "need_in" Y0 f fd)(RN:Fn P w K mg base 43 "need_of" ["wood","kind","tree"] (U6 K) soft):FnOk P w K mg base CX0 44 f fd ["wood","tree"] (Yl K) soft:=by
 refine F.ok W0 (λU H Q E h=>?_) (λaa A outer s H U Q E Y h=>?_)
 .obtain⟨w,v,t,ks,z,rfl,_⟩:=h
  rfl
 obtain⟨wd,v,t,ks,z,rfl,G,Z,D,ht,J,hT,q⟩:=h;refine⟨_,(Qh (QS (Qr RN Y (Qa (pv 0) (Qa (Qg Qk (Qg Ql (pv 0) Qd (2:)) Qd (2:)) (Qa (pv 1) Qc)))))),?_⟩
 try dsimp only [QC,Cx.nox]
 have M:atI (ks.map λk=>V.ref k.1) 0=some (.ref z.1):=Qs (j:=0) (by rw [aI,D];rfl);exact⟨_,rfl,_,rfl,wd,_,0,_,rfl,rfl,G.1,M,z.1,_,0,_,rfl,rfl,(G.2 z (aN D)).1,rfl,_,rfl,wd,z.2.1,v,t,ks,rfl,G,Z,ht,J,hT,q⟩
theorem O4:FnScope ["tree"] ["tree"] (defScope Vj):=(1:)
theorem XR:Str.ofString ""=S []:=by decide+kernel
theorem Nk(F:Fun K "above" "above" Vj f fd):FnOk P w K mg base CX0 1 f fd ["tree"] (UR K) soft:=by
 refine F.ok O4 (λJ H Q E h=>?_) (λU A outer s H J Q E Y h=>?_)
 .obtain⟨v,t,rfl,_⟩:=h
  rfl
 obtain⟨v,t,rfl,M,q⟩:=h;refine⟨_,(Qh (Qp (QE (Qa (Zi) (Qa (Qd) (Qa ((QE (Qa (pv 0) Qc))) Qc)))))),?_⟩
 try dsimp only [QC,Cx.nox]
 refine⟨_,rfl,(by show 1<=sizeLine;decide),λp hp=>⟨(by show 3<=sizeLine;decide),λp2 D=>?_⟩⟩;have G:=Qf hp (.tup [v]);have z:=Qf D (.tup [.str (Str.ofString ""),.int 0,.ref p]);refine q _ _ (G.trans z) ?_;have h2:=SqT.of (K:=K) (Qb (H:=upd H p (.tup [v])) (a:=p2) (o:=.tup [.str (Str.ofString ""),.int 0,.ref p]));rw [XR]at h2 ⊢;exact .mk h2 (by rw [<-XR];exact z.seqT (SqT.of Qb)) (.cons (by rw [<-XR];exact M.mono λ_ _=>(G.trans z).seqT) .nil) (by show 1<=1000;decide)
end
structure TurnAt(K:Fg)(H:Hp)(tu wd lm:Addr)(v:V)(ms:List MdT)(T:Tu):Prop where
 tu:SqT K H tu [.ref wd,v,.ref lm]
 w:WoodAt K H wd T.ks
 m:ModesL K H lm ms
 s:TmV K H v T.start
structure TurnOk(ms:List MdT)(T:Tu):Prop where
 wo:WoodOk T.ks
 me:mds ms=T.ms
 ok:TuOk T
 k0:∃k,T.ks[0]?=some k/\k.2.1=T.k0
theorem TurnAt.same{K:Fg}{v:V}(g:Same H H')(h:TurnAt K H tu wd lm v ms T):TurnAt K H' tu wd lm v ms T:=
 ⟨g.seqT h.tu,h.w.same g,h.m.same g,h.s.mono λ_ _=>g.seqT⟩
theorem TurnOk.get(h:TurnOk ms T){md:Md}(e:T.ms[i]?=some md):∃m,ms[i]?=some m/\m.md=md/\m.2.2.2.2.length=(Qu T.ks m.2.1).length:=by
 rw [<-h.me,aI]at e;cases z:ms[i]? with
 | none=>rw [z]at e;cases e
 | some m=>
  rw [z]at e;obtain rfl:=aH e;refine⟨m,rfl,rfl,?_⟩;have D:m.md∈T.ms:=by rw [<-h.me];exact aT.mpr ⟨m,aN z,rfl⟩
  have:=h.ok.rf _ D;unfold ZZ at this;simp only [bD,dS]at this;exact this.1.2
def Xz(K:Fg):Sp:=λvs H Q _=>∃(tu wd lm:Addr)(sv:V)(ms:List MdT)(T:Tu)(v rv:V)(t:Tm)(r:Tree Str),vs=[.ref tu,v,rv]/\TurnAt K H tu wd lm sv ms T/\TurnOk ms T/\TmV K H v t/\TrV K H rv r/\St T (t,r)/\lv r<=60/\
 ∀(p:Addr)(v' rv':V)(H':Hp),Same H H'->SqT K H' p [v',rv']->TmV K H' v' (come T.ks T.ms (t,r)).1->TrV K H' rv' (come T.ks T.ms (t,r)).2->Q (.ref p) H'
def Jq(K:Fg):Sp:=λvs H Q _=>∃(tu wd lm:Addr)(sv:V)(ms:List MdT)(T:Tu)(v rv:V)(t:Tm)(r:Tree Str)(pl:Addr)(ns:List Int),vs=[.ref tu,v,rv,.ref pl]/\TurnAt K H tu wd lm sv ms T/\TurnOk ms T/\TmV K H v t/\TrV K H rv r/\St T (t,upT r)/\lv r<=40/\SqT K H pl (ns.map V.int)/\
 (Zv T (come T.ks T.ms (t,upT r)) ns=none->∀H',Same H H'->Q .non H')/\
 ∀q,Zv T (come T.ks T.ms (t,upT r)) ns=some q->∀(p:Addr)(H':Hp),Same H H'->H' p=some (.tup [.str (GV q),.int (G4 q),.int ((q.1.bs.length:Nat):Int)])->Q (.ref p) H'
def VI(K:Fg):Sp:=λvs H Q _=>∃(tu wd lm:Addr)(sv:V)(ms:List MdT)(T:Tu)(rv:V)(r:Tree Str)(pl:Addr)(ns:List Int),vs=[.ref tu,rv,.ref pl]/\TurnAt K H tu wd lm sv ms T/\TurnOk ms T/\TrV K H rv r/\isT (QX T.ks) r T.k0=true/\lv r<=40/\SqT K H pl (ns.map V.int)/\
 (Zv T (come T.ks T.ms (T.start,upT r)) ns=none->∀H',Same H H'->Q .non H')/\
 ∀q,Zv T (come T.ks T.ms (T.start,upT r)) ns=some q->∀(p:Addr)(H':Hp),Same H H'->H' p=some (.tup [.str (GV q),.int (G4 q),.int ((q.1.bs.length:Nat):Int)])->Q (.ref p) H'
theorem LX(r:Tree Str):lv (upT r)=lv r+1:=by simp only [upT,TM.lv,lvs];lia
def FW(K:Fg)(H:Hp)(tu:Addr)(v rv:V)(T:Tu)(t:Tm)(r:Tree Str)(m:Nat)(σ:L2.St)(H':Hp):Prop:=∃(v' rv':V)(t':Tm)(r':Tree Str)(c5:Option V),m=lv r'/\σ=[some (.ref tu),some v,some rv,some v',some rv',c5]/\Same H H'/\TmV K H' v' t'/\TrV K H' rv' r'/\K27.St T (t',r')/\lv r'<=60/\come T.ks T.ms (t',r')=come T.ks T.ms (t,r)
section
variable{K:Fg}
theorem YA:FnScope ["turning","term","tree","rule","read","mode"] ["turning","term","tree"] (defScope Ve):=(1:)
theorem MC(F:Fun K "first_put" "first_put" Ve f fd)(RC:Fn P w K mg base 1 "is_call" ["term"] (Jv K))(RR:Fn P w K mg base 2 "rule_of" ["turning","mode","name"] (X6 K)):FnOk P w K mg base CX0 3 f fd ["turning","term","tree"] (Xz K):=by
 refine F.ok YA (13:) (λay A outer s H vs Q E hr h=>?_)
 .obtain⟨M,wd,lm,sv,ms,T,v,U,t,r,rfl,_⟩:=h
  rfl
 obtain⟨M,wd,lm,sv,ms,T,v,U,t,r,rfl,hT,hO,hv,ae,hS,ac,q⟩:=h;refine⟨_,(Qe (Qm (i:=3) YA.nd rfl (5:) (pv 1))
  (Qe (Qm (i:=4) YA.nd rfl (5:) (pv 2))
  (Qe (W9 a' (Q7 (Qr RC hr (Qa (pv 3) Qc))) (Qe (Qm (i:=5) YA.nd rfl (5:) (Qg Qk (pv 3) Qd (2:)))
  (Qe (Qm (i:=4) YA.nd rfl (5:) (Qg Qk (Qg Qk (pv 4) Qd (2:)) (Qg Qk (pv 3) Qd (2:)) (2:)))
  (Qh (Qm (i:=3) YA.nd rfl (5:) (Qr RR hr (Qa (pv 0) (Qa (pv 5) (Qa (Qg Qk (pv 4) Qd (2:)) Qc)))))))))
  (Qh (Qp (QE (Qa (pv 3) (Qa (pv 4) Qc)))))))),?_⟩
 try dsimp only [QC,Cx.nox]
 refine L2.let3 ?_
 intros
 refine⟨_,rfl,_,rfl,?_⟩;refine⟨FW K H M v U T t r,⟨_,v,U,t,r,none,rfl,rfl,Same.refl H,hv,ae,hS,ac,rfl⟩,?_⟩;rintro m σ H' ⟨v',af,t',Y,c5,rfl,rfl,g,D,G,ag,ah,Z⟩;refine⟨_,rfl,v',t',rfl,D,_,rfl,?_⟩;rcases ZC D with⟨a,mo,b,rfl,rfl,h1⟩ | ⟨a,b,bs,nm,k,ad,rfl,et,h1,h2,h3,h4⟩
 .obtain⟨c,md,u,b0,m0,aa,hm,ai,az,aj,ak⟩:=ag.next hO.ok (m:=mo) (b:=b) rfl;refine Zd ⟨λax H'=>∃m',m'<lv Y/\FW K H M v U T t r m' ax H',λ_ _ h=>h,?_⟩;obtain⟨ra,rb,al,rn,rm,rfl,er,am,an,ao,a0⟩:=US G;obtain⟨cv,ap,ab⟩:=ao.get aa;have aq:atI al b=some cv:=by
   rw [show b=((b.toNat:Nat):Int)by lia];exact Qs ap
  refine⟨_,rfl,a,_,1,_,rfl,rfl,h1,rfl,?_⟩;refine⟨_,rfl,ra,_,2,_,rfl,rfl,am,rfl,_,rfl,a,_,2,_,rfl,rfl,h1,rfl,rb,_,b,cv,rfl,rfl,an,aq,?_⟩;obtain⟨ca,cb,a1,cn,cm,rfl,ec,ar,a2,a3,a4⟩:=US ab;obtain⟨mT,as,au,av⟩:=hO.get hm;have J:=hT.same g;have aw:nmT c=cn:=by rw [ec];rfl
  refine⟨_,rfl,_,rfl,_,rfl,ca,_,0,_,rfl,rfl,ar,rfl,M,wd,lm,sv,mo.toNat,cn,T.ks,ms,mT,(by rw [cG m0];rfl),J.tu,J.w,hO.wo,J.m,as,av,λv2 H2 z ho=>?_⟩;rw [au,<-aw,ai]at ho;have a5:lv c<=lvs Y.bs:=ZI (aN aa);have a6:=Q8 Y;exact⟨lv c,by lia,v2,.ref ca,u,c,_,rfl,rfl,g.trans z,ho,ab.mono λ_ _=>z.seqT,ak,by lia,by rw [<-Z,Xt ah aj]⟩
 .have hc:isC (lab t')=false:=by rw [et];rfl
  rw [hc];refine Zf ⟨_,rfl,_,rfl,(by show 2<=sizeLine;decide),λp hp=>?_⟩;have z:=Qf hp (.tup [.ref a,af]);have e:come T.ks T.ms (t,r)=(t',Y):=by rw [<-Z,W3 hc]
  rw [e]at q;exact q p _ _ _ (g.trans z) (SqT.of Qb) (D.mono λ_ _=>z.seqT) (G.mono λ_ _=>z.seqT)
theorem Yn:FnScope ["turning","term","tree","place","here","number","parts"] ["turning","term","tree","place"] (defScope XE):=(1:)
theorem LK(F:Fun K "seen_by" "seen_by" XE f fd)(G:Gm mg)(RF:Fn P w K mg base 3 "first_put" ["turning","term","tree"] (Xz K))(RA:Fn P w K mg base 1 "above" ["tree"] (UR K))(RH:Fn P w K mg base 1 "has_number" ["branches","number"] (Re K))(RM:Fn P w K mg base 2 "put_head" ["term","mark"] (PU K)):
 FnOk P w K mg base CX0 4 f fd ["turning","term","tree","place"] (Jq K):=by
 refine F.ok Yn (13:) (λa0 A outer s H vs Q E hr h=>?_)
 .obtain⟨tu,wd,lm,sv,ms,T,v,rv,t,r,pl,ns,rfl,_⟩:=h
  rfl
 obtain⟨tu,wd,lm,sv,ms,T,v,rv,t,r,pl,ns,rfl,hT,hO,hv,ai,hS,az,ae,qn,qs⟩:=h;refine⟨_,(Qe (Qm (i:=4) Yn.nd rfl (5:) (Qr RF hr (Qa (pv 0) (Qa (pv 1) (Qa (Qr RA hr (Qa (pv 2) Qc)) Qc)))))
  (Qe (QO a' rfl (Yg (pv 3)) (Qt (i:=5) Yn.nd rfl (5:)) (Qe (Qm (i:=6) Yn.nd rfl (5:) (Qg Qk (Qg Qk (pv 4) Qd (2:)) Qd (2:)))
  (Qe (QP (Zq (Q7 (Qr RH hr (Qa (pv 6) (Qa (pv 5) Qc))))) (Qh (Qp Z8)) Qw)
  (Qh (Qm (i:=4) Yn.nd rfl (5:) (Qr RF hr (Qa (pv 0) (Qa (Qg Qk (pv 6) (pv 5) (2:)) (Qa (Qg Qk (pv 4) Qd (2:)) Qc)))))))))
  (Qh (Qp (Qr RM hr (Qa (Qg Qk (pv 4) Qd (2:)) (Qa (Qg Qk (Qg Qk (pv 4) Qd (2:)) Qd (2:)) Qc))))))),?_⟩
 try dsimp only [QC,Cx.nox]
 refine L2.let2 ?_
 intros
 refine⟨_,rfl,_,rfl,_,rfl,rv,r,rfl,ai,λuv H1 g1 aj=>?_⟩;have a1:=LX r;refine⟨tu,wd,lm,sv,ms,T,v,uv,t,upT r,rfl,hT.same g1,hO,hv.mono λ_ _=>g1.seqT,aj,hS,by lia,λp0 v0 r0 H2 g2 ak al am=>?_⟩;obtain⟨an,ao,ap⟩:=UT hO.ok 60 (t,upT r) (by show lv (upT r)<=60;lia) (4:) hS;have hA:At T (come T.ks T.ms (t,upT r)):=⟨an,ao,aY ap (by show lv (upT r)<=60;lia)⟩;generalize come T.ks T.ms (t,upT r)=p at*;have af:=g1.trans g2;refine⟨_,rfl,pl,rfl,⟨_,af.seqT ae⟩,?_⟩;refine let J_:J3:=(λi σ H'=>∃(c5 c6:Option V)(J:Addr)(vh Z:V)(x:Tm×Tree Str),σ=[some (.ref tu),some v,some rv,some (.ref pl),some (.ref J),c5,c6]/\Same H H'/\SqT K H' J [vh,Z]/\TmV K H' vh x.1/\TrV K H' Z x.2/\Zv T p (ns.take i)=some x/\At T x);YB (K:=K) (xs:=ns.map V.int) J_
  ⟨none,none,p0,v0,r0,p,rfl,af,ak,al,am,rfl,hA⟩ ?_ ?_ ?_
 .rintro i σ H' _ ⟨c5,c6,J,vh,Z,x,_,g,_⟩;exact g.seqT ae
 .rintro i y σ H' hy ⟨c5,c6,J,vh,Z,x,rfl,g,M,Y,aa,U,D⟩;obtain⟨n,hn,rfl⟩: ∃n:Int,ns[i]?=some n/\y=.int n:=by
   rw [aI]at hy;cases e:ns[i]? with
   | none=>rw [e]at hy;cases hy
   | some n=>rw [e]at hy;exact⟨n,rfl,(aH hy).symm⟩
  have aq:i<ns.length:=(aK.mp hn).1;have ab:ns=ns.take i++n::ns.drop (i+1):=by
   have e1:ns.drop i=n::ns.drop (i+1):=by rw [List.drop_eq_getElem_cons aq,(aK.mp hn).2]
   rw [<-e1,List.take_append_drop]
  rcases ZC Y with⟨a,mo,b,rfl,ex,h1⟩ | ⟨a,b,bs,nm,k,ad,rfl,et,h1,h2,h3,h4⟩
  .have:=D.pt;rw [ex]at this;cases this
  have ah:=h3.length;refine⟨_,rfl,J,_,0,_,rfl,rfl,M,rfl,a,_,4,_,rfl,rfl,h1,rfl,?_⟩;refine⟨_,rfl,_,rfl,b,bs,n,rfl,h2,_,rfl,?_⟩
  by_cases ag:0<=n/\n<((bs.length:Nat):Int)
  .have e:decide (0<=n/\n<((bs.length:Nat):Int))=true:=bW ag;rw [e];obtain⟨j,rfl⟩: ∃j:Nat,n=(j:Int):=⟨n.toNat,by lia⟩;have hj:j<x.1.bs.length:=by lia
   obtain⟨cv,ar,as⟩:=h3.get (aB hj);have au:=D.st.part (aZ hj);refine Zf ⟨_,rfl,_,rfl,_,rfl,b,bs,(j:Int),cv,rfl,rfl,h2,Qs ar,_,rfl,J,_,1,_,rfl,rfl,M,rfl,tu,wd,lm,sv,ms,T,cv,Z,x.1.bs[j],x.2,rfl,hT.same g,hO,as,aa,au,D.lv,λp1 v1 r1 H3 g3 av aw ac=>?_⟩;have z:ZS T x (j:Int)=some (come T.ks T.ms (x.1.bs[j],x.2)):=by
    unfold ZS;rw [aE (7:),bF,aB hj];rfl
   refine⟨_,_,p1,v1,r1,come T.ks T.ms (x.1.bs[j],x.2),rfl,g.trans g3,av,aw,ac,?_,D.step hO.ok z⟩;rw [b_,hn,Uy,U];show Zv T x [(j:Int)]=_;simp only [Zv,z]
  .have e:decide (0<=n/\n<((bs.length:Nat):Int))=false:=bN ag;rw [e];refine Zd (qn ?_ H' g);rw [ab,Uy,U];show Zv T x (n::ns.drop (i+1))=none;have z:ZS T x n=none:=by
    unfold ZS
    by_cases h0:0<=n
    .rw [aE h0,List.getElem?_eq_none (7:)];rfl
    .rw [aF h0]
   simp only [Zv,z]
 .rintro σ H' ⟨c5,c6,J,vh,Z,x,rfl,g,M,Y,aa,U,D⟩;rw [bL (by rw [aC];exact bB _)]at U;rcases ZC Y with⟨a,mo,b,rfl,ex,h1⟩ | ⟨a,b,bs,nm,k,ad,rfl,et,h1,h2,h3,h4⟩
  .have:=D.pt;rw [ex]at this;cases this
  have ah:=h3.length;obtain⟨ra,rb,a2,rn,rm,rfl,er,ac,a3,a4,a5⟩:=US aa;have ax:TmV K H' (.ref a) (.node (.put nm k ad) 0 x.1.bs):=by rw [<-et];exact Y
  refine⟨_,rfl,J,_,0,_,rfl,rfl,M,rfl,_,rfl,J,_,1,_,rfl,rfl,M,rfl,ra,_,1,_,rfl,rfl,ac,rfl,.ref a,nm,k,ad,rm,x.1.bs,rfl,ax,λp2 H2 g2 ay=>?_⟩;have e1:GV x=nm:=by unfold GV;rw [et];rfl
  have e2:G4 x=if k=true then ad+rm else ad:=by
   unfold G4;rw [et];have:mkT x.2=rm:=by rw [er];rfl
   simp only [lab,this]
  refine qs x U p2 _ (g.trans g2) ?_;rw [e1,e2];exact ay
theorem PZ:FnScope ["turning","tree","place"] ["turning","tree","place"] (defScope Mn):=(1:)
theorem OL(F:Fun K "seen" "seen" Mn f fd)(RN:Fn P w K mg base 44 "need_in" ["wood","tree"] (Yl K))(RB:Fn P w K mg base 4 "seen_by" ["turning","term","tree","place"] (Jq K)):FnOk P w K mg base CX0 45 f fd ["turning","tree","place"] (VI K):=by
 refine F.ok PZ (13:) (λad A outer s H vs Q E hr h=>?_)
 .obtain⟨J,wd,lm,Y,ms,T,Z,r,pl,ns,rfl,_⟩:=h
  rfl
 obtain⟨J,wd,lm,Y,ms,T,Z,r,pl,ns,rfl,hT,M,U,hk,z,aa,qn,qs⟩:=h;refine⟨_,(Qe (QS (Qr RN hr (Qa (Qg Qk (pv 0) Qd (2:)) (Qa (pv 1) Qc))))
  (Qh (Qp (Qr RB hr (Qa (pv 0) (Qa (Qg Qk (pv 0) Qd (2:)) (Qa (pv 1) (Qa (pv 2) Qc)))))))),?_⟩
 try dsimp only [QC,Cx.nox]
 refine L2.let1 ?_
 intros
 obtain⟨k0,ab,ac⟩:=M.k0;refine⟨_,rfl,J,_,0,_,rfl,rfl,hT.tu,rfl,_,rfl,wd,Z,r,T.ks,k0,rfl,hT.w,M.wo,ab,U,z,by rw [ac];exact hk,λH1 D=>?_⟩;have G:=hT.same D;exact⟨_,rfl,_,rfl,J,_,1,_,rfl,rfl,G.tu,rfl,_,rfl,_,rfl,J,wd,lm,Y,ms,T,Y,Z,T.start,r,pl,ns,rfl,G,M,G.s,U.mono λ_ _=>D.seqT,St.start M.ok hk,z,D.seqT aa,λe H' g=>qn e H' (D.trans g),λx e p H' g=>qs x e p H' (D.trans g)⟩
end
end K27
namespace L2
open PySem PySem.Spec PyProof.Rows PySem.W
theorem Y5:∀{ss:List Str}{us:List Value},Vals (ss.map V.str) us->StrsAre us ss
 | [],_,.nil=>.nil
 | x::r,_,.cons h t=>by
  obtain⟨k,rfl⟩:=(show ∃t,_=Value.str x t from h);exact .cons x k (Y5 t)
theorem GK:MtR X "str.join" (λx vs H Q=>∃(sep:Str)(l:Addr)(ss:List Str),x=.str sep/\vs=[.ref l]/\SqL X.K H l (ss.map V.str)/\(ss.map (·.length)).sum+ss.length*sep.length<=16777216/\Q (.str (Txt.join sep ss)) H):=by
 intro pins s σ H x xs v M Q I z D h;obtain⟨sep,l,ss,rfl,rfl,F,G,q⟩:=h;obtain⟨t,rfl⟩:=(show ∃t,v=Value.str sep t from z);obtain⟨u,rfl,J⟩:=D.one;obtain rfl:u=Value.ref l:=J;obtain⟨its,r,p,_⟩:=I.list F;exact join_list p.isList (Y5 r) G λU k=>⟨.str _,H,I.tok _,⟨_,rfl⟩,q⟩
theorem JT:ZK X (.type "range") (λxs H Q=>∃n:Int,xs=[.int n]/\0<=n/\n<2^20/\∀p,H p=none->Q (.ref p) (upd H p (.rng 0 n))):=by
 intro pins s σ H xs D Q I r h;obtain⟨n,rfl,F,h1,q⟩:=h;cases r with
 | cons r z=>
  cases z;obtain⟨t,rfl⟩:=r;refine call_range_1 ?_;refine⟨.ref s.heap.objs.size,_,I.laid (a:=s.heap.objs.size) (o:=.rng 0 n) (λb o e=>aG _ e) (4:) ⟨_,_,_,aQ _ rfl⟩,rfl,q _ (I.hok.fresh (4:))⟩
theorem UG:isSubtype (.type "range_iterator") (.type "reversed")=pure false:=by rw [isSubtype_type];kernel_rfl
theorem Oq{r:Addr}{n:Int}{t u v:Tok}(hr:s.heap.get? r=some { cls:=.type "range",data:=.fields #[.int 0 t,.int n u,.int 1 v] })(h0:0<=n)(h1:n<2^20)
 (h:Q (.ref s.heap.objs.size) { s with heap:=s.heap.push { cls:=.type "range_iterator",data:=.fields #[rawInt (n-1),rawInt n,rawInt (-1)] } }):wpAny (11:) A (call (.builtin "range.__reversed__") [.ref r]) Q E s:=by
 have G:s.TypeIs (.ref r) "range":=⟨_,hr,rfl⟩;refine cH hV G PySem.F.entry_range_reversed ?_ (PySem.F.args_range_reversed_1 _);unfold Builtin.«range.__reversed__»;refine aA (cX (a:=Value.ref r) rfl ?_);refine aA ?_;unfold Builtin.Range.rangeFields;refine aA (aP hr rfl (x:=.int 0 t) rfl ?_);refine aA (m:=asInt? (.int 0 t)) (aD ?_);refine aA (aP hr rfl (x:=.int n u) rfl ?_);refine aA (m:=asInt? (.int n u)) (aD ?_);refine aA (aP hr rfl (x:=.int 1 v) rfl ?_);refine aA (m:=asInt? (.int 1 v)) (aD ?_);refine aD ?_;dsimp only;have z:Builtin.Range.rangeSize 0 n 1=n:=by
  unfold Builtin.Range.rangeSize;simp only [show((1:Int)>0)by decide,cB];split<;>lia
 have D:(Builtin.Range.rangeFitsLong 0&&Builtin.Range.rangeFitsLong n&&Builtin.Range.rangeFitsLong 1&&Builtin.Range.rangeFitsLong (-1)&&Builtin.Range.rangeFitsLong (0-1)&&Builtin.Range.rangeFitsLong n)=true:=by
  simp only [Builtin.Range.rangeFitsLong,bD,Bool.or_eq_true,dS];lia
 rw [z,D];simp only [Bool.not_true,gD,dG,cB];refine aA (c_ (aD ⟨_,rfl,?_⟩));have e:(0:Int)+(n-1)*1=n-1:=by lia
 rw [e];exact h
theorem XL{r:Addr}{n:Int}{t u v:Tok}{Q₁:Value->Shared->Prop}(hr:s.heap.get? r=some { cls:=.type "range",data:=.fields #[.int 0 t,.int n u,.int 1 v] })(h0:0<=n)(h1:n<2^20)
 (h:Q₁ (.ref s.heap.objs.size) { s with heap:=s.heap.push { cls:=.type "range_iterator",data:=.fields #[rawInt (n-1),rawInt n,rawInt (-1)] } }):
 codeAny (11:) A (.call (.builtin "reversed.__new__") ⟨[.type "reversed",.ref r],[]⟩) (wants Q₁ E) s:=by
 have z:s.TypeIs (.ref r) "range":=⟨_,hr,rfl⟩;refine codeAny_of_tree ?_;show wpAny _ A.in1 (do checkBuiltinCall "reversed.__new__" ⟨[.type "reversed",.ref r],[]⟩;again (.builtin "reversed.__new__" ⟨[.type "reversed",.ref r],[]⟩)) _ _ s;refine aA (cX (PySem.F.newCall_reversed_1 _) (aD ⟨eX PySem.F.plain_reversed_new _,gj PySem.F.entry_reversed_new ?_⟩));rw [gw PySem.F.plain_reversed_new _];unfold Builtin.«reversed.__new__»;refine aA (cX (newClass_reversed _) ?_)
 try dsimp only
 refine aA (cX (a:=()) (by first | rfl | kernel_rfl) ?_);refine aA (cX (a:=()) (by first | rfl | kernel_rfl) ?_)
 try dsimp only
 refine aA (wpAny_specialOf z hV.lookup ?_)
 try dsimp only
 refine aA (cX (hV.bind _) ?_)
 try dsimp only
 first
 | rw [aF (show ¬((Value.builtin "range.__reversed__"==Value.none)=true)from aW)]
 | (show wpAny _ _ (if(Value.builtin "range.__reversed__"==Value.none)=true then _ else _) _ _ _;rw [aF (show ¬((Value.builtin "range.__reversed__"==Value.none)=true)from aW)])
 refine aA (cI ?_);refine aA (m:=runValue (.call (.builtin "range.__reversed__") ⟨[.ref r],[]⟩)) (show wpAny _ _ (call (.builtin "range.__reversed__") [.ref r]) _ _ _ from Oq hr h0 h1 ?_)
 first
 | exact aD h
 | exact aA (aD (aD h))
theorem X8{r:Addr}{n:Int}{t u v:Tok}(hr:s.heap.get? r=some { cls:=.type "range",data:=.fields #[.int 0 t,.int n u,.int 1 v] })(h0:0<=n)(h1:n<2^20)
 (h:Q (.ref s.heap.objs.size) { s with heap:=s.heap.push { cls:=.type "range_iterator",data:=.fields #[rawInt (n-1),rawInt n,rawInt (-1)] } }):wpAny (11:) A (call (.type "reversed") [.ref r]) Q E s:=by
 refine callType_other (U:="range_iterator") (Q₁:=λz D=>z=.ref s.heap.objs.size/\D={ s with heap:=s.heap.push { cls:=.type "range_iterator",data:=.fields #[rawInt (n-1),rawInt n,rawInt (-1)] } }) (0:) PySem.F.create_reversed ⟨_,_,PySem.F.mro_reversed⟩ PySem.F.made_reversed UG (PySem.F.typeCall_reversed_1 _) (XL hr h0 h1 ⟨rfl,rfl⟩) ?_;rintro z D ⟨rfl,rfl⟩;exact⟨⟨_,aQ _ rfl,rfl⟩,h⟩
def SW(ta:TA):TI:=λσ H R=>ta σ H λvs H1=>∃(r:Addr)(n:Int),vs=[.ref r]/\H1 r=some (.rng 0 n)/\0<=n/\n<2^20/\R (Itd (n-1) n.toNat) H1
theorem Np{a:Expr}{ta:TA}{p:Pos}(hg:Gl X "reversed")(hm:X.mg "reversed"=none)(ha:PA X [a] ta)(hs:starEach [a] X.env=[(false,eval a X.env)]:=by rfl):PI X tg (.Call (.Name "reversed" p) [a] [] pos) (SW ta):=by
 intro pins s σ H R I h;refine Call_ (Z5 I hg hm boot_reversed (fP (thn (ha pos pins s σ H _ I h) λus z ⟨vs,H1,D,J,M⟩=>?_) hs rfl));obtain⟨r,n,e,U,Y,h1,q⟩:=M;subst e;cases J with
 | cons Z F=>
  cases F;obtain rfl:_=Value.ref r:=Z;obtain⟨t,u,v,G⟩:=(show ObjOk X.prog X.w H1 z.heap r (.rng 0 n)from D.hok r _ U);refine X8 G Y h1 ?_;have st:IsRangeIter (z.heap.push { cls:=.type "range_iterator",data:=.fields #[rawInt (n-1),rawInt n,rawInt (-1)] }) z.heap.objs.size (n-1) n (-1):=aQ _ rfl;refine wpAny_pyIter_rangeiter st ?_;have I2:Inv X pins σ H1 { z with heap:=z.heap.push { cls:=.type "range_iterator",data:=.fields #[rawInt (n-1),rawInt n,rawInt (-1)] },toks:=z.toks }:=D.kept λb o e=>aG _ e;refine⟨z.heap.objs.size,[z.heap.objs.size],_,_,H1,rfl,I2,Wi _ (n-1) n.toNat,?_,λb hb=>?_,q⟩
  .have e1:n-1+((0:Nat):Int)*(-1)=n-1:=by lia
   have e2:((n.toNat:Nat):Int)-((0:Nat):Int)=n:=by lia
   show IsRangeIter _ _ (n-1+((0:Nat):Int)*(-1)) (((n.toNat:Nat):Int)-((0:Nat):Int)) (-1);rw [e1,e2];exact st
  .have e:b=z.heap.objs.size:=by simpa using hb
   subst e;exact D.fpOk (4:) (D.hok.fresh (4:))
end L2
namespace K27
open PySem L2 TM TT K9 K11
abbrev MM:Int:=2147483647
def Zt:Sp:=λvs H Q _=>∃(c k:Int),vs=[.int c,.int k]/\0<=k/\k<1000000/\∀x:Int,0<=x->x<MM->Q (.int x) H
def Y1:Sp:=λvs H Q _=>∃c:Int,vs=[.int c]/\∀x:Int,Q (.int x) H
def VH:Sp:=λvs H Q _=>∃c n:Int,vs=[.int c,.int n]/\∀(x:Int)(H':Hp),Same H H'->Q (.int x) H'
theorem ZM{xs:List V}{k:Int}(hk:k=(xs.length:Int))(h:0<xs.length)(n:Int):∃v∈xs,atI xs (n%k)=some v:=by
 subst hk;have D:0<=n%(xs.length:Int):=bR _ (7:);have G:n%(xs.length:Int)<(xs.length:Int):=bP _ (7:);obtain⟨y,F⟩: ∃y:Nat,n%(xs.length:Int)=(y:Int):=⟨_,(cG D).symm⟩;have z:y<xs.length:=by lia
 exact⟨xs[y],aZ z,by rw [F];exact Qs (aB z)⟩
section
variable{K:Fg}
theorem XQ:FnScope ["_law_cell","_law_k","_law_number"] ["_law_cell","_law_k"] (defScope VU):=(1:)
theorem NS(F:Fun K "_law_mixed" "_law_mixed" VU f fd):FnOk P w K mg base CX0 1 f fd ["_law_cell","_law_k"] Zt:=by
 refine F.ok XQ (λD H Q E h=>?_) (λG A outer s H D Q E J h=>?_)
 .obtain⟨c,k,rfl,_⟩:=h
  rfl
 obtain⟨c,k,rfl,M,k1,q⟩:=h;refine⟨_,(Qe (Qm (i:=2) XQ.nd rfl (5:) (Qo QI (Qo QB (pv 0) Qd) (Qo Yd Qd (Qo QI (pv 1) Qd))))
  (Qe (Qm (i:=2) XQ.nd rfl (5:) (Qo QB (Qo QI (Qo Yd (pv 2) (pv 2)) (Qo Yd Qd (pv 1))) Qd))
  (Qh (Qp (Qo QB (Qo QI (Qo QI (Qo Yd (pv 2) (pv 2)) (Qo Yd Qd (pv 1))) Qd) Qd))))),?_⟩
 try dsimp only [QC,Cx.nox]
 refine L2.let2 ?_
 intros
 refine⟨_,rfl,_,_,rfl,rfl,(by show(0:Int)<2147483647;decide),_,rfl,_,_,rfl,rfl,_,_,rfl,rfl,.inl (22:),_,_,rfl,rfl,?_⟩;dsimp only;have U:0<=c%2147483647:=bR _ (18:);have Y:c%2147483647<2147483647:=bP _ (18:);generalize Z:c%2147483647+48271*(k+1)=x;refine⟨_,rfl,_,rfl,_,_,rfl,rfl,.inl ⟨by lia,by lia⟩,_,rfl,_,_,rfl,rfl,.inl (22:),_,_,rfl,rfl,_,_,rfl,rfl,(by show(0:Int)<2147483647;decide),?_⟩;dsimp only;generalize z:(x*x+69621*k)%2147483647=y;have b0:0<=y:=by rw [<-z];exact bR _ (18:)
 have b1:y<2147483647:=by rw [<-z];exact bP _ (18:)
 refine⟨_,rfl,_,rfl,_,_,rfl,rfl,.inl ⟨by lia,by lia⟩,_,rfl,_,_,rfl,rfl,.inl (22:),_,_,rfl,rfl,_,_,rfl,rfl,_,_,rfl,rfl,(by show(0:Int)<2147483647;decide),?_⟩;exact q _ (bR _ (18:)) (bP _ (18:))
theorem OM:FnScope ["_law_cell"] ["_law_cell"] (defScope VG):=(1:)
theorem Mk(F:Fun K "_law_great" "_law_great" VG f fd):FnOk P w K mg base CX0 1 f fd ["_law_cell"] Y1:=by
 refine F.ok OM (λz H Q E h=>?_) (λD A outer s H z Q E G h=>?_)
 .obtain⟨c,rfl,_⟩:=h
  rfl
 obtain⟨c,rfl,q⟩:=h;refine⟨_,(Qh (Qp (Qo Ye (Qo QB (pv 0) (Qo QI (Qo Yd Qd (Qo Nf Qd Qd)) Qd)) (Qo Nf Qd Qd)))),?_⟩
 try dsimp only [QC,Cx.nox]
 exact⟨_,rfl,_,_,rfl,rfl,⟨by decide,by decide,by decide⟩,_,_,rfl,rfl,.inl (22:),_,_,rfl,rfl,_,_,rfl,rfl,(by show(0:Int)<2*10^59+1;decide),_,_,rfl,rfl,⟨by decide,by decide,by decide⟩,_,_,rfl,rfl,q _⟩
theorem P7:FnScope ["_law_cell","_law_number"] ["_law_cell","_law_number"] (defScope Nw):=(1:)
theorem Om(F:Fun K "_law_mark" "_law_mark" Nw f fd)(RG:Fn P w K mg base 1 "_law_great" ["_law_cell"] Y1):FnOk P w K mg base CX0 2 f fd ["_law_cell","_law_number"] VH:=by
 refine F.ok P7 (λG H Q E h=>?_) (λU A outer s H G Q E J h=>?_)
 .obtain⟨c,n,rfl,_⟩:=h
  rfl
 obtain⟨c,n,rfl,q⟩:=h;refine⟨_,(Qh (Qp (Qg Ql (QH (Qa (Qd) (Qa (Qo Ye (Qo QB (Qo Q6 (pv 1) Qd) Qd) Qd) (Qa (Qr RG J (Qa (pv 0) Qc)) Qc)))) (Qo QB (Qo Q6 (pv 1) Qd) Qd) (2:)))),?_⟩
 try dsimp only [QC,Cx.nox]
 refine⟨_,rfl,_,_,rfl,rfl,(22:),_,_,rfl,rfl,(by show(0:Int)<19;decide),_,_,rfl,rfl,_,rfl,c,rfl,λx=>⟨(by show 3<=sizeLine;decide),λl M=>?_⟩⟩;refine⟨_,rfl,_,_,rfl,rfl,(22:),_,_,rfl,rfl,(by show(0:Int)<3;decide),?_⟩;obtain⟨y,z,D⟩:=ZM (xs:=[.int 0,.int (n/2048%19-9),.int x]) (k:=3) rfl (by show 0<3;decide) (n/64);refine⟨l,_,_,y,rfl,rfl,SqL.of Qb,D,?_⟩;have g:=Qf M (.lst [.int 0,.int (n/2048%19-9),.int x]);simp only [aM,bH,bG]at z;rcases z with rfl | rfl | rfl
 .exact q _ _ g
 .exact q _ _ g
 .exact q _ _ g
end
abbrev wts(ks:List KdT):List (Addr×Str×V):=ks.map λk=>(k.1,k.2.1,V.ref k.2.2.1)
abbrev wkv(ks:List KdT):List (Key×V):=(wts ks).map λt=>((Sum.inr t.2.1:Key),t.2.2)
section
variable{K:Fg}
theorem wdA(hW:WoodAt K H wd ks):SqL K H wd ((wts ks).map λt=>V.ref t.1):=by rw [bI];exact hW.1
theorem wdB(hW:WoodAt K H wd ks):∀t∈wts ks,SqT K H t.1 [.str t.2.1,t.2.2]:=λt z=>by
 obtain⟨k,D,rfl⟩:=aT.mp z;exact(hW.2 k D).1
theorem wdC(hO:WoodOk ks):((wts ks).map λt=>t.2.1).Nodup:=by rw [bI];exact hO.nd
theorem wdD(hO:WoodOk ks):(wts ks).length<=1000:=by rw [aC];have:=hO.len;lia
end
theorem PY{H:Hp}{d:Addr}{ks:List KdT}{kind:Str}(h:H d=some (.dK (wkv ks))):DGet H d (.str kind) ((ks.find? λk=>decide (k.2.1=kind)).map λk=>V.ref k.2.2.1):=by
 have z:=DGet.k (k:=Sum.inr kind) h;have e:valV (wkv ks) (Sum.inr kind)=(ks.find? λk=>decide (k.2.1=kind)).map λk=>V.ref k.2.2.1:=by
  unfold wkv wts;rw [bI];exact UO (λk:KdT=>k.2.1) (λk=>V.ref k.2.2.1) kind ks
 rw [e]at z;exact z
theorem XZ{k:KdT}(h:H d=some (.dK (wkv ks)))(e:ks.find? (λk=>decide (k.2.1=kind))=some k):DGet H d (.str kind) (some (.ref k.2.2.1)):=by
 have z:=PY (kind:=kind) h;rw [e]at z;exact z
def UP(K:Fg):Sp:=λvs H Q _=>∃(p w lm:Addr)(v:V)(i:Nat)(name:Str)(ks:List KdT)(ms:List MdT)(m:MdT),vs=[.ref p,.int (i:Int),.str name]/\SqT K H p [.ref w,v,.ref lm]/\WoodAt K H w ks/\WoodOk ks/\ModesL K H lm ms/\ms[i]?=some m/\m.2.2.2.2.length=(Qu ks m.2.1).length/\Qu ks m.2.1≠[]/\∀v' H',Same H H'->TmO K H' v' (ruleK ks m.md name)->Q v' H'
theorem TurnOk.ne(h:TurnOk ms T){m:MdT}(e:ms[i]?=some m):Qu T.ks m.2.1≠[]:=by
 have D:m.md∈T.ms:=by rw [<-h.me];exact aT.mpr ⟨m,aN e,rfl⟩
 have:=h.ok.rf _ D;unfold ZZ at this;simp only [bD,dS]at this;intro z;have F:Qu T.ks m.md.1=[]:=z;rw [F]at this;exact this.1.1 rfl
section
variable{K:Fg}
theorem Uc:FnScope ["_law_turning_here","_law_mode","_law_name","_law_kind","_law_rules","_law_row","_law_rule_here"] ["_law_turning_here","_law_mode","_law_name"] (defScope VL):=(1:)
theorem MB(F:Fun K "_law_rule" "_law_rule" VL f fd)(G:Gm mg):FnOk P w K mg base CX0 1 f fd ["_law_turning_here","_law_mode","_law_name"] (UP K):=by
 refine F.ok Uc (13:) (λam A outer s H vs Q E hr h=>?_)
 .obtain⟨p,wd,lm,v,i,name,ks,ms,m,rfl,_⟩:=h
  rfl
 obtain⟨p,wd,lm,v,i,name,ks,ms,m,rfl,hp,hW,hO,hM,hm,al,ad,q⟩:=h;refine⟨_,(Qe (YQ (Qg Ql (Qg Qk (pv 0) Qd (2:)) (pv 1) (2:)) (Yu rfl (QR (Qt (i:=3) Uc.nd rfl (5:)) (QR (Qt (i:=4) Uc.nd rfl (5:)) ZN))))
  (Qe (QO a' rfl (MX rfl G.zip (Qa (Zh (Zp hr) (QK (Zs rfl) rfl G.dct fB (Qa (Qg Qk (pv 0) Qd (2:)) Qc)) (pv 3) (2:)) (Qa (pv 4) Qc))) (Yu rfl (QR (Qt (i:=5) Uc.nd rfl (5:)) (QR (Qt (i:=6) Uc.nd rfl (5:)) ZN)))
   (Qh (QP (Qx Yj (Qg Qk (pv 5) Qd (2:)) (pv 2) (Qy _)) (Qh (Qp (pv 6))) Qw)))
  (Qh (Qp Z8)))),?_⟩
 try dsimp only [QC,Cx.nox]
 refine L2.let2 ?_
 intros
 have ae:=aN hm;have hA:=hM.2 m ae;have af:atI (ms.map λm=>V.ref m.1) (i:Int)=some (.ref m.1):=Qs (by rw [aI,hm];rfl);obtain⟨kd,U⟩: ∃kd,ks.find? (λk=>decide (k.2.1=m.2.1))=some kd:=by
  cases e:ks.find? λk=>decide (k.2.1=m.2.1)with
  | none=>exact absurd (by unfold Qu;rw [e];rfl) ad
  | some kd=>exact⟨kd,rfl⟩
 have ac:Qu ks m.2.1=kd.2.2.2:=by unfold Qu;rw [U];rfl
 refine⟨_,rfl,p,_,2,_,rfl,rfl,hp,rfl,_,rfl,lm,_,_,_,rfl,rfl,hM.1,af,m.1,_,rfl,hA.1,rfl,_,_,rfl,_,_,rfl,rfl,?_⟩;refine⟨_,rfl,p,_,0,_,rfl,rfl,hp,rfl,wd,wts ks,rfl,wdA hW,wdB hW,wdC hO,wdD hO,λd hd=>⟨_,rfl,d,.ref kd.2.2.1,rfl,XZ Qb U,?_⟩⟩;have M:=Qf hd (.dK (wkv ks));have Z:RowsL K (upd H d (.dK (wkv ks))) kd.2.2.1 (Qu ks m.2.1):=by rw [ac];exact(hW.2 kd (gr U)).2.same M
 generalize upd H d (.dK (wkv ks))=H1 at M Z ⊢;refine⟨_,rfl,kd.2.2.1,m.2.2.1,_,m.2.2.2.1,rfl,Z.1,M.seq hA.2.1,?_⟩;have an:=hA.2.2.length;have aa:((Qu ks m.2.1).map λt=>V.ref t.1).length=(Qu ks m.2.1).length:=aC ..;refine let J_:J3:=(λj σ H'=>∃c5 c6,σ=[some (.ref p),some (.int (i:Int)),some (.str name),some (.str m.2.1),some (.ref m.2.2.1),c5,c6]/\Same H1 H'/\∀(k:Nat) r,k<j->(Qu ks m.2.1)[k]?=some r->r.2.1≠name);Gq (K:=K) (by rw [aa];lia) J_
  ⟨none,none,rfl,Same.refl _,λk r Y _=>by lia⟩ ?_ ?_ ?_
 .rintro j σ H' _ ⟨c5,c6,_,g,_⟩;exact⟨g.seq Z.1,(M.trans g).seq hA.2.1⟩
 .rintro j u v' pp σ H' hu hv ag ⟨c5,c6,rfl,g,D⟩;have J:j<(Qu ks m.2.1).length:=by
   have:=(aK.mp hu).1
   simpa using this
  have ab:j<m.2.2.2.2.length:=by lia
  obtain⟨cv,ah,ai⟩:=hA.2.2.get (aB ab);obtain rfl:cv=v':=aH (ah.symm.trans hv);obtain rfl:u=.ref (Qu ks m.2.1)[j].1:=by
   rw [aI,aB J]at hu;exact(aH hu).symm
  have gp:=Qf ag (.tup [.ref (Qu ks m.2.1)[j].1,cv]);have gg:=M.trans (g.trans gp);have aj:=(Z.2 _ (aZ J)).same (g.trans gp);refine⟨pp,_,rfl,SqT.of Qb,rfl,_,_,rfl,_,_,rfl,rfl,?_⟩;refine⟨_,rfl,_,_,0,_,rfl,rfl,aj.1,rfl,_,rfl,rfl,_,rfl,?_⟩
  by_cases he:(Qu ks m.2.1)[j].2.1=name
  .refine Wz (by rw [he]) ⟨_,rfl,q cv _ gg ?_⟩;have ef:((Qu ks m.2.1).zip m.2.2.2.2).find? (λx=>decide (x.1.2.1=name))=some ((Qu ks m.2.1)[j],m.2.2.2.2[j]):=by
    refine Ub (i:=j) (by rw [fQ];exact⟨aB J,aB ab⟩) (bW he) λk y Y e=>?_;rw [fQ]at e;exact bN (D k y.1 Y e.1)
   unfold ruleK MdT.md;rw [ef];exact ai.mono λ_ _=>gg.seqT
  .refine Wt (λz=>he (by injection z)) ⟨_,_,rfl,g.trans gp,λk r Y e=>?_⟩
   by_cases ak:k=j
   .subst ak;rw [aB J]at e;cases e;exact he
   .exact D k r (7:) e
 .rintro σ H' ⟨c5,c6,rfl,g,D⟩;refine q .non H' (M.trans g) ?_;have ef:((Qu ks m.2.1).zip m.2.2.2.2).find? (λx=>decide (x.1.2.1=name))=none:=by
   refine GO λk y e=>?_;rw [fQ]at e;have Y:=(aK.mp e.1).1;exact bN (D k y.1 (by rw [aa];exact Y) e.1)
  unfold ruleK MdT.md;rw [ef]
  rfl
end
end K27
namespace L2
open PySem PySem.Builtin PySem.Builtin.Str
theorem Gk{q:Nat}:∀(l:List Nat)(n:Nat),(∀c∈l,(reprChar q c).length<=2)->l.foldl (λn c=>n+(reprChar q c).length) n<=n+2*l.length
 | [],n,_=>by simp
 | c::r,n,h=>by
  have h1:=h c bA;have h2:=Gk r (n+(reprChar q c).length) λd hd=>h d (bC _ hd);simp only [eS,cD];lia
theorem Ou{x:PySem.Str}(h:∀c∈x.cps.toList,∀q,(reprChar q c).length<=2):(reprText x).length<=2*x.length+2:=by
 have h1:=foldl_repr_eq (reprQuote x) x.cps.toList #[reprQuote x] 0;have h2:=Gk (q:=reprQuote x) x.cps.toList 0 λc z=>h c z _;show((x.cps.foldl (λout c=>out++(reprChar (reprQuote x) c).toArray) #[reprQuote x]).push (reprQuote x)).size<=2*x.cps.size+2;rw [Array.size_push,<-Array.foldl_toList];have e1:(#[reprQuote x]:Array Nat).size=1:=rfl;have e2:x.cps.toList.length=x.cps.size:=gB;lia
theorem L8{c:Nat}(h:Unicode.isPrintable c=true)(q:Nat):(reprChar q c).length<=2:=by
 unfold reprChar;dsimp only;split
 .simp
 split
 .simp
 split
 .simp
 split
 .simp
 simp [h]
end L2
namespace K27
open PySem L2 TM TT K9 K11
theorem WB(cs:List Nat):Txt.join (S []) (cs.map λc=>S [c])=S cs:=by
 unfold Txt.join;cases cs with
 | nil=>rfl
 | cons x r=>
  have h:∀(r:List Nat)(a:List Nat),(r.map λc=>S [c]).foldl (λacc p=>acc++(S []).cps++p.cps) (S a).cps=(S (a++r)).cps:=by
   intro r
   induction r with
   | nil=>intro a;simp
   | cons y r z=>
    intro a;rw [aS,eS];have e:(S a).cps++(S []).cps++(S [y]).cps=(S (a++[y])).cps:=by simp [S]
    rw [e,z,List.append_assoc];rfl
  have:=h r [x];show(⟨(r.map λc=>S [c]).foldl (λacc p=>acc++(S []).cps++p.cps) (S [x]).cps⟩:Str)=_;rw [this];rfl
abbrev Wa:Str:=Str.ofString "abcdefghijklmnopqrstuvwxyz"
def ZY:List Nat:=[97,98,99,100,101,102,103,104,105,106,107,108,109,110,111,112,113,114,115,116,117,118,119,120,121,122]
theorem L9:Wa=S ZY:=by decide+kernel
theorem Oo:Wa.cps.toList=ZY:=by rw [L9,Ms]
theorem Gj:Str.ofString ""=S []:=by decide+kernel
def Nm(z:Str):Prop:=PyData.strOk z=true
theorem Nm.of{u:List Nat}(h:∀c∈u,c<128):Nm (S u):=by
 unfold Nm PyData.strOk;rw [Array.all_eq_true_iff_forall_mem];intro c z;have:c∈u:=by simpa [S]using z
 have:=h c this;simp;lia
theorem Mj(hi:i<26)(hj:j<26)(e:ZY.getD i 0=ZY.getD j 0):i=j:=by
 have z:ZY.Nodup:=by decide
 have h1:ZY.getD i 0=ZY[i]'hi:=by rw [eB,aB (show i<ZY.length from hi)];rfl
 have h2:ZY.getD j 0=ZY[j]'hj:=by rw [eB,aB (show j<ZY.length from hj)];rfl
 rw [h1,h2]at e;exact(gK z).mp e
theorem WY(hi:i<26):ZY.getD i 0∈ZY/\ZY[i]?=some (ZY.getD i 0):=by
 have z:i<ZY.length:=hi;have e:ZY.getD i 0=ZY[i]:=by rw [eB,aB z];rfl
 rw [e];exact⟨aZ z,aB z⟩
theorem VC:∀c∈ZY,c<128:=by decide
def code(j:Nat):Nat:=ZY.getD j 0
abbrev Pa(K:Fg):V->List V->Hp->VK->Prop:=λx vs H Q=>∃(sep:Str)(l:Addr)(ss:List Str),x=.str sep/\vs=[.ref l]/\SqL K H l (ss.map V.str)/\(ss.map (·.length)).sum+ss.length*sep.length<=16777216/\Q (.str (Txt.join sep ss)) H
abbrev NV(bs:List Nat):List V:=bs.map λ(b:Nat)=>V.int (b:Int)
theorem Px{X:Cx}{K:Fg}{o e:Expr}{es:List Expr}{to:TE}{t:TA}{name:Str}{apos cpos:Pos}{T id:String}{r:V->List V->Hp->VK->Prop}(hK:X.K=K)(pa:PlainAttrs T)(slot:Slot T name id)(hty:typeOf (.builtin id)=pure (.type "method_descriptor"))(hm:MtR X id r)(ho:PE X o to)(ha:PA X (e::es) t)
 (hbase:attributeBase o name X.env (eval o X.env)=eval o X.env:=by rfl)
 (hfew:((backTo cpos (starEach (e::es) X.env)).all (λx=>!x.1)&&(backToKw cpos (keywordEach [] X.env)).all (λx=>x.1.isSome)
  &&decide ((e::es).length+([]:List Keyword).length+(if([]:List Keyword).isEmpty then 0 else 1)<30))=true:=by rfl)
 (hline:(apos.endLine==cpos.line)=true:=by rfl) (hs:starEach (e::es) X.env=(false,eval e X.env)::starEach es X.env:=by rfl) (hplain:(backTo cpos (starEach es X.env)).any (·.1)=false:=by rfl):
 PE X (.Call (.Attribute o name apos) (e::es) [] cpos) (tBM K T r to t):=by
 subst hK;exact ZJ pa slot hty hm ho ha hbase hfew hline hs hplain
theorem M3{X:Cx}{K:Fg}{tg l:Expr}{tl:TE}(hK:X.K=K)(hl:PE X l tl):PI X tg l (Pg K tl):=by
 subst hK;exact Q1 hl
theorem Xc{α:Type}(g:Nat->α)(n:Nat)(h:∀i j,i<n->j<n->g i=g j->i=j):((List.range n).map g).Nodup:=by
 rw [List.Nodup,List.pairwise_map];refine(List.nodup_range (n:=n)).imp_of_mem λ{a b} D F z e=>z (h a b (eW.mp D) (eW.mp F) e)
theorem GL{bs:List Nat}(h:∀b∈bs,b<26):PyData.strOk (S (bs.map code))=true:=Nm.of λc z=>by
 obtain⟨b,D,rfl⟩:=aT.mp z;exact VC _ (WY (h b D)).1
theorem UV{cs:List Nat}(h:cs.length<=8):((cs.map λc=>S [c]).map (·.length)).sum+(cs.map λc=>S [c]).length*(S []).length<=16777216:=by
 have e:((cs.map λc=>S [c]).map (·.length))=cs.map λ_=>1:=by
  rw [bI];exact List.map_congr_left λc _=>by simp [V8]
 have e2:(cs.map λ_=>1).sum=cs.length:=by
  clear e h
  induction cs with
  | nil=>rfl
  | cons x r z=>rw [aS,eZ,z,cD];lia
 rw [e,e2,V8];simp only [List.length_nil,Nat.mul_zero];lia
theorem P6{y:Nat}(hy:y<26):atI Wa.cps.toList ((y:Nat):Int)=some (code y):=by rw [Oo];exact Qs (WY hy).2
def LN(z:Str):Prop:=∃bs:List Nat,z=S (bs.map code)/\bs.length<=8/\∀b∈bs,b<26
theorem WU:∀b,b<26->Unicode.isPrintable (code b)=true:=by decide+kernel
theorem LN.rep{z:Str}(h:LN z):(reprText z).length<=1000:=by
 obtain⟨bs,rfl,M,G⟩:=h;have h1:=Ou (x:=S (bs.map code)) λc J q=>by
  have D:c∈bs.map code:=by simpa [S]using J
  obtain⟨b,F,rfl⟩:=aT.mp D;exact L8 (WU b (G b F)) q
 rw [V8,aC]at h1;lia
def XJ(K:Fg):Sp:=λvs H Q _=>∃c:Int,vs=[.int c]/\∀(l:Addr)(H':Hp)(ns:List Str),Same H H'->H' l=some (.lst (ns.map V.str))->ns.length=8->ns.Nodup->(∀n∈ns,PyData.strOk n=true)->(∀n∈ns,LN n)->Q (.ref l) H'
section
variable{K:Fg}
theorem ZQ:FnScope ["_law_cell","_law_letters","_law_base","_law_width","_law_spot","_law_names_here","_law_k","_law_moved"] ["_law_cell"] (defScope Vq):=(1:)
theorem No(F:Fun K "_law_names" "_law_names" Vq f fd)(G:Gm mg)(RM:Fn P w K mg base 1 "_law_mixed" ["_law_cell","_law_k"] Zt):FnOk P w K mg base CX0 2 f fd ["_law_cell"] (XJ K):=by
 refine F.ok ZQ (13:) (λa1 A outer s H vs Q E hr h=>?_)
 .obtain⟨c,rfl,_⟩:=h
  rfl
 obtain⟨c,rfl,q⟩:=h;refine⟨_,(Qe (Qm (i:=1) ZQ.nd rfl (bY rfl) Zi)
  (Qe (Qm (i:=2) ZQ.nd rfl (bY rfl) (QU (CompG.many (xs:=["_law_j"]) (caps:=["_law_cell"]) (cap:=[0]) (cs:=[_]) rfl rfl (0:) (0:) (0:) (0:) (0:) (0:) rfl rfl rfl) rfl (QN rfl G.rng (Qa (Qd) Qc)) (Zm (CompG.many (xs:=["_law_j"]) (caps:=["_law_cell"]) (cap:=[0]) (cs:=[_]) rfl rfl (0:) (0:) (0:) (0:) (0:) (0:) rfl rfl rfl)) (λ_ _ _ _=>Q5) (λ_ _ _ _=>Qo (r:=rI (λ_ j=>0<j) λi j=>.int (i%j)) QB (Qr RM hr (Qa (pv 1) (Qa (pv 0) Qc))) Qd)))
  (Qe (QP (Qx Yj (Qo QB (Qo Q6 (pv 0) Qd) Qd) Qd (Qy _)) (Qh (Qp (QU (CompG.many (xs:=["_law_k"]) (caps:=["_law_base","_law_letters"]) (cap:=[2,1]) (cs:=[_,_]) rfl rfl (0:) (0:) (0:) (0:) (0:) (0:) rfl rfl rfl) rfl (QN rfl G.rng (Qa (Qd) Qc)) (Zm (CompG.many (xs:=["_law_k"]) (caps:=["_law_base","_law_letters"]) (cap:=[2,1]) (cs:=[_,_]) rfl rfl (0:) (0:) (0:) (0:) (0:) (0:) rfl rfl rfl)) (λ_ _ _ _=>Q5)
   (λ_ _ _ _=>Px (K:=K) (r:=Pa K) rfl PySem.F.plainAttrs_str PySem.F.slot_str_join PySem.F.type_str_join GK Zi (Qa (QU (CompG.many (xs:=["_law_j"]) (caps:=["_law_letters"]) (cap:=[2]) (cs:=[_]) rfl rfl (0:) (0:) (0:) (0:) (0:) (0:) rfl rfl rfl) rfl (M3 (K:=K) rfl (Z0 (r:=So K) Y9 (pv 1) UM (ZP (Qo (r:=rI0 λi j=>.int (i+j)) QI (pv 0) Qd)))) (Zm (CompG.many (xs:=["_law_j"]) (caps:=["_law_letters"]) (cap:=[2]) (cs:=[_]) rfl rfl (0:) (0:) (0:) (0:) (0:) (0:) rfl rfl rfl)) (λ_ _ _ _=>Q5) (λ_ _ _ _=>Qg Nv (pv 1) (pv 0) (2:))) Qc))))) Qw)
  (Qe (Qm (i:=3) ZQ.nd rfl (5:) (Qo QI Qd (Qo QB (pv 0) Qd)))
  (Qe (Qm (i:=4) ZQ.nd rfl (5:) (Qo QB (Qo Q6 (pv 0) Qd) (pv 3)))
  (Qe (Qm (i:=5) ZQ.nd rfl (5:) (QH Qc))
  (Qe (QO a' rfl (QN rfl G.rng (Qa (Qd) Qc)) (Qt (i:=6) ZQ.nd rfl (5:)) (Qe (Qm (i:=7) ZQ.nd rfl (5:) (Z0 Y9 (pv 2) UM (ZP (pv 3))))
  (Qe (YQ (Qo QB (Qo QI (Qg Ql (pv 7) (pv 4) (2:)) (pv 6)) Qd) (X5 (pv 7) (pv 4) Uh))
  (Qh (QS (ZJ cN dM dN Q4 (pv 5) (Qa (ZJ (r:=Pa K) PySem.F.plainAttrs_str PySem.F.slot_str_join PySem.F.type_str_join GK Zi (Qa (QU (CompG.many (xs:=["_law_j"]) (caps:=["_law_letters"]) (cap:=[1]) (cs:=[_]) rfl rfl (0:) (0:) (0:) (0:) (0:) (0:) rfl rfl rfl) rfl (Q1 (pv 7)) (Zm (CompG.many (xs:=["_law_j"]) (caps:=["_law_letters"]) (cap:=[1]) (cs:=[_]) rfl rfl (0:) (0:) (0:) (0:) (0:) (0:) rfl rfl rfl)) (λ_ _ _ _=>Q5) (λ_ _ _ _=>Qg Nv (pv 1) (pv 0) (2:))) Qc)) Qc)))))))
  (Qh (Qp (pv 5)))))))))),?_⟩
 try dsimp only [QC,Cx.nox]
 refine L2.let7 ?_
 intros
 have eL:Str.ofString "abcdefghijklmnopqrstuvwxyz"=Wa:=rfl;refine⟨8,rfl,by decide,by decide,λlb am=>?_⟩;refine let J_:JC:=(λj ys H'=>∃bs:List Nat,ys=NV bs/\bs.length=j/\(∀b∈bs,b<26)/\H' lb=some (.lst ys)/\Same H H');Z2 (lo:=0) (n:=8) (cs:=[some (.int c)]) (tt:=λ_ H Q=>Q true H) J_
  ⟨[],rfl,rfl,λb hb=>(nomatch hb),Qb,Qf am _⟩ ?_ ?_
 .rintro j ys H' hj ⟨bs,rfl,an,U,M,g⟩;refine Zd ⟨_,rfl,_,rfl,c,0+(j:Int),rfl,by lia,by lia,λx x0 x1=>⟨_,_,rfl,rfl,(by show(0:Int)<26;decide),?_⟩⟩;have y0:0<=x%26:=bR _ (18:);have y1:x%26<26:=bP _ (18:);refine Qz hj M (by rw [aC];lia) ⟨bs++[(x%26).toNat],?_,by rw [bE,bO,an],λb hb=>?_,Qb,λz u e=>?_⟩
  .unfold NV;rw [aR];show _++[V.int (x%26)]=_++[V.int (((x%26).toNat:Nat):Int)];rw [cG y0]
  .rcases a_.mp hb with hb | hb
   .exact U b hb
   .have:b=(x%26).toNat:=by simpa using hb
    rw [this];lia
  .rw [Qi (Qj e am)];exact g _ _ e
 rintro ys H1 ⟨bs,rfl,an,U,ah,g1⟩;have ai:∀(us:List Nat)(Y lu:Addr)(Hx:Hp)(R:Hp->Prop),Hx Y=none->Hx lu=some (.lst (NV us))->us.length<=8->(∀b∈us,b<26)->
  (∀H',Same Hx H'->H' Y=some (.lst (((us.map code).map λc=>S [c]).map V.str))->R H')->Jx (Itl K lu) 1 [some (.str Wa)] (Zz 0) (λ_ H Q=>Q true H) (tOp R9 (ZL 1) (ZL 0)) Hx Y R:=by
  intro us Y lu Hx R h2 hu a2 ao hR;have a3:lu≠Y:=λz=>by rw [z,h2]at hu;cases hu
  refine let J_:JC:=(λm ys H'=>ys=(((us.take m).map code).map λc=>S [c]).map V.str/\H' Y=some (.lst ys)/\Same Hx H');ZD (K:=K) (xs:=NV us) (cs:=[some (.str Wa)]) J_
   ⟨rfl,Qb,Qf h2 _⟩ ?_ ?_ ?_
  .rintro m ys H' _ ⟨_,_,g⟩;exact SqL.of (g _ _ hu)
  .rintro m x ys H' hm Z ⟨rfl,M,g⟩;have ab:m<us.length:=by simpa using hm
   obtain rfl:x=.int ((us[m]:Nat):Int):=by
    rw [aI,aB ab]at Z;exact(aH Z).symm
   have ar:=ao _ (aZ ab);refine Zd ⟨_,rfl,_,rfl,Wa,_,_,rfl,rfl,(by rw [L9,V8];exact Zg (18:)),P6 ar,?_⟩;refine Qz hm M (by simp only [aC,cA];lia) ⟨?_,Qb,λz u e=>?_⟩
   .rw [b_,aB ab];simp only [Option.toList_some,aR,aS,gq]
    rfl
   .rw [Qi (Qj e h2)];exact g _ _ e
  .rintro ys H' ⟨rfl,M,g⟩;rw [aC,List.take_length]at M;exact hR H' g M
 refine⟨_,rfl,_,_,rfl,rfl,(22:),_,_,rfl,rfl,(by show(0:Int)<4;decide),rfl,_,rfl,Z6 (λ_=>?_) (λ_=>?_)⟩
 .refine⟨8,rfl,by decide,by decide,λln ac=>?_⟩;refine let J_:JC:=(λj ys H'=>ys=((List.range j).map λk=>S ((bs.take (k+1)).map code)).map V.str/\H' ln=some (.lst ys)/\Same H1 H');Z2 (lo:=0) (n:=8) (cs:=[some (.ref lb),some (.str Wa)]) (tt:=λ_ H Q=>Q true H) J_
   ⟨rfl,Qb,Qf ac _⟩ ?_ ?_
  .rintro j ys H' hj ⟨rfl,M,g⟩;refine Zd ⟨rfl,_,rfl,_,rfl,_,_,rfl,rfl,_,rfl,lb,_,rfl,SqL.of (g _ _ ah),λps as=>⟨ps,rfl,⟨_,SqL.of Qb⟩,λY aj=>?_⟩⟩;have ae:cutV (NV bs) none (some (0+(j:Int)+1))=NV (bs.take (j+1)):=by
    rw [show(0:Int)+(j:Int)+1=((j+1:Nat):Int)by lia,Gu];unfold NV;rw [List.map_take]
   have kp:=Qf as (.lst (cutV (NV bs) none (some (0+(j:Int)+1))));refine ai (bs.take (j+1)) Y ps _ _ aj (by rw [<-ae];exact Qb) (by rw [cA];lia) (λb hb=>U b (fV hb)) λH3 g3 h3=>?_;have k3:=kp.trans g3;refine⟨S [],Y,_,by rw [<-Gj],rfl,SqL.of h3,UV (by rw [aC,cA];lia),?_⟩;rw [WB];refine Qz hj (k3 _ _ M) (by simp only [aC,List.length_range];lia) ⟨?_,Qb,λz u e=>?_⟩
   .rw [List.range_succ,aR,aR];rfl
   .rw [Qi (Qj e ac)];exact k3 _ _ (g _ _ e)
  .rintro ys H' ⟨rfl,M,g⟩;refine q ln H' _ (g1.trans g) M (14:) (Xc _ 8 λi j hi hj e=>?_) (λx Z=>?_) λx Z=>?_
   .have:=congrArg List.length (Pi e);simp only [aC,cA]at this;lia
   .obtain⟨k,_,rfl⟩:=aT.mp Z;exact GL λb hb=>U b (fV hb)
   .obtain⟨k,_,rfl⟩:=aT.mp Z;exact⟨_,rfl,by rw [cA];lia,λb hb=>U b (fV hb)⟩
 have w0:0<=c%8:=bR _ (18:);have w1:c%8<8:=bP _ (18:);refine⟨_,rfl,_,_,rfl,rfl,(by show(0:Int)<8;decide),_,_,rfl,rfl,?_⟩;dsimp only;obtain⟨J,au⟩: ∃J:Nat,1+c%8=(J:Int):=⟨(1+c%8).toNat,by lia⟩;rw [au];have ax:0<J:=by lia
 have ay:J<=8:=by lia
 refine⟨_,rfl,_,_,rfl,rfl,(22:),_,rfl,_,_,rfl,rfl,(by show(0:Int)<(J:Int);lia),?_⟩;dsimp only;have s0:0<=c/8%(J:Int):=bR _ (7:);have s1:c/8%(J:Int)<(J:Int):=bP _ (7:);obtain⟨sp,av⟩: ∃sp:Nat,c/8%(J:Int)=(sp:Int):=⟨(c/8%(J:Int)).toNat,by lia⟩;rw [av];have az:sp<J:=by lia
 obtain⟨D,ak⟩: ∃D,D=bs.take J:=⟨_,rfl⟩;have a0:D.length=J:=by rw [ak,cA];lia
 have aa:∀b∈D,b<26:=λb hb=>U b (fV (by rw [<-ak];exact hb));have af:sp<D.length:=by lia
 refine⟨(21:),λln ac=>?_⟩;refine⟨8,rfl,by decide,by decide,?_⟩;refine let J_:J3:=(λj σ H'=>∃c6 c7:Option V,σ=[some (.int c),some (.str Wa),some (.ref lb),some (.int (J:Int)),some (.int (sp:Int)),some (.ref ln),c6,c7]/\Same H1 H'/\H' ln=some (.lst (((List.range j).map λk=>S ((D.set sp ((D[sp]+k)%26)).map code)).map V.str)));Zc (lo:=0) (n:=8) J_
  ⟨none,none,rfl,Qf ac _,Qb⟩ ?_ ?_
 .rintro j σ H' hj ⟨c6,c7,rfl,g,M⟩;refine⟨_,rfl,_,rfl,_,rfl,lb,_,rfl,SqL.of (g _ _ ah),λlm ad=>?_⟩;have ae:cutV (NV bs) none (some (J:Int))=NV D:=by rw [Gu,ak];unfold NV;rw [List.map_take]
  have km:=Qf ad (.lst (cutV (NV bs) none (some (J:Int))));have ag:upd H' lm (.lst (cutV (NV bs) none (some (J:Int)))) lm=some (.lst (NV D)):=by rw [<-ae];exact Qb
  have ap:ln≠lm:=λz=>by rw [<-z,M]at ad;cases ad
  generalize upd H' lm (.lst (cutV (NV bs) none (some (J:Int))))=H2 at km ag;have aw:atI (NV D) (sp:Int)=some (.int ((D[sp]:Nat):Int)):=Qs (by rw [aI,aB af];rfl);refine⟨_,rfl,_,rfl,lm,_,_,_,rfl,rfl,SqL.of ag,aw,_,rfl,_,_,rfl,rfl,_,_,rfl,rfl,(by show(0:Int)<26;decide),_,rfl,_,rfl,lm,NV D,(sp:Int),sp,rfl,rfl,ag,XW (by rw [aC];exact af),?_⟩;have aq:(NV D).set sp (.int ((((D[sp]:Nat):Int)+(0+(j:Int)))%26))=NV (D.set sp ((D[sp]+j)%26)):=by
   unfold NV;rw [List.map_set]
   congr 2
   lia
  rw [aq];have al:upd H2 lm (.lst (NV (D.set sp ((D[sp]+j)%26)))) ln=some (.lst (((List.range j).map λk=>S ((D.set sp ((D[sp]+k)%26)).map code)).map V.str)):=by rw [Qi ap];exact km _ _ M
  refine⟨_,rfl,.inl ⟨rfl,_,SqL.of al⟩,rfl,_,rfl,lm,rfl,⟨_,SqL.of Qb⟩,λY aj=>?_⟩;have ab:∀b∈D.set sp ((D[sp]+j)%26),b<26:=λb hb=>by
   rcases hZ hb with hb | hb
   .exact aa b hb
   .rw [hb];exact Nat.mod_lt _ (18:)
  refine ai _ Y lm _ _ aj Qb (by rw [bQ];lia) ab λH4 g4 h4=>?_;refine⟨S [],Y,_,by rw [<-Gj],rfl,SqL.of h4,UV (by rw [aC,bQ];lia),?_⟩;rw [WB];refine⟨ln,_,_,rfl,rfl,g4 _ _ al,by simp only [aC,List.length_range,QL];lia,_,_,rfl,λz u e=>?_,?_⟩
  .rw [Qi (Qj e ac)];refine g4 _ _ ?_;have hz:z≠lm:=λy=>by rw [y]at e;rw [g _ _ e]at ad;cases ad
   rw [Qi hz];exact km _ _ (g _ _ e)
  .rw [Qb,List.range_succ,aR,aR];rfl
 .rintro σ H' ⟨c6,c7,rfl,g,M⟩;refine⟨_,rfl,q ln H' _ (g1.trans g) M (14:) (Xc _ 8 λi j hi hj e=>?_) (λx Z=>?_) λx Z=>?_⟩
  .have e2:=congrArg (λl=>l[sp]?) (Pi e);simp only [aI,List.getElem?_set_self af,eI]at e2;have e3:=Mj (Nat.mod_lt _ (18:)) (Nat.mod_lt _ (18:)) (aH e2);lia
  .obtain⟨k,_,rfl⟩:=aT.mp Z;refine GL λb hb=>?_;rcases hZ hb with hb | hb
   .exact aa b hb
   .rw [hb];exact Nat.mod_lt _ (18:)
  .obtain⟨k,_,rfl⟩:=aT.mp Z;refine⟨_,rfl,by rw [bQ];lia,λb hb=>?_⟩;rcases hZ hb with hb | hb
   .exact aa b hb
   .rw [hb];exact Nat.mod_lt _ (18:)
end
abbrev PI'(p:List Int):List V:=p.map V.int
abbrev Rf(ts:List (Addr×List Int)):List V:=ts.map λt=>V.ref t.1
def TsAt(K:Fg)(H:Hp)(ts:List (Addr×List Int)):Prop:=∀t∈ts,SqT K H t.1 (PI' t.2)
theorem TsAt.mono{K:Fg}{ts:List (Addr×List Int)}(h:TsAt K H ts)(k:∀a xs,SqT K H a xs->SqT K H' a xs):TsAt K H' ts:=λt z=>k _ _ (h t z)
theorem TsAt.app{K:Fg}{ts us:List (Addr×List Int)}(h:TsAt K H ts)(k:TsAt K H us):TsAt K H (ts++us):=λt D=>by
 rcases a_.mp D with z | z
 .exact h t z
 .exact k t z
def datP(ps:List (List Int)):PyData:=.list (ps.map λp=>.tuple (p.map .int))
theorem SR{K:Fg}:∀{ts:List (Addr×List Int)},TsAt K H ts->RdAll K H (Rf ts) ((ts.map (·.2)).map λp=>.tuple (p.map .int))
 | [],_=>.nil
 | t::r,h=>.cons (.tup (h t bA) (X3 _)) (SR λu z=>h u (bC _ z))
theorem Pb:∀ps:List (List Int),(datP ps).canLay0=true
 | []=>by simp [datP,PyData.canLay0,PyData.canLayAll0]
 | p::r=>by
  have:=Pb r;simp only [datP,PyData.canLay0]at this;simp only [datP,PyData.canLay0,aS,PyData.canLayAll0,Jh,this,eJ]
theorem MW{mk ks:List Str}{y:Str}(h:mk[i]?=some x)(k:ks[j]?=some y):YV mk ks ((i:Int),(j:Int))=decide (x=y):=by
 have hi:=(aK.mp h).1;have D:=(aK.mp k).1;unfold YV;have e1:(0:Int)<=(i:Int):=by lia
 have e2:(i:Int)<(mk.length:Int):=by lia
 have e3:(0:Int)<=(j:Int):=by lia
 have z:(j:Int)<(ks.length:Int):=by lia
 simp only [e1,e2,e3,z,decide_true,Bool.true_and,bF,h,k]
 by_cases e:x=y<;>simp [e]
theorem NA{d:Nat}:∀{ts:List Tm},(∀t∈ts,TM.lv t<=d)->lvs ts<=d
 | [],_=>by simp [lvs]
 | t::r,h=>by
  have h1:=h t bA;have h2:=NA λu z=>h u (bC _ z);simp only [lvs];lia
theorem Wj{c:Int×Int}:∀{ts:List Tm},c∈Zn ts->∃t∈ts,c∈cls t
 | [],h=>by simp [Zn]at h
 | t::r,h=>by
  simp only [Zn]at h;rcases a_.mp h with h | h
  .exact⟨t,bA,h⟩
  .obtain⟨u,z,D⟩:=Wj h;exact⟨u,bC _ z,D⟩
theorem Nc{s:Nat}:∀{ts:List Tm},(∀t∈ts,TM.sz t<=s)->szs ts<=ts.length*s
 | [],_=>by simp [szs]
 | t::r,h=>by
  have h1:=h t bA;have h2:=Nc λu z=>h u (bC _ z);simp only [szs,cD,Nat.add_mul,Nat.one_mul];lia
theorem MA(ps:List (List Int)):PyData.eqv (datP ps) (.list [])=ps.isEmpty:=by
 cases ps<;>simp [datP,PyData.eqv,PyData.eqvAll]
theorem Ss{r1 r2:R2}(h1:IxR X r1)(h2:IxR X r2):IxR X (λx y H Q=>r1 x y H Q\/r2 x y H Q):=by
 intro value z pins s σ H x y v u Q I D F h G;rcases h with h | h
 .exact h1 value z pins s σ H x y v u Q I D F h G
 .exact h2 value z pins s σ H x y v u Q I D F h G
abbrev O5(K:Fg):R2:=λx y H Q=>Uj K x y H Q\/Lp K x y H Q
structure TF(own kinds:List Str)(d:Nat)(t:Tm):Prop where
 lv:TM.lv t<=d
 sz:TM.sz t<=3^d
 mok:MOk (2*d) t
 fit:Ys own kinds t=true
theorem ON{b:Int}{d:Nat}(h:YV own kinds (m,b)=true):TF own kinds (d+1) (ZH m b):=by
 refine⟨by simp [ZH,TM.lv,lvs],?_,(OH m b 0 []).mono (7:),?_⟩
 .simp only [ZH,TM.sz,szs];have:=Nat.pow_pos (n:=d+1) (show 0<3 by decide);lia
 .unfold Ys;simp [ZH,cls,lcl,Zn,h]
theorem Rh{d:Nat}{nm:Str}{k:Bool}{ad:Int}{ts:List Tm}(hn:PyData.strOk nm=true)(hl:ts.length<=2)(h:∀t∈ts,TF own kinds d t):TF own kinds (d+1) (.node (.put nm k ad) 0 ts):=by
 refine⟨?_,?_,(Ro hn λt z=>(h t z).mok).mono (7:),?_⟩
 .simp only [TM.lv];have:=NA λt z=>(h t z).lv;lia
 .simp only [TM.sz];have h1:=Nc λt z=>(h t z).sz;have h2:ts.length*3^d<=2*3^d:=Nat.mul_le_mul_right _ hl;have F:0<3^d:=Nat.pow_pos (18:);rw [Nat.pow_succ];lia
 .unfold Ys;rw [dX];intro c D;simp only [cls,lcl,fJ]at D;obtain⟨t,z,D⟩:=Wj D;have:=(h t z).fit;unfold Ys at this;exact dX.mp this c D
def Wb(K:Fg):Sp:=λvs H Q _=>∃(pb lo:Addr)(kinds own:List Str),vs=[.ref pb,.ref lo]/\(SqT K H pb (kinds.map V.str)\/SqL K H pb (kinds.map V.str))/\SqL K H lo (own.map V.str)/\kinds.length<=4/\own.length<=4/\
 ∀(l:Addr)(H':Hp)(ts:List (Addr×List Int)),Same H H'->H' l=some (.lst (Rf ts))->TsAt K H' ts->(∀t∈ts,∃m b,t.2=[m,b]/\YV own kinds (m,b)=true)->ts.length<=16->Q (.ref l) H'
def YW(K:Fg)(n:Nat):Sp:=λvs H Q _=>∃(c k:Int)(d:Nat)(lc ln:Addr)(keep:Bool)(ts:List (Addr×List Int))(ns own kinds:List Str),d+1=n/\d<=2/\vs=[.int c,.int k,.int (d:Int),.ref lc,.ref ln,.bl keep]/\0<=k/\k*10^d<=10000/\SqL K H lc (Rf ts)/\TsAt K H ts/\(∀t∈ts,∃m b,t.2=[m,b]/\YV own kinds (m,b)=true)/\ts.length<=16/\SqL K H ln (ns.map V.str)/\ns.length=8/\(∀x∈ns,PyData.strOk x=true)/\
 ∀(v:V)(H':Hp)(t:Tm),Same H H'->TmV K H' v t->TF own kinds n t->Q v H'
section
variable{K:Fg}
theorem We:FnScope ["_law_branches","_law_owners","_law_calls_here","_law_branch"] ["_law_branches","_law_owners"] (defScope VT):=(1:)
theorem LU(F:Fun K "_law_calls" "_law_calls" VT f fd)(G:Gm mg):FnOk P w K mg base CX0 1 f fd ["_law_branches","_law_owners"] (Wb K):=by
 refine F.ok We (13:) (λap A outer s H vs Q E hr h=>?_)
 .obtain⟨J,lo,D,own,rfl,_⟩:=h
  rfl
 obtain⟨J,lo,D,own,rfl,al,aj,aq,ar,q⟩:=h;refine⟨_,(Qe (Qm (i:=2) We.nd rfl (5:) (QH Qc))
  (Qe (QO a' rfl (QN rfl G.rng (Qa (Qq Qn rfl G.len aX (Qa (pv 0) Qc)) Qc)) (Qt (i:=3) We.nd rfl (bY rfl)) (Qh
   (QS (ZJ cN PySem.F.slot_list_extend PySem.F.type_list_extend JX (pv 2) (Qa (QU (CompG.many (xs:=["_law_mode"]) (caps:=["_law_branch","_law_branches","_law_owners"]) (cap:=[3,0,1]) (cs:=[_,_,_]) rfl rfl (0:) (0:) (0:) (0:) (0:) (0:) rfl rfl rfl) rfl (QN rfl G.rng (Qa (Qq Qn rfl G.len aX (Qa (pv 1) Qc)) Qc)) (Zm (CompG.many (xs:=["_law_mode"]) (caps:=["_law_branch","_law_branches","_law_owners"]) (cap:=[3,0,1]) (cs:=[_,_,_]) rfl rfl (0:) (0:) (0:) (0:) (0:) (0:) rfl rfl rfl)) (λ_ _ _ _=>Vi (Qx (r:=rEq) Yj (Qg (r:=Uj K) Ql (pv 3) (pv 0) (2:)) (Qg (r:=O5 K) (Ss Ql Qk) (pv 2) (pv 1) (2:)) (Qy _))) (λ_ _ _ _=>(QE (Qa (pv 0) (Qa (pv 1) Qc))))) Qc)))))
  (Qh (Qp (pv 2))))),?_⟩
 try dsimp only [QC,Cx.nox]
 refine L2.let2 ?_
 intros
 refine⟨(21:),λl hl=>?_⟩;have g0:=Qf hl (.lst []);have ad:(D.map V.str).length=D.length:=aC ..;have ae:(own.map V.str).length=own.length:=aC ..;have af:∀H',Same H H'->(SqL K H' J (D.map V.str)\/SqT K H' J (D.map V.str)):=λH' g=>al.elim (λh=>.inr (g.seqT h)) λh=>.inl (g.seq h);refine⟨_,rfl,J,_,rfl,af _ g0,_,rfl,by rw [ad];lia,by rw [ad];lia,?_⟩;have en:(((D.map V.str).length:Nat):Int).toNat=D.length:=by rw [ad];lia
 have am:(((own.map V.str).length:Nat):Int).toNat=own.length:=by rw [ae];lia
 rw [en];refine let J_:J3:=(λi σ H'=>∃(c3:Option V)(Y:List (Addr×List Int)),σ=[some (.ref J),some (.ref lo),some (.ref l),c3]/\Same H H'/\H' l=some (.lst (Rf Y))/\TsAt K H' Y/\(∀t∈Y,∃m b,t.2=[m,b]/\YV own D (m,b)=true)/\Y.length<=4*i);Zc (lo:=0) (n:=D.length) J_
  ⟨none,[],rfl,g0,Qb,λt ht=>(nomatch ht),λt ht=>(nomatch ht),bK _⟩ ?_ ?_
 .rintro i σ H1 hi ⟨c3,Y,rfl,g1,Z,ag,aa,an⟩;refine⟨_,rfl,.inl ⟨rfl,_,SqL.of Z⟩,_,rfl,lo,_,rfl,.inl (g1.seq aj),_,rfl,by rw [ae];lia,by rw [ae];lia,λacc M=>?_⟩;rw [am];have as:l≠acc:=λz=>by rw [<-z,Z]at M;cases M
  refine let J_:JC:=(λj ys H'=>∃U:List (Addr×List Int),ys=Rf U/\H' acc=some (.lst ys)/\Same H1 H'/\TsAt K H' U/\(∀t∈U,∃m b,t.2=[m,b]/\YV own D (m,b)=true)/\U.length<=j);Z2 (lo:=0) (n:=own.length) (cs:=[some (.int (0+(i:Int))),some (.ref J),some (.ref lo)]) (te:=Pl (Zu (ZL 0) (Zu (ZL 1) Vf))) J_
   ⟨[],rfl,Qb,Qf M _,λt ht=>(nomatch ht),λt ht=>(nomatch ht),bB _⟩ ?_ ?_
  .rintro j ys H2 hj ⟨U,rfl,hy,g2,ab,ac,ao⟩;have ej:(0:Int)+(j:Int)=(j:Int):=by lia
   have ei:(0:Int)+(i:Int)=(i:Int):=by lia
   rw [ej,ei];have ak:atI (own.map V.str) (j:Int)=some (.str own[j]):=Qs (by rw [aI,aB hj];rfl);have ah:atI (D.map V.str) (i:Int)=some (.str D[i]):=Qs (by rw [aI,aB hi];rfl);have au:O5 K (.ref J) (.int (i:Int)) H2=O5 K (.ref J) (.int (i:Int)) H2:=rfl;have gg:=g1.trans g2;refine⟨_,rfl,_,rfl,lo,_,_,_,rfl,rfl,gg.seq aj,ak,_,rfl,_,rfl,?_⟩;have key:∀R:VK,R (.str D[i]) H2->O5 K (.ref J) (.int (i:Int)) H2 R:=λR hR=>by
    rcases af _ gg with h | h
    .exact .inl ⟨J,_,_,_,rfl,rfl,h,ah,hR⟩
    .exact .inr ⟨J,_,_,_,rfl,rfl,h,ah,hR⟩
   refine key _ ⟨rfl,_,rfl,?_⟩
   by_cases he:own[j]=D[i]
   .refine Wz (by rw [he]) ⟨_,rfl,_,rfl,(by show 2<=sizeLine;decide),λp hp=>?_⟩;have kp:=Qf hp (.tup [.int (j:Int),.int (i:Int)]);refine Qz hj (kp _ _ hy) (by rw [aC];lia) ⟨U++[(p,[(j:Int),(i:Int)])],by unfold Rf;rw [aR];rfl,Qb,λz u e=>?_,?_,λt ht=>?_,by rw [bE,bO];lia⟩
    .rw [Qi (Qj e M)];exact kp _ _ (g2 _ _ e)
    .refine TsAt.app (ab.mono λ_ _ h=>(kp.seqT h).put (kp _ _ hy)) λt ht=>?_;have:t=(p,[(j:Int),(i:Int)]):=by simpa using ht
     rw [this];exact SqT.put (SqT.of Qb) (kp _ _ hy)
    .rcases a_.mp ht with ht | ht
     .exact ac t ht
     .have:t=(p,[(j:Int),(i:Int)]):=by simpa using ht
      rw [this];exact⟨_,_,rfl,by rw [MW (aB hj) (aB hi)];exact bW he⟩
   .exact Wt (λz=>he (by injection z)) (YL hj ⟨U,rfl,hy,g2,ab,ac,by lia⟩)
  .rintro ys H2 ⟨U,rfl,hy,g2,ab,ac,ao⟩;have ai:=g2 _ _ Z;refine⟨l,acc,_,_,rfl,rfl,ai,hy,by rw [aC,aC,QL];lia,?_⟩;refine⟨_,Y++U,rfl,λz u e=>?_,by rw [Qb,Rf,Rf,Rf,aR],?_,λt ht=>?_,by rw [bE];lia⟩
   .rw [Qi (Qj e hl)];exact g2 _ _ (g1 _ _ e)
   .exact(ag.mono λ_ _ h=>(g2.seqT h).put ai).app (ab.mono λ_ _ h=>h.put ai)
   .rcases a_.mp ht with ht | ht
    .exact aa t ht
    .exact ac t ht
 .rintro σ H1 ⟨c3,Y,rfl,g1,Z,ag,aa,an⟩;exact⟨_,rfl,q l H1 Y g1 Z ag aa (7:)⟩
end
abbrev Sr:List Str:=["_law_cell","_law_k","_law_deep","_law_calls_here","_law_names_here","_law_keep","_law_number","_law_wide","_law_parts","_law_kept","_law_add"]
abbrev Jt:List Str:=["_law_cell","_law_k","_law_deep","_law_calls_here","_law_names_here","_law_keep"]
section
variable{K:Fg}
theorem YU:FnScope Sr Jt (defScope Xu):=(1:)
theorem N5(F:Fun K "_law_term" "_law_term" Xu f fd)(G:Gm mg)(RM:Fn P w K mg base 1 "_law_mixed" ["_law_cell","_law_k"] Zt)(RG:Fn P w K mg base 1 "_law_great" ["_law_cell"] Y1)(R:Fn P w K mg base (n+1) "_law_term" Jt (YW K n)):FnOk P w K mg base CX0 (n+2) f fd Jt (YW K (n+1)):=by
 refine F.ok YU (13:) (λas A outer s H vs Q E hr h=>?_)
 .obtain⟨c,k,d,M,ln,keep,D,ns,own,U,_,_,rfl,_⟩:=h
  rfl
 obtain⟨c,k,d,M,ln,keep,D,ns,own,U,a7,a8,rfl,aj,ab,aa,ac,ae,au,ak,al,af,q⟩:=h;have ar:∀m:Nat,m<=64->(A.deeper (PyProof.Rows.envOfC "_law_term" (defScope Xu) s.heap.objs.size f as)).units+m<cLine:=λm hm=>by have:=hr.units;lia
 refine⟨_,(Qe (Qm (i:=6) YU.nd rfl (5:) (Qr RM hr (Qa (pv 0) (Qa (pv 1) Qc)) (gR 1 n)))
  (Qe (QP (PL (PW.pt (pw_and (Qx Yc (pv 3) (QH Qc) (Qy _)) (pw_and1 (Qx GQ (Qo QB (pv 6) Qd) Qd (Qy _)))))) (Qh (Qp (Qo X2 (QE (Qa (Zi) Qc)) (Qg Ql (pv 3) (Qo QB (Qo Q6 (pv 6) Qd) (Qq Qn rfl G.len aX (Qa (pv 3) Qc))) (2:))))) Qw)
  (Qe (Qm (i:=7) YU.nd rfl (5:) Qd)
  (Qe (YR (QP (Qx Xa (pv 2) Qd (Qy _)) (Qh (Qm (i:=7) YU.nd rfl (5:) (Qo QI (Qo Ye (pv 2) Qd) (Qo QB (Qo Q6 (pv 6) Qd) (Qo Ye Qd (pv 2)))))) Qw))
  (Qe (ZA (i:=8) (CompG.many (xs:=["_law_j"]) (caps:=["_law_calls_here","_law_cell","_law_deep","_law_k","_law_keep","_law_names_here"]) (cap:=[3,0,2,1,5,4]) (cs:=[_,_,_,_,_,_]) rfl rfl (0:) (0:) (0:) (0:) (0:) (0:) rfl rfl rfl) rfl (QN rfl G.rng (Qa (pv 7) Qc)) (Zm (CompG.many (xs:=["_law_j"]) (caps:=["_law_calls_here","_law_cell","_law_deep","_law_k","_law_keep","_law_names_here"]) (cap:=[3,0,2,1,5,4]) (cs:=[_,_,_,_,_,_]) rfl rfl (0:) (0:) (0:) (0:) (0:) (0:) rfl rfl rfl)) (λ_ _ _ _=>Q5)
   (λ_ _ _ _=>Qr R hr (Qa (pv 2) (Qa (Qo QI (Qo QI (Qo Yd Qd (pv 4)) (pv 0)) Qd) (Qa (Qo Ye (pv 3) Qd) (Qa (pv 1) (Qa (pv 6) (Qa (pv 5) Qc)))))) (4:)) YU.nd rfl rfl)
  (Qe (YR (Qm (i:=9) YU.nd rfl (5:) (VO (pv 5) (XN (Yi Yj (Qo QB (Qo Q6 (pv 6) Qd) Qd) Qd (Qy _))))))
  (Qe (YR (Qm (i:=10) YU.nd rfl (5:) (Qg Ql (QH (Qa (Qd) (Qa (Qo Ye (Qo QB (Qo Q6 (pv 6) Qd) Qd) Qd) (Qa (Qr RG hr (Qa (pv 0) Qc) (gR 1 n)) Qc)))) (Qo QB (Qo Q6 (pv 6) Qd) Qd) (2:))))
  (Qh (Qp (QE (Qa (Zi) (Qa (Qg Ql (pv 4) (Qo QB (Qo Q6 (pv 6) Qd) Qd) (2:)) (Qa (pv 9) (Qa (pv 10) (Qa (QK Ze rfl G.tup eP (Qa (pv 8) Qc)) Qc))))))))))))))),?_⟩
 try dsimp only [QC,Cx.nox]
 refine L2.let7 ?_
 intros
 have a9:k<=10000:=by
  have:(1:Int)<=10^d:=by
   rcases(show d=0\/d=1\/d=2 by lia)with rfl | rfl | rfl<;>decide
  have:=Int.mul_le_mul_of_nonneg_left this aj;lia
 refine⟨_,rfl,_,rfl,c,k,rfl,aj,by lia,λx x0 x1=>?_⟩;refine⟨λb H'=>Same H H'/\(b=true->D≠[]),?_,?_⟩
 .refine⟨_,rfl,(21:),λpe av=>?_⟩;have ge:=Qf av (.lst []);refine⟨_,.list [],.lst (ge.seq aa) (SR (ac.mono λ_ _=>ge.seqT)),.lst (SqL.of Qb) .nil,Pb _,by simp [PyData.canLay0,PyData.canLayAll0],ar _ (aY (fG _ _) (by simp [PyData.depth,PyData.depthAll])),_,rfl,?_⟩;have e:=MA (D.map (·.2));unfold datP at e;rw [aE rfl,e];cases ba:D with
  | nil=>exact Zf ⟨ge,λz=>nomatch z⟩
  | cons t0 tr=>exact Zd ⟨_,rfl,_,_,rfl,rfl,(by show(0:Int)<5;decide),_,_,rfl,rfl,_,rfl,ge,λ_ z=>nomatch z⟩
 rintro b H1 ⟨g1,hb⟩;cases b with
 | true=>
  have aw:=hb rfl;have ax:0<D.length:=hJ.mpr aw;have am:(Rf D).length=D.length:=aC ..;refine Zd ⟨(by show 1<=sizeLine;decide),λpc ay=>?_⟩;have k1:=Qf ay (.tup [.str YT]);have g2:=g1.trans k1;obtain⟨y,J,Y⟩:=ZM (xs:=Rf D) (k:=((Rf D).length:Int)) rfl (by rw [am];exact ax) (x/5);obtain⟨t,ht,rfl⟩:=aT.mp J;obtain⟨m,bb,et,hf⟩:=ae t ht;refine⟨_,rfl,_,rfl,_,_,rfl,rfl,(22:),_,rfl,M,_,rfl,.inl (g2.seq aa),_,_,rfl,rfl,(by rw [am];lia),M,_,_,_,rfl,rfl,g2.seq aa,Y,?_⟩;have an:=g2.seqT (ac t ht);rw [et]at an;refine⟨pc,t.1,_,_,rfl,rfl,SqT.of Qb,an,(by show 1+2<=sizeLine;decide),λp H3 g3 az=>?_⟩;exact q (.ref p) H3 (ZH m bb) (g2.trans g3) (.call az) (ON hf)
 | false=>
 refine Zf ?_;refine let J_:J2:=(λag H'=>H'=H1/\∃wi:Nat,wi<=2/\(0<wi->0<d)/\ag=[some (.int c),some (.int k),some (.int (d:Int)),some (.ref M),some (.ref ln),some (.bl keep),some (.int x),some (.int (wi:Int)),none,none,none]);⟨J_,?_,?_⟩
 .refine⟨_,rfl,_,_,rfl,rfl,_,rfl,Z6 (λcc=>?_) (λcc=>⟨rfl,0,by lia,λz=>by lia,rfl⟩)⟩;have bc:(d:Int)>0:=cJ cc;have p4:(0:Int)<4-(d:Int):=by lia
  refine⟨_,rfl,_,_,rfl,rfl,_,rfl,_,_,rfl,rfl,(22:),_,rfl,_,_,rfl,rfl,_,_,rfl,rfl,p4,_,_,rfl,rfl,rfl,?_⟩;have a0:0<=x/8%(4-(d:Int)):=bR _ (7:);have a1:x/8%(4-(d:Int))<4-(d:Int):=bP _ p4;generalize hz:x/8%(4-(d:Int))=z at a0 a1;refine⟨((d:Int)-1+z).toNat,by lia,λ_=>by lia,?_⟩;dsimp only;rw [cG (7:)]
  rfl
 rintro σ H2 ⟨rfl,wi,bd,be,rfl⟩;refine⟨_,rfl,_,rfl,by lia,by lia,λacc ah=>?_⟩;rw [bF];refine let J_:JC:=(λj ys H'=>∃us:List Tm,H' acc=some (.lst ys)/\Same H2 H'/\TmAll K H' ys us/\us.length=j/\∀t∈us,TF own U n t);Z2 (lo:=0) (n:=wi) (cs:=[some (.ref M),some (.int c),some (.int (d:Int)),some (.int k),some (.bl keep),some (.ref ln)]) (tt:=λ_ H Q=>Q true H) J_
  ⟨[],Qb,Qf ah _,.nil,rfl,λt ht=>(nomatch ht)⟩ ?_ ?_
 .rintro j ys H3 hj ⟨us,J,g3,Z,ao,ai⟩;obtain⟨e,rfl⟩: ∃e,d=e+1:=⟨d-1,by lia⟩;have gg:=g1.trans g3;have a2:=Z.length;have ek:((3*k+(0+(j:Int))+1):Int)*10^e<=10000:=by
   rcases(show e=0\/e=1 by lia)with rfl | rfl
   .simp only [Int.pow_zero,Int.mul_one]at ab ⊢;simp only [Nat.zero_add]at ab;lia
   .simp only [Nat.reduceAdd]at ab;lia
  refine Zd ⟨_,rfl,_,rfl,_,_,rfl,rfl,.inl (22:),_,rfl,_,_,rfl,rfl,_,_,rfl,rfl,_,rfl,_,_,rfl,rfl,_,rfl,_,rfl,_,rfl,c,_,e,M,ln,keep,D,ns,own,U,by lia,by lia,?_,?_,ek,gg.seq aa,ac.mono λ_ _=>gg.seqT,ae,au,gg.seq ak,al,af,λv H4 t g4 hv ht=>?_⟩
  .show [V.int c,V.int (3*k+(0+(j:Int))+1),V.int (((e+1:Nat):Int)-1),V.ref M,V.ref ln,V.bl keep]=_;rw [show(((e+1:Nat):Int)-1)=(e:Int)by lia]
  .lia
  refine Qz hj (g4 _ _ J) (7:) ⟨us++[t],Qb,λz u e=>?_,?_,by rw [bE,bO,ao],λt' ht'=>?_⟩
  .rw [Qi (Qj e ah)];exact g4 _ _ (g3 _ _ e)
  .exact TmAll.append (Z.mono λ_ _ h=>(g4.seqT h).put (g4 _ _ J)) (.cons (hv.mono λ_ _ h=>h.put (g4 _ _ J)) .nil)
  .rcases a_.mp ht' with ht' | ht'
   .exact ai t' ht'
   .have:t'=t:=by simpa using ht'
    rw [this];exact ht
 rintro ys H3 ⟨us,J,g3,Z,ao,ai⟩;have a2:=Z.length;have gg:=g1.trans g3;refine let J_:J2:=(λag H'=>H'=H3/\∃b:Bool,ag=[some (.int c),some (.int k),some (.int (d:Int)),some (.ref M),some (.ref ln),some (.bl keep),some (.int x),some (.int (wi:Int)),some (.ref acc),some (.bl b),none]);⟨J_,?_,?_⟩
 .refine⟨_,rfl,keep,rfl,?_⟩;cases keep with
  | false=>exact Zf ⟨rfl,false,rfl⟩
  | true=>exact Zd ⟨_,rfl,_,_,rfl,rfl,(22:),_,_,rfl,rfl,(by show(0:Int)<2;decide),rfl,rfl,_,rfl⟩
 rintro σ H4 ⟨rfl,kb,rfl⟩;refine let J_:J2:=(λag H'=>Same H4 H'/\∃ad:Int,ag=[some (.int c),some (.int k),some (.int (d:Int)),some (.ref M),some (.ref ln),some (.bl keep),some (.int x),some (.int (wi:Int)),some (.ref acc),some (.bl kb),some (.int ad)]);⟨J_,?_,?_⟩
 .refine⟨_,rfl,_,_,rfl,rfl,(22:),_,_,rfl,rfl,(by show(0:Int)<19;decide),_,_,rfl,rfl,_,rfl,c,rfl,λgx=>⟨(by show 3<=sizeLine;decide),λl hl=>?_⟩⟩;refine⟨_,rfl,_,_,rfl,rfl,(22:),_,_,rfl,rfl,(by show(0:Int)<3;decide),?_⟩;obtain⟨y,J,Y⟩:=ZM (xs:=[.int 0,.int (x/512%19-9),.int gx]) (k:=3) rfl (by show 0<3;decide) (x/64);refine⟨l,_,_,y,rfl,rfl,SqL.of Qb,Y,Qf hl _,?_⟩;simp only [aM,bH,bG]at J;rcases J with rfl | rfl | rfl
  .exact⟨_,rfl⟩
  .exact⟨_,rfl⟩
  .exact⟨_,rfl⟩
 rintro σ H5 ⟨g5,ad,rfl⟩;have ap:=gg.trans g5;obtain⟨y,a3,Y⟩:=ZM (xs:=ns.map V.str) (k:=8) (by rw [aC,al];rfl) (by rw [aC];lia) (x/16384);obtain⟨nm,a4,rfl⟩:=aT.mp a3;refine⟨_,rfl,_,rfl,_,_,rfl,rfl,(22:),_,_,rfl,rfl,(by show(0:Int)<8;decide),ln,_,_,_,rfl,rfl,ap.seq ak,Y,_,rfl,_,rfl,_,rfl,acc,ys,rfl,.inl ⟨SqL.of (g5 _ _ J),λpt a5=>⟨(by show 5<=sizeLine;decide),λpr a6=>?_⟩⟩⟩;have k1:=Qf a5 (.tup ys);have k2:=Qf a6 (.tup [.str PUT,.str nm,.bl kb,.int ad,.ref pt]);have aq:=k1.trans k2;refine q (.ref pr) _ (.node (.put nm kb ad) 0 us) (ap.trans aq) (.put (SqT.of Qb) (k2.seqT (SqT.of Qb)) (Z.mono λ_ _=>(g5.trans aq).seqT) (7:)) (Rh (af nm a4) (7:) ai)
theorem LG{k:Nat}:FnOk P w K mg base CX0 k f fd Jt (YW K 0):=by
 have no:∀z H Q E,¬YW K 0 z H Q E:=λz H Q E h=>by
  obtain⟨c,k,d,G,ln,keep,J,ns,own,D,M,_⟩:=h;lia
 exact⟨λz H Q E h=>absurd h (no z H Q E),λA outer s H F U z Q E _ _ _ _ h=>absurd h (no z H Q E)⟩
theorem WO(F:Fun K "_law_term" "_law_term" Xu f fd)(G:Gm mg)(RM:Fn P w K mg base 1 "_law_mixed" ["_law_cell","_law_k"] Zt)(RG:Fn P w K mg base 1 "_law_great" ["_law_cell"] Y1)(hb:Binds K fd Jt [])(hm:mg "_law_term"=some (.ref f)):∀n:Nat,FnOk P w K mg base CX0 (n+1) f fd Jt (YW K n)
 | 0=>LG
 | n+1=>N5 F G RM RG ⟨f,fd,WO F G RM RG hb hm n,hb,F.kp,hm⟩
end
def Sn(t:TE):TE:=λσ H Q=>∃R:VK,t σ H R/\∀v H',R v H'->Q v H'
theorem M7{t:TE}(h:PE X e t):PE X e (Sn t):=by
 intro pins s σ H Q I z;obtain⟨R,h1,h2⟩:=z;exact thn (h pins s σ H R I h1) λu J ⟨x,H1,D,F,G⟩=>⟨x,H1,D,F,h2 x H1 G⟩
def KdH(K:Fg)(H:Hp)(lw:Addr)(k:KdT):Prop:=SqT K H k.1 [.str k.2.1,.ref k.2.2.1]/\H k.2.2.1=some (.lst (k.2.2.2.map λt=>V.ref t.1))/\k.2.2.1≠lw/\∀t∈k.2.2.2,RowAt K H t
theorem KdH.same{K:Fg}{k:KdT}(g:Same H H')(h:KdH K H lw k):KdH K H' lw k:=⟨g.seqT h.1,g _ _ h.2.1,h.2.2.1,λt z=>(h.2.2.2 t z).same g⟩
theorem KdH.put{K:Fg}{k:KdT}{o:HO}(hl:H lw=some (.lst ys))(h:KdH K H lw k):KdH K (upd H lw o) lw k:=
 ⟨h.1.put hl,by rw [Qi h.2.2.1];exact h.2.1,h.2.2.1,λt z=>⟨(h.2.2.2 t z).1.put hl,(h.2.2.2 t z).2.put hl⟩⟩
abbrev Ph(K:Fg):List V->Hp->VK->Prop:=λxs H Q=>∃p ys,xs=[.ref p]/\(SqL K H p ys\/SqT K H p ys)/\Q (.int ys.length) H
structure KF(kn:List Str)(rs:List PNx):Prop where
 ok:RowsOk rs
 bare:∃r∈rs,r.2.2.2=[]
 cl:∀r∈rs,∀x∈r.2.2.2,x∈kn
 w3:∀r∈rs,r.2.2.2.length<=3
structure WF(ks:List KdT):Prop where
 ok:WoodOk ks
 ne:0<ks.length
 l3:ks.length<=3
 nm:∀k∈ks,PyData.strOk k.2.1=true
 kf:∀k∈ks,KF (ks.map λk=>k.2.1) k.2.2.2
def VS(K:Fg):Sp:=λvs H Q _=>∃(c:Int)(ln:Addr)(ns:List Str),vs=[.int c,.ref ln]/\SqL K H ln (ns.map V.str)/\ns.length=8/\ns.Nodup/\(∀x∈ns,PyData.strOk x=true)/\
 ∀(lw:Addr)(H':Hp)(ks:List KdT),Same H H'->WoodAt K H' lw ks->WF ks->(∀k∈ks,k.2.1∈ns)->Q (.ref lw) H'
abbrev Sf:List Str:=["_law_cell","_law_names_here","_law_kinds","_law_wood_here","_law_i","_law_first","_law_rows","_law_r","_law_number","_law_wide","_law_branches"]
section
variable{K:Fg}
theorem ZT:FnScope Sf ["_law_cell","_law_names_here"] (defScope Ge):=(1:)
theorem Ov(F:Fun K "_law_wood" "_law_wood" Ge f fd)(G:Gm mg)(RM:Fn P w K mg base 1 "_law_mixed" ["_law_cell","_law_k"] Zt):FnOk P w K mg base CX0 2 f fd ["_law_cell","_law_names_here"] (VS K):=by
 refine F.ok ZT (13:) (λbm A outer s H vs Q E hr h=>?_)
 .obtain⟨c,ln,ns,rfl,_⟩:=h
  rfl
 obtain⟨c,ln,ns,rfl,a4,b5,a5,as,q⟩:=h;have bc:∀m:Nat,m<=64->(A.deeper (PyProof.Rows.envOfC "_law_wood" (defScope Ge) s.heap.objs.size f bm)).units+m<cLine:=λm hm=>by have:=hr.units;lia
 refine⟨_,(Qe (Qm (i:=2) ZT.nd rfl (bY rfl) (Z0 Y9 (pv 1) UM (ZP (Qo QI Qd (Qo QB (pv 0) Qd)))))
  (Qe (Qm (i:=3) ZT.nd rfl (5:) (QH Qc))
  (Qe (QO a' rfl (QN rfl G.rng (Qa (Qq Qn rfl G.len aX (Qa (pv 2) Qc)) Qc)) (Qt (i:=4) ZT.nd rfl (5:)) (Qe (Qm (i:=5) ZT.nd rfl (5:) (Qr RM hr (Qa (pv 0) (Qa (pv 4) Qc))))
  (Qe (Qm (i:=6) ZT.nd rfl (5:) (QH Qc))
  (Qe (QO a' rfl (QN rfl G.rng (Qa (M7 (Qo Ye (Qo QI Qd (Qo QB (pv 5) Qd)) (QK J7 rfl G.int PyProof.Rows.boot_int (Qa (VO (Yi Xa (pv 4) Qd (Qy _)) (XN (Yi Yj (Qo QB (Qo Q6 (pv 5) Qd) Qd) Qd (Qy _)))) Qc)))) Qc)) (Qt (i:=7) ZT.nd rfl (5:)) (Qe (Qm (i:=8) ZT.nd rfl (bY rfl) (Qr RM hr (Qa (pv 0) (Qa (Qo QI (Qo QI Qd (Qo Yd Qd (pv 4))) (pv 7)) Qc))))
  (Qe (YR (Qm (i:=9) ZT.nd rfl (5:) (Qg Ql (QH (Qa (Qd) (Qa (Qo QI Qd (Qo QB (pv 8) Qd)) (Qa (Qo QB (pv 8) Qd) Qc)))) (pv 7) (2:))))
  (Qe (ZA (i:=10) (CompG.many (xs:=["_law_j"]) (caps:=["_law_kinds","_law_number"]) (cap:=[2,8]) (cs:=[_,_]) rfl rfl (0:) (0:) (0:) (0:) (0:) (0:) rfl rfl rfl) rfl (QN rfl G.rng (Qa (pv 9) Qc)) (Zm (CompG.many (xs:=["_law_j"]) (caps:=["_law_kinds","_law_number"]) (cap:=[2,8]) (cs:=[_,_]) rfl rfl (0:) (0:) (0:) (0:) (0:) (0:) rfl rfl rfl)) (λ_ _ _ _=>Q5) (λ_ _ _ _=>Qg (r:=Uj K) Ql (pv 1) (Qo (r:=rI (λ_ j=>0<j) λi j=>.int (i%j)) QB (Qr RM hr (Qa (pv 2) (Qa (pv 0) Qc))) (Qq (r:=Ph K) Qn rfl G.len aX (Qa (pv 1) Qc))) (2:)) ZT.nd rfl rfl)
  (Qh (QS (ZJ cN dM dN Q4 (pv 6) (Qa ((QE (Qa (Qg Ql (pv 1) (Qo QB (Qo QI (Qo Q6 (pv 5) Qd) (pv 7)) Qd) (2:)) (Qa (QK Ze rfl G.tup eP (Qa (pv 10) Qc)) Qc)))) Qc))))))))
  (Qh (QS (ZJ cN dM dN Q4 (pv 3) (Qa ((QE (Qa (Qg Ql (pv 2) (pv 4) (2:)) (Qa (Qq (X1 (bc 4 (18:))) rfl G.srt PyProof.Rows.boot_sorted (Qa (pv 6) Qc)) Qc)))) Qc))))))))
  (Qh (Qp (pv 3)))))),?_⟩
 try dsimp only [QC,Cx.nox]
 refine L2.let3 ?_
 intros
 have m0:0<=c%3:=bR _ (18:);have m1:c%3<3:=bP _ (18:);refine⟨_,rfl,_,rfl,_,_,rfl,rfl,(by show(0:Int)<3;decide),_,_,rfl,rfl,_,rfl,ln,_,rfl,a4,λlk a6=>?_⟩;obtain⟨mm,bn⟩: ∃mm:Nat,1+c%3=(mm:Int):=⟨(1+c%3).toNat,by lia⟩;dsimp only at a6 ⊢;obtain⟨D,aj⟩: ∃D,D=ns.take mm:=⟨_,rfl⟩;have bd:cutV (ns.map V.str) none (some (1+c%3))=D.map V.str:=by rw [bn,Gu,aj,List.map_take]
 have g1:=Qf a6 (.lst (cutV (ns.map V.str) none (some (1+c%3))));have ag:upd H lk (.lst (cutV (ns.map V.str) none (some (1+c%3)))) lk=some (.lst (D.map V.str)):=by rw [<-bd];exact Qb
 generalize upd H lk (.lst (cutV (ns.map V.str) none (some (1+c%3))))=H1 at g1 ag;have b6:D.length=mm:=by rw [aj,cA];lia
 have be:D.Nodup:=by rw [aj];exact a5.sublist (List.take_sublist _ _)
 have ao:∀x∈D,PyData.strOk x=true:=λx hx=>as x (fV (by rw [<-aj];exact hx));have ak:(D.map V.str).length=D.length:=aC ..;refine⟨(21:),λlw a7=>?_⟩;have k2:=Qf a7 (.lst []);refine⟨_,rfl,lk,_,rfl,.inl (SqL.of (k2 _ _ ag)),_,rfl,by rw [ak];lia,by rw [ak];lia,?_⟩;have en:(((D.map V.str).length:Nat):Int).toNat=D.length:=by rw [ak];lia
 rw [en];refine let J_:J3:=(λi σ H'=>∃(c4 c5 c6 c7 c8 c9 aa:Option V)(ks:List KdT),σ=[some (.int c),some (.ref ln),some (.ref lk),some (.ref lw),c4,c5,c6,c7,c8,c9,aa]/\Same H1 H'/\H' lw=some (.lst (ks.map λk=>V.ref k.1))/\(∀k∈ks,KdH K H' lw k/\KF D k.2.2.2)/\(ks.map λk=>k.2.1)=D.take i);Zc (lo:=0) (n:=D.length) J_
  ⟨none,none,none,none,none,none,none,[],rfl,k2,Qb,λk hk=>(nomatch hk),rfl⟩ ?_ ?_
 .rintro i σ H2 hi ⟨c4,c5,c6,c7,c8,c9,aa,ks,rfl,g2,ah,ab,Y⟩;have bf:ks.length=i:=by
   have:=congrArg List.length Y;rw [aC,cA]at this;lia
  refine⟨_,rfl,_,rfl,c,_,rfl,by lia,by lia,λJ f0 f1=>?_⟩;refine⟨(21:),λlr ar=>?_⟩;have k3:=Qf ar (.lst []);have b2:lw≠lr:=λz=>by rw [<-z,ah]at ar;cases ar
  refine⟨λv H'=>H'=upd H2 lr (.lst [])/\∃n:Nat,v=.int (n:Int)/\1<=n/\n<=3,?_,?_⟩
  .refine⟨_,rfl,_,_,rfl,rfl,(by show(0:Int)<2;decide),_,_,rfl,rfl,?_⟩;have p0:0<=J%2:=bR _ (18:);have p1:J%2<2:=bP _ (18:);refine⟨_,rfl,_,_,rfl,rfl,_,rfl,Z6 (λ_=>?_) (λhb=>?_)⟩
   .refine⟨_,rfl,_,_,rfl,rfl,(22:),_,_,rfl,rfl,(by show(0:Int)<3;decide),rfl,.inr ⟨_,rfl,_,_,rfl,rfl,rfl,?_⟩⟩;refine⟨(2+J%2-(if decide (V.int (J/2%3)=V.int 0)=true then 1 else 0)).toNat,?_,?_,?_⟩
    .rw [cG (by split<;>lia)]
    .split<;>lia
    .split<;>lia
   .refine .inr ⟨_,rfl,_,_,rfl,rfl,rfl,(2+J%2).toNat,?_,by lia,by lia⟩;dsimp only;rw [cG (7:)];simp
  rintro v H3 ⟨rfl,cnt,rfl,b7,b8⟩;refine⟨_,rfl,by lia,by lia,?_⟩;rw [bF];refine let J_:J3:=(λr σ H'=>∃(c7 c8 c9 aa:Option V)(M:List PNx),σ=[some (.int c),some (.ref ln),some (.ref lk),some (.ref lw),some (.int (0+(i:Int))),some (.int J),some (.ref lr),c7,c8,c9,aa]/\Same H2 H'/\H' lr=some (.lst (M.map λt=>V.ref t.1))/\M.length=r/\(∀t∈M,RowAt K H' t/\(∀x∈t.2.2.2,x∈D)/\t.2.2.2.length<=3)/\(∀(j:Nat) t,M[j]?=some t->ns[((J/16+(j:Int))%8).toNat]?=some t.2.1)/\∀t,M[0]?=some t->t.2.2.2=[]);Zc (lo:=0) (n:=cnt) J_
   ⟨_,_,_,_,[],rfl,k3,Qb,rfl,λt ht=>(nomatch ht),λj t h=>by simp at h,λt h=>by simp at h⟩ ?_ ?_
  .rintro r σ H4 b9 ⟨c7,c8,c9,aa,M,rfl,g4,ai,au,U,al,av⟩;refine⟨_,rfl,_,rfl,_,_,rfl,rfl,.inl (22:),_,_,rfl,rfl,_,rfl,_,_,rfl,rfl,c,_,rfl,by lia,by lia,λZ n0 n1=>?_⟩;refine let J_:J2:=(λb3 H'=>Same H4 H'/\∃wi:Nat,wi<=3/\(r=0->wi=0)/\b3=[some (.int c),some (.ref ln),some (.ref lk),some (.ref lw),some (.int (0+(i:Int))),some (.int J),some (.ref lr),some (.int (0+(r:Int))),some (.int Z),some (.int (wi:Int)),aa]);⟨J_,?_,?_⟩
   .refine⟨_,rfl,_,_,rfl,rfl,(by show(0:Int)<2;decide),_,_,rfl,rfl,_,rfl,_,_,rfl,rfl,(by show(0:Int)<4;decide),(by show 3<=sizeLine;decide),λpl bo=>?_⟩;have a0:0<=Z%2:=bR _ (18:);have a1:Z%2<2:=bP _ (18:);have b0:0<=Z%4:=bR _ (18:);have b1:Z%4<4:=bP _ (18:);have kl:=Qf bo (.lst [.int 0,.int (1+Z%2),.int (Z%4)]);rcases(show r=0\/r=1\/r=2 by lia)with rfl | rfl | rfl
    .exact⟨_,rfl,pl,_,_,_,rfl,rfl,SqL.of Qb,rfl,kl,0,by lia,λ_=>rfl,rfl⟩
    .exact⟨_,rfl,pl,_,_,.int (1+Z%2),rfl,rfl,SqL.of Qb,rfl,kl,(1+Z%2).toNat,by lia,λz=>by lia,by rw [cG (7:)];rfl⟩
    .exact⟨_,rfl,pl,_,_,.int (Z%4),rfl,rfl,SqL.of Qb,rfl,kl,(Z%4).toNat,by lia,λz=>by lia,by rw [cG (7:)];rfl⟩
   rintro σ H5 ⟨g5,wi,ca,bp,rfl⟩;refine⟨_,rfl,_,rfl,by lia,by lia,λlb a8=>?_⟩;rw [bF];have aw:=g5 _ _ (g4 _ _ (g2 _ _ ag));refine let J_:JC:=(λj ys H'=>∃ss:List Str,ys=ss.map V.str/\ss.length=j/\(∀x∈ss,x∈D)/\H' lb=some (.lst ys)/\Same H5 H');Z2 (lo:=0) (n:=wi) (cs:=[some (.ref lk),some (.int Z)]) (tt:=λ_ H Q=>Q true H) J_
    ⟨[],rfl,rfl,λx hx=>(nomatch hx),Qb,Qf a8 _⟩ ?_ ?_
   .rintro j ys H6 hj ⟨ss,rfl,ax,ay,hy,g6⟩;refine Zd ⟨_,rfl,_,rfl,_,rfl,Z,_,rfl,by lia,by lia,λz z0 z1=>⟨_,rfl,lk,_,rfl,.inl (SqL.of (g6 _ _ aw)),_,_,rfl,rfl,(by rw [ak];lia),?_⟩⟩;obtain⟨y,bq,am⟩:=ZM (xs:=D.map V.str) (k:=((D.map V.str).length:Int)) rfl (by rw [ak];lia) z;obtain⟨x,hx,rfl⟩:=aT.mp bq;refine⟨lk,_,_,_,rfl,rfl,SqL.of (g6 _ _ aw),am,?_⟩;refine Qz hj hy (by rw [aC];lia) ⟨ss++[x],by simp,by simp [ax],λx' hx'=>?_,Qb,λz u e=>?_⟩
    .rcases a_.mp hx' with hx' | hx'
     .exact ay x' hx'
     .have:x'=x:=by simpa using hx'
      rw [this];exact hx
    .rw [Qi (Qj e a8)];exact g6 _ _ e
   rintro ys H6 ⟨ss,rfl,ax,ay,hy,g6⟩;have an:=g5.trans g6;have br:=(g1.trans (g2.trans g4)).trans an;have bt:0<=(J/16+(0+(r:Int)))%8:=bR _ (18:);have cb:(J/16+(0+(r:Int)))%8<8:=bP _ (18:);have a9:((J/16+(0+(r:Int)))%8).toNat<ns.length:=by lia
   have am:atI (ns.map V.str) ((J/16+(0+(r:Int)))%8)=some (.str ns[((J/16+(0+(r:Int)))%8).toNat]):=by
    have z:=Qs (xs:=ns.map V.str) (j:=((J/16+(0+(r:Int)))%8).toNat) (v:=.str ns[((J/16+(0+(r:Int)))%8).toNat]) (by rw [aI,aB a9];rfl);rw [cG bt]at z;exact z
   refine⟨_,rfl,.inl ⟨rfl,_,SqL.of (an _ _ ai)⟩,_,rfl,_,rfl,_,_,rfl,rfl,(22:),_,rfl,_,_,rfl,rfl,_,_,rfl,rfl,(by show(0:Int)<8;decide),ln,_,_,_,rfl,rfl,br.seq a4,am,_,rfl,lb,_,rfl,.inl ⟨SqL.of hy,λpb bu=>⟨(by show 2<=sizeLine;decide),λpr bv=>?_⟩⟩⟩;generalize bw:ns[((J/16+(0+(r:Int)))%8).toNat]=nm;have e1:=Qf bu (.tup (ss.map V.str));have e2:=Qf bv (.tup [.str nm,.ref pb]);have ac:=e1.trans e2;have ae:=ac _ _ (an _ _ ai);refine⟨lr,_,_,rfl,rfl,ae,by rw [aC,QL];lia,?_⟩;refine⟨_,_,_,_,M++[(pr,nm,pb,ss)],rfl,λz u e=>?_,by rw [Qb];simp,by rw [bE,bO,au],λt ht=>?_,λj t e=>?_,λt e=>?_⟩
   .rw [Qi (Qj e ar)];exact ac _ _ (an _ _ (g4 _ _ e))
   .rcases a_.mp ht with ht | ht
    .obtain⟨h1,h2⟩:=U t ht;have ba:=h1.same (an.trans ac);exact⟨⟨ba.1.put ae,ba.2.put ae⟩,h2⟩
    .have:t=(pr,nm,pb,ss):=by simpa using ht
     rw [this];exact⟨⟨SqT.put (SqT.of Qb) ae,SqT.put (e2.seqT (SqT.of Qb)) ae⟩,ay,by show ss.length<=3;lia⟩
   .by_cases hj:j<r
    .rw [cY (7:)]at e;exact al j t e
    .have bb:j=r:=by
      have:=(aK.mp e).1;rw [bE,bO]at this;lia
     rw [dJ (7:),au,bb,e_]at e;obtain rfl:=aH e;rw [bb,<-bw,show J/16+(r:Int)=J/16+(0+(r:Int))by lia];exact aB a9
   .by_cases bg:r=0
    .have bh:M=[]:=gs.mp (7:);rw [bh]at e;obtain rfl:=aH e;have:ss.length=0:=by rw [ax];exact bp bg
     exact gs.mp this
    .rw [cY (7:)]at e;exact av t e
  rintro σ H4 ⟨c7,c8,c9,aa,M,rfl,g4,ai,au,U,al,av⟩;have am:atI (D.map V.str) (0+(i:Int))=some (.str D[i]):=by
   rw [Int.zero_add];exact Qs (by rw [aI,aB hi];rfl)
  have az:(M.map λt=>t.2.1).Nodup:=by
   rw [List.Nodup,gT];intro a b ha hb cc;rw [aC]at ha hb;rw [f_,f_];intro e;have h1:=al a M[a] (aB ha);have h2:=al b M[b] (aB hb);rw [e,<-h2]at h1;have bx:((J/16+(a:Int))%8).toNat<ns.length:=by
    have:=bP (J/16+(a:Int)) (show(0:Int)<8 by decide);have:=bR (J/16+(a:Int)) (show(8:Int)≠0 by decide);lia
   have:=(List.getElem?_inj bx a5).mp h1;lia
  have a3:=SqL.of (K:=K) ai;have bi:∀t∈M,SqT K H4 t.1 [.str t.2.1,.ref t.2.2.1]/\SqT K H4 t.2.2.1 (t.2.2.2.map V.str)/\∀x∈t.2.2.2,PyData.strOk x=true:=λt ht=>⟨(U t ht).1.1,(U t ht).1.2,λx hx=>ao x ((U t ht).2.1 x hx)⟩;have ap:=g4 _ _ ah;refine⟨_,rfl,.inl ⟨rfl,_,SqL.of ap⟩,_,rfl,_,rfl,lk,_,_,_,rfl,rfl,SqL.of (g4 _ _ (g2 _ _ ag)),am,_,rfl,lr,M,rfl,a3,bi,az,by lia,λout po ad b4 a2=>⟨(by show 2<=sizeLine;decide),λpk bz=>?_⟩⟩;have e1:=Qf a2 (.lst (out.map λt=>V.ref t.1));have e2:=Qf bz (.tup [.str D[i],.ref po]);have ac:=e1.trans e2;have aq:=ac _ _ ap;have bj:po≠lw:=λz=>by rw [z,ap]at a2;cases a2
  refine⟨lw,_,_,rfl,rfl,aq,by rw [aC,QL];lia,?_⟩;have af:∀t∈out,t∈M:=λt ht=>ad.mem_iff.mp ht;refine⟨_,_,_,_,_,_,_,ks++[(pk,D[i],po,out)],rfl,λz u e=>?_,by rw [Qb];simp,λk hk=>?_,?_⟩
  .rw [Qi (Qj e a7)];exact ac _ _ (g4 _ _ (g2 _ _ e))
  .rcases a_.mp hk with hk | hk
   .exact⟨KdH.put aq ((ab k hk).1.same (g4.trans ac)),(ab k hk).2⟩
   .have:k=(pk,D[i],po,out):=by simpa using hk
    rw [this];refine⟨KdH.put aq ⟨SqT.of Qb,e2 _ _ Qb,bj,λt ht=>((U t (af t ht)).1).same ac⟩,⟨⟨?_,?_,λt ht=>?_,λt ht x hx=>?_,λt ht=>?_⟩,?_,λt ht=>(U t (af t ht)).2.1,λt ht=>(U t (af t ht)).2.2⟩⟩
    .exact(ad.map _).nodup_iff.mpr az
    .show out.length<=10;rw [ad.length_eq];lia
    .obtain⟨j,hj,e⟩:=cO (af t ht);have:=al j t (by rw [aB hj,e]);exact as _ (aN this)
    .exact ao x ((U t (af t ht)).2.1 x hx)
    .have:=(U t (af t ht)).2.2;lia
    .have h0:0<M.length:=by lia
     exact⟨M[0],ad.mem_iff.mpr (aZ h0),av M[0] (aB h0)⟩
  .rw [aR,Y,b_,aB hi];rfl
 .rintro σ H2 ⟨c4,c5,c6,c7,c8,c9,aa,ks,rfl,g2,ah,ab,Y⟩;rw [bL (4:)]at Y;have bf:ks.length=D.length:=by
   have:=congrArg List.length Y
   rwa [aC]at this
  refine⟨_,rfl,q lw H2 ks (g1.trans g2) ⟨SqL.of ah,λk hk=>⟨(ab k hk).1.1,SqL.of (ab k hk).1.2.1,(ab k hk).1.2.2.2⟩⟩ ⟨⟨by rw [Y];exact be,by lia,λk hk=>(ab k hk).2.ok⟩,by lia,by lia,λk hk=>ao _ (by rw [<-Y];exact aT.mpr ⟨k,hk,rfl⟩),λk hk=>by rw [Y];exact(ab k hk).2⟩ λk hk=>fV (by rw [<-aj,<-Y];exact aT.mpr ⟨k,hk,rfl⟩)⟩
end
def MdB(K:Fg)(H:Hp)(x:Addr)(m:MdT):Prop:=SqT K H m.1 [.str m.2.1,.ref m.2.2.1]/\H m.2.2.1=some (.lst m.2.2.2.1)/\m.2.2.1≠x/\TmAll K H m.2.2.2.1 m.2.2.2.2
theorem MdB.same{K:Fg}{x:Addr}{m:MdT}(g:Same H H')(h:MdB K H x m):MdB K H' x m:=⟨g.seqT h.1,g _ _ h.2.1,h.2.2.1,h.2.2.2.mono λ_ _=>g.seqT⟩
theorem MdB.put{K:Fg}{x:Addr}{m:MdT}{o:HO}(hx:H x=some (.lst ys))(h:MdB K H x m):MdB K (upd H x o) x m:=
 ⟨h.1.put hx,by rw [Qi h.2.2.1];exact h.2.1,h.2.2.1,h.2.2.2.mono λ_ _ z=>z.put hx⟩
theorem MdB.at{K:Fg}{H:Hp}{x:Addr}{m:MdT}(h:MdB K H x m):MdAt K H m:=⟨h.1,SqL.of h.2.1,h.2.2.2⟩
def L0(own:List Str)(rs:List PNx)(ts:List Tm):Prop:=ts.length=rs.length/\∀(j:Nat) r t,rs[j]?=some r->ts[j]?=some t->TF own r.2.2.2 3 t
structure MF(ks:List KdT)(own:List Str)(m:MdT):Prop where
 rf:L0 own (Qu ks m.2.1) m.2.2.2.2
 kd:m.2.1∈ks.map λk=>k.2.1
theorem Jd(ok:WoodOk ks){k:KdT}(hk:k∈ks):Qu ks k.2.1=k.2.2.2/\ks.find? (λx=>decide (x.2.1=k.2.1))=some k:=by
 have D:ks.find? (λx=>decide (x.2.1=k.2.1))=some k:=by
  obtain⟨i,hi,e⟩:=cO hk;refine Ub (i:=i) (by rw [aB hi,e]) (14:) λj y F G=>bN λz=>?_;have h1:=gT.mp ok.nd j i (by rw [aC];lia) (by rw [aC];lia) F;rw [f_,f_,e,(aK.mp G).2]at h1;exact h1 z
 exact⟨by unfold Qu;rw [D];rfl,D⟩
def Uq(K:Fg):Sp:=λvs H Q _=>∃(a:Addr)(cs:List Int)(lw ln:Addr)(ks:List KdT)(ns:List Str),vs=[.ref a,.ref lw,.ref ln]/\SqL K H a (cs.map V.int)/\WoodAt K H lw ks/\WF ks/\SqL K H ln (ns.map V.str)/\ns.length=8/\(∀x∈ns,PyData.strOk x=true)/\
 ∀(p lm:Addr)(v:V)(H':Hp)(ms:List MdT)(t:Tm)(k0:KdT),Same H H'->SqT K H' p [.ref lw,v,.ref lm]->H' lm=some (.lst (ms.map λm=>V.ref m.1))->(∀m∈ms,MdB K H' lm m/\MF ks (mks (mds ms)) m)->0<ms.length->ms.length<=4->ks[0]?=some k0->TmV K H' v t->TF (mks (mds ms)) [k0.2.1] 3 t->Q (.ref p) H'
abbrev Sl:List Str:=["_law_script","_law_wood_here","_law_names_here","_law_kinds","_law_number","_law_owners","_law_modes","_law_used","_law_kind","_law_rules","_law_row","_law_calls_here","_law_start"]
section
variable{K:Fg}
theorem QZ:FnScope Sl ["_law_script","_law_wood_here","_law_names_here"] (defScope Jg):=(1:)
theorem VN(F:Fun K "_law_turning" "_law_turning" Jg f fd)(G:Gm mg)(RC:Fn P w K mg base 1 "_law_cell_at" ["_law_script","_law_k"] (Xx K))(RM:Fn P w K mg base 1 "_law_mixed" ["_law_cell","_law_k"] Zt)(RL:Fn P w K mg base 1 "_law_calls" ["_law_branches","_law_owners"] (Wb K))(RT:Fn P w K mg base 4 "_law_term" Jt (YW K 3)):
 FnOk P w K mg base CX0 5 f fd ["_law_script","_law_wood_here","_law_names_here"] (Uq K):=by
 refine F.ok QZ (13:) (λcf A outer s H vs Q E hr h=>?_)
 .obtain⟨a,cs,lw,ln,ks,ns,rfl,_⟩:=h
  rfl
 obtain⟨a,cs,lw,ln,ks,ns,rfl,hS,hW,ab,be,bf,au,q⟩:=h;refine⟨_,(Qe (Qm (i:=3) QZ.nd rfl (bY rfl) (QU (CompG.many (xs:=["_law_kind","_law_rows"]) (caps:=[]) (cap:=[]) (cs:=[]) rfl rfl (0:) (0:) (0:) (0:) (0:) (0:) rfl rfl rfl) rfl (Q1 (pv 1)) (M9 (CompG.many (xs:=["_law_kind","_law_rows"]) (caps:=[]) (cap:=[]) (cs:=[]) rfl rfl (0:) (0:) (0:) (0:) (0:) (0:) rfl rfl rfl) rfl) (λ_ _ _ _=>Q5) (λ_ _ _ _=>pv 0)))
  (Qe (Qm (i:=4) QZ.nd rfl (bY rfl) (Qr RC hr (Qa (pv 0) (Qa (Qd) Qc))))
  (Qe (Qm (i:=5) QZ.nd rfl (5:) (Qo OO (QH (Qa (Qg Ql (pv 3) Qd (2:)) Qc)) (QU (CompG.many (xs:=["_law_i"]) (caps:=["_law_kinds","_law_number"]) (cap:=[3,4]) (cs:=[_,_]) rfl rfl (0:) (0:) (0:) (0:) (0:) (0:) rfl rfl rfl) rfl (QN rfl G.rng (Qa (Qo QB (pv 4) Qd) Qc)) (Zm (CompG.many (xs:=["_law_i"]) (caps:=["_law_kinds","_law_number"]) (cap:=[3,4]) (cs:=[_,_]) rfl rfl (0:) (0:) (0:) (0:) (0:) (0:) rfl rfl rfl)) (λ_ _ _ _=>Q5) (λ_ _ _ _=>Qg (r:=Uj K) Ql (pv 1) (Qo (r:=rI (λ_ j=>0<j) λi j=>.int (i%j)) QB (Qr RM hr (Qa (pv 2) (Qa (pv 0) Qc))) (Qq (r:=Ph K) Qn rfl G.len aX (Qa (pv 1) Qc))) (2:)))))
  (Qe (Qm (i:=6) QZ.nd rfl (5:) (QH Qc))
  (Qe (Qm (i:=7) QZ.nd rfl (5:) Qd)
  (Qe (QO a' rfl (Q1 (pv 5)) (Qt (i:=8) QZ.nd rfl (5:)) (Qe (Qm (i:=9) QZ.nd rfl (5:) (QH Qc))
  (Qe (QO a' rfl (Q1 (Zh (Zp hr) (QK (Zs rfl) rfl G.dct fB (Qa (pv 1) Qc)) (pv 8) (2:))) (Qt (i:=10) QZ.nd rfl (5:)) (Qe (Qm (i:=11) QZ.nd rfl (5:) (Qr RL hr (Qa (Qg Qk (pv 10) Qd (2:)) (Qa (pv 5) Qc))))
  (Qe (QS (ZJ cN dM dN Q4 (pv 9) (Qa (Qr RT hr (Qa (Qr RC hr (Qa (pv 0) (Qa (pv 7) Qc))) (Qa (Qd) (Qa (Qd) (Qa (pv 11) (Qa (pv 2) (Qa (Zy) Qc))))))) Qc)))
  (Qh (Qm (i:=7) QZ.nd rfl (5:) (Qo QI (pv 7) Qd))))))
  (Qh (QS (ZJ cN dM dN Q4 (pv 6) (Qa ((QE (Qa (pv 8) (Qa (pv 9) Qc)))) Qc)))))))
  (Qe (Qm (i:=12) QZ.nd rfl (5:) (Qr RT hr (Qa (Qr RC hr (Qa (pv 0) (Qa (Qd) Qc))) (Qa (Qd) (Qa (Qd) (Qa (Qr RL hr (Qa ((QH (Qa (Qg Ql (pv 3) Qd (2:)) Qc))) (Qa (pv 5) Qc))) (Qa (pv 2) (Qa (Zy) Qc))))))))
  (Qh (Qp (QE (Qa (pv 1) (Qa (pv 12) (Qa (pv 6) Qc))))))))))))),?_⟩
 try dsimp only [QC,Cx.nox]
 refine L2.let7 ?_
 intros
 have cg:=ab.l3;have b1:=ab.ne;obtain⟨D,ap⟩: ∃D,D=ks.map λk=>k.2.1:=⟨_,rfl⟩;have ce:D.length=ks.length:=by rw [ap,aC]
 refine⟨_,rfl,lw,rfl,⟨_,hW.1⟩,λlk bg=>?_⟩;refine let J_:JC:=(λj ys H'=>ys=(D.take j).map V.str/\H' lk=some (.lst ys)/\Same H H');O2 (K:=K) (xs:=ks.map λk=>V.ref k.1) (cs:=[]) (tt:=λ_ H Q=>Q true H) (te:=ZL 0) J_
  ⟨rfl,Qb,Qf bg _⟩ ?_ ?_ ?_
 .rintro j ys H' _ ⟨_,_,g⟩;exact(hW.same g).1
 .rintro j x ys H' hj hx ⟨rfl,hy,g⟩;have av:j<ks.length:=by simpa using hj
  obtain rfl:x=.ref ks[j].1:=by
   rw [aI,aB av]at hx;exact(aH hx).symm
  refine⟨ks[j].1,_,_,rfl,((hW.same g).2 _ (aZ av)).1,Zd ⟨_,rfl,Qz hj hy (by rw [aC,cA];lia) ⟨?_,Qb,λz u e=>?_⟩⟩⟩
  .have b2:D[j]?=some ks[j].2.1:=by rw [ap,aI,aB av];rfl
   rw [b_,b2];simp
  .rw [Qi (Qj e bg)];exact g _ _ e
 rintro ys H1 ⟨rfl,ad,g1⟩;rw [aC,bL (7:)]at ad;have bh:(D.map V.str).length=D.length:=aC ..;refine⟨_,rfl,a,cs,3,rfl,by decide,g1.seq hS,λnu=>?_⟩;have aj:0<D.length:=by lia
 have aw:atI (D.map V.str) 0=some (.str D[0]):=Qs (j:=0) (by rw [aI,aB aj];rfl);refine⟨_,rfl,lk,_,0,_,rfl,rfl,SqL.of ad,aw,(by show 1<=sizeLine;decide),λl1 bi=>?_⟩;have k1:=Qf bi (.lst [.str D[0]]);have q0:0<=nu%4:=bR _ (18:);have q1:nu%4<4:=bP _ (18:);refine⟨_,rfl,_,_,rfl,rfl,(by show(0:Int)<4;decide),_,rfl,by lia,by lia,λl2 ax=>?_⟩;dsimp only;obtain⟨mo,b3⟩: ∃mo:Nat,nu%4=(mo:Int):=⟨(nu%4).toNat,by lia⟩;rw [b3,bF];refine let J_:JC:=(λj ys H'=>∃ss:List Str,ys=ss.map V.str/\ss.length=j/\(∀x∈ss,x∈D)/\H' l2=some (.lst ys)/\Same (upd H1 l1 (.lst [.str D[0]])) H');Z2 (lo:=0) (n:=mo) (cs:=[some (.ref lk),some (.int nu)]) (tt:=λ_ H Q=>Q true H) J_
  ⟨[],rfl,rfl,λx hx=>(nomatch hx),Qb,Qf ax _⟩ ?_ ?_
 .rintro j ys H2 hj ⟨ss,rfl,ay,az,hy,g2⟩;have a0:=g2 _ _ (k1 _ _ ad);refine Zd ⟨_,rfl,_,rfl,_,rfl,nu,_,rfl,by lia,by lia,λz z0 z1=>⟨_,rfl,lk,_,rfl,.inl (SqL.of a0),_,_,rfl,rfl,(by rw [bh];lia),?_⟩⟩;obtain⟨y,b4,b5⟩:=ZM (xs:=D.map V.str) (k:=((D.map V.str).length:Int)) rfl (by rw [bh];lia) z;obtain⟨x,hx,rfl⟩:=aT.mp b4;refine⟨lk,_,_,_,rfl,rfl,SqL.of a0,b5,?_⟩;refine Qz hj hy (by rw [aC];lia) ⟨ss++[x],by simp,by simp [ay],λx' hx'=>?_,Qb,λz u e=>?_⟩
  .rcases a_.mp hx' with hx' | hx'
   .exact az x' hx'
   .have:x'=x:=by simpa using hx'
    rw [this];exact hx
  .rw [Qi (Qj e ax)];exact g2 _ _ e
 rintro ys H2 ⟨ss,rfl,ay,az,hy,g2⟩;refine⟨l1,l2,_,_,rfl,rfl,SqL.of (g2 _ _ Qb),SqL.of hy,by rw [aC,QL];simp only [bO];lia,λlo bj=>?_⟩;obtain⟨own,ak⟩: ∃own,own=D[0]::ss:=⟨_,rfl⟩;have k3:=Qf bj (.lst ([.str D[0]]++ss.map V.str));have g3:=g1.trans (k1.trans (g2.trans k3));have M:upd H2 lo (.lst ([.str D[0]]++ss.map V.str)) lo=some (.lst (own.map V.str)):=by rw [ak];exact Qb
 have a1:=(k1.trans (g2.trans k3)) _ _ ad;generalize upd H2 lo (.lst ([.str D[0]]++ss.map V.str))=H3 at g3 M a1;have ch:own.length=mo+1:=by rw [ak,cD,ay]
 have b6:∀x∈own,x∈D:=λx hx=>by
  rw [ak]at hx;rcases aM.mp hx with rfl | hx
  .exact aZ aj
  .exact az x hx
 clear hy g2 bj bi ax k1 k3;refine⟨(21:),λlm bm=>?_⟩;have k4:=Qf bm (.lst []);refine⟨_,rfl,lo,rfl,⟨_,SqL.of (k4 _ _ M)⟩,?_⟩;refine let J_:J3:=(λi σ H'=>∃(c8 c9 U Y:Option V)(J:Nat)(Z:List MdT),σ=[some (.ref a),some (.ref lw),some (.ref ln),some (.ref lk),some (.int nu),some (.ref lo),some (.ref lm),some (.int (J:Int)),c8,c9,U,Y,none]/\Same H3 H'/\H' lm=some (.lst (Z.map λm=>V.ref m.1))/\(∀m∈Z,MdB K H' lm m/\MF ks own m)/\(Z.map λm=>m.2.1)=own.take i);ZX (K:=K) (xs:=own.map V.str) J_
  ⟨none,none,none,none,4,[],rfl,k4,Qb,λm hm=>(nomatch hm),rfl⟩ ?_ ?_ ?_
 .rintro i σ H' _ ⟨_,_,_,_,_,_,_,g,_⟩;exact SqL.of (g _ _ M)
 .rintro i x σ H4 hx ⟨c8,c9,U,Y,J,Z,rfl,g4,ae,ag,ac⟩;have hi:i<own.length:=by
   have:=(aK.mp hx).1
   simpa using this
  obtain rfl:x=.str own[i]:=by
   rw [aI,aB hi]at hx;exact(aH hx).symm
  have bx:Z.length=i:=by
   have:=congrArg List.length ac;rw [aC,cA]at this;lia
  have a2:=b6 _ (aZ hi);rw [ap]at a2;obtain⟨kd,a3,a4⟩:=aT.mp a2;obtain⟨a5,b7⟩:=Jd ab.ok a3;have aa:=g3.trans g4;refine⟨(21:),λlr aq=>?_⟩;have k5:=Qf aq (.lst []);have b8:lm≠lr:=λz=>by rw [<-z,ae]at aq;cases aq
  have bn:=hW.same (aa.trans k5);refine⟨_,rfl,lw,wts ks,rfl,wdA bn,wdB bn,wdC ab.ok,wdD ab.ok,λd hd=>⟨_,rfl,d,.ref kd.2.2.1,rfl,XZ Qb (by rw [<-a4];exact b7),kd.2.2.1,rfl,?_⟩⟩;have k6:=Qf hd (.dK (wkv ks));have bo:=k5.trans k6;have a6:∀H',Same H4 H'->RowsL K H' kd.2.2.1 kd.2.2.2:=λH' g=>((hW.same (aa.trans g)).2 kd a3).2;refine⟨⟨_,(a6 _ bo).1⟩,?_⟩;refine let J_:J3:=(λj σ H'=>∃(U Y:Option V)(J:Nat)(us:List V)(ts:List Tm),σ=[some (.ref a),some (.ref lw),some (.ref ln),some (.ref lk),some (.int nu),some (.ref lo),some (.ref lm),some (.int (J:Int)),some (.str own[i]),some (.ref lr),U,Y,none]/\Same H4 H'/\H' lr=some (.lst us)/\TmAll K H' us ts/\ts.length=j/\∀(n:Nat) r t,kd.2.2.2[n]?=some r->ts[n]?=some t->TF own r.2.2.2 3 t);ZX (K:=K) (xs:=kd.2.2.2.map λt=>V.ref t.1) J_
   ⟨_,_,J,[],[],rfl,bo,k6 _ _ Qb,.nil,rfl,λn r t _ h=>by simp at h⟩ ?_ ?_ ?_
  .rintro j σ H' _ ⟨_,_,_,_,_,_,g,_⟩;exact(a6 _ g).1
  .rintro j x σ H5 hx ⟨U,Y,J,us,ts,rfl,g5,af,ar,ah,al⟩;have hj:j<kd.2.2.2.length:=by
    have:=(aK.mp hx).1
    simpa using this
   obtain rfl:x=.ref kd.2.2.2[j].1:=by
    rw [aI,aB hj]at hx;exact(aH hx).symm
   have bp:=aZ hj;have bq:=(a6 _ g5).2 _ bp;have br:=ab.kf kd a3;have ci:=br.ok.len;have cj:=ar.length;refine⟨_,rfl,_,_,1,_,rfl,rfl,bq.1,rfl,_,rfl,kd.2.2.2[j].2.2.1,lo,_,own,rfl,.inl bq.2,SqL.of (g5 _ _ (g4 _ _ M)),by have:=br.w3 _ bp;lia,by lia,λlc H6 a7 g6 a8 am a9 ba=>?_⟩;have as:=aa.trans (g5.trans g6);refine⟨_,rfl,.inl ⟨rfl,_,SqL.of (g6 _ _ af)⟩,_,rfl,_,rfl,a,cs,_,rfl,by lia,as.seq hS,λcc=>⟨_,rfl,_,rfl,cc,0,2,lc,ln,true,a7,ns,own,kd.2.2.2[j].2.2.2,rfl,by lia,rfl,by decide,by decide,SqL.of a8,am,a9,ba,as.seq be,bf,au,λv H7 t g7 hv ht=>?_⟩⟩;have an:=g7 _ _ (g6 _ _ af);refine⟨lr,us,v,rfl,rfl,an,by rw [QL];lia,?_⟩;refine⟨_,rfl,_,_,rfl,rfl,_,_,J+1,us++[v],ts++[t],rfl,λz u e=>?_,Qb,TmAll.append (ar.mono λ_ _ h=>((g6.trans g7).seqT h).put an) (.cons (hv.mono λ_ _ h=>h.put an) .nil),by rw [bE,bO,ah],λn r t' bb ai=>?_⟩
   .rw [Qi (Qj e aq)];exact g7 _ _ (g6 _ _ (g5 _ _ e))
   .by_cases hn:n<j
    .rw [cY (7:)]at ai;exact al n r t' bb ai
    .have bt:n=j:=by
      have:=(aK.mp ai).1;rw [bE,bO]at this;lia
     rw [dJ (7:),ah,bt,e_]at ai;obtain rfl:=aH ai;rw [bt,aB hj]at bb;obtain rfl:=aH bb;exact ht
  .rintro σ H5 ⟨U,Y,J,us,ts,rfl,g5,af,ar,ah,al⟩;rw [aC]at ah;have bc:=g5 _ _ ae;refine⟨_,rfl,.inl ⟨rfl,_,SqL.of bc⟩,_,rfl,_,rfl,(by show 2<=sizeLine;decide),λpm b9=>?_⟩;have k7:=Qf b9 (.tup [.str own[i],.ref lr]);have ao:=k7 _ _ bc;refine⟨lm,_,_,rfl,rfl,ao,by rw [aC,QL];lia,?_⟩;refine⟨_,_,_,_,J,Z++[(pm,own[i],lr,us,ts)],rfl,λz u e=>?_,by rw [Qb];simp,λm hm=>?_,?_⟩
   .rw [Qi (Qj e bm)];exact k7 _ _ (g5 _ _ (g4 _ _ e))
   .rcases a_.mp hm with hm | hm
    .exact⟨MdB.put ao ((ag m hm).1.same (g5.trans k7)),(ag m hm).2⟩
    .have:m=(pm,own[i],lr,us,ts):=by simpa using hm
     rw [this];refine⟨MdB.put ao ⟨SqT.of Qb,k7 _ _ af,aL b8,ar.mono λ_ _=>k7.seqT⟩,⟨⟨?_,λj r t h1 h2=>?_⟩,a2⟩⟩
     .show ts.length=(Qu ks own[i]).length;rw [<-a4,a5];exact ah
     .have bu:(Qu ks own[i])[j]?=some r:=h1;rw [<-a4,a5]at bu;exact al j r t bu h2
   .rw [aR,ac,b_,aB hi];rfl
 rintro σ H4 ⟨c8,c9,U,Y,J,Z,rfl,g4,ae,ag,ac⟩;rw [aC,bL (4:)]at ac;have bv:mks (mds Z)=own:=by
  rw [<-ac];show(Z.map MdT.md).map (·.1)=_;rw [bI];rfl
 have bx:Z.length=own.length:=by rw [<-ac,aC]
 have aa:=g3.trans g4;have bz:=g4 _ _ a1;refine⟨_,rfl,a,cs,2,rfl,by decide,aa.seq hS,λcc=>⟨_,rfl,lk,_,0,_,rfl,rfl,SqL.of bz,aw,(by show 1<=sizeLine;decide),λlb ca=>?_⟩⟩;have k5:=Qf ca (.lst [.str D[0]]);refine⟨_,rfl,lb,lo,[D[0]],own,rfl,.inr (SqL.of Qb),SqL.of (k5 _ _ (g4 _ _ M)),by show 1<=4;decide,by lia,λlc H6 a7 g6 a8 am a9 ba=>?_⟩;have as:=aa.trans (k5.trans g6);refine⟨_,rfl,cc,0,2,lc,ln,false,a7,ns,own,[D[0]],rfl,by lia,rfl,by decide,by decide,SqL.of a8,am,a9,ba,as.seq be,bf,au,λv H7 t g7 hv ht=>?_⟩;refine⟨_,rfl,_,rfl,_,rfl,(by show 3<=sizeLine;decide),λpt cb=>?_⟩;have k8:=Qf cb (.tup [.ref lw,v,.ref lm]);have bd:=k5.trans (g6.trans (g7.trans k8));have bw:ks[0]?=some ks[0]:=aB b1;have b0:D[0]=ks[0].2.1:=by
  have e:D[0]?=some ks[0].2.1:=by rw [ap,aI,bw];rfl
  rw [aB aj]at e;exact aH e
 refine q pt lm v _ Z t ks[0] (aa.trans bd) (SqT.of Qb) (bd _ _ ae) (λm hm=>⟨(ag m hm).1.same bd,by rw [bv];exact(ag m hm).2⟩) (7:) (7:) bw (hv.mono λ_ _=>k8.seqT) ?_;rw [bv,<-b0];exact ht
end
structure Nd where
 a:Addr
 kd:Str
 lv:Nat
 row:Option PNx
 mr:Int
 cl:Addr
 ch:List Nat
def SX:Option PNx->V
 | none=>.non
 | some r=>.ref r.1
def ndV(n:Nd):List V:=[.str n.kd,.int (n.lv:Int),SX n.row,.int n.mr,.ref n.cl]
abbrev NI(bs:List Nat):List V:=bs.map λ(b:Nat)=>V.int (b:Int)
abbrev NR(ns:List Nd):List V:=ns.map λn=>V.ref n.a
structure GH(H1 H:Hp)(ln lb:Addr)(ns:List Nd)(bare:List Nat):Prop where
 sm:Same H1 H
 hn:H ln=some (.lst (NR ns))
 hb:H lb=some (.lst (NI bare))
 ha:∀(i:Nat) n,ns[i]?=some n->H n.a=some (.lst (ndV n))
 hc:∀(i:Nat) n,ns[i]?=some n->H n.cl=some (.lst (NI n.ch))
 dd:∀(i j:Nat) n m,ns[i]?=some n->ns[j]?=some m->i≠j->n.a≠m.a/\n.cl≠m.cl
 dc:∀(i j:Nat) n m,ns[i]?=some n->ns[j]?=some m->n.a≠m.cl
 dl:∀(i:Nat) n,ns[i]?=some n->n.a≠ln/\n.a≠lb/\n.cl≠ln/\n.cl≠lb
 fr:∀(i:Nat) n,ns[i]?=some n->H1 n.a=none/\H1 n.cl=none
 ln1:H1 ln=none
 lb1:H1 lb=none
 lnb:ln≠lb
theorem U5{α:Type}{l:List α}{x:α}(h:l[i]?=some x):l.set i x=l:=by
 apply List.ext_getElem?;intro j;rw [cC]
 by_cases e:i=j
 .subst e;rw [aE rfl,aE (aK.mp h).1,h]
 .rw [aF e]
theorem QJ{α:Type}{l:List α}{x y:α}(h:(l.set i x)[j]?=some y):(j=i/\y=x/\i<l.length)\/(j≠i/\l[j]?=some y):=by
 rw [cC]at h
 by_cases e:i=j
 .subst e;rw [aE rfl]at h
  by_cases z:i<l.length
  .rw [aE z]at h;exact .inl ⟨rfl,(aH h).symm,z⟩
  .rw [aF z]at h;cases h
 .rw [aF e]at h;exact .inr ⟨aL e,h⟩
theorem Q3{α:Type}{l:List α}{x y:α}(h:(l++[x])[j]?=some y):(j=l.length/\y=x)\/(j<l.length/\l[j]?=some y):=by
 by_cases z:j<l.length
 .rw [cY z]at h;exact .inr ⟨z,h⟩
 .rw [dJ (7:)]at h;have D:j-l.length=0:=by
   have:=(aK.mp h).1;simp at this;lia
  rw [D]at h;exact .inl ⟨by lia,by simpa using h.symm⟩
section
variable{ns:List Nd}
theorem GH.same(g:Same H H')(h:GH H1 H ln lb ns bare):GH H1 H' ln lb ns bare:=
 ⟨h.sm.trans g,g _ _ h.hn,g _ _ h.hb,λi n e=>g _ _ (h.ha i n e),λi n e=>g _ _ (h.hc i n e),h.dd,h.dc,h.dl,h.fr,h.ln1,h.lb1,h.lnb⟩
theorem GH.setA(h:GH H1 H ln lb ns bare){n:Nd}(e:ns[i]?=some n)(n':Nd)(ea:n'.a=n.a)(ec:n'.cl=n.cl)(eh:n'.ch=n.ch):GH H1 (upd H n.a (.lst (ndV n'))) ln lb (ns.set i n') bare:=by
 obtain⟨U,Y,Z,d4⟩:=h.dl i n e;refine⟨λx u z=>?_,?_,?_,λj m F=>?_,λj m F=>?_,λj k m p F hp G=>?_,λj k m p F hp=>?_,λj m F=>?_,λj m F=>?_,h.ln1,h.lb1,h.lnb⟩
 .rw [Qi (Qj z (h.fr i n e).1)];exact h.sm _ _ z
 .rw [Qi (aL U),h.hn]
  congr 2
  unfold NR;rw [List.map_set,ea];refine(U5 (by rw [aI,e];rfl)).symm
 .rw [Qi (aL Y)];exact h.hb
 .rcases QJ F with⟨rfl,rfl,_⟩ | ⟨J,D⟩
  .rw [ea];exact Qb
  .rw [Qi (h.dd j i m n D e J).1];exact h.ha j m D
 .rcases QJ F with⟨rfl,rfl,_⟩ | ⟨J,D⟩
  .rw [ec,eh,Qi (aL (h.dc j j n n e e))];exact h.hc _ n e
  .rw [Qi (aL (h.dc i j n m e D))];exact h.hc j m D
 .rcases QJ F with⟨rfl,rfl,_⟩ | ⟨J,D⟩
  .rcases QJ hp with⟨rfl,rfl,_⟩ | ⟨M,hp⟩
   .exact absurd rfl G
   .rw [ea,ec];exact h.dd _ k n p e hp G
  .rcases QJ hp with⟨rfl,rfl,_⟩ | ⟨M,hp⟩
   .rw [ea,ec];exact h.dd j _ m n D e G
   .exact h.dd j k m p D hp G
 .rcases QJ F with⟨rfl,rfl,_⟩ | ⟨J,D⟩
  .rcases QJ hp with⟨rfl,rfl,_⟩ | ⟨M,hp⟩
   .rw [ea,ec];exact h.dc _ _ n n e e
   .rw [ea];exact h.dc _ k n p e hp
  .rcases QJ hp with⟨rfl,rfl,_⟩ | ⟨M,hp⟩
   .rw [ec];exact h.dc j _ m n D e
   .exact h.dc j k m p D hp
 .rcases QJ F with⟨rfl,rfl,_⟩ | ⟨J,D⟩
  .rw [ea,ec];exact h.dl _ n e
  .exact h.dl j m D
 .rcases QJ F with⟨rfl,rfl,_⟩ | ⟨J,D⟩
  .rw [ea,ec];exact h.fr _ n e
  .exact h.fr j m D
theorem GH.setC(h:GH H1 H ln lb ns bare){n:Nd}(e:ns[i]?=some n)(ch:List Nat):GH H1 (upd H n.cl (.lst (NI ch))) ln lb (ns.set i { n with ch:=ch }) bare:=by
 obtain⟨Z,d2,U,Y⟩:=h.dl i n e;refine⟨λx u z=>?_,?_,?_,λj m F=>?_,λj m F=>?_,λj k m p F hp G=>?_,λj k m p F hp=>?_,λj m F=>?_,λj m F=>?_,h.ln1,h.lb1,h.lnb⟩
 .rw [Qi (Qj z (h.fr i n e).2)];exact h.sm _ _ z
 .rw [Qi (aL U),h.hn]
  congr 2
  unfold NR;rw [List.map_set];refine(U5 (by rw [aI,e];rfl)).symm
 .rw [Qi (aL Y)];exact h.hb
 .rcases QJ F with⟨rfl,rfl,_⟩ | ⟨J,D⟩
  .rw [Qi (h.dc _ _ n n e e)];exact h.ha _ n e
  .rw [Qi (h.dc j i m n D e)];exact h.ha j m D
 .rcases QJ F with⟨rfl,rfl,_⟩ | ⟨J,D⟩
  .exact Qb
  .rw [Qi (h.dd j i m n D e J).2];exact h.hc j m D
 .rcases QJ F with⟨rfl,rfl,_⟩ | ⟨J,D⟩
  .rcases QJ hp with⟨rfl,rfl,_⟩ | ⟨M,hp⟩
   .exact absurd rfl G
   .exact h.dd _ k n p e hp G
  .rcases QJ hp with⟨rfl,rfl,_⟩ | ⟨M,hp⟩
   .exact h.dd j _ m n D e G
   .exact h.dd j k m p D hp G
 .rcases QJ F with⟨rfl,rfl,_⟩ | ⟨J,D⟩
  .rcases QJ hp with⟨rfl,rfl,_⟩ | ⟨M,hp⟩
   .exact h.dc _ _ n n e e
   .exact h.dc _ k n p e hp
  .rcases QJ hp with⟨rfl,rfl,_⟩ | ⟨M,hp⟩
   .exact h.dc j _ m n D e
   .exact h.dc j k m p D hp
 .rcases QJ F with⟨rfl,rfl,_⟩ | ⟨J,D⟩
  .exact h.dl _ n e
  .exact h.dl j m D
 .rcases QJ F with⟨rfl,rfl,_⟩ | ⟨J,D⟩
  .exact h.fr _ n e
  .exact h.fr j m D
theorem GH.setB(h:GH H1 H ln lb ns bare)(bare':List Nat):GH H1 (upd H lb (.lst (NI bare'))) ln lb ns bare':=by
 refine⟨λx u z=>?_,?_,Qb,λi n e=>?_,λi n e=>?_,h.dd,h.dc,h.dl,h.fr,h.ln1,h.lb1,h.lnb⟩
 .rw [Qi (Qj z h.lb1)];exact h.sm _ _ z
 .rw [Qi h.lnb];exact h.hn
 .rw [Qi (h.dl i n e).2.1];exact h.ha i n e
 .rw [Qi (h.dl i n e).2.2.2];exact h.hc i n e
theorem GH.add(h:GH H1 H ln lb ns bare)(g:Same H H2)(m:Nd)(ma:H m.a=none)(mc:H m.cl=none)(mm:m.a≠m.cl)(h1:H2 m.a=some (.lst (ndV m)))(h2:H2 m.cl=some (.lst (NI m.ch))):GH H1 (upd H2 ln (.lst (NR ns++[.ref m.a]))) ln lb (ns++[m]) bare:=by
 have k:=h.same g;have F:∀{x:Addr}{o:HO},H x=some o->x≠m.a:=λe z=>by rw [z,ma]at e;cases e
 have G:∀{x:Addr}{o:HO},H x=some o->x≠m.cl:=λe z=>by rw [z,mc]at e;cases e
 have M:=F h.hn;have U:=G h.hn;have Y:=F h.hb;have Z:=G h.hb;refine⟨λx u z=>?_,by rw [Qb];simp,?_,λj n e=>?_,λj n e=>?_,λi j n p hn hp aa=>?_,λi j n p hn hp=>?_,λj n e=>?_,λj n e=>?_,h.ln1,h.lb1,h.lnb⟩
 .rw [Qi (Qj z h.ln1)];exact k.sm _ _ z
 .rw [Qi (aL h.lnb)];exact k.hb
 .rcases Q3 e with⟨_,rfl⟩ | ⟨_,e⟩
  .rw [Qi (aL M)];exact h1
  .rw [Qi (h.dl j n e).1];exact k.ha j n e
 .rcases Q3 e with⟨_,rfl⟩ | ⟨_,e⟩
  .rw [Qi (aL U)];exact h2
  .rw [Qi (h.dl j n e).2.2.1];exact k.hc j n e
 .rcases Q3 hn with⟨hi,rfl⟩ | ⟨hi,D⟩
  .rcases Q3 hp with⟨J,rfl⟩ | ⟨J,hp⟩
   .lia
   .exact⟨aL (F (h.ha j p hp)),aL (G (h.hc j p hp))⟩
  .rcases Q3 hp with⟨J,rfl⟩ | ⟨J,hp⟩
   .exact⟨F (h.ha i n D),G (h.hc i n D)⟩
   .exact h.dd i j n p D hp aa
 .rcases Q3 hn with⟨hi,rfl⟩ | ⟨hi,D⟩
  .rcases Q3 hp with⟨J,rfl⟩ | ⟨J,hp⟩
   .exact mm
   .exact aL (F (h.hc j p hp))
  .rcases Q3 hp with⟨J,rfl⟩ | ⟨J,hp⟩
   .exact G (h.ha i n D)
   .exact h.dc i j n p D hp
 .rcases Q3 e with⟨_,rfl⟩ | ⟨_,e⟩
  .exact⟨aL M,aL Y,aL U,aL Z⟩
  .exact h.dl j n e
 .rcases Q3 e with⟨_,rfl⟩ | ⟨_,e⟩
  .exact⟨h.sm.free ma,h.sm.free mc⟩
  .exact h.fr j n e
end
abbrev sg(ns:List Nd):List (Str×Nat):=ns.map λn=>(n.kd,n.lv)
def Kid(s:List (Str×Nat))(i:Nat)(n:Nd)(r:PNx):Prop:=∀(j c:Nat),n.ch[j]?=some c->i<c/\∃k,s[c]?=some (k,n.lv+1)/\r.2.2.2[j]?=some k
structure NOk(ks:List KdT)(top:Nat)(s:List (Str×Nat))(i:Nat)(n:Nd)(w:Nat):Prop where
 l1:1<=n.lv
 l2:n.lv<=top
 kd:n.kd∈ks.map λk=>k.2.1
 no:n.row=none->n.ch=[]
 ro:∀r,n.row=some r->r∈Qu ks n.kd/\n.ch.length=w/\Kid s i n r
def wOf(n:Nd):Nat:=match n.row with
 | none=>0
 | some r=>r.2.2.2.length
def AllOk(ks:List KdT)(top:Nat)(ns:List Nd):Prop:=∀(i:Nat) n,ns[i]?=some n->NOk ks top (sg ns) i n (wOf n)
theorem Kid.mono{s s':List (Str×Nat)}{n:Nd}{r:PNx}(h:Kid s i n r)(k:∀(c:Nat) x,s[c]?=some x->s'[c]?=some x):Kid s' i n r:=λj c e=>by
 obtain⟨h1,kd,h2,z⟩:=h j c e;exact⟨h1,kd,k _ _ h2,z⟩
theorem NOk.mono{top:Nat}{s s':List (Str×Nat)}{n:Nd}{w:Nat}(h:NOk ks top s i n w)(k:∀(c:Nat) x,s[c]?=some x->s'[c]?=some x):NOk ks top s' i n w:=
 ⟨h.l1,h.l2,h.kd,h.no,λr e=>⟨(h.ro r e).1,(h.ro r e).2.1,(h.ro r e).2.2.mono k⟩⟩
theorem VJ{ns:List Nd}{i:Nat}{n n':Nd}(e:ns[i]?=some n)(e1:n'.kd=n.kd)(e2:n'.lv=n.lv):sg (ns.set i n')=sg ns:=by
 unfold sg;rw [List.map_set,e1,e2];exact U5 (by rw [aI,e];rfl)
theorem OY{ns:List Nd}{m:Nd}(c:Nat)(x:Str×Nat)(h:(sg ns)[c]?=some x):(sg (ns++[m]))[c]?=some x:=by
 unfold sg at h ⊢;rw [aR,cY (aK.mp h).1];exact h
structure BOk(ns:List Nd)(bare:List Nat):Prop where
 nd:bare.Nodup
 no:∀b∈bare,∃n,ns[b]?=some n/\n.row=none
 bl:bare.length<=ns.length
end K27
variable{n':K27.Nd}{ns:List K27.Nd}
namespace K27
open PySem L2 TM TT K9 K11
theorem AllOk.setM{top:Nat}{n:Nd}(h:AllOk ks top ns)(e:ns[i]?=some n)(x:Int):AllOk ks top (ns.set i { n with mr:=x }):=by
 intro j m z;rw [VJ (n':={ n with mr:=x }) e rfl rfl];rcases QJ z with⟨rfl,rfl,_⟩ | ⟨D,z⟩
 .have k:=h j n e;exact⟨k.l1,k.l2,k.kd,k.no,k.ro⟩
 .exact h j m z
theorem BOk.setM{n:Nd}(h:BOk ns bare)(e:ns[i]?=some n)(x:Int):BOk (ns.set i { n with mr:=x }) bare:=by
 refine⟨h.nd,λb G=>?_,by rw [bQ];exact h.bl⟩;obtain⟨m,D,F⟩:=h.no b G
 by_cases z:i=b
 .subst z;rw [e]at D;obtain rfl:=aH D;refine⟨{ n with mr:=x },?_,F⟩;rw [cC,aE rfl,aE (aK.mp e).1]
 .exact⟨m,by rw [cC,aF z];exact D,F⟩
theorem Ur{ns:List Nd}{i:Nat}{n n':Nd}{k:Str}(e:ns[i]?=some n)(ek:n'.kd=n.kd)(h:∃m,ns[0]?=some m/\m.kd=k):∃m,(ns.set i n')[0]?=some m/\m.kd=k:=by
 obtain⟨m,D,F⟩:=h
 by_cases z:i=0
 .subst z;rw [e]at D;obtain rfl:=aH D;refine⟨n',?_,ek.trans F⟩;rw [cC,aE rfl,aE (aK.mp e).1]
 .exact⟨m,by rw [cC,aF z];exact D,F⟩
theorem UI{ns:List Nd}{i:Nat}{n n':Nd}(e:ns[i]?=some n):(ns.set i n')[i]?=some n':=by
 rw [cC,aE rfl,aE (aK.mp e).1]
structure Mid(ks:List KdT)(top:Nat)(kn0:Str)(spot:Nat)(kd:Str)(lv:Nat)(r:PNx)(L j:Nat)(ns:List Nd)(bare:List Nat):Prop where
 len:ns.length=L+j
 sp:∃n,ns[spot]?=some n/\n.row=some r/\n.kd=kd/\n.lv=lv/\NOk ks top (sg ns) spot n j
 ot:∀(i:Nat) m,i≠spot->ns[i]?=some m->NOk ks top (sg ns) i m (wOf m)
 bk:BOk ns bare
 k0:∃m,ns[0]?=some m/\m.kd=kn0
 sl:spot<L
variable{top:Nat}{kn0:Str}{spot:Nat}{lv:Nat}{r:PNx}{L:Nat}
theorem Mid.start{n:Nd}(h:AllOk ks top ns)(b:BOk ns bare)(e:ns[spot]?=some n)(hr:n.row=none)(hb:spot∉bare)(hk:r∈Qu ks n.kd)(h0:∃m,ns[0]?=some m/\m.kd=kn0):Mid ks top kn0 spot n.kd n.lv r ns.length 0 (ns.set spot { n with row:=some r }) bare:=by
 have k:=h spot n e;have G:sg (ns.set spot { n with row:=some r })=sg ns:=VJ e rfl rfl;refine⟨by rw [bQ];rfl,⟨_,UI e,rfl,rfl,rfl,?_⟩,λi m hi D=>?_,⟨b.nd,λx J=>?_,by rw [bQ];exact b.bl⟩,Ur e rfl h0,(aK.mp e).1⟩
 .rw [G];refine⟨k.l1,k.l2,k.kd,λz=>(nomatch z),λr' e'=>?_⟩;obtain rfl:r=r':=aH e';have M:=k.no hr;refine⟨hk,by show n.ch.length=0;rw [M];rfl,λa c U=>?_⟩;have F:n.ch[a]?=some c:=U;rw [M]at F;simp at F
 .rw [G];rcases QJ D with⟨z,_,_⟩ | ⟨_,D⟩
  .exact absurd z hi
  .exact h i m D
 .obtain⟨m,D,Y⟩:=b.no x J;have Z:spot≠x:=λz=>hb (z ▸ J);exact⟨m,by rw [cC,aF Z];exact D,Y⟩
theorem Mid.next{n m:Nd}{k:Str}(h:Mid ks top kn0 spot kd lv r L j ns bare)(e:ns[spot]?=some n)(ek:r.2.2.2[j]?=some k)(hl:lv+1<=top)(hkk:k∈ks.map λk=>k.2.1)(m1:m.kd=k)(m2:m.lv=lv+1)(m3:m.row=none)(m4:m.ch=[]):
 Mid ks top kn0 spot kd lv r L (j+1) (ns.set spot { n with ch:=n.ch++[L+j] }++[m]) (bare++[L+j]):=by
 obtain⟨n0,e0,Y,ad,aa,Z⟩:=h.sp;rw [e]at e0;obtain rfl:=aH e0;have ae:=h.sl;have G:=h.len;have af:sg (ns.set spot { n with ch:=n.ch++[L+j] })=sg ns:=VJ e rfl rfl;have mono:∀(c:Nat) x,(sg ns)[c]?=some x->(sg (ns.set spot { n with ch:=n.ch++[L+j] }++[m]))[c]?=some x:=λc x hx=>OY c x (by rw [af];exact hx);have ab:(sg (ns.set spot { n with ch:=n.ch++[L+j] }++[m]))[L+j]?=some (k,lv+1):=by
  unfold sg;rw [aR,dJ (by rw [aC,bQ];lia),aC,bQ,G,e_];show some (m.kd,m.lv)=_;rw [m1,m2]
 have ac:spot<(ns.set spot { n with ch:=n.ch++[L+j] }).length:=by rw [bQ];lia
 refine⟨by rw [bE,bQ,bO];lia,⟨{ n with ch:=n.ch++[L+j] },?_,Y,ad,aa,?_⟩,λi m' hi F=>?_,⟨?_,λx hx=>?_,by rw [bE,bE,bQ,bO,bO];exact Nat.add_le_add_right h.bk.bl 1⟩,?_,ae⟩
 .rw [cY ac];exact UI e
 .refine⟨Z.l1,Z.l2,Z.kd,λz=>?_,λr' e'=>?_⟩
  .have z':n.row=none:=z;rw [Y]at z';cases z'
  .have J:n.row=some r':=e';obtain⟨h1,h2,h3⟩:=Z.ro r' J;have er:r=r':=by rw [Y]at J;exact aH J
   refine⟨h1,by rw [bE,bO,h2],λa c M=>?_⟩;rcases Q3 M with⟨ha,hc⟩ | ⟨ha,M⟩
   .rw [hc,ha,h2];exact⟨by lia,k,by rw [ab];show some (k,lv+1)=some (k,n.lv+1);rw [aa],by rw [<-er];exact ek⟩
   .obtain⟨i1,kk,i2,i3⟩:=h3 a c M;exact⟨i1,kk,mono _ _ i2,i3⟩
 .rcases Q3 F with⟨ag,rfl⟩ | ⟨ag,F⟩
  .refine⟨by lia,by lia,by rw [m1];exact hkk,λ_=>m4,λr' e'=>?_⟩;rw [m3]at e';cases e'
  .rcases QJ F with⟨z,_,_⟩ | ⟨_,F⟩
   .exact absurd z hi
   .exact(h.ot i m' hi F).mono mono
 .rw [List.nodup_append];refine⟨h.bk.nd,by simp,λa ha b hb=>?_⟩;have:b=L+j:=by simpa using hb
  obtain⟨q,D,_⟩:=h.bk.no a ha;have:=(aK.mp D).1;lia
 .rcases a_.mp hx with hx | hx
  .obtain⟨q,D,U⟩:=h.bk.no x hx;have ah:=(aK.mp D).1;have ai:spot≠x:=λz=>by
    subst z;rw [e]at D;obtain rfl:=aH D;rw [Y]at U;cases U
   refine⟨q,?_,U⟩;rw [cY (by rw [bQ];exact ah),cC,aF ai];exact D
  .have hx:x=L+j:=by simpa using hx
   refine⟨m,?_,m3⟩;rw [hx,dJ (by rw [bQ];lia),bQ,G,e_]
   rfl
 .obtain⟨q,D,hk⟩:=Ur (n':={ n with ch:=n.ch++[L+j] }) e rfl h.k0;exact⟨q,by rw [cY (aK.mp D).1];exact D,hk⟩
theorem Mid.done(h:Mid ks top kn0 spot kd lv r L r.2.2.2.length ns bare):AllOk ks top ns:=by
 intro i m D
 by_cases z:i=spot
 .subst z;obtain⟨n,e,F,_,_,G⟩:=h.sp;rw [e]at D;obtain rfl:=aH D;have:wOf n=r.2.2.2.length:=by unfold wOf;rw [F]
  rw [this];exact G
 .exact h.ot i m z D
def Uv(r:PNx):PyData:=.tuple [.str r.2.1,.tuple (r.2.2.2.map .str)]
theorem Ga{K:Fg}:∀{rs:List PNx},(∀t∈rs,RowAt K H t)->RdAll K H (rs.map λt=>V.ref t.1) (rs.map Uv)
 | [],_=>.nil
 | t::r,h=>.cons (.tup (h t bA).1 (.cons (.str _) (.cons (.tup (h t bA).2 (Ue _)) .nil))) (Ga λu z=>h u (bC _ z))
theorem Vc:∀{rs:List PNx},(∀r∈rs,PyData.strOk r.2.1=true)->(∀r∈rs,∀x∈r.2.2.2,PyData.strOk x=true)->PyData.canLayAll0 (rs.map Uv)=true
 | [],_,_=>by simp [PyData.canLayAll0]
 | r::rs,h1,h2=>by
  simp only [aS,PyData.canLayAll0,Uv,PyData.canLay0,h1 r bA,Yz _ (h2 r bA),eJ,Bool.true_and];exact Vc (λu z=>h1 u (bC _ z)) λu z=>h2 u (bC _ z)
theorem WL(ds:List PyData):PyData.eqv (.list ds) (.list [])=ds.isEmpty:=by
 cases ds<;>simp [PyData.eqv,PyData.eqvAll]
theorem WI(ds:List PyData):PyData.eqv (.tuple ds) (.tuple [])=ds.isEmpty:=by
 cases ds<;>simp [PyData.eqv,PyData.eqvAll]
theorem R5(bs:List Nat):NI bs=(bs.map λ(b:Nat)=>(b:Int)).map V.int:=by
 unfold NI;rw [bI];rfl
theorem JU{α β:Type}(f:α->β):∀(l:List α)(k:Nat),(l.map f).eraseIdx k=(l.eraseIdx k).map f
 | [],k=>by simp
 | x::r,0=>by simp
 | x::r,k+1=>by
  simp only [aS,List.eraseIdx_cons_succ];rw [JU f r k]
theorem OC{k:Nat}(h:k<n):seqIndex? ((k:Nat):Int) n=some k:=by
 have:=PySem.StrLaws.seqIndex_nonneg (i:=((k:Nat):Int)) (n:=n) (7:) (7:)
 rwa [bF]at this
theorem ZB{α:Type}{x y:α}(h:[x][i]?=some y):i=0/\y=x:=by
 cases i with
 | zero=>exact⟨rfl,(aH h).symm⟩
 | succ n=>simp at h
end K27
namespace K27
open PySem L2 TM TT K9 K11
def Xv(K:Fg):Sp:=λvs H Q _=>∃(lw lc:Addr)(ks:List KdT)(cs:List Int)(top:Nat)(k0:KdT),vs=[.ref lw,.ref lc,.int (top:Int)]/\WoodAt K H lw ks/\WF ks/\ks[0]?=some k0/\SqL K H lc (cs.map V.int)/\cs.length<=60/\1<=top/\top<=40/\
 ∀(ln lb:Addr)(H1 H':Hp)(ns:List Nd)(bare:List Nat),Same H H1->GH H1 H' ln lb ns bare->AllOk ks top ns->0<ns.length->ns.length<=200->(∃n,ns[0]?=some n/\n.kd=k0.2.1)->Q (.ref ln) H'
abbrev PD:List Str:=["_law_wood_here","_law_cells","_law_top","_law_rows","_law_nodes","_law_bare","_law_cell","_law_number","_law_spot","_law_full","_law_kind"]
theorem Zo{n:Nd}(e:ns[i]?=some n):atI (NR ns) ((i:Nat):Int)=some (.ref n.a):=Qs (by rw [aI,e];rfl)
theorem Jo{k:Str}(h:k∈ks.map λk=>k.2.1)(ok:WoodOk ks):∃kd∈ks,kd.2.1=k/\Qu ks k=kd.2.2.2/\ks.find? (λx=>decide (x.2.1=k))=some kd:=by
 obtain⟨kd,z,rfl⟩:=aT.mp h;obtain⟨e1,e2⟩:=Jd ok z;exact⟨kd,z,rfl,e1,e2⟩
theorem Ln{l:List Nat}{x b:Nat}(hn:l.Nodup)(hx:l[i]?=some x)(hb:b∈l.eraseIdx i):b∈l/\b≠x:=by
 refine⟨List.mem_of_mem_eraseIdx hb,λz=>?_⟩;subst z;obtain⟨j,F,e⟩:=cO hb;rw [List.getElem_eraseIdx]at e;obtain⟨hi,D⟩:=aK.mp hx;split at e
 .rename_i h;have:=(gK hn).mp (e.trans D.symm);lia
 .rename_i h;have:=(gK hn).mp (e.trans D.symm);lia
section
variable{K:Fg}
theorem Zk:FnScope PD ["_law_wood_here","_law_cells","_law_top"] (defScope Jk):=(1:)
theorem LW(F:Fun K "_law_grown" "_law_grown" Jk f fd)(G:Gm mg)(RM:Fn P w K mg base 1 "_law_mixed" ["_law_cell","_law_k"] Zt)(RK:Fn P w K mg base 2 "_law_mark" ["_law_cell","_law_number"] VH):FnOk P w K mg base CX0 3 f fd ["_law_wood_here","_law_cells","_law_top"] (Xv K):=by
 refine F.ok Zk (13:) (λbr A outer s H vs Q E hr h=>?_)
 .obtain⟨lw,lc,ks,cs,top,k0,rfl,_⟩:=h
  rfl
 obtain⟨lw,lc,ks,cs,top,k0,rfl,hW,ae,bt,cn,d2,co,dw,q⟩:=h;have au:∀m:Nat,m<=64->(A.deeper (PyProof.Rows.envOfC "_law_grown" (defScope Jk) s.heap.objs.size f br)).units+m<cLine:=λm hm=>by have:=hr.units;lia
 refine⟨_,(Qe (Qm (i:=3) Zk.nd rfl (5:) (QK (Zs rfl) rfl G.dct fB (Qa (pv 0) Qc)))
  (Qe (Qm (i:=4) Zk.nd rfl (bY rfl) (QH (Qa ((QH (Qa (Qg Qk (Qg Ql (pv 0) Qd (2:)) Qd (2:)) (Qa (Qd) (Qa (Z8) (Qa (Qd) (Qa (QH Qc) Qc))))))) Qc)))
  (Qe (Qm (i:=5) Zk.nd rfl (5:) (QH (Qa (Qd) Qc)))
  (Qe (QO a' rfl (Q1 (pv 1)) (Qt (i:=6) Zk.nd rfl (5:)) (Qe (Qm (i:=7) Zk.nd rfl (5:) (Qr RM hr (Qa (pv 6) (Qa (Qd) Qc))))
  (Qe (Qm (i:=8) Zk.nd rfl (bY rfl) (Qo QB (pv 7) (Qq Qn rfl G.len aX (Qa (pv 4) Qc))))
  (Qe (Qm (i:=9) Zk.nd rfl (5:) (QH Qc))
  (Qe (YR (QP (Qx Yc (pv 5) (QH Qc) (Qy _)) (Qe (Qm (i:=8) Zk.nd rfl (bY rfl) (ZJ cN PySem.F.slot_list_pop PySem.F.type_list_pop LS (pv 5) (Qa (M7 (Qg Ql (QH (Qa (Qo QB (Qo Q6 (pv 7) Qd) (Qq Qn rfl G.len aX (Qa (pv 5) Qc))) (Qa (Qo Ye (Qq Qn rfl G.len aX (Qa (pv 5) Qc)) Qd) Qc))) (Qo QB (pv 7) Qd) (2:))) Qc)))
  (Qh (ZA (i:=9) (CompG.many (xs:=["_law_row"]) (caps:=["_law_nodes","_law_spot","_law_top"]) (cap:=[4,8,2]) (cs:=[_,_,_]) rfl rfl (0:) (0:) (0:) (0:) (0:) (0:) rfl rfl rfl) rfl (Q1 (Zh (Zp hr) (pv 3) (Qg Ql (Qg Ql (pv 4) (pv 8) (2:)) Qd (2:)) (2:))) (Zm (CompG.many (xs:=["_law_row"]) (caps:=["_law_nodes","_law_spot","_law_top"]) (cap:=[4,8,2]) (cs:=[_,_,_]) rfl rfl (0:) (0:) (0:) (0:) (0:) (0:) rfl rfl rfl))
   (λ_ _ _ _=>Vi (PW.pt (pw_and (Qx (r:=N0 K (A.deeper (PyProof.Rows.envOfC "_law_grown" (defScope Jk) s.heap.objs.size f br)) true) Yc (Qg (r:=Lp K) Qk (pv 0) Qd (2:)) (QE Qc) (Qy _)) (pw_and1 (Qx GQ (Qg (r:=Uj K) Ql (Qg (r:=Uj K) Ql (pv 1) (pv 2) (2:)) Qd (2:)) (pv 3) (Qy _)))))) (λ_ _ _ _=>pv 0) Zk.nd rfl rfl))) Qw))
  (Qe (YR (QP (Qx Yc (pv 9) (QH Qc) (Qy _)) (Qe (YQ (Qg Ql (pv 9) (Qo QB (Qo Q6 (pv 7) Qd) (Qq Qn rfl G.len aX (Qa (pv 9) Qc))) (2:)) (X5 (Qg Ql (pv 4) (pv 8) (2:)) Qd Uh))
  (Qh (QO a' rfl (Yg (Qg Qk (Qg Ql (Qg Ql (pv 4) (pv 8) (2:)) Qd (2:)) Qd (2:))) (Qt (i:=10) Zk.nd rfl (5:)) (Qe (QS (ZJ cN dM dN Q4 (Qg Ql (Qg Ql (pv 4) (pv 8) (2:)) Qd (2:)) (Qa (Qq Qn rfl G.len aX (Qa (pv 4) Qc)) Qc)))
  (Qe (QS (ZJ cN dM dN Q4 (pv 5) (Qa (Qq Qn rfl G.len aX (Qa (pv 4) Qc)) Qc)))
  (Qh (QS (ZJ cN dM dN Q4 (pv 4) (Qa ((QH (Qa (pv 10) (Qa (Qo QI (Qg Ql (Qg Ql (pv 4) (pv 8) (2:)) Qd (2:)) Qd) (Qa (Z8) (Qa (Qo Ye (Qo QB (Qo Q6 (pv 7) (Qo QI Qd (Qq Qn rfl G.len aX (Qa (pv 4) Qc)))) Qd) Qd) (Qa (QH Qc) Qc))))))) Qc))))))))) Qw))
  (Qh (YQ (Qr RK hr (Qa (pv 6) (Qa (pv 7) Qc))) (X5 (Qg Ql (pv 4) (pv 8) (2:)) Qd Uh)))))))))
  (Qh (Qp (pv 4))))))),?_⟩
 try dsimp only [QC,Cx.nox]
 refine L2.let4 ?_
 intros
 have a9:k0∈ks:=aN bt;have d3:=ae.ne;refine⟨_,rfl,lw,wts ks,rfl,wdA hW,wdB hW,wdC ae.ok,wdD ae.ok,λd hd=>?_⟩;have k1:=Qf hd (.dK (wkv ks));have ao:=hW.same k1;have bu:upd H d (.dK (wkv ks)) d=some (.dK (wkv ks)):=Qb;have av:=k1.seq cn;generalize upd H d (.dK (wkv ks))=H1 at k1 ao bu av;have ca:atI (ks.map λk=>V.ref k.1) 0=some (.ref k0.1):=Qs (j:=0) (by rw [aI,bt];rfl);refine⟨_,rfl,lw,_,0,_,rfl,rfl,ao.1,ca,k0.1,_,0,_,rfl,rfl,(ao.2 k0 a9).1,rfl,(21:),λl1 bv=>⟨(by show 5<=sizeLine;decide),λl2 ba=>⟨(by show 1<=sizeLine;decide),λln ay=>⟨(by show 1<=sizeLine;decide),λlb ap=>?_⟩⟩⟩⟩;have cp:∃ns:List Nd,GH H1 (upd (upd (upd (upd H1 l1 (.lst [])) l2 (.lst [.str k0.2.1,.int 1,.non,.int 0,.ref l1])) ln (.lst [.ref l2])) lb (.lst [.int 0])) ln lb ns [0]/\AllOk ks top ns/\BOk ns [0]/\ns.length=1/\∃n,ns[0]?=some n/\n.kd=k0.2.1:=by
  have s1:=Qf bv (.lst []);have s2:=Qf ba (.lst [.str k0.2.1,.int 1,.non,.int 0,.ref l1]);have s3:=Qf ay (.lst [.ref l2]);have s4:=Qf ap (.lst [.int 0]);have cq:=Qj Qb ba;have cr:=Qj (s2 _ _ Qb) ay;have ct:=Qj Qb ay;have cu:=Qj (s3 _ _ (s2 _ _ Qb)) ap;have cv:=Qj (s3 _ _ Qb) ap;have bb:=Qj Qb ap;have f2:=s1.free ba;have fn:=s1.free (s2.free ay);have fb:=s1.free (s2.free (s3.free ap));refine⟨[⟨l2,k0.2.1,1,none,0,l1,[]⟩],⟨s1.trans (s2.trans (s3.trans s4)),s4 _ _ Qb,Qb,λi n e=>?_,λi n e=>?_,λi j n m e1 e2 d4=>?_,λi j n m e1 e2=>?_,λi n e=>?_,λi n e=>?_,fn,fb,bb⟩,λi n e=>?_,⟨by simp,λb hb=>?_,by show 1<=1;lia⟩,rfl,_,rfl,rfl⟩
  .obtain⟨rfl,rfl⟩:=ZB e;exact s4 _ _ (s3 _ _ Qb)
  .obtain⟨rfl,rfl⟩:=ZB e;exact s4 _ _ (s3 _ _ (s2 _ _ Qb))
  .have:=(ZB e1).1;have:=(ZB e2).1;lia
  .obtain⟨rfl,rfl⟩:=ZB e1;obtain⟨rfl,rfl⟩:=ZB e2;exact aL cq
  .obtain⟨rfl,rfl⟩:=ZB e;exact⟨ct,cv,cr,cu⟩
  .obtain⟨rfl,rfl⟩:=ZB e;exact⟨f2,bv⟩
  .obtain⟨rfl,rfl⟩:=ZB e;exact⟨bB _,co,aT.mpr ⟨k0,a9,rfl⟩,λ_=>rfl,λr z=>(nomatch z)⟩
  .have:b=0:=by simpa using hb
   subst this;exact⟨_,rfl,rfl⟩
 obtain⟨cw,bc,cx,cy,d5,cz⟩:=cp;generalize upd (upd (upd (upd H1 l1 (.lst [])) l2 (.lst [.str k0.2.1,.int 1,.non,.int 0,.ref l1])) ln (.lst [.ref l2])) lb (.lst [.int 0])=H2 at bc;refine⟨_,rfl,lc,rfl,⟨_,bc.sm.seq av⟩,?_⟩;refine let J_:J3:=(λi σ H'=>∃(c6 c7 c8 c9 ah:Option V)(ns:List Nd)(bare:List Nat),σ=[some (.ref lw),some (.ref lc),some (.int (top:Int)),some (.ref d),some (.ref ln),some (.ref lb),c6,c7,c8,c9,ah]/\GH H1 H' ln lb ns bare/\AllOk ks top ns/\BOk ns bare/\0<ns.length/\ns.length<=1+3*i/\∃n,ns[0]?=some n/\n.kd=k0.2.1);ZX (K:=K) (xs:=cs.map V.int) J_
  ⟨none,none,none,none,none,cw,[0],rfl,bc,cx,cy,by lia,by lia,cz⟩ ?_ ?_ ?_
 .rintro i σ H' _ ⟨_,_,_,_,_,_,_,_,hG,_⟩;exact hG.sm.seq av
 .rintro i x σ H3 hx ⟨c6,c7,c8,c9,ah,ns,bare,rfl,hG,hA,hB,bd,bw,hF⟩;obtain⟨c,rfl⟩: ∃c:Int,x=.int c:=by
   obtain⟨c,_,rfl⟩:=aT.mp (aN hx);exact⟨c,rfl⟩
  have hi:i<cs.length:=by
   have:=(aK.mp hx).1
   simpa using this
  have be:(NR ns).length=ns.length:=aC ..;have aq:(NI bare).length=bare.length:=aC ..;refine⟨_,rfl,c,5,rfl,by decide,by decide,λZ n0 n1=>?_⟩;refine⟨_,rfl,_,rfl,ln,_,rfl,.inl (SqL.of hG.hn),_,_,rfl,rfl,(by rw [be];lia),?_⟩;obtain⟨ar,cc,ce⟩: ∃ar:Nat,Z%(((NR ns).length:Nat):Int)=(ar:Int)/\ar<ns.length:=by
   have a0:0<=Z%(((NR ns).length:Nat):Int):=bR _ (by rw [be];lia);have a1:Z%(((NR ns).length:Nat):Int)<(((NR ns).length:Nat):Int):=bP _ (by rw [be];lia);exact⟨(Z%(((NR ns).length:Nat):Int)).toNat,by lia,by lia⟩
  refine⟨(21:),λlf c0=>?_⟩;have k4:=Qf c0 (.lst []);have bx:=hG.same k4;have bz:upd H3 lf (.lst []) lf=some (.lst []):=Qb;dsimp only;rw [cc];generalize upd H3 lf (.lst [])=H4 at k4 bx bz;refine let J_:J2:=(λcf H'=>∃(spot:Nat)(n:Nd)(D:List Nat)(lf:Addr)(U:List PNx),cf=[some (.ref lw),some (.ref lc),some (.int (top:Int)),some (.ref d),some (.ref ln),some (.ref lb),some (.int c),some (.int Z),some (.int (spot:Int)),some (.ref lf),ah]/\GH H1 H' ln lb ns D/\BOk ns D/\ns[spot]?=some n/\H' lf=some (.lst (U.map λr=>V.ref r.1))/\(∀r∈U,r∈Qu ks n.kd)/\U.length<=10/\(U≠[]->n.row=none/\n.lv<top/\spot∉D));⟨J_,?_,?_⟩
  .refine⟨_,rfl,(21:),λle bf=>?_⟩;have ke:=Qf bf (.lst []);have aa:=bx.same ke;have cg:(PyData.list ((bare.map λ(b:Nat)=>(b:Int)).map PyData.int)).canLay0=true:=by simp only [PyData.canLay0];exact Jh _
   refine⟨.list ((bare.map λ(b:Nat)=>(b:Int)).map PyData.int),.list [],.lst (SqL.of aa.hb) (by rw [R5];exact X3 _),.lst (SqL.of Qb) .nil,cg,by simp [PyData.canLay0,PyData.canLayAll0],au _ (aY (fG _ _) (by simp [PyData.depth,PyData.depthAll])),_,rfl,?_⟩;rw [aE rfl,WL];have ak:=ke _ _ bz;generalize upd H4 le (.lst [])=H5 at aa ak
   by_cases as:bare=[]
   .rw [as];obtain⟨n,hn⟩: ∃n,ns[ar]?=some n:=⟨_,aB ce⟩;exact Zf ⟨ar,n,[],lf,[],rfl,by rw [<-as];exact aa,by rw [<-as];exact hB,hn,ak,λr hr=>(nomatch hr),by show 0<=10;lia,λz=>absurd rfl z⟩
   have d6:0<bare.length:=hJ.mpr as;have c1:(!((bare.map λ(b:Nat)=>(b:Int)).map PyData.int).isEmpty)=true:=by
    cases bg:bare with
    | nil=>exact absurd bg as
    | cons x r=>rfl
   refine Z6 (λ_=>?_) (λz=>absurd c1 z);refine⟨_,rfl,.inl ⟨rfl,_,SqL.of aa.hb⟩,⟨λv H'=>Same H5 H'/\∃k:Nat,v=.int (k:Int)/\k<bare.length,?_,?_⟩⟩
   .refine⟨_,rfl,_,_,rfl,rfl,(22:),_,rfl,lb,_,rfl,.inl (SqL.of aa.hb),_,_,rfl,rfl,(by rw [aq];lia),_,rfl,lb,_,rfl,.inl (SqL.of aa.hb),_,_,rfl,rfl,(by show 2<=sizeLine;decide),λlp c2=>?_⟩;have kp:=Qf c2 (.lst [.int (Z/4%(((NI bare).length:Nat):Int)),.int ((((NI bare).length:Nat):Int)-1)]);have a0:0<=Z/4%(((NI bare).length:Nat):Int):=bR _ (by rw [aq];lia);have a1:Z/4%(((NI bare).length:Nat):Int)<(((NI bare).length:Nat):Int):=bP _ (by rw [aq];lia);have a2:Z/4%(((NI bare).length:Nat):Int)<(bare.length:Int):=by lia
    have p0:0<=Z%2:=bR _ (18:);have p1:Z%2<2:=bP _ (18:);rcases(show Z%2=0\/Z%2=1 by lia)with hp | hp
    .refine⟨_,rfl,_,_,rfl,rfl,(by show(0:Int)<2;decide),lp,_,_,.int (Z/4%(((NI bare).length:Nat):Int)),rfl,rfl,SqL.of Qb,(by show atI _ (Z%2)=_;rw [hp];rfl),kp,(Z/4%(((NI bare).length:Nat):Int)).toNat,by rw [cG a0],by lia⟩
    .refine⟨_,rfl,_,_,rfl,rfl,(by show(0:Int)<2;decide),lp,_,_,.int ((((NI bare).length:Nat):Int)-1),rfl,rfl,SqL.of Qb,(by show atI _ (Z%2)=_;rw [hp];rfl),kp,bare.length-1,by rw [aq,show((bare.length:Nat):Int)-1=((bare.length-1:Nat):Int)by lia],by lia⟩
   rintro v H6 ⟨g6,k,rfl,hk⟩;have az:=aa.same g6;have b0:bare[k]?=some bare[k]:=aB hk;have dy:=hB.bl;refine⟨lb,_,_,k,.int ((bare[k]:Nat):Int),rfl,rfl,az.hb,by lia,by lia,by rw [aq];exact OC hk,by rw [aI,b0];rfl,?_⟩;rw [show(NI bare).eraseIdx k=NI (bare.eraseIdx k)from JU _ _ _];have Y:=az.setB (bare.eraseIdx k);have b1:=Y.sm _ _ bu;generalize upd H6 lb (.lst (NI (bare.eraseIdx k)))=H7 at Y b1;obtain⟨n,hn,bh⟩:=hB.no bare[k] (aZ hk);have c3:BOk ns (bare.eraseIdx k):=⟨hB.nd.sublist (List.eraseIdx_sublist _ _),λb hb=>hB.no b (List.mem_of_mem_eraseIdx hb),aY (List.length_eraseIdx_le _ _) hB.bl⟩;have bi:bare[k]∉bare.eraseIdx k:=λz=>(Ln hB.nd b0 z).2 rfl;generalize bare[k]=spot at hn bi;obtain⟨kd,al,c4,ag,b2⟩:=Jo ((hA _ _ hn).kd) ae.ok;have c5:=ao.same Y.sm;have bj:=(c5.2 kd al).2;have am:=(ae.kf kd al).ok;refine⟨_,rfl,_,rfl,_,rfl,ln,_,_,_,rfl,rfl,SqL.of Y.hn,Zo hn,n.a,_,0,_,rfl,rfl,SqL.of (Y.ha _ _ hn),rfl,d,.ref kd.2.2.1,rfl,XZ b1 b2,kd.2.2.1,rfl,⟨_,bj.1⟩,λacc bm=>?_⟩;refine let J_:JC:=(λj ys H'=>∃U:List PNx,ys=U.map (λr=>V.ref r.1)/\H' acc=some (.lst ys)/\Same H7 H'/\(∀r∈U,r∈kd.2.2.2)/\U.length<=j/\(U≠[]->n.lv<top));ZD (K:=K) (xs:=kd.2.2.2.map λt=>V.ref t.1) (cs:=[some (.ref ln),some (.int (spot:Int)),some (.int (top:Int))]) (te:=ZL 0) J_
    ⟨[],rfl,Qb,Qf bm _,λr hr=>(nomatch hr),bB _,λz=>absurd rfl z⟩ ?_ ?_ ?_
   .rintro j ys H' _ ⟨_,_,_,g,_⟩;exact g.seq bj.1
   .rintro j x ys H8 hj hx ⟨U,rfl,hy,g8,ac,a3,aw⟩;have a4:j<kd.2.2.2.length:=by simpa using hj
    obtain rfl:x=.ref kd.2.2.2[j].1:=by
     rw [aI,aB a4]at hx;exact(aH hx).symm
    obtain⟨da,db⟩:=bj.2 _ (aZ a4);have d7:=am.len;have bn:∀H9,Same H8 H9->∃a5:List PNx,U.map (λr=>V.ref r.1)=a5.map (λr=>V.ref r.1)/\H9 acc=some (.lst (U.map λr=>V.ref r.1))/\Same H7 H9/\(∀r∈a5,r∈kd.2.2.2)/\a5.length<=j+1/\(a5≠[]->n.lv<top):=λH9 g9=>⟨U,rfl,g9 _ _ hy,g8.trans g9,ac,by lia,aw⟩;refine⟨_,rfl,kd.2.2.2[j].1,_,1,_,rfl,rfl,g8.seqT da,rfl,(21:),λpt dc=>?_⟩;have kt:=Qf dc (.tup []);have ci:(PyData.tuple (kd.2.2.2[j].2.2.2.map PyData.str)).canLay0=true:=by simp only [PyData.canLay0];exact Yz _ (am.kn _ (aZ a4))
    refine⟨_,.tuple [],.tup ((g8.trans kt).seqT db) (Ue _),.tup (SqT.of Qb) .nil,ci,by simp [PyData.canLay0,PyData.canLayAll0],au _ (aY (fG _ _) (by simp [PyData.depth,PyData.depthAll])),_,rfl,?_⟩;rw [aE rfl,WI];have ai:=Y.same (g8.trans kt);refine Z6 (λcb=>?_) (λcb=>?_)
    .refine⟨_,rfl,_,rfl,ln,_,_,_,rfl,rfl,SqL.of ai.hn,Zo hn,n.a,_,1,_,rfl,rfl,SqL.of (ai.ha _ _ hn),rfl,_,rfl,_,_,rfl,rfl,_,rfl,?_⟩;refine Z6 (λcl=>?_) (λcl=>YL hj (bn _ kt));have d8:(n.lv:Int)<(top:Int):=cJ cl;refine⟨_,rfl,Qz hj (kt _ _ hy) (by rw [aC];lia) ⟨U++[kd.2.2.2[j]],by rw [aR];rfl,Qb,λz u e=>?_,λr hr=>?_,by rw [bE,bO];lia,λ_=>by lia⟩⟩
     .rw [Qi (Qj e bm)];exact kt _ _ (g8 _ _ e)
     .rcases a_.mp hr with hr | hr
      .exact ac r hr
      .have:r=kd.2.2.2[j]:=by simpa using hr
       rw [this];exact aZ a4
    .exact Zf (YL hj (bn _ kt))
   .rintro ys H8 ⟨U,rfl,hy,g8,ac,a3,aw⟩;rw [aC]at a3;exact⟨spot,n,bare.eraseIdx k,acc,U,rfl,Y.same g8,c3,hn,hy,λr hr=>by rw [ag];exact ac r hr,aY a3 am.len,λz=>⟨bh,aw z,bi⟩⟩
  rintro σ H5 ⟨spot,n,a6,lf,U,rfl,dd,b3,hn,cj,ac,a3,de⟩;refine let J_:J2:=(λcf H'=>∃(ah:Option V)(n':Nd)(J:List Nd)(D:List Nat),cf=[some (.ref lw),some (.ref lc),some (.int (top:Int)),some (.ref d),some (.ref ln),some (.ref lb),some (.int c),some (.int Z),some (.int (spot:Int)),some (.ref lf),ah]/\GH H1 H' ln lb J D/\AllOk ks top J/\BOk J D/\J[spot]?=some n'/\0<J.length/\J.length<=1+3*(i+1)/\∃n,J[0]?=some n/\n.kd=k0.2.1);⟨J_,?_,?_⟩
  .refine⟨_,rfl,(21:),λle bf=>?_⟩;have ke:=Qf bf (.lst []);have aa:=dd.same ke;have df:=hA _ _ hn;obtain⟨kd,al,c4,ag,b2⟩:=Jo df.kd ae.ok;have am:=(ae.kf kd al).ok;have b4:∀H',Same H1 H'->∀r∈U,RowAt K H' r:=λH' g r hr=>(((ao.same g).2 kd al).2).2 r (by rw [<-ag];exact ac r hr);have ck:(PyData.list (U.map Uv)).canLay0=true:=by
    simp only [PyData.canLay0];exact Vc (λr hr=>am.nm r (by rw [<-ag];exact ac r hr)) λr hr=>am.kn r (by rw [<-ag];exact ac r hr)
   have ak:=ke _ _ cj;refine⟨.list (U.map Uv),.list [],.lst (SqL.of ak) (Ga (b4 _ aa.sm)),.lst (SqL.of Qb) .nil,ck,by simp [PyData.canLay0,PyData.canLayAll0],au _ (aY (fG _ _) (by simp [PyData.depth,PyData.depthAll])),_,rfl,?_⟩;rw [aE rfl,WL];generalize upd H5 le (.lst [])=H6 at aa ak
   by_cases a7:U=[]
   .rw [a7];exact Zf ⟨_,n,ns,a6,rfl,aa,hA,b3,hn,bd,by lia,hF⟩
   have dg:0<U.length:=hJ.mpr a7;have dh:(!(U.map Uv).isEmpty)=true:=by
    cases bg:U with
    | nil=>exact absurd bg a7
    | cons x r=>rfl
   refine Z6 (λ_=>?_) (λz=>absurd dh z);obtain⟨bh,dz,bb⟩:=de a7;have b5:(U.map λr=>V.ref r.1).length=U.length:=aC ..;obtain⟨y,hy,di⟩:=ZM (xs:=U.map λr=>V.ref r.1) (k:=((U.map λr=>V.ref r.1).length:Int)) rfl (by rw [b5];exact dg) (Z/1024);obtain⟨r,hr,rfl⟩:=aT.mp hy;refine⟨_,rfl,_,rfl,_,_,rfl,rfl,(22:),_,rfl,lf,_,rfl,.inl (SqL.of ak),_,_,rfl,rfl,(by rw [b5];lia),lf,_,_,_,rfl,rfl,SqL.of ak,di,?_⟩;refine⟨_,rfl,_,rfl,ln,_,_,_,rfl,rfl,SqL.of aa.hn,Zo hn,n.a,_,2,2,rfl,rfl,aa.ha _ _ hn,rfl,?_⟩;have Y:=aa.setA hn { n with row:=some r } rfl rfl rfl;have dj:Mid ks top k0.2.1 spot n.kd n.lv r ns.length 0 (ns.set spot { n with row:=some r }) a6:=Mid.start hA b3 hn bh bb (ac r hr) hF;have b6:(ns.set spot { n with row:=some r })[spot]?=some { n with row:=some r }:=UI hn;rw [show(ndV n).set 2 (V.ref r.1)=ndV { n with row:=some r }from rfl];generalize upd H6 n.a (.lst (ndV { n with row:=some r }))=H7 at Y;have b7:r∈kd.2.2.2:=by rw [<-ag];exact ac r hr
   have d9:=(ae.kf kd al).w3 r b7;have dl:=(ae.kf kd al).cl r b7;have bo:∀H',Same H1 H'->RowAt K H' r:=λH' g=>b4 H' g r hr;refine⟨_,rfl,_,rfl,ln,_,_,_,rfl,rfl,SqL.of Y.hn,Zo b6,n.a,_,2,_,rfl,rfl,SqL.of (Y.ha spot { n with row:=some r } b6),rfl,r.1,_,1,_,rfl,rfl,(bo _ Y.sm).1,rfl,r.2.2.1,rfl,⟨_,(bo _ Y.sm).2⟩,?_⟩;refine let J_:J3:=(λj σ H'=>∃(ah:Option V)(J:List Nd)(D:List Nat),σ=[some (.ref lw),some (.ref lc),some (.int (top:Int)),some (.ref d),some (.ref ln),some (.ref lb),some (.int c),some (.int Z),some (.int (spot:Int)),some (.ref lf),ah]/\GH H1 H' ln lb J D/\Mid ks top k0.2.1 spot n.kd n.lv r ns.length j J D);YB (K:=K) (xs:=r.2.2.2.map V.str) J_
    ⟨_,_,_,rfl,Y,dj⟩ ?_ ?_ ?_
   .rintro j σ H' _ ⟨_,_,_,_,g,_⟩;exact(bo _ g.sm).2
   .rintro j x σ H8 hx ⟨bp,J,D,rfl,aj,ab⟩;have hj:j<r.2.2.2.length:=by
     have:=(aK.mp hx).1
     simpa using this
    obtain rfl:x=.str r.2.2.2[j]:=by
     rw [aI,aB hj]at hx;exact(aH hx).symm
    obtain⟨M,af,dm,ea,dn,dp⟩:=ab.sp;have a8:=ab.len;have dq:(NR J).length=ns.length+j:=by rw [aC,a8]
    have d0:=(dp.ro r dm).2.1;have d1:=ab.bk.bl;refine⟨_,rfl,_,rfl,ln,_,_,_,rfl,rfl,SqL.of aj.hn,Zo af,M.a,_,4,_,rfl,rfl,SqL.of (aj.ha _ _ af),rfl,.inl ⟨rfl,_,SqL.of (aj.hc _ _ af)⟩,_,rfl,ln,_,rfl,.inl (SqL.of aj.hn),M.cl,_,_,rfl,rfl,aj.hc _ _ af,by rw [aC,QL];lia,?_⟩;have e1:NI M.ch++[V.int (((NR J).length:Nat):Int)]=NI (M.ch++[ns.length+j]):=by rw [dq];unfold NI;rw [aR];rfl
    rw [e1];have ai:=aj.setC af (M.ch++[ns.length+j]);generalize upd H8 M.cl (.lst (NI (M.ch++[ns.length+j])))=H9 at ai;have b8:=UI (n':={ M with ch:=M.ch++[ns.length+j] }) af;have ax:(NR (J.set spot { M with ch:=M.ch++[ns.length+j] })).length=ns.length+j:=by rw [aC,bQ,a8]
    refine⟨_,rfl,.inl ⟨rfl,_,SqL.of ai.hb⟩,_,rfl,ln,_,rfl,.inl (SqL.of ai.hn),lb,_,_,rfl,rfl,ai.hb,by rw [aC,QL];lia,?_⟩;have e2:NI D++[V.int (((NR (J.set spot { M with ch:=M.ch++[ns.length+j] })).length:Nat):Int)]=NI (D++[ns.length+j]):=by rw [ax];unfold NI;rw [aR];rfl
    rw [e2];have ad:=ai.setB (D++[ns.length+j]);generalize upd H9 lb (.lst (NI (D++[ns.length+j])))=eb at ad;refine⟨_,rfl,.inl ⟨rfl,_,SqL.of ad.hn⟩,_,rfl,_,rfl,_,rfl,ln,_,_,_,rfl,rfl,SqL.of ad.hn,Zo b8,M.a,_,1,_,rfl,rfl,SqL.of (ad.ha spot { M with ch:=M.ch++[ns.length+j] } b8),rfl,_,_,rfl,rfl,?_⟩;refine⟨_,rfl,_,rfl,ln,_,rfl,.inl (SqL.of ad.hn),_,_,rfl,rfl,_,_,rfl,rfl,⟨?_,?_⟩,_,_,rfl,rfl,(by show(0:Int)<5;decide),_,_,rfl,rfl,(21:),λmc b9=>⟨(by show 5<=sizeLine;decide),λma bq=>?_⟩⟩
    .show(0:Int)<3+(((NR (J.set spot { M with ch:=M.ch++[ns.length+j] })).length:Nat):Int);lia
    .show 3+(((NR (J.set spot { M with ch:=M.ch++[ns.length+j] })).length:Nat):Int)<1073741824;rw [ax];lia
    have kc:=Qf b9 (.lst []);have ka:=Qf bq (.lst [.str r.2.2.2[j],.int ((M.lv:Int)+1),.non,.int (Z/(3+(((NR (J.set spot { M with ch:=M.ch++[ns.length+j] })).length:Nat):Int))%5-2),.ref mc]);refine⟨ln,_,_,rfl,rfl,ka _ _ (kc _ _ ad.hn),by rw [ax,QL];lia,_,_,_,rfl,GH.add ad (kc.trans ka) ⟨ma,r.2.2.2[j],M.lv+1,none,Z/(3+(((NR (J.set spot { M with ch:=M.ch++[ns.length+j] })).length:Nat):Int))%5-2,mc,[]⟩ (kc.free bq) b9 (aL (Qj Qb bq)) Qb (ka _ _ Qb),ab.next af (aB hj) (by lia) (dl _ (aZ hj)) rfl (by show M.lv+1=n.lv+1;rw [dn]) rfl rfl⟩
   .rintro σ H8 ⟨bp,J,D,rfl,aj,ab⟩;rw [aC]at ab;obtain⟨M,af,_⟩:=ab.sp;exact⟨_,M,J,D,rfl,aj,ab.done,ab.bk,af,by rw [ab.len];lia,by rw [ab.len];lia,ab.k0⟩
  rintro σ H6 ⟨bp,n',J,D,rfl,az,dr,dt,an,du,cm,dv⟩;refine⟨_,rfl,_,rfl,c,Z,rfl,λmk H7 g7=>?_⟩;have Y:=az.same g7;refine⟨_,rfl,_,rfl,ln,_,_,_,rfl,rfl,SqL.of Y.hn,Zo an,n'.a,_,3,3,rfl,rfl,Y.ha _ _ an,rfl,?_⟩;exact⟨_,_,_,_,_,J.set spot { n' with mr:=mk },D,rfl,Y.setA an { n' with mr:=mk } rfl rfl rfl,dr.setM an mk,dt.setM an mk,by rw [bQ];exact du,by rw [bQ];exact cm,Ur an rfl dv⟩
 .rintro σ H3 ⟨c6,c7,c8,c9,ah,ns,bare,rfl,hG,hA,hB,bd,bw,hF⟩;rw [aC]at bw;exact⟨_,rfl,q ln lb H1 H3 ns bare k1 hG hA bd (7:) hF⟩
end
theorem Gz{f:Str->Str->Option (List Str)}:∀{bs:List (Tree Str)}{ss:List Str},ss.length=bs.length->(∀(i:Nat) b s,bs[i]?=some b->ss[i]?=some s->isT f b s=true)->YM f bs ss=true
 | [],ss,h,_=>by
  have:ss=[]:=gs.mp h;subst this;simp [YM]
 | b::bs,[],h,_=>by simp at h
 | b::bs,s::ss,h,k=>by
  simp only [YM,bD];exact⟨k 0 b s rfl rfl,Gz (by simpa using h) λi z s' h1 h2=>k (i+1) z s' (by simpa using h1) (by simpa using h2)⟩
theorem Gy{d:Nat}:∀{ts:List (Tree Str)},(∀t∈ts,lv t<=d)->lvs ts<=d
 | [],_=>by simp [lvs]
 | t::r,h=>by
  have h1:=h t bA;have h2:=Gy λu z=>h u (bC _ z);simp only [lvs];lia
theorem Xf{k:Str}{r:PNx}(ok:RowsOk (Qu ks k))(h:r∈Qu ks k):QX ks k r.2.1=some r.2.2.2:=by
 have D:(Qu ks k).find? (λx=>decide (x.2.1=r.2.1))=some r:=by
  obtain⟨i,hi,e⟩:=cO h;refine Ub (i:=i) (by rw [aB hi,e]) (14:) λj y F G=>bN λz=>?_;have h1:=gT.mp ok.nd j i (by rw [aC];lia) (by rw [aC];lia) F;rw [f_,f_,e,(aK.mp G).2]at h1;exact h1 z
 unfold QX;rw [D];rfl
theorem Pk{m:Nat}{us:List V}{v:V}:(List.replicate (m+1) V.non++us).set m v=List.replicate m V.non++v::us:=by
 rw [List.replicate_succ',List.append_assoc,List.set_append_right _ _ (by rw [cZ];lia),cZ,e_]
 rfl
theorem XW{k:Nat}(h:k<n):ixN n ((k:Nat):Int)=some k:=by
 unfold ixN;rw [aE (7:),aE (7:),bF]
theorem SO{k c:Nat}{us:List V}{u:V}(hc:k<c)(h:us[c-(k+1)]?=some u):atI (List.replicate (k+1) V.non++us) ((c:Nat):Int)=some u:=
 Qs (by rw [dJ (by rw [cZ];lia),cZ];exact h)
structure NdsAt(K:Fg)(H:Hp)(ln:Addr)(ns:List Nd):Prop where
 l:SqL K H ln (NR ns)
 a:∀(i:Nat) n,ns[i]?=some n->SqL K H n.a (ndV n)
 c:∀(i:Nat) n,ns[i]?=some n->SqL K H n.cl (NI n.ch)
theorem NdsAt.same{K:Fg}(g:Same H H')(h:NdsAt K H ln ns):NdsAt K H' ln ns:=⟨g.seq h.l,λi n e=>g.seq (h.a i n e),λi n e=>g.seq (h.c i n e)⟩
theorem GH.at{K:Fg}(h:GH H1 H ln lb ns bare):NdsAt K H ln ns:=⟨SqL.of h.hn,λi n e=>SqL.of (h.ha i n e),λi n e=>SqL.of (h.hc i n e)⟩
def SY(ks:List KdT)(s:List (Str×Nat))(n:Nd)(t:Tree Str):Prop:=∃ss,QX ks n.kd (nmT t)=some ss/\∀(j c:Nat),n.ch[j]?=some c->∃k l,s[c]?=some (k,l)/\ss[j]?=some k
def KidT(ks:List KdT)(s:List (Str×Nat))(x:Nat)(ts:List (Tree Str))(b0:Nat)(n:Nd)(t:Tree Str):Prop:=t.bs.length=n.ch.length/\(∀(a:Nat) b c,t.bs[a]?=some b->n.ch[a]?=some c->x<c/\ts[c-b0]?=some b)/\SY ks s n t
theorem KidT.cons{s:List (Str×Nat)}{k:Nat}{n:Nd}{t x:Tree Str}(h:KidT ks s (k+1+j) ts (k+1) n t):KidT ks s (k+(j+1)) (x::ts) k n t:=by
 refine⟨h.1,λa b c h1 h2=>?_,h.2.2⟩;obtain⟨D,z⟩:=h.2.1 a b c h1 h2;refine⟨by lia,?_⟩;rw [show c-k=(c-(k+1))+1 by lia,List.getElem?_cons_succ];exact z
def XD(K:Fg):Sp:=λvs H Q _=>∃(lw ln:Addr)(ks:List KdT)(top:Nat)(ns:List Nd),vs=[.ref lw,.ref ln]/\WoodAt K H lw ks/\WF ks/\NdsAt K H ln ns/\AllOk ks top ns/\0<ns.length/\ns.length<=200/\
 ∀(lt:Addr)(H':Hp)(us:List V)(ts:List (Tree Str)),Same H H'->SqL K H' lt us->TrAll K H' us ts->ts.length=ns.length->(∀(i:Nat) n t,ns[i]?=some n->ts[i]?=some t->isT (QX ks) t n.kd=true/\lv t<=top/\KidT ks (sg ns) i ts 0 n t)->Q (.ref lt) H'
abbrev Pn:List Str:=["_law_wood_here","_law_nodes","_law_trees","_law_k","_law_row","_law_ends"]
section
variable{K:Fg}
theorem YF:FnScope Pn ["_law_wood_here","_law_nodes"] (defScope Ju):=(1:)
theorem M4(F:Fun K "_law_built" "_law_built" Ju f fd)(G:Gm mg)(RM:Fn P w K mg base 1 "_law_mixed" ["_law_cell","_law_k"] Zt):FnOk P w K mg base CX0 2 f fd ["_law_wood_here","_law_nodes"] (XD K):=by
 refine F.ok YF (13:) (λbc A outer s H vs Q E hr h=>?_)
 .obtain⟨lw,ln,ks,top,ns,rfl,_⟩:=h
  rfl
 obtain⟨lw,ln,ks,top,ns,rfl,hW,ah,hN,hA,cc,ce,q⟩:=h;have bo:∀m:Nat,m<=64->(A.deeper (PyProof.Rows.envOfC "_law_built" (defScope Ju) s.heap.objs.size f bc)).units+m<cLine:=λm hm=>by have:=hr.units;lia
 refine⟨_,(Qe (Qm (i:=2) YF.nd rfl (bY rfl) (QU (CompG.many (xs:=["_law_node"]) (caps:=[]) (cap:=[]) (cs:=[]) rfl rfl (0:) (0:) (0:) (0:) (0:) (0:) rfl rfl rfl) rfl (Q1 (pv 1)) (Zm (CompG.many (xs:=["_law_node"]) (caps:=[]) (cap:=[]) (cs:=[]) rfl rfl (0:) (0:) (0:) (0:) (0:) (0:) rfl rfl rfl)) (λ_ _ _ _=>Q5) (λ_ _ _ _=>Z8)))
  (Qe (QO a' rfl (Np rfl G.rev (Qa (QK JT rfl G.rng PyProof.Rows.boot_range (Qa (Qq Qn rfl G.len aX (Qa (pv 1) Qc)) Qc)) Qc)) (Qt (i:=3) YF.nd rfl (5:)) (Qe (Qm (i:=4) YF.nd rfl (5:) (Qg Ql (Qg Ql (pv 1) (pv 3) (2:)) Qd (2:)))
  (Qe (YR (QP (Qx Na (pv 4) Z8 (Qy _)) (Qe (ZA (i:=5) (CompG.many (xs:=["_law_end"]) (caps:=[]) (cap:=[]) (cs:=[]) rfl rfl (0:) (0:) (0:) (0:) (0:) (0:) rfl rfl rfl) rfl (Q1 (Zh (Zp hr) (QK (Zs rfl) rfl G.dct fB (Qa (pv 0) Qc)) (Qg Ql (Qg Ql (pv 1) (pv 3) (2:)) Qd (2:)) (2:))) (Zm (CompG.many (xs:=["_law_end"]) (caps:=[]) (cap:=[]) (cs:=[]) rfl rfl (0:) (0:) (0:) (0:) (0:) (0:) rfl rfl rfl)) (λ_ _ _ _=>Vi (Qx (r:=N0 K (A.deeper (PyProof.Rows.envOfC "_law_built" (defScope Ju) s.heap.objs.size f bc)) false) Rc (Qg (r:=Lp K) Qk (pv 0) Qd (2:)) (QE Qc) (Qy _))) (λ_ _ _ _=>pv 0) YF.nd rfl rfl)
  (Qh (Qm (i:=4) YF.nd rfl (5:) (Qg Ql (pv 5) (Qo QB (Qr RM hr (Qa (Qg Ql (Qg Ql (pv 1) (pv 3) (2:)) Qd (2:)) (Qa (pv 3) Qc))) (Qq Qn rfl G.len aX (Qa (pv 5) Qc))) (2:))))) Qw))
  (Qh (YQ (QE (Qa (Qg Qk (pv 4) Qd (2:)) (Qa (Qg Ql (Qg Ql (pv 1) (pv 3) (2:)) Qd (2:)) (Qa (QK Ze rfl G.tup eP (Qa (QU (CompG.many (xs:=["_law_j"]) (caps:=["_law_trees"]) (cap:=[2]) (cs:=[_]) rfl rfl (0:) (0:) (0:) (0:) (0:) (0:) rfl rfl rfl) rfl (Q1 (Qg Ql (Qg Ql (pv 1) (pv 3) (2:)) Qd (2:))) (Zm (CompG.many (xs:=["_law_j"]) (caps:=["_law_trees"]) (cap:=[2]) (cs:=[_]) rfl rfl (0:) (0:) (0:) (0:) (0:) (0:) rfl rfl rfl)) (λ_ _ _ _=>Q5) (λ_ _ _ _=>Qg (r:=Uj K) Ql (pv 1) (pv 0) (2:))) Qc)) Qc)))) (X5 (pv 2) (pv 3) Uh))))))
  (Qh (Qp (pv 2))))),?_⟩
 try dsimp only [QC,Cx.nox]
 refine L2.let2 ?_
 intros
 have bd:(NR ns).length=ns.length:=aC ..;refine⟨_,rfl,ln,rfl,⟨_,hN.l⟩,λlt a0=>?_⟩;refine let J_:JC:=(λj ys H'=>ys=List.replicate j V.non/\H' lt=some (.lst ys)/\Same H H');ZD (K:=K) (xs:=NR ns) (cs:=[]) (tt:=λ_ H Q=>Q true H) J_
  ⟨rfl,Qb,Qf a0 _⟩ ?_ ?_ ?_
 .rintro j ys H' _ ⟨_,_,g⟩;exact g.seq hN.l
 .rintro j x ys H' hj hx ⟨rfl,U,g⟩;refine Zd (Qz hj U (by rw [cZ];lia) ⟨List.replicate_succ'.symm,Qb,λz u e=>?_⟩);rw [Qi (Qj e a0)];exact g _ _ e
 rintro ys H1 ⟨rfl,a1,g1⟩;rw [bd]at a1;refine⟨_,rfl,ln,_,rfl,.inl (g1.seq hN.l),_,rfl,by lia,by lia,λpr bq=>⟨pr,_,rfl,Qb,by lia,by lia,?_⟩⟩;have k2:=Qf bq (.rng 0 (((NR ns).length:Nat):Int));have a2:=k2 _ _ a1;have g2:=g1.trans k2;generalize upd H1 pr (.rng 0 (((NR ns).length:Nat):Int))=H2 at a2 g2;rw [bd,bF];refine let J_:J3:=(λi σ H'=>∃(c3 c4 c5:Option V)(D:List V)(ts:List (Tree Str)),σ=[some (.ref lw),some (.ref ln),some (.ref lt),c3,c4,c5]/\Same H H'/\H' lt=some (.lst (List.replicate (ns.length-i) V.non++D))/\TrAll K H' D ts/\ts.length=i/\∀(j:Nat) n t,ns[ns.length-i+j]?=some n->ts[j]?=some t->isT (QX ks) t n.kd=true/\lv t+n.lv<=top+1/\KidT ks (sg ns) (ns.length-i+j) ts (ns.length-i) n t);JH (hi:=((ns.length:Nat):Int)-1) (n:=ns.length) J_
  ⟨none,none,none,[],[],rfl,g2,by rw [dZ];exact a2,.nil,rfl,λj n t _ h=>by simp at h⟩ ?_ ?_
 .rintro i σ H3 hi ⟨c3,c4,c5,D,ts,rfl,g3,ab,ai,a3,ad⟩;obtain⟨k,hk⟩: ∃k,ns.length-i=k+1:=⟨ns.length-i-1,by lia⟩;have ek:((ns.length:Nat):Int)-1-(i:Int)=((k:Nat):Int):=by lia
  rw [ek];rw [hk]at ab ad;have br:k<ns.length:=by lia
  have J:ns[k]?=some ns[k]:=aB br;generalize ns[k]=n at J;have aj:=hA _ _ J;obtain⟨kd,ae,cf,ac,bt⟩:=Jo aj.kd ah.ok;have ak:=(ah.kf kd ae).ok;have al:=hN.same g3;refine⟨_,rfl,_,rfl,ln,_,_,_,rfl,rfl,al.l,Zo J,n.a,_,2,_,rfl,rfl,al.a _ _ J,rfl,?_⟩;refine⟨λb9 H'=>∃(c5:Option V)(r:PNx),b9=[some (.ref lw),some (.ref ln),some (.ref lt),some (.int (k:Int)),some (.ref r.1),c5]/\Same H3 H'/\r∈Qu ks n.kd/\(n.row=some r\/n.row=none/\r.2.2.2=[]),?_,?_⟩
  .refine⟨_,rfl,rfl,_,rfl,?_⟩;cases Y:n.row with
   | some r=>exact Wt (λz=>nomatch z) ⟨_,r,rfl,Same.refl _,(aj.ro r Y).1,.inl rfl⟩
   | none=>
    have am:=hW.same g3;refine Wz rfl ?_;refine⟨_,rfl,lw,wts ks,rfl,wdA am,wdB am,wdC ah.ok,wdD ah.ok,λd hd=>?_⟩;have k4:=Qf hd (.dK (wkv ks));have M:=al.same k4;have a4:=((am.same k4).2 kd ae).2;refine⟨_,rfl,_,rfl,ln,_,_,_,rfl,rfl,M.l,Zo J,n.a,_,0,_,rfl,rfl,M.a _ _ J,rfl,d,.ref kd.2.2.1,rfl,XZ Qb bt,kd.2.2.1,rfl,⟨_,a4.1⟩,λacc Z=>?_⟩;refine let J_:JC:=(λj ys H'=>∃D:List PNx,ys=D.map (λr=>V.ref r.1)/\H' acc=some (.lst ys)/\Same H3 H'/\(∀r∈D,r∈kd.2.2.2/\r.2.2.2=[])/\D.length<=j/\∀(m:Nat) r,m<j->kd.2.2.2[m]?=some r->r.2.2.2=[]->D≠[]);ZD (K:=K) (xs:=kd.2.2.2.map λt=>V.ref t.1) (cs:=[]) (te:=ZL 0) J_
     ⟨[],rfl,Qb,k4.trans (Qf Z _),λr hr=>(nomatch hr),bB _,λm r hm=>absurd hm (7:)⟩ ?_ ?_ ?_
    .rintro j ys H' _ ⟨_,_,_,g,_⟩;exact(((am.same g).2 kd ae).2).1
    .rintro j x ys H8 hj hx ⟨D,rfl,U,g8,an,be,ag⟩;have ao:j<kd.2.2.2.length:=by simpa using hj
     obtain rfl:x=.ref kd.2.2.2[j].1:=by
      rw [aI,aB ao]at hx;exact(aH hx).symm
     obtain⟨bu,bv⟩:=(((am.same g8).2 kd ae).2).2 _ (aZ ao);have cg:=ak.len;refine⟨_,rfl,kd.2.2.2[j].1,_,1,_,rfl,rfl,bu,rfl,(21:),λpt a5=>?_⟩;have kt:=Qf a5 (.tup []);have bp:(PyData.tuple (kd.2.2.2[j].2.2.2.map PyData.str)).canLay0=true:=by simp only [PyData.canLay0];exact Yz _ (ak.kn _ (aZ ao))
     refine⟨_,.tuple [],.tup (kt.seqT bv) (Ue _),.tup (SqT.of Qb) .nil,bp,by simp [PyData.canLay0,PyData.canLayAll0],bo _ (aY (fG _ _) (by simp [PyData.depth,PyData.depthAll])),_,rfl,?_⟩;rw [aF aW,WI];refine Z6 (λcb=>?_) (λcb=>?_)
     .have he:kd.2.2.2[j].2.2.2=[]:=by simpa using cb
      refine⟨_,rfl,Qz hj (kt _ _ U) (by rw [aC];lia) ⟨D++[kd.2.2.2[j]],by rw [aR];rfl,Qb,λz u e=>?_,λr hr=>?_,by rw [bE,bO];lia,λ_ _ _ _ _=>by simp⟩⟩
      .rw [Qi (Qj (k4 _ _ e) Z)];exact kt _ _ (g8 _ _ e)
      .rcases a_.mp hr with hr | hr
       .exact an r hr
       .have:r=kd.2.2.2[j]:=by simpa using hr
        rw [this];exact⟨aZ ao,he⟩
     .have he:kd.2.2.2[j].2.2.2≠[]:=by simpa using cb
      refine YL hj ⟨D,rfl,kt _ _ U,g8.trans kt,an,by lia,λm r hm a6 af=>?_⟩
      by_cases bw:m=j
      .subst bw;rw [aB ao]at a6;obtain rfl:=aH a6;exact absurd af he
      .exact ag m r (7:) a6 af
    rintro ys H8 ⟨D,rfl,U,g8,an,be,ag⟩;rw [aC]at ag;have bx:D≠[]:=by
     obtain⟨r,hr,af⟩:=(ah.kf kd ae).bare;obtain⟨m,hm,e⟩:=cO hr;exact ag m r hm (by rw [aB hm,e]) af
    have bz:0<D.length:=hJ.mpr bx;have bf:=al.same g8;have bg:(D.map λr=>V.ref r.1).length=D.length:=aC ..;refine⟨_,rfl,_,rfl,_,rfl,ln,_,_,_,rfl,rfl,bf.l,Zo J,n.a,_,3,_,rfl,rfl,bf.a _ _ J,rfl,_,rfl,n.mr,_,rfl,by lia,by lia,λz z0 z1=>⟨_,rfl,acc,_,rfl,.inl (SqL.of U),_,_,rfl,rfl,(by rw [bg];lia),?_⟩⟩;obtain⟨y,b0,b1⟩:=ZM (xs:=D.map λr=>V.ref r.1) (k:=((D.map λr=>V.ref r.1).length:Int)) rfl (by rw [bg];exact bz) z;obtain⟨r,hr,rfl⟩:=aT.mp b0;exact⟨acc,_,_,_,rfl,rfl,SqL.of U,b1,_,r,rfl,g8,by rw [ac];exact(an r hr).1,.inr ⟨rfl,(an r hr).2⟩⟩
  rintro σ H4 ⟨ci,r,rfl,g4,av,b2⟩;have M:=al.same g4;have ar:=g4 _ _ ab;have a4:RowAt K H4 r:=((((hW.same (g3.trans g4)).2 kd ae).2).2 r (by rw [<-ac];exact av));refine⟨_,rfl,r.1,_,0,_,rfl,rfl,a4.1,rfl,_,rfl,_,rfl,ln,_,_,_,rfl,rfl,M.l,Zo J,n.a,_,3,_,rfl,rfl,M.a _ _ J,rfl,_,rfl,_,rfl,ln,_,_,_,rfl,rfl,M.l,Zo J,n.a,_,4,_,rfl,rfl,M.a _ _ J,rfl,n.cl,rfl,⟨_,M.c _ _ J⟩,λacc Z=>?_⟩;have ca:lt≠acc:=Qj ar Z;have ap:n.ch.length=r.2.2.2.length/\Kid (sg ns) k n r:=by
   rcases b2 with Y | ⟨Y,af⟩
   .obtain⟨_,h2,h3⟩:=aj.ro r Y;have:wOf n=r.2.2.2.length:=by unfold wOf;rw [Y]
    exact⟨h2.trans this,h3⟩
   .have bh:=aj.no Y;refine⟨by rw [bh,af];rfl,λa c bi=>?_⟩;rw [bh]at bi;simp at bi
  have cj:r.2.2.2.length<=4:=ak.kl r (by rw [<-ac];exact av);have be:=ai.length;refine let J_:JC:=(λj ys H'=>∃bs:List (Tree Str),TrAll K H' ys bs/\bs.length=j/\(∀(a:Nat) b c,bs[a]?=some b->n.ch[a]?=some c->ts[c-(k+1)]?=some b)/\H' acc=some (.lst ys)/\Same H4 H');ZD (K:=K) (xs:=NI n.ch) (cs:=[some (.ref lt)]) (tt:=λ_ H Q=>Q true H) J_
   ⟨[],.nil,rfl,λa b c h=>by simp at h,Qb,Qf Z _⟩ ?_ ?_ ?_
  .rintro j ys H' _ ⟨_,_,_,_,_,g⟩;exact(M.same g).c _ _ J
  .rintro j x ys H5 hj hx ⟨bs,aq,aw,ax,U,g5⟩;have b3:j<n.ch.length:=by simpa using hj
   have ay:n.ch[j]?=some n.ch[j]:=aB b3;obtain rfl:x=.int ((n.ch[j]:Nat):Int):=by
    rw [aI,ay]at hx;exact(aH hx).symm
   generalize n.ch[j]=c at ay;obtain⟨a7,kk,aa,_⟩:=ap.2 j c ay;have ck:c<ns.length:=by
    have:=(aK.mp aa).1
    simpa using this
   have a8:ts[c-(k+1)]?=some ts[c-(k+1)]:=aB (7:);generalize ts[c-(k+1)]=t at a8;obtain⟨u,hu,b4⟩:=ai.get a8;have b5:=aq.length;refine Zd ⟨_,rfl,_,rfl,lt,_,_,_,rfl,rfl,SqL.of (g5 _ _ ar),SO a7 hu,Qz hj U (7:) ⟨bs++[t],?_,by rw [bE,bO,aw],λa b c' h1 h2=>?_,Qb,λz u e=>?_⟩⟩
   .exact TrAll.append (aq.mono λ_ _ h=>h.put U) (.cons (b4.mono λ_ _ h=>((g4.trans g5).seqT h).put U) .nil)
   .rcases Q3 h1 with⟨ha,rfl⟩ | ⟨_,h1⟩
    .rw [ha,aw,ay]at h2;obtain rfl:=aH h2;exact a8
    .exact ax a b c' h1 h2
   .rw [Qi (Qj e Z)];exact g5 _ _ e
  rintro ys H5 ⟨bs,aq,aw,ax,U,g5⟩;have as:bs.length=n.ch.length:=by rw [aw];exact aC ..
  have b5:=aq.length;refine⟨acc,_,rfl,.inl ⟨SqL.of U,λpb b6=>⟨(by show 3<=sizeLine;decide),λpt a5=>?_⟩⟩⟩;have e1:=Qf b6 (.tup ys);have e2:=Qf a5 (.tup [.str r.2.1,.int n.mr,.ref pb]);have bj:=g4.trans (g5.trans (e1.trans e2));have au:=(g5.trans (e1.trans e2)) _ _ ar;refine⟨_,rfl,_,rfl,lt,_,_,k,rfl,rfl,au,XW (by rw [bE,cZ];lia),?_⟩;rw [Pk];have hT:TrV K (upd (upd H5 pb (.tup ys)) pt (.tup [.str r.2.1,.int n.mr,.ref pb])) (.ref pt) (.node r.2.1 n.mr bs):=.mk (SqT.of Qb) (e2.seqT (SqT.of Qb)) (aq.mono λ_ _ h=>(e1.trans e2).seqT h) (7:);refine⟨_,_,_,.ref pt::D,.node r.2.1 n.mr bs::ts,rfl,λz u e=>?_,?_,.cons (hT.mono λ_ _ h=>h.put au) (ai.mono λ_ _ h=>(bj.seqT h).put au),by rw [cD,a3],λj n' t az ht=>?_⟩
  .rw [Qi (Qj e a0)];exact bj _ _ (g3 _ _ e)
  .rw [Qb,show ns.length-(i+1)=k by lia]
  .rw [show ns.length-(i+1)=k by lia]at az;cases j with
   | succ j=>
    obtain⟨o1,o2,o3⟩:=ad j n' t (by rw [<-az];congr 1;lia) (by simpa using ht);refine⟨o1,o2,?_⟩;rw [show ns.length-(i+1)=k by lia];exact o3.cons
   | zero=>
    obtain rfl:n=n':=by
     rw [Nat.add_zero,J]at az;exact aH az
    obtain rfl:Tree.node r.2.1 n.mr bs=t:=by simpa using ht
    have a9:∀(a:Nat) b s,bs[a]?=some b->r.2.2.2[a]?=some s->isT (QX ks) b s=true/\lv b+(n.lv+1)<=top+1:=λa b s h1 h2=>by
     have b7:a<n.ch.length:=by rw [<-as];exact(aK.mp h1).1
     have ba:n.ch[a]?=some n.ch[a]:=aB b7;generalize n.ch[a]=c at ba;obtain⟨a7,kk,aa,bm⟩:=ap.2 a c ba;rw [h2]at bm;obtain rfl:=aH bm;have b8:=ax a b c h1 ba;unfold sg at aa;rw [aI]at aa;cases bb:ns[c]? with
     | none=>rw [bb]at aa;cases aa
     | some m=>
      rw [bb]at aa;have em:(m.kd,m.lv)=(s,n.lv+1):=aH aa;have:=ad (c-(k+1)) m b (by rw [show k+1+(c-(k+1))=c by lia];exact bb) b8;rw [show m.kd=s from congrArg Prod.fst em,show m.lv=n.lv+1 from congrArg Prod.snd em]at this;exact⟨this.1,this.2.1⟩
    have bn:r.2.2.2.length=bs.length:=by rw [as,ap.1]
    refine⟨?_,?_,?_⟩
    .rw [V0 (QX ks) rfl,Xf (by rw [ac];exact ak) av];simp only [bD,dS];exact⟨bn,Gz bn λa b s h1 h2=>(a9 a b s h1 h2).1⟩
    .rw [Q8];have cm:=aj.l2;have:lvs bs<=top-n.lv:=Gy λb hb=>by
      obtain⟨a,ha,e⟩:=cO hb;have:=(a9 a b _ (by rw [aB ha,e]) (aB (7:))).2;lia
     show 1+lvs bs+n.lv<=top+1;lia
    .rw [show ns.length-(i+1)=k by lia];refine⟨as,λa b c h1 h2=>?_,r.2.2.2,Xf (by rw [ac];exact ak) av,λj c hj=>by
      obtain⟨_,kk,z1,z2⟩:=ap.2 j c hj;exact⟨kk,_,z1,z2⟩⟩
     obtain⟨a7,_⟩:=ap.2 a c h2;refine⟨by lia,?_⟩;rw [show c-k=(c-(k+1))+1 by lia,List.getElem?_cons_succ];exact ax a b c h1 h2
 .rintro σ H3 ⟨c3,c4,c5,D,ts,rfl,g3,ab,ai,a3,ad⟩;rw [e_]at ab ad;exact⟨_,rfl,q lt H3 D ts g3 (SqL.of ab) ai a3 λj n t J ht=>by
   have:=ad j n t (by rw [Nat.zero_add];exact J) ht;have h1:=(hA _ _ J).l1;have h2:=this.2.1;have h3:=this.2.2;rw [Nat.zero_add]at h3;exact⟨this.1,by lia,h3⟩⟩
end
section
variable{K:Fg}
end
end K27
namespace L2
open PySem
def SameX(x:Addr)(H H':Hp):Prop:=∀b u,b≠x->H b=some u->H' b=some u
theorem SameX.trans{x:Addr}(a:SameX x H H1)(b:SameX x H1 H2):SameX x H H2:=λc u n e=>b c u n (a c u n e)
theorem SameX.of{x:Addr}(h:Same H H'):SameX x H H':=λb u _ e=>h b u e
theorem SameX.upd{x:Addr}{H:Hp}{o:HO}:SameX x H (upd H x o):=λb u n e=>by rw [Qi n];exact e
end L2
namespace L2
open PySem PySem.Spec PyProof.Rows
def OU(e:Expr):Arguments:=match e with
 | .Lambda a _ _ _=>a
 | _=>{ posonlyargs:=[],args:=[],vararg:=none,kwonlyargs:=[],kw_defaults:=[],kwarg:=none,defaults:=[] }
def V3(e:Expr):Expr:=match e with
 | .Lambda _ b _ _=>b
 | _=>e
def Zb(e:Expr):Scope:=match e with
 | .Lambda _ _ s _=>s
 | _=>{ kind:=.function,names:=[],isGenerator:=false,isCoroutine:=false }
def Zw(e:Expr):Pos:=match e with
 | .Lambda _ _ _ p=>p
 | _=>⟨0,0,0,0⟩
def MY(s:Stmt):Expr:=match(defBody s).getLast? with
 | some (.Return (some e) _)=>e
 | _=>.Name "" ⟨0,0,0,0⟩
def Nb(e:Expr)(i:Nat):Expr:=match e with
 | .Call _ as _ _=>as.getD i e
 | _=>e
abbrev Xh(qual:Str)(e:Expr)(pm:Value)(c:Addr)(ctv:Value):FuncData:=PySem.W.kla_fn "<lambda>" qual (OU e) (V3 e) (Zb e) [] pm (.ref c) ctv
def La(f:Addr)(fd:FuncData):HO:=.ext λh=>h.get? f=some { cls:=.type "function",data:=.func fd }
def MJ(c:Addr)(qual:Str):HO:=.ext λh=>h.CodeRec (.ref c) qual
structure LamAt(H:Hp)(f:Addr)(e:Expr):Prop where
 ex:∃qual pm c ctv,H f=some (La f (Xh qual e pm c ctv))/\H c=some (MJ c qual)
theorem LamAt.same(g:Same H H')(h:LamAt H f e):LamAt H' f e:=by
 obtain⟨q,D,c,z,h1,h2⟩:=h.ex;exact⟨q,D,c,z,g _ _ h1,g _ _ h2⟩
def TbS(H:Hp)(T:Addr)(pos:Pos)(qual:Str):Prop:=H T=some (.tbl #[])\/∃c,H T=some (.tbl #[rawInt pos.line,rawInt pos.col,.ref c])/\H c=some (MJ c qual)
theorem TbS.at{T:Addr}(h:TbS H T pos qual):∃ps,H T=some (.tbl ps):=by
 rcases h with h | ⟨c,h,_⟩
 .exact⟨_,h⟩
 .exact⟨_,h⟩
theorem TbS.same{T:Addr}(g:Same H H')(h:TbS H T pos qual):TbS H' T pos qual:=by
 rcases h with h | ⟨c,h,h2⟩
 .exact .inl (g _ _ h)
 .exact .inr ⟨c,g _ _ h,g _ _ h2⟩
theorem TbS.sameX{T U:Addr}{ps:Array Value}(hU:H U=some (.tbl ps))(ne:T≠U)(g:SameX U H H')(h:TbS H T pos qual):TbS H' T pos qual:=by
 rcases h with h | ⟨c,h,h2⟩
 .exact .inl (g _ _ ne h)
 .exact .inr ⟨c,g _ _ ne h,g _ _ (QM h2 hU (23:)) h2⟩
def BtAt(mg:Str->Option Value)(base:Heap):Prop:=∃bm o,mg "__builtins__"=some (.ref bm)/\bm≠builtinsNs/\bm≠mainGlobals/\base.get? bm=some o/\o.cls=.type "module"/\ o.dict=some builtinsNs/\o.data=.plain
def S9(T:Addr)(qual:Str)(e:Expr):TE:=λσ H Q=>TbS H T (Zw e) qual/\∀f H',SameX T H H'->H f=none->LamAt H' f e->TbS H' T (Zw e) qual->Q (.ref f) H'
theorem Gi{h:Heap}(e:h.get? f=some { cls:=.type "function",data:=.func fd }):ObjOk P w H h f (La f fd):=⟨e,⟨_,e⟩,λ_ _ e1 k=>k _ e1⟩
theorem N3{h:Heap}{c:Addr}(e:h.CodeRec (.ref c) qual):ObjOk P w H h c (MJ c qual):=by
 refine⟨e,?_,λh1 h2 e1 k=>?_⟩
 .obtain⟨M,F,G,J,z,D,_⟩:=e;cases z;exact⟨_,D⟩
 .obtain⟨M,F,G,J,z,D,r⟩:=e1;cases z;exact⟨c,F,G,J,rfl,k _ D,r⟩
theorem Vw{a:Arguments}{b:Expr}{sc:Scope}{pos:Pos}{c T:Addr}(hcode:X.env.code=.ref c)(hC:PySem.W.codeHdIn X.K c T=true)(hB:BtAt X.mg X.base)(hcl:closureFor sc X.env=pure []:=by rfl)(hdef:defaultsOf a X.env=([],[]):=by rfl):
 PE X (.Lambda a b sc pos) (S9 T (X.env.qual++"<lambda>") (.Lambda a b sc pos)):=by
 intro pins s σ H Q I h;obtain⟨ht,q⟩:=h;obtain⟨av,Z⟩:=ht.at;obtain⟨bm,ob,b1,b2,b3,b4,b5,b6,b7⟩:=hB;have al:bm≠T:=λz=>by have:=(I.bs _ _ b4).2;rw [z,Z]at this;cases this
 have hg:s.heap.Ns mainGlobals X.mg:=I.mod.glob.keeps I.bk;have am:mainGlobals≠T:=λz=>by
  obtain⟨o,es,ep,e,_⟩:=I.mod.glob;have:=(I.bs _ _ e).2;rw [z,Z]at this;cases this
 have hb:s.heap.BuiltinsAt X.mg T:=⟨bm,ob,b1,b2,b3,al,I.bk _ _ b4,b5,b6,b7⟩;have af:PySem.W.CodeHd s.heap c T:=PySem.W.codeHd_of_K I.kIn hC;have an:X.env.locals≠T:=λz=>by have:=I.free;rw [z,Z]at this;cases this
 refine PySem.W.kla_eval hdef ?_;rcases ht with M | ⟨D,M,ag⟩
 .have hP:s.heap.get? T=some (PySem.W.tabObj #[]):=I.hok T _ M;refine PySem.W.kla_makeFunction (mg:=X.mg) hcl I.ok.glob hg hcode af hP trivial rfl am hb λD U h' tk hx aa ac ad ao=>?_;obtain⟨qual,G⟩: ∃qual,qual=X.env.qual++"<lambda>":=⟨_,rfl⟩;rw [<-G]at ad ⊢;have ah:H D=none:=I.hok.fresh aa;have Y:H h'.objs.size=none:=I.hok.fresh (cS (Nat.lt_of_le_of_lt aa ac));have ap:T≠D:=Qj M ah;have aq:T≠h'.objs.size:=Qj M Y;have ar:D≠h'.objs.size:=aU ac;obtain⟨fd,ai⟩: ∃fd:FuncData,fd=Xh qual (.Lambda a b sc pos) ((X.mg "__name__").getD .none) D U:=⟨_,rfl⟩;have as:PySem.W.kla_obj "<lambda>" qual a b sc [] ((X.mg "__name__").getD .none) D U={ cls:=.type "function",data:=.func fd }:=by rw [ai];rfl
  rw [as];obtain⟨ps,aj⟩: ∃ps:Array Value,ps=#[rawInt pos.line,rawInt pos.col,.ref D]:=⟨_,rfl⟩;have ae:h'.get? T=some { cls:=.none,data:=.fields ps }:=by rw [aj];exact ao
  obtain⟨H',ab⟩: ∃H':Hp,H'=upd (upd (upd H T (.tbl ps)) D (MJ D qual)) h'.objs.size (La h'.objs.size fd):=⟨_,rfl⟩;have eF:H' h'.objs.size=some (La h'.objs.size fd):=by rw [ab];exact Qb
  have eC:H' D=some (MJ D qual):=by rw [ab,Qi ar];exact Qb
  have eT:H' T=some (.tbl ps):=by rw [ab,Qi aq,Qi ap];exact Qb
  have eO:∀x,x≠T->x≠D->x≠h'.objs.size->H' x=H x:=λx n1 n2 n3=>by rw [ab,Qi n3,Qi n2,Qi n1]
  have eK:∀x u,H x=some u->x≠T->H' x=some u:=λx u e n1=>by rw [eO x n1 (Qj e ah) (Qj e Y)];exact e
  have F:∀x o,h'.get? x=some o->(h'.push { cls:=.type "function",data:=.func fd }).get? x=some o:=λx o e=>aG _ e;have J:Inv X pins σ H' { s with heap:=h'.push { cls:=.type "function",data:=.func fd },toks:=tk }:=by
   refine I.step (g':=s.gens) (d':=s.drawn) (ch:=[]) (λ_ z=>nomatch z) (λx o _ _ _ e n=>?_) (λx o _ _ _ e n=>?_) (λx o _ e n=>?_) (λx o _ e=>?_) (λx xs e=>?_) (λx o u e=>?_) (λx qs e=>?_) (λm hn=>?_) (λx o e=>?_) I.bare
   .exact F _ _ (hx _ _ (λz=>by rw [z,Z]at n;cases n) e)
   .exact⟨o.slots,F _ _ (hx _ _ (λz=>by rw [z,Z]at n;cases n) e)⟩
   .have lx:=aJ e;rw [eO x (λz=>by rw [z,Z]at n;cases n) (aU (bU lx aa)) (aU (Nat.lt_trans (bU lx aa) ac))];exact n
   .by_cases z:x=T
    .exact⟨_,F _ _ (z ▸ ae)⟩
    .exact⟨o,F _ _ (hx _ _ z e)⟩
   .exact eK x _ e (QM e M (23:))
   .exact eK x _ e (QM e M (23:))
   .by_cases z:x=T
    .subst z;rw [M]at e;cases e;exact⟨ps,by rw [eT];simp⟩
    .exact⟨#[],by rw [eK x _ e z];simp⟩
   .exact(hn.extBut hx an).push _
   .by_cases z1:x=h'.objs.size
    .subst z1;rw [eF]at e;cases e;exact Gi (aQ _ rfl)
    by_cases z2:x=D
    .subst z2;rw [eC]at e;cases e;refine N3 ?_;obtain⟨c2,oc,vs,tq,z,au,r⟩:=ad;exact⟨c2,oc,vs,tq,z,F _ _ au,r⟩
    by_cases z3:x=T
    .subst z3;rw [eT]at e;cases e;exact F _ _ ae
    rw [eO x z3 z2 z1]at e;refine(I.hok x o e).stay (λy u hy r=>?_) (λy r=>?_) λy xs r=>?_
    .refine F _ _ (hx _ _ (λz=>?_) r);rcases hy with hy | hy
     .exact z3 (hy.symm.trans z)
     .rw [z,Z]at hy;cases hy
    .exact eK y _ r (QM r M (23:))
    .exact eK y _ r (QM r M (23:))
  refine⟨.ref h'.objs.size,H',J,rfl,q h'.objs.size H' (λx u n e=>eK x u e n) Y ⟨qual,_,D,U,by rw [eF,ai],eC⟩ ?_⟩;refine .inr ⟨D,?_,by rw [<-G];exact eC⟩;rw [eT,aj];rfl
 .have hP:s.heap.get? T=some (PySem.W.tabObj #[rawInt pos.line,rawInt pos.col,.ref D]):=I.hok T _ M;have hf:codeAmong pos (#[rawInt pos.line,rawInt pos.col,Value.ref D]:Array Value).toList=some (.ref D):=by
   show(if((pos.line:Int)==(pos.line:Int)&&(pos.col:Int)==(pos.col:Int))=true then some (Value.ref D)else _)=_;simp
  refine PySem.W.kla_makeFunctionHit (mg:=X.mg) hcl I.ok.glob hg hcode af hP trivial hf hb λU h' tk hk ak=>?_;obtain⟨qual,G⟩: ∃qual,qual=X.env.qual++"<lambda>":=⟨_,rfl⟩;rw [<-G];have Y:H h'.objs.size=none:=I.hok.fresh ak;refine⟨.ref h'.objs.size,upd H h'.objs.size (La h'.objs.size (Xh qual (.Lambda a b sc pos) ((X.mg "__name__").getD .none) D U)),I.laid (t':=tk) (λx o e=>aG _ (hk _ _ e)) ak (Gi (aQ _ rfl)),rfl,?_⟩;have g:=Qf Y (La h'.objs.size (Xh qual (.Lambda a b sc pos) ((X.mg "__name__").getD .none) D U));refine q h'.objs.size _ (SameX.of g) Y ⟨qual,_,D,U,Qb,g _ _ (by rw [G];exact ag)⟩ (.inr ⟨D,g _ _ M,g _ _ ag⟩)
def Vo(P:Program)(w:World)(K:Fg)(mg:Str->Option Value)(base:Heap)(k:Nat)(e:Expr)(sp:Sp)(soft:Bool:=false):Prop:=
 ∀(f:Addr)(A:Around)(outer:List Env)(s:Shared)(H:Hp)(us:List Value)(vs:List V)(Q:VK)(E:XK),Room k A (rm soft base)->Env0 P w K mg base A outer s H->LamAt H f e->Vals vs us->sp vs H Q E->
  codeAny (model P w) A (.call (.ref f) ⟨us,[]⟩) (CR CX0 outer P w H s Q E) s
theorem XT{K:Fg}{k:Nat}{N:List Str}(S:FnScope N ps (Zb e))(len:∀vs H Q E,sp vs H Q E->vs.length=ps.length)
 (hbind:∀(qual:Str)(pm:Value)(c:Addr)(ctv:Value)(us:List Value),us.length=ps.length->bindArgs (Xh qual e pm c ctv) ⟨us,[]⟩=pure (ps.zip us))
 {soft:Bool} (hbody:∀(qual:Str)(f c:Addr)(A:Around)(outer:List Env)(s:Shared)(H:Hp)(vs:List V)(Q:VK)(E:XK),Room k (A.deeper (envOfC qual (Zb e) s.heap.objs.size f (.ref c))) (rm soft base)->sp vs H Q E->
  ∃t,PE (QC CX0 P w K mg base N qual (Zb e) f (.ref c) A outer s H E).nox (V3 e) t/\t (start N vs) H Q):Vo P w K mg base (k+1) e sp soft:=by
 intro f A outer s H us vs Q E G z hL r F;obtain⟨qual,pm,c,ctv,hf,hc⟩:=hL.ex;have Y:s.heap.get? f=some { cls:=.type "function",data:=.func (Xh qual e pm c ctv) }:=(z.hok f _ hf).1;have M:s.heap.CodeRec (.ref c) qual:=(z.hok c _ hc).1;have Z:=len _ _ _ _ F;have aa:us.length=ps.length:=by rw [<-r.length];exact Z
 have ab:s.heap.NoLimit:=z.mod.nolimit.keeps λb o e=>(z.bs b o e).1;have D:∀y∈ps.zip us,(Zb e).names.lookup y.1=some .local\/((Zb e).names.lookup y.1=some .cell/\((cellsFrom (s.heap.objs.size+1) (Zb e).names []).lookup y.1).isSome=true):=λ⟨n,v⟩ hy=>by
  rcases S.par n (List.of_mem_zip hy).1 with q | q
  .exact .inl q
  .exact .inr ⟨q,PySem.W.cellsFrom_some _ _ _ (.inl q)⟩
 refine PySem.W.kla_callFunE G.depth Y rfl S.co S.gen rfl M ?_;rw [hbind qual pm c ctv us aa];refine aD ?_;refine wpAny_newFunctionEnv_cells S.kind D λenv he s1 x=>?_;subst he;refine⟨ab.keeps x.toInCall.keep,PySem.W.kla_codeExpr ?_⟩;obtain⟨t,ht,hq⟩:=hbody qual f c A outer s H vs Q E (G.deeper _) F;have I:Inv (QC CX0 P w K mg base N qual (Zb e) f (.ref c) A outer s H E) [] (start N vs) H s1:=Xd S G.h z Z r x;refine bS (ht.nox [] s1 (start N vs) H _ I hq) (λu s' U=>?_) λe s' U=>U;obtain⟨v,H',J,rv,q⟩:=U;exact⟨v,H',J.os,J.bare,J.base,J.hok,rv,q⟩
def PJ(i:Nat)(e:Expr)(sp:Sp)(t:TA):TE:=λσ H Q=>∃f,σ[i]?=some (some (.ref f))/\t σ H λvs H1=>LamAt H1 f e/\sp vs H1 Q E0
theorem LQ{i:Nat}{x:Str}{e a:Expr}{as:List Expr}{t:TA}{sp:Sp}{k:Nat}{p pos:Pos}{soft:Bool}(C:Vo X.prog X.w X.K X.mg X.base k e sp soft)(hr:Room k X.A (rm soft X.base))(ha:PA X (a::as) t)(hN:X.N[i]?=some x:=by rfl)(hv:Vis X.env.scope x:=by first | exact Or.inl rfl | exact bY (5:) | exact bY (bY rfl))
 (hd:(x==("__debug__":Str))=false:=by decide) (hcd:(x==("__classdict__":Str))=false:=by decide) (he:starEach (a::as) X.env=(false,eval a X.env)::starEach as X.env:=by rfl) (hpl:(backTo pos (starEach as X.env)).any (·.1)=false:=by rfl):
 PE X (.Call (.Name x p) (a::as) [] pos) (PJ i e sp t):=by
 intro pins s σ H Q I h;obtain⟨f,Z,h⟩:=h;refine fF (thn (Mp (pos:=p) hN hv hd hcd pins s σ H (λv H1=>v=.ref f/\H1=H) I ⟨.ref f,Z,rfl,rfl⟩) λu J ⟨v,H1,I1,r1,ev,eH⟩=>?_);subst ev eH;obtain rfl:u=Value.ref f:=r1;have M:wpAny (6:) X.A (spliced (backTo pos (starEach (a::as) X.env))) (λD U=>(∃fd,U.heap.get? f=some { cls:=.type "function",data:=.func fd })/\wpAny (6:) X.A (call (.ref f) ([]++D)) (EP X pins σ Q) X.xe U) X.xe J:=by
  refine thn (ha pos pins J σ H1 _ I1 h) λus s2 ⟨D,H2,F,r2,Y,q2⟩=>⟨?_,?_⟩
  .obtain⟨qual,pm,c,aa,G,hc⟩:=Y.ex;exact⟨_,(F.hok f _ G).1⟩
  .refine wpAny_call (codeAny_mono (C f X.A X.stack s2 H2 us D Q E0 hr F.env0 Y r2 q2) λr s' z=>?_);cases r with
   | error e=>exact z.elim
   | ok fl=>
    cases fl with
    | ret u=>exact F.after z
    | next=>exact False.elim z
    | brk=>exact False.elim z
    | cont=>exact False.elim z
 rw [he]at M ⊢;exact PySem.W.callWith_of (P:=λh=>∃fd,h.get? f=some { cls:=.type "function",data:=.func fd }) (by show((false||(backTo pos (starEach as X.env)).any (·.1))||false)=false;rw [hpl];rfl)
  (λh ⟨fd,G⟩=>⟨.frame,.inl rfl,(PySem.W.Looks.ld (part:=none) G).andThen .now⟩) (PySem.Calls.evalArgs_plain M)
section
variable{K:Fg}
theorem GI{c T:Addr}(hn:PySem.W.nsIn K mainGlobals x=some (some (.ref f)))(lk:K.lookup f=some ⟨oc,od,.func fd,sl⟩)(h:PySem.W.tabIn K x=some (c,T)):fd.code=.ref c:=by
 unfold PySem.W.tabIn at h;rw [hn]at h;simp only [lk]at h;split at h
 .rename_i D z;split at h
  .split at h
   .cases h;exact z
   .cases h
  .cases h
 .cases h
theorem Fun.okC{st:Stmt}{c T:Addr}{N:List Str}{k:Nat}(F:Fun K x qual st f fd)(hn:PySem.W.nsIn K mainGlobals x=some (some (.ref f)))(hT:PySem.W.tabIn K x=some (c,T))(S:FnScope N ps (defScope st))(len:∀vs H Q E,sp vs H Q E->vs.length=ps.length)
 {soft:Bool} (hbody:∀(A:Around)(outer:List Env)(s:Shared)(H:Hp)(vs:List V)(Q:VK)(E:XK),Room k (A.deeper (envOfC qual (defScope st) s.heap.objs.size f (.ref c))) (rm soft base)->sp vs H Q E->
  ∃t,PSs (QC CX0 P w K mg base N qual (defScope st) f (.ref c) A outer s H E).nox (defBody st) t/\t { nx:=λ_ H'=>Q .non H',rt:=Q } (start N vs) H):FnOk P w K mg base CX0 (k+1) f fd ps sp soft:=by
 obtain⟨Z,od,kV,U,pm,an,z,ct,Y,rfl,D,G⟩:=F.ex;have e:z=.ref c:=GI hn D hT;subst e;refine GP D G S len λA outer s H vs Q E M J=>?_;obtain⟨t,h,q⟩:=hbody A outer s H vs Q E M J;exact⟨t,h.nox,q⟩
end
def ValO(p d:Addr):HO:=.ext λh=>h.IsValuesView p d
def ItmO(p d:Addr):HO:=.ext λh=>h.IsItemsView p d
theorem GT:MtR X "dict.values" (λx vs H Q=>∃(d:Addr)(kvs:List (Key×V)),x=.ref d/\vs=[]/\H d=some (.dK kvs)/\∀p,H p=none->Q (.ref p) (upd H p (ValO p d))):=by
 intro pins s σ H x xs v Y Q I G J h;obtain⟨d,kvs,rfl,rfl,hd,q⟩:=h;cases G;cases J;obtain⟨z,ne,vs,U,D⟩:=Xn I.hok hd;refine call_meetsIn PySem.F.slot_dict_values D.typeIs PySem.F.entry_dict_values (PySem.F.args_dict_values_1 _) (meets_dict_values (Qv X.prog X.w) d ne) ⟨⟨vs,D⟩,?_⟩;refine⟨.ref s.heap.objs.size,_,I.laid (a:=s.heap.objs.size) (o:=ValO s.heap.objs.size d) (t':=s.toks) (λb o e=>aG _ e) (4:) ?_,rfl,q _ (I.hok.fresh (4:))⟩;refine⟨⟨_,aQ _ rfl,rfl,rfl⟩,⟨_,aQ _ rfl⟩,λh1 h2 ⟨o,e,c,M⟩ k=>⟨o,k _ e,c,M⟩⟩
theorem LO:MtR X "dict.items" (λx vs H Q=>∃(d:Addr)(kvs:List (Key×V)),x=.ref d/\vs=[]/\H d=some (.dK kvs)/\∀p,H p=none->Q (.ref p) (upd H p (ItmO p d))):=by
 intro pins s σ H x xs v Y Q I G J h;obtain⟨d,kvs,rfl,rfl,hd,q⟩:=h;cases G;cases J;obtain⟨z,ne,vs,U,D⟩:=Xn I.hok hd;refine call_meetsIn PySem.F.slot_dict_items D.typeIs PySem.F.entry_dict_items (PySem.F.args_dict_items_1 _) (meets_dict_items (Qv X.prog X.w) d ne) ⟨⟨vs,D⟩,?_⟩;refine⟨.ref s.heap.objs.size,_,I.laid (a:=s.heap.objs.size) (o:=ItmO s.heap.objs.size d) (t':=s.toks) (λb o e=>aG _ e) (4:) ?_,rfl,q _ (I.hok.fresh (4:))⟩;refine⟨⟨_,aQ _ rfl,rfl,rfl⟩,⟨_,aQ _ rfl⟩,λh1 h2 ⟨o,e,c,M⟩ k=>⟨o,k _ e,c,M⟩⟩
section
variable{pins:List (8:)}{σ:St}
theorem Inv.freeze(I:Inv X pins σ H s)(hd:H d=some (.dK kvs))(e:s.heap.get? d=some ob):Inv X pins σ (upd H d (.frz ob (.dK kvs))) s:=by
 have e1:∀b u,H b=some u->u≠.dK kvs->upd H d (.frz ob (.dK kvs)) b=some u:=λb u q n=>by rw [Qi (QM q hd n)];exact q
 have J:=I.step (h':=s.heap) (H':=upd H d (.frz ob (.dK kvs))) (g':=s.gens) (d':=s.drawn) (t':=s.toks) (ch:=[]) (λ_ z=>nomatch z) (λb o _ _ _ q _=>q) (λb o _ _ _ q _=>⟨o.slots,q⟩)
  (λb o _ q n=>by rw [Qi (λz=>by rw [z,hd]at n;cases n)];exact n) (λb o _ q=>⟨o,q⟩) (λb xs q=>e1 b _ q (23:)) (λb o u q=>e1 b _ q (23:)) (λb ps q=>⟨#[],by rw [e1 b _ q (23:)];simp⟩) (λm F=>F)
  (λb u q=>by
   by_cases D:b=d
   .subst D;rw [Qb]at q;cases q;exact⟨e,(I.hok b _ hd).stay (λc v _ r=>r) (λc r=>e1 c _ r (23:)) λc xs r=>e1 c _ r (23:)⟩
   .rw [Qi D]at q;exact(I.hok b u q).stay (λc v _ r=>r) (λc r=>e1 c _ r (23:)) λc xs r=>e1 c _ r (23:)) I.bare
 exact J
theorem Inv.thaw(I:Inv X pins σ H s)(h0:∀o u,X.H₀ d≠some (.frz o u))(hd:H d=some (.frz ob (.dK kvs))):Inv X pins σ (upd H d (.dK kvs)) s:=by
 have e1:∀b u,H b=some u->u≠.frz ob (.dK kvs)->upd H d (.dK kvs) b=some u:=λb u q n=>by rw [Qi (QM q hd n)];exact q
 have F:∀b,H b=none->upd H d (.dK kvs) b=none:=λb n=>by rw [Qi (λz=>by rw [z,hd]at n;cases n)];exact n
 refine⟨I.ok,I.os,I.bare,⟨I.base.keep,I.base.slot,λb o q n J=>F b (I.base.free b o q n J),I.base.there,λb xs q=>e1 b _ (I.base.tups b xs q) (23:),λb o u q=>?_,λb ps q=>?_⟩,I.loc,I.cell,F _ I.free,λx c q=>F _ (I.freeC x c q),λp hp=>?_,λb u q=>?_,I.len⟩
 .have:=I.base.frzs b o u q
  by_cases D:b=d
  .subst D;exact absurd q (h0 o u)
  .rw [Qi D];exact this
 .obtain⟨G,e⟩:=I.base.tbls b ps q;exact⟨G,e1 b _ e (23:)⟩
 .obtain⟨M,U,Y⟩:=I.pin p hp;exact⟨M,F _ U,Y⟩
 .by_cases D:b=d
  .subst D;rw [Qb]at q;cases q;exact(I.hok b _ hd).2.stay (λc v _ r=>r) (λc r=>e1 c _ r (23:)) λc xs r=>e1 c _ r (23:)
  .rw [Qi D]at q;exact(I.hok b u q).stay (λc v _ r=>r) (λc r=>e1 c _ r (23:)) λc xs r=>e1 c _ r (23:)
end
def OQ(d:Addr)(kvs:List (Key×V))(Q:Hp->Prop):Hp->Prop:=λH=>(∃o,H d=some (.frz o (.dK kvs)))/\Q (upd H d (.dK kvs))
def SC(t:TS):TS:=λD σ H=>∃d kvs,H d=some (.dK kvs)/\t { nx:=λσ'=>OQ d kvs (D.nx σ'),ct:=λσ'=>OQ d kvs (D.ct σ'),bk:=λσ'=>OQ d kvs (D.bk σ'),rt:=λv=>OQ d kvs (D.rt v) } σ H
theorem Gn{st:Stmt}{t:TS}(h:PS X st t):PS X st (SC t):=by
 intro pins s σ H D I Y;obtain⟨d,kvs,hd,Y⟩:=Y;have M:∀o u,X.H₀ d≠some (.frz o u):=λo u q=>by
  have:=I.base.frzs d o u q;rw [hd]at this;cases this
 refine bS (h pins s σ H _ I Y) (λf s' U=>?_) λ_ _ z=>z;cases f with
 | next=>obtain⟨F,H',J,⟨o,G⟩,q⟩:=U;exact⟨F,_,J.thaw M G,q⟩
 | cont=>obtain⟨F,H',J,⟨o,G⟩,q⟩:=U;exact⟨F,_,J.thaw M G,q⟩
 | brk=>obtain⟨F,H',J,⟨o,G⟩,q⟩:=U;exact⟨F,_,J.thaw M G,q⟩
 | ret u=>obtain⟨v,F,H',J,Z,⟨o,G⟩,q⟩:=U;exact⟨v,F,_,J.thaw M G,Z,q⟩
def Nj(d:Addr)(o:Obj)(kvs:List (Key×V)):It:=
 ⟨λi H=>H d=some (.frz o (.dK kvs))/\i<kvs.length,λi H x H'=>H'=H/\∃k,kvs[i]?=some (k,x),λi H=>H d=some (.frz o (.dK kvs))/\kvs.length<=i⟩
def Rb(d:Addr)(o:Obj)(kvs:List (Key×V)):It:=
 ⟨λi H=>H d=some (.frz o (.dK kvs))/\i<kvs.length,λi H x H'=>∃p k v,H p=none/\x=.ref p/\H'=upd H p (.tup [kV k,v])/\kvs[i]?=some (k,v),λi H=>H d=some (.frz o (.dK kvs))/\kvs.length<=i⟩
theorem Uf{h:Heap}{es:Array DictEntry}(x:HOk P w H h)(hd:H d=some (.frz o (.dK kvs)))(he:o.data=.dict es ep):h.get? d=some o/\∃vs,KV kvs vs/\h.DictAt (Qv P w) d vs ep:=by
 obtain⟨e,z,ne,vs,D,M,G,J,e2,ex,F,r⟩:=x d _ hd;refine⟨e,vs,D,?_⟩;rw [e]at e2;cases e2;rw [he]at F;cases F;exact⟨o,es,e,ex,he,r⟩
theorem KV.at{kvs:List (Key×V)}{vs:List (Key×Value)}(r:KV kvs vs){i:Nat}{k:Key}{v:V}(e:kvs[i]?=some (k,v)):∃u,vs[i]?=some (k,u)/\RelV v u:=by
 induction r generalizing i with
 | nil=>simp at e
 | @cons p q _ _ h _ z=>
  cases i with
  | zero=>
   simp at e;subst e;obtain⟨D,u⟩:=q;obtain⟨h1,h2⟩:=h;simp only at h1 h2;subst h1;exact⟨u,rfl,h2⟩
  | succ i=>exact z (by simpa using e)
theorem Vv{K:Fg}{es:Array DictEntry}(he:o.data=.dict es ep)(kvs:List (Key×V))(it:Addr):Turn P w K tg (Nj d o kvs) [it] it (λi h=>h.IsValIter it d i kvs.length ep) where
 mem:=by simp
 obj:=λi h st b G=>by
  have e:b=it:=by simpa using G
  subst e;obtain⟨J,e,c,Y⟩:=st;exact⟨J,e,λv z=>by rw [Y]at z;cases z⟩
 keep:=λi h h' st k=>by
  obtain⟨J,e,r⟩:=st;exact⟨J,k it (14:) J e,r⟩
 item:=by
  intro X Z hw hK hc i pins s σ H E I U st hg;subst Z hw hK;obtain⟨hd,hi⟩:=hg;obtain⟨_,vs,F,D⟩:=Uf I.hok hd he;have ek:kvs[i]?=some (kvs[i].1,kvs[i].2):=aB hi;obtain⟨u,hu,ru⟩:=KV.at F ek;obtain⟨f0,f1,f2,f3,f4,f5⟩:=U it (14:);rw [F.length]at st;refine wpAny_pyNext_values_item st D hu λh' M sb=>?_;have I1:Inv X pins σ H { s with heap:=h' }:=I.turned (t':=s.toks) (λb o G e=>(sb.2 b G).trans e) f0 f1 f3 f4 f5;obtain⟨J,e,c,Y⟩:=id M;rw [<-F.length]at M;exact⟨u,rfl,Wg (s:={ s with heap:=h' }) e c Y (18:) ⟨kvs[i].2,H,I1,ru,⟨rfl,_,ek⟩,M,λb G=>(U b G).1⟩⟩
 done:=by
  intro X Z hw hK hc i pins s σ H E I U st hg;subst Z hw hK;obtain⟨hd,hi⟩:=hg;obtain⟨_,vs,F,D⟩:=Uf I.hok hd he;obtain⟨f0,f1,f2,f3,f4,f5⟩:=U it (14:);rw [F.length]at st;exact Lg (I.hd hc) st D (List.getElem?_eq_none (by rw [<-F.length];exact hi)) λh' eb=>⟨rfl,I.turned (t':=s.toks) (λb o G e=>eb b o G e) f0 f1 f3 f4 f5⟩
 self:=λA i s Q E st h=>wpAny_pyIter_valiter st h
theorem GR:entryFor table "dict_itemiterator.__iter__"=some Builtin.«dict_keyiterator.__iter__» :=
 entryFor_alias (id':="dict_keyiterator.__iter__") (by kernel_rfl) (by first | rfl | decide+kernel | (unfold String.splitOn;simp+decide [String.splitOnAux])) (0:) (by kernel_rfl)
theorem Wl{K:Fg}{es:Array DictEntry}(he:o.data=.dict es ep)(kvs:List (Key×V))(it:Addr):Turn P w K (.Tuple elts k1 pos) (Rb d o kvs) [it] it (λi h=>∃ok ov,IsItemIter h it d i kvs.length ep ok ov) where
 mem:=by simp
 obj:=λi h st b hb=>by
  have e:b=it:=by simpa using hb
  subst e;obtain⟨ok,ov,e⟩:=st;exact⟨_,e,λv z=>by cases z⟩
 keep:=λi h h' st k=>by
  obtain⟨ok,ov,e⟩:=st;exact⟨ok,ov,k it (14:) _ e⟩
 item:=by
  intro X hP hw hK J i pins s σ H E I U st hg;subst hP hw hK;obtain⟨hd,hi⟩:=hg;obtain⟨ok,ov,st⟩:=st;obtain⟨_,vs,G,D⟩:=Uf I.hok hd he;have ek:kvs[i]?=some (kvs[i].1,kvs[i].2):=aB hi;obtain⟨u,hu,ru⟩:=KV.at G ek;rw [G.length]at st;refine wpAny_pyNext_items_item st D hu λkey h' ab ho ht ae hk=>?_;refine⟨.ref s.heap.objs.size,rfl,wpAny_letOwnedTupleGo_items (s:={ s with heap:=h' }) ho λac M Y=>?_⟩;have Z:s.heap.objs.size≠it:=fN (aJ st);have rk:RelV (kV kvs[i].1) key:=by
   rcases QT ab with⟨j,t,e1,e2⟩ | ⟨x,t,e1,e2⟩
   .rw [e1];exact⟨t,e2⟩
   .rw [e1];exact⟨t,e2⟩
  have I2:Inv X pins σ (upd H s.heap.objs.size (.tup [kV kvs[i].1,kvs[i].2])) { s with heap:=ac }:=by
   refine I.turnedNew (t':=s.toks) (ch:=[it]) (λc o J g=>?_) U (4:) ⟨by show 2<=sizeLine;decide,[key,u],.cons rk (.cons ru .nil),⟨_,(Y.2 _ Z).trans ht,rfl,_,rfl⟩⟩;have aa:c≠it:=λz=>J (by simp [z]);exact(Y.2 c aa).trans (hk c o aa g)
  have ad:∀c∈[it],upd H s.heap.objs.size (.tup [kV kvs[i].1,kvs[i].2]) c=none:=λc J=>by
   have e:c=it:=by simpa using J
   subst e;rw [Qi (aL Z)];exact(U c J).1
  rw [<-G.length]at M;exact⟨.ref s.heap.objs.size,_,I2,rfl,⟨s.heap.objs.size,_,_,I.fresh,rfl,rfl,ek⟩,⟨_,_,M⟩,ad⟩
 done:=by
  intro X hP hw hK J i pins s σ H E I U st hg;subst hP hw hK;obtain⟨hd,hi⟩:=hg;obtain⟨ok,ov,st⟩:=st;obtain⟨_,vs,G,D⟩:=Uf I.hok hd he;obtain⟨f0,f1,f2,f3,f4,f5⟩:=U it (14:);rw [G.length]at st;exact Vg (I.hd J) st D (List.getElem?_eq_none (by rw [<-G.length];exact hi)) λh' eb=>⟨rfl,I.turned (t':=s.toks) (λb o hb e=>eb b o hb e) f0 f1 f3 f4 f5⟩
 self:=λA i s Q E st h=>by
  obtain⟨ok,ov,st⟩:=st;have hT:s.TypeIs (.ref it) "dict_itemiterator":=⟨_,st,rfl⟩;refine wpAny_pyIter_slot hT PySem.F.slot_dict_itemiterator_iter (cH PySem.F.slot_dict_itemiterator_iter hT GR ?_ (PySem.F.args_dict_itemiterator_iter_1 _));exact aD ⟨_,rfl,"dict_itemiterator",_,hT,PySem.F.slot_dict_itemiterator_next.lookup,h⟩
def iDV(te:TE):TI:=λσ H R=>te σ H λx H1=>∃p d kvs,x=.ref p/\H1 p=some (ValO p d)/\H1 d=some (.dK kvs)/\∀o,R (Nj d o kvs) (upd H1 d (.frz o (.dK kvs)))
def iDI(te:TE):TI:=λσ H R=>te σ H λx H1=>∃p d kvs,x=.ref p/\H1 p=some (ItmO p d)/\H1 d=some (.dK kvs)/\∀o,R (Rb d o kvs) (upd H1 d (.frz o (.dK kvs)))
theorem M8(he:PE X e te):PI X tg e (iDV te):=by
 intro pins s σ H R I h;refine thn (he pins s σ H _ I h) λv D ⟨x,H1,F,Y,p,d,kvs,ex,hp,hd,q⟩=>?_;subst ex;obtain rfl:v=Value.ref p:=Y;obtain⟨z,ne,vs,J,o,es,ep,M,ext,U,rest⟩:=Xn F.hok hd;have Z:D.heap.IsValuesView p d:=(F.hok p _ hp).1;refine wpAny_pyIter_values (knd:=Qv X.prog X.w) Z ⟨o,es,M,ext,U,rest⟩ ?_;have G:=F.freeze hd M;refine⟨D.heap.objs.size,[D.heap.objs.size],_,_,_,rfl,G.kept (t':=D.toks) λb o e=>aG _ e,Vv U kvs _,?_,λb hb=>?_,q o⟩
 .rw [J.length];exact⟨_,aQ _ rfl,rfl,rfl⟩
 .have e:b=D.heap.objs.size:=by simpa using hb
  subst e;exact G.fpOk (4:) (G.hok.fresh (4:))
theorem Lc(he:PE X e te):PI X (.Tuple elts k1 tpos) e (iDI te):=by
 intro pins s σ H R I h;refine thn (he pins s σ H _ I h) λv D ⟨x,H1,F,Y,p,d,kvs,ex,hp,hd,q⟩=>?_;subst ex;obtain rfl:v=Value.ref p:=Y;obtain⟨z,ne,vs,J,o,es,ep,M,ext,U,rest⟩:=Xn F.hok hd;have Z:D.heap.IsItemsView p d:=(F.hok p _ hp).1;refine wpAny_pyIter_items (knd:=Qv X.prog X.w) Z ⟨o,es,M,ext,U,rest⟩ ?_;have G:=F.freeze hd M;refine⟨D.heap.objs.size,[D.heap.objs.size],_,_,_,rfl,G.kept (t':=D.toks) λb o e=>aG _ e,Wl U kvs _,?_,λb hb=>?_,q o⟩
 .rw [J.length];exact⟨_,_,aQ _ rfl⟩
 .have e:b=D.heap.objs.size:=by simpa using hb
  subst e;exact G.fpOk (4:) (G.hok.fresh (4:))
theorem GS{d:Addr}{o:Obj}{kvs:List (Key×V)}{g:TG}{tb:TS}{D:Ends}{σ:St}{H:Hp}(Pv:Nat->St->Hp->Prop)(h0:Pv 0 σ H)(hl:∀i σ H,i<=kvs.length->Pv i σ H->H d=some (.frz o (.dK kvs)))
 (hs:∀i k x σ H,kvs[i]?=some (k,x)->Pv i σ H->g x σ H λσ2 H2=>tb { D with nx:=Pv (i+1),ct:=Pv (i+1),bk:=D.nx } σ2 H2) (hd:∀σ H,Pv kvs.length σ H->D.nx σ H):
 ∃W:Nat->Nat->St->Hp->Prop,(∃m,W 0 m σ H)/\∀i m σ H,W i m σ H->
  ((Nj d o kvs).stop i H/\D.nx σ H)\/((Nj d o kvs).go i H/\∃N:St->Hp->Prop,(∀σ' H',N σ' H'->∃m',m'<m/\W (i+1) m' σ' H')/\∀x H',(Nj d o kvs).yld i H x H'->g x σ H' λσ2 H2=>tb { D with nx:=N,ct:=N,bk:=D.nx } σ2 H2):=by
 refine⟨λi m σ H=>m=kvs.length-i/\i<=kvs.length/\Pv i σ H,⟨kvs.length,by simp,bK _,h0⟩,?_⟩;rintro i m σ H ⟨rfl,hi,p⟩;have q:=hl i σ H hi p
 by_cases z:i<kvs.length
 .refine .inr ⟨⟨q,z⟩,Pv (i+1),λσ' H' F=>⟨kvs.length-(i+1),by lia,rfl,z,F⟩,λx H' y=>?_⟩;obtain⟨e,k,y⟩:=y;subst e;exact hs i k x σ _ y p
 .have e:i=kvs.length:=by lia
  subst e;exact .inl ⟨⟨q,bB _⟩,hd σ H p⟩
theorem Xj{pins:List (8:)}{σ:St}(I:Inv X pins σ H s):∀ts:List (Addr×Key×V),(∀t∈ts,SqT X.K H t.1 [kV t.2.1,t.2.2])->
 ∃ps:List (Key×Value),KV (ts.map λt=>(t.2.1,t.2.2)) ps/\∀(j:Nat)(q:Key×Value),ps[j]?=some q->∃p u,(ts.map λt=>Value.ref t.1)[j]?=some (.ref p)/\(Qv X.prog X.w).is q.1 u=true/\s.heap.IsTuple p #[u,q.2]
 | [],_=>⟨[],.nil,λj q h=>by simp at h⟩
 | t::r,h=>by
  obtain⟨ps,h1,h2⟩:=Xj I r λu F=>h u (bC _ F);obtain⟨its,G,p,_⟩:=I.tuple (h t bA);obtain⟨u,v,rfl,J,z⟩:=G.two;refine⟨(t.2.1,v)::ps,.cons ⟨rfl,z⟩ h1,λj q D=>?_⟩;cases j with
  | zero=>
   have:q=(t.2.1,v):=by simpa using D.symm
   subst this;exact⟨t.1,u,rfl,Y8 (k:=t.2.1) J,p⟩
  | succ j=>
   obtain⟨M,U,e1,e2,e3⟩:=h2 j q (by simpa using D);exact⟨M,U,by simpa using e1,e2,e3⟩
theorem Vm(hc:X.calm=true):ZK X (.type "dict") (λxs H Q=>∃(l:Addr)(ts:List (Addr×Key×V)),xs=[.ref l]/\SqL X.K H l (ts.map λt=>V.ref t.1)/\(∀t∈ts,SqT X.K H t.1 [kV t.2.1,t.2.2])/\(ts.map λt=>t.2.1).Nodup/\ts.length<=1000/\
 ∀d,H d=none->Q (.ref d) (upd H d (.dK (ts.map λt=>(t.2.1,t.2.2))))):=by
 intro pins s σ H xs us Q I r h;obtain⟨l,ts,rfl,Z,ht,F,hz,q⟩:=h;cases r with
 | cons r rr=>
  cases rr;obtain rfl:_=Value.ref l:=r;obtain⟨its,rv,⟨o,n,e,c,dn,dt⟩,_⟩:=I.list Z;obtain rfl:=YG rv;obtain⟨ps,z,G⟩:=Xj I ts ht;have D:ps.length=ts.length:=by have:=z.length;rw [aC]at this;exact this.symm
  have J:ps.length<=sizeLine:=by rw [D,cU];lia
  refine Jy (I.hd hc) I.big e c dn dt J (by rw [aV,aC];exact D) (λj q hq=>by simpa using G j q hq) λh' tk M hk=>?_;have U:((([]:List (Key×Value))++ps).map (·.1)).Nodup:=by
   rw [fJ,KV.keys' z,bI];exact F
  rw [Ya ps [] U,fJ]at M;have Y:=I.hok.fresh (bB s.heap.objs.size);refine⟨.ref s.heap.objs.size,_,I.laid (a:=s.heap.objs.size) (o:=.dK (ts.map λt=>(t.2.1,t.2.2))) (t':=tk) hk (4:) (XV (by rw [aC,cU];lia) (fW.mpr (aL (aU I.big))) z M),rfl,q _ Y⟩
theorem LH{d acc:Addr}{K:Fg}{o:Obj}{kvs:List (Key×V)}{tt:TT}{te:TE}{cs:St}{H1:Hp}{Q:Hp->Prop}(Pv:Nat->List V->Hp->Prop)(h0:Pv 0 [] (upd H1 acc (.lst [])))(hl:∀i ys H,i<=kvs.length->Pv i ys H->H d=some (.frz o (.dK kvs)))
 (hs:∀i k v p ys H,i<kvs.length->kvs[i]?=some (k,v)->H p=none->Pv i ys H->tt (some (kV k)::some v::cs) (upd H p (.tup [kV k,v])) (Ll kvs.length Pv acc i te (some (kV k)::some v::cs))) (hd:∀ys H,Pv kvs.length ys H->Q H):Jx (Rb d o kvs) 2 cs (L6 K 2 (Ud (Zz 0) (Ud (Zz 1) ME))) tt te H1 acc Q:=by
 refine Zj Pv h0 (λys H p=>⟨⟨hl _ _ _ (4:) p,bB _⟩,hd ys H p⟩) λi ys H hi p=>⟨⟨hl _ _ _ (cS hi) p,hi⟩,?_⟩;rintro x F ⟨z,k,v,hp,rfl,rfl,e⟩ G D;obtain⟨J,M,rfl⟩:=X7 D;exact⟨z,[kV k,v],rfl,SqT.of Qb,rfl,kV k,[v],rfl,v,[],rfl,rfl,⟨[some (kV k),some v],rfl,rfl⟩,hs i k v z ys H hi e hp p⟩
section
variable{p pos2:Pos}
theorem Lh(hc:X.calm=true):ZK X (.builtin "sum") (λxs H Q=>∃(l:Addr)(ns:List Int),xs=[.ref l]/\SqL X.K H l (ns.map V.int)/\Q (.int ns.sum) H):=by
 intro pins s σ H xs M Q I r h;obtain⟨l,ns,rfl,z,q⟩:=h;cases r with
 | cons r D=>
  cases D;obtain rfl:_=Value.ref l:=r;obtain⟨its,F,p,_⟩:=I.list z;obtain⟨ys,rfl,e2⟩:=YZ F;have G:s.heap.IsList l (intItems ys.toArray):=by rw [JO];exact p.isList
  refine Sc (I.hd hc) G λh' tk t' J=>⟨.int ns.sum,H,I.kept (t':=tk) J,⟨t',?_⟩,q⟩;rw [NZ,e2,bL];rw [<-e2];simp
end
end L2
namespace K27
open PySem L2 TM TT K9 K11
section
variable{α:Type}
mutual
noncomputable def QD(op:Lab->List α->α)(cv:Int->Int->α):Tm->α
 | .node (.call m b) _ _=>cv m b
 | .node (.put n k a) _ bs=>op (.put n k a) (QG op cv bs)
noncomputable def QG(op:Lab->List α->α)(cv:Int->Int->α):List Tm->List α
 | []=>[]
 | t::r=>QD op cv t::QG op cv r
end
theorem ZG(op:Lab->List α->α)(cv:Int->Int->α):∀ts:List Tm,QG op cv ts=ts.map (QD op cv)
 | []=>by simp [QG]
 | t::r=>by simp only [QG,aS,ZG op cv r]
mutual
noncomputable def QV(op:Lab->Int->List α->α)(d:α)(ks:List KdT)(ms:List Md):Tree Str->Int->α
 | .node n mk bs=>λm=>match ms[m.toNat]? with
  | none=>d
  | some md=>match ruleK ks md n with
   | none=>d
   | some u=>QD (λl xs=>op l mk xs) (λm' b=>((Yv op d ks ms bs)[b.toNat]?).elim d λg=>g m') u
noncomputable def Yv(op:Lab->Int->List α->α)(d:α)(ks:List KdT)(ms:List Md):List (Tree Str)->List (Int->α)
 | []=>[]
 | t::r=>QV op d ks ms t::Yv op d ks ms r
end
theorem J0(op:Lab->Int->List α->α)(d:α)(ks:List KdT)(ms:List Md):∀ts:List (Tree Str),Yv op d ks ms ts=ts.map (QV op d ks ms)
 | []=>by simp [Yv]
 | t::r=>by simp only [Yv,aS,J0 op d ks ms r]
def valT(op:Lab->Int->List α->α)(d:α)(T:Tu)(u:Tm)(r:Tree Str):α:=QD (λl xs=>op l (mkT r) xs) (λm b=>(r.bs[b.toNat]?).elim d λc=>QV op d T.ks T.ms c m) u
theorem Zr{op:Lab->Int->List α->α}{d:α}{T:Tu}{t:Tree Str}{m:Int}{md:Md}{u:Tm}(h1:T.ms[m.toNat]?=some md)(h2:ruleK T.ks md (nmT t)=some u):QV op d T.ks T.ms t m=valT op d T u t:=by
 cases t with
 | node n mk bs=>
  have z:ruleK T.ks md n=some u:=h2;simp only [QV,h1,z,J0];unfold valT
  congr 1
  funext m' b
  rw [aI];show(Option.map (QV op d T.ks T.ms) bs[b.toNat]?).elim d (λg=>g m')=(bs[b.toNat]?).elim d λc=>QV op d T.ks T.ms c m';cases bs[b.toNat]? <;>rfl
end
theorem St.call(ok:TuOk T){u:Tm}(h:St T (u,r)){b:Int}(hc:(m,b)∈cls u):
 ∃c md v,0<=b/\0<=m/\r.bs[b.toNat]?=some c/\T.ms[m.toNat]?=some md/\ruleK T.ks md (nmT c)=some v/\v∈md.2/\St T (v,c):=by
 obtain⟨z,D,F,G⟩:=h;have h1:St T (ZH m b,r):=by
  refine⟨z,?_,F,G⟩;unfold Ys at D ⊢;simp only [ZH,cls,lcl,Zn,dZ,List.all_cons,List.all_nil,Bool.and_true];exact dX.mp D _ hc
 obtain⟨c,md,v,J,M,e1,e2,e3,U,_,Y⟩:=h1.next ok (m:=m) (b:=b) rfl;exact⟨c,md,v,J,M,e1,e2,e3,U,Y⟩
def Rep{α:Type}(K:Fg)(R:Hp->V->α->Prop):Prop:=∀(H H':Hp)(v:V)(a:α),(∀x xs,SqT K H x xs->SqT K H' x xs)->R H v a->R H' v a
inductive RAll{α:Type}(R:Hp->V->α->Prop)(H:Hp):List V->List α->Prop where
 | nil:RAll R H [] []
 | cons {v:V} {a:α} {vs:List V} {as:List α}:R H v a->RAll R H vs as->RAll R H (v::vs) (a::as)
theorem RAll.append{α:Type}{R:Hp->V->α->Prop}:∀{vs ws:List V}{as bs:List α},RAll R H vs as->RAll R H ws bs->RAll R H (vs++ws) (as++bs)
 | _,_,_,_,.nil,h=>h
 | _,_,_,_,.cons a t,h=>.cons a (RAll.append t h)
theorem RAll.imp{α:Type}{R:Hp->V->α->Prop}(k:∀{v a},R H v a->R H' v a):∀{vs:List V}{as:List α},RAll R H vs as->RAll R H' vs as
 | _,_,.nil=>.nil
 | _,_,.cons a t=>.cons (k a) (RAll.imp k t)
theorem Rd.mk{u:HO}(g:Same H H')(h:Rd H d u):Rd H' d u:=by
 rcases h with h | ⟨o,h⟩
 .exact .inl (g _ _ h)
 .exact .inr ⟨o,g _ _ h⟩
def BelAt{α:Type}(R:Hp->V->α->Prop)(H:Hp)(ds:List Addr)(cv:Int->Int->α)(cs:List (Int×Int)):Prop:=∀c∈cs,0<=c.2/\∃d kvs v,ds[c.2.toNat]?=some d/\Rd H d (.dK kvs)/\valV kvs (Sum.inl c.1:Key)=some v/\R H v (cv c.1 c.2)
theorem BelAt.same{α:Type}{K:Fg}{R:Hp->V->α->Prop}(hR:Rep K R){cv:Int->Int->α}(g:Same H H')(h:BelAt R H ds cv cs):BelAt R H' ds cv cs:=λc z=>by
 obtain⟨D,d,kvs,v,h1,h2,F,G⟩:=h c z;exact⟨D,d,kvs,v,h1,Rd.mk g h2,F,hR _ _ _ _ (λ_ _=>g.seqT) G⟩
theorem BelAt.sub{α:Type}{R:Hp->V->α->Prop}{cv:Int->Int->α}{cs':List (Int×Int)}(h:BelAt R H ds cv cs)(k:∀c∈cs',c∈cs):BelAt R H ds cv cs':=λc z=>h c (k c z)
theorem Uo{c:Int×Int}{t:Tm}:∀{ts:List Tm},t∈ts->c∈cls t->c∈Zn ts
 | _::_,h,hc=>by
  simp only [Zn];rcases aM.mp h with rfl | h
  .exact bZ _ hc
  .exact bJ _ (Uo h hc)
theorem Gd:∀ts:List Tm,ts.length<=szs ts
 | []=>by simp [szs]
 | t::r=>by
  have h1:=Gd r;have h2:=Nn t;simp only [szs,cD];lia
def pr(c:Int×Int):List Int:=[c.1,c.2]
def Vu(K:Fg)(n:Nat):Sp:=λvs H Q _=>∃(v:V)(t:Tm),vs=[v]/\TmV K H v t/\lv t<=n/\sz t<=1000/\
 ∀(l:Addr)(H':Hp)(ts:List (Addr×List Int)),Same H H'->H l=none->H' l=some (.lst (Rf ts))->TsAt K H' ts->ts.map (·.2)=(cls t).map pr->Q (.ref l) H'
def Mz{α:Type}(K:Fg)(R:Hp->V->α->Prop)(op:Lab->Int->List α->α):Sp:=λvs H Q _=>∃(v:V)(u:Tm)(mk:Int)(lp:Addr)(ys:List V)(xs:List α),vs=[v,.int mk,.ref lp]/\TmV K H v u/\isC (lab u)=false/\H lp=some (.lst ys)/\RAll R H ys xs/\xs.length<=100/\
 ∀(v':V)(H':Hp),Same H H'->R H' v' (op (lab u) mk xs)->Q v' H'
def Zx{α:Type}(K:Fg)(e:Expr)(R:Hp->V->α->Prop)(op:Lab->Int->List α->α)(n:Nat):Sp:=λvs H Q _=>∃(v:V)(u:Tm)(mk:Int)(lb f:Addr)(ds:List Addr)(cv:Int->Int->α),vs=[v,.int mk,.ref lb,.ref f]/\TmV K H v u/\lv u<=n/\sz u<=100/\SqL K H lb (ds.map V.ref)/\BelAt R H ds cv (cls u)/\LamAt H f e/\
 ∀(v':V)(H':Hp),Same H H'->R H' v' (QD (λl xs=>op l mk xs) cv u)->Q v' H'
section
variable{K:Fg}{soft:Bool}
theorem PP:FnScope ["term","told","part"] ["term"] (defScope sCO):=(1:)
theorem SS(F:Fun K "calls_of" "calls_of" sCO f fd)(G:Gm mg)(RC:Fn P w K mg base 1 "is_call" ["term"] (Jv K) soft)(R:Fn P w K mg base (n+1) "calls_of" ["term"] (Vu K n) soft):FnOk P w K mg base CX0 (n+2) f fd ["term"] (Vu K (n+1)) soft:=by
 refine F.ok PP (13:) (λam A outer s H vs Q E hr h=>?_)
 .obtain⟨v,t,rfl,_⟩:=h
  rfl
 obtain⟨v,t,rfl,ht,ae,af,q⟩:=h;refine⟨_,(Qe (QP (Q7 (Qr RC hr (Qa (pv 0) Qc) (gR 1 n))) (Qh (Qp (QH (Qa ((QE (Qa (Qg Qk (pv 0) Qd (2:)) (Qa (Qg Qk (pv 0) Qd (2:)) Qc)))) Qc)))) Qw)
  (Qe (Qm (i:=1) PP.nd rfl (5:) (QH Qc))
  (Qe (QO a' rfl (Yg (Qg Qk (pv 0) Qd (2:))) (Qt (i:=2) PP.nd rfl (5:))
   (Qh (QS (ZJ cN PySem.F.slot_list_extend PySem.F.type_list_extend JX (pv 1) (Qa (Qr R hr (Qa (pv 2) Qc) (4:)) Qc)))))
  (Qh (Qp (pv 1)))))),?_⟩
 try dsimp only [QC,Cx.nox]
 refine L2.let3 ?_
 intros
 refine⟨_,rfl,v,t,rfl,ht,_,rfl,?_⟩;rcases ZC ht with⟨a,m,b,rfl,rfl,h1⟩ | ⟨a,b,bs,nm,k,ad,rfl,et,h1,h2,h3,h4⟩
 .refine Zd ⟨_,rfl,a,_,1,_,rfl,rfl,h1,rfl,_,rfl,a,_,2,_,rfl,rfl,h1,rfl,(by show 2<=sizeLine;decide),λp hp=>⟨(by show 1<=sizeLine;decide),λl M=>?_⟩⟩;have g1:=Qf hp (.tup [.int m,.int b]);have g2:=Qf M (.lst [.ref p]);refine q l _ [(p,[m,b])] (g1.trans g2) (g1.free M) Qb (λx U=>?_) rfl;have:x=(p,[m,b]):=by simpa using U
  rw [this];exact g2.seqT (SqT.of Qb)
 have ac:cls t=Zn t.bs:=by
  have:=congrArg cls et;rw [this];simp [cls,lcl]
 rw [et];refine Zf ?_;have ak:=h3.length;rw [Q8]at ae;rw [Nn]at af;rw [ac]at q;refine⟨(21:),λl M=>?_⟩;have g0:=Qf M (.lst []);refine⟨_,rfl,a,_,4,_,rfl,rfl,g0.seqT h1,rfl,b,rfl,⟨_,g0.seqT h2⟩,?_⟩;refine let J_:J3:=(λi σ H'=>∃(z:List (Addr×List Int))(c1:Option V),σ=[some (.ref a),some (.ref l),c1]/\Same H H'/\H' l=some (.lst (Rf z))/\TsAt K H' z/\z.map (·.2)=(Zn (t.bs.take i)).map pr);YB (K:=K) (xs:=bs) J_
  ⟨[],none,rfl,g0,Qb,λx U=>(nomatch U),by simp [Zn]⟩ ?_ ?_ ?_
 .rintro i σ H' _ ⟨z,c1,_,g,_⟩;exact g.seqT h2
 .rintro i x σ H' U ⟨z,c1,rfl,g,J,Y,D⟩;have hi:i<bs.length:=(aK.mp U).1;obtain⟨c,hc⟩: ∃c,t.bs[i]?=some c:=⟨_,aB (7:)⟩;obtain⟨cv,ag,ah⟩:=h3.get hc;obtain rfl:cv=x:=aH (ag.symm.trans U);have hm:=aN hc;have a1:=ZI hm;have a2:=Pd hm;refine⟨_,rfl,.inl ⟨rfl,_,SqL.of J⟩,_,rfl,cv,c,rfl,ah.mono λ_ _=>g.seqT,by lia,by lia,λlb Hb ab gb al ai aj Z=>?_⟩;have aa:=gb _ _ J;have tl:z.length<=szs t.bs:=by
   have e:=congrArg List.length D;rw [aC,aC]at e;have h5:=Jp (t.bs.take i);have an:szs (t.bs.take i)<=szs t.bs:=by
    have e:=UK (t.bs.take i++t.bs.drop i);rw [aR,List.sum_append,UK,UK,List.take_append_drop]at e;lia
   lia
  have ao:ab.length<=sz c:=by
   have e:=congrArg List.length Z;rw [aC,aC]at e;have h5:=Gp c;lia
  refine⟨l,lb,_,_,rfl,rfl,aa,ai,?_,?_⟩
  .rw [aC,aC];exact Zg (7:)
  refine⟨z++ab,_,rfl,λx u e=>?_,by rw [Qb];simp,?_,?_⟩
  .rw [Qi (Qj e M)];exact gb _ _ (g _ _ e)
  .exact(Y.mono λ_ _ h=>(gb.seqT h).put aa).app (aj.mono λ_ _ h=>h.put aa)
  .rw [aR,D,Z,b_,hc];show _=(Zn (t.bs.take i++[c])).map pr;rw [Xg,aR]
 .rintro σ H' ⟨z,c1,rfl,g,J,Y,D⟩;rw [bL (7:)]at D;exact⟨_,rfl,q l H' z g M J Y D⟩
theorem Ow{k:Nat}:FnOk P w K mg base CX0 k f fd ["term"] (Vu K 0) soft:=by
 have no:∀z H Q E,¬Vu K 0 z H Q E:=λz H Q E h=>by
  obtain⟨v,t,_,_,D,_⟩:=h;rw [Q8]at D;lia
 exact⟨λz H Q E h=>absurd h (no z H Q E),λA outer s H F G z Q E _ _ _ _ h=>absurd h (no z H Q E)⟩
theorem Mb(F:Fun K "calls_of" "calls_of" sCO f fd)(G:Gm mg)(RC:Fn P w K mg base 1 "is_call" ["term"] (Jv K) soft)(hb:Binds K fd ["term"] [])(hm:mg "calls_of"=some (.ref f)):∀n:Nat,FnOk P w K mg base CX0 (n+1) f fd ["term"] (Vu K n) soft
 | 0=>Ow
 | n+1=>SS F G RC ⟨f,fd,Mb F G RC hb hm n,hb,F.kp,hm⟩
theorem Rn:FnScope ["term","mark","below","make"] ["term","mark","below","make"] (defScope U3):=(1:)
theorem OJ{α:Type}{R:Hp->V->α->Prop}{op:Lab->Int->List α->α}(hR:Rep K R)(F:Fun K "filled" "filled" U3 f fd)(G:Gm mg)(RC:Fn P w K mg base 1 "is_call" ["term"] (Jv K) soft)(CV:Vo P w K mg base 2 e (Mz K R op) soft)(RF:Fn P w K mg base (n+3) "filled" ["term","mark","below","make"] (Zx K e R op n) soft):
 FnOk P w K mg base CX0 (n+4) f fd ["term","mark","below","make"] (Zx K e R op (n+1)) soft:=by
 refine F.ok Rn (13:) (λan A outer s H vs Q E Z h=>?_)
 .obtain⟨v,u,mk,lb,f,ds,cv,rfl,_⟩:=h
  rfl
 obtain⟨v,u,mk,lb,fm,ds,cv,rfl,ht,af,ag,aa,hB,hL,q⟩:=h;refine⟨_,(Qe (QP (Q7 (Qr RC Z (Qa (pv 0) Qc) (7:))) (Qh (Qp (Zh (Zp Z) (Qg Ql (pv 2) (Qg Qk (pv 0) Qd (2:)) (2:)) (Qg Qk (pv 0) Qd (2:)) (2:)))) Qw)
  (Qh (Qp (LQ (i:=3) CV (Z.mono (7:)) (Qa (pv 0) (Qa (pv 1) (Qa (QU (CompG.many (xs:=["part"]) (caps:=["below","make","mark"]) (cap:=[2,3,1]) (cs:=[_,_,_]) rfl rfl (0:) (0:) (0:) (0:) (0:) (0:) rfl rfl rfl) rfl (Yg (Qg Qk (pv 0) Qd (2:))) (Zm (CompG.many (xs:=["part"]) (caps:=["below","make","mark"]) (cap:=[2,3,1]) (cs:=[_,_,_]) rfl rfl (0:) (0:) (0:) (0:) (0:) (0:) rfl rfl rfl)) (λ_ _ _ _=>Q5) (λ_ _ _ _=>Qr RF Z (Qa (pv 0) (Qa (pv 3) (Qa (pv 1) (Qa (pv 2) Qc)))) (4:))) Qc))))))),?_⟩
 try dsimp only [QC,Cx.nox]
 refine L2.let1 ?_
 intros
 refine⟨_,rfl,v,u,rfl,ht,_,rfl,?_⟩;rcases ZC ht with⟨a,m,b,rfl,rfl,h1⟩ | ⟨a,b,bs,nm,k,ad,rfl,et,h1,h2,h3,h4⟩
 .obtain⟨h0,d,kvs,x,e1,e2,e3,e4⟩:=hB (m,b) (by simp [ZH,cls,lcl,Zn]);have em:b=((b.toNat:Nat):Int):=by
   have:(0:Int)<=b:=h0;lia
  refine Zd ⟨_,rfl,_,rfl,a,_,2,_,rfl,rfl,h1,rfl,lb,_,b,.ref d,rfl,rfl,aa,?_,_,rfl,a,_,1,_,rfl,rfl,h1,rfl,d,x,rfl,.inl ⟨kvs,.inl m,e2,rfl,e3.symm⟩,q x H (Same.refl _) e4⟩;rw [em];exact Qs (by rw [aI,e1];rfl)
 have ae:cls u=Zn u.bs:=by
  have:=congrArg cls et;rw [this];simp [cls,lcl]
 have D:lab u=.put nm k ad:=by rw [et];rfl
 rw [ae]at hB;have ah:isC (lab u)=false:=by rw [D];rfl
 rw [ah];refine Zf ?_;have am:=h3.length;rw [Q8]at af;rw [Nn]at ag;refine⟨fm,rfl,_,rfl,_,rfl,_,rfl,a,_,4,_,rfl,rfl,h1,rfl,b,rfl,⟨_,h2⟩,λacc U=>?_⟩;refine let J_:JC:=(λi ys H'=>H' acc=some (.lst ys)/\Same H H'/\ys.length=i/\RAll R H' ys ((u.bs.take i).map (QD (λl xs=>op l mk xs) cv)));VM (K:=K) (xs:=bs) (cs:=[some (.ref lb),some (.ref fm),some (.int mk)]) (tt:=λ_ H Q=>Q true H) (te:=J9 (Zx K e R op n) [] E0 (Zu (ZL 0) (Zu (ZL 3) (Zu (ZL 1) (Zu (ZL 2) Vf))))) J_
  ⟨Qb,Qf U _,rfl,.nil⟩ ?_ ?_ ?_
 .rintro i ys H' _ ⟨_,g,_⟩;exact g.seqT h2
 .rintro i x ys H' hi hx ⟨z,g,ab,J⟩;obtain⟨c,hc⟩: ∃c,u.bs[i]?=some c:=⟨_,aB (7:)⟩;obtain⟨ac,ai,aj⟩:=h3.get hc;obtain rfl:ac=x:=aH (ai.symm.trans hx);have hm:=aN hc;have a1:=ZI hm;have a2:=Pd hm;refine Zd ⟨_,rfl,_,rfl,_,rfl,_,rfl,ac,c,mk,lb,fm,ds,cv,rfl,aj.mono λ_ _=>g.seqT,by lia,by lia,g.seq aa,(hB.sub λd hd=>Uo hm hd).same hR g,hL.same g,λv' H4 Y M=>?_⟩;refine Qz (ys:=ys) hi (Y _ _ z) (7:) ⟨Qb,λx u e=>?_,by simp [ab],?_⟩
  .rw [Qi (Qj e U)];exact Y _ _ (g _ _ e)
  .rw [b_,hc];show RAll R _ (ys++[v']) ((u.bs.take i++[c]).map (QD (λl xs=>op l mk xs) cv));rw [aR];refine RAll.append (J.imp λh=>hR _ _ _ _ (λ_ _ h=>(Y.seqT h).put (Y _ _ z)) h) (.cons (hR _ _ _ _ (λ_ _ h=>h.put (Y _ _ z)) M) .nil)
 rintro ys H1 ⟨z,g,ab,J⟩;have ak:u.bs.take bs.length=u.bs:=bL (7:);rw [ak]at J;have al:u.bs.length<=100:=by
  have:=Gd u.bs;lia
 refine⟨hL.same g,.ref a,u,mk,acc,ys,_,rfl,ht.mono λ_ _=>g.seqT,by rw [D];rfl,z,J,by rw [aC];exact al,λv' H2 g2 M=>q v' H2 (g.trans g2) ?_⟩;rw [et];rw [D]at M;simp only [QD,ZG];exact M
theorem LF{α:Type}{R:Hp->V->α->Prop}{op:Lab->Int->List α->α}{k:Nat}:FnOk P w K mg base CX0 k f fd ["term","mark","below","make"] (Zx K e R op 0) soft:=by
 have no:∀z H Q E,¬Zx K e R op 0 z H Q E:=λz H Q E h=>by
  obtain⟨v,u,mk,lb,f,ds,G,_,_,D,_⟩:=h;rw [Q8]at D;lia
 exact⟨λz H Q E h=>absurd h (no z H Q E),λA outer s H F J z Q E _ _ _ _ h=>absurd h (no z H Q E)⟩
theorem Y2{α:Type}{R:Hp->V->α->Prop}{op:Lab->Int->List α->α}(hR:Rep K R)(F:Fun K "filled" "filled" U3 f fd)(G:Gm mg)(RC:Fn P w K mg base 1 "is_call" ["term"] (Jv K) soft)(CV:Vo P w K mg base 2 e (Mz K R op) soft)(hb:Binds K fd ["term","mark","below","make"] [])(hm:mg "filled"=some (.ref f)):∀n:Nat,FnOk P w K mg base CX0 (n+3) f fd ["term","mark","below","make"] (Zx K e R op n) soft
 | 0=>LF
 | n+1=>OJ hR F G RC CV ⟨f,fd,Y2 hR F G RC CV hb hm n,hb,F.kp,hm⟩
end
structure Mo(K:Fg)(H H':Hp):Prop where
 t:∀a xs,SqT K H a xs->SqT K H' a xs
 l:∀a xs,SqL K H a xs->SqL K H' a xs
theorem Mo.of{K:Fg}(g:Same H H'):Mo K H H':=⟨λ_ _=>g.seqT,λ_ _=>g.seq⟩
theorem Mo.trans{K:Fg}(a:Mo K H H1)(b:Mo K H1 H2):Mo K H H2:=⟨λ_ _ h=>b.t _ _ (a.t _ _ h),λ_ _ h=>b.l _ _ (a.l _ _ h)⟩
theorem Mo.sx{K:Fg}{u:HO}(hd:H d=some u)(h1:∀xs,u≠.tup xs)(h2:∀xs,u≠.lst xs)(h3:∀o xs,u≠.frz o (.tup xs))(h4:∀o xs,u≠.frz o (.lst xs))(g:SameX d H H'):Mo K H H':=by
 constructor
 .intro a xs h;rcases h with(h | ⟨o,h⟩) | h
  .exact .inl (.inl (g _ _ (QM h hd (λz=>h1 xs z.symm)) h))
  .exact .inl (.inr ⟨o,g _ _ (QM h hd (λz=>h3 o xs z.symm)) h⟩)
  .exact .inr h
 .intro a xs h;rcases h with(h | ⟨o,h⟩) | h
  .exact .inl (.inl (g _ _ (QM h hd (λz=>h2 xs z.symm)) h))
  .exact .inl (.inr ⟨o,g _ _ (QM h hd (λz=>h4 o xs z.symm)) h⟩)
  .exact .inr h
theorem Mo.dk{K:Fg}(hd:H d=some (.dK kvs))(g:SameX d H H'):Mo K H H':=Mo.sx hd (λ_ z=>nomatch z) (λ_ z=>nomatch z) (λ_ _ z=>nomatch z) (λ_ _ z=>nomatch z) g
theorem Mo.fz{K:Fg}(hd:H d=some (.frz ob (.dK kvs)))(g:SameX d H H'):Mo K H H':=Mo.sx hd (λ_ z=>nomatch z) (λ_ z=>nomatch z) (λ_ _ z=>nomatch z) (λ_ _ z=>nomatch z) g
theorem Mo.wood{K:Fg}{w:Addr}(g:Mo K H H')(h:WoodAt K H w ks):WoodAt K H' w ks:=⟨g.l _ _ h.1,λk z=>⟨g.t _ _ (h.2 k z).1,g.l _ _ (h.2 k z).2.1,λt D=>⟨g.t _ _ ((h.2 k z).2.2 t D).1,g.t _ _ ((h.2 k z).2.2 t D).2⟩⟩⟩
theorem Mo.modes{K:Fg}(g:Mo K H H')(h:ModesL K H lm ms):ModesL K H' lm ms:=⟨g.l _ _ h.1,λm z=>⟨g.t _ _ (h.2 m z).1,g.l _ _ (h.2 m z).2.1,(h.2 m z).2.2.mono g.t⟩⟩
theorem Mo.turn{K:Fg}{v:V}(g:Mo K H H')(h:TurnAt K H tu wd lm v ms T):TurnAt K H' tu wd lm v ms T:=⟨g.t _ _ h.tu,g.wood h.w,g.modes h.m,h.s.mono g.t⟩
theorem few:∀{n:Nat}{fs:List Int},fs.Nodup->(∀m∈fs,0<=m/\m<(n:Int))->fs.length<=n
 | 0,[],_,_=>bB _
 | 0,m::_,_,h=>by have:=h m bA;lia
 | n+1,fs,D,h=>by
  have h1:(fs.filter λm=>decide (m≠(n:Int))).length<=n:=few (D.sublist List.filter_sublist) λm F=>by
   obtain⟨h2,G⟩:=gM.mp F;have Z:=h m h2;have h5:m≠(n:Int):=cJ G;lia
  have h2:fs.length<=(fs.filter λm=>decide (m≠(n:Int))).length+1:=by
   clear h h1
   induction fs with
   | nil=>simp
   | cons a r J=>
    obtain⟨M,U⟩:=gQ.mp D
    by_cases e:a=(n:Int)
    .have:r.filter (λm=>decide (m≠(n:Int)))=r:=List.filter_eq_self.mpr λx Y=>bW λz=>M (by rw [e,<-z];exact Y);rw [List.filter_cons_of_neg (by simp [e]),this];simp
    .have:=J U;rw [List.filter_cons_of_pos (by simp [e])];simp only [cD];lia
  lia
abbrev RuL:=List (Int×V×Tm)
def kvI(ps:RuL):List (Key×V):=ps.map λp=>(Sum.inl p.1,p.2.1)
theorem YK(ps:RuL):(kvI ps).length=ps.length:=aC ..
theorem Wm{ps:RuL}(h:m∉ps.map (·.1)):valV (kvI ps) (Sum.inl m:Key)=none:=by
 induction ps with
 | nil=>rfl
 | cons p r D=>
  simp only [aS,aM,not_or]at h;show valV ((Sum.inl p.1,p.2.1)::kvI r) _=none;rw [QW (λz=>h.1 (by cases z;rfl)),D h.2]
theorem Mh{ps:RuL}(h:m∈ps.map (·.1)):∃v,valV (kvI ps) (Sum.inl m:Key)=some v:=by
 induction ps with
 | nil=>simp at h
 | cons p r D=>
  by_cases e:p.1=m
  .exact⟨p.2.1,Q0 (p:=((Sum.inl p.1:Key),p.2.1)) (by show(Sum.inl p.1:Key)=_;rw [e])⟩
  .simp only [aS,aM]at h;rcases h with h | h
   .exact absurd h.symm e
   .obtain⟨v,F⟩:=D h;exact⟨v,by show valV ((Sum.inl p.1,p.2.1)::kvI r) _=some v;rw [QW (λz=>e (by cases z;rfl)),F]⟩
theorem Og{ps:RuL}{v:V}(u:Tm)(h:m∉ps.map (·.1)):putK (kvI ps) (Sum.inl m:Key) v=kvI (ps++[(m,v,u)]):=by
 rw [MR v (Wm h)];simp [kvI]
structure RuAt(K:Fg)(H:Hp)(d:Addr)(ps:RuL):Prop where
 d:H d=some (.dK (kvI ps))
 t:∀p∈ps,TmV K H p.2.1 p.2.2
structure RlC(T:Tu)(c:Tree Str)(m:Int)(u:Tm):Prop where
 m0:0<=m
 ex:∃md,T.ms[m.toNat]?=some md/\ruleK T.ks md (nmT c)=some u/\u∈md.2
 st:St T (u,c)
structure Ned(K:Fg)(H0 H:Hp)(T:Tu)(r:Tree Str)(ld:Addr)(es:List (Addr×RuL))(dn:Int->Int->Prop):Prop where
 l:H ld=some (.lst (es.map λe=>V.ref e.1))
 fl:H0 ld=none
 len:es.length=r.bs.length
 inj:∀(i j:Nat) a b,es[i]?=some a->es[j]?=some b->a.1=b.1->i=j
 fr:∀(i:Nat) e,es[i]?=some e->H0 e.1=none
 at':∀(i:Nat) e,es[i]?=some e->H e.1=some (.dK (kvI e.2))/\(e.2.map (·.1)).Nodup
 ok:∀(i:Nat) e c,es[i]?=some e->r.bs[i]?=some c->∀p∈e.2,TmV K H p.2.1 p.2.2/\RlC T c p.1 p.2.2
 dn:∀m b,dn m b->∃e,es[b.toNat]?=some e/\m∈e.2.map (·.1)
theorem Ned.same{K:Fg}{es:List (Addr×RuL)}(g:Same H H')(h:Ned K H0 H T r l es dn):Ned K H0 H' T r l es dn:=
 ⟨g _ _ h.l,h.fl,h.len,h.inj,h.fr,λi e z=>⟨g _ _ (h.at' i e z).1,(h.at' i e z).2⟩,λi e c z D p hp=>⟨(h.ok i e c z D p hp).1.mono λ_ _=>g.seqT,(h.ok i e c z D p hp).2⟩,h.dn⟩
theorem Ned.imp{K:Fg}{es:List (Addr×RuL)}{dn':Int->Int->Prop}(h:Ned K H0 H T r l es dn)(k:∀m b,dn' m b->∃e,es[b.toNat]?=some e/\m∈e.2.map (·.1)):Ned K H0 H T r l es dn':=⟨h.l,h.fl,h.len,h.inj,h.fr,h.at',h.ok,k⟩
theorem ZE{α:Type}{es:List α}{x y:α}(h:(es.set i x)[j]?=some y):(j=i/\y=x)\/(j≠i/\es[j]?=some y):=by
 rw [cC]at h
 by_cases e:i=j
 .rw [aE e]at h;split at h
  .exact .inl ⟨e.symm,(aH h).symm⟩
  .cases h
 .rw [aF e]at h;exact .inr ⟨aL e,h⟩
theorem Ned.put{K:Fg}{es:List (Addr×RuL)}(h:Ned K H0 H T r l es dn){e:Addr×RuL}{c:Tree Str}{v:V}{u:Tm}(he:es[i]?=some e)(hc:r.bs[i]?=some c)(hm:m∉e.2.map (·.1))(hv:TmV K H v u)(hr:RlC T c m u):
 Ned K H0 (upd H e.1 (.dK (kvI (e.2++[(m,v,u)])))) T r l (es.set i (e.1,e.2++[(m,v,u)])) (λm' b'=>dn m' b'\/(m'=m/\b'.toNat=i)):=by
 have hd:=(h.at' i e he).1;have hi:i<es.length:=(aK.mp he).1;have g:Mo K H (upd H e.1 (.dK (kvI (e.2++[(m,v,u)])))):=Mo.dk hd SameX.upd;have Y:(es.set i (e.1,e.2++[(m,v,u)])).map (λe=>V.ref e.1)=es.map λe=>V.ref e.1:=by
  apply List.ext_getElem?;intro j;rw [aI,aI,cC]
  by_cases z:i=j
  .subst z;rw [aE rfl,aE hi,he];rfl
  .rw [aF z]
 refine⟨?_,h.fl,by rw [bQ];exact h.len,λa b x y D hy z=>?_,λj x D=>?_,λj x D=>?_,λj x c' D F p hp=>?_,λm' b' G=>?_⟩
 .rw [Y,Qi (QM h.l hd (23:))];exact h.l
 .rcases ZE D with⟨rfl,rfl⟩ | ⟨_,J⟩<;>rcases ZE hy with⟨rfl,rfl⟩ | ⟨_,M⟩
  .rfl
  .exact h.inj _ _ _ _ he M z
  .exact h.inj _ _ _ _ J he z
  .exact h.inj _ _ _ _ J M z
 .rcases ZE D with⟨rfl,rfl⟩ | ⟨_,D⟩
  .exact h.fr _ e he
  .exact h.fr _ _ D
 .rcases ZE D with⟨rfl,rfl⟩ | ⟨nj,D⟩
  .refine⟨Qb,?_⟩;show((e.2++[(m,v,u)]).map (·.1)).Nodup;rw [aR];refine List.nodup_append.mpr ⟨(h.at' _ e he).2,by simp,λa ha b Z=>?_⟩;have:b=m:=by simpa using Z
   rw [this];exact λz=>hm (z ▸ ha)
  .refine⟨?_,(h.at' _ _ D).2⟩;rw [Qi (λz=>nj (h.inj _ _ _ _ D he z))];exact(h.at' _ _ D).1
 .rcases ZE D with⟨rfl,rfl⟩ | ⟨nj,D⟩
  .obtain rfl:c'=c:=aH (F.symm.trans hc);rcases a_.mp hp with hp | hp
   .exact⟨(h.ok _ _ _ he hc _ hp).1.mono g.t,(h.ok _ _ _ he hc _ hp).2⟩
   .have:p=(m,v,u):=by simpa using hp
    rw [this];exact⟨hv.mono g.t,hr⟩
  .exact⟨(h.ok _ _ _ D F _ hp).1.mono g.t,(h.ok _ _ _ D F _ hp).2⟩
 .rcases G with G | ⟨rfl,Z⟩
  .obtain⟨x,D,U⟩:=h.dn _ _ G
   by_cases z:b'.toNat=i
   .rw [z]at D;obtain rfl:x=e:=aH (D.symm.trans he);refine⟨(x.1,x.2++[(m,v,u)]),by rw [z,cC,aE rfl,aE hi],?_⟩;show m'∈(x.2++[(m,v,u)]).map (·.1);rw [aR];exact bZ _ U
   .exact⟨x,by rw [cC,aF (aL z)];exact D,U⟩
  .exact⟨(e.1,e.2++[(m',v,u)]),by rw [Z,cC,aE rfl,aE hi],by simp⟩
def NX(K:Fg):Sp:=λvs H Q _=>∃(tu wd lm:Addr)(sv:V)(mo:List MdT)(T:Tu)(d:Addr)(ps:RuL)(rv:V)(r:Tree Str),vs=[.ref tu,.ref d,rv]/\TurnAt K H tu wd lm sv mo T/\TurnOk mo T/\mo.length<=10/\RuAt K H d ps/\TrV K H rv r/\(∀p∈ps,St T (p.2.2,r)/\lv p.2.2<=8/\sz p.2.2<=100)/\
 ∀(l:Addr)(H':Hp)(es:List (Addr×RuL)),Same H H'->Ned K H H' T r l es (λm b=>∃p∈ps,(m,b)∈cls p.2.2)->Q (.ref l) H'
structure Wlk(K:Fg)(H0 H:Hp)(d:Addr)(o:Obj)(kvs:List (Key×V))(T:Tu)(r:Tree Str)(l:Addr)(es:List (Addr×RuL))(dn:Int->Int->Prop):Prop where
 x:SameX d H0 H
 d:H d=some (.frz o (.dK kvs))
 n:Ned K H0 H T r l es dn
theorem Wlk.same{K:Fg}{es:List (Addr×RuL)}(g:Same H H')(h:Wlk K H0 H d o kvs T r l es dn):Wlk K H0 H' d o kvs T r l es dn:=⟨h.x.trans (SameX.of g),g _ _ h.d,h.n.same g⟩
section
variable{K:Fg}{soft:Bool}
theorem MT:FnScope ["turning","rules","tree","needed","rule","mode","branch"] ["turning","rules","tree"] (defScope L3):=(1:)
theorem SU(F:Fun K "called_below" "called_below" L3 f fd)(G:Gm mg)(RO:Fn P w K mg base 9 "calls_of" ["term"] (Vu K 8) soft)(RR:Fn P w K mg base 2 "rule_of" ["turning","mode","name"] (X6 K) soft):FnOk P w K mg base CX0 10 f fd ["turning","rules","tree"] (NX K) soft:=by
 refine F.ok MT (13:) (λca A outer s H vs Q E hr h=>?_)
 .obtain⟨tu,wd,lm,sv,mo,T,d,ps,rv,r,rfl,_⟩:=h
  rfl
 obtain⟨tu,wd,lm,sv,mo,T,d,ps,rv,r,rfl,hT,hO,b7,ab,aq,bf,q⟩:=h;refine⟨_,(Qe (ZA (i:=3) (CompG.many (xs:=["branch"]) (caps:=[]) (cap:=[]) (cs:=[]) rfl rfl (0:) (0:) (0:) (0:) (0:) (0:) rfl rfl rfl) rfl (Yg (Qg Qk (pv 2) Qd (2:))) (Zm (CompG.many (xs:=["branch"]) (caps:=[]) (cap:=[]) (cs:=[]) rfl rfl (0:) (0:) (0:) (0:) (0:) (0:) rfl rfl rfl)) (λ_ _ _ _=>Q5) (λ_ _ _ _=>WG) MT.nd rfl rfl)
  (Qe (Gn (QO a' rfl (M8 (MQ gU PySem.F.slot_dict_values PySem.F.type_dict_values GT (pv 1))) (Qt (i:=4) MT.nd rfl (5:)) (Qh
   (QO a' rfl (Q1 (Qr RO hr (Qa (pv 4) Qc))) (Yu rfl (QR (Qt (i:=5) MT.nd rfl (5:)) (QR (Qt (i:=6) MT.nd rfl (5:)) ZN))) (Qh
    (QP (Nu (Lr (Zp hr) (pv 5) (Qg Ql (pv 3) (pv 6) (2:)))) (Qh
     (XB (Zp hr) (Qg Ql (pv 3) (pv 6) (2:)) (pv 5) (Qr RR hr (Qa (pv 0) (Qa (pv 5) (Qa (Qg Qk (Qg Qk (Qg Qk (pv 2) Qd (2:)) (pv 6) (2:)) Qd (2:)) Qc)))) rfl)) Qw))))))
  (Qh (Qp (pv 3))))),?_⟩
 try dsimp only [QC,Cx.nox]
 refine L2.let2 ?_
 intros
 cases aq with
 | @mk a b us ts name ae h1 h2 h3 h4=>
 have bg:=h3.length;refine⟨_,rfl,a,_,2,_,rfl,rfl,h1,rfl,b,rfl,⟨_,h2⟩,λacc ah=>?_⟩;refine let J_:JC:=(λi ys H'=>∃Y:List Addr,ys=Y.map V.ref/\H' acc=some (.lst ys)/\Same H H'/\Y.length=i/\(∀(j:Nat) x,Y[j]?=some x->H' x=some (.dK [])/\H x=none)/\∀(i j:Nat) x y,Y[i]?=some x->Y[j]?=some y->x=y->i=j);VM (K:=K) (xs:=us) (cs:=[]) (tt:=λ_ H Q=>Q true H) (te:=VA) J_
  ⟨[],rfl,Qb,Qf ah _,rfl,λj x h=>by simp at h,λi j x y h=>by simp at h⟩ ?_ ?_ ?_
 .rintro i ys H' _ ⟨_,_,_,g,_⟩;exact g.seqT h2
 .rintro i x ys H' hi M ⟨Y,rfl,ak,g,ar,ac,aa⟩;refine Zd λp hp=>?_;have g2:=Qf hp (.dK []);have au:=g2 _ _ ak;have bh:p≠acc:=λz=>by rw [z,ak]at hp;cases hp
  refine Qz (ys:=Y.map V.ref) hi au (by rw [aC];lia) ⟨Y++[p],by simp,Qb,λx u e=>?_,by simp [ar],λj x M=>?_,λi j x y M hy=>?_⟩
  .rw [Qi (Qj e ah)];exact g2 _ _ (g _ _ e)
  .rw [gy]at M;split at M
   .obtain⟨e1,e2⟩:=ac j x M;refine⟨?_,e2⟩;rw [Qi (QM (g2 _ _ e1) au (23:))];exact g2 _ _ e1
   .have e:x=p:=by
     have:=aN M
     simpa using this
    subst e;exact⟨by rw [Qi bh];exact Qb,g.free hp⟩
  .have key:∀(i:Nat) x,(Y++[p])[i]?=some x->(i<Y.length/\Y[i]?=some x)\/(i=Y.length/\x=p):=λi x M=>by
    rw [gy]at M;split at M
    .exact .inl ⟨by assumption,M⟩
    .have e:x=p:=by
      have:=aN M
      simpa using this
     have:=(aK.mp M).1;simp only [bO]at this;exact .inr ⟨by lia,e⟩
   intro z;rcases key i x M with⟨_,M⟩ | ⟨ei,ex⟩<;>rcases key j y hy with⟨_,hy⟩ | ⟨ej,ey⟩
   .exact aa _ _ _ _ M hy z
   .have:=(ac _ _ M).1;rw [z,ey,hp]at this;cases this
   .have:=(ac _ _ hy).1;rw [<-z,ex,hp]at this;cases this
   .lia
 rintro ys H1 ⟨Y,rfl,ak,g1,ar,ac,aa⟩;have ag:=g1 _ _ ab.d;have bi:Ned K H H1 T (.node name ae ts) acc (Y.map λx=>(x,([]:RuL))) (λ_ _=>False):=by
  have key:∀(i:Nat) e,(Y.map λx=>(x,([]:RuL)))[i]?=some e->Y[i]?=some e.1/\e.2=[]:=λi e D=>by
   rw [aI]at D;cases h:Y[i]? with
   | none=>rw [h]at D;cases D
   | some x=>rw [h]at D;cases D;exact⟨rfl,rfl⟩
  refine⟨by rw [bI];exact ak,ah,by rw [aC,ar];exact bg,λi j x y M hy z=>aa _ _ _ _ (key _ _ M).1 (key _ _ hy).1 z,λi e D=>(ac _ _ (key _ _ D).1).2,λi e D=>?_,λi e c D _ p hp=>?_,λ_ _ z=>z.elim⟩
  .rw [(key _ _ D).2];exact⟨(ac _ _ (key _ _ D).1).1,by simp⟩
  .rw [(key _ _ D).2]at hp;cases hp
 refine⟨d,kvI ps,ag,_,rfl,.inr (.inr (.inl ⟨rfl,.inl ⟨_,ag⟩⟩)),d,kvI ps,rfl,rfl,ag,λpv a4=>⟨pv,d,kvI ps,rfl,Qb,Qf a4 _ _ _ ag,λo=>?_⟩⟩;have g2:=Qf a4 (ValO pv d);have av:=g2 _ _ ag;have Z:=bi.same g2;have gg:=g1.trans g2;generalize upd H1 pv (ValO pv d)=H2 at g2 av Z gg;have aw:∀(i:Nat)(e:Addr×RuL)(es:List (Addr×RuL)),(∀(i:Nat) e,es[i]?=some e->H e.1=none)->es[i]?=some e->e.1≠d:=λi e es hf D z=>by
  have:=hf i e D;rw [z,ab.d]at this;cases this
 have bj:Wlk K H (upd H2 d (.frz o (.dK (kvI ps)))) d o (kvI ps) T (.node name ae ts) acc (Y.map λx=>(x,([]:RuL))) (λm b=>∃p∈ps.take 0,(m,b)∈cls p.2.2):=by
  have gm:Mo K H2 (upd H2 d (.frz o (.dK (kvI ps)))):=Mo.dk av SameX.upd;refine⟨(SameX.of gg).trans SameX.upd,Qb,⟨?_,Z.fl,Z.len,Z.inj,Z.fr,λi e D=>?_,λi e c D hc p hp=>⟨(Z.ok i e c D hc p hp).1.mono gm.t,(Z.ok i e c D hc p hp).2⟩,λm b h=>?_⟩⟩
  .rw [Qi (QM Z.l av (23:))];exact Z.l
  .rw [Qi (aw i e _ Z.fr D)];exact Z.at' i e D
  .obtain⟨p,hp,_⟩:=h;simp at hp
 refine let J_:J3:=(λi σ H'=>∃(c4 c5 c6:Option V)(es:List (Addr×RuL)),σ=[some (.ref tu),some (.ref d),some (.ref a),some (.ref acc),c4,c5,c6]/\Wlk K H H' d o (kvI ps) T (.node name ae ts) acc es (λm b=>∃p∈ps.take i,(m,b)∈cls p.2.2));GS (d:=d) (o:=o) (kvs:=kvI ps) J_
  ⟨none,none,none,_,rfl,bj⟩ ?_ ?_ ?_
 .rintro i σ H' _ ⟨_,_,_,_,_,U⟩;exact U.d
 .rintro i k x σ H3 M ⟨c4,c5,c6,es,rfl,U⟩;obtain⟨p,hp,bm⟩: ∃p,ps[i]?=some p/\p.2.1=x:=by
   rw [kvI,aI]at M;cases h:ps[i]? with
   | none=>rw [h]at M;cases M
   | some p=>rw [h]at M;cases M;exact⟨p,rfl,rfl⟩
  subst bm;have a5:=aN hp;obtain⟨bn,bo,bp⟩:=bf p a5;have bq:Mo K H H3:=Mo.dk ab.d U.x;refine⟨_,rfl,p.2.1,p.2.2,rfl,(ab.t p a5).mono bq.t,bo,aY bp (18:),λlc H4 tx g4 b8 a6 br a7=>⟨lc,rfl,⟨_,SqL.of a6⟩,?_⟩⟩;have al:=U.same g4;have b9:tx.length=(cls p.2.2).length:=by
   have:=congrArg List.length a7
   simpa using this
  refine let J_:J3:=(λj σ H'=>∃(c5 c6:Option V)(es:List (Addr×RuL)),σ=[some (.ref tu),some (.ref d),some (.ref a),some (.ref acc),some p.2.1,c5,c6]/\Wlk K H H' d o (kvI ps) T (.node name ae ts) acc es (λm b=>(∃p∈ps.take i,(m,b)∈cls p.2.2)\/(m,b)∈(cls p.2.2).take j)/\SqL K H' lc (Rf tx)/\TsAt K H' tx);ZX (K:=K) (xs:=Rf tx) J_
   ⟨_,_,es,rfl,⟨al.x,al.d,al.n.imp λm b h=>al.n.dn m b (by rcases h with h | h;exact h;simp at h)⟩,SqL.of a6,br⟩ ?_ ?_ ?_
  .rintro j σ H' _ ⟨_,_,_,_,_,h,_⟩;exact h
  .rintro j x σ H5 M ⟨c5,c6,ad,rfl,J,ax,ai⟩;have hj:j<tx.length:=by
    have:=(aK.mp M).1
    simpa using this
   obtain rfl:x=.ref tx[j].1:=by
    rw [aI,aB hj]at M;exact(aH M).symm
   have ay:j<(cls p.2.2).length:=by lia
   have bt:tx[j].2=pr (cls p.2.2)[j]:=by
    have:=congrArg (λl=>l[j]?) a7;simp only [aI,aB hj,aB ay,eI]at this;exact aH this
   have a8:SqT K H5 tx[j].1 [.int (cls p.2.2)[j].1,.int (cls p.2.2)[j].2]:=by
    have:=ai tx[j] (aZ hj);rw [bt]at this;exact this
   have af:(cls p.2.2).take (j+1)=(cls p.2.2).take j++[(cls p.2.2)[j]]:=by rw [b_,aB ay];rfl
   have a9:(cls p.2.2)[j]∈cls p.2.2:=aZ ay;generalize (cls p.2.2)[j]=c at a8 af a9;obtain⟨m,bb⟩:=c;obtain⟨t,md,v,b0,m0,e1,e2,e3,e4,e5⟩:=bn.call hO.ok a9;have bd:RlC T t m v:=⟨m0,⟨md,e2,e3,e4⟩,e5⟩;have ba:bb=((bb.toNat:Nat):Int):=by lia
   have em:m=((m.toNat:Nat):Int):=by lia
   obtain⟨e,D⟩: ∃e,ad[bb.toNat]?=some e:=⟨_,aB (by rw [J.n.len];exact(aK.mp e1).1)⟩;have aj:atI (ad.map λe=>V.ref e.1) bb=some (.ref e.1):=by rw [ba];exact Qs (by rw [aI,D];rfl)
   have az:=(J.n.at' _ _ D).1;refine⟨_,_,rfl,a8,rfl,_,_,rfl,_,_,rfl,rfl,?_⟩
   by_cases aa:m∈e.2.map (·.1)
   .obtain⟨x,M⟩:=Mh aa;refine⟨_,rfl,_,rfl,_,rfl,acc,_,_,_,rfl,rfl,SqL.of J.n.l,aj,e.1,_,rfl,.inl ⟨_,.inl m,.inl az,rfl,M.symm⟩,_,rfl,Zf ?_⟩;refine⟨_,_,ad,rfl,⟨J.x,J.d,J.n.imp λm' b' h=>?_⟩,ax,ai⟩;rcases h with h | h
    .exact J.n.dn _ _ (.inl h)
    .rw [af]at h;rcases a_.mp h with h | h
     .exact J.n.dn _ _ (.inr h)
     .have z:(m',b')=(m,bb):=by simpa using h
      cases z;exact⟨e,D,aa⟩
   .refine⟨_,rfl,_,rfl,_,rfl,acc,_,_,_,rfl,rfl,SqL.of J.n.l,aj,e.1,_,rfl,.inl ⟨_,.inl m,.inl az,rfl,(Wm aa).symm⟩,_,rfl,Zd ?_⟩;obtain⟨mt,bu,bv,bw⟩:=hO.get e2;have am:Mo K H H5:=Mo.dk ab.d J.x;have a0:=am.turn hT;obtain⟨tv,bx,aq⟩:=h3.get e1;have bz:atI us bb=some tv:=by rw [ba];exact Qs bx
    have be:=aq.mono am.t;cases be with
    | @mk ta tb cb cc an b6 k1 k2 k3 k4=>
    refine⟨_,rfl,_,rfl,_,rfl,a,_,2,_,rfl,rfl,am.t _ _ h1,rfl,_,rfl,b,_,_,_,rfl,rfl,am.t _ _ h2,bz,ta,_,0,_,rfl,rfl,k1,rfl,?_⟩;refine⟨tu,wd,lm,sv,m.toNat,an,T.ks,mo,mt,by rw [<-em];rfl,a0.tu,a0.w,hO.wo,a0.m,bu,bw,λv' H6 g6 a1=>?_⟩;have b1:TmV K H6 v' v:=by
     rw [bv]at a1;have b2:ruleK T.ks md an=some v:=e3;rw [b2]at a1;exact a1
    have ao:=J.same g6;have a2:=g6 _ _ az;have ce:e.2.length<=10:=by
     have h1:=few (n:=mo.length) (fs:=e.2.map (·.1)) (J.n.at' _ _ D).2 λm' b3=>by
      obtain⟨p',hp',rfl⟩:=aT.mp b3;obtain⟨_,⟨mm,⟨cf,z,_⟩,_⟩⟩:=J.n.ok _ _ _ D e1 p' hp';have z1:=(aK.mp z).1;have z2:mo.length=T.ms.length:=by rw [<-hO.me];simp [mds]
      lia
     rw [aC]at h1;lia
    refine⟨_,rfl,_,rfl,acc,_,_,_,rfl,rfl,SqL.of ao.n.l,aj,_,rfl,e.1,_,rfl,.inl ⟨_,.inl m,a2,rfl,by rw [YK,QL];lia,rfl⟩,?_⟩;rw [Og v aa];have ap:=ao.n.put D e1 aa b1 bd;have gx:SameX e.1 H6 (upd H6 e.1 (.dK (kvI (e.2++[(m,v',v)])))):=SameX.upd;have bc:Mo K H5 (upd H6 e.1 (.dK (kvI (e.2++[(m,v',v)])))):=(Mo.of g6).trans (Mo.dk a2 gx);have b4:e.1≠d:=aw _ e ad J.n.fr D;have b5:=J.n.fr _ _ D;refine⟨_,_,_,rfl,⟨λx u n z=>?_,?_,ap.imp λm' b' h=>?_⟩,bc.l _ _ ax,ai.mono bc.t⟩
    .rw [Qi (Qj z b5)];exact ao.x _ _ n z
    .rw [Qi (aL b4)];exact ao.d
    .rcases h with h | h
     .exact ap.dn _ _ (.inl (.inl h))
     .rw [af]at h;rcases a_.mp h with h | h
      .exact ap.dn _ _ (.inl (.inr h))
      .have z:(m',b')=(m,bb):=by simpa using h
       cases z;exact ap.dn _ _ (.inr ⟨rfl,rfl⟩)
  .rintro σ H5 ⟨c5,c6,ad,rfl,J,_,_⟩;refine⟨_,_,_,ad,rfl,⟨J.x,J.d,J.n.imp λm b h=>J.n.dn m b ?_⟩⟩;obtain⟨p',hp',a3⟩:=h;rw [b_,hp]at hp';rcases a_.mp hp' with hp' | hp'
   .exact .inl ⟨p',hp',a3⟩
   .have z:p'=p:=by simpa using hp'
    rw [z]at a3;refine .inr ?_;rw [bL (by rw [aC];lia)];exact a3
 .rintro σ H3 ⟨c4,c5,c6,es,rfl,U⟩;rw [YK,bL (4:)]at U;refine⟨⟨o,U.d⟩,_,rfl,q acc _ es (λx u e=>?_) ?_⟩
  .by_cases z:x=d
   .subst z;rw [ab.d]at e;rw [<-e];exact Qb
   .rw [Qi z];exact U.x _ _ z e
  .have gm:Mo K H3 (upd H3 d (.dK (kvI ps))):=Mo.fz U.d SameX.upd;refine⟨?_,U.n.fl,U.n.len,U.n.inj,U.n.fr,λi e D=>?_,λi e c D hc p hp=>⟨(U.n.ok i e c D hc p hp).1.mono gm.t,(U.n.ok i e c D hc p hp).2⟩,U.n.dn⟩
   .rw [Qi (QM U.n.l U.d (23:))];exact U.n.l
   .rw [Qi (aw i e _ U.n.fr D)];exact U.n.at' i e D
end
theorem sxl{K:Fg}(hl:H lb=some (.lst ys))(g:SameX lb H H'):∀a xs,SqT K H a xs->SqT K H' a xs:=by
 intro a xs h;rcases h with(h | ⟨o,h⟩) | h
 .exact .inl (.inl (g _ _ (QM h hl (λz=>nomatch z)) h))
 .exact .inl (.inr ⟨o,g _ _ (QM h hl (λz=>nomatch z)) h⟩)
 .exact .inr h
theorem Ned.sx{K:Fg}{es:List (Addr×RuL)}(hl:H lb=some (.lst ys))(ne:l≠lb)(g:SameX lb H H')(h:Ned K H0 H T r l es dn):Ned K H0 H' T r l es dn:=
 ⟨g _ _ ne h.l,h.fl,h.len,h.inj,h.fr,λi e D=>⟨g _ _ (QM (h.at' i e D).1 hl (λz=>nomatch z)) (h.at' i e D).1,(h.at' i e D).2⟩,λi e c D F p hp=>⟨(h.ok i e c D F p hp).1.mono (sxl hl g),(h.ok i e c D F p hp).2⟩,h.dn⟩
theorem Rd.frz{x:Addr}{k:List (Key×V)}(hd:H d=some (.dK kvs))(h:Rd H x (.dK k)):Rd (upd H d (.frz o (.dK kvs))) x (.dK k):=by
 by_cases e:x=d
 .subst e;rcases h with h | ⟨z,h⟩
  .rw [hd]at h;cases h;exact .inr ⟨o,Qb⟩
  .rw [hd]at h;cases h
 .rcases h with h | ⟨z,h⟩
  .exact .inl (by rw [Qi e];exact h)
  .exact .inr ⟨z,by rw [Qi e];exact h⟩
def kvO:List Int->List V->List (Key×V)
 | m::ms,v::vs=>(Sum.inl m,v)::kvO ms vs
 | _,_=>[]
theorem X4{α:Type}{R:Hp->V->α->Prop}{H:Hp}{g:Int×V×Tm->α}{m:Int}:∀{ps:RuL}{os:List V},m∈ps.map (·.1)->RAll R H os (ps.map g)->∃p∈ps,p.1=m/\∃v,valV (kvO (ps.map (·.1)) os) (Sum.inl m:Key)=some v/\R H v (g p)
 | [],_,h,_=>by simp at h
 | p::r,o::os,h,.cons h1 h2=>by
  by_cases e:p.1=m
  .exact⟨p,bA,e,o,Q0 (p:=((Sum.inl p.1:Key),o)) (by show(Sum.inl p.1:Key)=_;rw [e]),h1⟩
  .simp only [aS,aM]at h;rcases h with h | h
   .exact absurd h.symm e
   .obtain⟨q,D,F,v,G,J⟩:=X4 h h2;exact⟨q,bC _ D,F,v,by show valV ((Sum.inl p.1,o)::kvO (r.map (·.1)) os) _=some v;rw [QW (λz=>e (by cases z;rfl)),G],J⟩
theorem Ol{ps:RuL}:∀(ts:List (Addr×Key×V)),ts.map (λt=>t.2.1)=ps.map (λp=>(Sum.inl p.1:Key))->ts.map (λt=>(t.2.1,t.2.2))=kvO (ps.map (·.1)) (ts.map λt=>t.2.2):=by
 induction ps with
 | nil=>intro ts h;cases ts with
  | nil=>rfl
  | cons t r=>simp at h
 | cons p r z=>intro ts h;cases ts with
  | nil=>simp at h
  | cons t s=>
   simp only [aS,List.cons.injEq]at h;simp only [aS,kvO];rw [z s h.2,h.1]
def TBd(T:Tu):Prop:=∀md∈T.ms,∀u∈md.2,lv u<=8/\sz u<=100
abbrev cvT{α:Type}(op:Lab->Int->List α->α)(dd:α)(T:Tu)(r:Tree Str):Int->Int->α:=λm b=>(r.bs[b.toNat]?).elim dd λc=>QV op dd T.ks T.ms c m
structure Rck{α:Type}(R:Hp->V->α->Prop)(op:Lab->Int->List α->α)(dd:α)(T:Tu)(r:Tree Str)(es:List (Addr×RuL))(H:Hp)(rs:List Addr):Prop where
 at':∀(j:Nat) e c D,es[j]?=some e->r.bs[j]?=some c->rs[j]?=some D->∃os,H D=some (.dK (kvO (e.2.map (·.1)) os))/\RAll R H os (e.2.map λp=>valT op dd T p.2.2 c)
theorem Rck.bel{α:Type}{K:Fg}{R:Hp->V->α->Prop}{op:Lab->Int->List α->α}{dd:α}{es:List (Addr×RuL)}{rs:List Addr}{u:Tm}(h:Rck R op dd T r es H rs)(n:Ned K H0 H T r l es dn)(hl:rs.length=r.bs.length)(hdn:∀c∈cls u,0<=c.2/\dn c.1 c.2):BelAt R H rs (cvT op dd T r) (cls u):=λc J=>by
 obtain⟨M,hd⟩:=hdn c J;obtain⟨e,F,U⟩:=n.dn _ _ hd;have Y:c.2.toNat<r.bs.length:=by rw [<-n.len];exact(aK.mp F).1
 have z:r.bs[c.2.toNat]?=some r.bs[c.2.toNat]:=aB Y;generalize r.bs[c.2.toNat]=t at z;have G:rs[c.2.toNat]?=some rs[c.2.toNat]:=aB (7:);generalize rs[c.2.toNat]'(7:)=D at G;obtain⟨os,e1,e2⟩:=h.at' _ _ _ _ F z G;obtain⟨p,hp,Z,v,e3,e4⟩:=X4 U e2;obtain⟨_,⟨_,⟨md,z1,z2,_⟩,_⟩⟩:=n.ok _ _ _ F z p hp;refine⟨M,D,_,v,G,.inl e1,e3,?_⟩;show R H v (cvT op dd T r c.1 c.2);unfold cvT;rw [z];show R H v (QV op dd T.ks T.ms t c.1);rw [<-Z,Zr z1 z2];exact e4
def Yf{α:Type}(K:Fg)(e:Expr)(R:Hp->V->α->Prop)(op:Lab->Int->List α->α)(dd:α)(n:Nat):Sp:=λvs H Q _=>∃(tu wd lm:Addr)(sv:V)(mo:List MdT)(T:Tu)(d:Addr)(ps:RuL)(rv:V)(r:Tree Str)(f:Addr),vs=[.ref tu,.ref d,rv,.ref f]/\TurnAt K H tu wd lm sv mo T/\TurnOk mo T/\TBd T/\mo.length<=10/\RuAt K H d ps/\(ps.map (·.1)).Nodup/\ps.length<=100/\TrV K H rv r/\lv r<=n/\(∀p∈ps,St T (p.2.2,r)/\lv p.2.2<=8/\sz p.2.2<=100)/\LamAt H f e/\
 ∀(d':Addr)(H':Hp)(os:List V),Same H H'->H' d'=some (.dK (kvO (ps.map (·.1)) os))->RAll R H' os (ps.map λp=>valT op dd T p.2.2 r)->Q (.ref d') H'
def Je{α:Type}(K:Fg)(e:Expr)(R:Hp->V->α->Prop)(op:Lab->Int->List α->α)(dd:α):Sp:=λvs H Q _=>∃(tu wd lm:Addr)(sv:V)(mo:List MdT)(T:Tu)(v:V)(u:Tm)(rv:V)(t:Tree Str)(f:Addr),vs=[.ref tu,v,rv,.ref f]/\TurnAt K H tu wd lm sv mo T/\TurnOk mo T/\TBd T/\mo.length<=10/\TmV K H v u/\lv u<=8/\sz u<=100/\TrV K H rv t/\lv t<=40/\St T (u,upT t)/\LamAt H f e/\
 ∀(v':V)(H':Hp),Same H H'->R H' v' (valT op dd T u (upT t))->Q v' H'
section
variable{K:Fg}{soft:Bool}
theorem Wd:FnScope ["turning","rules","tree","make","below","branch","called"] ["turning","rules","tree","make"] (defScope Jr):=(1:)
theorem Ot{α:Type}{R:Hp->V->α->Prop}{op:Lab->Int->List α->α}{dd:α}(hR:Rep K R)(F:Fun K "reckoned" "reckoned" Jr f fd)(G:Gm mg)(RB:Fn P w K mg base 10 "called_below" ["turning","rules","tree"] (NX K) soft)(RF:Fn P w K mg base 11 "filled" ["term","mark","below","make"] (Zx K e R op 8) soft)(RR:Fn P w K mg base (n+12) "reckoned" ["turning","rules","tree","make"] (Yf K e R op dd n) soft):
 FnOk P w K mg base CX0 (n+13) f fd ["turning","rules","tree","make"] (Yf K e R op dd (n+1)) soft:=by
 refine F.ok Wd (13:) (λcn A outer s H vs Q E hr h=>?_)
 .obtain⟨tu,wd,lm,sv,mo,T,d,ps,rv,r,fm,rfl,_⟩:=h
  rfl
 obtain⟨tu,wd,lm,sv,mo,T,d,ps,rv,r,fm,rfl,hT,hO,a7,aq,ad,bv,co,bw,bx,am,hL,q⟩:=h;refine⟨_,(Qe (Qm (i:=4) Wd.nd rfl (bY rfl) (QH Qc))
  (Qe (QO a' rfl (OZ rfl G.zip (Qa (Qg Qk (pv 2) Qd (2:)) (Qa (Qr RB hr (Qa (pv 0) (Qa (pv 1) (Qa (pv 2) Qc))) (7:)) Qc))) (Yu rfl (QR (Qt (i:=5) Wd.nd rfl (5:)) (QR (Qt (i:=6) Wd.nd rfl (5:)) ZN))) (Qh
   (QS (ZJ cN dM dN Q4 (pv 4) (Qa (Qr RR hr (Qa (pv 0) (Qa (pv 6) (Qa (pv 5) (Qa (pv 3) Qc)))) (4:)) Qc)))))
  (Qh (Gn (Qp (QK (Vm rfl) rfl G.dct fB (Qa (QU (CompG.many (xs:=["mode","rule"]) (caps:=["below","make","tree"]) (cap:=[4,3,2]) (cs:=[_,_,_]) rfl rfl (0:) (0:) (0:) (0:) (0:) (0:) rfl rfl rfl) rfl (Lc (MQ gU PySem.F.slot_dict_items PySem.F.type_dict_items LO (pv 1))) (M9 (CompG.many (xs:=["mode","rule"]) (caps:=["below","make","tree"]) (cap:=[4,3,2]) (cs:=[_,_,_]) rfl rfl (0:) (0:) (0:) (0:) (0:) (0:) rfl rfl rfl) rfl) (λ_ _ _ _=>Q5) (λ_ _ _ _=>(QE (Qa (pv 0) (Qa (Qr RF hr (Qa (pv 1) (Qa (Qg (r:=Lp K) Qk (pv 4) Qd (2:)) (Qa (pv 2) (Qa (pv 3) Qc)))) (7:)) Qc))))) Qc))))))),?_⟩
 try dsimp only [QC,Cx.nox]
 refine L2.let2 ?_
 intros
 cases bw with
 | @mk a b us Y name J h1 h2 h3 h4=>
 have a8:=h3.length;rw [Q8]at bx;refine⟨(21:),λlb a9=>?_⟩;have g0:=Qf a9 (.lst []);have ak:upd H lb (.lst []) lb=some (.lst []):=Qb;generalize upd H lb (.lst [])=H0 at g0 ak;have bo:RuAt K H0 d ps:=⟨g0 _ _ ad.d,λp hp=>(ad.t p hp).mono λ_ _=>g0.seqT⟩;refine⟨_,rfl,a,_,2,_,rfl,rfl,g0.seqT h1,rfl,_,rfl,_,rfl,_,rfl,?_⟩;refine⟨tu,wd,lm,sv,mo,T,d,ps,.ref a,.node name J Y,rfl,hT.same g0,hO,aq,bo,.mk (g0.seqT h1) (g0.seqT h2) (h3.mono λ_ _=>g0.seqT) h4,am,λl H1 es g1 hN=>?_⟩;have bz:l≠lb:=λz=>by
  have:=hN.fl;rw [z,ak]at this;cases this
 have ba:=g0.trans g1;have b1:us.length=(es.map λe=>V.ref e.1).length:=by rw [aC,hN.len];exact a8
 refine⟨b,l,us,_,rfl,ba.seqT h2,SqL.of hN.l,?_⟩;refine let J_:J3:=(λi σ H'=>∃(c5 c6:Option V)(rs:List Addr),σ=[some (.ref tu),some (.ref d),some (.ref a),some (.ref fm),some (.ref lb),c5,c6]/\Same H H'/\H' lb=some (.lst (rs.map V.ref))/\rs.length=i/\Ned K H0 H' T (.node name J Y) l es (λm b=>∃p∈ps,(m,b)∈cls p.2.2)/\Rck R op dd T (.node name J Y) es H' rs);NL (K:=K) b1 J_
  ⟨none,none,[],rfl,ba,g1 _ _ ak,rfl,hN,⟨λj e c D _ _ h=>by simp at h⟩⟩ ?_ ?_ ?_
 .rintro i σ H' _ ⟨_,_,_,_,g,_,_,b2,_⟩;exact⟨g.seqT h2,SqL.of b2.l⟩
 .rintro i u v p σ H2 hu hv hp ⟨c5,c6,rs,rfl,g2,al,ar,as,au⟩;have k:=Qf hp (.tup [u,v]);have bb:upd H2 p (.tup [u,v]) p=some (.tup [u,v]):=Qb;have Z:=k _ _ al;have aa:=as.same k;have g3:=g2.trans k;have ae:Rck R op dd T (.node name J Y) es (upd H2 p (.tup [u,v])) rs:=⟨λj e c D he hc hD=>by
   obtain⟨os,e1,e2⟩:=au.at' j e c D he hc hD;exact⟨os,k _ _ e1,e2.imp λh=>hR _ _ _ _ (λ_ _=>k.seqT) h⟩⟩
  generalize upd H2 p (.tup [u,v])=H3 at bb Z aa g3 ae;have b3:i<Y.length:=by
   have:=(aK.mp hu).1;lia
  have av:Y[i]?=some Y[i]:=aB b3;generalize Y[i]=c at av;obtain⟨u',b4,b5⟩:=h3.get av;obtain rfl:u'=u:=aH (b4.symm.trans hu);obtain⟨e',he,rfl⟩: ∃e',es[i]?=some e'/\V.ref e'.1=v:=by
   rw [aI]at hv;cases h:es[i]? with
   | none=>rw [h]at hv;cases hv
   | some x=>rw [h]at hv;exact⟨x,rfl,aH hv⟩
  have aw:(Tree.node name J Y:Tree Str).bs[i]?=some c:=av;have ax:=aa.ok i e' c he aw;have ay:=aa.at' i e' he;have b6:lv c<=n:=by
   have:=ZI (aN aw);lia
  have bp:∀p∈e'.2,0<=p.1/\p.1<((mo.length:Nat):Int):=λp hp=>by
   obtain⟨_,⟨mm,⟨cp,z,_⟩,_⟩⟩:=ax p hp;have z1:=(aK.mp z).1;have z2:mo.length=T.ms.length:=by rw [<-hO.me];simp [mds]
   lia
  have cq:e'.2.length<=10:=by
   have h1:=few (n:=mo.length) (fs:=e'.2.map (·.1)) ay.2 λm' b7=>by
    obtain⟨p',b8,rfl⟩:=aT.mp b7;exact bp p' b8
   rw [aC]at h1;lia
  refine⟨p,_,rfl,SqT.of bb,rfl,_,_,rfl,_,_,rfl,rfl,?_⟩;refine⟨_,rfl,.inl ⟨rfl,_,SqL.of Z⟩,_,rfl,_,rfl,_,rfl,_,rfl,?_⟩;refine⟨tu,wd,lm,sv,mo,T,e'.1,e'.2,u',c,fm,rfl,hT.same g3,hO,a7,aq,⟨ay.1,λp hp=>(ax p hp).1⟩,ay.2,by lia,b5.mono λ_ _=>g3.seqT,b6,λp hp=>?_,hL.same g3,λD H4 os g4 hD b9=>?_⟩
  .obtain⟨_,⟨_,⟨md,z1,_,z3⟩,z4⟩⟩:=ax p hp;obtain⟨y1,y2⟩:=a7 md (aN z1) _ z3;exact⟨z4,y1,y2⟩
  have M:=g4 _ _ Z;refine⟨lb,_,_,rfl,rfl,M,by rw [aC,QL];lia,?_⟩;have gx:SameX lb H4 (upd H4 lb (.lst (rs.map V.ref++[.ref D]))):=SameX.upd;refine⟨_,_,rs++[D],rfl,λx u e=>?_,by rw [Qb];simp,by simp [ar],(aa.same g4).sx M bz gx,⟨λj e c' D' bc bd af=>?_⟩⟩
  .rw [Qi (Qj e a9)];exact g4 _ _ (g3 _ _ e)
  .rw [gy]at af;split at af
   .obtain⟨ca,e1,e2⟩:=ae.at' j e c' D' bc bd af;have be:=g4 _ _ e1;exact⟨ca,gx _ _ (QM be M (λz=>nomatch z)) be,e2.imp λh=>hR _ _ _ _ (λ_ _ h=>sxl M gx _ _ (g4.seqT h)) h⟩
   .have cb:=(aK.mp af).1;simp only [bO]at cb;have ej:j=i:=by lia
    subst ej;obtain rfl:e=e':=aH (bc.symm.trans he);obtain rfl:c'=c:=aH (bd.symm.trans aw);have eD:D'=D:=by
     have:=aN af
     simpa using this
    subst eD;exact⟨os,gx _ _ (QM hD M (λz=>nomatch z)) hD,b9.imp λh=>hR _ _ _ _ (sxl M gx) h⟩
 .rintro σ H2 ⟨c5,c6,rs,rfl,g2,al,ar,as,au⟩;have ag:=g2 _ _ ad.d;have bq:rs.length=(Tree.node name J Y:Tree Str).bs.length:=by rw [ar];exact a8
  refine⟨d,kvI ps,ag,_,rfl,.inr (.inr (.inl ⟨rfl,.inl ⟨_,ag⟩⟩)),d,kvI ps,rfl,rfl,ag,λpv bf=>⟨pv,d,kvI ps,rfl,Qb,Qf bf _ _ _ ag,λo=>λacc ac=>?_⟩⟩;have k:=Qf bf (ItmO pv d);have ah:=k _ _ ag;have g3:=g2.trans k;have Z:=k _ _ al;have aa:=as.same k;have ae:Rck R op dd T (.node name J Y) es (upd H2 pv (ItmO pv d)) rs:=⟨λj e c D he hc hD=>by
   obtain⟨os,e1,e2⟩:=au.at' j e c D he hc hD;exact⟨os,k _ _ e1,e2.imp λh=>hR _ _ _ _ (λ_ _=>k.seqT) h⟩⟩
  generalize upd H2 pv (ItmO pv d)=H3 at ah g3 Z aa ae ac ⊢;have gx:SameX d H3 (upd H3 d (.frz o (.dK (kvI ps)))):=SameX.upd;have gm:Mo K H3 (upd H3 d (.frz o (.dK (kvI ps)))):=Mo.dk ah gx;have an:upd H3 d (.frz o (.dK (kvI ps))) d=some (.frz o (.dK (kvI ps))):=Qb;have az:∀p∈ps,BelAt R (upd H3 d (.frz o (.dK (kvI ps)))) rs (cvT op dd T (.node name J Y)) (cls p.2.2):=λp hp c hc=>by
   obtain⟨z0,D,kvs,v,z1,z2,z3,z4⟩:=ae.bel aa bq (u:=p.2.2) (λc hc=>⟨by
    obtain⟨_,_,_,b0,_⟩:=(am p hp).1.call hO.ok hc;exact b0,p,hp,hc⟩) c hc
   exact⟨z0,D,kvs,v,z1,Rd.frz ah z2,z3,hR _ _ _ _ gm.t z4⟩
  have bg:LamAt (upd H3 d (.frz o (.dK (kvI ps)))) fm e:=by
   obtain⟨qq,pm,cc,ce,y1,y2⟩:=(hL.same g3).ex;exact⟨qq,pm,cc,ce,gx _ _ (QM y1 ah (λz=>nomatch z)) y1,gx _ _ (QM y2 ah (λz=>nomatch z)) y2⟩
  have bh:=gm.t _ _ (g3.seqT h1);have M:=gm.l _ _ (SqL.of Z);have bi:∀p∈ps,TmV K (upd H3 d (.frz o (.dK (kvI ps)))) p.2.1 p.2.2:=λp hp=>(ad.t p hp).mono λ_ _ h=>gm.t _ _ (g3.seqT h);have bj:SameX d H (upd H3 d (.frz o (.dK (kvI ps)))):=(SameX.of g3).trans gx;generalize upd H3 d (.frz o (.dK (kvI ps)))=H4 at an az bg bh M bi bj ac ⊢;refine let J_:JC:=(λi ys H'=>∃xs:List (Addr×Key×V),ys=xs.map (λx=>V.ref x.1)/\H' acc=some (.lst ys)/\Same H4 H'/\xs.map (λx=>x.2.1)=(ps.take i).map (λp=>(Sum.inl p.1:Key))/\xs.length=i/\(∀x∈xs,SqT K H' x.1 [kV x.2.1,x.2.2])/\RAll R H' (xs.map λx=>x.2.2) ((ps.take i).map λp=>valT op dd T p.2.2 (.node name J Y)));LH (K:=K) (d:=d) (o:=o) (kvs:=kvI ps) (cs:=[some (.ref lb),some (.ref fm),some (.ref a)]) (tt:=λ_ H Q=>Q true H) (te:=Pl (Zu (ZL 0) (Zu (J9 (Zx K e R op 8) [] E0 (Zu (ZL 1) (Zu (tOp (Lp K) (ZL 4) (tC (.int 1))) (Zu (ZL 2) (Zu (ZL 3) Vf))))) Vf)))
   J_
   ⟨[],rfl,Qb,Qf ac _,rfl,rfl,λx hx=>(nomatch hx),.nil⟩ ?_ ?_ ?_
  .rintro i ys H' _ ⟨_,_,_,g,_⟩;exact g _ _ an
  .rintro i k' v p ys H5 hi bm hp ⟨xs,rfl,a0,g5,ai,a1,a2,ao⟩;have k5:=Qf hp (.tup [kV k',v]);have a3:=k5 _ _ a0;have g6:=g5.trans k5;have a4:∀x∈xs,SqT K (upd H5 p (.tup [kV k',v])) x.1 [kV x.2.1,x.2.2]:=λx hx=>k5.seqT (a2 x hx);have a5:=ao.imp (H':=upd H5 p (.tup [kV k',v])) λh=>hR _ _ _ _ (λ_ _=>k5.seqT) h;generalize upd H5 p (.tup [kV k',v])=H6 at a3 g6 a4 a5;rw [YK]at hi;have aj:ps[i]?=some ps[i]:=aB hi;generalize ps[i]=U at aj;have br:(kvI ps)[i]?=some (Sum.inl U.1,U.2.1):=by rw [kvI,aI,aj];rfl
   rw [br]at bm;cases bm;have ap:=aN aj;refine Zd ⟨_,rfl,_,rfl,_,rfl,a,_,1,_,rfl,rfl,g6.seqT bh,rfl,_,rfl,_,rfl,?_⟩;refine⟨U.2.1,U.2.2,J,lb,fm,rs,cvT op dd T (.node name J Y),rfl,(bi U ap).mono λ_ _=>g6.seqT,(am U ap).2.1,(am U ap).2.2,g6.seq M,(az U ap).same hR g6,bg.same g6,λv' H7 g7 cf=>?_⟩;refine⟨(by show 2<=sizeLine;decide),λt ht=>?_⟩;have k8:=Qf ht (.tup [.int U.1,v']);have cg:=g6.trans (g7.trans k8);have ab:=k8 _ _ (g7 _ _ a3);have ch:upd H7 t (.tup [.int U.1,v']) t=some (.tup [.int U.1,v']):=Qb;have ci:=hR _ _ _ _ (λ_ _=>k8.seqT) cf;have bt:∀x∈xs,SqT K (upd H7 t (.tup [.int U.1,v'])) x.1 [kV x.2.1,x.2.2]:=λx hx=>k8.seqT (g7.seqT (a4 x hx));have bu:=a5.imp (H':=upd H7 t (.tup [.int U.1,v'])) λh=>hR _ _ _ _ (λ_ _ h=>k8.seqT (g7.seqT h)) h;refine Qz (ys:=xs.map λx:Addr×Key×V=>V.ref x.1) (by rw [YK];exact hi) ab (by rw [aC];lia) ⟨xs++[(t,Sum.inl U.1,v')],by simp,Qb,λx u e=>?_,?_,by simp [a1],λx hx=>?_,?_⟩
   .rw [Qi (Qj e ac)];exact cg _ _ e
   .rw [aR,ai,b_,aj];simp
   .rcases a_.mp hx with hx | hx
    .exact(bt x hx).put ab
    .have ex:x=(t,Sum.inl U.1,v'):=by simpa using hx
     subst ex;exact(SqT.of ch).put ab
   .rw [b_,aj];show RAll R _ ((xs++[(t,(Sum.inl U.1:Key),v')]).map λx=>x.2.2) ((ps.take i++[U]).map λp=>valT op dd T p.2.2 (.node name J Y));rw [aR,aR];exact RAll.append (bu.imp λh=>hR _ _ _ _ (λ_ _ h=>h.put ab) h) (.cons (hR _ _ _ _ (λ_ _ h=>h.put ab) ci) .nil)
  .rintro ys H5 ⟨xs,rfl,a0,g5,ai,a1,a2,ao⟩;rw [YK]at a1;rw [YK,bL (4:)]at ai ao;refine⟨acc,xs,rfl,SqL.of a0,a2,?_,by lia,λd' a6=>?_⟩
   .have ee:ps.map (λp=>(Sum.inl p.1:Key))=(ps.map (·.1)).map (λm=>(Sum.inl m:Key)):=by rw [bI];rfl
    rw [ai,ee];exact List.Pairwise.map _ (λa b cj z=>cj (by cases z;rfl)) bv
   have k6:=Qf a6 (.dK (xs.map λt=>(t.2.1,t.2.2)));have bn:=k6 _ _ (g5 _ _ an);refine⟨⟨o,bn⟩,q d' _ (xs.map λx=>x.2.2) (λx u e=>?_) ?_ ?_⟩
   .by_cases z:x=d
    .subst z;rw [ad.d]at e;rw [<-e];exact Qb
    .rw [Qi z];exact k6 _ _ (g5 _ _ (bj _ _ z e))
   .have ck:d'≠d:=λz=>by rw [z,g5 _ _ an]at a6;cases a6
    rw [Qi ck,Qb,Ol (ps:=ps) xs ai]
   .have cm:Mo K (upd H5 d' (.dK (xs.map λt=>(t.2.1,t.2.2)))) (upd (upd H5 d' (.dK (xs.map λt=>(t.2.1,t.2.2)))) d (.dK (kvI ps))):=Mo.fz bn SameX.upd;exact ao.imp λh=>hR _ _ _ _ (λ_ _ h=>cm.t _ _ (k6.seqT h)) h
end
section
variable{K:Fg}{soft:Bool}
theorem GU{α:Type}{R:Hp->V->α->Prop}{op:Lab->Int->List α->α}{dd:α}{k:Nat}:FnOk P w K mg base CX0 k f fd ["turning","rules","tree","make"] (Yf K e R op dd 0) soft:=by
 have no:∀z H Q E,¬Yf K e R op dd 0 z H Q E:=λz H Q E h=>by
  obtain⟨G,wd,J,M,mo,T,d,ps,U,r,Y,_,_,_,_,_,_,_,_,_,D,_⟩:=h;rw [Q8]at D;lia
 exact⟨λz H Q E h=>absurd h (no z H Q E),λA outer s H F Z z Q E _ _ _ _ h=>absurd h (no z H Q E)⟩
theorem Y7{α:Type}{R:Hp->V->α->Prop}{op:Lab->Int->List α->α}{dd:α}(hR:Rep K R)(F:Fun K "reckoned" "reckoned" Jr f fd)(G:Gm mg)(RB:Fn P w K mg base 10 "called_below" ["turning","rules","tree"] (NX K) soft)(RF:Fn P w K mg base 11 "filled" ["term","mark","below","make"] (Zx K e R op 8) soft)(hb:Binds K fd ["turning","rules","tree","make"] [])(hm:mg "reckoned"=some (.ref f)):∀n:Nat,FnOk P w K mg base CX0 (n+12) f fd ["turning","rules","tree","make"] (Yf K e R op dd n) soft
 | 0=>GU
 | n+1=>Ot hR F G RB RF ⟨f,fd,Y7 hR F G RB RF hb hm n,hb,F.kp,hm⟩
theorem R7:FnScope ["turning","term","tree","make"] ["turning","term","tree","make"] (defScope P2):=(1:)
theorem Vp{α:Type}{R:Hp->V->α->Prop}{op:Lab->Int->List α->α}{dd:α}(F:Fun K "outcome" "outcome" P2 f fd)(RA:Fn P w K mg base 1 "above" ["tree"] (UR K) soft)(RK:Fn P w K mg base 53 "reckoned" ["turning","rules","tree","make"] (Yf K e R op dd 41) soft):FnOk P w K mg base CX0 54 f fd ["turning","term","tree","make"] (Je K e R op dd) soft:=by
 refine F.ok R7 (13:) (λai A outer s H vs Q E G h=>?_)
 .obtain⟨U,wd,Y,Z,mo,T,v,u,rv,t,fm,rfl,_⟩:=h
  rfl
 obtain⟨U,wd,Y,Z,mo,T,v,u,rv,t,fm,rfl,hT,hO,aa,J,hv,ab,ac,ad,aj,ae,hL,q⟩:=h;refine⟨_,(Qh (Qp (Zh (Zp G) (Qr RK G (Qa (pv 0) (Qa (OI (Nh Qd (pv 1) Ob) rfl rfl (18:) (18:)) (Qa (Qr RA G (Qa (pv 2) Qc)) (Qa (pv 3) Qc))))) Qd (2:)))),?_⟩
 try dsimp only [QC,Cx.nox]
 refine⟨_,rfl,λd hd=>?_⟩;have g1:=Qf hd (.dK []);refine⟨_,rfl,Qb,[(Sum.inl 0,v)],rfl,(by show 1<=15;decide),?_⟩;have e1:Uk ([]:List (Key×V)) [(Sum.inl 0,v)]=kvI [(0,v,u)]:=rfl;rw [e1];have M:Same H (upd (upd H d (.dK [])) d (.dK (kvI [(0,v,u)]))):=λx y z=>by rw [Qi (Qj z hd)];exact g1 _ _ z
 have D:upd (upd H d (.dK [])) d (.dK (kvI [(0,v,u)])) d=some (.dK (kvI [(0,v,u)])):=Qb;generalize upd (upd H d (.dK [])) d (.dK (kvI [(0,v,u)]))=H2 at M D;refine⟨_,rfl,rv,t,rfl,ad.mono λ_ _=>M.seqT,λv' H3 g3 af=>⟨_,rfl,?_⟩⟩;have g:=M.trans g3;refine⟨U,wd,Y,Z,mo,T,d,[(0,v,u)],v',upT t,fm,rfl,hT.same g,hO,aa,J,⟨g3 _ _ D,λp hp=>?_⟩,by simp,(by show 1<=100;decide),af,by rw [LX];lia,λp hp=>?_,hL.same g,λd' H4 os g4 ag ah=>?_⟩
 .have:p=(0,v,u):=by simpa using hp
  rw [this];exact hv.mono λ_ _=>g.seqT
 .have:p=(0,v,u):=by simpa using hp
  rw [this];exact⟨ae,ab,ac⟩
 .obtain⟨p,hp,_,x,e2,e3⟩:=X4 (m:=0) (ps:=[(0,v,u)]) (14:) ah;have:p=(0,v,u):=by simpa using hp
  rw [this]at e3;exact⟨d',x,rfl,.inl ⟨_,.inl 0,.inl ag,rfl,e2.symm⟩,q x H4 (g.trans g4) e3⟩
end
end K27
namespace L2
open PySem PySem.Spec PyProof.Rows
theorem GY{P:Program}{w:World}{K:Fg}{mg mb:Str->Option Value}{k:Nat}{fa a:Addr}{fd:FuncData}{x:Str}{sp:Sp}{s₁:Shared}{vs:List Value}{ns:List Int}{Ts:List Addr}
 (KX:K.In s₁.heap) (hns:s₁.heap.Ns mainGlobals mg) (hb:s₁.heap.Ns builtinsNs mb) (hbb:∀x:Str,x≠"__name__"->mb x=bootBuiltins x) (hlim:s₁.heap.NoLimit) (hg:s₁.gens=#[]) (hbt:BtAt mg s₁.heap)
 (hTs:∀T∈Ts,s₁.heap.get? T=some { cls:=.none,data:=.fields #[] }/\isCodeTable s₁.heap T/\K.lookup T=none)
 (ha:s₁.heap.get? a=some { cls:=.type "list",data:=.seq vs.toArray }) (hi:IntsAre vs ns) (hl:ns.length<=sizeLine) (hr:Room k callerA)
 (F:∀base:Heap,K.In base->base.Ns mainGlobals mg->BtAt mg base->FnOk P w K mg base CX0 k fa fd [x] sp) (hbind:∀(s:Shared)(u:Value),BindsTo s fd ⟨[u],[]⟩ [(x,u)])
 (hsp:∀H:Hp,SqL K H a (ns.map V.int)->(∀T∈Ts,H T=some (.tbl #[]))->sp [.ref a] H (λv _=>v=.bl true) λ_ _ _=>False):
 codeAny (model P w) callerA (.call (.ref fa) ⟨[.ref a],[]⟩) (λr s'=>r=.ok (.ret (.bool true))/\OldK s₁.heap s'.heap/\s'.os=s₁.os/\AllBare s'.gens) s₁:=by
 have rv:=Xl hi;have af:=hi.length;have Y:∀H:Hp,(∀b,H b=none\/(b=a/\K.lookup a=none/\∃o xs,H b=some (.frz o (.lst xs)))\/(b∈Ts/\H b=some (.tbl #[])))->SqL K H a (ns.map V.int)->(∀T∈Ts,H T=some (.tbl #[]))->HOk P w H s₁.heap->
  codeAny (model P w) callerA (.call (.ref fa) ⟨[.ref a],[]⟩) (λr s'=>r=.ok (.ret (.bool true))/\OldK s₁.heap s'.heap/\s'.os=s₁.os/\AllBare s'.gens) s₁:=by
  intro H hO hS M ac;have D:∀{b:Addr}{o:Obj},s₁.heap.get? b=some o->H b=none->(JM s₁.heap H).get? b=some o:=λe n=>Mr e n;have ad:∀{b:Addr}{o:Obj},s₁.heap.get? b=some o->(∀xs n,o.data≠.seq xs n)->(∀xs,o.data≠.fields xs)->H b=none:=λ{b o} e d1 d2=>by
   rcases hO b with z | ⟨rfl,_⟩ | ⟨z,_⟩
   .exact z
   .rw [ha]at e;cases e;exact absurd rfl (d1 _ _)
   .rw [(hTs b z).1]at e;cases e;exact absurd rfl (d2 _)
  have U:∀{b:Addr}{m:Str->Option Value},s₁.heap.Ns b m->(JM s₁.heap H).Ns b m:=λ{b m} ⟨o,es,ep,e,d,r⟩=>⟨o,es,ep,D e (ad e (λ_ _ z=>by rw [d]at z;cases z) (λ_ z=>by rw [d]at z;cases z)),d,r⟩;have ae:K.In (JM s₁.heap H):=λb o e=>D (KX b o e) (by
   rcases hO b with z | ⟨rfl,Z,_⟩ | ⟨z,_⟩
   .exact z
   .rw [Z]at e;cases e
   .rw [(hTs b z).2.2]at e;cases e)
  have ag:BtAt mg (JM s₁.heap H):=by
   obtain⟨bm,o,b1,b2,b3,b4,b5,b6,b7⟩:=hbt;exact⟨bm,o,b1,b2,b3,D b4 (ad b4 (λ_ _ z=>by rw [b7]at z;cases z) (λ_ z=>by rw [b7]at z;cases z)),b5,b6,b7⟩
  have hM:Mod K mg (JM s₁.heap H):=⟨ae,U hns,⟨mb,U hb,hbb⟩,let⟨mc,h1,h2⟩:=hlim;⟨mc,U h1,h2⟩⟩;have e0:Env0 P w K mg (JM s₁.heap H) callerA [] s₁ H:=⟨rfl,hM,λb o e=>OF e,Nat.le_of_eq (G7 _ _),trivial,λb hb=>absurd (show b∈([]:List Addr)from hb) (14:),ac,.of_eq hg⟩;refine codeAny_mono ((F _ ae (U hns) ag).run callerA [] s₁ H ⟨[.ref a],[]⟩ [.ref a] [.ref a] _ _ hr e0 (hbind s₁ (.ref a)) (.cons rfl .nil) (hsp H hS M)) λr s' h=>?_;cases r with
  | error e=>exact h.elim
  | ok fl=>
   cases fl with
   | next=>exact False.elim h
   | brk=>exact False.elim h
   | cont=>exact False.elim h
   | ret u=>
    obtain⟨v,H',os,bare,un,aa,r',q⟩:=h;have q':v=.bl true:=q;subst q';obtain rfl:u=Value.bool true:=r';refine⟨rfl,⟨λb o e=>?_,λb o e=>un.there b o e (14:)⟩,os,bare⟩;rcases hO b with z | ⟨rfl,_,ob,xs,z⟩ | ⟨zT,z⟩
    .exact .inl (un.keep b o e z (by intro z;exact absurd (show b∈([]:List Addr)from z) (14:)) (14:))
    .have z2:=un.frzs b ob _ z;obtain⟨e1,_⟩:=ac b _ z;obtain⟨e2,_⟩:=aa b _ z2;rw [e]at e1;cases e1;exact .inl e2
    .obtain⟨ab,z2⟩:=un.tbls b _ z;have e2:s'.heap.get? b=some { cls:=.none,data:=.fields (#[]++ab) }:=aa b _ z2;obtain⟨t1,t2,_⟩:=hTs b zT;rw [t1]at e;cases e;exact .inr (.inl ⟨t2,rfl,#[],ab,rfl,e2⟩)
 have ah:∀T∈Ts,T≠a:=λT M z=>by
  have:=(hTs T M).1;rw [z,ha]at this;cases this
 cases Z:K.lookup a with
 | some o=>
  have e:=KX a o Z;rw [ha]at e;cases e;refine Y (λb=>if b∈Ts then some (.tbl #[])else none) (λb=>?_) (.inr ⟨_,vs.toArray,_,Z,rfl,rfl,rfl,by rw [aV,af];exact hl,by simpa using rv⟩) (λT M=>aE M) (λb u z=>?_)
  .by_cases hb:b∈Ts
   .exact .inr (.inr ⟨hb,aE hb⟩)
   .exact .inl (aF hb)
  .by_cases hb:b∈Ts
   .have J:=(aE hb).symm.trans z;cases J;exact(hTs b hb).1
   .have J:=(aF hb).symm.trans z;cases J
 | none=>
  refine Y (λb=>if b=a then some (.frz { cls:=.type "list",data:=.seq vs.toArray } (.lst (ns.map V.int)))else if b∈Ts then some (.tbl #[])else none) (λb=>?_) (.inl (.inr ⟨{ cls:=.type "list",data:=.seq vs.toArray },aE rfl⟩)) (λT M=>(aF (ah T M)).trans (aE M)) (λb u z=>?_)
  .by_cases hb:b=a
   .exact .inr (.inl ⟨hb,Z,_,_,aE hb⟩)
   .by_cases G:b∈Ts
    .exact .inr (.inr ⟨G,(aF hb).trans (aE G)⟩)
    .exact .inl ((aF hb).trans (aF G))
  .by_cases hb:b=a
   .have J:=(aE hb).symm.trans z;cases J;subst hb;exact⟨ha,by rw [aC];exact hl,vs,_,rv,ha⟩
   .have z1:=(aF hb).symm.trans z
    by_cases G:b∈Ts
    .have J:=(aE G).symm.trans z1;cases J;exact(hTs b G).1
    .have J:=(aF G).symm.trans z1;cases J
structure TabAt(q:Program)(K:Fg)(x:Str)(c T:Addr):Prop where
 fnd:∃d,(recsOf q).find? (λe=>e.name==x)=some d
 tab:PySem.W.tabIn K x=some (c,T)
 hd:PySem.W.codeHdIn K c T=true
 no:K.lookup T=none
theorem walk_ofT{l:PySem.W.OpenLaw}{k:Nat}{q:Program}{d:DefRec}{K:Params->Fg}{sp:World->Sp}{tabs:List (Str×Addr×Addr)}
 (hn:l.most=some n) (hn2:n<=sizeLine) (hdf:d.params.defaults=[]) (hr:Room k callerA)
 (hY:∀(w:World)(h:Heap),YP w h->(K w.params).In h)
 (htab:∀(w:World),∀p∈tabs,TabAt q (K w.params) p.1 p.2.1 p.2.2)
 (F:∀(w:World)(mg:Str->Option Value)(fa:Addr)(h:Heap),(K w.params).In h->h.Ns mainGlobals mg->mg d.name=some (.ref fa)->
  ∃fd:FuncData,(∀(s:Shared)(u:Value),BindsTo s fd ⟨[u],[]⟩ [(x,u)])/\
   ∀base:Heap,(K w.params).In base->base.Ns mainGlobals mg->BtAt mg base->FnOk l.prog w (K w.params) mg base CX0 k fa fd [x] (sp w))
 (hsp:∀(w:World)(H:Hp)(a:Addr)(ns:List Int),ns.length<=n->SqL (K w.params) H a (ns.map V.int)->(∀p∈tabs,H p.2.2=some (.tbl #[]))->sp w [.ref a] H (λv _=>v=.bl true) λ_ _ _=>False):
 PySem.W.WalkO q loose XP YP l.row.toRowW d [] (λf vs=>PySem.call f vs):=by
 refine Att.attach_call hn hdf λw ai af mg mb fa o pm cd ag a vs ns G Y ho hd ah ab J D z hg=>?_;have M:=hY w _ Y;obtain⟨fd,hb,hF⟩:=F w mg fa _ M G.T.g ab;have ac:BtAt mg af.heap:=by
  obtain⟨bm,ob,b1,b2,U,b4,b5,Z⟩:=G.T.bmain;have ad:bm≠mainGlobals:=λq=>by
   obtain⟨o,es,ep,e,hd,_⟩:=G.T.g;rw [q,e]at U;cases U;rw [hd]at Z;cases Z
  exact⟨bm,ob,b1,b2,ad,U,b4,b5,Z⟩
 refine GY (Ts:=tabs.map λp=>p.2.2) M G.T.g G.T.b G.T.builtins G.T.nolimit hg ac (λT hT=>?_) J D (aY z hn2) hr hF hb (λH hS hT=>hsp w H a ns z hS λp hp=>hT _ (aT.mpr ⟨p,hp,rfl⟩));obtain⟨p,hp,rfl⟩:=aT.mp hT;obtain⟨⟨dd,aa⟩,ht,_,ae⟩:=htab w p hp;obtain⟨hc,h0⟩:=PySem.W.tab_of G.T M aa ht;exact⟨h0,(hc.tab h0).isCodeTable,ae⟩
end L2
namespace K27
open PySem L2 TM TT K9 K11
abbrev eM:Expr:=Nb (MY YJ) 3
abbrev eT:Expr:=Nb (MY YD) 3
abbrev qM:Str:=(PyProof.Rows.envOfC "many_by" (defScope YJ) 0 0 .none).qual++"<lambda>"
abbrev qT:Str:=(PyProof.Rows.envOfC "tall_by" (defScope YD) 0 0 .none).qual++"<lambda>"
def RN(_:Hp)(v:V)(a:Nat):Prop:=v=.int (a:Int)
theorem V7{K:Fg}:Rep K RN:=λ_ _ _ _ _ h=>h
def opM(_:Lab)(_:Int)(xs:List Nat):Nat:=1+xs.sum
def opT(_:Lab)(_:Int)(xs:List Nat):Nat:=1+xs.foldl max 0
theorem X0:∀{ys:List V}{xs:List Nat},RAll RN H ys xs->ys=(xs.map λa=>((a:Nat):Int)).map V.int
 | _,_,.nil=>rfl
 | _,_,.cons (v:=v) h t=>by
  have h':v=_:=h;rw [h',X0 t];rfl
theorem WD:∀xs:List Nat,(xs.map λa=>((a:Nat):Int)).sum=((xs.sum:Nat):Int)
 | []=>rfl
 | x::r=>by
  have:=WD r;simp only [aS,eZ];lia
theorem Ww:∀(xs:List Nat)(a:Nat),a<=xs.foldl max a/\(∀x∈xs,x<=xs.foldl max a)/\(xs.foldl max a=a\/xs.foldl max a∈xs)
 | [],a=>⟨bB _,λ_ h=>(nomatch h),.inl rfl⟩
 | x::r,a=>by
  obtain⟨h1,h2,h3⟩:=Ww r (max a x);simp only [eS];refine⟨by lia,λy hy=>?_,?_⟩
  .rcases aM.mp hy with rfl | hy
   .lia
   .exact h2 y hy
  .rcases h3 with h3 | h3
   .rw [h3];rcases Nat.le_total a x with z | z
    .rw [Nat.max_eq_right z];exact .inr bA
    .rw [Nat.max_eq_left z];exact .inl rfl
   .exact .inr (bC _ h3)
section
variable{K:Fg}{soft:Bool}
theorem S8:FnScope ["put","mark","parts"] ["put","mark","parts"] (Zb eM):=(1:)
theorem Tb:FnScope ["put","mark","parts"] ["put","mark","parts"] (Zb eT):=(1:)
theorem Pp{us:List Value}(h:us.length=3):∃a b c,us=[a,b,c]:=by
 match us,h with
 | [a,b,c],_=>exact⟨a,b,c,rfl⟩
theorem MV(G:Gm mg):Vo P w K mg base 2 eM (Mz K RN opM) soft:=by
 refine XT S8 (λD H Q E h=>?_) (λqual U c M Y h=>?_) (λqual f c A outer s H D Q E Z h=>?_)
 .obtain⟨v,u,mk,z,ys,xs,rfl,_⟩:=h
  rfl
 .obtain⟨a,b,d,rfl⟩:=Pp h
  rfl
 .obtain⟨v,u,mk,z,ys,xs,rfl,_,_,F,J,_,q⟩:=h;refine⟨_,Qo QI Qd (Qq (Lh rfl) rfl G.sum PyProof.Rows.boot_sum (Qa (pv 2) Qc)),?_⟩;have e:=X0 J;subst e;refine⟨_,rfl,z,_,rfl,SqL.of F,_,_,rfl,rfl,q _ H (Same.refl _) ?_⟩;show V.int _=V.int _;rw [WD];unfold opM
  congr 1
theorem Nq(G:Gm mg):Vo P w K mg base 2 eT (Mz K RN opT) soft:=by
 refine XT Tb (λJ H Q E h=>?_) (λqual pm c aa us h=>?_) (λqual f c A outer s H J Q E hr h=>?_)
 .obtain⟨v,u,mk,D,ys,xs,rfl,_⟩:=h
  rfl
 .obtain⟨a,b,d,rfl⟩:=Pp h
  rfl
 .obtain⟨v,u,mk,D,ys,xs,rfl,_,_,U,z,_,q⟩:=h;refine⟨_,Qo QI Qd (G9 (G3 rfl) rfl G.max PyProof.Rows.boot_max (Qa (pv 2) Qc) (NY Qd P4)),?_⟩;have e:=X0 z;subst e;refine⟨_,rfl,D,_,_,rfl,rfl,SqL.of U,λY=>?_,λM Z F=>?_⟩
  .have:xs=[]:=by simpa using Y
   subst this;exact⟨_,_,rfl,rfl,q _ H (Same.refl _) rfl⟩
  .refine⟨_,_,rfl,rfl,q _ H (Same.refl _) ?_⟩;show V.int _=V.int _;unfold opT;obtain⟨h1,h2,h3⟩:=Ww xs 0;obtain⟨x,z,rfl⟩:=aT.mp Z;have a1:=h2 x z;have a2:xs.foldl max 0<=x:=by
    rcases h3 with h3 | h3
    .lia
    .have:=F _ (aT.mpr ⟨_,h3,rfl⟩);lia
   congr 1
   lia
def Wx(K:Fg)(T0:Addr)(e:Expr)(qual:Str)(op:Lab->Int->List Nat->Nat):Sp:=λvs H Q _=>∃(tu wd lm:Addr)(sv:V)(mo:List MdT)(T:Tu)(v:V)(u:Tm)(rv:V)(t:Tree Str),vs=[.ref tu,v,rv]/\TurnAt K H tu wd lm sv mo T/\TurnOk mo T/\TBd T/\mo.length<=10/\TmV K H v u/\lv u<=8/\sz u<=100/\TrV K H rv t/\lv t<=40/\St T (u,upT t)/\TbS H T0 (Zw e) qual/\
 ∀H':Hp,SameX T0 H H'->TbS H' T0 (Zw e) qual->Q (.int ((valT op 0 T u (upT t):Nat):Int)) H'
def Uu(K:Fg)(T0:Addr)(e:Expr)(qual:Str)(op:Lab->Int->List Nat->Nat):Sp:=λvs H Q _=>∃(tu wd lm:Addr)(sv:V)(mo:List MdT)(T:Tu)(rv:V)(t:Tree Str),vs=[.ref tu,rv]/\TurnAt K H tu wd lm sv mo T/\TurnOk mo T/\TBd T/\mo.length<=10/\lv T.start<=8/\sz T.start<=100/\TrV K H rv t/\lv t<=40/\isT (QX T.ks) t T.k0=true/\TbS H T0 (Zw e) qual/\
 ∀H':Hp,SameX T0 H H'->TbS H' T0 (Zw e) qual->Q (.int ((valT op 0 T T.start (upT t):Nat):Int)) H'
theorem Mo.tb{K:Fg}{ps:Array Value}(h:H T0=some (.tbl ps))(g:SameX T0 H H'):Mo K H H':=Mo.sx h (λ_ z=>nomatch z) (λ_ z=>nomatch z) (λ_ _ z=>nomatch z) (λ_ _ z=>nomatch z) g
theorem MD:FnScope ["turning","term","tree"] ["turning","term","tree"] (defScope YJ):=(1:)
theorem Nl:FnScope ["turning","term","tree"] ["turning","term","tree"] (defScope YD):=(1:)
theorem P8:FnScope ["turning","tree"] ["turning","tree"] (defScope NE):=(1:)
theorem Rz:FnScope ["turning","tree"] ["turning","tree"] (defScope Nt):=(1:)
theorem G2{c:Addr}(F:Fun K "many_by" "many_by" YJ f fd)(hn:PySem.W.nsIn K mainGlobals "many_by"=some (some (.ref f)))(hT:PySem.W.tabIn K "many_by"=some (c,T0))(hC:PySem.W.codeHdIn K c T0=true)(hB:BtAt mg base)(RO:Fn P w K mg base 54 "outcome" ["turning","term","tree","make"] (Je K eM RN opM 0) soft):FnOk P w K mg base CX0 55 f fd ["turning","term","tree"] (Wx K T0 eM qM opM) soft:=by
 refine Fun.okC F hn hT MD (13:) (λA outer s H vs Q E hr h=>?_)
 .obtain⟨U,wd,Y,Z,mo,T,v,u,rv,t,rfl,_⟩:=h
  rfl
 obtain⟨U,wd,Y,Z,mo,T,v,u,rv,t,rfl,aa,hO,ab,D,hv,ac,ad,ae,af,ag,z,q⟩:=h;refine⟨_,(Qh (Qp (Qr RO hr (Qa (pv 0) (Qa (pv 1) (Qa (pv 2) (Qa (Vw (c:=c) (T:=T0) rfl hC hB) Qc))))))),?_⟩
 try dsimp only [QC,Cx.nox]
 obtain⟨ps,ah⟩:=z.at;refine⟨_,rfl,_,rfl,_,rfl,z,λfm H1 g1 _ hL G=>?_⟩;have J:Mo K H H1:=Mo.tb ah g1;exact⟨U,wd,Y,Z,mo,T,v,u,rv,t,fm,rfl,J.turn aa,hO,ab,D,hv.mono J.t,ac,ad,ae.mono J.t,af,ag,hL,λv' H2 g2 ai=>by
  have M:v'=.int ((valT opM 0 T u (upT t):Nat):Int):=ai;subst M;exact q H2 (g1.trans (SameX.of g2)) (G.same g2)⟩
theorem GX{c:Addr}(F:Fun K "tall_by" "tall_by" YD f fd)(hn:PySem.W.nsIn K mainGlobals "tall_by"=some (some (.ref f)))(hT:PySem.W.tabIn K "tall_by"=some (c,T0))(hC:PySem.W.codeHdIn K c T0=true)(hB:BtAt mg base)(RO:Fn P w K mg base 54 "outcome" ["turning","term","tree","make"] (Je K eT RN opT 0) soft):FnOk P w K mg base CX0 55 f fd ["turning","term","tree"] (Wx K T0 eT qT opT) soft:=by
 refine Fun.okC F hn hT Nl (13:) (λA outer s H vs Q E hr h=>?_)
 .obtain⟨U,wd,Y,Z,mo,T,v,u,rv,t,rfl,_⟩:=h
  rfl
 obtain⟨U,wd,Y,Z,mo,T,v,u,rv,t,rfl,aa,hO,ab,D,hv,ac,ad,ae,af,ag,z,q⟩:=h;refine⟨_,(Qh (Qp (Qr RO hr (Qa (pv 0) (Qa (pv 1) (Qa (pv 2) (Qa (Vw (c:=c) (T:=T0) rfl hC hB) Qc))))))),?_⟩
 try dsimp only [QC,Cx.nox]
 obtain⟨ps,ah⟩:=z.at;refine⟨_,rfl,_,rfl,_,rfl,z,λfm H1 g1 _ hL G=>?_⟩;have J:Mo K H H1:=Mo.tb ah g1;exact⟨U,wd,Y,Z,mo,T,v,u,rv,t,fm,rfl,J.turn aa,hO,ab,D,hv.mono J.t,ac,ad,ae.mono J.t,af,ag,hL,λv' H2 g2 ai=>by
  have M:v'=.int ((valT opT 0 T u (upT t):Nat):Int):=ai;subst M;exact q H2 (g1.trans (SameX.of g2)) (G.same g2)⟩
theorem OK(F:Fun K "many" "many" NE f fd)(RN':Fn P w K mg base 44 "need_in" ["wood","tree"] (Yl K) soft)(RB:Fn P w K mg base 55 "many_by" ["turning","term","tree"] (Wx K T0 eM qM opM) soft):FnOk P w K mg base CX0 56 f fd ["turning","tree"] (Uu K T0 eM qM opM) soft:=by
 refine F.ok P8 (13:) (λai A outer s H vs Q E hr h=>?_)
 .obtain⟨G,wd,lm,Z,mo,T,rv,t,rfl,_⟩:=h
  rfl
 obtain⟨G,wd,lm,Z,mo,T,rv,t,rfl,D,J,ac,aa,ad,ae,M,U,Y,af,q⟩:=h;refine⟨_,(Qe (QS (Qr RN' hr (Qa (Qg Qk (pv 0) Qd (2:)) (Qa (pv 1) Qc))))
  (Qh (Qp (Qr RB hr (Qa (pv 0) (Qa (Qg Qk (pv 0) Qd (2:)) (Qa (pv 1) Qc))))))),?_⟩
 try dsimp only [QC,Cx.nox]
 refine L2.let1 ?_
 intros
 obtain⟨k0,ag,ah⟩:=J.k0;refine⟨_,rfl,G,_,0,_,rfl,rfl,D.tu,rfl,_,rfl,wd,rv,t,T.ks,k0,rfl,D.w,J.wo,ag,M,U,by rw [ah];exact Y,λH1 z=>?_⟩;refine⟨_,rfl,_,rfl,G,_,1,_,rfl,rfl,z.seqT D.tu,rfl,_,rfl,G,wd,lm,Z,mo,T,Z,T.start,rv,t,rfl,D.same z,J,ac,aa,(D.same z).s,ad,ae,M.mono λ_ _=>z.seqT,U,St.start J.ok Y,af.same z,λH2 g2 ab=>q H2 ((SameX.of z).trans g2) ab⟩
theorem OV(F:Fun K "tall" "tall" Nt f fd)(RN':Fn P w K mg base 44 "need_in" ["wood","tree"] (Yl K) soft)(RB:Fn P w K mg base 55 "tall_by" ["turning","term","tree"] (Wx K T0 eT qT opT) soft):FnOk P w K mg base CX0 56 f fd ["turning","tree"] (Uu K T0 eT qT opT) soft:=by
 refine F.ok Rz (13:) (λai A outer s H vs Q E hr h=>?_)
 .obtain⟨G,wd,lm,Z,mo,T,rv,t,rfl,_⟩:=h
  rfl
 obtain⟨G,wd,lm,Z,mo,T,rv,t,rfl,D,J,ac,aa,ad,ae,M,U,Y,af,q⟩:=h;refine⟨_,(Qe (QS (Qr RN' hr (Qa (Qg Qk (pv 0) Qd (2:)) (Qa (pv 1) Qc))))
  (Qh (Qp (Qr RB hr (Qa (pv 0) (Qa (Qg Qk (pv 0) Qd (2:)) (Qa (pv 1) Qc))))))),?_⟩
 try dsimp only [QC,Cx.nox]
 refine L2.let1 ?_
 intros
 obtain⟨k0,ag,ah⟩:=J.k0;refine⟨_,rfl,G,_,0,_,rfl,rfl,D.tu,rfl,_,rfl,wd,rv,t,T.ks,k0,rfl,D.w,J.wo,ag,M,U,by rw [ah];exact Y,λH1 z=>?_⟩;refine⟨_,rfl,_,rfl,G,_,1,_,rfl,rfl,z.seqT D.tu,rfl,_,rfl,G,wd,lm,Z,mo,T,Z,T.start,rv,t,rfl,D.same z,J,ac,aa,(D.same z).s,ad,ae,M.mono λ_ _=>z.seqT,U,St.start J.ok Y,af.same z,λH2 g2 ab=>q H2 ((SameX.of z).trans g2) ab⟩
end
end K27
namespace L2
open PySem PySem.Spec PyProof.Rows
def Lone(e:Addr)(h:Heap):Prop:=∃(o:Obj)(fs:Array Value),h.get? e=some o/\o.data=.fields fs/\fs[2]?=some .none
def Kp(I:Heap->Prop){α:Type}(t:Sem α):Prop:=∀(M:Model)(Γ:PySem.Ctx)(Q:α->Pos->Shared->Prop)(E:Value->Pos->Shared->Prop)(p:Pos)(s:Shared),Sem.wp M Γ t Q E p s->I s.heap->
 Sem.wp M Γ t (λa p' s'=>Q a p' s'/\I s'.heap) (λx p' s'=>E x p' s'/\I s'.heap) p s
section
variable{α β:Type}
theorem Kp.any{t:Sem α}(k:Kp I t){Q:α->Shared->Prop}(h:wpAny M A t Q E s)(i:I s.heap):wpAny M A t (λa s'=>Q a s'/\I s'.heap) (λx s'=>E x s'/\I s'.heap) s:=λD p z=>k M D _ _ p s (h D p z) i
theorem Kp.pure{a:α}:Kp I (Pure.pure a:Sem α):=λM z Q E p s h i=>by
 rw [Sem.wp_pure']at h ⊢;exact⟨h,i⟩
theorem Kp.uns{x:String}:Kp I (unsupported x:Sem α):=λM z Q E p s h i=>by
 have h:Sem.wp M z (.unsupported x:Sem α) Q E p s:=h;rw [Sem.wp_unsupported]at h;exact h.elim
theorem Kp.bind{m:Sem α}{f:α->Sem β}(a:Kp I m)(b:∀x,Kp I (f x)):Kp I (m>>=f):=λM z Q E p s h i=>by
 rw [Sem.wp_bind']at h ⊢;exact Sem.wp_mono M z m (λx D s' h'=>b x M z Q E D s' h'.1 h'.2) (λ_ _ _ h'=>h') p s (a M z _ _ p s h i)
theorem Kp.load:Kp I (PySem.load a):=λM z Q E p s h i=>by
 have h:Sem.wp M z (.load a none .pure) Q E p s:=h;show Sem.wp M z (.load a none .pure) _ _ p s;rw [Sem.wp_load]at h ⊢;obtain⟨o,g,h⟩:=h;exact⟨o,g,Kp.pure M z Q E p s h i⟩
theorem Kp.update{f:Obj->Obj}(k:∀h,I h->I (h.update a f)):Kp I (PySem.update a f):=λM z Q E p s h i=>by
 have h:Sem.wp M z (.update a none f .pure) Q E p s:=h;show Sem.wp M z (.update a none f .pure) _ _ p s;rw [Sem.wp_update]at h ⊢;exact⟨h.1,Kp.pure M z Q E p _ h.2 (k _ i)⟩
theorem Kp.alloc(k:∀h,I h->I (h.push o)):Kp I (PySem.alloc o):=λM z Q E p s h i=>by
 have h:Sem.wp M z (.alloc o .pure) Q E p s:=h;show Sem.wp M z (.alloc o .pure) _ _ p s;rw [Sem.wp_alloc]at h ⊢;exact Kp.pure M z Q E p _ h (k _ i)
theorem Kp.stack:Kp I PySem.stack:=λM z Q E p s h i=>by
 have h:Sem.wp M z (.stack .pure) Q E p s:=h;show Sem.wp M z (.stack .pure) _ _ p s;rw [Sem.wp_stack]at h ⊢;exact Kp.pure M z Q E p s h i
theorem Kp.ite{c:Prop} [Decidable c] {a b:Sem α} (x:Kp I a) (y:Kp I b):Kp I (if c then a else b):=by
 split<;>assumption
theorem Kp.fieldsOf:Kp I (PySem.fieldsOf v):=by
 unfold PySem.fieldsOf;split
 .refine Kp.bind Kp.load λo=>?_;split
  .exact Kp.pure
  .exact Kp.uns
 .exact Kp.uns
theorem Kp.field:Kp I (PySem.field v i):=by
 unfold PySem.field;refine Kp.bind Kp.fieldsOf λx=>?_;split
 .exact Kp.pure
 .exact Kp.uns
end
section
variable{e:Addr}
theorem Lone.upd{h:Heap}{a:Addr}{f:Obj->Obj}(l:Lone e h)(k:∀o fs,o.data=.fields fs->fs[2]?=some .none->∃fs',(f o).data=.fields fs'/\fs'[2]?=some .none):Lone e (h.update a f):=by
 obtain⟨o,fs,g,d,n⟩:=l
 by_cases z:a=e
 .subst z;obtain⟨fs',D,F⟩:=k o fs d n;exact⟨_,fs',fC _ g (gZ D),D,F⟩
 .exact⟨o,fs,(eQ _ _ z).trans g,d,n⟩
theorem Kp.setField{x:Value}(hi:i≠2):Kp (Lone e) (PySem.setField v i x):=by
 unfold PySem.setField;split
 .unfold updateField;refine Kp.bind Kp.load λo=>?_;split
  .refine Kp.ite (Kp.update λh l=>l.upd (λo fs d n=>⟨_,fX d _,by rw [Array.getElem?_setIfInBounds_ne hi];exact n⟩) ) Kp.uns
  .exact Kp.uns
 .exact Kp.uns
theorem Lone.push{h:Heap}(l:Lone e h):Lone e (h.push o):=by
 obtain⟨o',fs,g,d,n⟩:=l;exact⟨o',fs,aG _ g,d,n⟩
theorem Kp.newFields{ty:String}{vs:List Value}:Kp (Lone e) (PySem.newFields ty vs):=by
 unfold PySem.newFields newObj;dsimp only;have z:Kp (Lone e) (newObjAsIs (Value.type ty) (Data.fields vs.toArray)):=Kp.bind (Kp.alloc λh l=>l.push) λa=>Kp.pure;exact Kp.ite (Kp.bind Kp.uns λ_=>z) z
theorem Kp.frameEnvs:Kp I PySem.frameEnvs:=Kp.bind Kp.stack λ_=>Kp.pure
theorem Kp.behind{l:List Env}:Kp I (behindIsImport env l):=by
 unfold behindIsImport;exact Kp.ite Kp.pure (Kp.ite Kp.pure (Kp.bind Kp.field λ_=>Kp.pure))
theorem Kp.kept{b:Bool}{l:List Env}:Kp I (keptBack env b l):=by
 cases l with
 | nil=>exact Kp.ite Kp.pure (Kp.bind (Kp.bind Kp.stack λ_=>Kp.pure) λ_=>Kp.pure)
 | cons a l=>exact Kp.pure
theorem Kp.ready:∀l:List Env,Kp (Lone e) (readyFrames l)
 | []=>Kp.pure
 | env::outer=>by
  unfold readyFrames;split
  .refine Kp.bind Kp.load λo=>Kp.ite Kp.pure (Kp.bind Kp.behind λb=>Kp.bind Kp.kept λv=>Kp.bind (Kp.update λh l=>l.upd λo fs d n=>⟨fs,d,n⟩) λ_=>Kp.ready outer)
  .exact Kp.uns
theorem Kp.frameOf:Kp (Lone e) (PySem.frameOf env):=by
 unfold PySem.frameOf;refine Kp.bind Kp.frameEnvs λl=>Kp.bind ?_ λo=>?_
 .unfold frameObject;split
  .exact Kp.pure
  .exact Kp.bind (Kp.ready _) λ_=>Kp.pure
 .split
  .exact Kp.pure
  .exact Kp.uns
theorem Kp.place{b:Bool}:Kp I (entryPlaceOf f b):=by
 unfold entryPlaceOf;refine Kp.bind Kp.stack λl=>?_;split
 .exact Kp.pure
 .exact Kp.pure
theorem Kp.note:Kp (Lone e) (noteFrame v env):=by
 unfold noteFrame;split
 .dsimp only;refine Kp.bind Kp.field λhd=>Kp.ite (Kp.bind Kp.field λx=>Kp.ite Kp.pure (Kp.bind (Kp.setField (18:)) λ_=>?_)) ?_
  .exact Kp.bind Kp.frameOf λ_=>Kp.bind Kp.place λ_=>Kp.bind Kp.newFields λ_=>Kp.setField (18:)
  .exact Kp.bind Kp.frameOf λ_=>Kp.bind Kp.place λ_=>Kp.bind Kp.newFields λ_=>Kp.setField (18:)
 .exact Kp.uns
theorem Kp.flight{f:Option Addr}:Kp (Lone e) (setFlight v f):=by
 unfold setFlight;exact Kp.bind Kp.field λ_=>Kp.ite (Kp.setField (18:)) Kp.pure
theorem Kp.leaving:Kp (Lone e) (PySem.leaving env v):=Kp.bind Kp.note λ_=>Kp.flight
end
theorem ObjOk.there{h:Heap}{o:HO}(x:ObjOk P w H h a o):∃ob,h.get? a=some ob:=by
 cases o with
 | lst xs=>obtain⟨_,_,_,_,e⟩:=x;exact⟨_,e⟩
 | tup xs=>obtain⟨_,_,_,_,e,_⟩:=x;exact⟨_,e⟩
 | dK kvs=>obtain⟨_,_,_,_,o,_,_,e,_⟩:=x;exact⟨_,e⟩
 | dT kvs=>obtain⟨_,_,_,_,o,_,_,e,_⟩:=x;exact⟨_,e⟩
 | set S n=>obtain⟨o,_,_,_,e,_⟩:=x;exact⟨_,e⟩
 | ins C dx fs=>obtain⟨_,_,_,e,_⟩:=x;exact⟨_,e⟩
 | own y=>obtain⟨_,e⟩:=x;exact⟨_,e⟩
 | xd fs=>obtain⟨_,⟨_,_,_,e,_⟩,_⟩:=x;exact⟨_,e⟩
 | rng lo hi=>obtain⟨_,_,_,e⟩:=x;exact⟨_,e⟩
 | frz ob u=>obtain⟨e,_⟩:=x;exact⟨_,e⟩
 | tbl ps=>exact⟨_,(show h.get? a=some _ from x)⟩
 | met f y=>exact⟨_,(show h.get? a=some _ from x)⟩
 | ext z=>obtain⟨_,e,_⟩:=x;exact e
def Cov(B:Heap)(fs:List Addr)(H':Hp)(h h1:Heap):Prop:=∀b o,h1.get? b=some o->(H' b≠none\/∃o',h.get? b=some o')->b∉fs->B.get? b=some o
structure Flw(P:Program)(w:World)(outer:List Env)(H:Hp)(s:Shared)(a:Addr)(cls:Value)(H':Hp)(s':Shared):Prop where
 os:s'.os=s.os
 bare:AllBare s'.gens
 un:Un (frs outer) [] H H' s.heap s'.heap
 hok:HOk P w H' s'.heap
 fly:∃B t,Heap.FlyingW B outer a cls (.ref t) s'.heap/\Cov B (frs outer) H' s.heap s'.heap
 lone:Lone a s'.heap
def CX1(P:Program)(w:World):CXT:=λouter H s E e s'=>∃(a:Addr)(cls:Value)(H':Hp),e=.ref a/\Flw P w outer H s a cls H' s'/\E cls none H'
theorem P3{fs:List Addr}{h B:Heap}(u:Un fs [] H H' h h1)(cov:Cov B fs H' h h1)(st:B.StaysIn h2)(up:h1.UpToSlots h2)(hfs:∀b∈fs,∀o,h1.get? b=some o->∀vs,o.data≠.fields vs):Un fs [] H H' h h2 where
 keep:=λb o e n z D=>st _ _ (cov b o (u.keep b o e n z D) (.inr ⟨o,e⟩) z)
 slot:=λb o e n z D=>by
  obtain⟨J,e1⟩:=u.slot b o e n z D;obtain⟨F,e2⟩:=up b _ e1 (hfs b z _ e1);exact⟨F,e2⟩
 free:=u.free
 there:=λb o e D=>by
  obtain⟨G,e1⟩:=u.there b o e D
  by_cases z:b∈fs
  .obtain⟨F,e2⟩:=up b _ e1 (hfs b z _ e1);exact⟨_,e2⟩
  .exact⟨G,st _ _ (cov b G e1 (.inr ⟨o,e⟩) z)⟩
 tups:=u.tups
 frzs:=u.frzs
 tbls:=u.tbls
theorem Os{fs:List Addr}{h B:Heap}(hok:HOk P w H' h1)(trk:∀b∈fs,H' b=none)(cov:Cov B fs H' h h1)(st:B.StaysIn h2):HOk P w H' h2:=λb u e=>by
 refine(hok b u e).stay (λc v hc r=>?_) (λ_ r=>r) λ_ _ r=>r;have D:H' c≠none:=by
  rcases hc with rfl | hc
  .rw [e];intro z;cases z
  .rw [hc];intro z;cases z
 exact st _ _ (cov c v r (.inl D) λz=>D (trk c z))
section
variable{pins:List (8:)}{σ:St}
theorem Wo{B:Heap}{l:List Env}{h:Heap}(hl:h.FunFrames B l):∀b∈frs l,∀o,h.get? b=some o->∀vs,o.data≠.fields vs:=λb D o e vs=>by
 obtain⟨_,o',z,d⟩:=hl.mem D;rw [e]at z;cases z;exact d vs
theorem Gs(I:Inv X pins σ H s)(u:Un (frs X.stack) [] H H' s.heap s'.heap):∀b∈frs X.stack,H' b=none:=λb z=>by
 obtain⟨_,o,D,_⟩:=I.stack.mem z;exact u.free b o D (I.stkFree b z) (14:)
theorem Inv.flown{B:Heap}(I:Inv X pins σ H s)(os:s'.os=s.os)(bare:AllBare s'.gens)(un:Un (frs X.stack) [] H H' s.heap s'.heap)(hok:HOk X.prog X.w H' s'.heap)(hfr:s'.heap.FunFrames B X.stack)(cov:Cov B (frs X.stack) H' s.heap s'.heap)(st:B.StaysIn h2)(up:s'.heap.UpToSlots h2):
 Inv X pins σ H' { s' with heap:=h2 }:=
 I.call' (s':={ s' with heap:=h2 }) (ch:=[]) os (P3 un cov st up (Wo hfr)) (Os hok (Gs I un) cov st) bare (λb z=>absurd z (14:))
theorem Cov.out{B:Heap}{s0:Shared}(I:Inv X pins σ H s)(hH0:X.H₀=H0)(hs0:X.s₀=s0)(hex:X.ex=[])(un:Un (frs X.stack) [] H H' s.heap s'.heap)(hok:HOk X.prog X.w H' s'.heap)(cov:Cov B (frs X.stack) H' s.heap s'.heap)(st:B.StaysIn h2):Cov B X.fs H' s0.heap h2:=λb o e D Y=>by
 have key:∃o',s'.heap.get? b=some o'/\b∉frs X.stack/\(H' b≠none\/∃o',s.heap.get? b=some o'):=by
  rcases D with D | ⟨o',D⟩
  .cases F:H' b with
   | none=>exact absurd F D
   | some u=>
    obtain⟨o',G⟩:=(hok b u F).there;refine⟨o',G,λz=>?_,.inl (23:)⟩;rw [Gs I un b z]at F;cases F
  .have h1:X.s₀.heap.get? b=some o':=by rw [hs0];exact D
   obtain⟨J,e1⟩:=I.base.there b o' h1 (by rw [hex];simp);obtain⟨Z,e2⟩:=un.there b J e1 (14:);refine⟨Z,e2,λz=>?_,.inr ⟨J,e1⟩⟩;rcases aM.mp (I.stkSub b z)with z | z
   .rw [z]at h1;exact absurd (bU (aJ h1) I.ok.above) (bX _)
   .exact Y z
 obtain⟨o',h1,M,h3⟩:=key;have U:=cov b o' h1 h3 M;have:=st _ _ U;rw [e]at this;cases this;exact U
end
section
variable{K:Fg}{N:List Str}{E:XK}
theorem Sd{E':XK}(k:∀cls H',E' cls none H'->E cls none H'):XX (CX1 P w) (QC (CX1 P w) P w K mg base N qual scope f cd A outer s H E) E':=by
 intro pins σ H1 Z e s' I h;obtain⟨a,cls,H',rfl,F,q⟩:=h;obtain⟨B,t,G,M⟩:=F.fly;show wpAny (model P w) (A.deeper (10:)) (leaving (10:) (.ref a)) _ _ s';refine bS (Kp.leaving.any (wpAny_leaves_onW (Q:=λ_ U=>∃h2,U={ s' with heap:=h2 }/\Heap.FlyingW B outer a cls (.ref t) h2/\s'.heap.UpToSlots h2) I.ok.frames rfl G λh2 x y=>⟨h2,rfl,x,y⟩) F.lone) (λ_ U z=>?_) λ_ _ z=>z.1;obtain⟨⟨h2,rfl,D,Y⟩,ln⟩:=z;have J:=I.flown F.os F.bare F.un F.hok G.2.2.1 M D.1 Y;exact⟨a,cls,H',rfl,⟨J.os,J.bare,J.base,J.hok,⟨B,t,D,Cov.out I rfl rfl rfl F.un F.hok M D.1⟩,ln⟩,k _ _ q⟩
theorem P1{pins:List (8:)}{σ:St}{cls:Value}{args:List Value}(I:Inv (QC (CX1 P w) P w K mg base N qual scope f cd A outer s H E) pins σ H1 s1)(hx:Heap.MadeExcOf s1.heap h' a cls args)(q:E cls none H1):
 (QC (CX1 P w) P w K mg base N qual scope f cd A outer s H E).xe (.ref a) { s1 with heap:=h' }:=by
 show wpAny (model P w) (A.deeper (10:)) (leaving (10:) (.ref a)) _ _ _;obtain⟨D,F⟩: ∃D,D=envOfC qual scope s.heap.objs.size f cd::outer:=⟨_,rfl⟩;have M:s1.heap.FunFrames (PySem.W.hideAll s1.heap (frs D)) D:=by
  have:=I.stack;rw [F];exact PySem.W.funFrames_hide this λenv Y b hb=>dQ.mpr ⟨env,Y,hb⟩
 have U:Cov (PySem.W.hideAll s1.heap (frs D)) (frs D) H1 s1.heap s1.heap:=λb o e _ nb=>PySem.W.hideAll_get _ e nb;obtain⟨t0,Y,_⟩:=hx.there;refine bS (Kp.leaving.any (wpAny_leaves_madeW (Q:=λ_ Z=>∃h2 t,Z={ s1 with heap:=h2 }/\Heap.FlyingW (PySem.W.hideAll s1.heap (frs D)) outer a cls (.ref t) h2/\h'.UpToSlots h2) (base:=PySem.W.hideAll s1.heap (frs D)) (h:=s1.heap) I.ok.frames rfl (λb o q=>PySem.W.of_hideAll _ q) (F ▸ M) hx λh2 t x _ _ y=>⟨h2,t,rfl,x,y⟩) ⟨_,_,Y,rfl,rfl⟩) (λ_ Z z=>?_) λ_ _ z=>z.1;obtain⟨⟨h2,t,rfl,G,up⟩,ln⟩:=z;subst F;have aa:s1.heap.UpToSlots h2:=(Heap.UpToSlots.of_keeps hx.keeps).trans up;have J:=I.flown (s':=s1) rfl I.bare Un.refl I.hok M U G.1 aa;exact⟨a,cls,H1,rfl,⟨J.os,J.bare,J.base,J.hok,⟨_,t,G,Cov.out (s':=s1) I rfl rfl rfl Un.refl I.hok U G.1⟩,ln⟩,q⟩
end
abbrev WZ:List Value:=[.type "ValueError",.type "Exception",.type "BaseException",.type "object"]
theorem Oz{K:Fg}{h:Heap}{C:Addr}{bmB:List Value}{newId:String}(X:K.In h)(q:PySem.W.excIn K C bmB newId=true):
 ∃tl N nm qn bs hdct sn sub ab col dd k0 k1 k2 k3 k5 mN,h.get? C=some (excClassObj nm qn C N bs tl hdct sn sub ab col dd k0 k1 k2 k3 k5 newId)/\h.Ns N mN/\mN "__init__"=none/\OwnTail h bmB tl:=by
 unfold PySem.W.excIn at q;split at q
 .rename_i dd cd G U;split at q
  .rename_i C' Y k0 k1 k2 k3 n k5 J Z;simp only [bD,beq_iff_eq,Bool.not_eq_true']at q;obtain⟨⟨⟨⟨⟨e1,e2⟩,z⟩,ht⟩,D⟩,F⟩:=q;subst e1 e2;obtain⟨nm,bs,aa,ns,qn,hd,sn,sub,ab,col,ac⟩:=cd;dsimp only at J z D F;subst J z;have M:G=#[k0,k1,k2,k3,some (.builtin n),k5]:=by
    obtain⟨l⟩:=G;exact congrArg Array.mk Z
   subst M;exact⟨Y,ns,nm,qn,bs,hd,sn,sub,ab,col,dd,k0,k1,k2,k3,k5,_,X _ _ U,.of_isNs (PySem.W.isNs_of_in X D),PySem.W.nsMap_none_of_in X D F,PySem.W.tail_of_in X ht⟩
  .cases q
 .cases q
def PQ(C:Addr)(E:XK)(t:TA):TS:=λD σ H=>t σ H λvs H1=>vs.length<=sizeLine/\E (.ref C) none H1
section
variable{K:Fg}{N:List Str}{E:XK}
theorem Jm(hz0:A.handled=none){t:TA}(hm:mg x=some (.ref C))(hq:PySem.W.excIn K C WZ newId=true)(Fn:ExcBaseFacts Bn newId inN bmN)(hBn:WZ.contains (.type Bn)=true)
 (ha:PA (QC (CX1 P w) P w K mg base N qual scope f cd A outer s H E) (e::es) t) (hg:Gl (QC (CX1 P w) P w K mg base N qual scope f cd A outer s H E) x:=by rfl) (hd:(x==("__debug__":Str))=false:=by decide)
 (he:starEach (e::es) (10:)=(false,eval e (10:))::starEach es (10:):=by rfl) (hpl:(backTo cpos (starEach es (10:))).any (·.1)=false:=by rfl):
 PS (QC (CX1 P w) P w K mg base N qual scope f cd A outer s H E) (.Raise (some (.Call (.Name x np) (e::es) [] cpos)) none pos) (PQ C E t):=by
 intro pins J σ H1 D I h;obtain⟨tl,U,nm,Y,bs,hdct,sn,sub,ab,col,dd,k0,k1,k2,k3,k5,mN,Z,hN,M,T⟩:=Oz (h:=base) I.ok.mod.kin hq;refine wpAny_Raise_call_subU (C:=C) (nm:=nm) (q:=Y) (N:=U) (bs:=bs) (bm:=tl) (hdct:=hdct) (sn:=sn) (sub:=sub) (ab:=ab) (col:=col) (dd:=dd) (k0:=k0) (k1:=k1) (k2:=k2) (k3:=k3) (k5:=k5)
  Fn hBn gS (mN:=mN) (T.hasType gS.hasBase) hz0 ?_ M (YC I hg hm ⟨rfl,?_⟩ hd)
 .show(backTo cpos (starEach (e::es) (10:))).any (·.1)=false;rw [he];show(false||(backTo cpos (starEach es (10:))).any (·.1))=false;rw [hpl];rfl
 .have hw:=ha cpos pins J σ H1 _ I h;show wpAny (model P w) (A.deeper (10:)) (evalArgs (.ref C) true (backTo cpos (starEach (e::es) (10:))) []) _ _ J;have G:wpAny (model P w) (A.deeper (10:)) (spliced (backTo cpos (starEach (e::es) (10:)))) _ _ J:=hw;rw [he]at G ⊢;refine g_ (bS G (λus s2 h2=>?_) λ_ _ y=>y);obtain⟨vs,H2,z,r,hl,q⟩:=h2;exact⟨rfl,by rw [<-r.length];exact hl,z.bk _ _ Z,hN.keeps z.bk,T.keeps z.bk,λh' a hx=>P1 z hx q⟩
end
structure FnX(P:Program)(w:World)(K:Fg)(mg:Str->Option Value)(base:Heap)(k:Nat)(x:Str)(ps:List Str)(sp:Sp):Prop where
 ex:∃(f:Addr)(fd:FuncData),FnOk P w K mg base (CX1 P w) k f fd ps sp/\Binds K fd ps []/\PySem.W.keepIn K (.ref f)=true/\mg x=some (.ref f)
def Gr(X:Cx)(EE:St->XK):Prop:=∀(pins:List (8:))(σ:St)(H:Hp)(s:Shared)(e:Value)(s':Shared),Inv X pins σ H s->CX1 X.prog X.w X.stack H s (EE σ) e s'->X.xe e s'
def P5(sp:Sp)(EE:St->XK)(t:TA):TE:=λσ H Q=>t σ H λvs H1=>sp vs H1 Q (EE σ)
theorem Yx{k k':Nat}{x:Str}{ps:List Str}{sp:Sp}{EE:St->XK}{p pos:Pos}{e:Expr}{es:List Expr}{t:TA}(F:FnX X.prog X.w X.K X.mg X.base k x ps sp)(hr:Room k' X.A)(hx:Gr X EE)(ha:PA X (e::es) t)(hk:k<=k':=by decide)(hg:Gl X x:=by rfl)
 (hdb:(x==("__debug__":Str))=false:=by decide) (he:starEach (e::es) X.env=(false,eval e X.env)::starEach es X.env:=by rfl) (hpl:(backTo pos (starEach es X.env)).any (·.1)=false:=by rfl):
 PE X (.Call (.Name x p) (e::es) [] pos) (P5 sp EE t):=by
 obtain⟨f,fd,h1,h2,U,Y⟩:=F.ex;intro pins s σ H Q I h;refine fF (YC I hg Y ?_ hdb);refine PySem.W.callWith_K (h₀:=X.base) I.ok.mod.kin U (thn (ha pos pins s σ H _ I h) λG J ⟨Z,H1,z,r,q⟩=>⟨z.kIn,?_⟩) he hpl;have hl:G.length=ps.length:=by rw [<-r.length];exact h1.len _ _ _ _ q
 have M:=h2 J G z.kIn (by rw [dZ];exact hl);rw [dZ]at M;refine wpAny_call (codeAny_mono (h1.run X.A X.stack J H1 ⟨G,[]⟩ G Z Q (EE σ) (hr.mono hk) z.env0 M r q) λr s' D=>?_);cases r with
 | error e=>exact hx pins σ H1 J e s' z D
 | ok fl=>
  cases fl with
  | ret u=>exact z.after D
  | next=>exact False.elim D
  | brk=>exact False.elim D
  | cont=>exact False.elim D
section
variable{K:Fg}{N:List Str}{E:XK}
theorem WN{E':XK}(k:∀cls H',E' cls none H'->E cls none H'):Gr (QC (CX1 P w) P w K mg base N qual scope f cd A outer s H E) (λ_=>E'):=λpins σ H1 z e s' I h=>Sd k pins σ H1 z e s' I h
theorem Fun.okX{st:Stmt}{k:Nat}(F:Fun K x qual st f fd)(S:FnScope N ps (defScope st))(len:∀vs H Q E,sp vs H Q E->vs.length=ps.length)
 (hbody:∀(cdv:Value)(A:Around)(outer:List Env)(s:Shared)(H:Hp)(vs:List V)(Q:VK)(E:XK),Room k (A.deeper (envOfC qual (defScope st) s.heap.objs.size f cdv))->sp vs H Q E->
  ∃t,PSs (QC (CX1 P w) P w K mg base N qual (defScope st) f cdv A outer s H E) (defBody st) t/\t { nx:=λ_ H'=>Q .non H',rt:=Q } (start N vs) H):FnOk P w K mg base (CX1 P w) (k+1) f fd ps sp:=by
 obtain⟨Y,Z,kV,M,pm,an,cdv,ct,U,rfl,G,z⟩:=F.ex;exact GP G z S len λA outer s H vs Q E J D=>hbody cdv A outer s H vs Q E J D
theorem Fun.okXC{st:Stmt}{k:Nat}{c T:Addr}(F:Fun K x qual st f fd)(hn:PySem.W.nsIn K mainGlobals x=some (some (.ref f)))(hT:PySem.W.tabIn K x=some (c,T))(S:FnScope N ps (defScope st))(len:∀vs H Q E,sp vs H Q E->vs.length=ps.length)
 (hbody:∀(A:Around)(outer:List Env)(s:Shared)(H:Hp)(vs:List V)(Q:VK)(E:XK),Room k (A.deeper (envOfC qual (defScope st) s.heap.objs.size f (.ref c)))->sp vs H Q E->
  ∃t,PSs (QC (CX1 P w) P w K mg base N qual (defScope st) f (.ref c) A outer s H E) (defBody st) t/\t { nx:=λ_ H'=>Q .non H',rt:=Q } (start N vs) H):FnOk P w K mg base (CX1 P w) (k+1) f fd ps sp:=by
 obtain⟨Z,od,kV,U,pm,an,z,ct,Y,rfl,D,G⟩:=F.ex;have e:z=.ref c:=GI hn D hT;subst e;exact GP D G S len λA outer s H vs Q E M J=>hbody A outer s H vs Q E M J
end
abbrev Cx.pnd(X:Cx)(pins:List (8:)):Cx:={ X with pn:=X.pn++pins }
abbrev Cx.tryx(X:Cx)(pins:List (8:))(EE:St->XK):Cx:={ X with pn:=X.pn++pins,xe:=λe s'=>∃pins' σ H s,Inv (X.pnd pins) pins' σ H s/\CX1 X.prog X.w X.stack H s (EE σ) e s' }
abbrev Cx.mrk(X:Cx)(a:Addr):Cx:={ X with A:=X.A.mark (some (.ref a)),calm:=false,xe:=λ_ _=>False }
section
variable{pins:List (8:)}{σ:St}{EE:St->XK}
theorem Inv.toTry(I:Inv X pins σ H s)(EE:St->XK):Inv (X.tryx pins EE) [] σ H s:=
 ⟨(16:),I.os,I.bare,I.base,I.loc,I.cell,I.free,I.freeC,λp hp=>I.pin p (by simpa using hp),I.hok,I.len⟩
theorem Inv.ofTry{p2:List (8:)}(I:Inv (X.tryx pins EE) p2 σ H s):Inv X pins σ H s:=
 ⟨(16:),I.os,I.bare,I.base,I.loc,I.cell,I.free,I.freeC,λp hp=>I.pin p (bZ _ hp),I.hok,I.len⟩
theorem Inv.ofTryP{p2:List (8:)}(I:Inv (X.tryx pins EE) p2 σ H s):Inv (X.pnd pins) p2 σ H s:=
 ⟨(16:),I.os,I.bare,I.base,I.loc,I.cell,I.free,I.freeC,I.pin,I.hok,I.len⟩
theorem Inv.ofPnd{p2:List (8:)}(I:Inv (X.pnd pins) p2 σ H s):Inv X pins σ H s:=
 ⟨(16:),I.os,I.bare,I.base,I.loc,I.cell,I.free,I.freeC,λp hp=>I.pin p (bZ _ hp),I.hok,I.len⟩
theorem Inv.toMrk(I:Inv X pins σ H s)(a:Addr)(hf:(X.A.mark (some (.ref a))).frames=X.A.frames):Inv (X.mrk a) pins σ H s:=
 ⟨⟨I.ok.mod,I.ok.kind,I.ok.glob,I.ok.blt,I.ok.above,I.ok.inj,I.ok.has,I.ok.cab,λz=>(nomatch z),hf.trans I.ok.frames,I.ok.stk,I.ok.exf,I.ok.bs,I.ok.bsz,I.ok.noex,I.ok.exfs,I.ok.funs,I.ok.frf⟩,I.os,I.bare,I.base,I.loc,I.cell,I.free,I.freeC,I.pin,I.hok,I.len⟩
theorem SP.ofTry(h:SP (X.tryx pins EE) [] D fl s'):SP X pins D fl s':=by
 cases fl with
 | next=>obtain⟨z,H',I,q⟩:=h;exact⟨z,H',I.ofTry,q⟩
 | brk=>obtain⟨z,H',I,q⟩:=h;exact⟨z,H',I.ofTry,q⟩
 | cont=>obtain⟨z,H',I,q⟩:=h;exact⟨z,H',I.ofTry,q⟩
 | ret u=>obtain⟨v,z,H',I,r,q⟩:=h;exact⟨v,z,H',I.ofTry,r,q⟩
theorem Sb:Gr (X.tryx pins EE) EE:=λp2 σ H s e s' I h=>⟨p2,σ,H,s,I.ofTryP,h⟩
def S5(C:Addr)(tb:(St->XK)->TS)(ts:TS):TS:=λD σ H=>∃EE:St->XK,tb EE D σ H/\∀σ' cls H',EE σ' cls none H'->cls=.ref C/\ts D σ' H'
end
def Sy(te:TE):TE:=λσ H Q=>te σ H λv H1=>∃i:Int,v=.int i/\i.natAbs.log2<1920/\Q (.str (toString i)) H1
def R4(te:TE):TE:=λσ H Q=>te σ H λv H1=>∃x:Str,v=.str x/\(reprText x).length<=sizeLine/\Q (.str (reprText x)) H1
def Rp(t1 t2 t3:TE):TE:=λσ H Q=>t1 σ H λv1 H1=>∃a:Str,v1=.str a/\a.length<=1000/\t2 σ H1 λv2 H2=>∃b:Str,v2=.str b/\b.length<=1000/\t3 σ H2 λv3 H3=>∃c:Str,v3=.str c/\c.length<=1000/\Q (.str (Str.empty++a++b++c)) H3
def Ry(t1 t2:TE):TE:=λσ H Q=>t1 σ H λv1 H1=>∃a:Str,v1=.str a/\a.length<=1000/\t2 σ H1 λv2 H2=>∃b:Str,v2=.str b/\b.length<=1000/\Q (.str (Str.empty++a++b)) H2
section
variable{e3:Expr}{t1 t2 t3:TE}
theorem Gw(he:PE X e te):PE X (.FormattedValue e (-1) none pos) (Sy te):=by
 intro pins s σ H Q I h;refine PySem.wpAny_FormattedValue_plain (thn (he pins s σ H _ I h) λu D ⟨x,H1,z,r,i,ex,hd,q⟩=>?_);subst ex;obtain⟨t,rfl⟩:=r;exact wpAny_formatField_int hd ⟨.str (toString i),H1,z.tok _,⟨_,rfl⟩,q⟩
theorem OD(he:PE X e te):PE X (.FormattedValue e 114 none pos) (R4 te):=by
 intro pins s σ H Q I h;refine PySem.wpAny_FormattedValue_repr (thn (he pins s σ H _ I h) λu D ⟨x,H1,z,r,y,ex,hd,q⟩=>?_);subst ex;obtain⟨t,rfl⟩:=r;refine wpAny_pyReprObj_gives (T:="str") (typeIs_str _ _ _) PySem.F.slot_str_repr PySem.F.entry_str_repr (PySem.F.args_str_repr_1 _) (gives_str_repr y t) ?_ rfl hd;exact wpAny_formatField_str ⟨.str (reprText y),H1,z.tok _,⟨_,rfl⟩,q⟩ ⟨.str (reprText y),H1,(z.tok _).tok _,⟨_,rfl⟩,q⟩ hd
theorem WC(h1:PE X e1 t1)(h2:PE X e2 t2)(h3:PE X e3 t3):PE X (.JoinedStr [e1,e2,e3] pos) (Rp t1 t2 t3):=by
 intro pins s σ H Q I h;refine wpAny_JoinedStr ?_;have e0:(Str.empty).length=0:=rfl;refine thn (h1 pins s σ H _ I h) λu1 z ⟨x1,H1,D,F,a,G,la,J⟩=>?_;subst G;obtain⟨ta,rfl⟩:=F;refine⟨a,ta,rfl,Zg (by rw [cL];lia),?_⟩;refine thn (h2 pins z σ H1 _ D J) λu2 M ⟨x2,H2,U,Y,b,Z,lb,q2⟩=>?_;subst Z;obtain⟨tb,rfl⟩:=Y;refine⟨b,tb,rfl,Zg (by rw [cL,cL];lia),?_⟩;refine thn (h3 pins M σ H2 _ U q2) λu3 s3 ⟨x3,H3,I3,r3,c,ec,lc,q3⟩=>?_;subst ec;obtain⟨tc,rfl⟩:=r3;refine⟨c,tc,rfl,Zg (by rw [cL,cL,cL];lia),Zg (by rw [cL,cL,cL];lia),?_⟩;exact⟨.str (Str.empty++a++b++c),H3,I3.tok _,⟨_,rfl⟩,q3⟩
theorem Mi(h1:PE X e1 t1)(h2:PE X e2 t2):PE X (.JoinedStr [e1,e2] pos) (Ry t1 t2):=by
 intro pins s σ H Q I h;refine wpAny_JoinedStr ?_;have e0:(Str.empty).length=0:=rfl;refine thn (h1 pins s σ H _ I h) λu1 z ⟨x1,H1,D,F,a,G,la,J⟩=>?_;subst G;obtain⟨ta,rfl⟩:=F;refine⟨a,ta,rfl,Zg (by rw [cL];lia),?_⟩;refine thn (h2 pins z σ H1 _ D J) λu2 s2 ⟨x2,H2,M,U,b,Y,lb,Z⟩=>?_;subst Y;obtain⟨tb,rfl⟩:=U;refine⟨b,tb,rfl,Zg (by rw [cL,cL];lia),Zg (by rw [cL,cL];lia),?_⟩;exact⟨.str (Str.empty++a++b),H2,M.tok _,⟨_,rfl⟩,Z⟩
end
section
variable{pins:List (8:)}{σ:St}
end
end L2
namespace K27
open PySem L2 TM TT K9 K11
abbrev eR:Expr:=Nb (MY ZF) 3
abbrev qR:Str:=(PyProof.Rows.envOfC "turned_by" (defScope ZF) 0 0 .none).qual++"<lambda>"
def opR(l:Lab)(mk:Int)(xs:List (Tree Str)):Tree Str:=match l with
 | .put n k a=>.node n (if k=true then a+mk else a) xs
 | .call _ _=>.node (S []) 0 []
def RT(K:Fg)(H:Hp)(v:V)(t:Tree Str):Prop:=TrV K H v t
theorem O9{K:Fg}:Rep K (RT K):=λ_ _ _ _ k h=>TrV.mono k h
theorem Mg{K:Fg}:∀{ys:List V}{xs:List (Tree Str)},RAll (RT K) H ys xs->TrAll K H ys xs
 | _,_,.nil=>.nil
 | _,_,.cons h t=>.cons h (Mg t)
structure Tb3(T1 T2 T3:Addr)(H:Hp):Prop where
 m:TbS H T1 (Zw eM) qM
 t:TbS H T2 (Zw eT) qT
 r:TbS H T3 (Zw eR) qR
structure Ne3(T1 T2 T3:Addr):Prop where
 a:T1≠T2
 b:T1≠T3
 c:T2≠T3
def SX3(T1 T2 T3:Addr)(H H':Hp):Prop:=∀b u,b≠T1->b≠T2->b≠T3->H b=some u->H' b=some u
theorem SX3.of(g:Same H H'):SX3 T1 T2 T3 H H':=λb u _ _ _ e=>g b u e
theorem SX3.trans(a:SX3 T1 T2 T3 H H1)(b:SX3 T1 T2 T3 H1 H2):SX3 T1 T2 T3 H H2:=λc u n m l e=>b c u n m l (a c u n m l e)
theorem Tb3.same(g:Same H H')(h:Tb3 T1 T2 T3 H):Tb3 T1 T2 T3 H':=⟨h.m.same g,h.t.same g,h.r.same g⟩
theorem Tb3.mo{K:Fg}(h:Tb3 T1 T2 T3 H)(g:SX3 T1 T2 T3 H H'):Mo K H H':=by
 obtain⟨D,h1⟩:=h.m.at;obtain⟨p2,h2⟩:=h.t.at;obtain⟨F,G⟩:=h.r.at;have go:∀b u,H b=some u->(∀ps,u≠.tbl ps)->H' b=some u:=λb u e n=>g b u (QM e h1 (n D)) (QM e h2 (n p2)) (QM e G (n F)) e;constructor
 .intro a xs h;rcases h with(h | ⟨o,h⟩) | h
  .exact .inl (.inl (go _ _ h λ_ z=>nomatch z))
  .exact .inl (.inr ⟨o,go _ _ h λ_ z=>nomatch z⟩)
  .exact .inr h
 .intro a xs h;rcases h with(h | ⟨o,h⟩) | h
  .exact .inl (.inl (go _ _ h λ_ z=>nomatch z))
  .exact .inl (.inr ⟨o,go _ _ h λ_ z=>nomatch z⟩)
  .exact .inr h
theorem Tb3.byM(ne:Ne3 T1 T2 T3)(h:Tb3 T1 T2 T3 H)(g:SameX T1 H H')(k:TbS H' T1 (Zw eM) qM):Tb3 T1 T2 T3 H'/\SX3 T1 T2 T3 H H':=by
 obtain⟨z,h1⟩:=h.m.at;exact⟨⟨k,TbS.sameX h1 (aL ne.a) g h.t,TbS.sameX h1 (aL ne.b) g h.r⟩,λb u n _ _ e=>g b u n e⟩
theorem Tb3.byT(ne:Ne3 T1 T2 T3)(h:Tb3 T1 T2 T3 H)(g:SameX T2 H H')(k:TbS H' T2 (Zw eT) qT):Tb3 T1 T2 T3 H'/\SX3 T1 T2 T3 H H':=by
 obtain⟨p2,h2⟩:=h.t.at;exact⟨⟨TbS.sameX h2 ne.a g h.m,k,TbS.sameX h2 (aL ne.c) g h.r⟩,λb u _ n _ e=>g b u n e⟩
theorem Tb3.byR(ne:Ne3 T1 T2 T3)(h:Tb3 T1 T2 T3 H)(g:SameX T3 H H')(k:TbS H' T3 (Zw eR) qR):Tb3 T1 T2 T3 H'/\SX3 T1 T2 T3 H H':=by
 obtain⟨D,z⟩:=h.r.at;exact⟨⟨TbS.sameX z ne.b g h.m,TbS.sameX z ne.c g h.t,k⟩,λb u _ _ n e=>g b u n e⟩
structure Ask(K:Fg)(H:Hp)(tu wd lm:Addr)(sv:V)(mo:List MdT)(T:Tu)(rv:V)(t:Tree Str):Prop where
 at':TurnAt K H tu wd lm sv mo T
 ok:TurnOk mo T
 bd:TBd T
 l10:mo.length<=10
 tr:TrV K H rv t
 lv:TM.lv t<=40
theorem Ask.mo{K:Fg}{mo:List MdT}{t:Tree Str}(g:Mo K H H')(h:Ask K H tu wd lm sv mo T rv t):Ask K H' tu wd lm sv mo T rv t:=⟨g.turn h.at',h.ok,h.bd,h.l10,h.tr.mono g.t,h.lv⟩
def Gf(K:Fg)(C T1 T2 T3:Addr):Sp:=λvs H Q E=>∃(tu wd lm:Addr)(sv:V)(mo:List MdT)(T:Tu)(v:V)(u:Tm)(rv:V)(t:Tree Str),vs=[.ref tu,v,rv]/\Ask K H tu wd lm sv mo T rv t/\TmV K H v u/\lv u<=8/\sz u<=100/\St T (u,upT t)/\Tb3 T1 T2 T3 H/\
 (valT opM 0 T u (upT t)<=400/\valT opT 0 T u (upT t)<=60->∀(v':V)(H':Hp),SX3 T1 T2 T3 H H'->Tb3 T1 T2 T3 H'->TrV K H' v' (valT opR (.node (S []) 0 []) T u (upT t))->Q v' H')/\
 (¬(valT opM 0 T u (upT t)<=400/\valT opT 0 T u (upT t)<=60)->∀H':Hp,SX3 T1 T2 T3 H H'->Tb3 T1 T2 T3 H'->E (.ref C) none H')
section
variable{K:Fg}
theorem Te:FnScope ["put","mark","parts"] ["put","mark","parts"] (Zb eR):=(1:)
theorem LM(G:Gm mg)(RP:Fn P w K mg base 1 "mark_put" ["term","mark"] (Oi K)):Vo P w K mg base 2 eR (Mz K (RT K) opR):=by
 refine XT Te (13:) (λqual pm c ab us h=>?_) (λqual f c A outer s H vs Q E hr h=>?_)
 .obtain⟨v,u,mk,M,ys,xs,rfl,_⟩:=h
  rfl
 .obtain⟨a,b,d,rfl⟩:=Pp h
  rfl
 .obtain⟨v,u,mk,M,ys,xs,rfl,U,hc,hl,hx,ac,q⟩:=h;refine⟨_,(QE (Qa (Qg Qk (pv 0) Qd (2:)) (Qa (Qr RP hr (Qa (pv 0) (Qa (pv 1) Qc))) (Qa (QK Ze rfl G.tup eP (Qa (pv 2) Qc)) Qc)))),?_⟩;rcases ZC U with⟨a,m,b,rfl,rfl,h1⟩ | ⟨a,b,bs,nm,k,z,rfl,Y,h1,h2,h3,h4⟩
  .cases hc
  have D:=Mg hx;refine⟨_,rfl,a,_,1,_,rfl,rfl,h1,rfl,_,rfl,_,rfl,.ref a,nm,k,z,mk,u.bs,rfl,Y ▸ U,?_⟩;refine⟨_,rfl,M,_,rfl,.inl ⟨SqL.of hl,λp hp=>?_⟩⟩;have Z:=Qf hp (.tup ys);refine⟨(by show 3<=sizeLine;decide),λp2 aa=>?_⟩;have F:=Qf aa (.tup [.str nm,.int (if k=true then z+mk else z),.ref p]);refine q _ _ (Z.trans F) ?_;have J:lab u=.put nm k z:=by rw [Y];rfl
  rw [J];exact TrV.mk (SqT.of Qb) (F.seqT (SqT.of Qb)) (D.mono λ_ _ h=>F.seqT (Z.seqT h)) (by rw [D.length];lia)
theorem Sg:FnScope ["turning","term","tree"] ["turning","term","tree"] (defScope ZF):=(1:)
theorem Py{c C T1 T2 T3:Addr}{newId Bn inN:String}{bmN:List Value}{tk1 tk2:Tok}(F:Fun K "turned_by" "turned_by" ZF f fd)(hn:PySem.W.nsIn K mainGlobals "turned_by"=some (some (.ref f)))(hT:PySem.W.tabIn K "turned_by"=some (c,T3))(hC:PySem.W.codeHdIn K c T3=true)(hB:BtAt mg base)
 (h4:mg "MOST_NAMES"=some (.int 400 tk1)) (h6:mg "MOST_LEVELS"=some (.int 60 tk2)) (hm:mg "TooGreat"=some (.ref C)) (hq:PySem.W.excIn K C WZ newId=true) (Fn':ExcBaseFacts Bn newId inN bmN) (hBn:WZ.contains (.type Bn)=true) (ne:Ne3 T1 T2 T3)
 (RM:Fn P w K mg base 55 "many_by" ["turning","term","tree"] (Wx K T1 eM qM opM)) (RT':Fn P w K mg base 55 "tall_by" ["turning","term","tree"] (Wx K T2 eT qT opT)) (RO:Fn P w K mg base 54 "outcome" ["turning","term","tree","make"] (Je K eR (RT K) opR (.node (S []) 0 []))):
 FnOk P w K mg base (CX1 P w) 56 f fd ["turning","term","tree"] (Gf K C T1 T2 T3):=by
 refine Fun.okXC F hn hT Sg (13:) (λA outer s H vs Q E U h=>?_)
 .obtain⟨tu,wd,lm,sv,mo,T,v,u,rv,t,rfl,_⟩:=h
  rfl
 obtain⟨tu,wd,lm,sv,mo,T,v,u,rv,t,rfl,hA,hv,Y,Z,aa,ab,q1,q2⟩:=h;refine⟨_,(Qe (QP (Qx Xa (Qr RM U (Qa (pv 0) (Qa (pv 1) (Qa (pv 2) Qc)))) (UN (v:=.int 400) rfl h4 ⟨_,rfl⟩) (Qy _)) (Qh (Jm (by exact U.hd) hm hq Fn' hBn (Qa (WC Zi (Gw (UN (v:=.int 400) rfl h4 ⟨_,rfl⟩)) Zi) Qc))) Qw)
  (Qe (QP (Qx Xa (Qr RT' U (Qa (pv 0) (Qa (pv 1) (Qa (pv 2) Qc)))) (UN (v:=.int 60) rfl h6 ⟨_,rfl⟩) (Qy _)) (Qh (Jm (by exact U.hd) hm hq Fn' hBn (Qa (WC Zi (Gw (UN (v:=.int 60) rfl h6 ⟨_,rfl⟩)) Zi) Qc))) Qw)
  (Qh (Qp (Qr RO U (Qa (pv 0) (Qa (pv 1) (Qa (pv 2) (Qa (Vw (c:=c) (T:=T3) rfl hC hB) Qc))))))))),?_⟩
 try dsimp only [QC,Cx.nox]
 refine L2.let2 ?_
 intros
 refine⟨_,rfl,_,rfl,_,rfl,tu,wd,lm,sv,mo,T,v,u,rv,t,rfl,hA.at',hA.ok,hA.bd,hA.l10,hv,Y,Z,hA.tr,hA.lv,aa,ab.m,λH1 g1 k1=>?_⟩;obtain⟨J,x1⟩:=ab.byM ne g1 k1;have m1:Mo K H H1:=ab.mo x1;refine⟨_,_,rfl,rfl,_,rfl,Z6 (λc=>?_) (λc=>?_)⟩
 .have c':((valT opM 0 T u (upT t):Nat):Int)>400:=cJ c;exact⟨_,rfl,by decide+kernel,400,rfl,by decide+kernel,_,rfl,by decide+kernel,_,rfl,by decide+kernel,(by show 1<=sizeLine;decide),q2 (λz=>by lia) H1 x1 J⟩
 have c':¬((valT opM 0 T u (upT t):Nat):Int)>400:=λz=>c (bW z);have D:=hA.mo m1;refine⟨_,rfl,_,rfl,_,rfl,tu,wd,lm,sv,mo,T,v,u,rv,t,rfl,D.at',D.ok,D.bd,D.l10,hv.mono m1.t,Y,Z,D.tr,D.lv,aa,J.t,λH2 g2 k2=>?_⟩;obtain⟨M,x2⟩:=J.byT ne g2 k2;have m2:Mo K H1 H2:=J.mo x2;have ac:=D.mo m2;refine⟨_,_,rfl,rfl,_,rfl,Z6 (λd=>?_) (λd=>?_)⟩
 .have d':((valT opT 0 T u (upT t):Nat):Int)>60:=cJ d;exact⟨_,rfl,by decide+kernel,60,rfl,by decide+kernel,_,rfl,by decide+kernel,_,rfl,by decide+kernel,(by show 1<=sizeLine;decide),q2 (λz=>by lia) H2 (x1.trans x2) M⟩
 have d':¬((valT opT 0 T u (upT t):Nat):Int)>60:=λz=>d (bW z);refine⟨_,rfl,_,rfl,_,rfl,M.r,λfm H3 g3 _ hL k3=>?_⟩;obtain⟨ad,x3⟩:=M.byR ne g3 k3;have m3:Mo K H2 H3:=M.mo x3;have G:=ac.mo m3;exact⟨tu,wd,lm,sv,mo,T,v,u,rv,t,fm,rfl,G.at',G.ok,G.bd,G.l10,((hv.mono m1.t).mono m2.t).mono m3.t,Y,Z,G.tr,G.lv,aa,hL,λv' H4 g4 ae=>q1 ⟨by lia,by lia⟩ v' H4 (x1.trans (x2.trans (x3.trans (SX3.of g4)))) (ad.same g4) ae⟩
end
def GB(K:Fg)(C:Addr):Sp:=λvs H Q E=>∃(w:Addr)(kind:Str)(v:V)(t:Tree Str)(ks:List KdT),vs=[.ref w,.str kind,v]/\WoodAt K H w ks/\WoodOk ks/\TrV K H v t/\lv t<=40/\(reprText kind).length<=1000/\
 (isT (QX ks) t kind=true->∀H':Hp,Same H H'->Q .non H')/\(isT (QX ks) t kind=false->∀H':Hp,Same H H'->E (.ref C) none H')
def NH(K:Fg)(C:Addr):Sp:=λvs H Q E=>∃(w:Addr)(v:V)(t:Tree Str)(ks:List KdT)(k0:KdT),vs=[.ref w,v]/\WoodAt K H w ks/\WoodOk ks/\ks[0]?=some k0/\TrV K H v t/\lv t<=40/\(reprText k0.2.1).length<=1000/\
 (isT (QX ks) t k0.2.1=true->∀H':Hp,Same H H'->Q .non H')/\(isT (QX ks) t k0.2.1=false->∀H':Hp,Same H H'->E (.ref C) none H')
abbrev LL(T:Tu)(u:Tm)(t:Tree Str):Prop:=valT opM 0 T u (upT t)<=400/\valT opT 0 T u (upT t)<=60
abbrev Yp(T:Tu)(u:Tm)(t:Tree Str):Tree Str:=valT opR (.node (S []) 0 []) T u (upT t)
def Pw(K:Fg)(CN CG T1 T2 T3:Addr):Sp:=λvs H Q E=>∃(tu wd lm:Addr)(sv:V)(mo:List MdT)(T:Tu)(rv:V)(t:Tree Str),vs=[.ref tu,rv]/\Ask K H tu wd lm sv mo T rv t/\lv T.start<=8/\sz T.start<=100/\(reprText T.k0).length<=1000/\Tb3 T1 T2 T3 H/\
 (isT (QX T.ks) t T.k0=false->∀H':Hp,SX3 T1 T2 T3 H H'->Tb3 T1 T2 T3 H'->E (.ref CN) none H')/\
 (isT (QX T.ks) t T.k0=true->LL T T.start t->∀(v':V)(H':Hp),SX3 T1 T2 T3 H H'->Tb3 T1 T2 T3 H'->TrV K H' v' (Yp T T.start t)->Q v' H')/\
 (isT (QX T.ks) t T.k0=true->¬LL T T.start t->∀H':Hp,SX3 T1 T2 T3 H H'->Tb3 T1 T2 T3 H'->E (.ref CG) none H')
def XC(K:Fg)(CN CG T1 T2 T3:Addr):Sp:=λvs H Q E=>∃(tu wd lm:Addr)(sv:V)(mo:List MdT)(T:Tu)(rv:V)(t:Tree Str)(m:Nat)(md:MdT),vs=[.ref tu,.int (m:Int),rv]/\Ask K H tu wd lm sv mo T rv t/\mo[m]?=some md/\(reprText md.2.1).length<=1000/\Tb3 T1 T2 T3 H/\
 (isT (QX T.ks) t md.2.1=false->∀H':Hp,SX3 T1 T2 T3 H H'->Tb3 T1 T2 T3 H'->E (.ref CN) none H')/\
 (isT (QX T.ks) t md.2.1=true->LL T (ZH (m:Int) 0) t->∀(v':V)(H':Hp),SX3 T1 T2 T3 H H'->Tb3 T1 T2 T3 H'->TrV K H' v' (Yp T (ZH (m:Int) 0) t)->Q v' H')/\
 (isT (QX T.ks) t md.2.1=true->¬LL T (ZH (m:Int) 0) t->∀H':Hp,SX3 T1 T2 T3 H H'->Tb3 T1 T2 T3 H'->E (.ref CG) none H')
section
variable{K:Fg}
theorem Pr(F:Fun K "need_of" "need_of" Y6 f fd)(hm:mg "NoTree"=some (.ref C))(hq:PySem.W.excIn K C WZ newId=true)(Fn':ExcBaseFacts Bn newId inN bmN)(hBn:WZ.contains (.type Bn)=true)(RI:Fn P w K mg base 42 "is_of" ["wood","kind","tree"] (Z7 K 40)):FnOk P w K mg base (CX1 P w) 43 f fd ["wood","kind","tree"] (GB K C):=by
 refine Fun.okX F WQ (λY H Q E h=>?_) (λaa A outer s H Y Q E D h=>?_)
 .obtain⟨w,z,v,t,ks,rfl,_⟩:=h
  rfl
 obtain⟨wd,z,v,t,ks,rfl,Z,hO,ht,G,J,q1,q2⟩:=h;refine⟨_,(Qh (QP (Zq (Q7 (Qr RI D (Qa (pv 0) (Qa (pv 1) (Qa (pv 2) Qc)))))) (Qh (Jm (by exact D.hd) hm hq Fn' hBn (Qa (Mi Zi (OD (pv 1))) Qc))) Qw)),?_⟩
 try dsimp only [QC,Cx.nox]
 refine⟨_,rfl,_,rfl,_,rfl,wd,z,v,t,ks,rfl,Z,hO,ht,G,λH1 M=>⟨_,rfl,?_⟩⟩;cases U:isT (QX ks) t z with
 | true=>exact Zf (q1 U H1 M)
 | false=>exact Zd ⟨_,rfl,by decide+kernel,_,rfl,z,rfl,Zg (7:),_,rfl,J,(by show 1<=sizeLine;decide),q2 U H1 M⟩
theorem Rr(F:Fun K "need_in" "need_in" Y0 f fd)(RN:FnX P w K mg base 43 "need_of" ["wood","kind","tree"] (GB K C)):FnOk P w K mg base (CX1 P w) 44 f fd ["wood","tree"] (NH K C):=by
 refine Fun.okX F W0 (λY H Q E h=>?_) (λaa A outer s H Y Q E Z h=>?_)
 .obtain⟨w,v,t,ks,z,rfl,_⟩:=h
  rfl
 obtain⟨wd,v,t,ks,z,rfl,G,hO,D,ht,J,M,q1,q2⟩:=h;refine⟨_,(Qh (QS (Yx (EE:=λ_=>E) RN Z (WN λ_ _ h=>h) (Qa (pv 0) (Qa (Qg Qk (Qg Ql (pv 0) Qd (2:)) Qd (2:)) (Qa (pv 1) Qc)))))),?_⟩
 try dsimp only [QC,Cx.nox]
 have U:atI (ks.map λk=>V.ref k.1) 0=some (.ref z.1):=Qs (j:=0) (by rw [aI,D];rfl);exact⟨_,rfl,_,rfl,wd,_,0,_,rfl,rfl,G.1,U,z.1,_,0,_,rfl,rfl,(G.2 z (aN D)).1,rfl,_,rfl,wd,z.2.1,v,t,ks,rfl,G,hO,ht,J,M,q1,q2⟩
theorem S6:FnScope ["turning","tree"] ["turning","tree"] (defScope UL):=(1:)
theorem Pu:FnScope ["turning","mode","tree"] ["turning","mode","tree"] (defScope YI):=(1:)
theorem SI(F:Fun K "turned" "turned" UL f fd)(RN:FnX P w K mg base 44 "need_in" ["wood","tree"] (NH K CN))(RB:FnX P w K mg base 56 "turned_by" ["turning","term","tree"] (Gf K CG T1 T2 T3)):FnOk P w K mg base (CX1 P w) 57 f fd ["turning","tree"] (Pw K CN CG T1 T2 T3):=by
 refine Fun.okX F S6 (13:) (λaf A outer s H vs Q E hr h=>?_)
 .obtain⟨M,wd,lm,Z,mo,T,rv,t,rfl,_⟩:=h
  rfl
 obtain⟨M,wd,lm,Z,mo,T,rv,t,rfl,hA,aa,ab,ac,U,q1,q2,q3⟩:=h;refine⟨_,(Qe (QS (Yx (EE:=λ_=>E) RN hr (WN λ_ _ h=>h) (Qa (Qg Qk (pv 0) Qd (2:)) (Qa (pv 1) Qc))))
  (Qh (Qp (Yx (EE:=λ_=>E) RB hr (WN λ_ _ h=>h) (Qa (pv 0) (Qa (Qg Qk (pv 0) Qd (2:)) (Qa (pv 1) Qc))))))),?_⟩
 try dsimp only [QC,Cx.nox]
 refine L2.let1 ?_
 intros
 obtain⟨k0,ad,G⟩:=hA.ok.k0;refine⟨_,rfl,M,_,0,_,rfl,rfl,hA.at'.tu,rfl,_,rfl,wd,rv,t,T.ks,k0,rfl,hA.at'.w,hA.ok.wo,ad,hA.tr,hA.lv,by rw [G];exact ac,λz H1 D=>?_,λz H1 D=>q1 (by rw [<-G];exact z) H1 (SX3.of D) (U.same D)⟩;rw [G]at z;have Y:=hA.mo (Mo.of D);refine⟨_,rfl,_,rfl,M,_,1,_,rfl,rfl,D.seqT hA.at'.tu,rfl,_,rfl,M,wd,lm,Z,mo,T,Z,T.start,rv,t,rfl,Y,Y.at'.s,aa,ab,St.start hA.ok.ok z,U.same D,λhf v' H2 g2 J ae=>q2 z hf v' H2 ((SX3.of D).trans g2) J ae,λhf H2 g2 J=>q3 z hf H2 ((SX3.of D).trans g2) J⟩
theorem Oj(F:Fun K "turned_in" "turned_in" YI f fd)(RN:FnX P w K mg base 43 "need_of" ["wood","kind","tree"] (GB K CN))(RB:FnX P w K mg base 56 "turned_by" ["turning","term","tree"] (Gf K CG T1 T2 T3)):FnOk P w K mg base (CX1 P w) 57 f fd ["turning","mode","tree"] (XC K CN CG T1 T2 T3):=by
 refine Fun.okX F Pu (13:) (λah A outer s H vs Q E hr h=>?_)
 .obtain⟨J,wd,Z,sv,mo,T,rv,t,m,md,rfl,_⟩:=h
  rfl
 obtain⟨J,wd,Z,sv,mo,T,rv,t,m,md,rfl,hA,D,aa,Y,q1,q2,q3⟩:=h;refine⟨_,(Qe (QS (Yx (EE:=λ_=>E) RN hr (WN λ_ _ h=>h) (Qa (Qg Qk (pv 0) Qd (2:)) (Qa (Qg Qk (Qg Ql (Qg Qk (pv 0) Qd (2:)) (pv 1) (2:)) Qd (2:)) (Qa (pv 2) Qc)))))
  (Qh (Qp (Yx (EE:=λ_=>E) RB hr (WN λ_ _ h=>h) (Qa (pv 0) (Qa ((QE (Qa (Zi) (Qa (pv 1) (Qa (Qd) Qc))))) (Qa (pv 2) Qc))))))),?_⟩
 try dsimp only [QC,Cx.nox]
 refine L2.let1 ?_
 intros
 have ab:=aN D;have ac:atI (mo.map λm=>V.ref m.1) (m:Int)=some (.ref md.1):=Qs (by rw [aI,D];rfl);have ad:T.ms[m]?=some md.md:=by rw [<-hA.ok.me,aI,D];rfl
 refine⟨_,rfl,J,_,0,_,rfl,rfl,hA.at'.tu,rfl,_,rfl,J,_,2,_,rfl,rfl,hA.at'.tu,rfl,_,rfl,Z,_,_,_,rfl,rfl,hA.at'.m.1,ac,md.1,_,0,_,rfl,rfl,(hA.at'.m.2 md ab).1,rfl,_,rfl,wd,md.2.1,rv,t,T.ks,rfl,hA.at'.w,hA.ok.wo,hA.tr,hA.lv,aa,λz H1 M=>?_,λz H1 M=>q1 z H1 (SX3.of M) (Y.same M)⟩;refine⟨_,rfl,_,rfl,(by show 3<=sizeLine;decide),λp hp=>⟨_,rfl,?_⟩⟩;have k1:=Qf hp (.tup [.str YT,.int (m:Int),.int 0]);have U:=M.trans k1;have ae:TmV K (upd H1 p (.tup [.str YT,.int (m:Int),.int 0])) (.ref p) (ZH (m:Int) 0):=.call (SqT.of Qb);have af:St T (ZH (m:Int) 0,upT t):=St.mode (7:) (by rw [bF];exact ad) z;exact⟨J,wd,Z,sv,mo,T,.ref p,ZH (m:Int) 0,rv,t,rfl,hA.mo (Mo.of U),ae,by simp [ZH,TM.lv,lvs],by simp [ZH,TM.sz,szs],af,Y.same U,λhf v' H3 g3 G ag=>q2 z hf v' H3 ((SX3.of U).trans g3) G ag,λhf H3 g3 G=>q3 z hf H3 ((SX3.of U).trans g3) G⟩
end
def RP(K:Fg)(H:Hp)(v:V)(a:Nat×Nat):Prop:=∃p,v=.ref p/\SqT K H p [.int (a.1:Int),.int (a.2:Int)]
theorem Wn{K:Fg}:Rep K (RP K):=λ_ _ _ _ k ⟨p,e,h⟩=>⟨p,e,k _ _ h⟩
def opP(_:Lab)(_:Int)(xs:List (Nat×Nat)):Nat×Nat:=(1+(xs.map (·.1)).sum,1+(xs.map (·.2)).foldl max 0)
mutual
theorem J8{mk:Int}{cv:Int->Int->Nat×Nat}:∀u:Tm,QD (λl xs=>opP l mk xs) cv u=(QD (λl xs=>opM l mk xs) (λm b=>(cv m b).1) u,QD (λl xs=>opT l mk xs) (λm b=>(cv m b).2) u)
 | .node (.call m b) _ _=>by simp only [QD]
 | .node (.put n k a) _ bs=>by
  simp only [QD];obtain⟨h1,h2⟩:=Ja (mk:=mk) (cv:=cv) bs;show(1+((QG (λl xs=>opP l mk xs) cv bs).map (·.1)).sum,1+((QG (λl xs=>opP l mk xs) cv bs).map (·.2)).foldl max 0)=_;rw [h1,h2]
  rfl
theorem Ja{mk:Int}{cv:Int->Int->Nat×Nat}:∀us:List Tm,(QG (λl xs=>opP l mk xs) cv us).map (·.1)=QG (λl xs=>opM l mk xs) (λm b=>(cv m b).1) us/\(QG (λl xs=>opP l mk xs) cv us).map (·.2)=QG (λl xs=>opT l mk xs) (λm b=>(cv m b).2) us
 | []=>⟨rfl,rfl⟩
 | t::r=>by
  obtain⟨h1,h2⟩:=Ja (mk:=mk) (cv:=cv) r;simp only [QG,aS];rw [h1,h2,J8 t];exact⟨rfl,rfl⟩
end
mutual
theorem Jl{ks:List KdT}{ms:List Md}:∀(t:Tree Str)(m:Int),QV opP (0,0) ks ms t m=(QV opM 0 ks ms t m,QV opT 0 ks ms t m)
 | .node n mk bs,m=>by
  simp only [QV];cases ms[m.toNat]? with
  | none=>rfl
  | some md=>
   simp only;cases ruleK ks md n with
   | none=>rfl
   | some u=>
    simp only;rw [J8];have h:=Xe (ks:=ks) (ms:=ms) bs;simp only [h]
theorem Xe{ks:List KdT}{ms:List Md}:∀(ts:List (Tree Str))(i:Nat)(m:Int),((Yv opP (0,0) ks ms ts)[i]?).elim (0,0) (λg=>g m)=(((Yv opM 0 ks ms ts)[i]?).elim 0 (λg=>g m),((Yv opT 0 ks ms ts)[i]?).elim 0 (λg=>g m))
 | [],i,m=>by simp [Yv]
 | t::r,0,m=>by
  simp only [Yv,List.getElem?_cons_zero,Option.elim_some];exact Jl t m
 | t::r,i+1,m=>by
  simp only [Yv,List.getElem?_cons_succ];exact Xe r i m
end
def YY(K:Fg)(n:Nat):Sp:=λvs H Q _=>∃(v:V)(u:Tm)(lb:Addr)(ds:List Addr)(cv:Int->Int->Nat×Nat),vs=[v,.ref lb]/\TmV K H v u/\lv u<=n/\SqL K H lb (ds.map V.ref)/\BelAt (RP K) H ds cv (cls u)/\
 ∀(v':V)(H':Hp),Same H H'->RP K H' v' (QD (λl xs=>opP l 0 xs) cv u)->Q v' H'
abbrev R8:List Str:=["_law_term_here","_law_below","_law_total","_law_deep","_law_part","_law_one","_law_other"]
theorem UU(xs:List Nat)(x:Nat):(xs++[x]).foldl max 0=max (xs.foldl max 0) x:=by rw [List.foldl_append];rfl
section
variable{K:Fg}
theorem Yt:FnScope R8 ["_law_term_here","_law_below"] (defScope W1):=(1:)
theorem Oc(F:Fun K "_law_measure" "_law_measure" W1 f fd)(G:Gm mg)(R:Fn P w K mg base (n+1) "_law_measure" ["_law_term_here","_law_below"] (YY K n)):FnOk P w K mg base CX0 (n+2) f fd ["_law_term_here","_law_below"] (YY K (n+1)):=by
 refine F.ok Yt (13:) (λai A outer s H vs Q E Y h=>?_)
 .obtain⟨v,u,lb,ds,z,rfl,_⟩:=h
  rfl
 obtain⟨v,u,lb,ds,z,rfl,ht,ab,U,Z,q⟩:=h;refine⟨_,(Qe (QP (Qx Yj (Qg Qk (pv 0) Qd (2:)) Zi (Qy _)) (Qh (Qp (Zh (Zp Y) (Qg Ql (pv 1) (Qg Qk (pv 0) Qd (2:)) (2:)) (Qg Qk (pv 0) Qd (2:)) (2:)))) Qw)
  (Qe (Qm (i:=2) Yt.nd rfl (5:) Qd)
  (Qe (Qm (i:=3) Yt.nd rfl (5:) Qd)
  (Qe (QO a' rfl (Yg (Qg Qk (pv 0) Qd (2:))) (Qt (i:=4) Yt.nd rfl (5:)) (Qe (YQ (Qr R Y (Qa (pv 4) (Qa (pv 1) Qc)) (4:)) (Yu rfl (QR (Qt (i:=5) Yt.nd rfl (5:)) (QR (Qt (i:=6) Yt.nd rfl (5:)) ZN))))
  (Qe (Qm (i:=2) Yt.nd rfl (5:) (Qo QI (pv 2) (pv 5)))
  (Qh (Qm (i:=3) Yt.nd rfl (5:) (Qq (Xb (by exact Y.hd)) rfl G.max PyProof.Rows.boot_max (Qa (pv 3) (Qa (pv 6) Qc))))))))
  (Qh (Qp (QE (Qa (pv 2) (Qa (Qo QI (pv 3) Qd) Qc))))))))),?_⟩
 try dsimp only [QC,Cx.nox]
 refine L2.let4 ?_
 intros
 rcases ZC ht with⟨a,m,b,rfl,rfl,h1⟩ | ⟨a,b,bs,nm,k,ad,rfl,M,h1,h2,h3,h4⟩
 .obtain⟨h0,d,kvs,x,e1,e2,e3,e4⟩:=Z (m,b) (by simp [ZH,cls,lcl,Zn]);have em:b=((b.toNat:Nat):Int):=by
   have:(0:Int)<=b:=h0;lia
  refine⟨_,rfl,a,_,0,_,rfl,rfl,h1,rfl,rfl,_,rfl,Wz rfl ?_⟩;refine⟨_,rfl,_,rfl,a,_,2,_,rfl,rfl,h1,rfl,lb,_,b,.ref d,rfl,rfl,U,?_,_,rfl,a,_,1,_,rfl,rfl,h1,rfl,d,x,rfl,.inl ⟨kvs,.inl m,e2,rfl,e3.symm⟩,q x H (Same.refl _) e4⟩;rw [em];exact Qs (by rw [aI,e1];rfl)
 have aa:cls u=Zn u.bs:=by
  have:=congrArg cls M;rw [this];simp [cls,lcl]
 rw [aa]at Z;have ah:=h3.length;rw [Q8]at ab;refine⟨_,rfl,a,_,0,_,rfl,rfl,h1,rfl,rfl,_,rfl,Wt (by show ¬V.str PUT=V.str YT;decide+kernel) ?_⟩;refine⟨_,rfl,a,_,4,_,rfl,rfl,h1,rfl,b,rfl,⟨_,h2⟩,?_⟩;refine let J_:J3:=(λi σ H'=>∃(c4 c5 c6:Option V),σ=[some (.ref a),some (.ref lb),some (.int ((1+(((u.bs.take i).map λt=>(QD (λl xs=>opP l 0 xs) z t).1).sum):Nat):Int)),some (.int (((((u.bs.take i).map λt=>(QD (λl xs=>opP l 0 xs) z t).2).foldl max 0):Nat):Int)),c4,c5,c6]/\Same H H');YB (K:=K) (xs:=bs) J_
  ⟨none,none,none,rfl,Same.refl _⟩ ?_ ?_ ?_
 .rintro i σ H' _ ⟨_,_,_,_,g⟩;exact g.seqT h2
 .rintro i x σ H1 hx ⟨c4,c5,c6,rfl,g⟩;have hi:i<bs.length:=(aK.mp hx).1;obtain⟨c,hc⟩: ∃c,u.bs[i]?=some c:=⟨_,aB (7:)⟩;obtain⟨J,ac,ae⟩:=h3.get hc;obtain rfl:J=x:=aH (ac.symm.trans hx);have hm:=aN hc;have a1:=ZI hm;refine⟨_,rfl,_,rfl,J,c,lb,ds,z,rfl,ae.mono λ_ _=>g.seqT,by lia,g.seq U,(Z.sub λd hd=>Uo hm hd).same Wn g,λv' H2 g2 af=>?_⟩;obtain⟨p,rfl,hp⟩:=af;refine⟨p,_,rfl,hp,rfl,_,_,rfl,_,_,rfl,rfl,_,rfl,_,rfl,_,_,rfl,rfl,_,rfl,_,rfl,_,_,rfl,some J,some (.int (((QD (λl xs=>opP l 0 xs) z c).1:Nat):Int)),some (.int (((QD (λl xs=>opP l 0 xs) z c).2:Nat):Int)),?_,g.trans g2⟩;have M:u.bs.take (i+1)=u.bs.take i++[c]:=by rw [b_,hc];rfl
  rw [M,aR,aR,List.sum_append];have ag:=UU ((u.bs.take i).map λt=>(QD (λl xs=>opP l 0 xs) z t).2) (QD (λl xs=>opP l 0 xs) z c).2;simp only [aS,gq,eZ,List.sum_nil];rw [ag];have e1:∀x y:Nat,(if(y:Int)>(x:Int)then(y:Int)else(x:Int))=((max x y:Nat):Int):=λx y=>by split<;>lia
  rw [<-e1];have e2:∀x y:Nat,((1+(x+(y+0)):Nat):Int)=((1+x:Nat):Int)+(y:Int):=λx y=>by lia
  rw [e2]
  rfl
 .rintro σ H1 ⟨c4,c5,c6,rfl,g⟩;rw [bL (7:)];refine⟨_,rfl,_,rfl,_,_,rfl,rfl,(by show 2<=sizeLine;decide),λp hp=>q _ _ (g.trans (Qf hp _)) ⟨p,rfl,?_⟩⟩;have ev:QD (λl xs=>opP l 0 xs) z u=(1+((u.bs.map λt=>(QD (λl xs=>opP l 0 xs) z t).1).sum),1+((u.bs.map λt=>(QD (λl xs=>opP l 0 xs) z t).2).foldl max 0)):=by
   rw [M];simp only [QD,ZG,opP,bI]
   rfl
  rw [ev];have e2:∀(S D:Nat)(H1:Hp),SqT K (upd H1 p (.tup [.int ((1+S:Nat):Int),.int ((D:Int)+1)])) p [.int ((1+S:Nat):Int),.int ((1+D:Nat):Int)]:=λS D H1=>by rw [show((1+D:Nat):Int)=(D:Int)+1 by lia];exact SqT.of Qb
  exact e2 _ _ _
theorem Lz{k:Nat}:FnOk P w K mg base CX0 k f fd ["_law_term_here","_law_below"] (YY K 0):=by
 have no:∀z H Q E,¬YY K 0 z H Q E:=λz H Q E h=>by
  obtain⟨v,u,lb,ds,G,_,_,D,_⟩:=h;rw [Q8]at D;lia
 exact⟨λz H Q E h=>absurd h (no z H Q E),λA outer s H F J z Q E _ _ _ _ h=>absurd h (no z H Q E)⟩
theorem Wy(F:Fun K "_law_measure" "_law_measure" W1 f fd)(G:Gm mg)(hb:Binds K fd ["_law_term_here","_law_below"] [])(hm:mg "_law_measure"=some (.ref f)):∀n:Nat,FnOk P w K mg base CX0 (n+1) f fd ["_law_term_here","_law_below"] (YY K n)
 | 0=>Lz
 | n+1=>Oc F G ⟨f,fd,Wy F G hb hm n,hb,F.kp,hm⟩
end
structure Trk(K:Fg)(H:Hp)(ln lt:Addr)(ks:List KdT)(ns:List Nd)(us:List V)(ts:List (Tree Str)):Prop where
 n:NdsAt K H ln ns
 t:SqL K H lt us
 a:TrAll K H us ts
 len:ts.length=ns.length
 ok:∀(i:Nat) n t,ns[i]?=some n->ts[i]?=some t->isT (QX ks) t n.kd=true/\lv t<=40/\KidT ks (sg ns) i ts 0 n t
theorem Trk.mono{K:Fg}{lt:Addr}{us:List V}(g:Mo K H H')(h:Trk K H ln lt ks ns us ts):Trk K H' ln lt ks ns us ts:=⟨⟨g.l _ _ h.n.l,λi n e=>g.l _ _ (h.n.a i n e),λi n e=>g.l _ _ (h.n.c i n e)⟩,g.l _ _ h.t,h.a.mono g.t,h.len,h.ok⟩
def Fil(K:Fg)(H:Hp)(T:Tu)(kvs:List (Key×V))(kd:Str)(t:Tree Str)(b:Nat):Prop:=∀(m:Nat) md,m<b->T.ms[m]?=some md->md.1=kd->∃v,valV kvs (Sum.inl (m:Int):Key)=some v/\RP K H v (QV opP (0,0) T.ks T.ms t (m:Int))
theorem Fil.mono{K:Fg}{t:Tree Str}{b:Nat}(g:Mo K H H')(h:Fil K H T kvs kd t b):Fil K H' T kvs kd t b:=λm md z e1 e2=>by
 obtain⟨v,h1,h2⟩:=h m md z e1 e2;exact⟨v,h1,Wn _ _ _ _ g.t h2⟩
abbrev EsL:=List (Addr×List (Key×V))
structure Tbs(H0 H:Hp)(ld:Addr)(es:EsL):Prop where
 l:H ld=some (.lst (es.map λe=>V.ref e.1))
 inj:∀(i j:Nat) a b,es[i]?=some a->es[j]?=some b->a.1=b.1->i=j
 fr:∀(i:Nat) e,es[i]?=some e->H0 e.1=none
 at':∀(i:Nat) e,es[i]?=some e->H e.1=some (.dK e.2)
theorem Tbs.same{es:EsL}(g:Same H H')(h:Tbs H0 H l es):Tbs H0 H' l es:=⟨g _ _ h.l,h.inj,h.fr,λi e z=>g _ _ (h.at' i e z)⟩
theorem Tbs.put{es:EsL}(h:Tbs H0 H l es){e:Addr×List (Key×V)}(he:es[i]?=some e)(kvs:List (Key×V)):Tbs H0 (upd H e.1 (.dK kvs)) l (es.set i (e.1,kvs)):=by
 have hd:=h.at' i e he;have hi:i<es.length:=(aK.mp he).1;have J:(es.set i (e.1,kvs)).map (λe=>V.ref e.1)=es.map λe=>V.ref e.1:=by
  apply List.ext_getElem?;intro j;rw [aI,aI,cC]
  by_cases z:i=j
  .subst z;rw [aE rfl,aE hi,he];rfl
  .rw [aF z]
 refine⟨?_,λa b x y D M z=>?_,λj x D=>?_,λj x D=>?_⟩
 .rw [J,Qi (QM h.l hd (23:))];exact h.l
 .rcases ZE D with⟨rfl,rfl⟩ | ⟨_,F⟩<;>rcases ZE M with⟨rfl,rfl⟩ | ⟨_,G⟩
  .rfl
  .exact h.inj _ _ _ _ he G z
  .exact h.inj _ _ _ _ F he z
  .exact h.inj _ _ _ _ F G z
 .rcases ZE D with⟨rfl,rfl⟩ | ⟨_,D⟩
  .exact h.fr _ e he
  .exact h.fr _ _ D
 .rcases ZE D with⟨rfl,rfl⟩ | ⟨U,D⟩
  .exact Qb
  .rw [Qi (λz=>U (h.inj _ _ _ _ D he z))];exact h.at' _ _ D
theorem LP(kvs:List (Key×V))(k:Key)(v:V):(putK kvs k v).length<=kvs.length+1:=by
 unfold putK;split
 .rw [aC];lia
 .simp
structure Whl(K:Fg)(H:Hp)(T:Tu)(es:EsL)(ns:List Nd)(ts:List (Tree Str))(k:Nat):Prop where
 len:es.length=ns.length
 lo:∀(j:Nat) e,j<k->es[j]?=some e->e.2=[]
 hi:∀(j:Nat) e n t,k<=j->es[j]?=some e->ns[j]?=some n->ts[j]?=some t->Fil K H T e.2 n.kd t T.ms.length
theorem Vt{K:Fg}{H H0:Hp}{T:Tu}(ok:TuOk T){ns:List Nd}{ts:List (Tree Str)}{es:EsL}{l:Addr}{k:Nat}{n:Nd}{t:Tree Str}{m:Nat}{md:Md}(hB:Tbs H0 H l es)(hlen:es.length=ns.length)(htl:ts.length=ns.length)(hi:∀(j:Nat) e n t,k<j->es[j]?=some e->ns[j]?=some n->ts[j]?=some t->Fil K H T e.2 n.kd t T.ms.length)(his:isT (QX T.ks) t n.kd=true)(hK:KidT T.ks (sg ns) k ts 0 n t)(hm:T.ms[m]?=some md)(ek:md.1=n.kd):
 ∃u,ruleK T.ks md (nmT t)=some u/\u∈md.2/\BelAt (RP K) H (n.ch.map λc=>(es[c]?).elim 0 (·.1)) (cvT opP (0,0) T t) (cls u):=by
 obtain⟨ao,af,U,Y,ah⟩:=hK;have ap:U.length=t.bs.length:=by
  obtain⟨aq,Z,z2,_⟩:=JG his;rw [Y]at Z;cases Z;exact z2
 rw [<-ek]at Y;obtain⟨u,h1,h2,h3⟩:=Um ok (aN hm) Y;refine⟨u,h1,h3,λc hc=>?_⟩;have hf:YV (mks T.ms) U c=true:=by
  unfold Ys at h2;exact dX.mp h2 c hc
 obtain⟨M,b⟩:=c;obtain⟨m0,m1,b0,b1,e⟩:=YH hf;refine⟨b0,?_⟩;have aa:U[b.toNat]?=some U[b.toNat]:=aB (7:);generalize U[b.toNat]'(7:)=s at aa;rw [aa]at e;obtain⟨F,ab,ai⟩: ∃F,T.ms[M.toNat]?=some F/\F.1=s:=by
  unfold mks at e;rw [aI]at e;cases h:T.ms[M.toNat]? with
  | none=>rw [h]at e;cases e
  | some x=>rw [h]at e;exact⟨x,rfl,aH e⟩
 have ag:b.toNat<n.ch.length:=by lia
 have G:n.ch[b.toNat]?=some n.ch[b.toNat]:=aB ag;generalize n.ch[b.toNat]=z at G;obtain⟨kk,ll,D,aj⟩:=ah _ _ G;have ac:t.bs[b.toNat]?=some t.bs[b.toNat]:=aB (7:);generalize t.bs[b.toNat]'(7:)=bt at ac;obtain⟨ak,ad⟩:=af _ _ _ ac G;rw [Nat.sub_zero]at ad;obtain⟨n',ae,al⟩: ∃n',ns[z]?=some n'/\n'.kd=kk:=by
  rw [aI]at D;cases h:ns[z]? with
  | none=>rw [h]at D;cases D
  | some x=>rw [h]at D;cases D;exact⟨x,rfl,rfl⟩
 have am:z<es.length:=by rw [hlen];exact(aK.mp ae).1
 have J:es[z]?=some es[z]:=aB am;generalize es[z]=ec at J;have an:s=kk:=aH (aa.symm.trans aj);obtain⟨v,Z,z2⟩:=hi z ec n' bt ak J ae ad M.toNat F (aK.mp ab).1 ab (by rw [ai,an,al]);have em:((M.toNat:Nat):Int)=M:=by lia
 rw [em]at Z z2;refine⟨ec.1,ec.2,v,?_,.inl (hB.at' _ _ J),Z,?_⟩
 .rw [aI,G];show some ((es[z]?).elim 0 (·.1))=some ec.1;rw [J];rfl
 .show RP K H v ((t.bs[b.toNat]?).elim (0,0) λc=>QV opP (0,0) T.ks T.ms c M);rw [ac];exact z2
def VZ(K:Fg):Sp:=λvs H Q _=>∃(tu wd lm:Addr)(sv:V)(mo:List MdT)(T:Tu)(ln lt:Addr)(ns:List Nd)(us:List V)(ts:List (Tree Str)),vs=[.ref tu,.ref ln,.ref lt]/\TurnAt K H tu wd lm sv mo T/\TurnOk mo T/\TBd T/\mo.length<=10/\Trk K H ln lt T.ks ns us ts/\ns.length<=200/\
 ∀(l:Addr)(H':Hp)(es:EsL),Same H H'->Tbs H H' l es->Whl K H' T es ns ts 0->Q (.ref l) H'
abbrev Sj:List Str:=["_law_turning_here","_law_nodes","_law_trees","_law_tables_here","_law_k","_law_below","_law_mode"]
section
variable{K:Fg}
theorem U1:FnScope Sj ["_law_turning_here","_law_nodes","_law_trees"] (defScope LR):=(1:)
theorem Oe(F:Fun K "_law_tables" "_law_tables" LR f fd)(G:Gm mg)(RM:Fn P w K mg base 9 "_law_measure" ["_law_term_here","_law_below"] (YY K 8))(RL:Fn P w K mg base 1 "_law_rule" ["_law_turning_here","_law_mode","_law_name"] (UP K)):FnOk P w K mg base CX0 10 f fd ["_law_turning_here","_law_nodes","_law_trees"] (VZ K):=by
 refine F.ok U1 (13:) (λcp A outer s H vs Q E hr h=>?_)
 .obtain⟨tu,wd,lm,sv,mo,T,ln,lt,ns,us,ts,rfl,_⟩:=h
  rfl
 obtain⟨tu,wd,lm,sv,mo,T,ln,lt,ns,us,ts,rfl,hT,hO,bv,co,hR,cq,q⟩:=h;refine⟨_,(Qe (Qm (i:=3) U1.nd rfl (bY rfl) (QU (CompG.many (xs:=["_law_node"]) (caps:=[]) (cap:=[]) (cs:=[]) rfl rfl (0:) (0:) (0:) (0:) (0:) (0:) rfl rfl rfl) rfl (Q1 (pv 1)) (Zm (CompG.many (xs:=["_law_node"]) (caps:=[]) (cap:=[]) (cs:=[]) rfl rfl (0:) (0:) (0:) (0:) (0:) (0:) rfl rfl rfl)) (λ_ _ _ _=>Q5) (λ_ _ _ _=>WG)))
  (Qe (QO a' rfl (Np rfl G.rev (Qa (QK JT rfl G.rng PyProof.Rows.boot_range (Qa (Qq Qn rfl G.len aX (Qa (pv 1) Qc)) Qc)) Qc)) (Qt (i:=4) U1.nd rfl (5:)) (Qe (ZA (i:=5) (CompG.many (xs:=["_law_j"]) (caps:=["_law_tables_here"]) (cap:=[3]) (cs:=[_]) rfl rfl (0:) (0:) (0:) (0:) (0:) (0:) rfl rfl rfl) rfl (Q1 (Qg Ql (Qg Ql (pv 1) (pv 4) (2:)) Qd (2:))) (Zm (CompG.many (xs:=["_law_j"]) (caps:=["_law_tables_here"]) (cap:=[3]) (cs:=[_]) rfl rfl (0:) (0:) (0:) (0:) (0:) (0:) rfl rfl rfl)) (λ_ _ _ _=>Q5) (λ_ _ _ _=>Qg (r:=Uj K) Ql (pv 1) (pv 0) (2:)) U1.nd rfl rfl)
  (Qh (QO a' rfl (QN rfl G.rng (Qa (Qq Qn rfl G.len aX (Qa (Qg Qk (pv 0) Qd (2:)) Qc)) Qc)) (Qt (i:=6) U1.nd rfl (5:)) (Qh
   (QP (Qx Yj (Qg Qk (Qg Ql (Qg Qk (pv 0) Qd (2:)) (pv 6) (2:)) Qd (2:)) (Qg Ql (Qg Ql (pv 1) (pv 4) (2:)) Qd (2:)) (Qy _)) (Qh
    (XB (Zp hr) (Qg Ql (pv 3) (pv 4) (2:)) (pv 6) (Qr RM hr (Qa (Qr RL hr (Qa (pv 0) (Qa (pv 6) (Qa (Qg Qk (Qg Ql (pv 2) (pv 4) (2:)) Qd (2:)) Qc)))) (Qa (pv 5) Qc))) rfl)) Qw))))))
  (Qh (Qp (pv 3))))),?_⟩
 try dsimp only [QC,Cx.nox]
 refine L2.let2 ?_
 intros
 have ba:(NR ns).length=ns.length:=aC ..;have aw:(mo.map λm=>V.ref m.1).length=mo.length:=aC ..;have bn:mo.length=T.ms.length:=by rw [<-hO.me];simp [mds]
 refine⟨_,rfl,ln,rfl,⟨_,hR.n.l⟩,λlx bb=>?_⟩;refine ZD (K:=K) (xs:=NR ns) (cs:=[]) (tt:=λ_ H Q=>Q true H) (te:=VA) (λi ys H'=>∃M:List Addr,ys=M.map V.ref/\H' lx=some (.lst ys)/\Same H H'/\M.length=i/\(∀(j:Nat) x,M[j]?=some x->H' x=some (.dK [])/\H x=none)/\∀(i j:Nat) x y,M[i]?=some x->M[j]?=some y->x=y->i=j)
  ⟨[],rfl,Qb,Qf bb _,rfl,λj x h=>by simp at h,λi j x y h=>by simp at h⟩ ?_ ?_ ?_
 .rintro i ys H' _ ⟨_,_,_,g,_⟩;exact g.seq hR.n.l
 .rintro i x ys H' hi D ⟨M,rfl,ao,g,ap,ae,ax⟩;refine Zd λp hp=>?_;have g2:=Qf hp (.dK []);have ay:=g2 _ _ ao;have bw:p≠lx:=λz=>by rw [z,ao]at hp;cases hp
  refine Qz (ys:=M.map V.ref) hi ay (by rw [aC];lia) ⟨M++[p],by simp,Qb,λx u e=>?_,by simp [ap],λj x D=>?_,λi j x y D hy=>?_⟩
  .rw [Qi (Qj e bb)];exact g2 _ _ (g _ _ e)
  .rw [gy]at D;split at D
   .obtain⟨e1,e2⟩:=ae j x D;refine⟨?_,e2⟩;rw [Qi (QM (g2 _ _ e1) ay (23:))];exact g2 _ _ e1
   .have e:x=p:=by
     have:=aN D
     simpa using this
    subst e;exact⟨by rw [Qi bw];exact Qb,g.free hp⟩
  .have key:∀(i:Nat) x,(M++[p])[i]?=some x->(i<M.length/\M[i]?=some x)\/(i=M.length/\x=p):=λi x D=>by
    rw [gy]at D;split at D
    .exact .inl ⟨by assumption,D⟩
    .have e:x=p:=by
      have:=aN D
      simpa using this
     have:=(aK.mp D).1;simp only [bO]at this;exact .inr ⟨by lia,e⟩
   intro z;rcases key i x D with⟨_,D⟩ | ⟨ei,ex⟩<;>rcases key j y hy with⟨_,hy⟩ | ⟨ej,ey⟩
   .exact ax _ _ _ _ D hy z
   .have:=(ae _ _ D).1;rw [z,ey,hp]at this;cases this
   .have:=(ae _ _ hy).1;rw [<-z,ex,hp]at this;cases this
   .lia
 rintro ys H1 ⟨M,rfl,bo,g1,ap,ae,ax⟩;rw [ba]at ap;have key:∀(i:Nat)(e:Addr×List (Key×V)),(M.map λx=>(x,([]:List (Key×V))))[i]?=some e->M[i]?=some e.1/\e.2=[]:=λi e Y=>by
  rw [aI]at Y;cases h:M[i]? with
  | none=>rw [h]at Y;cases Y
  | some x=>rw [h]at Y;cases Y;exact⟨rfl,rfl⟩
 have bx:Tbs H H1 lx (M.map λx=>(x,([]:List (Key×V)))):=⟨by rw [bI];exact bo,λi j x y D hy z=>ax _ _ _ _ (key _ _ D).1 (key _ _ hy).1 z,λi e Y=>(ae _ _ (key _ _ Y).1).2,λi e Y=>by rw [(key _ _ Y).2];exact(ae _ _ (key _ _ Y).1).1⟩;have bc:Whl K H1 T (M.map λx=>(x,([]:List (Key×V)))) ns ts ns.length:=⟨by rw [aC];exact ap,λj e _ Y=>(key _ _ Y).2,λj e n t hj _ hn=>by
  have:=(aK.mp hn).1;lia⟩
 refine⟨_,rfl,ln,_,rfl,.inl (g1.seq hR.n.l),_,rfl,by lia,by lia,λpr bz=>⟨pr,_,rfl,Qb,by lia,by lia,?_⟩⟩;have k2:=Qf bz (.rng 0 (((NR ns).length:Nat):Int));have bd:=bx.same k2;have g2:=g1.trans k2;have be:Whl K (upd H1 pr (.rng 0 (((NR ns).length:Nat):Int))) T (M.map λx=>(x,([]:List (Key×V)))) ns ts ns.length:=⟨bc.len,bc.lo,λj e n t hj _ hn=>by
  have:=(aK.mp hn).1;lia⟩
 generalize upd H1 pr (.rng 0 (((NR ns).length:Nat):Int))=H2 at bd g2 be;rw [ba,bF];refine JH (hi:=((ns.length:Nat):Int)-1) (n:=ns.length) (λi σ H'=>∃(c4 c5 c6:Option V)(es:EsL),σ=[some (.ref tu),some (.ref ln),some (.ref lt),some (.ref lx),c4,c5,c6]/\Same H H'/\Tbs H H' lx es/\Whl K H' T es ns ts (ns.length-i))
  ⟨none,none,none,_,rfl,g2,bd,by rw [Nat.sub_zero];exact be⟩ ?_ ?_
 .rintro i σ H3 hi ⟨c4,c5,c6,es,rfl,g3,aq,Z⟩;obtain⟨k,hk⟩: ∃k,ns.length-i=k+1:=⟨ns.length-i-1,by lia⟩;have ek:((ns.length:Nat):Int)-1-(i:Int)=((k:Nat):Int):=by lia
  rw [ek];rw [hk]at Z;have b0:ns.length-(i+1)=k:=by lia
  rw [b0];have ar:k<ns.length:=by lia
  have hn:ns[k]?=some ns[k]:=aB ar;generalize ns[k]=n at hn;obtain⟨t,ht⟩: ∃t,ts[k]?=some t:=⟨_,aB (by rw [hR.len];exact ar)⟩;obtain⟨tv,b1,bf⟩:=hR.a.get ht;obtain⟨b2,cr,an⟩:=hR.ok k n t hn ht;obtain⟨e0,az⟩: ∃e0,es[k]?=some e0:=⟨_,aB (by rw [Z.len];exact ar)⟩;have au:=hR.mono (Mo.of g3);refine⟨_,rfl,_,rfl,ln,_,_,_,rfl,rfl,au.n.l,Zo hn,n.a,_,4,_,rfl,rfl,au.n.a _ _ hn,rfl,n.cl,rfl,⟨_,au.n.c _ _ hn⟩,λacc a0=>?_⟩;refine ZD (K:=K) (xs:=NI n.ch) (cs:=[some (.ref lx)]) (tt:=λ_ H Q=>Q true H) (te:=tOp (Uj K) (ZL 1) (ZL 0)) (λj ys H'=>ys=(n.ch.take j).map (λc=>V.ref ((es[c]?).elim 0 (·.1)))/\H' acc=some (.lst ys)/\Same H3 H')
   ⟨rfl,Qb,Qf a0 _⟩ ?_ ?_ ?_
  .rintro j ys H' _ ⟨_,_,g⟩;exact g.seq (au.n.c _ _ hn)
  .rintro j x ys H' hj D ⟨rfl,ao,g⟩;have b3:j<n.ch.length:=by simpa using hj
   have av:n.ch[j]?=some n.ch[j]:=aB b3;obtain rfl:x=.int ((n.ch[j]:Nat):Int):=by
    rw [aI,av]at D;exact(aH D).symm
   generalize n.ch[j]=c at av;have a8:=an;obtain⟨_,_,ss,_,b4⟩:=a8;obtain⟨kk,ll,b5,_⟩:=b4 j c av;have b6:c<es.length:=by
    rw [Z.len];have:=(aK.mp b5).1
    simpa using this
   have a1:es[c]?=some es[c]:=aB b6;generalize es[c]=ec at a1;refine Zd ⟨_,rfl,_,rfl,lx,_,_,_,rfl,rfl,g.seq (SqL.of aq.l),Qs (by rw [aI,a1];rfl),?_⟩;refine Qz hj ao ?_ ⟨?_,Qb,λx u e=>?_⟩
   .rw [aC,cA];have:=an.1;have ct:n.ch.length<=1000:=by
     rw [<-this];cases bf with
     | mk _ _ z1 z2=>exact aY (Nat.le_of_eq z1.length.symm) z2
    lia
   .rw [b_,av];show _=((n.ch.take j)++[c]).map _;rw [aR];simp [a1]
   .rw [Qi (Qj e a0)];exact g _ _ e
  rintro ys H4 ⟨rfl,ai,g4⟩;rw [bL (14:)]at ai;have b7:(n.ch.map λc=>V.ref ((es[c]?).elim 0 (·.1)))=(n.ch.map λc=>(es[c]?).elim 0 (·.1)).map V.ref:=by rw [bI];rfl
  rw [b7]at ai;have a2:=g3.trans g4;have cu:=hR.mono (Mo.of a2);have bg:=hT.same a2;refine⟨_,rfl,tu,_,2,_,rfl,rfl,bg.tu,rfl,lm,_,rfl,.inl bg.m.1,_,rfl,by rw [aw];lia,by rw [aw];lia,?_⟩;have en:(((mo.map λm=>V.ref m.1).length:Nat):Int).toNat=mo.length:=by rw [aw];lia
  rw [en];refine Zc (lo:=0) (n:=mo.length) (λj σ H'=>∃(c6:Option V)(U:EsL)(J:Addr×List (Key×V)),σ=[some (.ref tu),some (.ref ln),some (.ref lt),some (.ref lx),some (.int (k:Int)),some (.ref acc),c6]/\Same H H'/\Tbs H H' lx U/\U.length=ns.length/\SqL K H' acc ((n.ch.map λc=>(es[c]?).elim 0 (·.1)).map V.ref)/\
   (∀(j:Nat),j≠k->U[j]?=es[j]?)/\U[k]?=some J/\J.1=e0.1/\J.2.length<=j/\Fil K H' T J.2 n.kd t j/\(∀(j:Nat) e n t,k<j->es[j]?=some e->ns[j]?=some n->ts[j]?=some t->Fil K H' T e.2 n.kd t T.ms.length))
   ⟨c6,es,e0,rfl,a2,aq.same g4,Z.len,SqL.of ai,λ_ _=>rfl,az,rfl,by rw [Z.lo k e0 (7:) az];exact bK _,λm md hm=>absurd hm (7:),λj e n t hj h1 h2 h3=>(Z.hi j e n t (7:) h1 h2 h3).mono (Mo.of g4)⟩ ?_ ?_
  .rintro j σ H5 hj ⟨c6,U,J,rfl,g5,af,ag,ac,aa,ab,ee,b8,aj,al⟩;have b9:(0:Int)+(j:Int)=(j:Int):=by lia
   rw [b9];have ad:mo[j]?=some mo[j]:=aB hj;generalize mo[j]=m at ad;have ca:=aN ad;have bp:atI (mo.map λm=>V.ref m.1) (j:Int)=some (.ref m.1):=Qs (by rw [aI,ad];rfl);have ah:=hT.same g5;have a3:=hR.mono (Mo.of g5);have am:T.ms[j]?=some m.md:=by rw [<-hO.me,aI,ad];rfl
   refine⟨_,rfl,tu,_,2,_,rfl,rfl,ah.tu,rfl,_,rfl,lm,_,_,_,rfl,rfl,ah.m.1,bp,m.1,_,0,_,rfl,rfl,(ah.m.2 m ca).1,rfl,_,rfl,_,rfl,ln,_,_,_,rfl,rfl,a3.n.l,Zo hn,n.a,_,0,_,rfl,rfl,a3.n.a _ _ hn,rfl,rfl,_,rfl,?_⟩
   by_cases Y:m.2.1=n.kd
   .refine Wz (by rw [Y]) ?_;have bq:=bf.mono (Mo.of (K:=K) g5).t;have cb:atI us (k:Int)=some tv:=Qs b1;obtain⟨u,bh,cc,a4⟩:=Vt (K:=K) (H:=H5) (H0:=H) (k:=k) (es:=U) hO.ok af ag hR.len (λj e n t hj h1 h2 h3=>al j e n t hj (by rw [<-aa j (7:)];exact h1) h2 h3) b2 an am Y;have br:(n.ch.map λc=>(U[c]?).elim 0 (·.1))=n.ch.map λc=>(es[c]?).elim 0 (·.1):=by
     refine List.map_congr_left λc _=>?_
     by_cases z:c=k
     .rw [z,ab,az];exact ee
     .rw [aa c z]
    rw [br]at a4;obtain⟨mt,ce,cv,cf⟩:=hO.get am;obtain rfl:mt=m:=aH (ce.symm.trans ad);obtain⟨cg,cw⟩:=bv _ (aN am) u cc;cases bq with
    | @mk ta tb cx ci ak a9 k1 k2 k3 k4=>
    refine⟨_,rfl,_,rfl,_,rfl,_,rfl,lt,_,_,_,rfl,rfl,a3.t,cb,ta,_,0,_,rfl,rfl,k1,rfl,?_⟩;refine⟨tu,wd,lm,sv,j,ak,T.ks,mo,mt,rfl,ah.tu,ah.w,hO.wo,ah.m,ad,cf,hO.ne ad,λv' H6 g6 bi=>?_⟩;have cj:TmV K H6 v' u:=by
     have bt:ruleK T.ks mt.md ak=some u:=bh;rw [bt]at bi;exact bi
    refine⟨_,rfl,v',u,acc,_,_,rfl,cj,cg,g6.seq ac,a4.same Wn g6,λx H7 g7 D=>?_⟩;have a5:=g6.trans g7;have a6:=af.same a5;have bj:=a6.at' _ _ ab;refine⟨_,rfl,_,rfl,lx,_,_,_,rfl,rfl,SqL.of a6.l,Qs (by rw [aI,ab];rfl),_,rfl,J.1,_,rfl,.inl ⟨J.2,.inl (j:Int),bj,rfl,by rw [QL];lia,rfl⟩,?_⟩;have gx:SameX J.1 H7 (upd H7 J.1 (.dK (putK J.2 (Sum.inl (j:Int)) x))):=SameX.upd;have gm:Mo K H7 (upd H7 J.1 (.dK (putK J.2 (Sum.inl (j:Int)) x))):=Mo.dk bj gx;have a7:Mo K H5 (upd H7 J.1 (.dK (putK J.2 (Sum.inl (j:Int)) x))):=(Mo.of a5).trans gm;have ck:=af.fr _ _ ab;have bu:k<U.length:=by rw [ag];exact ar
    have cm:RP K H7 x (QV opP (0,0) T.ks T.ms (.node ak a9 ci) (j:Int)):=by
     rw [Zr (T:=T) (m:=(j:Int)) (by rw [bF];exact am) bh];exact D
    refine⟨_,U.set k (J.1,putK J.2 (Sum.inl (j:Int)) x),(J.1,putK J.2 (Sum.inl (j:Int)) x),rfl,λy u' z=>?_,a6.put ab _,by rw [bQ];exact ag,a7.l _ _ ac,λj' bm=>?_,by rw [cC,aE rfl,aE bu],ee,?_,λm' md cn e1 e2=>?_,λj e n t hj h1 h2 h3=>(al j e n t hj h1 h2 h3).mono a7⟩
    .rw [Qi (Qj z ck)];exact a5 _ _ (g5 _ _ z)
    .rw [cC,aF (aL bm)];exact aa j' bm
    .have:=LP J.2 (Sum.inl (j:Int):Key) x;show(putK J.2 (Sum.inl (j:Int)) x).length<=j+1;lia
    .show ∃v,valV (putK J.2 (Sum.inl (j:Int)) x) (Sum.inl (m':Int):Key)=some v/\_;rw [UZ]
     by_cases z:m'=j
     .subst z;exact⟨x,aE rfl,Wn _ _ _ _ gm.t cm⟩
     .obtain⟨v,z1,z2⟩:=aj m' md (7:) e1 e2;refine⟨v,?_,Wn _ _ _ _ a7.t z2⟩;rw [aF (λzz=>z (by have:=Sum.inl.inj zz;lia))];exact z1
   .refine Wt (λz=>Y (V.str.inj z)) ?_;refine⟨_,U,J,rfl,g5,af,ag,ac,aa,ab,ee,by lia,λm' md cn e1 e2=>?_,al⟩;rcases Nat.lt_or_ge m' j with z | z
    .exact aj m' md z e1 e2
    .have ez:m'=j:=by lia
     subst ez;rw [am]at e1;cases e1;exact absurd e2 Y
  .rintro σ H5 ⟨c6,U,J,rfl,g5,af,ag,ac,aa,ab,ee,b8,aj,al⟩;refine⟨_,_,_,U,rfl,g5,af,⟨ag,λj e hj h=>?_,λj e n' t' hj h1 h2 h3=>?_⟩⟩
   .rw [aa j (7:)]at h;exact Z.lo j e (7:) h
   .rcases Nat.lt_or_ge k j with z | z
    .rw [aa j (7:)]at h1;exact al j e n' t' z h1 h2 h3
    .have ez:j=k:=by lia
     subst ez;rw [ab]at h1;cases h1;rw [hn]at h2;cases h2;rw [ht]at h3;cases h3;rw [<-bn];exact aj
 .rintro σ H3 ⟨c4,c5,c6,es,rfl,g3,aq,Z⟩;rw [e_]at Z;exact⟨_,rfl,q lx H3 es g3 aq Z⟩
end
theorem Ox(xs:List V)(a b:Nat):cutV xs (some (a:Int)) (some (b:Int))=(xs.drop (min a xs.length)).take (min b xs.length-min a xs.length):=by
 unfold cutV;rw [HT.sIx_nat,HT.sIx_nat]
theorem Wh(cs:List Int)(a b:Nat):∃ds:List Int,cutV (cs.map V.int) (some (a:Int)) (some (b:Int))=ds.map V.int/\ds.length<=b-a:=by
 refine⟨(cs.drop (min a cs.length)).take (min b cs.length-min a cs.length),?_,?_⟩
 .rw [Ox,aC,List.map_take,List.map_drop]
 .rw [cA,List.length_drop];lia
theorem V2{α β:Type}(f:α->β->Bool):∀{as:List α}{bs:List β},(∀(j:Nat) a b,as[j]?=some a->bs[j]?=some b->f a b=true)->(List.zipWith f as bs).all id=true
 | [],_,_=>by simp
 | a::as,[],_=>by simp
 | a::as,b::bs,h=>by
  simp only [List.zipWith_cons_cons,List.all_cons,id,bD];exact⟨h 0 a b rfl rfl,V2 f λj z D h1 h2=>h (j+1) z D (by simpa using h1) (by simpa using h2)⟩
theorem Ma{m:MdT}(hW:WF ks)(h:MF ks own m):ZZ ks own m.md=true:=by
 obtain⟨kd,D,F⟩:=aT.mp h.kd;obtain⟨M,_⟩:=Jd hW.ok D;have G:(Qu ks m.2.1).length≠0:=by
  rw [<-F,M];obtain⟨r,J,_⟩:=(hW.kf kd D).bare;intro z;rw [gs.mp z]at J;cases J
 unfold ZZ;simp only [bD,dS];exact⟨⟨G,h.rf.1⟩,V2 _ λj r t h1 h2=>(h.rf.2 j r t h1 h2).fit⟩
theorem Rm{m:MdT}(h:MF ks own m):∀t∈m.2.2.2.2,MOk 6 t:=λt z=>by
 obtain⟨j,D,e⟩:=cO z;have F:=h.rf.1;exact(h.rf.2 j _ t (aB (7:)) (by rw [aB D,e])).mok
theorem Ri(h:∀m∈ms,MF ks own m):∀md∈mds ms,∀u∈md.2,lv u<=8/\sz u<=100:=λmd z u G=>by
 obtain⟨m,J,rfl⟩:=aT.mp z;have D:=(h m J).rf;obtain⟨j,F,e⟩:=cO G;have M:j<m.2.2.2.2.length:=F;have U:=D.1;have:=D.2 j _ u (aB (7:)) ((aB F).trans (congrArg some e));have h1:=this.lv;have h2:=this.sz;exact⟨by lia,aY h2 (18:)⟩
abbrev dR:Tree Str:=.node (S []) 0 []
theorem Rl(xs:List Nat)(a:Nat):xs.foldl max a=max a (xs.foldl max 0):=by
 induction xs generalizing a with
 | nil=>simp
 | cons x r z=>
  rw [eS,eS,z (max a x),z (max 0 x)];lia
mutual
noncomputable def uc:Tm->List (Int×Int)
 | .node (.call m b) _ _=>[(m,b)]
 | .node (.put _ _ _) _ bs=>ucs bs
noncomputable def ucs:List Tm->List (Int×Int)
 | []=>[]
 | t::r=>uc t++ucs r
end
theorem GE{c:Int×Int}{t:Tm}:∀{ts:List Tm},t∈ts->c∈uc t->c∈ucs ts
 | _::_,h,hc=>by
  simp only [ucs];rcases aM.mp h with rfl | h
  .exact bZ _ hc
  .exact bJ _ (GE h hc)
mutual
theorem Ux:∀{u:Tm}{c:Int×Int},c∈uc u->c∈cls u
 | .node (.call m b) _ bs,c,h=>by
  simp only [uc]at h;simp only [cls,lcl];exact bZ _ h
 | .node (.put n k a) _ bs,c,h=>by
  simp only [uc]at h;simp only [cls,lcl,fJ];exact V6 h
theorem V6:∀{us:List Tm}{c:Int×Int},c∈ucs us->c∈Zn us
 | [],c,h=>by simp [ucs]at h
 | u::r,c,h=>by
  simp only [ucs]at h;simp only [Zn];rcases a_.mp h with z | z
  .exact bZ _ (Ux z)
  .exact bJ _ (V6 z)
end
mutual
theorem Gh{mk:Int}{cR:Int->Int->Tree Str}{cM cT:Int->Int->Nat}:∀u:Tm,(∀c∈uc u,sz (cR c.1 c.2)=cM c.1 c.2/\lv (cR c.1 c.2)=cT c.1 c.2)->sz (QD (λl xs=>opR l mk xs) cR u)=QD (λl xs=>opM l mk xs) cM u/\lv (QD (λl xs=>opR l mk xs) cR u)=QD (λl xs=>opT l mk xs) cT u
 | .node (.call m b) _ bs,h=>by
  simp only [QD];exact h (m,b) (by simp [uc])
 | .node (.put n k a) _ bs,h=>by
  obtain⟨h1,h2⟩:=Wu (mk:=mk) bs λc z=>h c (by simp only [uc];exact z);simp only [QD];refine⟨?_,?_⟩
  .show sz (Tree.node n _ (QG (λl xs=>opR l mk xs) cR bs))=1+(QG (λl xs=>opM l mk xs) cM bs).sum;simp only [sz];rw [h1]
  .show lv (Tree.node n _ (QG (λl xs=>opR l mk xs) cR bs))=1+(QG (λl xs=>opT l mk xs) cT bs).foldl max 0;simp only [lv];rw [h2]
theorem Wu{mk:Int}{cR:Int->Int->Tree Str}{cM cT:Int->Int->Nat}:∀us:List Tm,(∀c∈ucs us,sz (cR c.1 c.2)=cM c.1 c.2/\lv (cR c.1 c.2)=cT c.1 c.2)->szs (QG (λl xs=>opR l mk xs) cR us)=(QG (λl xs=>opM l mk xs) cM us).sum/\lvs (QG (λl xs=>opR l mk xs) cR us)=(QG (λl xs=>opT l mk xs) cT us).foldl max 0
 | [],_=>by simp [QG,szs,lvs]
 | u::r,h=>by
  obtain⟨D,F⟩:=Gh (mk:=mk) u λc z=>h c (by simp only [ucs];exact bZ _ z);obtain⟨G,J⟩:=Wu (mk:=mk) r λc z=>h c (by simp only [ucs];exact bJ _ z);simp only [QG,szs,lvs,eZ,eS];rw [Rl];lia
end
mutual
theorem Gv{mk:Int}{cM cT:Int->Int->Nat}:∀(u:Tm)(c:Int×Int),c∈uc u->cM c.1 c.2<=QD (λl xs=>opM l mk xs) cM u/\cT c.1 c.2<=QD (λl xs=>opT l mk xs) cT u
 | .node (.call m b) _ bs,c,h=>by
  simp only [uc]at h;simp only [QD];rw [dO.mp h];exact⟨bB _,bB _⟩
 | .node (.put n k a) _ bs,c,h=>by
  have:=W6 (mk:=mk) (cM:=cM) (cT:=cT) bs c (by simpa only [uc]using h);simp only [QD];show _<=1+(QG (λl xs=>opM l mk xs) cM bs).sum/\_<=1+(QG (λl xs=>opT l mk xs) cT bs).foldl max 0;lia
theorem W6{mk:Int}{cM cT:Int->Int->Nat}:∀(us:List Tm)(c:Int×Int),c∈ucs us->cM c.1 c.2<=(QG (λl xs=>opM l mk xs) cM us).sum/\cT c.1 c.2<=(QG (λl xs=>opT l mk xs) cT us).foldl max 0
 | [],c,h=>by simp [ucs]at h
 | u::r,c,h=>by
  simp only [ucs]at h;simp only [QG,eZ,eS];rw [Rl];rcases a_.mp h with z | z
  .have:=Gv (mk:=mk) (cM:=cM) (cT:=cT) u c z;lia
  .have:=W6 (mk:=mk) (cM:=cM) (cT:=cT) r c z;lia
end
mutual
theorem WW{mk:Int}{cR:Int->Int->Tree Str}:∀u:Tm,(tmd u).canLay0=true->(∀c∈uc u,LayT (cR c.1 c.2))->LayT (QD (λl xs=>opR l mk xs) cR u)
 | .node (.call m b) _ bs,_,h=>by
  simp only [QD];exact h (m,b) (by simp [uc])
 | .node (.put n k a) _ bs,z,h=>by
  simp only [tmd,tdl,PyData.canLay0,PyData.canLayAll0,bD]at z;simp only [QD];exact LayT.node z.2.1 (J4 (mk:=mk) bs z.2.2.2.2.1 λc D=>h c (by simp only [uc];exact D))
theorem J4{mk:Int}{cR:Int->Int->Tree Str}:∀us:List Tm,PyData.canLayAll0 (Wp us)=true->(∀c∈ucs us,LayT (cR c.1 c.2))->∀t∈QG (λl xs=>opR l mk xs) cR us,LayT t
 | [],_,_=>λt D=>by simp [QG]at D
 | u::r,hl,h=>λt D=>by
  simp only [Wp,PyData.canLayAll0,bD]at hl;simp only [QG]at D;rcases aM.mp D with e | z
  .rw [e];exact WW u hl.1 λc F=>h c (by simp only [ucs];exact bZ _ F)
  .exact J4 r hl.2 (λc F=>h c (by simp only [ucs];exact bJ _ F)) t z
end
def RlL(T:Tu):Prop:=∀md∈T.ms,∀u∈md.2,(tmd u).canLay0=true
theorem Vr(ok:TuOk T)(hL:RlL T):∀(n:Nat)(u:Tm)(r:Tree Str),lv r<=n->St T (u,r)->sz (valT opR dR T u r)=valT opM 0 T u r/\lv (valT opR dR T u r)=valT opT 0 T u r/\((tmd u).canLay0=true->LayT (valT opR dR T u r))
 | 0,u,r,h,_=>by rw [Q8]at h;lia
 | n+1,u,r,h,D=>by
  have key:∀c∈uc u,(sz ((r.bs[c.2.toNat]?).elim dR λt=>QV opR dR T.ks T.ms t c.1)=((r.bs[c.2.toNat]?).elim 0 λt=>QV opM 0 T.ks T.ms t c.1)/\lv ((r.bs[c.2.toNat]?).elim dR λt=>QV opR dR T.ks T.ms t c.1)=((r.bs[c.2.toNat]?).elim 0 λt=>QV opT 0 T.ks T.ms t c.1))/\LayT ((r.bs[c.2.toNat]?).elim dR λt=>QV opR dR T.ks T.ms t c.1):=λc z=>by
   obtain⟨m,b⟩:=c;obtain⟨t,md,v,b0,m0,e1,e2,e3,F,G⟩:=D.call ok (Ux z);have Z:=ZI (aN e1);rw [Q8]at h;obtain⟨i1,J,i3⟩:=Vr ok hL n v t (7:) G;rw [e1];show(sz (QV opR dR T.ks T.ms t m)=QV opM 0 T.ks T.ms t m/\lv (QV opR dR T.ks T.ms t m)=QV opT 0 T.ks T.ms t m)/\LayT (QV opR dR T.ks T.ms t m);rw [Zr e2 e3,Zr e2 e3,Zr e2 e3];exact⟨⟨i1,J⟩,i3 (hL md (aN e2) v F)⟩
  obtain⟨M,U⟩:=Gh (mk:=mkT r) (cR:=λm b=>(r.bs[b.toNat]?).elim dR λt=>QV opR dR T.ks T.ms t m) (cM:=λm b=>(r.bs[b.toNat]?).elim 0 λt=>QV opM 0 T.ks T.ms t m) (cT:=λm b=>(r.bs[b.toNat]?).elim 0 λt=>QV opT 0 T.ks T.ms t m) u λc z=>(key c z).1;exact⟨M,U,λY=>WW (mk:=mkT r) u Y λc z=>(key c z).2⟩
theorem Nr{T:Tu}{u:Tm}{r:Tree Str}{m b:Int}(h:(m,b)∈uc u){t:Tree Str}(e:r.bs[b.toNat]?=some t):QV opM 0 T.ks T.ms t m<=valT opM 0 T u r/\QV opT 0 T.ks T.ms t m<=valT opT 0 T u r:=by
 have:=Gv (mk:=mkT r) (cM:=λm b=>(r.bs[b.toNat]?).elim 0 λt=>QV opM 0 T.ks T.ms t m) (cT:=λm b=>(r.bs[b.toNat]?).elim 0 λt=>QV opT 0 T.ks T.ms t m) u (m,b) h;simp only [e,Option.elim]at this;exact this
theorem LY{α:Type}{op:Lab->Int->List α->α}{d:α}{u:Tm}(h:Yk T.ks T.ms u r=some q):valT op d T u r=valT op d T q.1 q.2:=by
 obtain⟨l,z,bs⟩:=u;unfold Yk at h;cases l with
 | put n k a=>cases h
 | call m b=>
  simp only [lab]at h;cases D:r.bs[b.toNat]? with
  | none=>rw [D]at h;cases h
  | some c=>
   rw [D]at h;simp only at h;cases F:T.ms[m.toNat]? with
   | none=>rw [F]at h;cases h
   | some md=>
    rw [F]at h;simp only at h;cases G:ruleK T.ks md (nmT c)with
    | none=>rw [G]at h;cases h
    | some v=>
     rw [G]at h;cases h;rw [<-Zr F G];unfold valT;simp only [QD,D,Option.elim]
theorem JB{α:Type}{op:Lab->Int->List α->α}{d:α}:∀(n:Nat)(p:Tm×Tree Str),valT op d T (Ym T.ks T.ms n p).1 (Ym T.ks T.ms n p).2=valT op d T p.1 p.2
 | 0,p=>rfl
 | n+1,p=>by
  rw [Ym];cases e:Yk T.ks T.ms p.1 p.2 with
  | none=>rfl
  | some q=>rw [LY e];exact JB n q
theorem Gb{p:Tm×Tree Str}(h:isC (lab p.1)=false):valT opR dR T p.1 p.2=.node (GV p) (G4 p) (p.1.bs.map λv=>valT opR dR T v p.2):=by
 obtain⟨⟨l,z,bs⟩,r⟩:=p;cases l with
 | call m b=>cases h
 | put n k a=>
  show QD _ _ _=_;simp only [QD];rw [ZG]
  rfl
def atP:Tree Str->List Nat->Option (Tree Str)
 | t,[]=>some t
 | t,j::r=>(t.bs[j]?).bind λc=>atP c r
theorem U0:∀(t:Tree Str)(l:List Nat)(j:Nat),atP t (l++[j])=(atP t l).bind λc=>c.bs[j]?
 | t,[],j=>by
  simp only [fJ,atP,Option.bind_some];cases t.bs[j]? <;>rfl
 | t,i::l,j=>by
  simp only [List.cons_append,atP];cases t.bs[i]? with
  | none=>rfl
  | some c=>exact U0 c l j
theorem XF(ok:TuOk T):∀(l:List Nat)(p:Tm×Tree Str),At T p->(match atP (valT opR dR T p.1 p.2) l with
 | none=>Zv T p (l.map λj:Nat=>(j:Int))=none
 | some t=>∃q,Zv T p (l.map λj:Nat=>(j:Int))=some q/\At T q/\t=valT opR dR T q.1 q.2)
 | [],p,h=>⟨p,rfl,h,rfl⟩
 | j::l,p,h=>by
  have e1:(valT opR dR T p.1 p.2).bs[j]?=(p.1.bs[j]?).map λv=>valT opR dR T v p.2:=by
   rw [Gb h.pt];show(List.map _ _)[j]?=_;rw [aI]
  have e2:ZS T p (j:Int)=(p.1.bs[j]?).map λu=>come T.ks T.ms (u,p.2):=by
   unfold ZS;rw [aE (7:),bF]
  simp only [atP,e1,aS,Zv,e2];cases z:p.1.bs[j]? with
  | none=>rfl
  | some v=>
   simp only [eI,Option.bind_some];have D:=At.step ok h (j:=(j:Int)) (q:=come T.ks T.ms (v,p.2)) (by rw [e2,z];rfl);have:=XF ok l (come T.ks T.ms (v,p.2)) D;have F:valT opR dR T (come T.ks T.ms (v,p.2)).1 (come T.ks T.ms (v,p.2)).2=valT opR dR T v p.2:=JB 60 (v,p.2);rw [F]at this;exact this
def Ul(K:Fg)(n:Nat):Sp:=λvs H Q _=>∃(v:V)(t:Tree Str),vs=[v]/\TrV K H v t/\lv t<=n/\∀H':Hp,Same H H'->Q (.bl true) H'
def Ug(K:Fg)(n:Nat):Sp:=λvs H Q _=>∃(v:V)(t:Tree Str),vs=[v]/\TrV K H v t/\lv t<=n/\∀(p:Addr)(H':Hp),Same H H'->SqT K H' p [.int (sz t:Int),.int (lv t:Int)]->Q (.ref p) H'
abbrev kP(m b:Int):List Key:=[Sum.inl m,Sum.inl b]
def Tol(K:Fg)(H:Hp)(kvs:List (List Key×V))(cR:Int->Int->Tree Str)(c:Int×Int):Prop:=∃w,valV kvs (kP c.1 c.2)=some w/\TrV K H w (cR c.1 c.2)
def Ut(K:Fg)(n:Nat):Sp:=λvs H Q _=>∃(v:V)(u:Tm)(mk:Int)(d:Addr)(kvs:List (List Key×V))(cR:Int->Int->Tree Str),vs=[v,.int mk,.ref d]/\TmV K H v u/\lv u<=n/\Rd H d (.dT kvs)/\(∀c∈uc u,Tol K H kvs cR c)/\
 ∀(v':V)(H':Hp),Same H H'->TrV K H' v' (QD (λl xs=>opR l mk xs) cR u)->Q v' H'
theorem Tol.same{K:Fg}{kvs:List (List Key×V)}{cR:Int->Int->Tree Str}{c:Int×Int}(g:Same H H')(h:Tol K H kvs cR c):Tol K H' kvs cR c:=by
 obtain⟨w,h1,h2⟩:=h;exact⟨w,h1,h2.mono λ_ _=>g.seqT⟩
section
variable{K:Fg}
theorem Mu:FnScope ["_law_found","_law_branch"] ["_law_found"] (defScope W4):=(1:)
theorem N6(F:Fun K "_law_is_tree" "_law_is_tree" W4 f fd)(G:Gm mg)(RH:Fn P w K mg base 1 "_law_whole" ["_law_found"] UH)(R:Fn P w K mg base (n+1) "_law_is_tree" ["_law_found"] (Ul K n)):FnOk P w K mg base CX0 (n+2) f fd ["_law_found"] (Ul K (n+1)):=by
 refine F.ok Mu (13:) (λad A outer s H vs Q E Y h=>?_)
 .obtain⟨v,t,rfl,_⟩:=h
  rfl
 obtain⟨v,t,rfl,hv,Z,q⟩:=h;refine⟨_,(Qe (QP (PW.pt (pw_or (Zq (Q7 (Qq Z4 rfl G.isi fA (Qa (pv 0) (Qa (Z9 (v:=.ty "tuple") rfl G.tup eP rfl) Qc))))) (pw_or (Qx Pc (Qq Qn rfl G.len aX (Qa (pv 0) Qc)) Qd (Qy _)) (pw_or1 (Zq (Q7 (Qq ZR rfl G.isi fA (Qa (Qg Qk (pv 0) Qd (2:)) (Qa (Z9 (v:=.ty "str") rfl G.str PyProof.Rows.boot_str rfl) Qc))))))))) (Qh (Qp Zy)) Qw)
  (Qe (QP (PW.pt (pw_or (Zq (Q7 (Qr RH Y (Qa (Qg Qk (pv 0) Qd (2:)) Qc) (gR 1 n)))) (pw_or1 (Zq (Q7 (Qq Z4 rfl G.isi fA (Qa (Qg Qk (pv 0) Qd (2:)) (Qa (Z9 (v:=.ty "tuple") rfl G.tup eP rfl) Qc)))))))) (Qh (Qp Zy)) Qw)
  (Qe (QO a' rfl (Yg (Qg Qk (pv 0) Qd (2:))) (Qt (i:=1) Mu.nd rfl (5:)) (Qh (QP (Zq (Q7 (Qr R Y (Qa (pv 1) Qc) (4:)))) (Qh (Qp Zy)) Qw)))
  (Qh (Qp Zy))))),?_⟩
 try dsimp only [QC,Cx.nox]
 refine L2.let3 ?_
 intros
 cases hv with
 | @mk a b us D name J z M a3 a4=>
 have ac:lvs D<=n:=by simp only [lv]at Z;lia
 refine⟨_,rfl,a,_,"tuple",true,rfl,z,rfl,_,rfl,Zf ⟨_,rfl,a,_,rfl,.inr z,rfl,_,rfl,O8 rfl ⟨_,rfl,a,_,0,_,rfl,rfl,z,rfl,_,"str",_,true,rfl,.str _,rfl,_,rfl,Zf ?_⟩⟩⟩;refine⟨_,rfl,a,_,1,_,rfl,rfl,z,rfl,J,rfl,_,rfl,Zf ⟨_,rfl,a,_,2,_,rfl,rfl,z,rfl,b,_,"tuple",true,rfl,M,rfl,_,rfl,Zf ?_⟩⟩;refine⟨_,rfl,a,_,2,_,rfl,rfl,z,rfl,b,rfl,⟨_,M⟩,?_⟩;refine let J_:J3:=(λi σ H'=>∃U:Option V,σ=[some (.ref a),U]/\Same H H');YB (K:=K) (xs:=us) J_ ⟨none,rfl,Same.refl _⟩ ?_ ?_ ?_
 .rintro i σ H' _ ⟨_,_,g⟩;exact g.seqT M
 .rintro i x σ H1 hx ⟨U,rfl,g⟩;have hl:=a3.length;have hi:i<D.length:=by have:=(aK.mp hx).1;lia
  obtain⟨cv,aa,ab⟩:=a3.get (aB hi);obtain rfl:cv=x:=aH (aa.symm.trans hx);have:=ZI (aZ hi);exact⟨_,rfl,cv,D[i],rfl,ab.mono λ_ _=>g.seqT,by lia,λH2 g2=>⟨_,rfl,Zf ⟨_,rfl,g.trans g2⟩⟩⟩
 .rintro σ H1 ⟨U,rfl,g⟩;exact q H1 g
theorem Ws(F:Fun K "_law_is_tree" "_law_is_tree" W4 f fd)(G:Gm mg)(RH:Fn P w K mg base 1 "_law_whole" ["_law_found"] UH)(b:Binds K fd ["_law_found"] [])(hm:mg "_law_is_tree"=some (.ref f)):∀n:Nat,FnOk P w K mg base CX0 (n+1) f fd ["_law_found"] (Ul K n)
 | 0=>⟨λz H Q E h=>by obtain⟨v,t,rfl,_⟩:=h;rfl,λA outer s H D J z Q E _ _ _ _ h=>by obtain⟨v,t,_,_,h,_⟩:=h;rw [Q8]at h;lia⟩
 | n+1=>N6 F G RH ⟨f,fd,Ws F G RH b hm n,b,F.kp,hm⟩
theorem ZO:FnScope ["_law_tree","_law_total","_law_deep","_law_branch","_law_one","_law_other"] ["_law_tree"] (defScope JE):=(1:)
theorem GF:∀ts:List (Tree Str),szs ts=(ts.map sz).sum
 | []=>by simp [szs]
 | t::r=>by simp only [szs,aS,eZ,GF r]
theorem GN:∀ts:List (Tree Str),lvs ts=(ts.map lv).foldl max 0
 | []=>by simp [lvs]
 | t::r=>by
  simp only [lvs,aS,eS,GN r];rw [Rl (r.map lv) (max 0 (lv t))];lia
theorem Mf(F:Fun K "_law_count" "_law_count" JE f fd)(G:Gm mg)(R:Fn P w K mg base (n+1) "_law_count" ["_law_tree"] (Ug K n)):FnOk P w K mg base CX0 (n+2) f fd ["_law_tree"] (Ug K (n+1)):=by
 refine F.ok ZO (13:) (λaf A outer s H vs Q E Z h=>?_)
 .obtain⟨v,t,rfl,_⟩:=h
  rfl
 obtain⟨v,t,rfl,hv,aa,q⟩:=h;refine⟨_,(Qe (Qm (i:=1) ZO.nd rfl (5:) Qd)
  (Qe (Qm (i:=2) ZO.nd rfl (5:) Qd)
  (Qe (QO a' rfl (Yg (Qg Qk (pv 0) Qd (2:))) (Qt (i:=3) ZO.nd rfl (5:)) (Qe (YQ (Qr R Z (Qa (pv 3) Qc) (4:)) (Yu rfl (QR (Qt (i:=4) ZO.nd rfl (5:)) (QR (Qt (i:=5) ZO.nd rfl (5:)) ZN))))
  (Qe (Qm (i:=1) ZO.nd rfl (5:) (Qo QI (pv 1) (pv 4)))
  (Qh (Qm (i:=2) ZO.nd rfl (5:) (Qq (Xb (by exact Z.hd)) rfl G.max PyProof.Rows.boot_max (Qa (pv 2) (Qa (pv 5) Qc))))))))
  (Qh (Qp (QE (Qa (pv 1) (Qa (Qo QI (pv 2) Qd) Qc)))))))),?_⟩
 try dsimp only [QC,Cx.nox]
 refine L2.let3 ?_
 intros
 cases hv with
 | @mk a b us z name D a1 a2 a3 a4=>
 have ae:lvs z<=n:=by simp only [lv]at aa;lia
 have hl:=a3.length;refine⟨_,rfl,a,_,2,_,rfl,rfl,a1,rfl,b,rfl,⟨_,a2⟩,?_⟩;refine let J_:J3:=(λi σ H'=>∃J M U:Option V,σ=[some (.ref a),some (.int ((1+((z.take i).map sz).sum:Nat):Int)),some (.int ((((z.take i).map lv).foldl max 0:Nat):Int)),J,M,U]/\Same H H');YB (K:=K) (xs:=us) J_ ⟨none,none,none,rfl,Same.refl _⟩ ?_ ?_ ?_
 .rintro i σ H' _ ⟨_,_,_,_,g⟩;exact g.seqT a2
 .rintro i x σ H1 hx ⟨J,M,U,rfl,g⟩;have hi:i<z.length:=by have:=(aK.mp hx).1;lia
  obtain⟨Y,ab,ac⟩:=a3.get (aB hi);obtain rfl:Y=x:=aH (ab.symm.trans hx);have:=ZI (aZ hi);refine⟨_,rfl,Y,z[i],rfl,ac.mono λ_ _=>g.seqT,by lia,λp H2 g2 hp=>?_⟩;refine⟨p,_,rfl,hp,rfl,_,_,rfl,_,_,rfl,rfl,_,rfl,_,rfl,_,_,rfl,rfl,_,rfl,_,rfl,_,_,rfl,some Y,some (.int (sz z[i]:Int)),some (.int (lv z[i]:Int)),?_,g.trans g2⟩;have et:z.take (i+1)=z.take i++[z[i]]:=by rw [b_,aB hi];rfl
  rw [et,aR,aR,List.sum_append];have ad:=UU ((z.take i).map lv) (lv z[i]);simp only [aS,gq,eZ,List.sum_nil];rw [ad];have e1:∀x y:Nat,(if(y:Int)>(x:Int)then(y:Int)else(x:Int))=((max x y:Nat):Int):=λx y=>by split<;>lia
  rw [<-e1];have e2:∀x y:Nat,((1+(x+(y+0)):Nat):Int)=((1+x:Nat):Int)+(y:Int):=λx y=>by lia
  rw [e2]
  rfl
 .rintro σ H1 ⟨J,M,U,rfl,g⟩;rw [bL (7:),<-GF,<-GN];refine⟨_,rfl,_,rfl,_,_,rfl,rfl,(by show 2<=sizeLine;decide),λp hp=>q p _ (g.trans (Qf hp _)) ?_⟩;have e1:((sz (Tree.node name D z):Nat):Int)=((1+szs z:Nat):Int):=by simp only [sz]
  have e2:((lv (Tree.node name D z):Nat):Int)=(lvs z:Int)+1:=by simp only [lv];lia
  rw [e1,e2];exact SqT.of Qb
theorem Xo(F:Fun K "_law_count" "_law_count" JE f fd)(G:Gm mg)(b:Binds K fd ["_law_tree"] [])(hm:mg "_law_count"=some (.ref f)):∀n:Nat,FnOk P w K mg base CX0 (n+1) f fd ["_law_tree"] (Ug K n)
 | 0=>⟨λz H Q E h=>by obtain⟨v,t,rfl,_⟩:=h;rfl,λA outer s H D J z Q E _ _ _ _ h=>by obtain⟨v,t,_,_,h,_⟩:=h;rw [Q8]at h;lia⟩
 | n+1=>Mf F G ⟨f,fd,Xo F G b hm n,b,F.kp,hm⟩
theorem My:FnScope ["_law_term_here","_law_mark_here","_law_told","_law_parts"] ["_law_term_here","_law_mark_here","_law_told"] (defScope W2):=(1:)
theorem OB(F:Fun K "_law_come" "_law_come" W2 f fd)(G:Gm mg)(R:Fn P w K mg base (n+1) "_law_come" ["_law_term_here","_law_mark_here","_law_told"] (Ut K n)):FnOk P w K mg base CX0 (n+2) f fd ["_law_term_here","_law_mark_here","_law_told"] (Ut K (n+1)):=by
 refine F.ok My (13:) (λam A outer s H vs Q E hr h=>?_)
 .obtain⟨v,u,mk,d,kvs,M,rfl,_⟩:=h
  rfl
 obtain⟨v,u,mk,d,kvs,M,rfl,hu,ae,hd,hT,q⟩:=h;refine⟨_,(Qe (QP (Qx Yj (Qg Qk (pv 0) Qd (2:)) Zi (Qy _)) (Qh (Qp (Zh (Zp hr) (pv 2) (QE (Qa (Qg Qk (pv 0) Qd (2:)) (Qa (Qg Qk (pv 0) Qd (2:)) Qc))) (2:)))) Qw)
  (Qe (ZA (i:=3) (CompG.many (xs:=["_law_part"]) (caps:=["_law_mark_here","_law_told"]) (cap:=[1,2]) (cs:=[_,_]) rfl rfl (0:) (0:) (0:) (0:) (0:) (0:) rfl rfl rfl) rfl (Yg (Qg Qk (pv 0) Qd (2:))) (Zm (CompG.many (xs:=["_law_part"]) (caps:=["_law_mark_here","_law_told"]) (cap:=[1,2]) (cs:=[_,_]) rfl rfl (0:) (0:) (0:) (0:) (0:) (0:) rfl rfl rfl)) (λ_ _ _ _=>Q5) (λ_ _ _ _=>Qr R hr (Qa (pv 0) (Qa (pv 1) (Qa (pv 2) Qc))) (4:)) My.nd rfl rfl)
  (Qh (Qp (QE (Qa (Qg Qk (pv 0) Qd (2:)) (Qa (Qo QI (Qg Qk (pv 0) Qd (2:)) (Qo Yd (pv 1) (QK J7 rfl G.int PyProof.Rows.boot_int (Qa (Qg Qk (pv 0) Qd (2:)) Qc)))) (Qa (QK Ze rfl G.tup eP (Qa (pv 3) Qc)) Qc)))))))),?_⟩
 try dsimp only [QC,Cx.nox]
 refine L2.let2 ?_
 intros
 rcases ZC hu with⟨a,m,b,rfl,rfl,h1⟩ | ⟨a,b,bs,nm,k,z,rfl,et,h1,h2,h3,h4⟩
 .obtain⟨x,e1,e2⟩:=hT (m,b) (by simp [ZH,uc]);refine⟨_,rfl,a,_,0,_,rfl,rfl,h1,rfl,rfl,_,rfl,Wz rfl ?_⟩;refine⟨_,rfl,_,rfl,a,_,1,_,rfl,rfl,h1,rfl,_,rfl,a,_,2,_,rfl,rfl,h1,rfl,(by show 2<=sizeLine;decide),λp hp=>?_⟩;have g:=Qf hp (.tup [.int m,.int b]);refine⟨d,x,rfl,.inr ⟨kvs,kP m b,p,Rd.mk g hd,rfl,Qb,e1.symm⟩,q x _ g (e2.mono λ_ _=>g.seqT)⟩
 have ac:uc u=ucs u.bs:=by
  have:=congrArg uc et;rw [this];simp only [uc]
 rw [ac]at hT;have al:=h3.length;rw [Q8 u]at ae;refine⟨_,rfl,a,_,0,_,rfl,rfl,h1,rfl,rfl,_,rfl,Wt (by show ¬V.str PUT=V.str YT;decide+kernel) ?_⟩;refine⟨_,rfl,a,_,4,_,rfl,rfl,h1,rfl,b,rfl,⟨_,h2⟩,λacc U=>?_⟩;refine let J_:JC:=(λi ys H'=>H' acc=some (.lst ys)/\Same H H'/\ys.length=i/\TrAll K H' ys ((u.bs.take i).map λp=>QD (λl xs=>opR l mk xs) M p));VM (K:=K) (xs:=bs) (cs:=[some (.int mk),some (.ref d)]) (tt:=λ_ H Q=>Q true H) J_
  ⟨Qb,Qf U _,rfl,.nil⟩ ?_ ?_ ?_
 .rintro i ys H' _ ⟨_,g,_⟩;exact g.seqT h2
 .rintro i x ys H' hi hx ⟨Y,g,aa,J⟩;obtain⟨c,hc⟩: ∃c,u.bs[i]?=some c:=⟨_,aB (7:)⟩;obtain⟨ab,af,ag⟩:=h3.get hc;obtain rfl:ab=x:=aH (af.symm.trans hx);have hm:=aN hc;have a1:=ZI hm;refine Zd ⟨_,rfl,_,rfl,_,rfl,ab,c,mk,d,kvs,M,rfl,ag.mono λ_ _=>g.seqT,by lia,Rd.mk g hd,λe he=>(hT e (GE hm he)).same g,λv4 H4 g4 ah=>?_⟩;have D:=g4 _ _ Y;refine Qz (ys:=ys) hi D (7:) ⟨Qb,λx u e=>?_,by simp [aa],?_⟩
  .rw [Qi (Qj e U)];exact g4 _ _ (g _ _ e)
  .rw [b_,hc,Option.toList_some,aR];exact TrAll.append (J.mono λ_ _ h=>(g4.seqT h).put D) (.cons (ah.mono λ_ _ h=>h.put D) .nil)
 rintro ys H1 ⟨Y,g,aa,J⟩;have ai:u.bs.take bs.length=u.bs:=bL (7:);rw [ai]at J;refine⟨_,rfl,a,_,1,_,rfl,rfl,g.seqT h1,rfl,_,rfl,a,_,3,_,rfl,rfl,g.seqT h1,rfl,_,rfl,_,rfl,a,_,2,_,rfl,rfl,g.seqT h1,rfl,.inr ⟨k,rfl,?_⟩⟩;refine⟨_,_,rfl,rfl,.inr ?_,_,_,rfl,rfl,_,rfl,acc,ys,rfl,.inl ⟨SqL.of Y,λZ aj=>?_⟩⟩
 .cases k<;>exact(22:)
 have s2:=Qf aj (.tup ys);have b2:upd H1 Z (.tup ys) Z=some (.tup ys):=Qb;generalize upd H1 Z (.tup ys)=H2 at s2 b2 ⊢;refine⟨(by show 3<=sizeLine;decide),λtq ak=>?_⟩;have ek:z+mk*(if k=true then 1 else 0)=(if k=true then z+mk else z):=by cases k<;>simp
 generalize hX:upd H2 tq _=H3;have s3:Same H2 H3:=by rw [<-hX];exact Qf ak _
 have b3:H3 tq=some (.tup [.str nm,.int (if k=true then z+mk else z),.ref Z]):=by rw [<-hX,<-ek];exact Qb
 clear hX;have ev:QD (λl xs=>opR l mk xs) M u=.node nm (if k=true then z+mk else z) (u.bs.map λp=>QD (λl xs=>opR l mk xs) M p):=by
  conv=>lhs;rw [et]
  simp only [QD,ZG]
  rfl
 refine q _ _ (g.trans (s2.trans s3)) ?_;rw [ev];exact TrV.mk (SqT.of b3) (SqT.of (s3 _ _ b2)) (J.mono λ_ _ h=>s3.seqT (s2.seqT h)) (7:)
theorem WS(F:Fun K "_law_come" "_law_come" W2 f fd)(G:Gm mg)(b:Binds K fd ["_law_term_here","_law_mark_here","_law_told"] [])(hm:mg "_law_come"=some (.ref f)):∀n:Nat,FnOk P w K mg base CX0 (n+1) f fd ["_law_term_here","_law_mark_here","_law_told"] (Ut K n)
 | 0=>⟨λz H Q E h=>by obtain⟨v,u,mk,d,kvs,D,rfl,_⟩:=h;rfl,λA outer s H J M z Q E _ _ _ _ h=>by obtain⟨v,u,mk,d,kvs,D,_,_,h,_⟩:=h;rw [Q8]at h;lia⟩
 | n+1=>OB F G ⟨f,fd,WS F G b hm n,b,F.kp,hm⟩
end
theorem MN:Gr X (λ_ _ _ _=>False):=λ_ _ _ _ _ _ _ ⟨_,_,_,_,_,h⟩=>h.elim
section
variable{K:Fg}
theorem Tb3.keep(h:Tb3 T1 T2 T3 H)(g:SX3 T1 T2 T3 H H'){u:HO}(e:H b=some u)(n:∀ps,u≠.tbl ps):H' b=some u:=by
 obtain⟨z,h1⟩:=h.m.at;obtain⟨p2,h2⟩:=h.t.at;obtain⟨D,F⟩:=h.r.at;exact g b u (QM e h1 (n z)) (QM e h2 (n p2)) (QM e F (n D)) e
theorem Tb3.rd(h:Tb3 T1 T2 T3 H)(g:SX3 T1 T2 T3 H H')(e:Rd H b (.dK kvs)):Rd H' b (.dK kvs):=by
 rcases e with e | ⟨o,e⟩
 .exact .inl (h.keep g e λ_ z=>nomatch z)
 .exact .inr ⟨o,h.keep g e λ_ z=>nomatch z⟩
theorem Pe{kvs:List (List Key×V)}{o:HO}(hd:H d=some (.dT kvs))(h:SqT K H a xs):SqT K (upd H d o) a xs:=by
 rcases h with(h | ⟨u,h⟩) | h
 .exact .inl (.inl (by rw [Qi (QM h hd (λz=>nomatch z))];exact h))
 .exact .inl (.inr ⟨u,by rw [Qi (QM h hd (λz=>nomatch z))];exact h⟩)
 .exact .inr h
theorem Vz{d:Addr}{kvs:List (List Key×V)}{o:HO}(hd:H d=some (.dT kvs)){T:Addr}{pos:Pos}{qual:Str}(h:TbS H T pos qual):TbS (upd H d o) T pos qual:=by
 rcases h with h | ⟨c,h,h2⟩
 .exact .inl (by rw [Qi (QM h hd (λz=>nomatch z))];exact h)
 .exact .inr ⟨c,by rw [Qi (QM h hd (λz=>nomatch z))];exact h,by rw [Qi (QM h2 hd (λz=>nomatch z))];exact h2⟩
end
theorem Oh{kvs:List (List Key×V)}{k:List Key}{v:V}:(putK kvs k v).length<=kvs.length+1:=by
 unfold putK;split
 .rw [aC];lia
 .simp
def Has(K:Fg)(H:Hp)(T:Tu)(kvs:List (List Key×V))(bs:List (Tree Str))(kn:List Str)(m b:Nat):Prop:=∀(md:Md)(t:Tree Str),T.ms[m]?=some md->bs[b]?=some t->kn[b]?=some md.1->QV opM 0 T.ks T.ms t (m:Int)<=400->QV opT 0 T.ks T.ms t (m:Int)<=60->∃w,valV kvs (kP (m:Int) (b:Int))=some w/\TrV K H w (QV opR dR T.ks T.ms t (m:Int))
theorem Has.mono{K:Fg}{kvs:List (List Key×V)}{bs:List (Tree Str)}{m b:Nat}(k:∀a xs,SqT K H a xs->SqT K H' a xs)(h:Has K H T kvs bs kn m b):Has K H' T kvs bs kn m b:=λmd t z D F G J=>by
 obtain⟨w,h1,h2⟩:=h md t z D F G J;exact⟨w,h1,h2.mono k⟩
theorem Has.put{K:Fg}{kvs:List (List Key×V)}{bs:List (Tree Str)}{m b m' b':Nat}{v:V}(h:Has K H T kvs bs kn m b)(hne:¬(m=m'/\b=b')):Has K H T (putK kvs (kP (m':Int) (b':Int)) v) bs kn m b:=λmd t D F G J M=>by
 obtain⟨w,h1,h2⟩:=h md t D F G J M;refine⟨w,?_,h2⟩;rw [UZ,aF ?_]
 .exact h1
 .intro z;apply hne;have e1:(m:Int)=(m':Int):=by
   have:=congrArg (λl:List Key=>l[0]?) z;exact Sum.inl.inj (aH this)
  have e2:(b:Int)=(b':Int):=by
   have:=congrArg (λl:List Key=>l[1]?) z;exact Sum.inl.inj (aH this)
  exact⟨by lia,by lia⟩
structure Run(K:Fg)(H:Hp)(tu wd lm:Addr)(sv:V)(mo:List MdT)(T:Tu):Prop where
 at':TurnAt K H tu wd lm sv mo T
 ok:TurnOk mo T
 bd:TBd T
 l10:mo.length<=4
 rp:∀m∈mo,(reprText m.2.1).length<=1000
theorem Run.mo{K:Fg}{mo:List MdT}(g:Mo K H H')(h:Run K H tu wd lm sv mo T):Run K H' tu wd lm sv mo T:=⟨g.turn h.at',h.ok,h.bd,h.l10,h.rp⟩
theorem Run.ask{K:Fg}{mo:List MdT}{t:Tree Str}(h:Run K H tu wd lm sv mo T)(ht:TrV K H rv t)(hl:lv t<=40):Ask K H tu wd lm sv mo T rv t:=⟨h.at',h.ok,h.bd,by have:=h.l10;lia,ht,hl⟩
def TbX(K:Fg)(H:Hp)(T:Tu)(lx:Addr)(ds:List Addr)(bs:List (Tree Str))(kn:List Str):Prop:=SqL K H lx (ds.map V.ref)/\∀(b:Nat)(t:Tree Str)(k:Str),bs[b]?=some t->kn[b]?=some k->∃d kvs,ds[b]?=some d/\Rd H d (.dK kvs)/\Fil K H T kvs k t T.ms.length
def XS(K:Fg)(T1 T2 T3:Addr):Sp:=λvs H Q _=>∃(tu wd lm bv lk lx:Addr)(sv:V)(mo:List MdT)(T:Tu)(bvs:List V)(bs:List (Tree Str))(kn:List Str)(ds:List Addr),vs=[.ref tu,.ref bv,.ref lk,.ref lx]/\Run K H tu wd lm sv mo T/\SqT K H bv bvs/\TrAll K H bvs bs/\(∀t∈bs,lv t<=40)/\bs.length<=4/\SqL K H lk (kn.map V.str)/\kn.length=bs.length/\(∀(b:Nat)(t:Tree Str)(k:Str),bs[b]?=some t->kn[b]?=some k->isT (QX T.ks) t k=true)/\TbX K H T lx ds bs kn/\Tb3 T1 T2 T3 H/\
 ∀(d:Addr)(kvs:List (List Key×V))(H':Hp),SX3 T1 T2 T3 H H'->Tb3 T1 T2 T3 H'->H' d=some (.dT kvs)->(∀m b,Has K H' T kvs bs kn m b)->Q (.ref d) H'
section
variable{K:Fg}
theorem XU:FnScope ["_law_turning_here","_law_branches","_law_kinds","_law_tables_here","_law_told","_law_branch","_law_mode"] ["_law_turning_here","_law_branches","_law_kinds","_law_tables_here"] (defScope V1):=(1:)
theorem OS(F:Fun K "_law_asked" "_law_asked" V1 f fd)(G:Gm mg)(RI:FnX P w K mg base 57 "turned_in" ["turning","mode","tree"] (XC K CN CG T1 T2 T3)):FnOk P w K mg base CX0 58 f fd ["_law_turning_here","_law_branches","_law_kinds","_law_tables_here"] (XS K T1 T2 T3):=by
 refine F.ok XU (13:) (λb2 A outer s H vs Q E hr h=>?_)
 .obtain⟨tu,wd,lm,bv,lk,lx,sv,mo,T,be,bs,U,ds,rfl,_⟩:=h
  rfl
 obtain⟨tu,wd,lm,bv,lk,lx,sv,mo,T,be,bs,U,ds,rfl,hR,aw,ax,bf,b3,bg,b4,bh,hX,ag,q⟩:=h;refine⟨_,(Qe (Qm (i:=4) XU.nd rfl (5:) MG)
  (Qe (QO a' rfl (QN rfl G.rng (Qa (Qq Qn rfl G.len aX (Qa (pv 1) Qc)) Qc)) (Qt (i:=5) XU.nd rfl (5:)) (Qh
   (QO a' rfl (QN rfl G.rng (Qa (Qq Qn rfl G.len aX (Qa (Qg Qk (pv 0) Qd (2:)) Qc)) Qc)) (Qt (i:=6) XU.nd rfl (5:)) (Qh
    (QP (Qx Yj (Qg Qk (Qg Ql (Qg Qk (pv 0) Qd (2:)) (pv 6) (2:)) Qd (2:)) (Qg Ql (pv 2) (pv 5) (2:)) (Qy _)) (Qh
     (QP (PW.pt (pw_and (Qx Vd (Qg Qk (Zh (Zp hr) (Qg Ql (pv 3) (pv 5) (2:)) (pv 6) (2:)) Qd (2:)) Qd (Qy _)) (pw_and1 (Qx Vd (Qg Qk (Zh (Zp hr) (Qg Ql (pv 3) (pv 5) (2:)) (pv 6) (2:)) Qd (2:)) Qd (Qy _))))) (Qh
      (XB (Zp hr) (pv 4) (QE (Qa (pv 6) (Qa (pv 5) Qc))) (Yx (EE:=λ_ _ _ _=>False) RI hr MN (Qa (pv 0) (Qa (pv 6) (Qa (Qg Qk (pv 1) (pv 5) (2:)) Qc)))) rfl)) Qw)) Qw)))))
  (Qh (Qp (pv 4))))),?_⟩
 try dsimp only [QC,Cx.nox]
 refine L2.let2 ?_
 intros
 have bi:=ax.length;have bj:(mo.map λm=>V.ref m.1).length=mo.length:=aC ..;have b5:=hR.l10;have bm:T.ms.length=mo.length:=by rw [<-hR.ok.me];exact aC ..
 refine λJ ay=>?_;have g0:=Qf ay (.dT []);have x0:SX3 T1 T2 T3 H (upd H J (.dT [])):=SX3.of g0;have aj:=ag.same g0;have ak:(upd H J (.dT [])) J=some (.dT []):=Qb;have al:Mo K H (upd H J (.dT [])):=Mo.of g0;generalize upd H J (.dT [])=H0 at x0 aj ak al ⊢;refine⟨_,rfl,bv,_,rfl,.inr (al.t _ _ aw),?_⟩;rw [bi];refine⟨_,rfl,(by show-(2^62:Int)<=(bs.length:Int);lia),(by show(bs.length:Int)<2^62;lia),?_⟩;refine let J_:J3:=(λj σ H'=>∃(c5 c6:Option V)(kvs:List (List Key×V)),σ=[some (.ref tu),some (.ref bv),some (.ref lk),some (.ref lx),some (.ref J),c5,c6]/\Mo K H H'/\(∀d Y,Rd H d (.dK Y)->Rd H' d (.dK Y))/\SX3 T1 T2 T3 H H'/\Tb3 T1 T2 T3 H'/\H' J=some (.dT kvs)/\kvs.length<=4*j/\∀m b,b<j->Has K H' T kvs bs U m b);Zc (lo:=0) (n:=(bs.length:Int).toNat) J_
  ⟨none,none,[],rfl,al,λd Y h=>ag.rd x0 h,x0,aj,ak,bK _,λm b hb=>absurd hb (7:)⟩ ?_ ?_
 .rintro j σ H1 hj ⟨c5,c6,kvs,rfl,m1,r1,x1,am,an,bn,D⟩;have az:j<bs.length:=by lia
  have ez:(0:Int)+(j:Int)=(j:Int):=by lia
  rw [ez];refine⟨_,rfl,tu,_,2,_,rfl,rfl,m1.t _ _ hR.at'.tu,rfl,lm,_,rfl,.inl (m1.l _ _ hR.at'.m.1),?_⟩;rw [bj];refine⟨_,rfl,(by show-(2^62:Int)<=(mo.length:Int);lia),(by show(mo.length:Int)<2^62;lia),?_⟩;refine let J_:J3:=(λi σ H'=>∃(c6:Option V)(kvs:List (List Key×V)),σ=[some (.ref tu),some (.ref bv),some (.ref lk),some (.ref lx),some (.ref J),some (.int (j:Int)),c6]/\Mo K H H'/\(∀d Y,Rd H d (.dK Y)->Rd H' d (.dK Y))/\SX3 T1 T2 T3 H H'/\Tb3 T1 T2 T3 H'/\H' J=some (.dT kvs)/\kvs.length<=4*j+i/\(∀m b,b<j->Has K H' T kvs bs U m b)/\∀m,m<i->Has K H' T kvs bs U m j);Zc (lo:=0) (n:=(mo.length:Int).toNat) J_
   ⟨c6,kvs,rfl,m1,r1,x1,am,an,by lia,D,λm hm=>absurd hm (7:)⟩ ?_ ?_
  .rintro i σ H2 hi ⟨c6,kvs,rfl,M,r2,x2,aa,ah,a0,D,ac⟩;have ao:i<mo.length:=by lia
   have ez:(0:Int)+(i:Int)=(i:Int):=by lia
   rw [ez];have ap:=aB ao;have a6:=aZ ao;have bo:atI (mo.map λm=>V.ref m.1) (i:Int)=some (.ref mo[i].1):=Qs (by rw [aI,ap];rfl);have aq:T.ms[i]?=some mo[i].md:=by rw [<-hR.ok.me,aI,ap];rfl
   have ai:=aB (show j<U.length by lia);have Z:=aB az;have ba:atI (U.map V.str) (j:Int)=some (.str U[j]):=Qs (by rw [aI,ai];rfl);have ad:∀{H':Hp},H'=H2->(¬(mo[i].2.1=U[j])\/¬(QV opM 0 T.ks T.ms bs[j] (i:Int)<=400/\QV opT 0 T.ks T.ms bs[j] (i:Int)<=60))->∃(c6:Option V)(kvs:List (List Key×V)),([some (.ref tu),some (.ref bv),some (.ref lk),some (.ref lx),some (.ref J),some (.int (j:Int)),some (.int (i:Int))]:L2.St)=[some (.ref tu),some (.ref bv),some (.ref lk),some (.ref lx),some (.ref J),some (.int (j:Int)),c6]/\Mo K H H'/\(∀d Y,Rd H d (.dK Y)->Rd H' d (.dK Y))/\SX3 T1 T2 T3 H H'/\Tb3 T1 T2 T3 H'/\H' J=some (.dT kvs)/\kvs.length<=4*j+(i+1)/\(∀m b,b<j->Has K H' T kvs bs U m b)/\∀m,m<i+1->Has K H' T kvs bs U m j:=λe h=>by
    subst e;refine⟨_,kvs,rfl,M,r2,x2,aa,ah,by lia,D,λm hm=>?_⟩
    by_cases ae:m<i
    .exact ac m ae
    .have:m=i:=by lia
     subst this;intro md t a1 a2 a3 a4 a5;rw [aq]at a1;rw [Z]at a2;rw [ai]at a3;cases a1;cases a2;rcases h with h | h
     .exact absurd (aH a3).symm h
     .exact absurd ⟨a4,a5⟩ h
   refine⟨_,rfl,tu,_,2,_,rfl,rfl,M.t _ _ hR.at'.tu,rfl,_,rfl,lm,_,_,_,rfl,rfl,M.l _ _ hR.at'.m.1,bo,mo[i].1,_,0,_,rfl,rfl,M.t _ _ (hR.at'.m.2 _ a6).1,rfl,_,rfl,_,rfl,lk,_,_,_,rfl,rfl,M.l _ _ bg,ba,rfl,_,rfl,Z6 (λc=>?_) (λc=>ad rfl (.inl λz=>c (bW (congrArg V.str z))))⟩;have ck:mo[i].2.1=U[j]:=V.str.inj (cJ c);obtain⟨d,Y,bp,bq,bb⟩:=hX.2 j _ _ Z ai;obtain⟨v1,a7,p1,rfl,a8⟩:=bb i mo[i].md (by rw [bm];exact ao) aq ck;rw [Jl]at a8;have ar:atI (ds.map V.ref) (j:Int)=some (.ref d):=Qs (by rw [aI,bp];rfl);have a9:=M.t _ _ a8;have as:=M.l _ _ hX.1;have au:=r2 _ _ bq;refine⟨_,rfl,_,rfl,lx,_,_,_,rfl,rfl,as,ar,_,rfl,d,.ref p1,rfl,.inl ⟨_,.inl (i:Int),au,rfl,a7.symm⟩,p1,_,0,_,rfl,rfl,a9,rfl,_,_,rfl,rfl,_,rfl,Z6 (λc1=>?_) (λc1=>?_)⟩
   .refine⟨_,rfl,_,rfl,lx,_,_,_,rfl,rfl,as,ar,_,rfl,d,.ref p1,rfl,.inl ⟨_,.inl (i:Int),au,rfl,a7.symm⟩,p1,_,1,_,rfl,rfl,a9,rfl,_,_,rfl,rfl,_,rfl,Z6 (λc2=>?_) (λc2=>?_)⟩
    .have hM:QV opM 0 T.ks T.ms bs[j] (i:Int)<=400:=by have:=cJ c1;lia
     have hT:QV opT 0 T.ks T.ms bs[j] (i:Int)<=60:=by have:=cJ c2;lia
     obtain⟨cv,br,bt⟩:=ax.get Z;have bc:isT (QX T.ks) bs[j] mo[i].2.1=true:=by rw [ck];exact bh j _ _ Z ai
     have bd:LL T (ZH (i:Int) 0) bs[j]:=⟨hM,hT⟩;refine⟨_,rfl,_,rfl,_,rfl,_,rfl,bv,_,_,cv,rfl,rfl,M.t _ _ aw,Qs br,tu,wd,lm,sv,mo,T,cv,bs[j],i,mo[i],rfl,(hR.mo M).ask (bt.mono M.t) (bf _ (aZ az)),ap,hR.rp _ a6,aa,λz=>absurd (bc.symm.trans z) (18:),λ_ _ v' H3 x3 bu bw=>?_,λ_ nf=>absurd bd nf⟩;have m3:Mo K H2 H3:=aa.mo x3;have bx:=aa.keep x3 ah λ_ z=>nomatch z;refine⟨_,rfl,_,rfl,_,rfl,(by show 2<=sizeLine;decide),λpp bz=>?_⟩;have e4:=Qf bz (.tup [.int (i:Int),.int (j:Int)]);have ab:=e4 _ _ bx;refine⟨J,_,rfl,DPut.t (k:=kP (i:Int) (j:Int)) ab Qb (by rw [QL];lia),?_⟩;have k4:∀a xs,SqT K H2 a xs->SqT K (upd (upd H3 pp (.tup [.int (i:Int),.int (j:Int)])) J (.dT (putK kvs (kP (i:Int) (j:Int)) v'))) a xs:=λa xs h=>Pe ab (e4.seqT (m3.t _ _ h));have b0:∀{b:Addr}{u:HO},H b=some u->b≠J:=λe z=>by rw [z,ay]at e;cases e
     have x4:SX3 T1 T2 T3 H (upd (upd H3 pp (.tup [.int (i:Int),.int (j:Int)])) J (.dT (putK kvs (kP (i:Int) (j:Int)) v'))):=λb u n1 n2 n3 e=>by
      rw [Qi (b0 e)];exact e4 _ _ (x3 b u n1 n2 n3 (x2 b u n1 n2 n3 e))
     have af:=bu.same e4;have b1:Tb3 T1 T2 T3 (upd (upd H3 pp (.tup [.int (i:Int),.int (j:Int)])) J (.dT (putK kvs (kP (i:Int) (j:Int)) v'))):=⟨Vz ab af.m,Vz ab af.t,Vz ab af.r⟩;have av:(putK kvs (kP (i:Int) (j:Int)) v').length<=4*j+(i+1):=by have:=Oh (kvs:=kvs) (k:=kP (i:Int) (j:Int)) (v:=v');lia
     refine⟨_,_,rfl,ag.mo x4,λd Y h=>ag.rd x4 h,x4,b1,Qb,av,λm b hb=>((D m b hb).mono k4).put (λz=>by lia),λm hm=>?_⟩
     by_cases ae:m<i
     .exact((ac m ae).mono k4).put (λz=>by lia)
     .have:m=i:=by lia
      subst this;intro md t a1 a2 a3 a4 a5;rw [Z]at a2;cases a2;refine⟨v',by rw [UZ,aE rfl],(bw.mono λ_ _=>e4.seqT).mono λ_ _ h=>Pe ab h⟩
    .exact ad rfl (.inr λz=>c2 (bW (by have:=z.2;lia)))
   .exact ad rfl (.inr λz=>c1 (bW (by have:=z.1;lia)))
  .rintro σ H2 ⟨c6,kvs,rfl,M,r2,x2,aa,ah,a0,D,ac⟩;rw [bF]at ac a0;refine⟨_,_,kvs,rfl,M,r2,x2,aa,ah,by lia,λm b hb=>?_⟩
   by_cases Z:b<j
   .exact D m b Z
   .have:b=j:=by lia
    subst this
    by_cases hm:m<mo.length
    .exact ac m hm
    .intro md t a1;have:=(aK.mp a1).1;lia
 .rintro σ H1 ⟨c5,c6,kvs,rfl,m1,r1,x1,am,an,bn,D⟩;rw [bF]at D;refine⟨_,rfl,q J kvs H1 x1 am an λm b=>?_⟩
  by_cases hb:b<bs.length
  .exact D m b hb
  .intro md t _ a2;have:=(aK.mp a2).1;lia
end
structure TbA(K:Fg)(H:Hp)(T:Tu)(lx:Addr)(es:EsL)(ns:List Nd)(ts:List (Tree Str)):Prop where
 l:SqL K H lx (es.map λe=>V.ref e.1)
 at':∀(i:Nat) e,es[i]?=some e->Rd H e.1 (.dK e.2)
 w:Whl K H T es ns ts 0
theorem TbA.sx{K:Fg}{es:EsL}(h:TbA K H T lx es ns ts)(tb:Tb3 T1 T2 T3 H)(x:SX3 T1 T2 T3 H H'):TbA K H' T lx es ns ts:=
 ⟨(tb.mo x).l _ _ h.l,λi e z=>tb.rd x (h.at' i e z),h.w.len,h.w.lo,λj e n t D h1 h2 F=>(h.w.hi j e n t D h1 h2 F).mono (tb.mo x)⟩
theorem L4(hO:WoodOk ks){t:Tree Str}{k:Str}(h:isT (QX ks) t k=true):t.bs.length<=4:=by
 obtain⟨n,m,bs⟩:=t;rw [V0 _ rfl]at h;cases e:QX ks k n with
 | none=>rw [e]at h;cases h
 | some z=>
  rw [e]at h;simp only [bD,dS]at h;have:=(N8 hO e).2;show bs.length<=4;lia
mutual
theorem VD:∀t:Tree Str,(td t).depth<=2*lv t
 | .node n m bs=>by
  have:=V4 bs;simp only [td,PyData.depth,PyData.depthAll,lv];lia
theorem V4:∀bs:List (Tree Str),PyData.depthAll (tds bs)<=2*lvs bs
 | []=>by simp [tds,PyData.depthAll]
 | b::r=>by
  have h1:=VD b;have h2:=V4 r;simp only [tds,PyData.depthAll,lvs];lia
end
structure Chd(T:Tu)(ns:List Nd)(ts:List (Tree Str))(es:EsL)(n:Nd)(t:Tree Str):Prop where
 w:t.bs.length=n.ch.length
 c:∀(a c:Nat),n.ch[a]?=some c->∃(m:Nd)(b:Tree Str)(e:Addr×List (Key×V)),ns[c]?=some m/\ts[c]?=some b/\t.bs[a]?=some b/\es[c]?=some e
 k:∃ss,QX T.ks n.kd (nmT t)=some ss/\∀(a c:Nat)(m:Nd),n.ch[a]?=some c->ns[c]?=some m->ss[a]?=some m.kd
theorem Rk{K:Fg}{lt:Addr}{us:List V}{es:EsL}(hR:Trk K H ln lt T.ks ns us ts)(hX:TbA K H T lx es ns ts){n:Nd}{t:Tree Str}(hn:ns[i]?=some n)(ht:ts[i]?=some t):Chd T ns ts es n t:=by
 obtain⟨_,_,h1,h2,M,U,D⟩:=hR.ok i n t hn ht;refine⟨h1,λa c z=>?_,M,U,λa c m z Y=>?_⟩
 .obtain⟨kk,Z,e1,_⟩:=D a c z;unfold sg at e1;rw [aI]at e1;cases F:ns[c]? with
  | none=>rw [F]at e1;cases e1
  | some m=>
   have G:=(aK.mp F).1;have J:a<t.bs.length:=by have:=(aK.mp z).1;lia
   obtain⟨_,e3⟩:=h2 a _ c (aB J) z;rw [Nat.sub_zero]at e3;exact⟨m,_,_,rfl,e3,aB J,aB (show c<es.length by rw [hX.w.len];exact G)⟩
 .obtain⟨kk,Z,e1,e2⟩:=D a c z;unfold sg at e1;rw [aI,Y]at e1;have:=aH e1;rw [e2];exact congrArg some (congrArg Prod.fst this).symm
def XH(K:Fg)(T1 T2 T3:Addr):Sp:=λvs H Q _=>∃(tu wd lm ln lt lx:Addr)(sv:V)(mo:List MdT)(T:Tu)(ns:List Nd)(us:List V)(ts:List (Tree Str))(es:EsL)(k:Nat),vs=[.ref tu,.ref ln,.ref lt,.ref lx,.int (k:Int)]/\Run K H tu wd lm sv mo T/\RlL T/\Trk K H ln lt T.ks ns us ts/\TbA K H T lx es ns ts/\k<ns.length/\Tb3 T1 T2 T3 H/\∀H':Hp,SX3 T1 T2 T3 H H'->Tb3 T1 T2 T3 H'->Q (.bl true) H'
section
variable{K:Fg}
theorem Yb:FnScope ["_law_turning_here","_law_nodes","_law_trees","_law_tables_here","_law_k","_law_kinds","_law_inner","_law_told","_law_mode","_law_found","_law_due"] ["_law_turning_here","_law_nodes","_law_trees","_law_tables_here","_law_k"] (defScope XG):=(1:)
theorem NG(F:Fun K "_law_place" "_law_place" XG f fd)(G:Gm mg)(RA:Fn P w K mg base 58 "_law_asked" ["_law_turning_here","_law_branches","_law_kinds","_law_tables_here"] (XS K T1 T2 T3))(RI:FnX P w K mg base 57 "turned_in" ["turning","mode","tree"] (XC K CN CG T1 T2 T3))(RL:Fn P w K mg base 1 "_law_rule" ["_law_turning_here","_law_mode","_law_name"] (UP K))(RC:Fn P w K mg base 9 "_law_come" ["_law_term_here","_law_mark_here","_law_told"] (Ut K 8))(RT':Fn P w K mg base 61 "_law_is_tree" ["_law_found"] (Ul K 60)):FnOk P w K mg base CX0 62 f fd ["_law_turning_here","_law_nodes","_law_trees","_law_tables_here","_law_k"] (XH K T1 T2 T3):=by
 refine F.ok Yb (13:) (λcv A outer s H vs Q E hr h=>?_)
 .obtain⟨tu,wd,lm,ln,lt,lx,sv,mo,T,ns,us,ts,es,k,rfl,_⟩:=h
  rfl
 obtain⟨tu,wd,lm,ln,lt,lx,sv,mo,T,ns,us,ts,es,k,rfl,M,hL,U,hX,hk,aa,q⟩:=h;have ce:∀m:Nat,m<=130->(A.deeper (PyProof.Rows.envOfC "_law_place" (defScope XG) s.heap.objs.size f cv)).units+m<cLine:=λm hm=>by have:=hr.un;lia
 refine⟨_,(Qe (ZA (i:=5) (CompG.many (xs:=["_law_j"]) (caps:=["_law_nodes"]) (cap:=[1]) (cs:=[_]) rfl rfl (0:) (0:) (0:) (0:) (0:) (0:) rfl rfl rfl) rfl (Q1 (Qg Ql (Qg Ql (pv 1) (pv 4) (2:)) Qd (2:))) (Zm (CompG.many (xs:=["_law_j"]) (caps:=["_law_nodes"]) (cap:=[1]) (cs:=[_]) rfl rfl (0:) (0:) (0:) (0:) (0:) (0:) rfl rfl rfl)) (λ_ _ _ _=>Q5) (λ_ _ _ _=>Qg (r:=Uj K) Ql (Qg (r:=Uj K) Ql (pv 1) (pv 0) (2:)) Qd (2:)) Yb.nd rfl rfl)
  (Qe (ZA (i:=6) (CompG.many (xs:=["_law_j"]) (caps:=["_law_tables_here"]) (cap:=[3]) (cs:=[_]) rfl rfl (0:) (0:) (0:) (0:) (0:) (0:) rfl rfl rfl) rfl (Q1 (Qg Ql (Qg Ql (pv 1) (pv 4) (2:)) Qd (2:))) (Zm (CompG.many (xs:=["_law_j"]) (caps:=["_law_tables_here"]) (cap:=[3]) (cs:=[_]) rfl rfl (0:) (0:) (0:) (0:) (0:) (0:) rfl rfl rfl)) (λ_ _ _ _=>Q5) (λ_ _ _ _=>Qg (r:=Uj K) Ql (pv 1) (pv 0) (2:)) Yb.nd rfl rfl)
  (Qe (Qm (i:=7) Yb.nd rfl (5:) (Qr RA hr (Qa (pv 0) (Qa (Qg Qk (Qg Ql (pv 2) (pv 4) (2:)) Qd (2:)) (Qa (pv 5) (Qa (pv 6) Qc))))))
  (Qe (QO a' rfl (QN rfl G.rng (Qa (Qq Qn rfl G.len aX (Qa (Qg Qk (pv 0) Qd (2:)) Qc)) Qc)) (Qt (i:=8) Yb.nd rfl (5:)) (Qh
   (QP (PW.pt (pw_and (Qx Yj (Qg Qk (Qg Ql (Qg Qk (pv 0) Qd (2:)) (pv 8) (2:)) Qd (2:)) (Qg Ql (Qg Ql (pv 1) (pv 4) (2:)) Qd (2:)) (Qy _)) (pw_and (Qx Vd (Qg Qk (Zh (Zp hr) (Qg Ql (pv 3) (pv 4) (2:)) (pv 8) (2:)) Qd (2:)) Qd (Qy _)) (pw_and1 (Qx Vd (Qg Qk (Zh (Zp hr) (Qg Ql (pv 3) (pv 4) (2:)) (pv 8) (2:)) Qd (2:)) Qd (Qy _)))))) (Qe (Qm (i:=9) Yb.nd rfl (5:) (Yx (EE:=λ_ _ _ _=>False) RI hr MN (Qa (pv 0) (Qa (pv 8) (Qa (Qg Ql (pv 2) (pv 4) (2:)) Qc)))))
  (Qe (Qm (i:=10) Yb.nd rfl (5:) (Qr RC hr (Qa (Qr RL hr (Qa (pv 0) (Qa (pv 8) (Qa (Qg Qk (Qg Ql (pv 2) (pv 4) (2:)) Qd (2:)) Qc)))) (Qa (Qg Qk (Qg Ql (pv 2) (pv 4) (2:)) Qd (2:)) (Qa (pv 7) Qc)))))
  (Qh (QP (PW.pt (pw_or (Zq (Q7 (Qr RT' hr (Qa (pv 9) Qc)))) (pw_or1 (Qx Yc (pv 9) (pv 10) (Qy _))))) (Qh (Qp Zy)) Qw)))) Qw)))
  (Qh (Qp Zy)))))),?_⟩
 try dsimp only [QC,Cx.nox]
 refine L2.let4 ?_
 intros
 have J:=aB hk;generalize ns[k]=n at J;have cf:k<ts.length:=by rw [U.len];exact hk
 have af:=aB cf;generalize ts[k]=t at af;obtain⟨bn,bo,_⟩:=U.ok k n t J af;have hC:=Rk U hX J af;have bp:=L4 M.ok.wo bn;obtain⟨tv,an,bq⟩:=U.a.get af;have dm:n.ch.length<=4:=by rw [<-hC.w];exact bp
 obtain⟨kn,cg,ao⟩: ∃kn:List Str,kn.length=n.ch.length/\∀(a c:Nat)(m:Nd),n.ch[a]?=some c->ns[c]?=some m->kn[a]?=some m.kd:=by
  refine⟨n.ch.map λc=>((ns[c]?).map λm=>m.kd).getD (S []),by rw [aC],λa c m hc hm=>?_⟩;rw [aI,hc];show some (((ns[c]?).map λm=>m.kd).getD (S []))=_;rw [hm];rfl
 obtain⟨ds,dp,br⟩: ∃ds:List Addr,ds.length=n.ch.length/\∀(a c:Nat)(e:Addr×List (Key×V)),n.ch[a]?=some c->es[c]?=some e->ds[a]?=some e.1:=by
  refine⟨n.ch.map λc=>((es[c]?).map λe=>e.1).getD 0,by rw [aC],λa c e hc he=>?_⟩;rw [aI,hc];show some (((es[c]?).map λe=>e.1).getD 0)=_;rw [he];rfl
 refine⟨_,rfl,_,rfl,ln,_,_,_,rfl,rfl,U.n.l,Zo J,n.a,_,4,_,rfl,rfl,U.n.a _ _ J,rfl,n.cl,rfl,⟨_,U.n.c _ _ J⟩,λlk bu=>?_⟩;refine let J_:JC:=(λj ys H'=>ys=(kn.take j).map V.str/\H' lk=some (.lst ys)/\Same H H');ZD (K:=K) (xs:=NI n.ch) (cs:=[some (.ref ln)]) (tt:=λ_ H Q=>Q true H) J_ ⟨rfl,Qb,Qf bu _⟩ ?_ ?_ ?_
 .rintro j ys H' _ ⟨_,_,g⟩;exact(U.n.same g).c _ _ J
 .rintro j y ys H1 hj hy ⟨rfl,ap,g⟩;have Z:j<n.ch.length:=by simpa using hj
  obtain rfl:y=.int ((n.ch[j]:Nat):Int):=by
   rw [aI,aB Z]at hy;exact(aH hy).symm
  obtain⟨m,b,e,hm,_,_,_⟩:=hC.c j _ (aB Z);have hN:=U.n.same g;refine Zd ⟨_,rfl,_,rfl,ln,_,_,_,rfl,rfl,hN.l,Zo hm,m.a,_,0,_,rfl,rfl,hN.a _ _ hm,rfl,?_⟩;refine Qz hj ap (by rw [aC,cA];lia) ⟨?_,Qb,λz o e=>by rw [Qi (Qj e bu)];exact g _ _ e⟩;rw [b_,ao j _ m (aB Z) hm,aR];rfl
 rintro ys H1 ⟨rfl,aq,g1⟩;rw [show(NI n.ch).length=n.ch.length from aC ..,bL (7:)]at aq;have ai:=U.n.same g1;refine⟨_,rfl,_,rfl,ln,_,_,_,rfl,rfl,ai.l,Zo J,n.a,_,4,_,rfl,rfl,ai.a _ _ J,rfl,n.cl,rfl,⟨_,ai.c _ _ J⟩,λli bv=>?_⟩;have ci:=g1.seq hX.l;refine let J_:JC:=(λj ys H'=>ys=(ds.take j).map V.ref/\H' li=some (.lst ys)/\Same H1 H');ZD (K:=K) (xs:=NI n.ch) (cs:=[some (.ref lx)]) (tt:=λ_ H Q=>Q true H) J_ ⟨rfl,Qb,Qf bv _⟩ ?_ ?_ ?_
 .rintro j ys H' _ ⟨_,_,g⟩;exact(ai.same g).c _ _ J
 .rintro j y ys H2 hj hy ⟨rfl,ap,g⟩;have Z:j<n.ch.length:=by simpa using hj
  obtain rfl:y=.int ((n.ch[j]:Nat):Int):=by
   rw [aI,aB Z]at hy;exact(aH hy).symm
  obtain⟨m,b,e,hm,_,_,he⟩:=hC.c j _ (aB Z);refine Zd ⟨_,rfl,_,rfl,lx,_,_,_,rfl,rfl,g.seq ci,Qs (by rw [aI,he];rfl),?_⟩;refine Qz hj ap (by rw [aC,cA];lia) ⟨?_,Qb,λz o e=>by rw [Qi (Qj e bv)];exact g _ _ e⟩;rw [b_,br j _ e (aB Z) he,aR];rfl
 rintro ys H2 ⟨rfl,ar,g2⟩;rw [show(NI n.ch).length=n.ch.length from aC ..,bL (7:)]at ar;have aj:=g1.trans g2;have as:Mo K H H2:=Mo.of aj;have au:=aa.same aj;have bw:TbA K H2 T lx es ns ts:=hX.sx aa (SX3.of aj);have cw:=M.mo as;have cj:TrV K H2 tv t:=bq.mono as.t;have cm:=as.l _ _ U.t;cases cj with
 | @mk a b cx bs name D a1 a2 a3 a4=>
 have bx:∀{j:Nat}{bt:Tree Str}{kk:Str},bs[j]?=some bt->kn[j]?=some kk->∃(c:Nat)(m:Nd)(e:Addr×List (Key×V)),n.ch[j]?=some c/\ns[c]?=some m/\ts[c]?=some bt/\es[c]?=some e/\m.kd=kk:=λ{j bt kk} hb ab=>by
  have av:j<n.ch.length:=by
   have:=(aK.mp ab).1;lia
  obtain⟨m,b',e,e1,e2,e3,e4⟩:=hC.c j _ (aB av);have e5:=ao j _ m (aB av) e1;have bz:bs[j]?=some b':=e3;rw [hb]at bz;cases bz;rw [ab]at e5;exact⟨_,m,e,aB av,e1,e2,e4,(aH e5).symm⟩
 have cy:TbX K H2 T li ds bs kn:=⟨SqL.of ar,λj bt kk hb ab=>by
  obtain⟨c,m,e,e1,e2,e3,e4,e5⟩:=bx hb ab;exact⟨e.1,e.2,br j c e e1 e4,bw.at' _ _ e4,by rw [<-e5];exact bw.w.hi c e m bt (bK _) e4 e2 e3⟩⟩
 have b0:lv (Tree.node name D bs)=1+lvs bs:=by simp only [lv]
 rw [b0]at bo;refine⟨_,rfl,_,rfl,_,rfl,lt,_,_,_,rfl,rfl,cm,Qs an,a,_,2,_,rfl,rfl,a1,rfl,_,rfl,_,rfl,tu,wd,lm,b,lk,li,sv,mo,T,cx,bs,kn,ds,rfl,cw,a2,a3,λu hu=>by have:=ZI hu;lia,bp,SqL.of (g2 _ _ aq),by rw [cg];exact hC.w.symm,λj bt kk hb ab=>?_,cy,au,λd kvs H3 x3 ak cz cn=>?_⟩
 .obtain⟨c,m,e,e1,e2,e3,e4,e5⟩:=bx hb ab;rw [<-e5];exact(U.ok c m bt e2 e3).1
 have aw:SX3 T1 T2 T3 H H3:=(SX3.of aj).trans x3;have b2:Mo K H H3:=aa.mo aw;have c0:(mo.map λm=>V.ref m.1).length=mo.length:=aC ..;have dq:=M.l10;refine⟨_,rfl,tu,_,2,_,rfl,rfl,b2.t _ _ M.at'.tu,rfl,lm,_,rfl,.inl (b2.l _ _ M.at'.m.1),?_⟩;rw [c0];refine⟨_,rfl,(by show-(2^62:Int)<=(mo.length:Int);lia),(by show(mo.length:Int)<2^62;lia),?_⟩;refine let J_:J3:=(λi σ H'=>∃c8 c9 ax:Option V,σ=[some (.ref tu),some (.ref ln),some (.ref lt),some (.ref lx),some (.int (k:Int)),some (.ref lk),some (.ref li),some (.ref d),c8,c9,ax]/\SX3 T1 T2 T3 H3 H'/\Tb3 T1 T2 T3 H');Zc (lo:=0) (n:=(mo.length:Int).toNat) J_
  ⟨none,none,none,rfl,SX3.of (Same.refl _),ak⟩ ?_ ?_
 .rintro i σ H4 hi ⟨c8,c9,ax,rfl,x4,ac⟩;have ay:i<mo.length:=by lia
  have ez:(0:Int)+(i:Int)=(i:Int):=by lia
  rw [ez];have az:=aw.trans x4;have a0:Mo K H H4:=aa.mo az;have ag:=hX.sx aa az;have a5:=U.mono a0;have al:=M.mo a0;have co:TrV K H4 (.ref a) (.node name D bs):=bq.mono a0.t;have ad:=aB ay;have b3:=aZ ay;have c3:atI (mo.map λm=>V.ref m.1) (i:Int)=some (.ref mo[i].1):=Qs (by rw [aI,ad];rfl);have Y:T.ms[i]?=some mo[i].md:=by rw [<-M.ok.me,aI,ad];rfl
  have c4:T.ms.length=mo.length:=by rw [<-M.ok.me];exact aC ..
  refine⟨_,rfl,tu,_,2,_,rfl,rfl,al.at'.tu,rfl,_,rfl,lm,_,_,_,rfl,rfl,al.at'.m.1,c3,mo[i].1,_,0,_,rfl,rfl,(al.at'.m.2 _ b3).1,rfl,_,rfl,_,rfl,ln,_,_,_,rfl,rfl,a5.n.l,Zo J,n.a,_,0,_,rfl,rfl,a5.n.a _ _ J,rfl,rfl,_,rfl,Z6 (λc=>?_) (λc=>⟨_,_,_,rfl,x4,ac⟩)⟩;have ck:mo[i].2.1=n.kd:=V.str.inj (cJ c);have c5:k<es.length:=by rw [hX.w.len];exact hk
  have am:=aB c5;obtain⟨v1,b4,p1,rfl,a6⟩:=ag.w.hi k _ n _ (bK _) am J af i mo[i].md (by rw [c4];exact ay) Y ck;rw [Jl]at a6;have a7:atI (es.map λe=>V.ref e.1) (k:Int)=some (.ref es[k].1):=Qs (by rw [aI,am];rfl);refine⟨_,rfl,_,rfl,lx,_,_,_,rfl,rfl,ag.l,a7,_,rfl,es[k].1,.ref p1,rfl,.inl ⟨_,.inl (i:Int),ag.at' _ _ am,rfl,b4.symm⟩,p1,_,0,_,rfl,rfl,a6,rfl,_,_,rfl,rfl,_,rfl,Z6 (λc1=>?_) (λc1=>⟨_,_,_,rfl,x4,ac⟩)⟩;refine⟨_,rfl,_,rfl,lx,_,_,_,rfl,rfl,ag.l,a7,_,rfl,es[k].1,.ref p1,rfl,.inl ⟨_,.inl (i:Int),ag.at' _ _ am,rfl,b4.symm⟩,p1,_,1,_,rfl,rfl,a6,rfl,_,_,rfl,rfl,_,rfl,Z6 (λc2=>?_) (λc2=>⟨_,_,_,rfl,x4,ac⟩)⟩;have hM:QV opM 0 T.ks T.ms (.node name D bs) (i:Int)<=400:=by have:=cJ c1;lia
  have b5:QV opT 0 T.ks T.ms (.node name D bs) (i:Int)<=60:=by have:=cJ c2;lia
  have a8:isT (QX T.ks) (.node name D bs) mo[i].2.1=true:=by rw [ck];exact bn
  refine⟨_,rfl,_,rfl,_,rfl,_,rfl,lt,_,_,_,rfl,rfl,a5.t,Qs an,tu,wd,lm,sv,mo,T,(.ref a),.node name D bs,i,mo[i],rfl,al.ask co (by rw [b0];exact bo),ad,M.rp _ b3,ac,λz=>absurd (a8.symm.trans z) (18:),λ_ _ v5 H5 x5 c6 b6=>?_,λ_ nf=>absurd ⟨hM,b5⟩ nf⟩;have c7:=az.trans x5;have b7:Mo K H H5:=aa.mo c7;have b8:=U.mono b7;have a9:=M.mo b7;have b1:SqT K H5 a [.str name,.int D,.ref b]:=(ak.mo (x4.trans x5)).t _ _ ((au.mo x3).t _ _ a1);obtain⟨ss,da,cp⟩:=hC.k;have ba:QX T.ks mo[i].md.1 name=some ss:=by rw [show mo[i].md.1=n.kd from ck];exact da
  obtain⟨u,b9,bc,ca⟩:=Um M.ok.ok (aN Y) ba;have ae:∀{α:Type}{op:Lab->Int->List α->α}{dd:α},QV op dd T.ks T.ms (.node name D bs) (i:Int)=valT op dd T u (.node name D bs):=λ{α op dd}=>Zr (by rw [bF];exact Y) b9;obtain⟨be,db,dc,de⟩:=JG a8;have df:be=ss:=aH (db.symm.trans ba);subst df;have cb:St T (u,.node name D bs):=⟨be,bc,dc,de⟩;obtain⟨q1,q2,q3⟩:=Vr M.ok.ok hL _ u (.node name D bs) (4:) cb;have ah:=q3 (hL _ (aN Y) u ca);have bf:atI us (k:Int)=some (.ref a):=Qs an;refine⟨_,rfl,_,rfl,_,rfl,_,rfl,lt,_,_,_,rfl,rfl,b8.t,bf,a,_,0,_,rfl,rfl,b1,rfl,tu,wd,lm,sv,i,name,T.ks,mo,mo[i],rfl,a9.at'.tu,a9.at'.w,M.ok.wo,a9.at'.m,ad,?_,M.ok.ne ad,λv6 H6 g6 cc=>?_⟩
  .obtain⟨m',e1,e2,e3⟩:=M.ok.get Y;rw [ad]at e1;cases e1;exact e3
  rw [b9]at cc;refine⟨_,rfl,_,rfl,lt,_,_,_,rfl,rfl,g6.seq b8.t,bf,a,_,1,_,rfl,rfl,g6.seqT b1,rfl,_,rfl,v6,u,D,d,kvs,λm b=>(bs[b.toNat]?).elim dR λt=>QV opR dR T.ks T.ms t m,rfl,cc,(M.bd _ (aN Y) u ca).1,.inl (g6 _ _ (ak.keep (x4.trans x5) cz λ_ z=>nomatch z)),λc hc=>?_,λv7 H7 g7 dg=>?_⟩
  .obtain⟨m,bb⟩:=c;obtain⟨ct,bg,vv,k0,k1,k2,k3,k4,k5,k6⟩:=cb.call M.ok.ok (Ux hc);have dh:=Nr (T:=T) (r:=.node name D bs) hc k2;rw [<-ae,<-ae]at dh;have bh:bs[bb.toNat]?=some ct:=k2;have hf:YV (mks T.ms) be (m,bb)=true:=by
    unfold Ys at bc;exact dX.mp bc _ (Ux hc)
   obtain⟨_,_,_,_,f5⟩:=YH hf;have bi:bb.toNat<n.ch.length:=by rw [<-hC.w];exact(aK.mp bh).1
   obtain⟨mm,bt,ee,z1,z2,z3,z4⟩:=hC.c bb.toNat _ (aB bi);have di:=cp bb.toNat _ mm (aB bi) z1;have dj:=ao bb.toNat _ mm (aB bi) z1;have cq:(mks T.ms)[m.toNat]?=some bg.1:=by unfold mks;rw [aI,k3];rfl
   have dl:kn[bb.toNat]?=some bg.1:=by rw [dj,<-di,<-f5,cq]
   have em:((m.toNat:Nat):Int)=m:=cG k1;have eb:((bb.toNat:Nat):Int)=bb:=cG k0;obtain⟨ww,w1,w2⟩:=cn m.toNat bb.toNat bg ct k3 bh dl (by rw [em];lia) (by rw [em];lia);rw [em,eb]at w1;rw [em]at w2;refine⟨ww,w1,?_⟩;show TrV K H6 ww ((bs[bb.toNat]?).elim dR λt=>QV opR dR T.ks T.ms t m);rw [bh];exact(w2.mono (ak.mo (x4.trans x5)).t).mono λ_ _=>g6.seqT
  have cr:TrV K H7 v7 (valT opR dR T u (.node name D bs)):=dg;have bj:TrV K H5 v5 (valT opR dR T u (.node name D bs)):=by
   have e:Yp T (ZH (i:Int) 0) (.node name D bs)=QV opR dR T.ks T.ms (.node name D bs) (i:Int):=rfl;rw [e,ae]at b6;exact b6
  have cu:lv (valT opR dR T u (.node name D bs))<=60:=by rw [q2,<-ae];exact b5
  have bm:=g6.trans g7;refine⟨_,rfl,v5,_,rfl,bj.mono λ_ _=>bm.seqT,cu,λH8 g8=>⟨_,rfl,Zf ?_⟩⟩;have dn:=VD (valT opR dR T u (.node name D bs));refine⟨_,rfl,_,rfl,_,_,TrV.rd (bj.mono λ_ _=>(bm.trans g8).seqT),TrV.rd (cr.mono λ_ _=>g8.seqT),ah,ah,ce _ (aY (Nat.min_le_left _ _) (7:)),_,rfl,?_⟩;rw [aE rfl,ZV _ ah];refine Zf ?_;have gx:=bm.trans g8;exact⟨_,_,_,rfl,(x4.trans x5).trans (SX3.of gx),c6.same gx⟩
 .rintro σ H4 ⟨c8,c9,ax,rfl,x4,ac⟩;exact q H4 (aw.trans x4) ac
end
end K27
namespace L2
open PySem PySem.Spec PyProof.Rows HT
theorem Ua{t sl:Addr}{lo:Option Int}(ht:IsTup s.heap t items)(hs:s.heap.IsSliceOf sl vl vu .none)(pl:IsPart vl lo)(pu:IsPart vu hi)
 (hw:sIx items.size 0 lo=0/\sIx items.size items.size hi=items.size) (h:Q (.ref t) s):wpAny (11:) A (getItem (.ref t) (.ref sl)) Q E s:=by
 obtain⟨J,D,F,M⟩:=id hs;have G:s.TypeIs (.ref sl) "slice":=⟨J,D,F⟩;unfold getItem
 try with_reducible refine cF ?_
 first | refine aA (aD ?_) | skip
 refine aA (wpAny_sequenceKey ht.typeIs (18:) ?_);refine aA (cV (name:=Str.ofString "__getitem__") ht.typeIs fO
  (cH fO ht.typeIs entry_tuple_getitem ?_ (args_tuple_getitem _ _)))
 show wpAny _ _ (Builtin.Tuple.tupleItemsOf (.ref t)>>=_) _ _ s;refine aA (tupleItemsOf_ ht ?_);refine aA (fL G ?_);rw [aE (18:)];refine aA (ZW hs pl pu ?_);have z:((((sIx items.size 0 lo:Nat):Int)==0&&(1:Int)==1&&(sIx items.size items.size hi-sIx items.size 0 lo)==items.size)=true):=by
  rw [hw.1,hw.2];simp
 show wpAny _ _ (if(((sIx items.size 0 lo:Nat):Int)==0&&(1:Int)==1&&(sIx items.size items.size hi-sIx items.size 0 lo)==items.size)=true then _ else _) _ _ s;rw [aE z]
 first
  | refine aA (m:=Builtin.Tuple.tupleIsExact _) (aA (fL ht.typeIs (aD ?_)))
  | refine aA (aA (m:=Builtin.Tuple.tupleIsExact _) (aA (fL ht.typeIs (aD ?_))))
 rw [aE (18:)];exact aA (cI (aD ⟨_,rfl,aD h⟩))
def SZ(K:Fg):V->Option Int->Option Int->Hp->VK->Prop:=λx lo hi H Q=>∃a xs,x=.ref a/\SqT K H a xs/\∀p H',Same H H'->SqT K H' p (cutV xs lo hi)->Q (.ref p) H'
theorem OA:SlR X (SZ X.K):=by
 intro pins s σ H x v Z vu lo hi sl Q I G J M U h;obtain⟨a,xs,rfl,D,q⟩:=h
 by_cases z:HT.sIx xs.length 0 lo=0/\HT.sIx xs.length xs.length hi=xs.length
 .cases G;obtain⟨its,r,Y,hz⟩:=I.tuple D;have F:its.toArray.size=xs.length:=by rw [aV];exact r.length.symm
  refine⟨"tuple",_,fO.lookup,Y.typeIs,?_⟩;refine Ua Y J M U (by rw [F];exact z) ⟨.ref a,H,I,rfl,q a H (Same.refl _) ?_⟩;have e:cutV xs lo hi=xs:=by
   unfold cutV;rw [z.1,z.2,List.drop_zero,Nat.sub_zero,List.take_length]
  rw [e];exact D
 .exact Rx pins s σ H _ v Z vu lo hi sl Q I G J M U ⟨a,xs,rfl,D,z,λp hp=>q p _ (Qf hp _) (SqT.of Qb)⟩
end L2
namespace K27
open PySem L2 TM TT K9 K11
theorem VW:∀{l:List Nat}{A t:Tree Str},LayT A->atP A l=some t->LayT t
 | [],A,t,h,e=>by cases e;exact h
 | j::l,A,t,h,e=>by
  simp only [atP]at e;cases z:A.bs[j]? with
  | none=>rw [z]at e;cases e
  | some c=>rw [z]at e;exact VW (h.bs c (aN z)) e
theorem Pj{t:Tree Str}(h:LayT t):PyData.strOk (nmT t)=true:=by
 obtain⟨n,m,bs⟩:=t;unfold LayT at h;simp only [td,PyData.canLay0,PyData.canLayAll0,bD]at h;exact h.1
theorem On(ts:List (Tree Str)):PyData.eqv (.tuple (tds ts)) (.tuple [])=ts.isEmpty:=by
 cases ts<;>simp [tds,PyData.eqv,PyData.eqvAll]
abbrev lbD(t:Tree Str):PyData:=.tuple [.str (nmT t),.int (mkT t),.int ((t.bs.length:Nat):Int)]
theorem Vl{t:Tree Str}(h:PyData.strOk (nmT t)=true):(lbD t).canLay0=true:=by simp [PyData.canLay0,PyData.canLayAll0,h]
structure Dn(K:Fg)(H H':Hp)(A:Tree Str)(hv:V)(wa ld:Addr)(l:List Nat)(t:Tree Str)(ps:List Addr):Prop where
 g:Same H H'
 tr:TrV K H' hv t
 at':atP A l=some t
 w:SqT K H' wa (l.map λj:Nat=>V.int (j:Int))
 d:H' ld=some (.lst (ps.map V.ref))
 n:H ld=none
 ln:ps.length=l.length+1
 lb:∀(i:Nat) p,ps[i]?=some p->∃t',atP A (l.take i)=some t'/\SqT K H' p [.str (nmT t'),.int (mkT t'),.int ((t'.bs.length:Nat):Int)]
 lv:l.length+TM.lv t<=60
def Ml(K:Fg):Sp:=λvs H Q _=>∃(tu wd lm:Addr)(sv:V)(mo:List MdT)(T:Tu)(rv mv:V)(r A:Tree Str)(c:Int),vs=[.ref tu,rv,mv,.int c]/\TurnAt K H tu wd lm sv mo T/\TurnOk mo T/\TrV K H rv r/\isT (QX T.ks) r T.k0=true/\lv r<=40/\TrV K H mv A/\A=Yp T T.start r/\LayT A/\lv A<=60/\∀H':Hp,Same H H'->Q (.bl true) H'
section
variable{K:Fg}
theorem YN:FnScope ["_law_turning_here","_law_tree","_law_made_of","_law_cell","_law_here","_law_way_here","_law_number","_law_due","_law_k","_law_found"] ["_law_turning_here","_law_tree","_law_made_of","_law_cell"] (defScope OG):=(1:)
theorem RQ(F:Fun K "_law_way" "_law_way" OG f fd)(G:Gm mg)(RM:Fn P w K mg base 1 "_law_mixed" ["_law_cell","_law_k"] Zt)(RS:Fn P w K mg base 45 "seen" ["turning","tree","place"] (VI K)):FnOk P w K mg base CX0 46 f fd ["_law_turning_here","_law_tree","_law_made_of","_law_cell"] (Ml K):=by
 refine F.ok YN (13:) (λbv A0 outer s H vs Q E hr h=>?_)
 .obtain⟨tu,wd,lm,sv,mo,T,rv,mv,r,A,c,rfl,_⟩:=h
  rfl
 obtain⟨tu,wd,lm,sv,mo,T,rv,mv,r,A,c,rfl,hT,hO,bw,aj,ak,a9,eA,al,bm,q⟩:=h;have am:∀m:Nat,m<=130->(A0.deeper (PyProof.Rows.envOfC "_law_way" (defScope OG) s.heap.objs.size f bv)).units+m<cLine:=λm hm=>by have:=hr.un;lia
 refine⟨_,(Qe (Qm (i:=4) YN.nd rfl (5:) (pv 2))
  (Qe (Qm (i:=5) YN.nd rfl (5:) (QE Qc))
  (Qe (Qm (i:=6) YN.nd rfl (5:) (Qr RM hr (Qa (pv 3) (Qa (Qd) Qc))))
  (Qe (Qm (i:=7) YN.nd rfl (5:) (QH (Qa ((QE (Qa (Qg Qk (pv 4) Qd (2:)) (Qa (Qg Qk (pv 4) Qd (2:)) (Qa (Qq Qn rfl G.len aX (Qa (Qg Qk (pv 4) Qd (2:)) Qc)) Qc))))) Qc)))
  (Qe (W9 a' (Qx Yc (Qg Qk (pv 4) Qd (2:)) (QE Qc) (Qy _)) (Qe (Qm (i:=5) YN.nd rfl (5:) (Qo X2 (pv 5) (QE (Qa (Qo QB (pv 6) (Qq Qn rfl G.len aX (Qa (Qg Qk (pv 4) Qd (2:)) Qc))) Qc))))
  (Qe (Qm (i:=4) YN.nd rfl (5:) (Qg Qk (Qg Qk (pv 4) Qd (2:)) (Qg Qk (pv 5) (SG R0 Qd) (2:)) (2:)))
  (Qe (Qm (i:=6) YN.nd rfl (5:) (Qr RM hr (Qa (pv 6) (Qa (Qd) Qc))))
  (Qh (QS (ZJ cN dM dN Q4 (pv 7) (Qa ((QE (Qa (Qg Qk (pv 4) Qd (2:)) (Qa (Qg Qk (pv 4) Qd (2:)) (Qa (Qq Qn rfl G.len aX (Qa (Qg Qk (pv 4) Qd (2:)) Qc)) Qc))))) Qc))))))))
  (Qe (QO a' rfl (Q1 (QH (Qa (Qo QB (pv 6) (Qq Qn rfl G.len aX (Qa (pv 7) Qc))) (Qa (Qq Qn rfl G.len aX (Qa (pv 5) Qc)) Qc)))) (Qt (i:=8) YN.nd rfl (5:)) (Qe (Qm (i:=9) YN.nd rfl (5:) (Qr RS hr (Qa (pv 0) (Qa (pv 1) (Qa (Z0 OA (pv 5) UM (ZP (pv 8))) Qc)))))
  (Qh (QP (PW.pt (pw_or (Zq (Q7 (Qq Z4 rfl G.isi fA (Qa (pv 9) (Qa (Z9 (v:=.ty "tuple") rfl G.tup eP rfl) Qc))))) (pw_or1 (Qx Yc (pv 9) (Qg Ql (pv 7) (pv 8) (2:)) (Qy _))))) (Qh (Qp Zy)) Qw))))
  (Qh (Qp (Yi Na (Qr RS hr (Qa (pv 0) (Qa (pv 1) (Qa (Qo X2 (pv 5) (QE (Qa (Qd) Qc))) Qc)))) Z8 (Qy _)))))))))),?_⟩
 try dsimp only [QC,Cx.nox]
 refine L2.let6 ?_
 intros
 have an:∀{Hx:Hp}{v:V}{t:Tree Str},TrV K Hx v t->∃(a b:Addr)(us:List V),v=.ref a/\SqT K Hx a [.str (nmT t),.int (mkT t),.ref b]/\SqT K Hx b us/\TrAll K Hx us t.bs/\us.length<=1000:=λh=>by
  cases h with
  | mk a1 a2 a3 a4=>exact⟨_,_,_,rfl,a1,a2,a3,a4⟩
 obtain⟨a,b,us,rfl,a1,a2,a3,a4⟩:=an a9;have bx:=a3.length;refine⟨_,rfl,(21:),λM ba=>?_⟩;have e1:=Qf ba (.tup []);refine⟨_,rfl,c,19,rfl,by decide,by decide,λx x0 x1=>?_⟩;refine⟨_,rfl,a,_,0,_,rfl,rfl,e1.seqT a1,rfl,_,rfl,a,_,1,_,rfl,rfl,e1.seqT a1,rfl,_,rfl,a,_,2,_,rfl,rfl,e1.seqT a1,rfl,b,_,rfl,.inr (e1.seqT a2),(by show 3<=sizeLine;decide),λp0 ac=>⟨(by show 1<=sizeLine;decide),λZ ao=>?_⟩⟩;have e2:=Qf ac (.tup [.str (nmT A),.int (mkT A),.int ((us.length:Nat):Int)]);have e3:=Qf ao (.lst [.ref p0]);have ae:=e1.trans (e2.trans e3);have bn:H Z=none:=(e1.trans e2).free ao;have ap:Dn K H _ A (.ref a) M Z [] A [p0]:=⟨ae,a9.mono λ_ _=>ae.seqT,rfl,(e2.trans e3).seqT (SqT.of Qb),Qb,bn,rfl,λi p hp=>by
  match i,hp with
  | 0,hp=>
   cases hp;refine⟨A,rfl,?_⟩;rw [<-bx];exact e3.seqT (SqT.of Qb)
  | n+1,hp=>simp at hp,by simpa using bm⟩
 generalize upd (upd (upd H M (.tup [])) p0 (.tup [.str (nmT A),.int (mkT A),.int ((us.length:Nat):Int)])) Z (.lst [.ref p0])=H3 at ap ⊢;refine⟨λm σ H'=>∃(hv:V)(M:Addr)(l:List Nat)(t:Tree Str)(ps:List Addr)(D:Int),m=lv t/\σ=[some (.ref tu),some rv,some (.ref a),some (.int c),some hv,some (.ref M),some (.int D),some (.ref Z),none,none]/\0<=D/\Dn K H H' A hv M Z l t ps,⟨_,_,M,[],A,[p0],x,rfl,rfl,x0,ap⟩,?_⟩;clear ap ae e3 e2 e1 ao ac ba;rintro m σ H4 ⟨hv,M,l,t,ps,D,rfl,rfl,ci,U⟩;obtain⟨ta,tb,ws,rfl,t1,t2,t3,t4⟩:=an U.tr;have bz:=t3.length;have b0:=VW al U.at';refine⟨_,rfl,ta,_,2,_,rfl,rfl,t1,rfl,(21:),λpe b1=>?_⟩;have ee:=Qf b1 (.tup []);have bo:(PyData.tuple (tds t.bs)).canLay0=true:=by simp only [PyData.canLay0];exact Xw _ b0.bs
 refine⟨_,.tuple [],.tup (ee.seqT t2) (TrAll.rd (t3.mono λ_ _=>ee.seqT)),.tup (SqT.of Qb) .nil,bo,by decide,am _ (aY (fG _ _) (by simp [PyData.depth,PyData.depthAll])),_,rfl,?_⟩;rw [aE rfl,On];have g5:=U.g.trans ee;have aq:=ee.seqT t1;have ar:=ee.seqT t2;have bb:TrAll K _ ws t.bs:=t3.mono λ_ _=>ee.seqT;have w':=ee.seqT U.w;have d':=ee _ _ U.d;have as:∀(i:Nat) p,ps[i]?=some p->∃J,atP A (l.take i)=some J/\SqT K (upd H4 pe (.tup [])) p [.str (nmT J),.int (mkT J),.int ((J.bs.length:Nat):Int)]:=λi p h=>by
  obtain⟨J,h1,h2⟩:=U.lb i p h;exact⟨J,h1,ee.seqT h2⟩
 generalize upd H4 pe (.tup [])=H5 at g5 aq ar bb w' d' as ⊢;cases bc:t.bs with
 | cons c0 cr=>
  have cg:0<ws.length:=by rw [bz,bc];simp
  refine Zd ⟨λch H'=>∃m',m'<lv t/\∃(hv:V)(M:Addr)(l:List Nat)(t:Tree Str)(ps:List Addr)(D:Int),m'=lv t/\ch=[some (.ref tu),some rv,some (.ref a),some (.int c),some hv,some (.ref M),some (.int D),some (.ref Z),none,none]/\0<=D/\Dn K H H' A hv M Z l t ps,λ_ _ h=>h,?_⟩;have ac:(0:Int)<(ws.length:Int):=by lia
  have z0:0<=D%(ws.length:Int):=bR _ (7:);have z1:D%(ws.length:Int)<(ws.length:Int):=bP _ ac;obtain⟨j,hj,cj⟩: ∃j:Nat,D%(ws.length:Int)=(j:Int)/\j<ws.length:=⟨(D%(ws.length:Int)).toNat,by lia,by lia⟩;refine⟨_,rfl,_,rfl,_,rfl,ta,_,2,_,rfl,rfl,aq,rfl,tb,_,rfl,.inr ar,_,_,rfl,rfl,ac,(by show 1<=sizeLine;decide),λp1 au=>?_⟩;have e1:=Qf au (.tup [.int (D%(ws.length:Int))]);have bp:l.length<=60:=by have:=U.lv;lia
  refine⟨M,p1,_,_,rfl,rfl,e1.seqT w',SqT.of Qb,(by rw [aC];exact Zg (by simp;lia)),λwb H6 g6 bq=>?_⟩;have bd:SqT K H6 wb ((l++[j]).map λj:Nat=>V.int (j:Int)):=by
   rw [aR];have:SqT K H6 wb ((l.map λj:Nat=>V.int (j:Int))++[V.int (D%(ws.length:Int))]):=bq;rw [hj]at this;exact this
  have e6:=e1.trans g6;obtain⟨Y,av⟩: ∃Y,t.bs[j]?=some Y:=⟨_,aB (7:)⟩;obtain⟨cv,b2,br⟩:=bb.get av;have a8:atI ((l++[j]).map λj:Nat=>V.int (j:Int)) (-1)=some (.int (j:Int)):=by
   rw [aR];exact NK _ _
  refine⟨_,rfl,ta,_,2,_,rfl,rfl,e6.seqT aq,rfl,_,rfl,_,rfl,wb,_,_,_,rfl,rfl,bd,a8,tb,_,_,cv,rfl,rfl,e6.seqT ar,Qs b2,?_⟩;refine⟨_,rfl,D,19,rfl,by decide,by decide,λy y0 y1=>?_⟩;have ag:TrV K H6 cv Y:=br.mono λ_ _=>e6.seqT;obtain⟨ca,cb,ah,rfl,c1,c2,c3,c4⟩:=an ag;have d6:=e6 _ _ d';have aw:=U.ln;refine⟨_,rfl,.inl ⟨rfl,_,SqL.of d6⟩,_,rfl,ca,_,0,_,rfl,rfl,c1,rfl,_,rfl,ca,_,1,_,rfl,rfl,c1,rfl,_,rfl,ca,_,2,_,rfl,rfl,c1,rfl,cb,_,rfl,.inr c2,(by show 3<=sizeLine;decide),λp2 b3=>?_⟩;have e7:=Qf b3 (.tup [.str (nmT Y),.int (mkT Y),.int ((ah.length:Nat):Int)]);have d7:=e7 _ _ d6;refine⟨Z,_,_,rfl,rfl,d7,by rw [aC,QL];lia,?_⟩;have kk:∀a xs,SqT K (upd H6 p2 (.tup [.str (nmT Y),.int (mkT Y),.int ((ah.length:Nat):Int)])) a xs->SqT K (upd (upd H6 p2 (.tup [.str (nmT Y),.int (mkT Y),.int ((ah.length:Nat):Int)])) Z (.lst (ps.map V.ref++[.ref p2]))) a xs:=λa xs h=>h.put d7;have g8:Same H (upd (upd H6 p2 (.tup [.str (nmT Y),.int (mkT Y),.int ((ah.length:Nat):Int)])) Z (.lst (ps.map V.ref++[.ref p2]))):=λz o e=>by
   rw [Qi (Qj e U.n)];exact e7 _ _ (e6 _ _ (g5 _ _ e))
  have ck:=ZI (aN av);have cm:=Q8 t;have ax:atP A (l++[j])=some Y:=by rw [U0,U.at'];exact av
  refine⟨lv Y,by lia,_,wb,l++[j],Y,ps++[p2],y,rfl,rfl,y0,⟨g8,ag.mono λ_ _ h=>kk _ _ (e7.seqT h),ax,kk _ _ (e7.seqT bd),by rw [Qb,aR];rfl,U.n,by simp [aw],λi p hp=>?_,by have:=U.lv;simp;lia⟩⟩
  by_cases hi:i<ps.length
  .rw [cY hi]at hp;obtain⟨J,h1,h2⟩:=as i p hp;refine⟨J,?_,kk _ _ (e7.seqT (e6.seqT h2))⟩;rw [List.take_append_of_le_length (7:)];exact h1
  .have b4:i=l.length+1:=by
    have:=(aK.mp hp).1;simp at this;lia
   subst b4;rw [dJ (7:),aw,e_]at hp;cases hp;refine⟨Y,by rw [bL (14:)];exact ax,kk _ _ ?_⟩;rw [<-c3.length];exact SqT.of Qb
 | nil=>
  refine Zf ?_;have aw:=U.ln;have bt:(ps.map V.ref).length=ps.length:=aC ..;have be:(0:Int)<((ps.map V.ref).length:Int):=by rw [bt];lia
  have b5:(l.map λj:Nat=>V.int (j:Int)).length=l.length:=aC ..;refine⟨_,rfl,_,rfl,Z,_,rfl,.inl (SqL.of d'),_,_,rfl,rfl,be,_,rfl,M,_,rfl,.inr w',(by show 2<=sizeLine;decide),λlz b6=>?_⟩;have e1:=Qf b6 (.lst [.int (D%((ps.map V.ref).length:Int)),.int (((l.map λj:Nat=>V.int (j:Int)).length:Nat):Int)]);have z0:0<=D%((ps.map V.ref).length:Int):=bR _ (7:);have z1:D%((ps.map V.ref).length:Int)<((ps.map V.ref).length:Int):=bP _ be;have ay:=hT.same (g5.trans e1);have af:TrV K _ rv r:=bw.mono λ_ _=>(g5.trans e1).seqT;have w5:=e1.seqT w';have d5:=e1 _ _ d';have az:SqL K (upd H5 lz (.lst [.int (D%((ps.map V.ref).length:Int)),.int (((l.map λj:Nat=>V.int (j:Int)).length:Nat):Int)])) lz [.int (D%((ps.map V.ref).length:Int)),.int (((l.map λj:Nat=>V.int (j:Int)).length:Nat):Int)]:=SqL.of Qb;have bf:∀(i:Nat) p,ps[i]?=some p->∃J,atP A (l.take i)=some J/\SqT K _ p [.str (nmT J),.int (mkT J),.int ((J.bs.length:Nat):Int)]:=λi p h=>by
   obtain⟨J,h1,h2⟩:=as i p h;exact⟨J,h1,e1.seqT h2⟩
  have gH:=g5.trans e1;generalize upd H5 lz (.lst [.int (D%((ps.map V.ref).length:Int)),.int (((l.map λj:Nat=>V.int (j:Int)).length:Nat):Int)])=H6 at ay af w5 d5 az bf gH ⊢;have b7:St T (T.start,upT r):=St.start hO.ok aj;have cn:lv (upT r)<=41:=by rw [LX];lia
  obtain⟨s1,s2,s3⟩:=UT hO.ok _ (T.start,upT r) (4:) (by show lv (upT r)<=60;lia) b7;have bg:At T (come T.ks T.ms (T.start,upT r)):=⟨s1,s2,by have:lv (come T.ks T.ms (T.start,upT r)).2<=lv (upT r):=s3;lia⟩;have bh:A=valT opR dR T (come T.ks T.ms (T.start,upT r)).1 (come T.ks T.ms (T.start,upT r)).2:=by
   rw [eA];exact(JB 60 (T.start,upT r)).symm
  refine⟨lz,rfl,⟨_,az⟩,?_⟩;refine let J_:J3:=(λi σ H'=>∃c8 c9:Option V,σ=[some (.ref tu),some rv,some (.ref a),some (.int c),some (.ref ta),some (.ref M),some (.int D),some (.ref Z),c8,c9]/\Same H6 H');ZX (K:=K) (xs:=[.int (D%((ps.map V.ref).length:Int)),.int (((l.map λj:Nat=>V.int (j:Int)).length:Nat):Int)]) J_ ⟨none,none,rfl,Same.refl _⟩ ?_ ?_ ?_
  .rintro i σ H' _ ⟨_,_,_,g⟩;exact g.seq az
  .rintro i v σ H7 hv ⟨c8,c9,rfl,g7⟩;obtain⟨k,rfl,hk⟩: ∃k:Nat,v=.int (k:Int)/\k<ps.length:=by
    have hm:v∈[V.int (D%((ps.map V.ref).length:Int)),V.int (((l.map λj:Nat=>V.int (j:Int)).length:Nat):Int)]:=aN hv;rcases aM.mp hm with e | e
    .exact⟨(D%((ps.map V.ref).length:Int)).toNat,by rw [e,cG z0],by lia⟩
    .rw [dO.mp e];exact⟨_,rfl,by rw [b5];lia⟩
   refine⟨_,rfl,_,rfl,_,rfl,_,rfl,_,rfl,M,_,rfl,g7.seqT w5,λpl H8 g8 aa=>?_⟩;rw [Gu,<-List.map_take]at aa;obtain⟨J,bi,b8⟩:=bf k _ (aB hk);have ad:=XF hO.ok (l.take k) _ bg;rw [<-bh,bi]at ad;obtain⟨qq,bj,b9,ai⟩:=ad;have a0:=g7.trans g8;have cc:(l.take k).map (λj:Nat=>V.int (j:Int))=((l.take k).map λj:Nat=>(j:Int)).map V.int:=by rw [bI];rfl
   rw [cc]at aa;refine⟨tu,wd,lm,sv,mo,T,rv,r,pl,_,rfl,ay.same a0,hO,af.mono λ_ _=>a0.seqT,aj,ak,aa,λz=>absurd (bj.symm.trans z) (14:),λq' a5 pf H9 g9 ce=>?_⟩;have eq:q'=qq:=aH (a5.symm.trans bj);subst eq;rw [Gb b9.pt]at ai;have n1:nmT J=GV q':=by rw [ai];rfl
   have n2:mkT J=G4 q':=by rw [ai];rfl
   have n3:J.bs.length=q'.1.bs.length:=by rw [ai];show(List.map _ _).length=_;rw [aC]
   have a6:=a0.trans g9;have ab:=Pj (VW al bi);have a7:SqT K H9 pf [.str (nmT J),.int (mkT J),.int ((J.bs.length:Nat):Int)]:=by rw [n1,n2,n3];exact SqT.of ce
   refine⟨_,rfl,pf,_,"tuple",true,rfl,a7,rfl,_,rfl,Zf ?_⟩;refine⟨_,rfl,_,rfl,_,rfl,Z,_,_,.ref ps[k],rfl,rfl,SqL.of (a6 _ _ d5),Qs (by rw [aI,aB hk];rfl),lbD J,lbD J,.tup a7 (.cons (.str _) (.cons (.int _) (.cons (.int _) .nil))),.tup (a6.seqT b8) (.cons (.str _) (.cons (.int _) (.cons (.int _) .nil))),Vl ab,Vl ab,am _ (aY (Nat.min_le_left _ _) (by simp [PyData.depth,PyData.depthAll])),_,rfl,?_⟩;rw [aE rfl,ZV _ (Vl ab)];exact Zf ⟨_,_,rfl,a6⟩
  .rintro σ H7 ⟨c8,c9,rfl,g7⟩;have bp:l.length<=60:=by have:=U.lv;lia
   refine⟨_,rfl,_,rfl,_,rfl,(by show 1<=sizeLine;decide),λp1 au=>?_⟩;have e2:=Qf au (.tup [.int 0]);refine⟨M,p1,_,_,rfl,rfl,e2.seqT (g7.seqT w5),SqT.of Qb,(by rw [aC];exact Zg (by simp;lia)),λpl H8 g8 bu=>?_⟩;have aa:SqT K H8 pl (((l++[0]).map λj:Nat=>(j:Int)).map V.int):=by
    have h0:SqT K H8 pl ((l.map λj:Nat=>V.int (j:Int))++[V.int 0]):=bu;have:((l++[0]).map λj:Nat=>(j:Int)).map V.int=(l.map λj:Nat=>V.int (j:Int))++[V.int 0]:=by rw [bI,aR];rfl
    rw [this];exact h0
   have gg:=g7.trans (e2.trans g8);have ad:=XF hO.ok (l++[0]) _ bg;have cf:atP A (l++[0])=none:=by rw [U0,U.at'];show t.bs[0]?=none;rw [bc];rfl
   rw [<-bh,cf]at ad;refine⟨tu,wd,lm,sv,mo,T,rv,r,pl,_,rfl,ay.same gg,hO,af.mono λ_ _=>gg.seqT,aj,ak,aa,λ_ H9 g9=>⟨rfl,q H9 (gH.trans (gg.trans g9))⟩,λq' a5=>absurd (ad.symm.trans a5) (14:)⟩
end
end K27
namespace L2
open PySem PySem.Spec PyProof.Rows
def XI(h:Heap)(H:Hp)(l:List Addr):Heap:=PySem.W.hideAll h (trk h H++l)
theorem Ld(h:Heap)(H:Hp)(l:List Addr):(XI h H l).objs.size=h.objs.size:=PySem.W.hideAll_size _ _
theorem WA{h:Heap}{l:List Addr}(e:h.get? b=some o)(n:H b=none)(m:b∉l):(XI h H l).get? b=some o:=
 PySem.W.hideAll_get _ e λhm=>by
  rcases a_.mp hm with hm | hm
  .have q:(H b).isSome=true:=(gM.mp hm).2;rw [n]at q;simp at q
  .exact m hm
theorem Xy{h:Heap}{l:List Addr}(e:(XI h H l).get? b=some o):h.get? b=some o/\H b=none/\b∉l:=by
 have D:h.get? b=some o:=PySem.W.of_hideAll (trk h H++l) e;have no:∀m:b∈trk h H++l,False:=λm=>by
  have z:(XI h H l).get? b=none:=PySem.W.hideAll_none (trk h H++l) m;rw [z]at e;cases e
 refine⟨D,?_,λm=>no (bJ _ m)⟩;cases q:H b with
 | none=>rfl
 | some x=>exact(no (bZ _ (gM.mpr ⟨eW.mpr (aJ D),by simp [q]⟩))).elim
def Sub(g h:Heap):Prop:=∀b o,g.get? b=some o->h.get? b=some o
theorem Sub.refl(h:Heap):Sub h h:=λ_ _ e=>e
theorem Mod.sub{K:Fg}{mg:Str->Option Value}{g h:Heap}(s:Sub g h)(m:Mod K mg g):Mod K mg h:=
 ⟨m.kin.keeps s,m.glob.keeps s,let⟨z,D,q⟩:=m.blt;⟨z,D.keeps s,q⟩,m.nolimit.keeps s⟩
theorem BtAt.sub{mg:Str->Option Value}{g h:Heap}(s:Sub g h)(b:BtAt mg g):BtAt mg h:=by
 obtain⟨z,D,F,G,J,M,r⟩:=b;exact⟨z,D,F,G,J,s _ _ M,r⟩
theorem GG{h g:Heap}:∀{l:List Env},h.FunFrames base l->(∀b∈frs l,g.get? b=none)->h.FunFrames g l
 | [],_,_=>trivial
 | env::rest,hf,hn=>by
  obtain⟨h1,⟨L,o,e1,e2,e3,z⟩,r⟩:=hf;refine⟨h1,⟨L,o,e1,hn L ?_,e3,z⟩,GG r λb D=>hn b ?_⟩
  .exact dQ.mpr ⟨env,bA,e1⟩
  .obtain⟨e,F,q⟩:=dQ.mp D;exact dQ.mpr ⟨e,bC _ F,q⟩
theorem Env0.sub{K:Fg}(e:Env0 P w K mg base A outer s H):Sub base (XI s.heap H (frs outer)):=λb o h=>
 WA (e.bs b o h).1 (e.bs b o h).2 λm=>by
  have:=(e.funs.mem m).1;rw [h]at this;cases this
theorem Env0.big{K:Fg}(e:Env0 P w K mg base A outer s H):Env0 P w K mg (XI s.heap H (frs outer)) A outer s H:=
 ⟨e.frames,e.mod.sub e.sub,λb o h=>⟨(Xy h).1,(Xy h).2.1⟩,Nat.le_of_eq (Ld _ _ _),GG e.funs λb z=>by
  cases q:(XI s.heap H (frs outer)).get? b with
  | none=>rfl
  | some o=>exact absurd z (Xy q).2.2,e.frf,e.hok,e.bare⟩
section
variable{pins:List (8:)}{σ:St}
end
abbrev Cx.mrkP(X:Cx)(a:Addr)(o:Obj):Cx:={ X with A:=X.A.mark (some (.ref a)),calm:=false,pn:=X.pn++[(a,o)],xe:=λ_ _=>False }
section
variable{pins:List (8:)}{σ:St}{fs:Array Value}
theorem Inv.toMrkP(I:Inv X pins σ H s)(hg:s.heap.get? a=some o)(hn:H a=none)(hl:a≠X.env.locals)(hf:a∉X.fs)(hd:o.data=.fields fs):Inv (X.mrkP a o) pins σ H s:=
 ⟨⟨I.ok.mod,I.ok.kind,I.ok.glob,I.ok.blt,I.ok.above,I.ok.inj,I.ok.has,I.ok.cab,λz=>(nomatch z),I.ok.frames,I.ok.stk,I.ok.exf,I.ok.bs,I.ok.bsz,I.ok.noex,I.ok.exfs,I.ok.funs,I.ok.frf⟩,I.os,I.bare,I.base,I.loc,I.cell,I.free,I.freeC,λp hp=>by
  rcases a_.mp hp with hp | hp
  .rcases a_.mp hp with hp | hp
   .exact I.pin p (bZ _ hp)
   .rw [dO.mp hp];exact⟨hg,hn,hl,hf,λv e=>by rw [hd]at e;cases e⟩
  .exact I.pin p (bJ _ hp),I.hok,I.len⟩
theorem Inv.ofMrkP(ok:X.Ok)(I:Inv (X.mrkP a o) pins σ H s):Inv X pins σ H s:=⟨ok,I.os,I.bare,I.base,I.loc,I.cell,I.free,I.freeC,λp hp=>I.pin p (by
 rcases a_.mp hp with hp | hp
 .exact bZ _ (bZ _ hp)
 .exact bJ _ hp),I.hok,I.len⟩
theorem SP.ofMrkP(ok:X.Ok)(h:SP (X.mrkP a o) pins D fl s'):SP X pins D fl s':=by
 cases fl with
 | next=>obtain⟨z,H',I,q⟩:=h;exact⟨z,H',I.ofMrkP ok,q⟩
 | brk=>obtain⟨z,H',I,q⟩:=h;exact⟨z,H',I.ofMrkP ok,q⟩
 | cont=>obtain⟨z,H',I,q⟩:=h;exact⟨z,H',I.ofMrkP ok,q⟩
 | ret u=>obtain⟨v,z,H',I,r,q⟩:=h;exact⟨v,z,H',I.ofMrkP ok,r,q⟩
theorem OX{suite:List Stmt}{b₀:Stmt}{tb:(St->XK)->TS}{ts:TS}{hpos:Pos}(hm:X.mg x=some (.ref C))(hq:PySem.W.ktsIn X.K C "BaseException"=true)(hstk:X.stack=X.env::X.outer)
 (hb:∀pins EE,PSs (X.tryx pins EE) body (tb EE)) (hs:∀a o fs,o.data=.fields fs->fs[2]?=some .none->PSs (X.mrkP a o) (b₀::suite) ts) (hg:Gl X x:=by rfl) (hfr:X.env.frame=some X.env.locals:=by rfl) (hd:(x==("__debug__":Str))=false:=by decide):
 PS X (.Try body [.ExceptHandler (some (.Name x np)) none (b₀::suite) hpos] [] [] pos) (S5 C tb ts):=by
 intro pins s σ H D I h;obtain⟨EE,h1,h2⟩:=h;refine wpAny_Try_except (bS (hb pins EE [] s σ H D (I.toTry EE) h1) (λfl J q=>?_) λe J q=>?_)
 .have q':=SP.ofTry q;cases fl with
  | next=>exact gO q'
  | brk=>exact q'
  | cont=>exact q'
  | ret u=>exact q'
 .obtain⟨p2,ak,H1,s0,I1,a,cls,H',rfl,F,q⟩:=q;obtain⟨rfl,ao⟩:=h2 _ _ _ q;obtain⟨B,t,M,ac⟩:=F.fly;have Y:J.heap.FunFrames B (X.pnd pins).stack:=M.2.2.1;obtain⟨oe,vs,ag,az,ap,_⟩:=M.first;have ad:a∉frs X.stack:=λhf=>Wo Y a hf _ ag _ ap;have aq:H' a=none:=by
   cases hz:H' a with
   | none=>rfl
   | some u=>
    have:=ac a oe ag (.inl (by rw [hz];intro z;cases z)) ad;rw [M.2.1]at this;cases this
  rw [hstk]at M;refine bS (Kp.note.any (wpAny_looks_onW (Q:=λ_ G=>∃Z,G={ J with heap:=Z }/\Heap.HeldW B (X.env::X.outer) a (.ref C) (.ref t) X.env.locals Z/\J.heap.UpToSlots Z) (by rw [<-hstk];exact I.ok.frames) hfr M λZ x y=>⟨Z,rfl,x,y⟩) F.lone) (λ_ G z=>?_) λ_ _ z=>z.1;obtain⟨⟨Z,rfl,ae,ar⟩,ln4⟩:=z;refine bS (Kp.flight.any (wpAny_landsW (Q:=λ_ G=>∃U,G={ J with heap:=U }/\Heap.FlyingW B (X.env::X.outer) a (.ref C) (.ref t) U/\Z.UpToSlots U) ae λU x y=>⟨U,rfl,x,y⟩) ln4) (λ_ G z=>?_) λ_ _ z=>z.1;obtain⟨⟨U,rfl,aa,al⟩,ln5⟩:=z;have ah:=ar.trans al;have J5:=I1.flown F.os F.bare F.un F.hok Y ac aa.1 ah;have K5:Inv X pins ak H' { J with heap:=U }:=J5.ofPnd;obtain⟨nm,q',N',bs,bm,ay,sn,sub,ab,a0,dd,k0,k1,k2,k3,k5,ax,hC,af,a1⟩:=PySem.W.kts_cls K5.kIn hq;obtain⟨ob,as,am⟩:=aa.there;have au:(X.A.mark (some (.ref a))).frames=X.A.frames:=rfl;refine wpAny_handleBy_cons (codeAny_handlers_test (YC (X:=X.mrk a) (K5.toMrk a au) hg hm ?_ hd)) (by intro q;cases q);refine wpAny_excMatches_sub_self hC as am af (codeAny_handlers_suite ?_);refine bS (Kp.flight.any (lands_againW (Q:=λ_ G=>∃h6,G={ J with heap:=h6 }/\Heap.FlyingW B (X.env::X.outer) a (.ref C) (.ref t) h6/\U.UpToSlots h6) aa λh6 x y=>⟨h6,rfl,x,y⟩) ln5) (λ_ G z=>?_) λ_ _ z=>And.left z;obtain⟨⟨h6,rfl,an,av⟩,o,fs,ho,ai,aw⟩:=z;have J6:=I1.flown F.os F.bare F.un F.hok Y ac an.1 (ah.trans av);have K6:Inv X pins ak H' { J with heap:=h6 }:=J6.ofPnd;have aj:∀b∈X.env.locals::X.fs,b∈frs X.stack:=λb hb=>by
   rw [hstk];rcases aM.mp hb with rfl | hb
   .exact dQ.mpr ⟨X.env,bA,hfr⟩
   .obtain⟨env,he,q⟩:=dQ.mp hb;exact dQ.mpr ⟨env,bC _ he,q⟩
  exact bS (hs a o fs ai aw pins _ ak H' D (K6.toMrkP ho aq (λz=>ad (aj a (by rw [z];exact bA))) (λz=>ad (aj a (bC _ z))) ai) ao) (λfl G q=>SP.ofMrkP K6.ok q) λ_ _ z=>z.elim
theorem Mw{k:Nat}{p:Pos}{t:TA}(hd:o.data=.fields fs)(h2:fs[2]?=some .none)(F:∀g:Heap,Sub X.base g->Fn X.prog X.w X.K X.mg g k x ps sp true)(hr:Room k' X.A)(ha:PA (X.mrkP a o) (e::es) t)(hk:k<=k':=by decide)(hg:Gl X x:=by rfl)
 (hdb:(x==("__debug__":Str))=false:=by decide) (he:starEach (e::es) X.env=(false,eval e X.env)::starEach es X.env:=by rfl) (hpl:(backTo pos (starEach es X.env)).any (·.1)=false:=by rfl):
 PE (X.mrkP a o) (.Call (.Name x p) (e::es) [] pos) (J9 sp [] E0 t):=by
 obtain⟨f,ad,_,_,h3,Z⟩:=(F _ (Sub.refl _)).ex;intro pins s σ H Q I h;refine fF (YC (X:=X.mrkP a o) I hg Z ?_ hdb);refine PySem.W.callWith_K (h₀:=X.base) I.ok.mod.kin h3 (thn (ha pos pins s σ H _ I h) λG M ⟨vs,H1,D,r,q⟩=>⟨D.kIn,?_⟩) he hpl;obtain⟨f',fd,U,aa,_,Y⟩:=(F _ D.env0.sub).ex;obtain rfl:f=f':=by rw [Z]at Y;cases Y;rfl
 obtain⟨pa,pb,pc,pd,_⟩:=D.pin (a,o) (bZ _ (bJ _ (dO.mpr rfl)));have ab:(XI M.heap H1 (frs X.stack)).get? a=some o:=WA pa pb λm=>by
  rcases aM.mp (D.stkSub a m)with z | z
  .exact pc z
  .exact pd z
 have ac:Room k (X.mrkP a o).A (some (XI M.heap H1 (frs X.stack))):=⟨.inr ⟨a,o,fs,rfl,ab,hd,h2⟩,(hr.mono hk).dp,(hr.mono hk).un⟩;have hv:Vals (vs++[]) G:=by rw [dZ];exact r
 have hl:G.length=ps.length:=by rw [<-hv.length];exact U.len _ _ _ _ q
 have hb:=aa M G D.kIn (by rw [dZ];exact hl);rw [dZ]at hb;refine wpAny_call (codeAny_mono (U.run (X.mrkP a o).A X.stack M H1 ⟨G,[]⟩ G (vs++[]) Q E0 ac D.env0.big hb hv q) λr s' J=>?_);cases r with
 | error e=>exact J.elim
 | ok fl=>
  cases fl with
  | ret u=>exact D.after J
  | next=>exact False.elim J
  | brk=>exact False.elim J
  | cont=>exact False.elim J
end
end L2
namespace K27
open PySem L2 TM TT K9 K11
theorem Fn.hard{K:Fg}{k:Nat}(F:∀g,Sub base g->Fn P w K mg g k x ps sp true):Fn P w K mg base k x ps sp:=by
 obtain⟨f,fd,h,r⟩:=(F _ (Sub.refl _)).ex;exact⟨f,fd,h.hard,r⟩
def GD(K:Fg)(A1 A2 A3:Addr):Sp:=λvs H Q _=>∃(a:Addr)(ns:List Int),vs=[.ref a]/\SqL K H a (ns.map V.int)/\ns.length<=63/\A1≠A2/\A1≠A3/\A2≠A3/\H A1=some (.tbl #[])/\H A2=some (.tbl #[])/\H A3=some (.tbl #[])/\∀H',Q (.bl true) H'
abbrev Ti:List Str:=["_law_script","_law_names_here","_law_wood_here","_law_turning_here","_law_nodes","_law_trees","_law_tables_here","_law_tree","_law_k","_law_found","_law_told","_law_cell"]
section
variable{K:Fg}
theorem ZU:FnScope Ti ["_law_script"] (defScope W7):=(1:)
theorem Rg{A1 A2 A3:Addr}(F:Fun K "law" "law" W7 f fd)(G:Gm mg)(hmin:mg "min"=none)(hG:mg "TooGreat"=some (.ref CG))(hq:PySem.W.ktsIn K CG "BaseException"=true)(RC:Fn P w K mg base 1 "_law_cell_at" ["_law_script","_law_k"] (Xx K))(RN':Fn P w K mg base 2 "_law_names" ["_law_cell"] (XJ K))(RW:Fn P w K mg base 2 "_law_wood" ["_law_cell","_law_names_here"] (VS K))(RT:Fn P w K mg base 5 "_law_turning" ["_law_script","_law_wood_here","_law_names_here"] (Uq K))(RG:Fn P w K mg base 3 "_law_grown" ["_law_wood_here","_law_cells","_law_top"] (Xv K))(RB:Fn P w K mg base 2 "_law_built" ["_law_wood_here","_law_nodes"] (XD K))(RA:Fn P w K mg base 10 "_law_tables" ["_law_turning_here","_law_nodes","_law_trees"] (VZ K))
 (RP:Fn P w K mg base 62 "_law_place" ["_law_turning_here","_law_nodes","_law_trees","_law_tables_here","_law_k"] (XH K A1 A2 A3)) (RD:FnX P w K mg base 57 "turned" ["turning","tree"] (Pw K CN CG A1 A2 A3)) (RM:∀g,Sub base g->Fn P w K mg g 56 "many" ["turning","tree"] (Uu K A1 eM qM opM) true) (RL:∀g,Sub base g->Fn P w K mg g 56 "tall" ["turning","tree"] (Uu K A2 eT qT opT) true) (RS:Fn P w K mg base 58 "_law_asked" ["_law_turning_here","_law_branches","_law_kinds","_law_tables_here"] (XS K A1 A2 A3)) (RI:Fn P w K mg base 61 "_law_is_tree" ["_law_found"] (Ul K 60)) (RE:Fn P w K mg base 9 "_law_come" ["_law_term_here","_law_mark_here","_law_told"] (Ut K 8)) (RO:Fn P w K mg base 61 "_law_count" ["_law_tree"] (Ug K 60)) (RY:Fn P w K mg base 46 "_law_way" ["_law_turning_here","_law_tree","_law_made_of","_law_cell"] (Ml K)):
 FnOk P w K mg base CX0 63 f fd ["_law_script"] (GD K A1 A2 A3):=by
 refine F.ok ZU (13:) (λed A outer s H vs Q E J h=>?_)
 .obtain⟨a,cs,rfl,_⟩:=h
  rfl
 obtain⟨a,cs,rfl,hS,gb,ee,ef,eg,eh,ei,ej,q⟩:=h;have bm:∀m:Nat,m<=130->(A.deeper (PyProof.Rows.envOfC "law" (defScope W7) s.heap.objs.size f ed)).units+m<cLine:=λm hm=>by have:=J.un;lia
 refine⟨_,(Qe (Qm (i:=1) ZU.nd rfl (5:) (Qr RN' J (Qa (Qr RC J (Qa (pv 0) (Qa (Qd) Qc))) Qc)))
  (Qe (Qm (i:=2) ZU.nd rfl (5:) (Qr RW J (Qa (Qr RC J (Qa (pv 0) (Qa (Qd) Qc))) (Qa (pv 1) Qc))))
  (Qe (Qm (i:=3) ZU.nd rfl (5:) (Qr RT J (Qa (pv 0) (Qa (pv 2) (Qa (pv 1) Qc)))))
  (Qe (Qm (i:=4) ZU.nd rfl (5:) (Qr RG J (Qa (pv 2) (Qa (Z0 Y9 (pv 0) (ZP Qd) (ZP Qd)) (Qa (Qd) Qc)))))
  (Qe (Qm (i:=5) ZU.nd rfl (5:) (Qr RB J (Qa (pv 2) (Qa (pv 4) Qc))))
  (Qe (Qm (i:=6) ZU.nd rfl (5:) (Qr RA J (Qa (pv 3) (Qa (pv 4) (Qa (pv 5) Qc)))))
  (Qe (Qm (i:=7) ZU.nd rfl (5:) (Qg Ql (pv 5) Qd (2:)))
  (Qe (QO a' rfl (QN rfl G.rng (Qa (Qq (Lf (by exact J.hd)) rfl hmin PyProof.Rows.boot_min (Qa (Qq Qn rfl G.len aX (Qa (pv 4) Qc)) (Qa (Qd) Qc))) Qc)) (Qt (i:=8) ZU.nd rfl (5:)) (Qh
   (QP (Zq (Q7 (Qr RP J (Qa (pv 3) (Qa (pv 4) (Qa (pv 5) (Qa (pv 6) (Qa (pv 8) Qc)))))))) (Qh (Qp Zy)) Qw)))
  (Qe (Qm (i:=9) ZU.nd rfl (5:) Z8)
  (Qe (OX hG hq rfl (λpins EE=>Qh (Qm (i:=9) ZU.nd rfl (5:) (Yx (EE:=EE) RD J Sb (Qa (pv 3) (Qa (pv 7) Qc))))) (λb o fs d1 d2=>Qh (Qp (SQ (Yi Xa (Mw d1 d2 RM J (Qa (pv 3) (Qa (pv 7) Qc))) Qd (Qy _)) (XN (Yi Xa (Mw d1 d2 RL J (Qa (pv 3) (Qa (pv 7) Qc))) Qd (Qy _)))))))
  (Qe (Qm (i:=10) ZU.nd rfl (5:) (Qr RS J (Qa (pv 3) (Qa ((QE (Qa (pv 7) Qc))) (Qa ((QH (Qa (Qg Qk (Qg Ql (pv 2) Qd (2:)) Qd (2:)) Qc))) (Qa ((QH (Qa (Qg Ql (pv 6) Qd (2:)) Qc))) Qc))))))
  (Qe (QP (PW.pt (pw_or (Zq (Q7 (Qr RI J (Qa (pv 9) Qc)))) (pw_or1 (Qx Yc (pv 9) (Qr RE J (Qa (Qg Qk (pv 3) Qd (2:)) (Qa (Qd) (Qa (pv 10) Qc)))) (Qy _))))) (Qh (Qp Zy)) Qw)
  (Qe (QP (Qx Yc (QE (Qa (Qr (Fn.hard RM) J (Qa (pv 3) (Qa (pv 7) Qc))) (Qa (Qr (Fn.hard RL) J (Qa (pv 3) (Qa (pv 7) Qc))) Qc))) (Qr RO J (Qa (pv 9) Qc)) (Qy _)) (Qh (Qp Zy)) Qw)
  (Qe (QO a' rfl (Q1 (Z0 Y9 (pv 0) (ZP Qd) (ZP Qd))) (Qt (i:=11) ZU.nd rfl (5:)) (Qh
   (QP (Zq (Q7 (Qr RY J (Qa (pv 3) (Qa (pv 7) (Qa (pv 9) (Qa (pv 11) Qc))))))) (Qh (Qp Zy)) Qw)))
  (Qh (Qp Zy)))))))))))))))),?_⟩
 try dsimp only [QC,Cx.nox]
 refine L2.let14 ?_
 intros
 refine⟨_,rfl,a,cs,0,rfl,by decide,hS,λc0=>⟨c0,rfl,λln H1 nn g1 cj ck ek bn dm=>?_⟩⟩;refine⟨_,rfl,a,cs,1,rfl,by decide,g1.seq hS,λc1=>⟨_,rfl,c1,ln,nn,rfl,SqL.of cj,ck,ek,bn,λU H2 ks g2 hW an dn=>?_⟩⟩;have aa:=g1.trans g2;refine⟨_,rfl,_,rfl,_,rfl,a,cs,U,ln,ks,nn,rfl,aa.seq hS,hW,an,SqL.of (g2 _ _ cj),ck,bn,λZ lm sv H3 ms t k0 g3 el en ao gc eo ap ep a9=>?_⟩;have cm:=aa.trans g3;have ba:=hW.same g3;have bo:∀k∈ks,(reprText k.2.1).length<=1000:=λk hk=>(dm _ (dn k hk)).rep;obtain⟨T,aq⟩: ∃T:Tu,T=⟨ks,k0.2.1,t,mds ms⟩:=⟨_,rfl⟩;have ad:T.ks=ks:=by rw [aq]
 have ar:T.start=t:=by rw [aq]
 have ag:T.ms=mds ms:=by rw [aq]
 have ah:T.k0=k0.2.1:=by rw [aq]
 have hO:TurnOk ms T:=by
  refine⟨by rw [ad];exact an.ok,ag.symm,⟨λm hm=>?_,by rw [ag,ah,ar];exact a9.fit⟩,⟨k0,by rw [ad];exact ap,ah.symm⟩⟩;rw [ag]at hm;obtain⟨m',bp,rfl⟩:=aT.mp hm;rw [ad,ag];exact Ma an (ao m' bp).2
 have ai:TBd T:=by
  intro md as u hu;rw [ag]at as;exact Ri (λm hm=>(ao m hm).2) md as u hu
 have cn:RlL T:=by
  intro md as u hu;rw [ag]at as;obtain⟨m',bp,rfl⟩:=aT.mp as;exact(Rm (ao m' bp).2 u hu).1
 have eq:(tmd T.start).canLay0=true:=by rw [ar];exact a9.mok.1
 have aj:lv T.start<=8:=by rw [ar];have:=a9.lv;lia
 have au:sz T.start<=100:=by rw [ar];exact aY a9.sz (18:)
 have er:(reprText T.k0).length<=1000:=by rw [ah];exact bo k0 (aN ap)
 have et:∀m∈ms,(reprText m.2.1).length<=1000:=λm hm=>by
  obtain⟨k,hk,e⟩:=aT.mp (ao m hm).2.kd;rw [<-e];exact bo k hk
 have eu:TurnAt K H3 Z U lm sv ms T:=⟨el,by rw [ad];exact ba,⟨SqL.of en,λm hm=>(ao m hm).1.at⟩,by rw [ar];exact ep⟩;obtain⟨ds,ev,gd⟩:=Wh cs 16 40;refine⟨_,rfl,_,rfl,_,rfl,_,rfl,a,_,rfl,cm.seq hS,λl1 ew=>?_⟩;have dp:cutV (cs.map V.int) (some 16) (some 40)=ds.map V.int:=ev;have k4:=Qf ew (.lst (cutV (cs.map V.int) (some 16) (some 40)));have dq:upd H3 l1 (.lst (cutV (cs.map V.int) (some 16) (some 40))) l1=some (.lst (ds.map V.int)):=by rw [Qb,dp]
 refine⟨U,l1,ks,ds,10,k0,rfl,ba.same k4,an,ap,SqL.of dq,by lia,by decide,by decide,λM lb H4 H5 ns bare ey co hA a1 bq e4=>?_⟩;have cp:=k4.trans (ey.trans co.sm);have cq:NdsAt K H5 M ns:=co.at;refine⟨_,rfl,_,rfl,U,M,ks,10,ns,rfl,ba.same cp,an,cq,hA,a1,bq,λlt H6 us ts g6 e5 cr cu cv=>?_⟩;have cw:=cp.trans g6;obtain⟨n0,cy,cz⟩:=e4;obtain⟨D,br⟩: ∃D,ts[0]?=some D:=⟨_,aB (show 0<ts.length by rw [cu];exact a1)⟩;obtain⟨tv,e6,e7⟩:=cr.get br;obtain⟨c2,f4,_⟩:=cv 0 n0 D cy br;rw [cz]at c2;have c3:=eu.same cw;have bt:Trk K H6 M lt T.ks ns us ts:=⟨cq.same g6,e5,cr,cu,λi n t h1 h2=>by
  have:=cv i n t h1 h2;rw [ad];exact⟨this.1,aY this.2.1 (18:),this.2.2⟩⟩
 have dr:atI us 0=some tv:=Qs (j:=0) e6;refine⟨_,rfl,_,rfl,_,rfl,Z,U,lm,sv,ms,T,M,lt,ns,us,ts,rfl,c3,hO,ai,by lia,bt,bq,λlx H7 es g7 bu bv=>?_⟩;obtain⟨e0,bw⟩: ∃e0,es[0]?=some e0:=⟨_,aB (by rw [bv.len];exact a1)⟩;have bx:TbA K H7 T lx es ns ts:=⟨SqL.of bu.l,λi e he=>.inl (bu.at' i e he),bv⟩;have bz:Run K H7 Z U lm sv ms T:=⟨c3.same g7,hO,ai,eo,et⟩;have b0:Trk K H7 M lt T.ks ns us ts:=bt.mono (Mo.of g7);have c4:=cw.trans g7;have bc:=cm.trans c4;have f6:=ba.same c4;have e8:=bc.seq hS;have ab:Tb3 A1 A2 A3 H7:=⟨.inl (bc _ _ eh),.inl (bc _ _ ei),.inl (bc _ _ ej)⟩;have b1:Ne3 A1 A2 A3:=⟨ee,ef,eg⟩;have dt:TrV K H7 tv D:=e7.mono λ_ _=>g7.seqT;have ae:lv D<=40:=by lia
 have ac:isT (QX T.ks) D T.k0=true:=by rw [ad,ah];exact c2
 clear aq bu bv;refine⟨_,rfl,lt,_,_,tv,rfl,rfl,g7.seq bt.t,dr,?_⟩;have e9:(NR ns).length=ns.length:=aC ..;refine⟨_,rfl,M,_,rfl,.inl b0.n.l,_,_,rfl,?_⟩;rw [e9];obtain⟨kn,fa,f7,f8⟩: ∃kn:Nat,(if(5:Int)<(ns.length:Int)then(5:Int)else(ns.length:Int))=(kn:Int)/\kn<=ns.length/\kn<=5:=by
  by_cases z:(5:Int)<(ns.length:Int)
  .exact⟨5,by rw [aE z];rfl,by lia,by lia⟩
  .exact⟨ns.length,by rw [aF z],by lia,by lia⟩
 rw [fa];refine⟨_,rfl,(by show-(2^62:Int)<=(kn:Int);lia),(by show(kn:Int)<2^62;lia),?_⟩;refine let J_:J3:=(λi σ H'=>∃c8:Option V,σ=[some (.ref a),some (.ref ln),some (.ref U),some (.ref Z),some (.ref M),some (.ref lt),some (.ref lx),some tv,c8,none,none,none]/\SX3 A1 A2 A3 H7 H'/\Tb3 A1 A2 A3 H');Zc (lo:=0) (n:=(kn:Int).toNat) J_
  ⟨none,rfl,SX3.of (Same.refl _),ab⟩ ?_ ?_
 .rintro i σ H8 hi ⟨c8,rfl,x8,av⟩;have ez:(0:Int)+(i:Int)=(i:Int):=by lia
  rw [ez];exact⟨_,rfl,_,rfl,_,rfl,_,rfl,_,rfl,Z,U,lm,M,lt,lx,sv,ms,T,ns,us,ts,es,i,rfl,bz.mo (ab.mo x8),cn,b0.mono (ab.mo x8),bx.sx ab x8,by lia,av,λH9 x9 Y=>⟨_,rfl,Zf ⟨_,rfl,x8.trans x9,Y⟩⟩⟩
 rintro σ H8 ⟨c8,rfl,x8,av⟩;have m8:Mo K H7 H8:=ab.mo x8;have b2:=bz.mo m8;have ak:=dt.mono m8.t;have du:=b2.ask ak ae;have c5:=St.start hO.ok ac;obtain⟨z1,z2,z3⟩:=Vr hO.ok cn _ T.start (upT D) (4:) c5;have al:=z3 eq;refine⟨λfb cls _ H'=>cls=.ref CG/\fb=[some (.ref a),some (.ref ln),some (.ref U),some (.ref Z),some (.ref M),some (.ref lt),some (.ref lx),some tv,c8,some .non,none,none]/\SX3 A1 A2 A3 H8 H'/\Tb3 A1 A2 A3 H'/\¬LL T T.start D,?_,?_⟩
 rotate_left
 .rintro fb cls H9 ⟨rfl,rfl,x9,Y,nf⟩;refine⟨rfl,?_⟩;have m9:Mo K H8 H9:=av.mo x9;have af:=b2.mo m9;refine⟨_,rfl,_,rfl,Z,U,lm,sv,ms,T,tv,D,rfl,af.at',hO,ai,by lia,aj,au,ak.mono m9.t,ae,ac,Y.m,λbd fc fe=>?_⟩;refine⟨_,_,rfl,rfl,_,rfl,Z6 (λ_=>q bd) (λc1=>?_)⟩;obtain⟨a2,b3⟩:=Y.byM b1 fc fe;have c6:Mo K H9 bd:=Y.mo b3;refine⟨_,rfl,_,rfl,Z,U,lm,sv,ms,T,tv,D,rfl,(af.mo c6).at',hO,ai,by lia,aj,au,(ak.mono m9.t).mono c6.t,ae,ac,a2.t,λaw ge gf=>?_⟩;refine⟨_,_,rfl,rfl,?_⟩;have hM:valT opM 0 T T.start (upT D)<=400:=Int.ofNat_le.mp (Int.not_lt.mp λz=>c1 (bW z));have gg:¬valT opT 0 T T.start (upT D)<=60:=λz=>nf ⟨hM,z⟩;show Q (.bl (decide ((60:Int)<((valT opT 0 T T.start (upT D):Nat):Int)))) aw;rw [bW (show(60:Int)<((valT opT 0 T T.start (upT D):Nat):Int)by lia)];exact q aw
 refine⟨_,rfl,_,rfl,Z,U,lm,sv,ms,T,tv,D,rfl,du,aj,au,er,av,λz=>absurd (ac.symm.trans z) (18:),λ_ a3 v9 H9 x9 Y ff=>?_,λ_ z H9 x9 Y=>⟨rfl,rfl,x9,Y,z⟩⟩;have m9:Mo K H8 H9:=av.mo x9;have af:=b2.mo m9;have x79:=x8.trans x9;have fg:Mo K H7 H9:=ab.mo x79;have am:=ak.mono m9.t;have fh:WoodAt K H9 U ks:=by have:=af.at'.w;rw [ad]at this;exact this
 have dv:k0∈ks:=aN ap;have dw:atI (ks.map λk=>V.ref k.1) 0=some (.ref k0.1):=Qs (j:=0) (by rw [aI,ap];rfl);have fi:=bx.sx ab x79;have fj:atI (es.map λe=>V.ref e.1) 0=some (.ref e0.1):=Qs (j:=0) (by rw [aI,bw];rfl);refine⟨_,rfl,_,rfl,(by show 1<=sizeLine;decide),λpb fk=>?_⟩;have e1:=Qf fk (.tup [tv]);have b4:=fh.same e1;refine⟨_,rfl,U,_,0,_,rfl,rfl,b4.1,dw,k0.1,_,0,_,rfl,rfl,(b4.2 k0 dv).1,rfl,(by show 1<=sizeLine;decide),λlk fl=>?_⟩;have e2:=Qf fl (.lst [.str k0.2.1]);have c7:=e1.trans e2;refine⟨_,rfl,lx,_,_,_,rfl,rfl,c7.seq fi.l,fj,(by show 1<=sizeLine;decide),λlz fm=>?_⟩;have e3:=Qf fm (.lst [.ref e0.1]);have ax:=c7.trans e3;have c9:=(e2.trans e3).seqT (SqT.of (K:=K) (H:=upd H9 pb (.tup [tv])) Qb);have da:=e3.seq (SqL.of (K:=K) (H:=upd (upd H9 pb (.tup [tv])) lk (.lst [.str k0.2.1])) Qb);have db:SqL K (upd (upd (upd H9 pb (.tup [tv])) lk (.lst [.str k0.2.1])) lz (.lst [.ref e0.1])) lz [.ref e0.1]:=SqL.of Qb;generalize upd (upd (upd H9 pb (.tup [tv])) lk (.lst [.str k0.2.1])) lz (.lst [.ref e0.1])=bd at ax e3 c9 da db ⊢;have b3:=x79.trans (SX3.of ax);have a2:=Y.same ax;have dc:Mo K H9 bd:=Mo.of ax;have b5:=bx.sx ab b3;refine⟨Z,U,lm,pb,lk,lz,sv,ms,T,[tv],[D],[T.k0],[e0.1],rfl,af.mo dc,c9,.cons (am.mono dc.t) .nil,λu hu=>by rw [dO.mp hu];exact ae,(by show 1<=4;decide),by rw [ah];exact da,rfl,λb u k hb hk=>?_,⟨db,λb u k hb hk=>?_⟩,a2,λd kvs aw x11 dy hd dz=>?_⟩
 .match b,hb,hk with
  | 0,hb,hk=>
   cases hb;cases hk;exact ac
  | b+1,hb,_=>simp at hb
 .match b,hb,hk with
  | 0,hb,hk=>
   cases hb;cases hk;exact⟨e0.1,e0.2,rfl,b5.at' 0 e0 bw,by rw [ah,<-cz];exact b5.w.hi 0 e0 n0 D (4:) bw cy br⟩
  | b+1,hb,_=>simp at hb
 have be:=(SX3.of (T1:=A1) (T2:=A2) (T3:=A3) ax).trans x11;have dd:Mo K H9 aw:=Y.mo be;have d0:=af.mo dd;have b6:TrV K aw v9 (Yp T T.start D):=ff.mono dd.t;have a4:lv (Yp T T.start D)<=60:=by rw [z2];exact a3.2
 refine⟨_,rfl,v9,_,rfl,b6,a4,λfo aa=>⟨_,rfl,Zf ?_⟩⟩;have b7:=d0.mo (Mo.of aa);have d3:=b6.mono λ_ _=>aa.seqT;refine⟨_,rfl,_,rfl,Z,_,1,_,rfl,rfl,b7.at'.tu,rfl,_,rfl,sv,T.start,0,d,kvs,λm b=>(([D]:List (Tree Str))[b.toNat]?).elim dR λt=>QV opR dR T.ks T.ms t m,rfl,b7.at'.s,aj,.inl (aa _ _ hd),λc hc=>?_,λfq ay b8 d4=>?_⟩
 .obtain⟨m,bb⟩:=c;obtain⟨ct,de,vv,fr,k1,k2,k3,gh,k5,k6⟩:=c5.call hO.ok (Ux hc);have df:=Nr (T:=T) (r:=upT D) hc k2;have dg:([D]:List (Tree Str))[bb.toNat]?=some ct:=k2;have hf:YV (mks T.ms) [T.k0] (m,bb)=true:=by
   have:=hO.ok.st;unfold Ys at this;exact dX.mp this _ (Ux hc)
  obtain⟨_,_,_,_,f5⟩:=YH hf;have d5:(mks T.ms)[m.toNat]?=some de.1:=by unfold mks;rw [aI,k3];rfl
  have em:((m.toNat:Nat):Int)=m:=cG k1;have eb:((bb.toNat:Nat):Int)=bb:=cG fr;obtain⟨ww,w1,w2⟩:=dz m.toNat bb.toNat de ct k3 dg (by rw [<-f5,d5]) (by rw [em];exact aY df.1 a3.1) (by rw [em];exact aY df.2 a3.2);rw [em,eb]at w1;rw [em]at w2;refine⟨ww,w1,?_⟩;show TrV K fo ww ((([D]:List (Tree Str))[bb.toNat]?).elim dR λt=>QV opR dR T.ks T.ms t m);rw [dg];exact w2.mono λ_ _=>aa.seqT
 have ch:TrV K ay fq (Yp T T.start D):=d4;have a5:TrV K ay v9 (Yp T T.start D):=d3.mono λ_ _=>b8.seqT;have f9:=VD (Yp T T.start D);refine⟨_,_,TrV.rd a5,TrV.rd ch,al,al,bm _ (aY (Nat.min_le_left _ _) (7:)),_,rfl,?_⟩;rw [aE rfl,ZV _ al];refine Zf ?_;have bf:=aa.trans b8;have x13:=be.trans (SX3.of bf);have a6:=dy.same bf;have az:Mo K H9 ay:=Y.mo x13;have a7:=af.mo az;refine⟨_,rfl,_,rfl,Z,U,lm,sv,ms,T,tv,D,rfl,a7.at',hO,ai,by lia,aj,au,am.mono az.t,ae,ac,a6.m,λdh ft fu=>?_⟩;obtain⟨a8,x14⟩:=a6.byM b1 ft fu;have a0:Mo K ay dh:=a6.mo x14;refine⟨_,rfl,_,rfl,Z,U,lm,sv,ms,T,tv,D,rfl,(a7.mo a0).at',hO,ai,by lia,aj,au,(am.mono az.t).mono a0.t,ae,ac,a8.t,λb9 fv fw=>?_⟩;obtain⟨ga,fx⟩:=a8.byT b1 fv fw;have ca:Mo K dh b9:=a8.mo fx;refine⟨(by show 2<=sizeLine;decide),λpp fy=>?_⟩;have bg:=Qf fy (.tup [.int ((valT opM 0 T T.start (upT D):Nat):Int),.int ((valT opT 0 T T.start (upT D):Nat):Int)]);have di:=SqT.of (K:=K) (H:=upd b9 pp (.tup [.int ((valT opM 0 T T.start (upT D):Nat):Int),.int ((valT opT 0 T T.start (upT D):Nat):Int)])) Qb;generalize upd b9 pp (.tup [.int ((valT opM 0 T T.start (upT D):Nat):Int),.int ((valT opT 0 T T.start (upT D):Nat):Int)])=f0 at bg di ⊢;have d6:TrV K f0 v9 (Yp T T.start D):=((a5.mono a0.t).mono ca.t).mono λ_ _=>bg.seqT;refine⟨_,rfl,v9,_,rfl,d6,a4,λpq bh cb dj=>?_⟩;rw [z1,z2]at dj;refine⟨_,_,.tup (cb.seqT di) (.cons (.int _) (.cons (.int _) .nil)),.tup dj (.cons (.int _) (.cons (.int _) .nil)),by simp [PyData.canLay0,PyData.canLayAll0],by simp [PyData.canLay0,PyData.canLayAll0],bm _ (aY (Nat.min_le_left _ _) (by simp [PyData.depth,PyData.depthAll])),_,rfl,?_⟩;rw [aE rfl,ZV _ (by simp [PyData.canLay0,PyData.canLayAll0])];refine Zf ?_;have bi:Mo K ay bh:=⟨λa xs h=>cb.seqT (bg.seqT (ca.t _ _ (a0.t _ _ h))),λa xs h=>cb.seq (bg.seq (ca.l _ _ (a0.l _ _ h)))⟩;have d7:SqL K bh a (cs.map V.int):=bi.l _ _ (az.l _ _ (fg.l _ _ e8));have d8:=a7.mo bi;have ci:=(am.mono az.t).mono bi.t;have d9:=a5.mono bi.t;refine⟨_,rfl,_,rfl,_,rfl,a,_,rfl,d7,λl3 f1=>?_⟩;obtain⟨ws,f2,_⟩:=Wh cs 40 76;have ea:cutV (cs.map V.int) (some 40) (some 76)=ws.map V.int:=f2;rw [ea];have bj:=Qf f1 (.lst (ws.map V.int));have cc:SqL K (upd bh l3 (.lst (ws.map V.int))) l3 (ws.map V.int):=SqL.of Qb;generalize upd bh l3 (.lst (ws.map V.int))=dl at bj cc ⊢;have ec:=d8.mo (Mo.of bj);refine⟨l3,rfl,⟨_,cc⟩,?_⟩;refine let J_:J3:=(λi σ H'=>∃ce:Option V,σ=[some (.ref a),some (.ref ln),some (.ref U),some (.ref Z),some (.ref M),some (.ref lt),some (.ref lx),some tv,c8,some v9,some (.ref d),ce]/\Same dl H');ZX (K:=K) (xs:=ws.map V.int) J_ ⟨none,rfl,Same.refl _⟩ ?_ ?_ ?_
 .rintro i σ H' _ ⟨_,_,g⟩;exact g.seq cc
 .rintro i x σ cf hx ⟨ce,rfl,g⟩;obtain⟨cx,_,rfl⟩:=aT.mp (aN hx);have cg:Mo K dl cf:=Mo.of g;exact⟨_,rfl,_,rfl,_,rfl,_,rfl,Z,U,lm,sv,ms,T,tv,v9,D,Yp T T.start D,cx,rfl,(ec.mo cg).at',hO,(ci.mono λ_ _=>bj.seqT).mono cg.t,ac,ae,(d9.mono λ_ _=>bj.seqT).mono cg.t,rfl,al,a4,λgi f3=>⟨_,rfl,Zf ⟨_,rfl,g.trans f3⟩⟩⟩
 .rintro σ cf ⟨ce,rfl,g⟩;exact q cf
end
end K27
namespace L2
theorem ln1{α:Type}{us:List α}(h:us.length=1):∃a,us=[a]:=gX.mp h
theorem ln2{α:Type}{us:List α}(h:us.length=2):∃a b,us=[a,b]:=by
 match us,h with
 | [a,b],_=>exact⟨a,b,rfl⟩
theorem ln3{α:Type}{us:List α}(h:us.length=3):∃a b c,us=[a,b,c]:=by
 match us,h with
 | [a,b,c],_=>exact⟨a,b,c,rfl⟩
theorem ln4{α:Type}{us:List α}(h:us.length=4):∃a b c d,us=[a,b,c,d]:=by
 match us,h with
 | [a,b,c,d],_=>exact⟨a,b,c,d,rfl⟩
theorem ln5{α:Type}{us:List α}(h:us.length=5):∃a b c d e,us=[a,b,c,d,e]:=by
 match us,h with
 | [a,b,c,d,e],_=>exact⟨a,b,c,d,e,rfl⟩
theorem ln6{α:Type}{us:List α}(h:us.length=6):∃a b c d e f,us=[a,b,c,d,e,f]:=by
 match us,h with
 | [a,b,c,d,e,f],_=>exact⟨a,b,c,d,e,f,rfl⟩
end L2
namespace K27
open PySem L2
theorem all_mk{l:PySem.W.OpenLaw}{K:Fg}{h:Heap}(X:K.In h)(N:h.Ns mainGlobals mg)(hfa:mg "law"=some (.ref fa))
 (d1:DefAt K "is_call" RX) (d2:DefAt K "calls_of" sCO) (d3:DefAt K "mark_put" sMP) (d4:DefAt K "put_head" sPH) (d5:DefAt K "has_number" sHN) (d6:DefAt K "rows_of" X9) (d7:DefAt K "row_of" VY) (d8:DefAt K "is_of" Wq) (d9:DefAt K "need_of" Y6) (d10:DefAt K "need_in" Y0) (d11:DefAt K "rule_of" NF) (d12:DefAt K "outcome" P2) (d13:DefAt K "above" Vj) (d14:DefAt K "reckoned" Jr) (d15:DefAt K "called_below" L3) (d16:DefAt K "filled" U3) (d17:DefAt K "many" NE) (d18:DefAt K "tall" Nt) (d19:DefAt K "many_by" YJ) (d20:DefAt K "tall_by" YD) (d21:DefAt K "seen" Mn) (d22:DefAt K "seen_by" XE) (d23:DefAt K "first_put" Ve) (d24:DefAt K "turned" UL) (d25:DefAt K "turned_in" YI) (d26:DefAt K "turned_by" ZF) (d27:DefAt K "_law_cell_at" Mv) (d28:DefAt K "_law_mixed" VU) (d29:DefAt K "_law_names" Vq) (d30:DefAt K "_law_great" VG) (d31:DefAt K "_law_wood" Ge) (d32:DefAt K "_law_term" Xu) (d33:DefAt K "_law_calls" VT) (d34:DefAt K "_law_turning" Jg) (d35:DefAt K "_law_mark" Nw) (d36:DefAt K "_law_grown" Jk) (d37:DefAt K "_law_built" Ju) (d38:DefAt K "_law_rule" VL) (d39:DefAt K "_law_measure" W1) (d40:DefAt K "_law_tables" LR) (d41:DefAt K "_law_whole" Vs) (d42:DefAt K "_law_is_tree" W4) (d43:DefAt K "_law_count" JE) (d44:DefAt K "_law_come" W2) (d45:DefAt K "_law_asked" V1) (d46:DefAt K "_law_place" XG) (d47:DefAt K "_law_way" OG) (d48:DefAt K "law" W7)
 (z1:PySem.W.nsIn K mainGlobals "len"=some none) (z2:PySem.W.nsIn K mainGlobals "isinstance"=some none) (z3:PySem.W.nsIn K mainGlobals "int"=some none) (z4:PySem.W.nsIn K mainGlobals "bool"=some none) (z5:PySem.W.nsIn K mainGlobals "str"=some none) (z6:PySem.W.nsIn K mainGlobals "tuple"=some none) (z7:PySem.W.nsIn K mainGlobals "list"=some none) (z8:PySem.W.nsIn K mainGlobals "range"=some none) (z9:PySem.W.nsIn K mainGlobals "zip"=some none) (z10:PySem.W.nsIn K mainGlobals "dict"=some none) (z11:PySem.W.nsIn K mainGlobals "all"=some none) (z12:PySem.W.nsIn K mainGlobals "sorted"=some none) (z13:PySem.W.nsIn K mainGlobals "reversed"=some none) (z14:PySem.W.nsIn K mainGlobals "sum"=some none) (z15:PySem.W.nsIn K mainGlobals "max"=some none) (y1:PySem.W.nsIn K mainGlobals "min"=some none)  (ht1:PySem.W.tabIn K "many_by"=some (c1,T1)) (hh1:PySem.W.codeHdIn K c1 T1=true) (ht2:PySem.W.tabIn K "tall_by"=some (c2,T2)) (hh2:PySem.W.codeHdIn K c2 T2=true) (ht3:PySem.W.tabIn K "turned_by"=some (c3,T3)) (hh3:PySem.W.codeHdIn K c3 T3=true) (ne12:T1≠T2) (ne13:T1≠T3) (ne23:T2≠T3)   (gN:PySem.W.nsIn K mainGlobals "NoTree"=some (some (.ref CN))) (gG:PySem.W.nsIn K mainGlobals "TooGreat"=some (some (.ref CG))) (qN:PySem.W.excIn K CN WZ "ValueError.__new__"=true) (qG:PySem.W.excIn K CG WZ "ValueError.__new__"=true) (kG:PySem.W.ktsIn K CG "BaseException"=true) (g4:PySem.W.nsIn K mainGlobals "MOST_NAMES"=some (some (.int 400 tk1))) (g6:PySem.W.nsIn K mainGlobals "MOST_LEVELS"=some (some (.int 60 tk2))):
 ∃fd:FuncData,(∀(s:Shared)(v:Value),BindsTo s fd ⟨[v],[]⟩ [("_law_script",v)])/\∀base:Heap,K.In base->base.Ns mainGlobals mg->BtAt mg base->FnOk l.prog w K mg base CX0 63 fa fd ["_law_script"] (GD K T1 T2 T3):=by
 have G:Gm mg:=⟨cE X N z1,cE X N z2,cE X N z3,cE X N z4,cE X N z5,cE X N z6,cE X N z7,cE X N z8,cE X N z9,cE X N z10,cE X N z11,cE X N z12,cE X N z13,cE X N z14,cE X N z15⟩;obtain⟨f,oc,od,kV,aa,pm,an,ab,ct,ac,a,Z,c,D⟩:=d48.ex;have e:=hfa.symm.trans (aO X N a);cases e;have F:=QY (st:=W7) Z c D;refine⟨PySem.W.fnOf "law" "law" (defArgs W7) (defBody W7) (defScope W7) .none kV aa pm an ab ct,λs v=>.of_eq rfl,λbase _ _ hB=>?_⟩;have ai:mg "min"=none:=cE X N y1;have r1:∀g:Heap,L2.Sub base g->Fn l.prog w K mg g 1 "is_call" ["term"] (Jv K) true:=λg s=>d1.fn X N (λf fd F=>Ps F) λ_ _ _ _ _ _ J z=>by obtain⟨M,rfl⟩:=ln1 z;rfl
 have r8:Fn l.prog w K mg base 1 "mark_put" ["term","mark"] (Oi K):=d3.fn X N (λf fd F=>SF F) λ_ _ _ _ _ _ J z=>by obtain⟨M,Y,rfl⟩:=ln2 z;rfl
 have aj:Fn l.prog w K mg base 2 "put_head" ["term","mark"] (PU K):=d4.fn X N (λf fd F=>Sv F G r8) λ_ _ _ _ _ _ J z=>by obtain⟨M,Y,rfl⟩:=ln2 z;rfl
 have r9:Fn l.prog w K mg base 1 "has_number" ["branches","number"] (Re K):=d5.fn X N (λf fd F=>SE F G) λ_ _ _ _ _ _ J z=>by obtain⟨M,Y,rfl⟩:=ln2 z;rfl
 have r2:∀g:Heap,L2.Sub base g->Fn l.prog w K mg g 1 "rows_of" ["wood","kind"] (Y3 K) true:=λg s=>d6.fn X N (λf fd F=>G0 F G) λ_ _ _ _ _ _ J z=>by obtain⟨M,Y,rfl⟩:=ln2 z;rfl
 have r3:∀g:Heap,L2.Sub base g->Fn l.prog w K mg g 2 "row_of" ["wood","kind","name"] (UJ K) true:=λg s=>d7.fn X N (λf fd F=>ND F G (r2 g s)) λ_ _ _ _ _ _ J z=>by obtain⟨M,Y,a3,rfl⟩:=ln3 z;rfl
 have r4:∀g:Heap,L2.Sub base g->Fn l.prog w K mg g 42 "is_of" ["wood","kind","tree"] (Z7 K 40) true:=λg s=>by
  obtain⟨f,oc,od,kV,aa,pm,an,ab,ct,ac,a,Z,c,D⟩:=d8.ex;have F:=QY (st:=Wq) Z c D;have U:Binds K _ ["wood","kind","tree"] []:=F.binds λ_ _ _ _ _ _ J z=>by obtain⟨M,Y,a3,rfl⟩:=ln3 z;rfl
  exact⟨f,_,WH F G (r3 g s) U (aO X N a) 40,U,D,aO X N a⟩
 have r5:∀g:Heap,L2.Sub base g->Fn l.prog w K mg g 2 "rule_of" ["turning","mode","name"] (X6 K) true:=λg s=>d11.fn X N (λf fd F=>O3 F G (r2 g s)) λ_ _ _ _ _ _ J z=>by obtain⟨M,Y,a3,rfl⟩:=ln3 z;rfl
 have ak:∀g:Heap,L2.Sub base g->Fn l.prog w K mg g 43 "need_of" ["wood","kind","tree"] (U6 K) true:=λg s=>d9.fn X N (λf fd F=>Lo F (r4 g s)) λ_ _ _ _ _ _ J z=>by obtain⟨M,Y,a3,rfl⟩:=ln3 z;rfl
 have af:∀g:Heap,L2.Sub base g->Fn l.prog w K mg g 44 "need_in" ["wood","tree"] (Yl K) true:=λg s=>d10.fn X N (λf fd F=>Lb F (ak g s)) λ_ _ _ _ _ _ J z=>by obtain⟨M,Y,rfl⟩:=ln2 z;rfl
 have r6:Fn l.prog w K mg base 1 "_law_cell_at" ["_law_script","_law_k"] (Xx K):=d27.fn X N (λf fd F=>O1 F G) λ_ _ _ _ _ _ J z=>by obtain⟨M,Y,rfl⟩:=ln2 z;rfl
 have r7:Fn l.prog w K mg base 1 "_law_whole" ["_law_found"] UH:=d41.fn X N (λf fd F=>M0 F G) λ_ _ _ _ _ _ J z=>by obtain⟨M,rfl⟩:=ln1 z;rfl
 have ae:∀g:Heap,L2.Sub base g->Fn l.prog w K mg g 1 "above" ["tree"] (UR K) true:=λg s=>d13.fn X N (λf fd F=>Nk F) λ_ _ _ _ _ _ J z=>by obtain⟨M,rfl⟩:=ln1 z;rfl
 have al:Fn l.prog w K mg base 3 "first_put" ["turning","term","tree"] (Xz K):=d23.fn X N (λf fd F=>MC F (Fn.hard r1) (Fn.hard r5)) λ_ _ _ _ _ _ J z=>by obtain⟨M,Y,a3,rfl⟩:=ln3 z;rfl
 have am:Fn l.prog w K mg base 4 "seen_by" ["turning","term","tree","place"] (Jq K):=d22.fn X N (λf fd F=>LK F G al (Fn.hard ae) r9 aj) λ_ _ _ _ _ _ J z=>by obtain⟨M,Y,a3,a4,rfl⟩:=ln4 z;rfl
 have ao:Fn l.prog w K mg base 45 "seen" ["turning","tree","place"] (VI K):=d21.fn X N (λf fd F=>OL F (Fn.hard af) am) λ_ _ _ _ _ _ J z=>by obtain⟨M,Y,a3,rfl⟩:=ln3 z;rfl
 have ad:Fn l.prog w K mg base 1 "_law_mixed" ["_law_cell","_law_k"] Zt:=d28.fn X N (λf fd F=>NS F) λ_ _ _ _ _ _ J z=>by obtain⟨M,Y,rfl⟩:=ln2 z;rfl
 have ag:Fn l.prog w K mg base 1 "_law_great" ["_law_cell"] Y1:=d30.fn X N (λf fd F=>Mk F) λ_ _ _ _ _ _ J z=>by obtain⟨M,rfl⟩:=ln1 z;rfl
 have ap:Fn l.prog w K mg base 2 "_law_mark" ["_law_cell","_law_number"] VH:=d35.fn X N (λf fd F=>Om F ag) λ_ _ _ _ _ _ J z=>by obtain⟨M,Y,rfl⟩:=ln2 z;rfl
 have ah:Fn l.prog w K mg base 1 "_law_rule" ["_law_turning_here","_law_mode","_law_name"] (UP K):=d38.fn X N (λf fd F=>MB F G) λ_ _ _ _ _ _ J z=>by obtain⟨M,Y,a3,rfl⟩:=ln3 z;rfl
 have aq:Fn l.prog w K mg base 2 "_law_names" ["_law_cell"] (XJ K):=d29.fn X N (λf fd F=>No F G ad) λ_ _ _ _ _ _ J z=>by obtain⟨M,rfl⟩:=ln1 z;rfl
 have ar:Fn l.prog w K mg base 1 "_law_calls" ["_law_branches","_law_owners"] (Wb K):=d33.fn X N (λf fd F=>LU F G) λ_ _ _ _ _ _ J z=>by obtain⟨M,Y,rfl⟩:=ln2 z;rfl
 have as:Fn l.prog w K mg base 4 "_law_term" ["_law_cell","_law_k","_law_deep","_law_calls_here","_law_names_here","_law_keep"] (YW K 3):=by
  obtain⟨f,oc,od,kV,aa,pm,an,ab,ct,ac,a,Z,c,D⟩:=d32.ex;have F:=QY (st:=Xu) Z c D;have U:Binds K _ ["_law_cell","_law_k","_law_deep","_law_calls_here","_law_names_here","_law_keep"] []:=F.binds λ_ _ _ _ _ _ J z=>by obtain⟨M,Y,a3,a4,a5,a6,rfl⟩:=ln6 z;rfl
  exact⟨f,_,WO F G ad ag U (aO X N a) 3,U,D,aO X N a⟩
 have au:Fn l.prog w K mg base 2 "_law_wood" ["_law_cell","_law_names_here"] (VS K):=d31.fn X N (λf fd F=>Ov F G ad) λ_ _ _ _ _ _ J z=>by obtain⟨M,Y,rfl⟩:=ln2 z;rfl
 have av:Fn l.prog w K mg base 5 "_law_turning" ["_law_script","_law_wood_here","_law_names_here"] (Uq K):=d34.fn X N (λf fd F=>VN F G r6 ad ar as) λ_ _ _ _ _ _ J z=>by obtain⟨M,Y,a3,rfl⟩:=ln3 z;rfl
 have aw:Fn l.prog w K mg base 3 "_law_grown" ["_law_wood_here","_law_cells","_law_top"] (Xv K):=d36.fn X N (λf fd F=>LW F G ad ap) λ_ _ _ _ _ _ J z=>by obtain⟨M,Y,a3,rfl⟩:=ln3 z;rfl
 have ax:Fn l.prog w K mg base 2 "_law_built" ["_law_wood_here","_law_nodes"] (XD K):=d37.fn X N (λf fd F=>M4 F G ad) λ_ _ _ _ _ _ J z=>by obtain⟨M,Y,rfl⟩:=ln2 z;rfl
 have c1:∀g:Heap,L2.Sub base g->Fn l.prog w K mg g 9 "calls_of" ["term"] (Vu K 8) true:=λg s=>by
  obtain⟨f,oc,od,kV,aa,pm,an,ab,ct,ac,a,Z,c,D⟩:=d2.ex;have F:=QY (st:=sCO) Z c D;have U:Binds K _ ["term"] []:=F.binds λ_ _ _ _ _ _ J z=>by obtain⟨M,rfl⟩:=ln1 z;rfl
  exact⟨f,_,Mb F G (r1 g s) U (aO X N a) 8,U,D,aO X N a⟩
 have c2:∀g:Heap,L2.Sub base g->Fn l.prog w K mg g 10 "called_below" ["turning","rules","tree"] (NX K) true:=λg s=>d15.fn X N (λf fd F=>SU F G (c1 g s) (r5 g s)) λ_ _ _ _ _ _ J z=>by obtain⟨M,Y,a3,rfl⟩:=ln3 z;rfl
 have m1:Fn l.prog w K mg base 9 "_law_measure" ["_law_term_here","_law_below"] (YY K 8):=by
  obtain⟨f,oc,od,kV,aa,pm,an,ab,ct,ac,a,Z,c,D⟩:=d39.ex;have F:=QY (st:=W1) Z c D;have U:Binds K _ ["_law_term_here","_law_below"] []:=F.binds λ_ _ _ _ _ _ J z=>by obtain⟨M,Y,rfl⟩:=ln2 z;rfl
  exact⟨f,_,Wy F G U (aO X N a) 8,U,D,aO X N a⟩
 have m2:Fn l.prog w K mg base 10 "_law_tables" ["_law_turning_here","_law_nodes","_law_trees"] (VZ K):=d40.fn X N (λf fd F=>Oe F G m1 ah) λ_ _ _ _ _ _ J z=>by obtain⟨M,Y,a3,rfl⟩:=ln3 z;rfl
 have fM:∀g:Heap,L2.Sub base g->Fn l.prog w K mg g 11 "filled" ["term","mark","below","make"] (Zx K eM RN opM 8) true:=λg s=>by
  obtain⟨f,oc,od,kV,aa,pm,an,ab,ct,ac,a,Z,c,D⟩:=d16.ex;have F:=QY (st:=U3) Z c D;have U:Binds K _ ["term","mark","below","make"] []:=F.binds λ_ _ _ _ _ _ J z=>by obtain⟨M,Y,a3,a4,rfl⟩:=ln4 z;rfl
  exact⟨f,_,Y2 V7 F G (r1 g s) (MV G) U (aO X N a) 8,U,D,aO X N a⟩
 have kM:∀g:Heap,L2.Sub base g->Fn l.prog w K mg g 53 "reckoned" ["turning","rules","tree","make"] (Yf K eM RN opM 0 41) true:=λg s=>by
  obtain⟨f,oc,od,kV,aa,pm,an,ab,ct,ac,a,Z,c,D⟩:=d14.ex;have F:=QY (st:=Jr) Z c D;have U:Binds K _ ["turning","rules","tree","make"] []:=F.binds λ_ _ _ _ _ _ J z=>by obtain⟨M,Y,a3,a4,rfl⟩:=ln4 z;rfl
  exact⟨f,_,Y7 V7 F G (c2 g s) (fM g s) U (aO X N a) 41,U,D,aO X N a⟩
 have oM:∀g:Heap,L2.Sub base g->Fn l.prog w K mg g 54 "outcome" ["turning","term","tree","make"] (Je K eM RN opM 0) true:=λg s=>d12.fn X N (λf fd F=>Vp F (ae g s) (kM g s)) λ_ _ _ _ _ _ J z=>by obtain⟨M,Y,a3,a4,rfl⟩:=ln4 z;rfl
 have fT:∀g:Heap,L2.Sub base g->Fn l.prog w K mg g 11 "filled" ["term","mark","below","make"] (Zx K eT RN opT 8) true:=λg s=>by
  obtain⟨f,oc,od,kV,aa,pm,an,ab,ct,ac,a,Z,c,D⟩:=d16.ex;have F:=QY (st:=U3) Z c D;have U:Binds K _ ["term","mark","below","make"] []:=F.binds λ_ _ _ _ _ _ J z=>by obtain⟨M,Y,a3,a4,rfl⟩:=ln4 z;rfl
  exact⟨f,_,Y2 V7 F G (r1 g s) (Nq G) U (aO X N a) 8,U,D,aO X N a⟩
 have kT:∀g:Heap,L2.Sub base g->Fn l.prog w K mg g 53 "reckoned" ["turning","rules","tree","make"] (Yf K eT RN opT 0 41) true:=λg s=>by
  obtain⟨f,oc,od,kV,aa,pm,an,ab,ct,ac,a,Z,c,D⟩:=d14.ex;have F:=QY (st:=Jr) Z c D;have U:Binds K _ ["turning","rules","tree","make"] []:=F.binds λ_ _ _ _ _ _ J z=>by obtain⟨M,Y,a3,a4,rfl⟩:=ln4 z;rfl
  exact⟨f,_,Y7 V7 F G (c2 g s) (fT g s) U (aO X N a) 41,U,D,aO X N a⟩
 have oT:∀g:Heap,L2.Sub base g->Fn l.prog w K mg g 54 "outcome" ["turning","term","tree","make"] (Je K eT RN opT 0) true:=λg s=>d12.fn X N (λf fd F=>Vp F (ae g s) (kT g s)) λ_ _ _ _ _ _ J z=>by obtain⟨M,Y,a3,a4,rfl⟩:=ln4 z;rfl
 have fR:Fn l.prog w K mg base 11 "filled" ["term","mark","below","make"] (Zx K eR (RT K) opR 8):=by
  obtain⟨f,oc,od,kV,aa,pm,an,ab,ct,ac,a,Z,c,D⟩:=d16.ex;have F:=QY (st:=U3) Z c D;have U:Binds K _ ["term","mark","below","make"] []:=F.binds λ_ _ _ _ _ _ J z=>by obtain⟨M,Y,a3,a4,rfl⟩:=ln4 z;rfl
  exact⟨f,_,Y2 O9 F G (Fn.hard r1) (LM G r8) U (aO X N a) 8,U,D,aO X N a⟩
 have kR:Fn l.prog w K mg base 53 "reckoned" ["turning","rules","tree","make"] (Yf K eR (RT K) opR (.node (S []) 0 []) 41):=by
  obtain⟨f,oc,od,kV,aa,pm,an,ab,ct,ac,a,Z,c,D⟩:=d14.ex;have F:=QY (st:=Jr) Z c D;have U:Binds K _ ["turning","rules","tree","make"] []:=F.binds λ_ _ _ _ _ _ J z=>by obtain⟨M,Y,a3,a4,rfl⟩:=ln4 z;rfl
  exact⟨f,_,Y7 O9 F G (Fn.hard c2) fR U (aO X N a) 41,U,D,aO X N a⟩
 have oR:Fn l.prog w K mg base 54 "outcome" ["turning","term","tree","make"] (Je K eR (RT K) opR (.node (S []) 0 [])):=d12.fn X N (λf fd F=>Vp F (Fn.hard ae) kR) λ_ _ _ _ _ _ J z=>by obtain⟨M,Y,a3,a4,rfl⟩:=ln4 z;rfl
 have bM:∀g:Heap,L2.Sub base g->Fn l.prog w K mg g 55 "many_by" ["turning","term","tree"] (Wx K T1 eM qM opM) true:=λg s=>by
  obtain⟨f,oc,od,kV,aa,pm,an,ab,ct,ac,a,Z,c,D⟩:=d19.ex;have F:=QY (st:=YJ) Z c D;have U:Binds K _ ["turning","term","tree"] []:=F.binds λ_ _ _ _ _ _ J z=>by obtain⟨M,Y,a3,rfl⟩:=ln3 z;rfl
  exact⟨f,_,G2 F a ht1 hh1 (hB.sub s) (oM g s),U,D,aO X N a⟩
 have bT:∀g:Heap,L2.Sub base g->Fn l.prog w K mg g 55 "tall_by" ["turning","term","tree"] (Wx K T2 eT qT opT) true:=λg s=>by
  obtain⟨f,oc,od,kV,aa,pm,an,ab,ct,ac,a,Z,c,D⟩:=d20.ex;have F:=QY (st:=YD) Z c D;have U:Binds K _ ["turning","term","tree"] []:=F.binds λ_ _ _ _ _ _ J z=>by obtain⟨M,Y,a3,rfl⟩:=ln3 z;rfl
  exact⟨f,_,GX F a ht2 hh2 (hB.sub s) (oT g s),U,D,aO X N a⟩
 have tM:∀g:Heap,L2.Sub base g->Fn l.prog w K mg g 56 "many" ["turning","tree"] (Uu K T1 eM qM opM) true:=λg s=>d17.fn X N (λf fd F=>OK F (af g s) (bM g s)) λ_ _ _ _ _ _ J z=>by obtain⟨M,Y,rfl⟩:=ln2 z;rfl
 have tT:∀g:Heap,L2.Sub base g->Fn l.prog w K mg g 56 "tall" ["turning","tree"] (Uu K T2 eT qT opT) true:=λg s=>d18.fn X N (λf fd F=>OV F (af g s) (bT g s)) λ_ _ _ _ _ _ J z=>by obtain⟨M,Y,rfl⟩:=ln2 z;rfl
 have x1:FnX l.prog w K mg base 43 "need_of" ["wood","kind","tree"] (GB K CN):=by
  obtain⟨f,oc,od,kV,aa,pm,an,ab,ct,ac,a,Z,c,D⟩:=d9.ex;have F:=QY (st:=Y6) Z c D;have U:Binds K _ ["wood","kind","tree"] []:=F.binds λ_ _ _ _ _ _ J z=>by obtain⟨M,Y,a3,rfl⟩:=ln3 z;rfl
  exact⟨⟨f,_,Pr F (aO X N gN) qN gS (18:) (Fn.hard r4),U,D,aO X N a⟩⟩
 have x2:FnX l.prog w K mg base 44 "need_in" ["wood","tree"] (NH K CN):=by
  obtain⟨f,oc,od,kV,aa,pm,an,ab,ct,ac,a,Z,c,D⟩:=d10.ex;have F:=QY (st:=Y0) Z c D;have U:Binds K _ ["wood","tree"] []:=F.binds λ_ _ _ _ _ _ J z=>by obtain⟨M,Y,rfl⟩:=ln2 z;rfl
  exact⟨⟨f,_,Rr F x1,U,D,aO X N a⟩⟩
 have x3:FnX l.prog w K mg base 56 "turned_by" ["turning","term","tree"] (Gf K CG T1 T2 T3):=by
  obtain⟨f,oc,od,kV,aa,pm,an,ab,ct,ac,a,Z,c,D⟩:=d26.ex;have F:=QY (st:=ZF) Z c D;have U:Binds K _ ["turning","term","tree"] []:=F.binds λ_ _ _ _ _ _ J z=>by obtain⟨M,Y,a3,rfl⟩:=ln3 z;rfl
  exact⟨⟨f,_,Py F a ht3 hh3 hB (aO X N g4) (aO X N g6) (aO X N gG) qG gS (18:) ⟨ne12,ne13,ne23⟩ (Fn.hard bM) (Fn.hard bT) oR,U,D,aO X N a⟩⟩
 have x4:FnX l.prog w K mg base 57 "turned" ["turning","tree"] (Pw K CN CG T1 T2 T3):=by
  obtain⟨f,oc,od,kV,aa,pm,an,ab,ct,ac,a,Z,c,D⟩:=d24.ex;have F:=QY (st:=UL) Z c D;have U:Binds K _ ["turning","tree"] []:=F.binds λ_ _ _ _ _ _ J z=>by obtain⟨M,Y,rfl⟩:=ln2 z;rfl
  exact⟨⟨f,_,SI F x2 x3,U,D,aO X N a⟩⟩
 have x5:FnX l.prog w K mg base 57 "turned_in" ["turning","mode","tree"] (XC K CN CG T1 T2 T3):=by
  obtain⟨f,oc,od,kV,aa,pm,an,ab,ct,ac,a,Z,c,D⟩:=d25.ex;have F:=QY (st:=YI) Z c D;have U:Binds K _ ["turning","mode","tree"] []:=F.binds λ_ _ _ _ _ _ J z=>by obtain⟨M,Y,a3,rfl⟩:=ln3 z;rfl
  exact⟨⟨f,_,Oj F x1 x3,U,D,aO X N a⟩⟩
 have dI:Fn l.prog w K mg base 61 "_law_is_tree" ["_law_found"] (Ul K 60):=by
  obtain⟨f,oc,od,kV,aa,pm,an,ab,ct,ac,a,Z,c,D⟩:=d42.ex;have F:=QY (st:=W4) Z c D;have U:Binds K _ ["_law_found"] []:=F.binds λ_ _ _ _ _ _ J z=>by obtain⟨M,rfl⟩:=ln1 z;rfl
  exact⟨f,_,Ws F G r7 U (aO X N a) 60,U,D,aO X N a⟩
 have dC:Fn l.prog w K mg base 61 "_law_count" ["_law_tree"] (Ug K 60):=by
  obtain⟨f,oc,od,kV,aa,pm,an,ab,ct,ac,a,Z,c,D⟩:=d43.ex;have F:=QY (st:=JE) Z c D;have U:Binds K _ ["_law_tree"] []:=F.binds λ_ _ _ _ _ _ J z=>by obtain⟨M,rfl⟩:=ln1 z;rfl
  exact⟨f,_,Xo F G U (aO X N a) 60,U,D,aO X N a⟩
 have dE:Fn l.prog w K mg base 9 "_law_come" ["_law_term_here","_law_mark_here","_law_told"] (Ut K 8):=by
  obtain⟨f,oc,od,kV,aa,pm,an,ab,ct,ac,a,Z,c,D⟩:=d44.ex;have F:=QY (st:=W2) Z c D;have U:Binds K _ ["_law_term_here","_law_mark_here","_law_told"] []:=F.binds λ_ _ _ _ _ _ J z=>by obtain⟨M,Y,a3,rfl⟩:=ln3 z;rfl
  exact⟨f,_,WS F G U (aO X N a) 8,U,D,aO X N a⟩
 have dA:Fn l.prog w K mg base 58 "_law_asked" ["_law_turning_here","_law_branches","_law_kinds","_law_tables_here"] (XS K T1 T2 T3):=d45.fn X N (λf fd F=>OS F G x5) λ_ _ _ _ _ _ J z=>by obtain⟨M,Y,a3,a4,rfl⟩:=ln4 z;rfl
 have dP:Fn l.prog w K mg base 62 "_law_place" ["_law_turning_here","_law_nodes","_law_trees","_law_tables_here","_law_k"] (XH K T1 T2 T3):=d46.fn X N (λf fd F=>NG F G dA x5 ah dE dI) λ_ _ _ _ _ _ J z=>by obtain⟨M,Y,a3,a4,a5,rfl⟩:=ln5 z;rfl
 have dW:Fn l.prog w K mg base 46 "_law_way" ["_law_turning_here","_law_tree","_law_made_of","_law_cell"] (Ml K):=d47.fn X N (λf fd F=>RQ F G ad ao) λ_ _ _ _ _ _ J z=>by obtain⟨M,Y,a3,a4,rfl⟩:=ln4 z;rfl
 exact Rg F G ai (aO X N gG) kG r6 aq au av aw ax m2 dP x4 tM tT dA dI dE dC dW
theorem walk{l:PySem.W.OpenLaw}{q:Program}{d:DefRec}{K:Params->Fg}(hn:l.most=some 63)(hdf:d.params.defaults=[])
 (hY:∀(w:World)(h:Heap),YP w h->(K w.params).In h) (tb1:∀w:World,TabAt q (K w.params) "many_by" c1 T1) (tb2:∀w:World,TabAt q (K w.params) "tall_by" c2 T2) (tb3:∀w:World,TabAt q (K w.params) "turned_by" c3 T3) (ne12:T1≠T2) (ne13:T1≠T3) (ne23:T2≠T3)
 (F:∀(w:World)(mg:Str->Option Value)(fa:Addr)(h:Heap),(K w.params).In h->h.Ns mainGlobals mg->mg d.name=some (.ref fa)->
  ∃fd:FuncData,(∀(s:Shared)(u:Value),BindsTo s fd ⟨[u],[]⟩ [("_law_script",u)])/\∀base:Heap,(K w.params).In base->base.Ns mainGlobals mg->BtAt mg base->FnOk l.prog w (K w.params) mg base CX0 63 fa fd ["_law_script"] (GD (K w.params) T1 T2 T3)):
 PySem.W.WalkO q loose XP YP l.row.toRowW d [] (λf vs=>PySem.call f vs):=
 L2.walk_ofT (n:=63) (k:=63) (x:="_law_script") (tabs:=[("many_by",c1,T1),("tall_by",c2,T2),("turned_by",c3,T3)]) (sp:=λw=>GD (K w.params) T1 T2 T3) hn (18:) hdf ⟨rfl,by decide,by decide⟩ hY (λw p hp=>by
  simp only [aM,List.not_mem_nil,bG]at hp;rcases hp with rfl | rfl | rfl
  .exact tb1 w
  .exact tb2 w
  .exact tb3 w) F (λ_ _ a ns D G z=>⟨a,ns,rfl,G,D,ne12,ne13,ne23,z ("many_by",c1,T1) (14:),z ("tall_by",c2,T2) (14:),z ("turned_by",c3,T3) (14:),λ_=>rfl⟩)
end K27
section
open PySem
def K27.vS(x:String)(n:Nat):Value:=.str (ia x) n
def K27.mN:Value:=.str (ia "law_turnery_k27_whole_outcomes") 479
def K27.vR(a:Nat):Value:=.ref a
def K27.vI(i:Int)(n:Nat):Value:=.int i n
def K27.hE(P:Params)(x:String)(n:Nat)(v:Value):DictEntry:=⟨PyData.keyHash P (ia x),.str (ia x) n,v⟩
def K27.vN:Value:=.none
def K27.vF:Value:=.type "function"
def K27.vT:Value:=.bool true
def K27.i0:Value:=.int 0 0
def K27.i3:Value:=.int 3 0
def K27.i1:Value:=.int 181 0
def K27.cP(k:Nat):Value:=.str (ia "/claim/cut.py") k
def K27.oT(x:Array Value):Obj:=Obj.mk (Value.type "tuple") none (Data.seq x) #[]
def K27.oC(x:Array Value):Obj:=Obj.mk (Value.type "code") none (Data.fields x) #[]
def K27.oD(n q:String)(a:Nat)(b c:Int)(d e:Nat):Obj:=oC #[vS n a,vS q (a+1),cP (a+2),vI b 0,vI c 0,i0,i0,i3,vR d,vT,i1,vR (d+1),vN,vR (d+2),vR (d+3),vR (d+4),vI (Int.ofNat e) 0,vI b 0,cP (e+1)]
def K27.oZ(n q:String)(a:Nat)(b c:Int)(d e f:Nat):Obj:=oC #[vS n a,vS q (a+1),cP (a+2),vI b 0,vI c 0,i0,i0,i3,vR d,vT,i1,vR (d+1),vN,vN,vN,vR f,vI (Int.ofNat e) 0,vI b 0,cP (e+1)]
def K27.oF(c:Value)(x y:String)(s:Stmt)(k:Nat)(pm cd:Value):Obj:=Obj.mk c none (Data.func (FuncData.mk (ia x) (ia y) (L2.defArgs s) (.stmts (L2.defBody s)) (L2.defScope s) k [] Value.none Value.none Value.none pm none cd Value.none 0)) #[]
open K27
def K27.oE:Obj:={ cls:=vN,data:=Data.fields #[] }
def K27.l3(P:h8):List DictEntry:=[hE P "__doc__" 166 vN,hE P "__package__" 167 vN,hE P "__loader__" 168 (Value.builtin "__main__.__loader__#opaque"),hE P "__spec__" 169 vN,hE P "__annotations__" 170 (vR 6),hE P "__builtins__" 171 (vR 4),hE P "__file__" 173 (cP 172),hE P "__cached__" 174 vN,hE P "is_call" 195 (vR 21),hE P "calls_of" 204 (vR 28),hE P "mark_put" 212 (vR 35),hE P "put_head" 220 (vR 42),hE P "TurnError" 240 (vR 52),hE P "NoTree" 256 (vR 65),hE P "TooGreat" 272 (vR 77),hE P "has_number" 282 (vR 86),hE P "rows_of" 292 (vR 93),hE P "row_of" 301 (vR 100),hE P "is_of" 307 (vR 105),hE P "need_of" 316 (vR 112),hE P "need_in" 324 (vR 119),hE P "rule_of" 339 (vR 126),hE P "outcome" 351 (vR 133),hE P "above" 358 (vR 140),hE P "reckoned" 364 (vR 145),hE P "called_below" 370 (vR 150),hE P "filled" 376 (vR 155),hE P "many" 386 (vR 162),hE P "tall" 394 (vR 169),hE P "many_by" 403 (vR 176),hE P "tall_by" 412 (vR 183),hE P "seen" 421 (vR 190),hE P "seen_by" 434 (vR 197),hE P "first_put" 446 (vR 204),hE P "MOST_NAMES" 450 (vI 400 449),hE P "MOST_LEVELS" 452 (vI 60 451),hE P "turned" 460 (vR 211),hE P "turned_in" 469 (vR 218),hE P "turned_by" 478 (vR 225),hE P "_law_cell_at" 488 (vR 232),hE P "_law_mixed" 497 (vR 239),hE P "_law_names" 503 (vR 244),hE P "_law_great" 510 (vR 251),hE P "_law_wood" 516 (vR 256),hE P "_law_term" 522 (vR 261),hE P "_law_calls" 528 (vR 266),hE P "_law_turning" 534 (vR 271),hE P "_law_mark" 542 (vR 278),hE P "_law_grown" 548 (vR 283),hE P "_law_built" 554 (vR 288),hE P "_law_rule" 567 (vR 295),hE P "_law_measure" 580 (vR 302),hE P "_law_tables" 586 (vR 307),hE P "_law_whole" 593 (vR 314),hE P "_law_is_tree" 601 (vR 321),hE P "_law_count" 613 (vR 328),hE P "_law_come" 619 (vR 333),hE P "_law_asked" 632 (vR 340),hE P "_law_place" 638 (vR 345),hE P "_law_way" 654 (vR 352),hE P "law" 672 (vR 359)]
def K27.x3(P:h8):h9:=Obj.mk (Value.type "dict") none (Data.dict (hE P "__name__" 165 mN::l3 P).toArray 62) #[]
def K27.x20(P:h8):h9:=oD "is_call" "is_call" 189 2 1 15 193
def K27.x21(P:h8):h9:=oF vF "is_call" "is_call" (top 1) 3 (vS "turnery.terms" 187) (vR 20)
def K27.x24(P:h8):h9:=oT #[vS "term" 199,vS "told" 200,vS "part" 201]
def K27.x27(P:h8):h9:=oD "calls_of" "calls_of" 196 4 1 22 202
def K27.x28(P:h8):h9:=oF vF "calls_of" "calls_of" (top 2) 3 (vS "turnery.terms" 187) (vR 27)
def K27.x34(P:h8):h9:=oD "mark_put" "mark_put" 205 11 2 29 210
def K27.x35(P:h8):h9:=oF vF "mark_put" "mark_put" (top 3) 3 (vS "turnery.terms" 187) (vR 34)
def K27.x41(P:h8):h9:=oD "put_head" "put_head" 213 13 2 36 218
def K27.x42(P:h8):h9:=oF vF "put_head" "put_head" (top 4) 3 (vS "turnery.terms" 187) (vR 41)
def K27.x51(P:h8):h9:=Obj.mk (Value.type "dict") none (Data.dict #[hE P "__module__" 230 (vS "turnery.errors" 221),hE P "__firstlineno__" 234 (vI 16 233),hE P "__static_attributes__" 235 (vR 50),hE P "__weakref__" 237 (vR 53),hE P "__doc__" 238 vN] 3) #[]
def K27.x52(P:h8):h9:=Obj.mk (Value.type "type") none (Data.cls (ClassData.mk (ia "TurnError") [Value.type "ValueError"] [vR 52,Value.type "ValueError",Value.type "Exception",Value.type "BaseException",Value.type "object"] 51 (ia "TurnError") true [] [vR 65,vR 77] false none false)) #[some (vR 43),none,some (vS "TurnError" 223),some (vS "TurnError" 231),some (Value.builtin "ValueError.__new__"),some (Value.bool true)]
def K27.x53(P:h8):h9:=Obj.mk (Value.type "getset_descriptor") none (Data.fields #[vS "__weakref__" 236,vR 52,Value.builtin "ExceptionGroup.__weakref__",vN]) #[]
def K27.x64(P:h8):h9:=Obj.mk (Value.type "dict") none (Data.dict #[hE P "__module__" 248 (vS "turnery.errors" 221),hE P "__firstlineno__" 252 (vI 18 251),hE P "__static_attributes__" 253 (vR 63),hE P "__doc__" 254 vN] 2) #[]
def K27.x65(P:h8):h9:=Obj.mk (Value.type "type") none (Data.cls (ClassData.mk (ia "NoTree") [vR 52] [vR 65,vR 52,Value.type "ValueError",Value.type "Exception",Value.type "BaseException",Value.type "object"] 64 (ia "NoTree") true [] [] false none false)) #[some (vR 56),none,some (vS "NoTree" 241),some (vS "NoTree" 249),some (Value.builtin "ValueError.__new__"),some (Value.bool true)]
def K27.x76(P:h8):h9:=Obj.mk (Value.type "dict") none (Data.dict #[hE P "__module__" 264 (vS "turnery.errors" 221),hE P "__firstlineno__" 268 (vI 20 267),hE P "__static_attributes__" 269 (vR 75),hE P "__doc__" 270 vN] 2) #[]
def K27.x77(P:h8):h9:=Obj.mk (Value.type "type") none (Data.cls (ClassData.mk (ia "TooGreat") [vR 52] [vR 77,vR 52,Value.type "ValueError",Value.type "Exception",Value.type "BaseException",Value.type "object"] 76 (ia "TooGreat") true [] [] false none false)) #[some (vR 68),none,some (vS "TooGreat" 257),some (vS "TooGreat" 265),some (Value.builtin "ValueError.__new__"),some (Value.bool true)]
def K27.x85(P:h8):h9:=oD "has_number" "has_number" 275 23 2 80 280
def K27.x86(P:h8):h9:=oF vF "has_number" "has_number" (top 10) 3 (vS "turnery.trees" 273) (vR 85)
def K27.x92(P:h8):h9:=oD "rows_of" "rows_of" 285 28 2 87 290
def K27.x93(P:h8):h9:=oF vF "rows_of" "rows_of" (top 12) 3 (vS "turnery.woods" 283) (vR 92)
def K27.x96(P:h8):h9:=oT #[vS "wood" 296,vS "kind" 297,vS "name" 298]
def K27.x99(P:h8):h9:=oD "row_of" "row_of" 293 30 3 94 299
def K27.x100(P:h8):h9:=oF vF "row_of" "row_of" (top 13) 3 (vS "turnery.woods" 283) (vR 99)
def K27.x104(P:h8):h9:=oZ "is_of" "is_of" 302 32 3 101 305 103
def K27.x105(P:h8):h9:=oF vF "is_of" "is_of" (top 14) 3 (vS "turnery.woods" 283) (vR 104)
def K27.x108(P:h8):h9:=oT #[vS "wood" 311,vS "kind" 312,vS "tree" 313]
def K27.x111(P:h8):h9:=oD "need_of" "need_of" 308 38 3 106 314
def K27.x112(P:h8):h9:=oF vF "need_of" "need_of" (top 15) 3 (vS "turnery.woods" 283) (vR 111)
def K27.x118(P:h8):h9:=oD "need_in" "need_in" 317 41 2 113 322
def K27.x119(P:h8):h9:=oF vF "need_in" "need_in" (top 16) 3 (vS "turnery.woods" 283) (vR 118)
def K27.x122(P:h8):h9:=oT #[vS "turning" 330,vS "mode" 331,vS "name" 332,vS "kind" 333,vS "rules" 334,vS "row" 335,vS "rule" 336]
def K27.x125(P:h8):h9:=oD "rule_of" "rule_of" 327 44 3 120 337
def K27.x126(P:h8):h9:=oF vF "rule_of" "rule_of" (top 18) 3 (vS "turnery.turnings" 325) (vR 125)
def K27.x129(P:h8):h9:=oT #[vS "turning" 345,vS "term" 346,vS "tree" 347,vS "make" 348]
def K27.x132(P:h8):h9:=oD "outcome" "outcome" 342 52 4 127 349
def K27.x133(P:h8):h9:=oF vF "outcome" "outcome" (top 20) 3 (vS "turnery.outcomes" 340) (vR 132)
def K27.x139(P:h8):h9:=oD "above" "above" 352 54 1 134 356
def K27.x140(P:h8):h9:=oF vF "above" "above" (top 21) 3 (vS "turnery.outcomes" 340) (vR 139)
def K27.x144(P:h8):h9:=oZ "reckoned" "reckoned" 359 56 4 141 362 143
def K27.x145(P:h8):h9:=oF vF "reckoned" "reckoned" (top 22) 3 (vS "turnery.outcomes" 340) (vR 144)
def K27.x149(P:h8):h9:=oZ "called_below" "called_below" 365 61 3 146 368 148
def K27.x150(P:h8):h9:=oF vF "called_below" "called_below" (top 23) 3 (vS "turnery.outcomes" 340) (vR 149)
def K27.x154(P:h8):h9:=oZ "filled" "filled" 371 68 4 151 374 153
def K27.x155(P:h8):h9:=oF vF "filled" "filled" (top 24) 3 (vS "turnery.outcomes" 340) (vR 154)
def K27.x161(P:h8):h9:=oD "many" "many" 379 73 2 156 384
def K27.x162(P:h8):h9:=oF vF "many" "many" (top 26) 3 (vS "turnery.counting" 377) (vR 161)
def K27.x168(P:h8):h9:=oD "tall" "tall" 387 76 2 163 392
def K27.x169(P:h8):h9:=oF vF "tall" "tall" (top 27) 3 (vS "turnery.counting" 377) (vR 168)
def K27.x172(P:h8):h9:=oT #[vS "turning" 398,vS "term" 399,vS "tree" 400]
def K27.x175(P:h8):h9:=oD "many_by" "many_by" 395 79 3 170 401
def K27.x176(P:h8):h9:=oF vF "many_by" "many_by" (top 28) 3 (vS "turnery.counting" 377) (vR 175)
def K27.x179(P:h8):h9:=oT #[vS "turning" 407,vS "term" 408,vS "tree" 409]
def K27.x182(P:h8):h9:=oD "tall_by" "tall_by" 404 81 3 177 410
def K27.x183(P:h8):h9:=oF vF "tall_by" "tall_by" (top 29) 3 (vS "turnery.counting" 377) (vR 182)
def K27.x186(P:h8):h9:=oT #[vS "turning" 416,vS "tree" 417,vS "place" 418]
def K27.x189(P:h8):h9:=oD "seen" "seen" 413 83 3 184 419
def K27.x190(P:h8):h9:=oF vF "seen" "seen" (top 30) 3 (vS "turnery.counting" 377) (vR 189)
def K27.x193(P:h8):h9:=oT #[vS "turning" 425,vS "term" 426,vS "tree" 427,vS "place" 428,vS "here" 429,vS "number" 430,vS "parts" 431]
def K27.x196(P:h8):h9:=oD "seen_by" "seen_by" 422 86 4 191 432
def K27.x197(P:h8):h9:=oF vF "seen_by" "seen_by" (top 31) 3 (vS "turnery.counting" 377) (vR 196)
def K27.x200(P:h8):h9:=oT #[vS "turning" 438,vS "term" 439,vS "tree" 440,vS "rule" 441,vS "read" 442,vS "mode" 443]
def K27.x203(P:h8):h9:=oD "first_put" "first_put" 435 94 3 198 444
def K27.x204(P:h8):h9:=oF vF "first_put" "first_put" (top 32) 3 (vS "turnery.counting" 377) (vR 203)
def K27.x210(P:h8):h9:=oD "turned" "turned" 453 105 2 205 458
def K27.x211(P:h8):h9:=oF vF "turned" "turned" (top 36) 3 (vS "turnery.running" 447) (vR 210)
def K27.x214(P:h8):h9:=oT #[vS "turning" 464,vS "mode" 465,vS "tree" 466]
def K27.x217(P:h8):h9:=oD "turned_in" "turned_in" 461 108 3 212 467
def K27.x218(P:h8):h9:=oF vF "turned_in" "turned_in" (top 37) 3 (vS "turnery.running" 447) (vR 217)
def K27.x221(P:h8):h9:=oT #[vS "turning" 473,vS "term" 474,vS "tree" 475]
def K27.x224(P:h8):h9:=oD "turned_by" "turned_by" 470 111 3 219 476
def K27.x225(P:h8):h9:=oF vF "turned_by" "turned_by" (top 38) 3 (vS "turnery.running" 447) (vR 224)
def K27.x228(P:h8):h9:=oT #[vS "_law_script" 484,vS "_law_k" 485]
def K27.x231(P:h8):h9:=oD "_law_cell_at" "_law_cell_at" 481 118 2 226 486
def K27.x232(P:h8):h9:=oF vF "_law_cell_at" "_law_cell_at" (top 40) 3 mN (vR 231)
def K27.x235(P:h8):h9:=oT #[vS "_law_cell" 492,vS "_law_k" 493,vS "_law_number" 494]
def K27.x238(P:h8):h9:=oD "_law_mixed" "_law_mixed" 489 122 2 233 495
def K27.x239(P:h8):h9:=oF vF "_law_mixed" "_law_mixed" (top 41) 3 mN (vR 238)
def K27.x243(P:h8):h9:=oZ "_law_names" "_law_names" 498 126 1 240 501 242
def K27.x244(P:h8):h9:=oF vF "_law_names" "_law_names" (top 42) 3 mN (vR 243)
def K27.x250(P:h8):h9:=oD "_law_great" "_law_great" 504 139 1 245 508
def K27.x251(P:h8):h9:=oF vF "_law_great" "_law_great" (top 43) 3 mN (vR 250)
def K27.x255(P:h8):h9:=oZ "_law_wood" "_law_wood" 511 141 2 252 514 254
def K27.x256(P:h8):h9:=oF vF "_law_wood" "_law_wood" (top 44) 3 mN (vR 255)
def K27.x260(P:h8):h9:=oZ "_law_term" "_law_term" 517 154 6 257 520 259
def K27.x261(P:h8):h9:=oF vF "_law_term" "_law_term" (top 45) 3 mN (vR 260)
def K27.x265(P:h8):h9:=oZ "_law_calls" "_law_calls" 523 165 2 262 526 264
def K27.x266(P:h8):h9:=oF vF "_law_calls" "_law_calls" (top 46) 3 mN (vR 265)
def K27.x270(P:h8):h9:=oZ "_law_turning" "_law_turning" 529 170 3 267 532 269
def K27.x271(P:h8):h9:=oF vF "_law_turning" "_law_turning" (top 47) 3 mN (vR 270)
def K27.x274(P:h8):h9:=oT #[vS "_law_cell" 538,vS "_law_number" 539]
def K27.x277(P:h8):h9:=oD "_law_mark" "_law_mark" 535 185 2 272 540
def K27.x278(P:h8):h9:=oF vF "_law_mark" "_law_mark" (top 48) 3 mN (vR 277)
def K27.x282(P:h8):h9:=oZ "_law_grown" "_law_grown" 543 187 3 279 546 281
def K27.x283(P:h8):h9:=oF vF "_law_grown" "_law_grown" (top 49) 3 mN (vR 282)
def K27.x287(P:h8):h9:=oZ "_law_built" "_law_built" 549 206 2 284 552 286
def K27.x288(P:h8):h9:=oF vF "_law_built" "_law_built" (top 50) 3 mN (vR 287)
def K27.x291(P:h8):h9:=oT #[vS "_law_turning_here" 558,vS "_law_mode" 559,vS "_law_name" 560,vS "_law_kind" 561,vS "_law_rules" 562,vS "_law_row" 563,vS "_law_rule_here" 564]
def K27.x294(P:h8):h9:=oD "_law_rule" "_law_rule" 555 215 3 289 565
def K27.x295(P:h8):h9:=oF vF "_law_rule" "_law_rule" (top 51) 3 mN (vR 294)
def K27.x298(P:h8):h9:=oT #[vS "_law_term_here" 571,vS "_law_below" 572,vS "_law_total" 573,vS "_law_deep" 574,vS "_law_part" 575,vS "_law_one" 576,vS "_law_other" 577]
def K27.x301(P:h8):h9:=oD "_law_measure" "_law_measure" 568 221 2 296 578
def K27.x302(P:h8):h9:=oF vF "_law_measure" "_law_measure" (top 52) 3 mN (vR 301)
def K27.x306(P:h8):h9:=oZ "_law_tables" "_law_tables" 581 231 3 303 584 305
def K27.x307(P:h8):h9:=oF vF "_law_tables" "_law_tables" (top 53) 3 mN (vR 306)
def K27.x313(P:h8):h9:=oD "_law_whole" "_law_whole" 587 239 1 308 591
def K27.x314(P:h8):h9:=oF vF "_law_whole" "_law_whole" (top 54) 3 mN (vR 313)
def K27.x317(P:h8):h9:=oT #[vS "_law_found" 597,vS "_law_branch" 598]
def K27.x320(P:h8):h9:=oD "_law_is_tree" "_law_is_tree" 594 241 1 315 599
def K27.x321(P:h8):h9:=oF vF "_law_is_tree" "_law_is_tree" (top 55) 3 mN (vR 320)
def K27.x324(P:h8):h9:=oT #[vS "_law_tree" 605,vS "_law_total" 606,vS "_law_deep" 607,vS "_law_branch" 608,vS "_law_one" 609,vS "_law_other" 610]
def K27.x327(P:h8):h9:=oD "_law_count" "_law_count" 602 250 1 322 611
def K27.x328(P:h8):h9:=oF vF "_law_count" "_law_count" (top 56) 3 mN (vR 327)
def K27.x332(P:h8):h9:=oZ "_law_come" "_law_come" 614 258 3 329 617 331
def K27.x333(P:h8):h9:=oF vF "_law_come" "_law_come" (top 57) 3 mN (vR 332)
def K27.x336(P:h8):h9:=oT #[vS "_law_turning_here" 623,vS "_law_branches" 624,vS "_law_kinds" 625,vS "_law_tables_here" 626,vS "_law_told" 627,vS "_law_branch" 628,vS "_law_mode" 629]
def K27.x339(P:h8):h9:=oD "_law_asked" "_law_asked" 620 263 4 334 630
def K27.x340(P:h8):h9:=oF vF "_law_asked" "_law_asked" (top 58) 3 mN (vR 339)
def K27.x344(P:h8):h9:=oZ "_law_place" "_law_place" 633 271 5 341 636 343
def K27.x345(P:h8):h9:=oF vF "_law_place" "_law_place" (top 59) 3 mN (vR 344)
def K27.x348(P:h8):h9:=oT #[vS "_law_turning_here" 642,vS "_law_tree" 643,vS "_law_made_of" 644,vS "_law_cell" 645,vS "_law_here" 646,vS "_law_way_here" 647,vS "_law_number" 648,vS "_law_due" 649,vS "_law_k" 650,vS "_law_found" 651]
def K27.x351(P:h8):h9:=oD "_law_way" "_law_way" 639 282 4 346 652
def K27.x352(P:h8):h9:=oF vF "_law_way" "_law_way" (top 60) 3 mN (vR 351)
def K27.x355(P:h8):h9:=oT #[vS "_law_script" 658,vS "_law_names_here" 659,vS "_law_wood_here" 660,vS "_law_turning_here" 661,vS "_law_nodes" 662,vS "_law_trees" 663,vS "_law_tables_here" 664,vS "_law_tree" 665,vS "_law_k" 666,vS "_law_found" 667,vS "_law_told" 668,vS "_law_cell" 669]
def K27.x358(P:h8):h9:=oD "law" "law" 655 297 1 353 670
def K27.x359(P:h8):h9:=oF vF "law" "law" (top 61) 3 mN (vR 358)
def K27.hp:Params->Fg:=λP=>[(2,Obj.mk vN none (Data.dict #[]) #[]),(3,x3 P),(15,oT #[]),(17,oT #[vS "term" 192]),(18,oT #[]),(20,x20 P),(21,x21 P),(22,oT #[]),(24,x24 P),(25,oT #[]),(27,x27 P),(28,x28 P),(29,oT #[]),(31,oT #[vS "term" 208,vS "mark" 209]),(32,oT #[]),(34,x34 P),(35,x35 P),(36,oT #[]),(38,oT #[vS "term" 216,vS "mark" 217]),(39,oT #[]),(41,x41 P),(42,x42 P),(43,oT #[Value.type "ValueError"]),(50,oT #[]),(51,x51 P),(52,x52 P),(53,x53 P),(56,oT #[vR 52]),(63,oT #[]),(64,x64 P),(65,x65 P),(68,oT #[vR 52]),(75,oT #[]),(76,x76 P),(77,x77 P),(80,oT #[]),(82,oT #[vS "branches" 278,vS "number" 279]),(83,oT #[]),(85,x85 P),(86,x86 P),(87,oT #[]),(89,oT #[vS "wood" 288,vS "kind" 289]),(90,oT #[]),(92,x92 P),(93,x93 P),(94,oT #[]),(96,x96 P),(97,oT #[]),(99,x99 P),(100,x100 P),(101,oT #[]),(104,x104 P),(105,x105 P),(106,oT #[]),(108,x108 P),(109,oT #[]),(111,x111 P),(112,x112 P),(113,oT #[]),(115,oT #[vS "wood" 320,vS "tree" 321]),(116,oT #[]),(118,x118 P),(119,x119 P),(120,oT #[]),(122,x122 P),(123,oT #[]),(125,x125 P),(126,x126 P),(127,oT #[]),(129,x129 P),(130,oT #[]),(132,x132 P),(133,x133 P),(134,oT #[]),(136,oT #[vS "tree" 355]),(137,oT #[]),(139,x139 P),(140,x140 P),(141,oT #[]),(144,x144 P),(145,x145 P),(146,oT #[]),(149,x149 P),(150,x150 P),(151,oT #[]),(154,x154 P),(155,x155 P),(156,oT #[]),(158,oT #[vS "turning" 382,vS "tree" 383]),(159,oT #[]),(161,x161 P),(162,x162 P),(163,oT #[]),(165,oT #[vS "turning" 390,vS "tree" 391]),(166,oT #[]),(168,x168 P),(169,x169 P),(170,oT #[]),(172,x172 P),(173,oT #[]),(175,x175 P),(176,x176 P),(177,oT #[]),(179,x179 P),(180,oT #[]),(182,x182 P),(183,x183 P),(184,oT #[]),(186,x186 P),(187,oT #[]),(189,x189 P),(190,x190 P),(191,oT #[]),(193,x193 P),(194,oT #[]),(196,x196 P),(197,x197 P),(198,oT #[]),(200,x200 P),(201,oT #[]),(203,x203 P),(204,x204 P),(205,oT #[]),(207,oT #[vS "turning" 456,vS "tree" 457]),(208,oT #[]),(210,x210 P),(211,x211 P),(212,oT #[]),(214,x214 P),(215,oT #[]),(217,x217 P),(218,x218 P),(219,oT #[]),(221,x221 P),(222,oT #[]),(224,x224 P),(225,x225 P),(226,oT #[]),(228,x228 P),(229,oT #[]),(231,x231 P),(232,x232 P),(233,oT #[]),(235,x235 P),(236,oT #[]),(238,x238 P),(239,x239 P),(240,oT #[]),(243,x243 P),(244,x244 P),(245,oT #[]),(247,oT #[vS "_law_cell" 507]),(248,oT #[]),(250,x250 P),(251,x251 P),(252,oT #[]),(255,x255 P),(256,x256 P),(257,oT #[]),(260,x260 P),(261,x261 P),(262,oT #[]),(265,x265 P),(266,x266 P),(267,oT #[]),(270,x270 P),(271,x271 P),(272,oT #[]),(274,x274 P),(275,oT #[]),(277,x277 P),(278,x278 P),(279,oT #[]),(282,x282 P),(283,x283 P),(284,oT #[]),(287,x287 P),(288,x288 P),(289,oT #[]),(291,x291 P),(292,oT #[]),(294,x294 P),(295,x295 P),(296,oT #[]),(298,x298 P),(299,oT #[]),(301,x301 P),(302,x302 P),(303,oT #[]),(306,x306 P),(307,x307 P),(308,oT #[]),(310,oT #[vS "_law_found" 590]),(311,oT #[]),(313,x313 P),(314,x314 P),(315,oT #[]),(317,x317 P),(318,oT #[]),(320,x320 P),(321,x321 P),(322,oT #[]),(324,x324 P),(325,oT #[]),(327,x327 P),(328,x328 P),(329,oT #[]),(332,x332 P),(333,x333 P),(334,oT #[]),(336,x336 P),(337,oT #[]),(339,x339 P),(340,x340 P),(341,oT #[]),(344,x344 P),(345,x345 P),(346,oT #[]),(348,x348 P),(349,oT #[]),(351,x351 P),(352,x352 P),(353,oT #[]),(355,x355 P),(356,oT #[]),(358,x358 P),(359,x359 P)]
end
def PySem.W.Fast.tw14127642677986667032:PySem.Params->Fg:=K27.hp
theorem PySem.W.Fast.te14127642677986667032:K27.hp=PySem.W.Fast.tw14127642677986667032:=rfl
namespace PySem.W.Fast
open PySem K27
def tw11422474937958118003:h8->h9:=λP=>oF vF "_law_calls" "_law_calls" (top 46) 3 mN (vR 265)
def te11422474937958118003:=@rfl _ tw11422474937958118003
def tw6332851243785243476:h8->h9:=λP=>oF vF "_law_term" "_law_term" (top 45) 3 mN (vR 260)
def te6332851243785243476:=@rfl _ tw6332851243785243476
def tw2608269834127546918:h8->h9:=λP=>oF vF "_law_names" "_law_names" (top 42) 3 mN (vR 243)
def te2608269834127546918:=@rfl _ tw2608269834127546918
def tw2714185221448591022:h8->h9:=λP=>oF vF "many" "many" (top 26) 3 (vS "turnery.counting" 377) (vR 161)
def te2714185221448591022:=@rfl _ tw2714185221448591022
def tw5941370650343210638:h8->h9:=λP=>oF vF "seen" "seen" (top 30) 3 (vS "turnery.counting" 377) (vR 189)
def te5941370650343210638:=@rfl _ tw5941370650343210638
def tw14832758806904371297:h8->h9:=λP=>oF vF "turned" "turned" (top 36) 3 (vS "turnery.running" 447) (vR 210)
def te14832758806904371297:=@rfl _ tw14832758806904371297
def tw5165961871515446590:h8->h9:=λP=>oF vN "turned_in" "turned_in" (top 37) 0 vN vN
def te5165961871515446590:=@rfl _ tw5165961871515446590
def tw5282159318270308361:h8->h9:=λP=>oF vN "rule_of" "rule_of" (top 18) 0 vN vN
def te5282159318270308361:=@rfl _ tw5282159318270308361
def tw3345445084261272527:h8->h9:=λP=>oF vN "_law_cell_at" "_law_cell_at" (top 40) 0 vN vN
def te3345445084261272527:=@rfl _ tw3345445084261272527
def tw10350305768052593325:h8->h9:=λP=>oF vF "mark_put" "mark_put" (top 3) 3 (vS "turnery.terms" 187) (vR 34)
def te10350305768052593325:=@rfl _ tw10350305768052593325
def tw7588040961091056658:h8->h9:=λP=>oF vF "_law_place" "_law_place" (top 59) 3 mN (vR 344)
def te7588040961091056658:=@rfl _ tw7588040961091056658
def tw8567075759586726613:h8->h9:=λP=>oF vF "_law_is_tree" "_law_is_tree" (top 55) 3 mN (vR 320)
def te8567075759586726613:=@rfl _ tw8567075759586726613
def tw2588294079300953788:h8->h9:=λP=>oF vF "_law_mark" "_law_mark" (top 48) 3 mN (vR 277)
def te2588294079300953788:=@rfl _ tw2588294079300953788
def tw13178601247302775111:h8->h9:=λP=>oF vF "tall_by" "tall_by" (top 29) 3 (vS "turnery.counting" 377) (vR 182)
def te13178601247302775111:=@rfl _ tw13178601247302775111
def tw14056474442909588186:h8->h9:=λP=>oF vF "need_of" "need_of" (top 15) 3 (vS "turnery.woods" 283) (vR 111)
def te14056474442909588186:=@rfl _ tw14056474442909588186
def tw18251990712421185601:h8->h9:=λP=>oF vN "reckoned" "reckoned" (top 22) 0 vN vN
def te18251990712421185601:=@rfl _ tw18251990712421185601
def tw6181582226780797725:h8->h9:=λP=>oF vN "_law_is_tree" "_law_is_tree" (top 55) 0 vN vN
def te6181582226780797725:=@rfl _ tw6181582226780797725
def tw8994002469781223447:h8->h9:=λP=>oF vF "_law_come" "_law_come" (top 57) 3 mN (vR 332)
def te8994002469781223447:=@rfl _ tw8994002469781223447
def tw4930262266683701142:h8->h9:=λP=>oF vN "_law_built" "_law_built" (top 50) 0 vN vN
def te4930262266683701142:=@rfl _ tw4930262266683701142
def tw15618810710502785208:h8->h9:=λP=>oF vN "law" "law" (top 61) 0 vN vN
def te15618810710502785208:=@rfl _ tw15618810710502785208
def tw9115754990569187840:h8->h9:=λP=>oF vN "_law_place" "_law_place" (top 59) 0 vN vN
def te9115754990569187840:=@rfl _ tw9115754990569187840
def tw1438250988053992990:h8->h9:=λP=>oF vN "_law_grown" "_law_grown" (top 49) 0 vN vN
def te1438250988053992990:=@rfl _ tw1438250988053992990
def tw9364894512880837167:h8->h9:=λP=>oF vN "many" "many" (top 26) 0 vN vN
def te9364894512880837167:=@rfl _ tw9364894512880837167
def tw13426516260487809000:h8->h9:=λP=>oF vF "_law_wood" "_law_wood" (top 44) 3 mN (vR 255)
def te13426516260487809000:=@rfl _ tw13426516260487809000
def tw4702480633711645678:h8->h9:=λP=>oF vN "rows_of" "rows_of" (top 12) 0 vN vN
def te4702480633711645678:=@rfl _ tw4702480633711645678
def tw9901495508222784543:h8->h9:=λP=>oF vN "_law_measure" "_law_measure" (top 52) 0 vN vN
def te9901495508222784543:=@rfl _ tw9901495508222784543
def tw878005512940070175:h8->h9:=λP=>oF vF "many_by" "many_by" (top 28) 3 (vS "turnery.counting" 377) (vR 175)
def te878005512940070175:=@rfl _ tw878005512940070175
def tw2639115534882039032:h8->h9:=λP=>oF vF "turned_by" "turned_by" (top 38) 3 (vS "turnery.running" 447) (vR 224)
def te2639115534882039032:=@rfl _ tw2639115534882039032
def tw8822037981453920262:h8->h9:=λP=>oF vN "_law_term" "_law_term" (top 45) 0 vN vN
def te8822037981453920262:=@rfl _ tw8822037981453920262
def tw17078699689321277821:h8->h9:=λP=>oF vN "many_by" "many_by" (top 28) 0 vN vN
def te17078699689321277821:=@rfl _ tw17078699689321277821
def tw8104250670974485601:h8->h9:=λP=>oF vF "_law_count" "_law_count" (top 56) 3 mN (vR 327)
def te8104250670974485601:=@rfl _ tw8104250670974485601
def tw9216482736388409478:h8->h9:=λP=>oF vF "_law_rule" "_law_rule" (top 51) 3 mN (vR 294)
def te9216482736388409478:=@rfl _ tw9216482736388409478
def tw3723829343660576000:h8->h9:=λP=>oF vF "is_of" "is_of" (top 14) 3 (vS "turnery.woods" 283) (vR 104)
def te3723829343660576000:=@rfl _ tw3723829343660576000
def tw7649185435059709360:h8->h9:=λP=>oF vN "is_call" "is_call" (top 1) 0 vN vN
def te7649185435059709360:=@rfl _ tw7649185435059709360
def tw6886088441035486637:h8->h9:=λP=>oF vN "_law_calls" "_law_calls" (top 46) 0 vN vN
def te6886088441035486637:=@rfl _ tw6886088441035486637
def tw17929908738904772694:h8->h9:=λP=>oF vN "called_below" "called_below" (top 23) 0 vN vN
def te17929908738904772694:=@rfl _ tw17929908738904772694
def tw1455107914752959631:h8->h9:=λP=>oF vF "tall" "tall" (top 27) 3 (vS "turnery.counting" 377) (vR 168)
def te1455107914752959631:=@rfl _ tw1455107914752959631
def tw1015543665969778519:h8->h9:=λP=>oF vN "_law_great" "_law_great" (top 43) 0 vN vN
def te1015543665969778519:=@rfl _ tw1015543665969778519
def tw1152030073048995597:h8->h9:=λP=>oF vN "turned" "turned" (top 36) 0 vN vN
def te1152030073048995597:=@rfl _ tw1152030073048995597
def tw321244980726869003:h8->h9:=λP=>oF vF "reckoned" "reckoned" (top 22) 3 (vS "turnery.outcomes" 340) (vR 144)
def te321244980726869003:=@rfl _ tw321244980726869003
def tw15263946405231882292:h8->h9:=λP=>oF vN "turned_by" "turned_by" (top 38) 0 vN vN
def te15263946405231882292:=@rfl _ tw15263946405231882292
def tw7533289263961637953:h8->h9:=λP=>oF vF "_law_grown" "_law_grown" (top 49) 3 mN (vR 282)
def te7533289263961637953:=@rfl _ tw7533289263961637953
def tw7958773483137545324:h8->h9:=λP=>oF vN "_law_names" "_law_names" (top 42) 0 vN vN
def te7958773483137545324:=@rfl _ tw7958773483137545324
def tw11421731468509308337:h8->h9:=λP=>oF vN "put_head" "put_head" (top 4) 0 vN vN
def te11421731468509308337:=@rfl _ tw11421731468509308337
def tw17522727774630564658:h8->h9:=λP=>oF vF "turned_in" "turned_in" (top 37) 3 (vS "turnery.running" 447) (vR 217)
def te17522727774630564658:=@rfl _ tw17522727774630564658
def tw13371569254964644332:h8->h9:=λP=>oF vN "_law_count" "_law_count" (top 56) 0 vN vN
def te13371569254964644332:=@rfl _ tw13371569254964644332
def tw15468137868322378912:h8->h9:=λP=>oF vN "filled" "filled" (top 24) 0 vN vN
def te15468137868322378912:=@rfl _ tw15468137868322378912
def tw9160193701817528437:h8->h9:=λP=>oF vF "is_call" "is_call" (top 1) 3 (vS "turnery.terms" 187) (vR 20)
def te9160193701817528437:=@rfl _ tw9160193701817528437
def tw2177159514730214744:h8->h9:=λP=>oF vN "_law_way" "_law_way" (top 60) 0 vN vN
def te2177159514730214744:=@rfl _ tw2177159514730214744
def tw16097336241977384229:h8->h9:=λP=>oF vN "row_of" "row_of" (top 13) 0 vN vN
def te16097336241977384229:=@rfl _ tw16097336241977384229
def tw16014094536385547387:h8->h9:=λP=>oF vF "_law_mixed" "_law_mixed" (top 41) 3 mN (vR 238)
def te16014094536385547387:=@rfl _ tw16014094536385547387
def tw6416378793142295824:h8->h9:=λP=>oF vF "filled" "filled" (top 24) 3 (vS "turnery.outcomes" 340) (vR 154)
def te6416378793142295824:=@rfl _ tw6416378793142295824
def tw2397720548848422250:h8->h9:=λP=>oF vF "_law_great" "_law_great" (top 43) 3 mN (vR 250)
def te2397720548848422250:=@rfl _ tw2397720548848422250
def tw17323837326286004267:h8->h9:=λP=>oF vF "_law_asked" "_law_asked" (top 58) 3 mN (vR 339)
def te17323837326286004267:=@rfl _ tw17323837326286004267
def tw9832871865168680051:h8->h9:=λP=>oF vF "_law_whole" "_law_whole" (top 54) 3 mN (vR 313)
def te9832871865168680051:=@rfl _ tw9832871865168680051
def tw15227236118823426733:h8->h9:=λP=>oF vN "first_put" "first_put" (top 32) 0 vN vN
def te15227236118823426733:=@rfl _ tw15227236118823426733
def tw10294348712671382740:h8->h9:=λP=>oF vN "_law_rule" "_law_rule" (top 51) 0 vN vN
def te10294348712671382740:=@rfl _ tw10294348712671382740
def tw10328106428279088778:h8->h9:=λP=>oF vN "above" "above" (top 21) 0 vN vN
def te10328106428279088778:=@rfl _ tw10328106428279088778
def tw2932928268567612794:h8->h9:=λP=>oF vF "_law_way" "_law_way" (top 60) 3 mN (vR 351)
def te2932928268567612794:=@rfl _ tw2932928268567612794
def tw2886681808487372712:h8->h9:=λP=>oF vN "is_of" "is_of" (top 14) 0 vN vN
def te2886681808487372712:=@rfl _ tw2886681808487372712
def tw13722878616814781848:h8->h9:=λP=>oF vF "put_head" "put_head" (top 4) 3 (vS "turnery.terms" 187) (vR 41)
def te13722878616814781848:=@rfl _ tw13722878616814781848
def tw17208472245938002607:h8->h9:=λP=>oF vF "seen_by" "seen_by" (top 31) 3 (vS "turnery.counting" 377) (vR 196)
def te17208472245938002607:=@rfl _ tw17208472245938002607
def tw9098714325455251973:h8->h9:=λP=>oF vF "_law_tables" "_law_tables" (top 53) 3 mN (vR 306)
def te9098714325455251973:=@rfl _ tw9098714325455251973
def tw3846957741192293761:h8->h9:=λP=>oF vF "above" "above" (top 21) 3 (vS "turnery.outcomes" 340) (vR 139)
def te3846957741192293761:=@rfl _ tw3846957741192293761
def tw11874193187333135725:h8->h9:=λP=>oF vF "law" "law" (top 61) 3 mN (vR 358)
def te11874193187333135725:=@rfl _ tw11874193187333135725
def tw7100506358087846674:h8->h9:=λP=>oF vN "_law_wood" "_law_wood" (top 44) 0 vN vN
def te7100506358087846674:=@rfl _ tw7100506358087846674
def tw2522524117854937167:h8->h9:=λP=>oF vF "_law_built" "_law_built" (top 50) 3 mN (vR 287)
def te2522524117854937167:=@rfl _ tw2522524117854937167
def tw9702332143402842408:h8->h9:=λP=>oF vF "rows_of" "rows_of" (top 12) 3 (vS "turnery.woods" 283) (vR 92)
def te9702332143402842408:=@rfl _ tw9702332143402842408
def tw192662447759050855:h8->h9:=λP=>oF vN "_law_tables" "_law_tables" (top 53) 0 vN vN
def te192662447759050855:=@rfl _ tw192662447759050855
def tw10688653411793584552:h8->h9:=λP=>oF vF "outcome" "outcome" (top 20) 3 (vS "turnery.outcomes" 340) (vR 132)
def te10688653411793584552:=@rfl _ tw10688653411793584552
def tw16160766186294176977:h8->h9:=λP=>oF vN "_law_asked" "_law_asked" (top 58) 0 vN vN
def te16160766186294176977:=@rfl _ tw16160766186294176977
def tw1689203613517735324:h8->h9:=λP=>oF vN "seen" "seen" (top 30) 0 vN vN
def te1689203613517735324:=@rfl _ tw1689203613517735324
def tw2682202387375920379:h8->h9:=λP=>oF vN "outcome" "outcome" (top 20) 0 vN vN
def te2682202387375920379:=@rfl _ tw2682202387375920379
def tw16158321006221442566:h8->h9:=λP=>oF vF "need_in" "need_in" (top 16) 3 (vS "turnery.woods" 283) (vR 118)
def te16158321006221442566:=@rfl _ tw16158321006221442566
def tw17296230613433982811:h8->h9:=λP=>oF vN "_law_mark" "_law_mark" (top 48) 0 vN vN
def te17296230613433982811:=@rfl _ tw17296230613433982811
def tw4482050592628017652:h8->h9:=λP=>oF vN "_law_come" "_law_come" (top 57) 0 vN vN
def te4482050592628017652:=@rfl _ tw4482050592628017652
def tw5471720615574285346:h8->h9:=λP=>oF vN "tall_by" "tall_by" (top 29) 0 vN vN
def te5471720615574285346:=@rfl _ tw5471720615574285346
def tw9589135328132599928:h8->h9:=λP=>oF vF "called_below" "called_below" (top 23) 3 (vS "turnery.outcomes" 340) (vR 149)
def te9589135328132599928:=@rfl _ tw9589135328132599928
def tw17919230083540919636:h8->h9:=λP=>oF vN "seen_by" "seen_by" (top 31) 0 vN vN
def te17919230083540919636:=@rfl _ tw17919230083540919636
def tw10724234801524726648:h8->h9:=λP=>oF vN "tall" "tall" (top 27) 0 vN vN
def te10724234801524726648:=@rfl _ tw10724234801524726648
def tw7002078005666812382:h8->h9:=λP=>oF vN "mark_put" "mark_put" (top 3) 0 vN vN
def te7002078005666812382:=@rfl _ tw7002078005666812382
def tw5011254715109598327:h8->h9:=λP=>oF vF "_law_cell_at" "_law_cell_at" (top 40) 3 mN (vR 231)
def te5011254715109598327:=@rfl _ tw5011254715109598327
def tw2875567441124990576:h8->h9:=λP=>oF vF "row_of" "row_of" (top 13) 3 (vS "turnery.woods" 283) (vR 99)
def te2875567441124990576:=@rfl _ tw2875567441124990576
def tw1357408557771736280:h8->h9:=λP=>oF vN "_law_turning" "_law_turning" (top 47) 0 vN vN
def te1357408557771736280:=@rfl _ tw1357408557771736280
def tw5516603343159465243:h8->h9:=λP=>oF vN "has_number" "has_number" (top 10) 0 vN vN
def te5516603343159465243:=@rfl _ tw5516603343159465243
def tw7781280950913934555:h8->h9:=λP=>oF vN "_law_mixed" "_law_mixed" (top 41) 0 vN vN
def te7781280950913934555:=@rfl _ tw7781280950913934555
def tw16052377299097607196:h8->h9:=λP=>oF vN "_law_whole" "_law_whole" (top 54) 0 vN vN
def te16052377299097607196:=@rfl _ tw16052377299097607196
def tw1935598813483844154:h8->h9:=λP=>oF vF "has_number" "has_number" (top 10) 3 (vS "turnery.trees" 273) (vR 85)
def te1935598813483844154:=@rfl _ tw1935598813483844154
def tw8735542035563815738:h8->h9:=λP=>oF vN "calls_of" "calls_of" (top 2) 0 vN vN
def te8735542035563815738:=@rfl _ tw8735542035563815738
def tw14767112159710437076:h8->h9:=λP=>oF vF "_law_turning" "_law_turning" (top 47) 3 mN (vR 270)
def te14767112159710437076:=@rfl _ tw14767112159710437076
def tw1589487712556471684:h8->h9:=λP=>oF vN "need_in" "need_in" (top 16) 0 vN vN
def te1589487712556471684:=@rfl _ tw1589487712556471684
def tw10070760597828744160:h8->h9:=λP=>oF vN "need_of" "need_of" (top 15) 0 vN vN
def te10070760597828744160:=@rfl _ tw10070760597828744160
def tw13306894165923704318:h8->h9:=λP=>oF vF "first_put" "first_put" (top 32) 3 (vS "turnery.counting" 377) (vR 203)
def te13306894165923704318:=@rfl _ tw13306894165923704318
def tw11495660126518199964:h8->h9:=λP=>oF vF "_law_measure" "_law_measure" (top 52) 3 mN (vR 301)
def te11495660126518199964:=@rfl _ tw11495660126518199964
def tw9970661058048050858:h8->h9:=λP=>oF vF "rule_of" "rule_of" (top 18) 3 (vS "turnery.turnings" 325) (vR 125)
def te9970661058048050858:=@rfl _ tw9970661058048050858
def tw17971621461524701595:h8->h9:=λP=>oF vF "calls_of" "calls_of" (top 2) 3 (vS "turnery.terms" 187) (vR 27)
def te17971621461524701595:=@rfl _ tw17971621461524701595
end PySem.W.Fast
def PySem.W.Fast.tw18034609734566261947:PySem.Program:=PySem.Challenge.pw_turnery_k27_whole_outcomes
theorem PySem.W.Fast.te18034609734566261947:(PySem.Challenge.pw_turnery_k27_whole_outcomes:PySem.Program)=PySem.W.Fast.tw18034609734566261947:=rfl
def PySem.W.Fast.tw9099069380358356157:PySem.Program:={ PySem.Challenge.pw_turnery_k27_whole_outcomes with main:={ PySem.Challenge.pw_turnery_k27_whole_outcomes.main with body:=[K27.top 1,K27.top 2,K27.top 3,K27.top 4,K27.top 6,K27.top 7,K27.top 8,K27.top 10,K27.top 12,K27.top 13,K27.top 14,K27.top 15,K27.top 16,K27.top 18,K27.top 20,K27.top 21,K27.top 22,K27.top 23,K27.top 24,K27.top 26,K27.top 27,K27.top 28,K27.top 29,K27.top 30,K27.top 31,K27.top 32,K27.top 34,K27.top 35,K27.top 36,K27.top 37,K27.top 38,K27.top 40,K27.top 41,K27.top 42,K27.top 43,K27.top 44,K27.top 45,K27.top 46,K27.top 47,K27.top 48,K27.top 49,K27.top 50,K27.top 51,K27.top 52,K27.top 53,K27.top 54,K27.top 55,K27.top 56,K27.top 57,K27.top 58,K27.top 59,K27.top 60,K27.top 61] } }
theorem PySem.W.Fast.te9099069380358356157:({ PySem.Challenge.pw_turnery_k27_whole_outcomes with main:={ PySem.Challenge.pw_turnery_k27_whole_outcomes.main with body:=[K27.top 1,K27.top 2,K27.top 3,K27.top 4,K27.top 6,K27.top 7,K27.top 8,K27.top 10,K27.top 12,K27.top 13,K27.top 14,K27.top 15,K27.top 16,K27.top 18,K27.top 20,K27.top 21,K27.top 22,K27.top 23,K27.top 24,K27.top 26,K27.top 27,K27.top 28,K27.top 29,K27.top 30,K27.top 31,K27.top 32,K27.top 34,K27.top 35,K27.top 36,K27.top 37,K27.top 38,K27.top 40,K27.top 41,K27.top 42,K27.top 43,K27.top 44,K27.top 45,K27.top 46,K27.top 47,K27.top 48,K27.top 49,K27.top 50,K27.top 51,K27.top 52,K27.top 53,K27.top 54,K27.top 55,K27.top 56,K27.top 57,K27.top 58,K27.top 59,K27.top 60,K27.top 61] } }:PySem.Program)=PySem.W.Fast.tw9099069380358356157:=rfl
def PySem.W.Fast.tw8006564754650140929:List PySem.Stmt:=(ib.drop 0).take 7
theorem PySem.W.Fast.te8006564754650140929:((ib.drop 0).take 7:List PySem.Stmt)=PySem.W.Fast.tw8006564754650140929:=rfl
def PySem.W.Fast.tw17912185908456359760:List PySem.Stmt:=(ib.drop 7).take 1
theorem PySem.W.Fast.te17912185908456359760:((ib.drop 7).take 1:List PySem.Stmt)=PySem.W.Fast.tw17912185908456359760:=rfl
def PySem.W.Fast.tw12515325004338174669:List PySem.Stmt:=(ib.drop 8).take 8
theorem PySem.W.Fast.te12515325004338174669:((ib.drop 8).take 8:List PySem.Stmt)=PySem.W.Fast.tw12515325004338174669:=rfl
def PySem.W.Fast.tw198580030072439367:List PySem.Stmt:=(ib.drop 16).take 15
theorem PySem.W.Fast.te198580030072439367:((ib.drop 16).take 15:List PySem.Stmt)=PySem.W.Fast.tw198580030072439367:=rfl
def PySem.W.Fast.tw16487749510041451181:List PySem.Stmt:=(ib.drop 31).take 16
theorem PySem.W.Fast.te16487749510041451181:((ib.drop 31).take 16:List PySem.Stmt)=PySem.W.Fast.tw16487749510041451181:=rfl
def PySem.W.Fast.tw11190476175321120068:List PySem.Stmt:=(ib.drop 47).take 13
theorem PySem.W.Fast.te11190476175321120068:((ib.drop 47).take 13:List PySem.Stmt)=PySem.W.Fast.tw11190476175321120068:=rfl
def PySem.W.Fast.tw15536772579993067307:List PySem.Stmt:=(ib.drop 60).take 2
theorem PySem.W.Fast.te15536772579993067307:((ib.drop 60).take 2:List PySem.Stmt)=PySem.W.Fast.tw15536772579993067307:=rfl
section
open PySem
open K27
def K27.x11(P:h8):h9:={ cls:=Value.type "tuple",data:=Data.seq #[] }
def K27.l12:List Value:=[vI 2 0,vI 0 0,vR 20,vI 4 0,vI 0 0,vR 27,vI 11 0,vI 0 0,vR 34,vI 13 0,vI 0 0,vR 41,vI 16 0,vI 0 0,vR 48,vI 18 0,vI 0 0,vR 61,vI 20 0,vI 0 0,vR 73,vI 23 0,vI 0 0,vR 85,vI 28 0,vI 0 0,vR 92,vI 30 0,vI 0 0,vR 99,vI 32 0,vI 0 0,vR 104,vI 38 0,vI 0 0,vR 111,vI 41 0,vI 0 0,vR 118,vI 44 0,vI 0 0,vR 125,vI 52 0,vI 0 0,vR 132,vI 54 0,vI 0 0,vR 139,vI 56 0,vI 0 0,vR 144,vI 61 0,vI 0 0,vR 149,vI 68 0,vI 0 0,vR 154,vI 73 0,vI 0 0,vR 161,vI 76 0,vI 0 0,vR 168,vI 79 0,vI 0 0,vR 175,vI 81 0,vI 0 0,vR 182,vI 83 0,vI 0 0,vR 189,vI 86 0,vI 0 0,vR 196,vI 94 0,vI 0 0,vR 203,vI 105 0,vI 0 0,vR 210,vI 108 0,vI 0 0,vR 217,vI 111 0,vI 0 0,vR 224,vI 118 0,vI 0 0,vR 231,vI 122 0,vI 0 0,vR 238,vI 126 0,vI 0 0,vR 243,vI 139 0,vI 0 0,vR 250,vI 141 0,vI 0 0,vR 255,vI 154 0,vI 0 0,vR 260,vI 165 0,vI 0 0,vR 265,vI 170 0,vI 0 0,vR 270,vI 185 0,vI 0 0,vR 277,vI 187 0,vI 0 0,vR 282,vI 206 0,vI 0 0,vR 287,vI 215 0,vI 0 0,vR 294,vI 221 0,vI 0 0,vR 301,vI 231 0,vI 0 0,vR 306,vI 239 0,vI 0 0,vR 313,vI 241 0,vI 0 0,vR 320,vI 250 0,vI 0 0,vR 327,vI 258 0,vI 0 0,vR 332,vI 263 0,vI 0 0,vR 339,vI 271 0,vI 0 0,vR 344,vI 282 0,vI 0 0,vR 351,vI 297 0,vI 0 0,vR 358]
def K27.x12(P:h8):h9:={ cls:=vN,data:=Data.fields l12.toArray }
def K27.x13(P:h8):h9:={ cls:=Value.type "code",data:=Data.fields #[vS "<module>" 182,vS "<module>" 183,vS "/claim/cut.py" 184,vI 1 0,vI 0 0,vI 0 0,vI 0 0,vI 0 0,vR 11,Value.bool false,vI 181 0,vR 12,vN,vN,vN,vN,vI 185 0,vI 1 0,vS "/claim/cut.py" 186] }
def K27.x14(P:h8):h9:={ cls:=Value.type "frame",slots:=#[some (vR 13),some (vR 3),some (vR 3),none,some (vS "__main__" 164),none,some (vR 0)] }
def K27.x19(P:h8):h9:=W.Fast.tw7649185435059709360 P
def K27.x26(P:h8):h9:=W.Fast.tw8735542035563815738 P
def K27.x33(P:h8):h9:=W.Fast.tw7002078005666812382 P
def K27.x40(P:h8):h9:=W.Fast.tw11421731468509308337 P
def K27.x44(P:h8):h9:={ cls:=Value.type "builtin_function_or_method",data:=Data.fields #[Value.builtin "type.__prepare__",Value.type "type"] }
def K27.x45(P:h8):h9:={ cls:=Value.type "dict",data:=Data.dict #[hE P "__module__" 230 (vS "turnery.errors" 221),hE P "__qualname__" 232 (vS "TurnError" 231),hE P "__firstlineno__" 234 (vI 16 233),hE P "__static_attributes__" 235 (vR 50)] 4 }
def K27.x46(P:h8):h9:={ cls:=Value.type "tuple",data:=Data.seq #[] }
def K27.x48(P:h8):h9:={ cls:=Value.type "code",data:=Data.fields #[vS "TurnError" 225,vS "TurnError" 226,vS "/claim/cut.py" 227,vI 16 0,vI 0 0,vI 0 0,vI 0 0,vI 0 0,vR 46,Value.bool false,vI 181 0,vR 47,vN,vN,vN,vN,vI 228 0,vI 16 0,vS "/claim/cut.py" 229] }
def K27.x49(P:h8):h9:={ cls:=Value.type "frame",slots:=#[some (vR 48),some (vR 3),some (vR 45),none,some (vS "turnery.errors" 221),none,some (vR 0)] }
def K27.x54(P:h8):h9:={ cls:=Value.type "super",data:=Data.fields #[vR 52,vR 52,vR 52] }
def K27.x55(P:h8):h9:={ cls:=Value.type "builtin_function_or_method",data:=Data.fields #[Value.builtin "object.__init_subclass__",vR 52] }
def K27.x57(P:h8):h9:={ cls:=Value.type "builtin_function_or_method",data:=Data.fields #[Value.builtin "type.__prepare__",Value.type "type"] }
def K27.x58(P:h8):h9:={ cls:=Value.type "dict",data:=Data.dict #[hE P "__module__" 248 (vS "turnery.errors" 221),hE P "__qualname__" 250 (vS "NoTree" 249),hE P "__firstlineno__" 252 (vI 18 251),hE P "__static_attributes__" 253 (vR 63)] 4 }
def K27.x59(P:h8):h9:={ cls:=Value.type "tuple",data:=Data.seq #[] }
def K27.x61(P:h8):h9:={ cls:=Value.type "code",data:=Data.fields #[vS "NoTree" 243,vS "NoTree" 244,vS "/claim/cut.py" 245,vI 18 0,vI 0 0,vI 0 0,vI 0 0,vI 0 0,vR 59,Value.bool false,vI 181 0,vR 60,vN,vN,vN,vN,vI 246 0,vI 18 0,vS "/claim/cut.py" 247] }
def K27.x62(P:h8):h9:={ cls:=Value.type "frame",slots:=#[some (vR 61),some (vR 3),some (vR 58),none,some (vS "turnery.errors" 221),none,some (vR 0)] }
def K27.x66(P:h8):h9:={ cls:=Value.type "super",data:=Data.fields #[vR 65,vR 65,vR 65] }
def K27.x67(P:h8):h9:={ cls:=Value.type "builtin_function_or_method",data:=Data.fields #[Value.builtin "object.__init_subclass__",vR 65] }
def K27.x69(P:h8):h9:={ cls:=Value.type "builtin_function_or_method",data:=Data.fields #[Value.builtin "type.__prepare__",Value.type "type"] }
def K27.x70(P:h8):h9:={ cls:=Value.type "dict",data:=Data.dict #[hE P "__module__" 264 (vS "turnery.errors" 221),hE P "__qualname__" 266 (vS "TooGreat" 265),hE P "__firstlineno__" 268 (vI 20 267),hE P "__static_attributes__" 269 (vR 75)] 4 }
def K27.x71(P:h8):h9:={ cls:=Value.type "tuple",data:=Data.seq #[] }
def K27.x73(P:h8):h9:={ cls:=Value.type "code",data:=Data.fields #[vS "TooGreat" 259,vS "TooGreat" 260,vS "/claim/cut.py" 261,vI 20 0,vI 0 0,vI 0 0,vI 0 0,vI 0 0,vR 71,Value.bool false,vI 181 0,vR 72,vN,vN,vN,vN,vI 262 0,vI 20 0,vS "/claim/cut.py" 263] }
def K27.x74(P:h8):h9:={ cls:=Value.type "frame",slots:=#[some (vR 73),some (vR 3),some (vR 70),none,some (vS "turnery.errors" 221),none,some (vR 0)] }
def K27.x78(P:h8):h9:={ cls:=Value.type "super",data:=Data.fields #[vR 77,vR 77,vR 77] }
def K27.x79(P:h8):h9:={ cls:=Value.type "builtin_function_or_method",data:=Data.fields #[Value.builtin "object.__init_subclass__",vR 77] }
def K27.x84(P:h8):h9:=W.Fast.tw5516603343159465243 P
def K27.x91(P:h8):h9:=W.Fast.tw4702480633711645678 P
def K27.x98(P:h8):h9:=W.Fast.tw16097336241977384229 P
def K27.x103(P:h8):h9:=W.Fast.tw2886681808487372712 P
def K27.x110(P:h8):h9:=W.Fast.tw10070760597828744160 P
def K27.x117(P:h8):h9:=W.Fast.tw1589487712556471684 P
def K27.x124(P:h8):h9:=W.Fast.tw5282159318270308361 P
def K27.x131(P:h8):h9:=W.Fast.tw2682202387375920379 P
def K27.x138(P:h8):h9:=W.Fast.tw10328106428279088778 P
def K27.x143(P:h8):h9:=W.Fast.tw18251990712421185601 P
def K27.x148(P:h8):h9:=W.Fast.tw17929908738904772694 P
def K27.x153(P:h8):h9:=W.Fast.tw15468137868322378912 P
def K27.x160(P:h8):h9:=W.Fast.tw9364894512880837167 P
def K27.x167(P:h8):h9:=W.Fast.tw10724234801524726648 P
def K27.x174(P:h8):h9:=W.Fast.tw17078699689321277821 P
def K27.x181(P:h8):h9:=W.Fast.tw5471720615574285346 P
def K27.x188(P:h8):h9:=W.Fast.tw1689203613517735324 P
def K27.x195(P:h8):h9:=W.Fast.tw17919230083540919636 P
def K27.x202(P:h8):h9:=W.Fast.tw15227236118823426733 P
def K27.x209(P:h8):h9:=W.Fast.tw1152030073048995597 P
def K27.x216(P:h8):h9:=W.Fast.tw5165961871515446590 P
def K27.x223(P:h8):h9:=W.Fast.tw15263946405231882292 P
def K27.x230(P:h8):h9:=W.Fast.tw3345445084261272527 P
def K27.x237(P:h8):h9:=W.Fast.tw7781280950913934555 P
def K27.x242(P:h8):h9:=W.Fast.tw7958773483137545324 P
def K27.x249(P:h8):h9:=W.Fast.tw1015543665969778519 P
def K27.x254(P:h8):h9:=W.Fast.tw7100506358087846674 P
def K27.x259(P:h8):h9:=W.Fast.tw8822037981453920262 P
def K27.x264(P:h8):h9:=W.Fast.tw6886088441035486637 P
def K27.x269(P:h8):h9:=W.Fast.tw1357408557771736280 P
def K27.x276(P:h8):h9:=W.Fast.tw17296230613433982811 P
def K27.x281(P:h8):h9:=W.Fast.tw1438250988053992990 P
def K27.x286(P:h8):h9:=W.Fast.tw4930262266683701142 P
def K27.x293(P:h8):h9:=W.Fast.tw10294348712671382740 P
def K27.x300(P:h8):h9:=W.Fast.tw9901495508222784543 P
def K27.x305(P:h8):h9:=W.Fast.tw192662447759050855 P
def K27.x312(P:h8):h9:=W.Fast.tw16052377299097607196 P
def K27.x319(P:h8):h9:=W.Fast.tw6181582226780797725 P
def K27.x326(P:h8):h9:=W.Fast.tw13371569254964644332 P
def K27.x331(P:h8):h9:=W.Fast.tw4482050592628017652 P
def K27.x338(P:h8):h9:=W.Fast.tw16160766186294176977 P
def K27.x343(P:h8):h9:=W.Fast.tw9115754990569187840 P
def K27.x350(P:h8):h9:=W.Fast.tw2177159514730214744 P
def K27.x357(P:h8):h9:=W.Fast.tw15618810710502785208 P
def _root_.PySem.W.Fast.tw5496905404567436782:Params->Heap:=λP=>{ objs:=⟨[W.boot_o_0 P,W.boot_o_1 P,Obj.mk vN none (Data.dict #[]) #[],x3 P,W.boot_o_4 P,W.boot_o_5 P,W.boot_o_6 P,W.boot_o_7 P,W.boot_o_8 P,W.boot_o_9 P,W.boot_o_10 P,x11 P,x12 P,x13 P,x14 P,oT #[],oE,oT #[vS "term" 192],oT #[],x19 P,x20 P,x21 P,oT #[],oE,x24 P,oT #[],x26 P,x27 P,x28 P,oT #[],oE,oT #[vS "term" 208,vS "mark" 209],oT #[],x33 P,x34 P,x35 P,oT #[],oE,oT #[vS "term" 216,vS "mark" 217],oT #[],x40 P,x41 P,x42 P,oT #[Value.type "ValueError"],x44 P,x45 P,x46 P,oE,x48 P,x49 P,oT #[],x51 P,x52 P,x53 P,x54 P,x55 P,oT #[vR 52],x57 P,x58 P,x59 P,oE,x61 P,x62 P,oT #[],x64 P,x65 P,x66 P,x67 P,oT #[vR 52],x69 P,x70 P,x71 P,oE,x73 P,x74 P,oT #[],x76 P,x77 P,x78 P,x79 P,oT #[],oE,oT #[vS "branches" 278,vS "number" 279],oT #[],x84 P,x85 P,x86 P,oT #[],oE,oT #[vS "wood" 288,vS "kind" 289],oT #[],x91 P,x92 P,x93 P,oT #[],oE,x96 P,oT #[],x98 P,x99 P,x100 P,oT #[],oE,x103 P,x104 P,x105 P,oT #[],oE,x108 P,oT #[],x110 P,x111 P,x112 P,oT #[],oE,oT #[vS "wood" 320,vS "tree" 321],oT #[],x117 P,x118 P,x119 P,oT #[],oE,x122 P,oT #[],x124 P,x125 P,x126 P,oT #[],oE,x129 P,oT #[],x131 P,x132 P,x133 P,oT #[],oE,oT #[vS "tree" 355],oT #[],x138 P,x139 P,x140 P,oT #[],oE,x143 P,x144 P,x145 P,oT #[],oE,x148 P,x149 P,x150 P,oT #[],oE,x153 P,x154 P,x155 P,oT #[],oE,oT #[vS "turning" 382,vS "tree" 383],oT #[],x160 P,x161 P,x162 P,oT #[],oE,oT #[vS "turning" 390,vS "tree" 391],oT #[],x167 P,x168 P,x169 P,oT #[],oE,x172 P,oT #[],x174 P,x175 P,x176 P,oT #[],oE,x179 P,oT #[],x181 P,x182 P,x183 P,oT #[],oE,x186 P,oT #[],x188 P,x189 P,x190 P,oT #[],oE,x193 P,oT #[],x195 P,x196 P,x197 P,oT #[],oE,x200 P,oT #[],x202 P,x203 P,x204 P,oT #[],oE,oT #[vS "turning" 456,vS "tree" 457],oT #[],x209 P,x210 P,x211 P,oT #[],oE,x214 P,oT #[],x216 P,x217 P,x218 P,oT #[],oE,x221 P,oT #[],x223 P,x224 P,x225 P,oT #[],oE,x228 P,oT #[],x230 P,x231 P,x232 P,oT #[],oE,x235 P,oT #[],x237 P,x238 P,x239 P,oT #[],oE,x242 P,x243 P,x244 P,oT #[],oE,oT #[vS "_law_cell" 507],oT #[],x249 P,x250 P,x251 P,oT #[],oE,x254 P,x255 P,x256 P,oT #[],oE,x259 P,x260 P,x261 P,oT #[],oE,x264 P,x265 P,x266 P,oT #[],oE,x269 P,x270 P,x271 P,oT #[],oE,x274 P,oT #[],x276 P,x277 P,x278 P,oT #[],oE,x281 P,x282 P,x283 P,oT #[],oE,x286 P,x287 P,x288 P,oT #[],oE,x291 P,oT #[],x293 P,x294 P,x295 P,oT #[],oE,x298 P,oT #[],x300 P,x301 P,x302 P,oT #[],oE,x305 P,x306 P,x307 P,oT #[],oE,oT #[vS "_law_found" 590],oT #[],x312 P,x313 P,x314 P,oT #[],oE,x317 P,oT #[],x319 P,x320 P,x321 P,oT #[],oE,x324 P,oT #[],x326 P,x327 P,x328 P,oT #[],oE,x331 P,x332 P,x333 P,oT #[],oE,x336 P,oT #[],x338 P,x339 P,x340 P,oT #[],oE,x343 P,x344 P,x345 P,oT #[],oE,x348 P,oT #[],x350 P,x351 P,x352 P,oT #[],oE,x355 P,oT #[],x357 P,x358 P,x359 P]⟩ }
def _root_.PySem.W.Fast.te5496905404567436782:=@rfl _ PySem.W.Fast.tw5496905404567436782
def K27.N:W.BT:=.nil
def K27.B(o:Obj)(l r:W.BT):W.BT:=.node o l r
def _root_.PySem.W.Fast.tw13531952825561064173:Params->W.BT:=λP=>B (W.boot_o_0 P) (B (W.boot_o_1 P) (B (x3 P) (B (W.boot_o_7 P) (B (oT #[]) (B (oT #[vS "term" 208,vS "mark" 209]) (B (oT #[]) (B (oT #[]) (B (x255 P) N N) N) (B (oT #[]) (B (x319 P) N N) N)) (B (oE) (B (oT #[]) (B (x287 P) N N) N) (B (x223 P) (B (x351 P) N N) N))) (B (oE) (B (x79 P) (B (x143 P) (B (x271 P) N N) N) (B (oT #[vS "turning" 456,vS "tree" 457]) (12:) N)) (B (x111 P) (B (x175 P) (3:) N) (B (x239 P) N N)))) (B (oE) (B (oT #[]) (B (x71 P) (B (oE) (12:) N) (B (oE) (B (x327 P) N N) N)) (B (x103 P) (B (x167 P) (B (x295 P) N N) N) (B (x231 P) (B (x359 P) N N) N))) (B (x55 P) (B (oT #[]) (B (oT #[]) (3:) N) (B (oT #[]) (B (x343 P) N N) N)) (B (x119 P) (B (x183 P) (3:) N) (B (oT #[vS "_law_cell" 507]) N N))))) (B (x11 P) (B (x19 P) (B (x35 P) (B (x67 P) (B (x131 P) (B (x259 P) N N) N) (B (x195 P) (12:) N)) (B (x99 P) (B (oT #[]) (B (x291 P) N N) N) (B (oE) (B (x355 P) N N) N))) (B (x51 P) (B (oT #[]) (B (oE) (3:) N) (B (x211 P) (B (x339 P) N N) N)) (B (oT #[vS "wood" 320,vS "tree" 321]) (B (x179 P) (B (x307 P) N N) N) (B (x243 P) N N)))) (B (x27 P) (B (oT #[Value.type "ValueError"]) (B (oT #[]) (B (x139 P) (3:) N) (B (x203 P) (B (x331 P) N N) N)) (B (oE) (B (oE) (3:) N) (B (x235 P) N N))) (B (x59 P) (B (x91 P) (B (x155 P) (B (x283 P) N N) N) (B (oT #[]) (12:) N)) (B (oT #[]) (B (oT #[]) (3:) N) (B (x251 P) N N)))))) (B (W.boot_o_5 P) (B (W.boot_o_9 P) (B (oT #[vS "term" 192]) (B (x33 P) (B (x65 P) (B (x129 P) (3:) N) (B (x193 P) (B (x321 P) N N) N)) (B (oT #[]) (B (x161 P) (3:) N) (B (x225 P) (3:) N))) (B (x49 P) (B (oE) (B (x145 P) (12:) N) (B (x209 P) (3:) N)) (B (oT #[]) (B (oT #[]) (B (x305 P) N N) N) (12:)))) (B (oT #[]) (B (x41 P) (B (x73 P) (B (oT #[]) (B (x265 P) N N) N) (B (oT #[]) (3:) N)) (B (x105 P) (B (x169 P) (12:) N) (3:))) (B (x57 P) (B (oT #[vS "wood" 288,vS "kind" 289]) (B (x153 P) (B (x281 P) N N) N) (B (x217 P) (B (x345 P) N N) N)) (B (oE) (B (oE) (B (x313 P) N N) N) (B (x249 P) N N))))) (B (x13 P) (B (x21 P) (B (oE) (B (x69 P) (B (x133 P) (B (x261 P) N N) N) (B (x197 P) (3:) N)) (B (oT #[]) (B (oT #[vS "turning" 390,vS "tree" 391]) (B (x293 P) N N) N) (B (oT #[]) (B (x357 P) N N) N))) (B (x53 P) (B (x85 P) (B (x149 P) (B (x277 P) N N) N) (B (oE) (3:) N)) (B (x117 P) (B (x181 P) (12:) N) (3:)))) (B (oT #[]) (B (x45 P) (B (x77 P) (B (oT #[]) (B (x269 P) N N) N) (B (oT #[]) (B (x333 P) N N) N)) (B (oT #[]) (B (oT #[]) (B (x301 P) N N) N) (B (x237 P) N N))) (B (x61 P) (B (x93 P) (B (oE) (12:) N) (B (x221 P) (3:) N)) (B (x125 P) (B (x189 P) (B (x317 P) N N) N) (12:))))))) (B (Obj.mk vN none (Data.dict #[]) #[]) (B (W.boot_o_4 P) (B (W.boot_o_8 P) (B (oE) (B (oT #[]) (B (x64 P) (B (oE) (B (x256 P) N N) N) (B (oE) (B (x320 P) N N) N)) (B (x96 P) (B (x160 P) (B (x288 P) N N) N) (B (x224 P) (B (x352 P) N N) N))) (B (x48 P) (B (oT #[]) (B (x144 P) (3:) N) (B (oT #[]) (B (x336 P) N N) N)) (B (x112 P) (B (x176 P) (12:) N) (3:)))) (B (x24 P) (B (x40 P) (B (oE) (B (oT #[vS "tree" 355]) (B (x264 P) N N) N) (B (x200 P) (B (x328 P) N N) N)) (B (x104 P) (B (x168 P) (3:) N) (B (x232 P) N N))) (B (oT #[vR 52]) (B (oE) (B (oE) (12:) N) (B (x216 P) (B (x344 P) N N) N)) (B (oT #[]) (B (oT #[]) (B (x312 P) N N) N) (3:))))) (B (x12 P) (B (x20 P) (B (oT #[]) (B (oT #[vR 52]) (B (x132 P) (B (x260 P) N N) N) (B (x196 P) (B (x324 P) N N) N)) (B (x100 P) (B (oE) (3:) N) (B (x228 P) (3:) N))) (B (x52 P) (B (x84 P) (B (x148 P) (B (x276 P) N N) N) (B (oT #[]) (B (x340 P) N N) N)) (B (oT #[]) (B (oT #[]) (3:) N) (B (x244 P) N N)))) (B (x28 P) (B (x44 P) (B (x76 P) (B (x140 P) (12:) N) (B (x204 P) (B (x332 P) N N) N)) (B (x108 P) (B (x172 P) (B (x300 P) N N) N) (3:))) (B (oE) (B (x92 P) (B (oT #[]) (3:) N) (B (oE) (B (x348 P) N N) N)) (B (x124 P) (B (x188 P) (12:) N) (3:)))))) (B (W.boot_o_6 P) (B (W.boot_o_10 P) (B (oT #[]) (B (x34 P) (B (x66 P) (B (oT #[]) (12:) N) (B (oT #[]) (3:) N)) (B (x98 P) (B (x162 P) (12:) N) (B (oT #[]) (12:) N))) (B (oT #[]) (B (oT #[vS "branches" 278,vS "number" 279]) (B (oT #[]) (B (x274 P) N N) N) (B (x210 P) (B (x338 P) N N) N)) (B (oE) (B (oE) (B (x306 P) N N) N) (B (x242 P) N N)))) (B (x26 P) (B (x42 P) (B (x74 P) (B (x138 P) (B (x266 P) N N) N) (B (x202 P) (12:) N)) (B (oT #[]) (B (oT #[]) (B (x298 P) N N) N) (12:))) (B (x58 P) (B (oT #[]) (B (x154 P) (B (x282 P) N N) N) (B (x218 P) (3:) N)) (B (x122 P) (B (x186 P) (B (x314 P) N N) N) (B (x250 P) N N))))) (B (x14 P) (B (oT #[]) (B (oT #[vS "term" 216,vS "mark" 217]) (B (x70 P) (B (oT #[]) (3:) N) (B (oT #[]) (B (x326 P) N N) N)) (B (oE) (B (oT #[]) (B (x294 P) N N) N) (B (x230 P) (B (x358 P) N N) N))) (B (x54 P) (B (x86 P) (B (x150 P) (B (x278 P) N N) N) (B (x214 P) (12:) N)) (B (x118 P) (B (x182 P) (B (oT #[vS "_law_found" 590]) N N) N) (12:)))) (B (oE) (B (x46 P) (B (x78 P) (B (oE) (B (x270 P) N N) N) (B (oE) (3:) N)) (B (x110 P) (B (x174 P) (B (x302 P) N N) N) (B (x238 P) N N))) (B (x62 P) (B (oT #[]) (B (oT #[vS "turning" 382,vS "tree" 383]) (B (x286 P) N N) N) (B (oT #[]) (B (x350 P) N N) N)) (B (x126 P) (B (x190 P) (3:) N) (B (x254 P) N N)))))))
def _root_.PySem.W.Fast.te13531952825561064173:=@rfl _ PySem.W.Fast.tw13531952825561064173
def K27.y3_393(P:h8):h9:={ cls:=Value.type "dict",data:=Data.dict (hE P "__name__" 165 mN::(l3 P).take 59).toArray 60 }
def K27.y12_393(P:h8):h9:={ cls:=vN,data:=Data.fields (l12.take 147).toArray }
def _root_.PySem.W.Fast.tw18135134114962925065:Params->W.BT:=λP=>B (W.boot_o_0 P) (B (W.boot_o_1 P) (B (y3_393 P) (B (W.boot_o_7 P) (B (oT #[]) (B (oT #[vS "term" 208,vS "mark" 209]) (B (oT #[]) (B (oT #[]) (B (x255 P) N N) N) (B (oT #[]) (B (x319 P) N N) N)) (B (oE) (B (oT #[]) (B (x287 P) N N) N) (B (x223 P) N N))) (B (oE) (B (x79 P) (B (x143 P) (B (x271 P) N N) N) (B (oT #[vS "turning" 456,vS "tree" 457]) (12:) N)) (B (x111 P) (B (x175 P) (3:) N) (B (x239 P) N N)))) (B (oE) (B (oT #[]) (B (x71 P) (B (oE) (12:) N) (B (oE) (B (x327 P) N N) N)) (B (x103 P) (B (x167 P) (B (x295 P) N N) N) (B (x231 P) N N))) (B (x55 P) (B (oT #[]) (B (oT #[]) (3:) N) (B (oT #[]) (B (x343 P) N N) N)) (B (x119 P) (B (x183 P) (3:) N) (B (oT #[vS "_law_cell" 507]) N N))))) (B (x11 P) (B (x19 P) (B (x35 P) (B (x67 P) (B (x131 P) (B (x259 P) N N) N) (B (x195 P) (12:) N)) (B (x99 P) (B (oT #[]) (B (x291 P) N N) N) (12:))) (B (x51 P) (B (oT #[]) (B (oE) (3:) N) (B (x211 P) (B (x339 P) N N) N)) (B (oT #[vS "wood" 320,vS "tree" 321]) (B (x179 P) (B (x307 P) N N) N) (B (x243 P) N N)))) (B (x27 P) (B (oT #[Value.type "ValueError"]) (B (oT #[]) (B (x139 P) (3:) N) (B (x203 P) (B (x331 P) N N) N)) (B (oE) (B (oE) (3:) N) (B (x235 P) N N))) (B (x59 P) (B (x91 P) (B (x155 P) (B (x283 P) N N) N) (3:)) (B (oT #[]) (B (oT #[]) (3:) N) (B (x251 P) N N)))))) (B (W.boot_o_5 P) (B (W.boot_o_9 P) (B (oT #[vS "term" 192]) (B (x33 P) (B (x65 P) (B (x129 P) (3:) N) (B (x193 P) (B (x321 P) N N) N)) (B (oT #[]) (B (x161 P) (3:) N) (B (x225 P) N N))) (B (x49 P) (B (oE) (B (x145 P) (12:) N) (B (x209 P) (3:) N)) (B (oT #[]) (B (oT #[]) (B (x305 P) N N) N) (12:)))) (B (oT #[]) (B (x41 P) (B (x73 P) (B (oT #[]) (B (x265 P) N N) N) (B (oT #[]) (3:) N)) (B (x105 P) (B (x169 P) (12:) N) (3:))) (B (x57 P) (B (oT #[vS "wood" 288,vS "kind" 289]) (B (x153 P) (B (x281 P) N N) N) (B (x217 P) (B (x345 P) N N) N)) (B (oE) (B (oE) (B (x313 P) N N) N) (B (x249 P) N N))))) (B (x13 P) (B (x21 P) (B (oE) (B (x69 P) (B (x133 P) (B (x261 P) N N) N) (B (x197 P) (3:) N)) (B (oT #[]) (B (oT #[vS "turning" 390,vS "tree" 391]) (B (x293 P) N N) N) (3:))) (B (x53 P) (B (x85 P) (B (x149 P) (B (x277 P) N N) N) (B (oE) (3:) N)) (B (x117 P) (B (x181 P) (12:) N) (3:)))) (B (oT #[]) (B (x45 P) (B (x77 P) (B (oT #[]) (B (x269 P) N N) N) (B (oT #[]) (B (x333 P) N N) N)) (B (oT #[]) (B (oT #[]) (B (x301 P) N N) N) (B (x237 P) N N))) (B (x61 P) (B (x93 P) (B (oE) (12:) N) (B (x221 P) N N)) (B (x125 P) (B (x189 P) (B (x317 P) N N) N) (12:))))))) (B (Obj.mk vN none (Data.dict #[]) #[]) (B (W.boot_o_4 P) (B (W.boot_o_8 P) (B (oE) (B (oT #[]) (B (x64 P) (B (oE) (B (x256 P) N N) N) (B (oE) (B (x320 P) N N) N)) (B (x96 P) (B (x160 P) (B (x288 P) N N) N) (B (x224 P) N N))) (B (x48 P) (B (oT #[]) (B (x144 P) (3:) N) (B (oT #[]) (B (x336 P) N N) N)) (B (x112 P) (B (x176 P) (12:) N) (3:)))) (B (x24 P) (B (x40 P) (B (oE) (B (oT #[vS "tree" 355]) (B (x264 P) N N) N) (B (x200 P) (B (x328 P) N N) N)) (B (x104 P) (B (x168 P) (3:) N) (B (x232 P) N N))) (B (oT #[vR 52]) (B (oE) (B (oE) (12:) N) (B (x216 P) (B (x344 P) N N) N)) (B (oT #[]) (B (oT #[]) (B (x312 P) N N) N) (3:))))) (B (y12_393 P) (B (x20 P) (B (oT #[]) (B (oT #[vR 52]) (B (x132 P) (B (x260 P) N N) N) (B (x196 P) (B (x324 P) N N) N)) (B (x100 P) (B (oE) (3:) N) (B (x228 P) N N))) (B (x52 P) (B (x84 P) (B (x148 P) (B (x276 P) N N) N) (B (oT #[]) (B (x340 P) N N) N)) (B (oT #[]) (B (oT #[]) (3:) N) (B (x244 P) N N)))) (B (x28 P) (B (x44 P) (B (x76 P) (B (x140 P) (12:) N) (B (x204 P) (B (x332 P) N N) N)) (B (x108 P) (B (x172 P) (B (x300 P) N N) N) (3:))) (B (oE) (B (x92 P) (B (oT #[]) (3:) N) (12:)) (B (x124 P) (B (x188 P) (12:) N) (3:)))))) (B (W.boot_o_6 P) (B (W.boot_o_10 P) (B (oT #[]) (B (x34 P) (B (x66 P) (B (oT #[]) (12:) N) (B (oT #[]) (3:) N)) (B (x98 P) (B (x162 P) (12:) N) (3:))) (B (oT #[]) (B (oT #[vS "branches" 278,vS "number" 279]) (B (oT #[]) (B (x274 P) N N) N) (B (x210 P) (B (x338 P) N N) N)) (B (oE) (B (oE) (B (x306 P) N N) N) (B (x242 P) N N)))) (B (x26 P) (B (x42 P) (B (x74 P) (B (x138 P) (B (x266 P) N N) N) (B (x202 P) (12:) N)) (B (oT #[]) (B (oT #[]) (B (x298 P) N N) N) (12:))) (B (x58 P) (B (oT #[]) (B (x154 P) (B (x282 P) N N) N) (B (x218 P) N N)) (B (x122 P) (B (x186 P) (B (x314 P) N N) N) (B (x250 P) N N))))) (B (x14 P) (B (oT #[]) (B (oT #[vS "term" 216,vS "mark" 217]) (B (x70 P) (B (oT #[]) (3:) N) (B (oT #[]) (B (x326 P) N N) N)) (B (oE) (B (oT #[]) (B (x294 P) N N) N) (B (x230 P) N N))) (B (x54 P) (B (x86 P) (B (x150 P) (B (x278 P) N N) N) (B (x214 P) (12:) N)) (B (x118 P) (B (x182 P) (B (oT #[vS "_law_found" 590]) N N) N) (12:)))) (B (oE) (B (x46 P) (B (x78 P) (B (oE) (B (x270 P) N N) N) (B (oE) (3:) N)) (B (x110 P) (B (x174 P) (B (x302 P) N N) N) (B (x238 P) N N))) (B (x62 P) (B (oT #[]) (B (oT #[vS "turning" 382,vS "tree" 383]) (B (x286 P) N N) N) (3:)) (B (x126 P) (B (x190 P) (3:) N) (B (x254 P) N N)))))))
def _root_.PySem.W.Fast.te18135134114962925065:=@rfl _ PySem.W.Fast.tw18135134114962925065
def K27.y3_312(P:h8):h9:={ cls:=Value.type "dict",data:=Data.dict (hE P "__name__" 165 mN::(l3 P).take 46).toArray 47 }
def K27.y12_312(P:h8):h9:={ cls:=vN,data:=Data.fields (l12.take 108).toArray }
def _root_.PySem.W.Fast.tw2821214486785801643:Params->W.BT:=λP=>B (W.boot_o_0 P) (B (W.boot_o_1 P) (B (y3_312 P) (B (W.boot_o_7 P) (B (oT #[]) (B (oT #[vS "term" 208,vS "mark" 209]) (B (oT #[]) (B (oT #[]) (B (x255 P) N N) N) (3:)) (B (oE) (3:) (B (x223 P) N N))) (B (oE) (B (x79 P) (B (x143 P) N N) (B (oT #[vS "turning" 456,vS "tree" 457]) N N)) (B (x111 P) (B (x175 P) N N) (B (x239 P) N N)))) (B (oE) (B (oT #[]) (B (x71 P) (B (oE) (12:) N) (12:)) (B (x103 P) (B (x167 P) N N) (B (x231 P) N N))) (B (x55 P) (B (oT #[]) (3:) (3:)) (B (x119 P) (B (x183 P) N N) (B (oT #[vS "_law_cell" 507]) N N))))) (B (x11 P) (B (x19 P) (B (x35 P) (B (x67 P) (B (x131 P) (B (x259 P) N N) N) (B (x195 P) N N)) (B (x99 P) (3:) (12:))) (B (x51 P) (B (oT #[]) (12:) (B (x211 P) N N)) (B (oT #[vS "wood" 320,vS "tree" 321]) (B (x179 P) N N) (B (x243 P) N N)))) (B (x27 P) (B (oT #[Value.type "ValueError"]) (B (oT #[]) (B (x139 P) N N) (B (x203 P) N N)) (B (oE) (12:) (B (x235 P) N N))) (B (x59 P) (B (x91 P) (B (x155 P) N N) (3:)) (B (oT #[]) (3:) (B (x251 P) N N)))))) (B (W.boot_o_5 P) (B (W.boot_o_9 P) (B (oT #[vS "term" 192]) (B (x33 P) (B (x65 P) (B (x129 P) (3:) N) (B (x193 P) N N)) (B (oT #[]) (B (x161 P) N N) (B (x225 P) N N))) (B (x49 P) (B (oE) (B (x145 P) N N) (B (x209 P) N N)) (B (oT #[]) (3:) (12:)))) (B (oT #[]) (B (x41 P) (B (x73 P) (B (oT #[]) (B (x265 P) N N) N) (3:)) (B (x105 P) (B (x169 P) N N) (3:))) (B (x57 P) (B (oT #[vS "wood" 288,vS "kind" 289]) (B (x153 P) N N) (B (x217 P) N N)) (B (oE) (12:) (B (x249 P) N N))))) (B (x13 P) (B (x21 P) (B (oE) (B (x69 P) (B (x133 P) (B (x261 P) N N) N) (B (x197 P) N N)) (B (oT #[]) (B (oT #[vS "turning" 390,vS "tree" 391]) N N) (3:))) (B (x53 P) (B (x85 P) (B (x149 P) N N) (12:)) (B (x117 P) (B (x181 P) N N) (3:)))) (B (oT #[]) (B (x45 P) (B (x77 P) (3:) (3:)) (B (oT #[]) (3:) (B (x237 P) N N))) (B (x61 P) (B (x93 P) (12:) (B (x221 P) N N)) (B (x125 P) (B (x189 P) N N) (12:))))))) (B (Obj.mk vN none (Data.dict #[]) #[]) (B (W.boot_o_4 P) (B (W.boot_o_8 P) (B (oE) (B (oT #[]) (B (x64 P) (B (oE) (B (x256 P) N N) N) (12:)) (B (x96 P) (B (x160 P) N N) (B (x224 P) N N))) (B (x48 P) (B (oT #[]) (B (x144 P) N N) (3:)) (B (x112 P) (B (x176 P) N N) (3:)))) (B (x24 P) (B (x40 P) (B (oE) (B (oT #[vS "tree" 355]) (B (x264 P) N N) N) (B (x200 P) N N)) (B (x104 P) (B (x168 P) N N) (B (x232 P) N N))) (B (oT #[vR 52]) (B (oE) (12:) (B (x216 P) N N)) (B (oT #[]) (3:) (3:))))) (B (y12_312 P) (B (x20 P) (B (oT #[]) (B (oT #[vR 52]) (B (x132 P) (B (x260 P) N N) N) (B (x196 P) N N)) (B (x100 P) (12:) (B (x228 P) N N))) (B (x52 P) (B (x84 P) (B (x148 P) N N) (3:)) (B (oT #[]) (3:) (B (x244 P) N N)))) (B (x28 P) (B (x44 P) (B (x76 P) (B (x140 P) N N) (B (x204 P) N N)) (B (x108 P) (B (x172 P) N N) (3:))) (B (oE) (B (x92 P) (3:) (12:)) (B (x124 P) (B (x188 P) N N) (3:)))))) (B (W.boot_o_6 P) (B (W.boot_o_10 P) (B (oT #[]) (B (x34 P) (B (x66 P) (B (oT #[]) (12:) N) (3:)) (B (x98 P) (B (x162 P) N N) (3:))) (B (oT #[]) (B (oT #[vS "branches" 278,vS "number" 279]) (3:) (B (x210 P) N N)) (B (oE) (12:) (B (x242 P) N N)))) (B (x26 P) (B (x42 P) (B (x74 P) (B (x138 P) (B (x266 P) N N) N) (B (x202 P) N N)) (B (oT #[]) (3:) (12:))) (B (x58 P) (B (oT #[]) (B (x154 P) N N) (B (x218 P) N N)) (B (x122 P) (B (x186 P) N N) (B (x250 P) N N))))) (B (x14 P) (B (oT #[]) (B (oT #[vS "term" 216,vS "mark" 217]) (B (x70 P) (B (oT #[]) (3:) N) (3:)) (B (oE) (3:) (B (x230 P) N N))) (B (x54 P) (B (x86 P) (B (x150 P) N N) (B (x214 P) N N)) (B (x118 P) (B (x182 P) N N) (12:)))) (B (oE) (B (x46 P) (B (x78 P) (12:) (12:)) (B (x110 P) (B (x174 P) N N) (B (x238 P) N N))) (B (x62 P) (B (oT #[]) (B (oT #[vS "turning" 382,vS "tree" 383]) N N) (3:)) (B (x126 P) (B (x190 P) N N) (B (x254 P) N N)))))))
def _root_.PySem.W.Fast.te2821214486785801643:=@rfl _ PySem.W.Fast.tw2821214486785801643
def K27.y3_234(P:h8):h9:={ cls:=Value.type "dict",data:=Data.dict (hE P "__name__" 165 (vS "turnery.counting" 377)::(l3 P).take 32).toArray 33 }
def K27.y12_234(P:h8):h9:={ cls:=vN,data:=Data.fields (l12.take 72).toArray }
def _root_.PySem.W.Fast.tw15815309115550950689:Params->W.BT:=λP=>B (W.boot_o_0 P) (B (W.boot_o_1 P) (B (y3_234 P) (B (W.boot_o_7 P) (B (oT #[]) (B (oT #[vS "term" 208,vS "mark" 209]) (B (oT #[]) (3:) N) (B (oE) (3:) N)) (B (oE) (B (x79 P) (B (x143 P) N N) N) (B (x111 P) (B (x175 P) N N) N))) (B (oE) (B (oT #[]) (B (x71 P) (12:) N) (B (x103 P) (B (x167 P) N N) N)) (B (x55 P) (B (oT #[]) (3:) N) (B (x119 P) (B (x183 P) N N) N)))) (B (x11 P) (B (x19 P) (B (x35 P) (B (x67 P) (B (x131 P) N N) N) (B (x99 P) (3:) N)) (B (x51 P) (B (oT #[]) (12:) N) (B (oT #[vS "wood" 320,vS "tree" 321]) (B (x179 P) N N) N))) (B (x27 P) (B (oT #[Value.type "ValueError"]) (B (oT #[]) (B (x139 P) N N) N) (B (oE) (12:) N)) (B (x59 P) (B (x91 P) (B (x155 P) N N) N) (B (oT #[]) (3:) N))))) (B (W.boot_o_5 P) (B (W.boot_o_9 P) (B (oT #[vS "term" 192]) (B (x33 P) (B (x65 P) (B (x129 P) N N) N) (B (oT #[]) (B (x161 P) N N) N)) (B (x49 P) (B (oE) (B (x145 P) N N) N) (B (oT #[]) (3:) N))) (B (oT #[]) (B (x41 P) (B (x73 P) (3:) N) (B (x105 P) (B (x169 P) N N) N)) (B (x57 P) (B (oT #[vS "wood" 288,vS "kind" 289]) (B (x153 P) N N) N) (B (oE) (12:) N)))) (B (x13 P) (B (x21 P) (B (oE) (B (x69 P) (B (x133 P) N N) N) (B (oT #[]) (B (oT #[vS "turning" 390,vS "tree" 391]) N N) N)) (B (x53 P) (B (x85 P) (B (x149 P) N N) N) (B (x117 P) (B (x181 P) N N) N))) (B (oT #[]) (B (x45 P) (B (x77 P) (3:) N) (B (oT #[]) (3:) N)) (B (x61 P) (B (x93 P) (12:) N) (B (x125 P) (B (x189 P) N N) N)))))) (B (Obj.mk vN none (Data.dict #[]) #[]) (B (W.boot_o_4 P) (B (W.boot_o_8 P) (B (oE) (B (oT #[]) (B (x64 P) (12:) N) (B (x96 P) (B (x160 P) N N) N)) (B (x48 P) (B (oT #[]) (B (x144 P) N N) N) (B (x112 P) (B (x176 P) N N) N))) (B (x24 P) (B (x40 P) (B (oE) (B (oT #[vS "tree" 355]) N N) N) (B (x104 P) (B (x168 P) N N) N)) (B (oT #[vR 52]) (B (oE) (12:) N) (B (oT #[]) (3:) N)))) (B (y12_234 P) (B (x20 P) (B (oT #[]) (B (oT #[vR 52]) (B (x132 P) N N) N) (B (x100 P) (12:) N)) (B (x52 P) (B (x84 P) (B (x148 P) N N) N) (B (oT #[]) (3:) N))) (B (x28 P) (B (x44 P) (B (x76 P) (B (x140 P) N N) N) (B (x108 P) (B (x172 P) N N) N)) (B (oE) (B (x92 P) (3:) N) (B (x124 P) (B (x188 P) N N) N))))) (B (W.boot_o_6 P) (B (W.boot_o_10 P) (B (oT #[]) (B (x34 P) (B (x66 P) (3:) N) (B (x98 P) (B (x162 P) N N) N)) (B (oT #[]) (B (oT #[vS "branches" 278,vS "number" 279]) (3:) N) (B (oE) (12:) N))) (B (x26 P) (B (x42 P) (B (x74 P) (B (x138 P) N N) N) (B (oT #[]) (3:) N)) (B (x58 P) (B (oT #[]) (B (x154 P) N N) N) (B (x122 P) (B (x186 P) N N) N)))) (B (x14 P) (B (oT #[]) (B (oT #[vS "term" 216,vS "mark" 217]) (B (x70 P) (3:) N) (B (oE) (3:) N)) (B (x54 P) (B (x86 P) (B (x150 P) N N) N) (B (x118 P) (B (x182 P) N N) N))) (B (oE) (B (x46 P) (B (x78 P) (12:) N) (B (x110 P) (B (x174 P) N N) N)) (B (x62 P) (B (oT #[]) (B (oT #[vS "turning" 382,vS "tree" 383]) N N) N) (B (x126 P) (B (x190 P) N N) N))))))
def _root_.PySem.W.Fast.te15815309115550950689:=@rfl _ PySem.W.Fast.tw15815309115550950689
def K27.y3_154(P:h8):h9:={ cls:=Value.type "dict",data:=Data.dict (hE P "__name__" 165 (vS "turnery.woods" 283)::(l3 P).take 20).toArray 21 }
def K27.y12_154(P:h8):h9:={ cls:=vN,data:=Data.fields (l12.take 36).toArray }
def _root_.PySem.W.Fast.tw8545695182220974051:Params->W.BT:=λP=>B (W.boot_o_0 P) (B (W.boot_o_1 P) (B (y3_154 P) (B (W.boot_o_7 P) (B (oT #[]) (B (oT #[vS "term" 208,vS "mark" 209]) (3:) (12:)) (B (oE) (B (x79 P) N N) (B (x111 P) N N))) (B (oE) (B (oT #[]) (B (x71 P) N N) (B (x103 P) N N)) (B (x55 P) (3:) N))) (B (x11 P) (B (x19 P) (B (x35 P) (B (x67 P) N N) (B (x99 P) N N)) (B (x51 P) (3:) N)) (B (x27 P) (B (oT #[Value.type "ValueError"]) (3:) (12:)) (B (x59 P) (B (x91 P) N N) N)))) (B (W.boot_o_5 P) (B (W.boot_o_9 P) (B (oT #[vS "term" 192]) (B (x33 P) (B (x65 P) N N) (3:)) (B (x49 P) (12:) N)) (B (oT #[]) (B (x41 P) (B (x73 P) N N) (B (x105 P) N N)) (B (x57 P) (B (oT #[vS "wood" 288,vS "kind" 289]) N N) N))) (B (x13 P) (B (x21 P) (B (oE) (B (x69 P) N N) (3:)) (B (x53 P) (B (x85 P) N N) N)) (B (oT #[]) (B (x45 P) (B (x77 P) N N) (3:)) (B (x61 P) (B (x93 P) N N) N))))) (B (Obj.mk vN none (Data.dict #[]) #[]) (B (W.boot_o_4 P) (B (W.boot_o_8 P) (B (oE) (B (oT #[]) (B (x64 P) N N) (B (x96 P) N N)) (B (x48 P) (3:) (B (x112 P) N N))) (B (x24 P) (B (x40 P) (12:) (B (x104 P) N N)) (B (oT #[vR 52]) (12:) N))) (B (y12_154 P) (B (x20 P) (B (oT #[]) (B (oT #[vR 52]) N N) (B (x100 P) N N)) (B (x52 P) (B (x84 P) N N) N)) (B (x28 P) (B (x44 P) (B (x76 P) N N) (B (x108 P) N N)) (B (oE) (B (x92 P) N N) N)))) (B (W.boot_o_6 P) (B (W.boot_o_10 P) (B (oT #[]) (B (x34 P) (B (x66 P) N N) (B (x98 P) N N)) (B (oT #[]) (B (oT #[vS "branches" 278,vS "number" 279]) N N) N)) (B (x26 P) (B (x42 P) (B (x74 P) N N) (3:)) (B (x58 P) (3:) N))) (B (x14 P) (B (oT #[]) (B (oT #[vS "term" 216,vS "mark" 217]) (B (x70 P) N N) (12:)) (B (x54 P) (B (x86 P) N N) N)) (B (oE) (B (x46 P) (B (x78 P) N N) (B (x110 P) N N)) (B (x62 P) (3:) N)))))
def _root_.PySem.W.Fast.te8545695182220974051:=@rfl _ PySem.W.Fast.tw8545695182220974051
end
open PySem PySem.W PyProof.Rows
set_option maxRecDepth 100000 in
set_option maxHeartbeats 0 in
theorem PySem.Challenge.cw_turnery_k27_whole_outcomes_holds : PySem.Challenge.rw_turnery_k27_whole_outcomes.Holds := by
 w_on;o_law;k_head;(case hw=>w_witness2)
 k_fill
 refine K27.walk (c1:=175) (T1:=171) (c2:=182) (T2:=178) (c3:=224) (T3:=220) (l:=PySem.Challenge.rw_turnery_k27_whole_outcomes) rfl rfl (λw h Y=>PySem.W.km_in_of Y) ?tb1 ?tb2 ?tb3 (18:) (18:) (18:) ?F
 case tb1=>
  intro w;refine' L2.TabAt.mk ⟨_,?a⟩ ?b ?c ?d;(case a=>exact rfl);(case b|c|d=>kernel_rfl)
 case tb2=>
  intro w;refine' L2.TabAt.mk ⟨_,?a⟩ ?b ?c ?d;(case a=>exact rfl);(case b|c|d=>kernel_rfl)
 case tb3=>
  intro w;refine' L2.TabAt.mk ⟨_,?a⟩ ?b ?c ?d;(case a=>exact rfl);(case b|c|d=>kernel_rfl)
 case F=>
  intro w mg fa h KX G hmg;refine' K27.all_mk (c1:=175) (T1:=171) (c2:=182) (T2:=178) (c3:=224) (T3:=220) KX G hmg ?d1 ?d2 ?d3 ?d4 ?d5 ?d6 ?d7 ?d8 ?d9 ?d10 ?d11 ?d12 ?d13 ?d14 ?d15 ?d16 ?d17 ?d18 ?d19 ?d20 ?d21 ?d22 ?d23 ?d24 ?d25 ?d26 ?d27 ?d28 ?d29 ?d30 ?d31 ?d32 ?d33 ?d34 ?d35 ?d36 ?d37 ?d38 ?d39 ?d40 ?d41 ?d42 ?d43 ?d44 ?d45 ?d46 ?d47 ?d48 ?z1 ?z2 ?z3 ?z4 ?z5 ?z6 ?z7 ?z8 ?z9 ?z10 ?z11 ?z12 ?z13 ?z14 ?z15 ?y1 ?ht1 ?hh1 ?ht2 ?hh2 ?ht3 ?hh3 (18:) (18:) (18:) ?gN ?gG ?qN ?qG ?kG ?g4 ?g6
  (case ht1|hh1|ht2|hh2|ht3|hh3=>kernel_rfl)
  (case d1|d2|d3|d4|d5|d6|d7|d8|d9|d10|d11|d12|d13|d14|d15|d16|d17|d18|d19|d20|d21|d22|d23|d24|d25|d26|d27|d28|d29|d30|d31|d32|d33|d34|d35|d36|d37|d38|d39|d40|d41|d42|d43|d44|d45|d46|d47|d48=>refine' L2.DefAt.mk' ?a ?l ?c ?k;(case a|l|c|k=>k_is))
  (case z1|z2|z3|z4|z5|z6|z7|z8|z9|z10|z11|z12|z13|z14|z15|y1|gN|gG=>k_is)
  (case qN|qG|kG=>kernel_rfl)
  (case g4|g6=>k_is)
