import PyProof.Rows.All
import Wide.All
import OpenK.AllK
import Wide.FinOn
import Lean
import PyProof.EqAt
import PyProof.EqKinds
import PyProof.TupleCall
import PyProof.NeKinds
import PyProof.ZipIter
import PyProof.EnumMake
import PyProof.InstStoreFacts
import Open.Row
import KE.KDictOf
import PyProof.AttrMissHeap
import PyProof.ListRange
import PyProof.Rows.IntBool
import PyProof.Rows.ListMul
import PyProof.SliceStr2
import PyProof.StrBlockI
import PyProof.StrWalks
import PyProof.MinMaxWalk
import PyProof.Rows.CallKwBuiltin
import PyProof.Rows.RuleN_abs
import PyProof.Rows.SortKeyStr
import PyProof.Rows.SortStr
import PyProof.Rows.StrInSeq
import PyProof.StrOps
import PySem.Challenge.RW_wallplan_k41_openings_that_stand
set_option Elab.async false
set_option linter.all false
set_option maxRecDepth 100000
set_option maxHeartbeats 0
local macro_rules | `(tactic| omega) => `(tactic| lia)

open Option renaming some->Mq,none->Mu,map_some->N8,map_eq_some_iff->Pm,getD_none->RY,getD_some->R1,isSome_some->TK
open PySem.Str renaming ofString->Mr
open PySem renaming wpAny_bind->Ms,Value->Mt,wpAny_pure->Mx,Shared->Mz,sizeLine->MA,Addr->MB,model->ML,Expr->MP,Program->MQ,Str->MR,starEach->MX,World->M6,Heap->M7,wpAny_holding->Na,compareOp->Nd,Around->Nf,wpAny_newObj_type->Nl,wpAny_callSpecial?_slot->Nm,wpAny_seqItems->Np,mainGlobals->Nq,wpAny_call_entry->Nr,wpAny_field->Nw,cLine->NB,wpAny_truthy_bool->NH,Obj->NI,assignEach->NJ,sysModules->NW,FuncData->NX,mem_of_lookup->N5,wpAny_Call_Name_kw->Oa,Pos->Oc,Scope->Of,wpAny_mono->Og,Stmt->Ou,wpAny_setField_rec->Ow,swappedStores->Ox,eval->OB,wpAny_typeNameOfWhole_keyiter->OC,sizeLine->OD,foldedSetIterable->OE,wpAny_rule->OF,binaryOp->OL,cellsFrom->OR,pyNext->OS,NameKind->OU,wpAny_passesOwn->O0,codeAny_builtin->O4,bootBuiltins->O5,wpAny_typeNameOf_keyiter->Pb,wpAny_isInstance->Pe,letOwnedTupleGo->Pt,wpAny_specialOf->Pw,swapsWith->Py,wpAny_standAt->Pz,behindInMarks->PB,wpAny_attempt->PC,backTo->PF,wpAny_pyIter_list->PK,sizeLine_eq->PL,wpAny_tryCatch->PR,wpAny_forIn_list->PV,pushCells->PY,CmpOp->P0,IsPair->P4,ZipApart->P_,sliceBounds->Qj,DictEntry->Ql,wpAny_letGo->Qm,rawInt->Qo,isSubtype_tuple_tuple->QH,holding->QQ,wpAny_updateSeq_pair->Q1,wpAny_execs_nil->Q6,IsPart->Q8,wpAny_typeOf->Rf,argBest->Rh,seqItems?->Rj,assign->Rl,Operator->Rn,wpAny_tupleItemsOf->Rq,wpAny_setField->Rr,firstArgMember->Rt,Sem->Rw,standAt->RA,getItem->RC,wpAny_dictEntries->RD,unsupported->RF,assignInOrder->RI,swapsWithSole->RJ,attributeBase->RK,Params->RL,Comprehension->RM,wpAny_onRaise->RN,plainId_quiet->RQ,wpAny_eqBool_int->RR,rule->RS,PassesOwn->RT,Arguments->RV,noFill_tuple_add->RW,builtinsNs->Sf,wpAny_pyNext_list_item->Sg,codeAny_mono->Sh,call->Sl,wpAny_Assign_Subscript->Sr,Env->SD,wpAny_loadPart'->SF,pushCells_keeps->SG,wpAny_dictEpoch->SH,field->SI,wpAny_updateSeq->SK,wpAny_pyNext_list_end->SO,wpAny_notOrdered_dict->SR,wpAny_isOneOf_keyiter->SU,builtinLookup_eq_fast->SW,isTrue->S7,isSubtype_stop->Tb,wpAny_pyIter_keyiter->Tc,wpAny_newTuple->Td,boot_len->Tf,lastMarks->Ti,seqIndex?->Tj,valueAt->Tn,callerA->To,seq_tuple_add->Tu,call_meets->TJ,wpAny_eqBool_tuple->TL,isInstance->TM,wpAny_pyIter_tuple->TN,getattributeRaised->TU,bindArgs->T1,concat_meets->T2,wpAny_sequenceKey->T3,seqIndex_neg->T4,eqIsQuiet_byValue->T6,compTurn->T7,pyIter->Ue,eqIsQuiet->Ug,Model->Uh,seqIndex_of->Ui,subscripted->Uj,wpAny_of_eq->Ul,IsZip->Um,loadIfAlive->Uq,storedH->Ut,entryOfKey->Uw,wpAny_Name->Ux,bindName->Uy,bindL->Uz,bindC->UA,typeLookup->UC,typeIs_str->UD,closureFor->UE,Tok->UJ,again->UK,spliced->UL,Result->UM,BindsTo->UN,typeOf->UO,relabel->UP,collect->US,atKey->UT,fresh->UU,ret->UW
open Bool renaming true->Mv,false->Mw,and_eq_true->MG,false_eq_true->MV,false_ne_true->Nu,not_eq_true'->NA,or_eq_true->NO,not_true->Oe,eq_iff_iff->O1
open PySem.Heap renaming get?_push_of_some->My,get?_push_size->MK,lt_size->MM,size_push->NN,SameBut->N1,get?_update_other->N2,get?_update_self->OV,ExtBut->QZ
open Option.some renaming inj->MD,injEq->Qu
open List renaming mem_cons_self->ME,mem_cons_of_mem->MH,size_toArray->MJ,map_cons->MT,mem_append_right->MW,getElem?_eq_getElem->MY,length_map->M0,append_nil->M1,append_assoc->M5,getElem?_map->M9,map_map->M_,length_cons->Ng,length_append->Nh,lookup_cons->Ni,getElem?_append_right->Nk,not_mem_nil->Nt,getElem?_append_left->Ny,mem_of_getElem?->Nz,mem_cons->NC,map_append->NG,take_of_length_le->NL,map_congr_left->NR,getElem?_set->NU,replicate->NY,length_nil->NZ,range->N_,zip_cons_cons->Ob,map_nil->Oi,extract_eq_drop_take->Ot,length_replicate->Ov,mem_append_left->Oz,getElem?_set_ne->OA,filterMap_cons->OK,getElem?_set_self->OP,perm_append_comm->OW,drop_eq_getElem_cons->OZ,nodup_cons->O3,any_cons->Pa,getElem?_replicate->Pd,forIn_nil->Pf,all_eq_true->Pg,find?_cons->Pu,forIn_cons->Px,all_cons->PD,take_append_drop->PH,nodup_iff_pairwise_ne->PU,getElem_of_mem->P7,mem_of_mem_eraseIdx->Qa,length->Qh,reverse_perm->Qz,pairwise_map->QB,flatMap_cons->QF,length_filter_le->QJ,length_take->QL,drop_length->QN,nil_append->Ra,getD_eq_getElem?_getD->Rv,length_range->RE,nodup_append->RH,length_drop->RX,zipIdx_cons->R3,pairwise_singleton->R_,eraseIdx_cons_succ->Sa,getElem_mem->Sb,map_id'->Sx,pairwise_lt_range->Sy,find?_cons_of_pos->Sz,find?_cons_of_neg->SA,of_mem_zip->SE,filter_map->SN,mem_map_of_mem->Tt,zip_nil_right->TF,getElem?_inj->T9,lookup->Uk,map_id->Up,not_lt->Ur
open PySem.W renaming Frag->MF,keepIn->PM,nsIn->PZ,cellsFrom_some->Qq,codeIn->Qr,mg_of->QX,methodObj->Ry,fnOf->Sj,mg_none_of->TX,kat_yes->Us,kat_cons->UG,kat_no->UQ,kat_one->UR
open PyProof.Rows renaming wpS_bind->MI,wpS_pure->MN,pendingOf->MS,Keyed->MZ,SortSt->M4,callWith_type1->NT,elem'->Ol,slot_tuple_getitem->Oq,SortKind->ON,arrOf->OO,IntsAre->O6,wpS_modify->Po,seqObj->P2,wpS_get->Qw,wpS_mono->Q5,assignInOrder_cons->Rm,AllBare->Rz,eqBool_str->R8,envOfC->Si,subscriptTail_builtinR->Sk,boot_list->Su,get?_update_seq->SJ,wpS->SY,IsTup->S0,failedOf->Te,lt_int->Tq,lt_str->Ts,subscriptTail->Tv,listUpdate_at->Tw,args_tuple_getitem->TH,assignInOrder_nil->TZ,seqEpoch_at->Uo,gallopOf->UH
open Nat renaming le_refl->MO,lt_of_lt_of_le->MU,ne_of_lt->M3,le_trans->Nv,lt_irrefl->Nx,zero_le->ND,ne_of_gt->Oy,eq_of_beq_eq_true->OX,lt_succ_of_lt->PJ,le_of_eq->PX,lt_of_le_of_lt->Qe,le_succ->Qk,add_assoc->QR,le_of_lt->Rc,lt_succ_self->R0,le_add_right->R4,add_sub_cancel_left->R5,reduceAdd->Tx,lt_trans->T5,lt_trichotomy->Ub,beq->Uu
open PySem.Builtin.SmallTypes renaming nextOf->M2,ownedTupleIsFree->Nc,ownedTupleHandOut->P5
open PySem.Value renaming ref->M8,none->NV,int->Th,str->Uc,bool->Uv
open Ne renaming symm->Nj
open List.Perm renaming append_left->Nn,trans->N9,of_eq->O2,append_right->Pp
open Array renaming toList_append->NF,length_toList->NQ,getElem?_eq_getElem->N4,getElem?_toList->N6,perm_iff_toList_perm->Om,toList_push->Oo,size_push->OJ,toList_extract->O8,forIn_toList->Pk,getElem?_eq_none->Pl,toList_reverse->PQ,size_append->Qy,mem_toList_iff->Q4,toList_setIfInBounds->Ru,toList_map->R6,toList_modify->Tr,size_extract->TR
open PySem.F renaming plain_min_loop->NM,slot_zip_next->NS,slot_tuple_iterator_next->Oj,slot_dict_keyiterator_next->OH,args_zip_next_1->Ph,plainAttrs_list->Pj,entry_zip_next->Pn,entry_min_loop->Pq,args_tuple_add_2->P8,args_tuple_iterator_next_1->Qg,entry_tuple_add->Qi,entry_tuple_iterator_next->Qn,slot_tuple_add->Qs,args_dict_keyiterator_next_1->QM,entry_dict_keyiterator_next->QY,slot_list_append->RO,slot_list_extend->RP,slot_tuple_hash->RZ,slot_tuple_eq->SQ
open PySem.NameKind renaming cell->NP,free->N0
open PySem.Builtin.Tuple renaming tupleHashOf->N3,tupleExact->O_,tupleItemsOf->PN
open ForInStep renaming yield->N7,done->Qx
open PySem.Around renaming under_plainId->Od
open False renaming elim->Oh
open PySem.Obj renaming mapSeq->OG,data_mapFields->Qf,isFreed_of_fields->SV,cls_mapFields->T8
open PySem.Heap.SameBut renaming update->OM,refl->Ua
open PySem.Challenge renaming rw_wallplan_k41_openings_that_stand->OQ
open PySem.Builtin.Slice renaming slicePlaces->OY,sliceAdjust->P1,sliceApplied->Ro
open Int renaming toNat_natCast->O7,emod_lt_of_pos->Pr,emod_nonneg->Qb,le_refl->Q3
open PySem.SeqAt renaming EqAt->O9,RcNeAt->Rg,RcAt->Sm
open List.Pairwise renaming imp_of_mem->Pc,map->RG
open Function renaming comp_apply->P6
open PySem.Builtin.List renaming listTooLong->P9
open PySem.Calls renaming spliced_cons->Qd,spliced_nil->Qp,Name_function_global->Rk,call_len_list->Tp
open Or renaming inl->Qt,inr->Rp
open Sum renaming inl->QP,inr->Rx
open Prod.mk renaming injEq->QV
open List.cons renaming injEq->Q9
open PySem.Builtin.Dict_items renaming ownsTuple->Q_
open PySem.W.Frag renaming In->Rb
open PySem.Builtin.Builtins renaming bindParams->Ri
open PySem.Builtin.Range renaming rangeSize->RU
open PySem.Builtin.Dict renaming updateFrom->R9,pairItems->Sv,showsAll->SS
open PySem.PyData renaming weightAll->Se,leavesShortAll->SX,showableAll->TY,hasDictAll->T_
open PySem.Txt renaming contains->Ss
open Prod renaming ext_iff->Sw,ext->UB
open PySem.SeqAt.EqAt renaming int_tuple->S8,str_tuple->S9,tuple_int->S_,tuple_str->Ta,int_str->Tz,str_int->TB,int_int->TC
open PyProof.Rows.SortSt renaming mk'->TQ
open PySem.Code renaming quiet_builtin->TV
open PyProof.Rows.IsTup renaming new->Ud
open PySem.Env renaming kindOf->UI
section
namespace PySem.W.Fast
noncomputable def te13052408679150730464:=0
noncomputable def te16555476440528808052:=0
noncomputable def te5452508617037859911:=0
noncomputable def te4868988410673395695:=0
end PySem.W.Fast
open PySem PySem.W PyProof.Rows
open_top head for PySem.Challenge.rw_wallplan_k41_openings_that_stand
end
section
namespace L2
open PySem PySem.Spec PyProof.Rows
abbrev Key:=Sum Int MR
noncomputable def me:Key->Mt->Bool
 |.inl k,v=>Value.isInt k v|.inr x,v=>Value.isStrOf x v
noncomputable def Jw(w:M6):Key->Int
 |.inl k=>hashInt k|.inr x=>hashStr w x
theorem aJ:∀{k:Key}{v:Mt},me k v=Mv->(∃i t,k=QP i/\v=Th i t)\/(∃x t,k=Rx x/\v=Uc x t)
 |.inl i,v,h=>by
  obtain⟨t,e⟩:=Value.isInt_shape (k:=i) (v:=v) h;exact .inl ⟨i,t,rfl,e⟩|.inr x,v,h=>by
  obtain⟨t,e⟩:=Value.isStrOf_shape (x:=x) (v:=v) h;exact .inr ⟨x,t,rfl,e⟩
theorem uG(i:Int)(t:UJ):me (.inl i) (.int i t)=Mv:=by simp[me,Value.isInt]
theorem uH(x:MR)(t:UJ):me (.inr x) (.str x t)=Mv:=by simp[me,Value.isStrOf]
theorem B9(a b:Int):decide ((QP a:Key)=QP b)=(a==b):=by
 by_cases e:a=b;.subst e;simp
 .have h:¬(QP a:Key)=QP b:=λq=>e (Sum.inl.inj q);rw[decide_eq_false h];exact(beq_eq_false_iff_ne.mpr e).symm
theorem B_(a b:MR):decide ((Rx a:Key)=Rx b)=decide (a=b):=by
 by_cases e:a=b;.subst e;simp
 .have h:¬(Rx a:Key)=Rx b:=λq=>e (Sum.inr.inj q);rw[decide_eq_false h,decide_eq_false e]
theorem Ca(a:Int)(b:MR):decide ((QP a:Key)=Rx b)=Mw:=decide_eq_false (λq=>nomatch q)
theorem Cb(a:MR)(b:Int):decide ((Rx a:Key)=QP b)=Mw:=decide_eq_false (λq=>nomatch q)
noncomputable def ax(prog:MQ)(w:M6):PySem.KeyKind prog w Key where
 is:=me;hash:=Jw w;inj:=λv a b ha hb=>by
  rcases aJ ha with⟨i,t,rfl,rfl⟩|⟨x,t,rfl,rfl⟩
  .rcases aJ hb with⟨j,u,rfl,e⟩|⟨y,u,rfl,e⟩;.injection e with c _;rw[c]
   .exact nomatch e
  .rcases aJ hb with⟨j,u,rfl,e⟩|⟨y,u,rfl,e⟩;.exact nomatch e
   .injection e with c _;rw[c]
 byValue:=λk v h=>by rcases aJ h with⟨i,t,rfl,rfl⟩|⟨x,t,rfl,rfl⟩<;>rfl
 pyHash:=λd h=>by
  rcases aJ d with⟨i,t,rfl,rfl⟩|⟨x,t,rfl,rfl⟩;.exact wpAny_pyHash_int h
  .exact wpAny_pyHash_str h
 eqBool:=λhu d h=>by
  rcases aJ hu with⟨i,t,rfl,rfl⟩|⟨x,t,rfl,rfl⟩
  .rcases aJ d with⟨j,u,rfl,rfl⟩|⟨y,u,rfl,rfl⟩;.rw[B9]at h;exact RR h
   .rw[Ca]at h;exact Tz i t y u _ _ _ _ h
  .rcases aJ d with⟨j,u,rfl,rfl⟩|⟨y,u,rfl,rfl⟩;.rw[Cb]at h;exact TB x t j u _ _ _ _ h
   .rw[B_]at h;exact wpAny_eqBool_str h
 «strs»:=λk x t v h=>by
  rcases aJ h with⟨i,u,rfl,e⟩|⟨y,u,rfl,e⟩;.exact nomatch e
  .injection e with c _;subst c;cases v<;>rfl
theorem jn(prog:MQ)(w:M6)(i:Int)(t:UJ):(ax prog w).is (.inl i) (.int i t)=Mv:=uG i t
theorem oP(prog:MQ)(w:M6)(x:MR)(t:UJ):(ax prog w).is (.inr x) (.str x t)=Mv:=uH x t
end L2
namespace L2
open PySem PySem.Spec PyProof.Rows
inductive V where|bH|bl(b:Bool)|int(i:Int)|str(x:MR)|Cc(b:Array UInt8)|Jx(b:UInt64)|ref(a:MB)|ty(n:String)deriving DecidableEq
noncomputable def RelV:V->Mt->Prop
 |.bH,u=>u=NV|.bl b,u=>u=Uv b|.int i,u=>∃t,u=Th i t|.str x,u=>∃t,u=Uc x t|.Cc b,u=>∃t,u=Value.bytes b t|.Jx b,u=>∃t,u=Value.float b t|.ref a,u=>u=M8 a|.ty n,u=>u=Value.type n
noncomputable abbrev au:List V->List Mt->Prop:=Paired RelV
theorem au.length{xs:List V}{us:List Mt}(r:au xs us):xs.length=us.length:=Paired.length r
theorem au.get:∀{xs:List V}{us:List Mt}{i:Nat}{x:V},au xs us->xs[i]?=Mq x->∃u,us[i]?=Mq u/\RelV x u
 |_,_,_,_,.nil,e=>by simp at e|_,_,0,_,.cons r _,e=>by simp at e;subst e;exact⟨_,rfl,r⟩|_,_,i+1,x,.cons _ t,e=>by
  obtain⟨u,b,a⟩:=au.get (i:=i) (x:=x) t (by simpa using e);exact⟨u,by simpa using b,a⟩
theorem au.set{x:V}{u:Mt}(r:RelV x u):∀{xs:List V}{us:List Mt}(i:Nat),au xs us->au (xs.set i x) (us.set i u)
 |_,_,_,.nil=>.nil|_,_,0,.cons _ t=>.cons r t|_,_,i+1,.cons q t=>.cons q (au.set r i t)
theorem au.append:∀{xs ys:List V}{us a:List Mt},au xs us->au ys a->au (xs++ys) (us++a)
 |_,_,_,_,.nil,s=>s|_,_,_,_,.cons r t,s=>.cons r (au.append t s)
theorem au.take:∀{xs:List V}{us:List Mt}(n:Nat),au xs us->au (xs.take n) (us.take n)
 |_,_,0,_=>.nil|_,_,_+1,.nil=>.nil|_,_,n+1,.cons r t=>.cons r (au.take n t)
theorem au.drop:∀{xs:List V}{us:List Mt}(n:Nat),au xs us->au (xs.drop n) (us.drop n)
 |_,_,0,r=>r|_,_,_+1,.nil=>.nil|_,_,n+1,.cons _ t=>au.drop n t
noncomputable def oQ:Option V->Option Mt->Prop
 |some v,Mq u=>RelV v u|none,Mu=>True|_,_=>False
noncomputable def KV{a:Type}:List (a×V)->List (a×Mt)->Prop:=Paired λ(p:a×V)(q:a×Mt)=>p.1=q.1/\RelV p.2 q.2
noncomputable def kV:Key->V
 |.inl i=>.int i|.inr x=>.str x
inductive HO where|lst(xs:List V)|tup(xs:List V)|dK(kvs:List (Key×V))|dT(kvs:List (List Key×V))|set(S:Int->Bool)(n:Nat)|ins(C dx:MB)(fs:List (MR×V))|own(x:MB)|xd(fs:List (MR×V))|met(f x:MB)|Jy(lo hi:Int)|cv(o:NI)(u:HO)|vE(ps:Array Mt)|ext(φ:M7->Prop)
abbrev Hp:=MB->Option HO
noncomputable def upd(H:Hp)(a:MB)(o:HO):Hp:=λb=>if b=a then Mq o else H b
theorem aj{H:Hp}{a:MB}{o:HO}:upd H a o a=Mq o:=by unfold upd;rw[if_pos rfl]
theorem ah{H:Hp}{a b:MB}{o:HO}(h:b≠a):upd H a o b=H b:=by unfold upd;rw[if_neg h]
theorem bV{H:Hp}{a:MB}{o u:HO}:upd (upd H a o) a u=upd H a u:=by funext b;unfold upd;split<;>rfl
theorem aA{H:Hp}{a b:MB}{o:HO}(h:H a=Mq o)(h':H b=Mu):a≠b:=by intro e;subst e;rw[h]at h';cases h'
section
variable(P:MQ)(w:M6)
noncomputable def bW(H:Hp)(h:M7)(a:MB):HO->Prop
 |.lst d=>d.length<=MA/\∃(c:List Mt)(n:Nat),au d c/\h.get? a=Mq {cls:=.type "list",data:=.seq c.toArray n}|.tup d=>d.length<=MA/\∃c:List Mt,au d c/\S0 h a c.toArray|.dK b=>b.length<=MA/\(a==NW)=Mw/\∃j,KV b j/\h.DictOf (ax P w) a j|.dT b=>b.length<=MA/\(a==NW)=Mw/\∃d:List (List Key×MB×Mt),Paired (λ(p:List Key×V)(q:List Key×MB×Mt)=>p.1=q.1/\H q.2.1=Mq (.tup (p.1.map kV))/\RelV p.2 q.2.2) b d/\∃o m s,h.get? a=Mq o/\o.ExactDict/\o.data=.dict m s/\m.toList=d.map (Uw (tupleKind (ax P w)))/\(d.map (·.1)).Nodup|.set S n=>h.SetOf (intKind P w) a S n|.ins C g fs=>H g=Mq (.own a)/\fs.length<=1000/\g≠a/\h.get? a=Mq (PySem.W.instObj C g)/\∃e,h.Ns1 g e/\(∀f,oQ (fs.lookup f) (e f))/\PySem.Within e (fs.map (·.1))|.own _=>∃o,h.get? a=Mq o|.xd fs=>∃e,h.Ns1 a e/\∀f,oQ (fs.lookup f) (e f)|.Jy lo r=>∃t u v,h.get? a=Mq {cls:=.type "range",data:=.fields #[.int lo t,.int r u,.int 1 v]}|.cv o u=>h.get? a=Mq o/\bW H h a u|.vE ps=>h.get? a=Mq {cls:=.none,data:=.fields ps}|.met f x=>h.get? a=Mq (Ry (.ref f) (.ref x))|.ext i=>i h/\(∃o,h.get? a=Mq o)/\∀l k:M7,i l->(∀o,l.get? a=Mq o->k.get? a=Mq o)->i k
noncomputable def jo(H:Hp)(h:M7):Prop:=∀a o,H a=Mq o->bW P w H h a o
end
section
variable{P:MQ}{w:M6}{H H':Hp}{h h':M7}{a:MB}{o:HO}
theorem bW.lt(x:bW P w H h a o):a<h.objs.size:=by cases o with
 |lst c=>obtain⟨_,_,_,_,e⟩:=x;exact MM e|tup c=>obtain⟨_,_,_,p⟩:=x;exact p.lt|dK b=>obtain⟨_,_,_,_,o,_,_,e,_⟩:=x;exact MM e|dT b=>obtain⟨_,_,_,_,o,_,_,e,_⟩:=x;exact MM e|set S n=>obtain⟨o,_,_,_,e,_⟩:=x;exact MM e|ins C i fs=>obtain⟨_,_,_,e,_⟩:=x;exact MM e|own y=>obtain⟨_,e⟩:=x;exact MM e|xd fs=>obtain⟨_,⟨_,_,_,e,_⟩,_⟩:=x;exact MM e|Jy lo g=>obtain⟨_,_,_,e⟩:=x;exact MM e|cv ob u=>obtain⟨e,_⟩:=x;exact MM e|vE ps=>exact MM (show h.get? a=Mq _ from x)|met f y=>exact MM (show h.get? a=Mq _ from x)|ext d=>obtain⟨_,⟨_,e⟩,_⟩:=x;exact MM e
theorem Paired.Cd{g e:Type}{F G:g->e->Prop}:∀{d:List g}{c:List e},Paired F d c->(∀a b,F a b->G a b)->Paired G d c
 |_,_,.nil,_=>.nil|_,_,.cons r t,f=>.cons (f _ _ r) (Paired.Cd t f)
theorem bW.dg(x:bW P w H h a o)(k:∀b u,(b=a\/H b=Mq (.own a))->h.get? b=Mq u->h'.get? b=Mq u)(D:∀b,H b=Mq (.own a)->H' b=Mq (.own a))(B:∀b xs,H b=Mq (.tup xs)->H' b=Mq (.tup xs)):bW P w H' h' a o:=by induction o with
 |lst xs=>obtain⟨z,j,n,r,e⟩:=x;exact⟨z,j,n,r,k _ _ (.inl rfl) e⟩|tup xs=>obtain⟨z,j,r,ob,e,c⟩:=x;exact⟨z,j,r,ob,k _ _ (.inl rfl) e,c⟩|dK m=>obtain⟨z,y,s,r,ob,g,i,e,c⟩:=x;exact⟨z,y,s,r,ob,g,i,k _ _ (.inl rfl) e,c⟩|dT m=>
  obtain⟨z,y,xs,r,ob,g,i,e,c⟩:=x;exact⟨z,y,xs,Paired.Cd r λp q z=>⟨z.1,B _ _ z.2.1,z.2.2⟩,ob,g,i,k _ _ (.inl rfl) e,c⟩|set S n=>obtain⟨ob,g,i,t,e,c⟩:=x;exact⟨ob,g,i,t,k _ _ (.inl rfl) e,c⟩|ins C I fs=>
  obtain⟨d,z,ne,e,l,⟨od,g,i,E,c⟩,r⟩:=x;exact⟨D _ d,z,ne,k _ _ (.inl rfl) e,l,⟨od,g,i,k _ _ (.inr d) E,c⟩,r⟩|own y=>obtain⟨ob,e⟩:=x;exact⟨ob,k _ _ (.inl rfl) e⟩|xd fs=>obtain⟨l,⟨od,g,i,e,c⟩,r⟩:=x;exact⟨l,⟨od,g,i,k _ _ (.inl rfl) e,c⟩,r⟩|Jy lo G=>obtain⟨t,u,v,e⟩:=x;exact⟨t,u,v,k _ _ (.inl rfl) e⟩|cv ob u A=>obtain⟨e,q⟩:=x;exact⟨k _ _ (.inl rfl) e,A q⟩|vE ps=>
  have e:h.get? a=Mq {cls:=.none,data:=.fields ps}:=x;show h'.get? a=Mq {cls:=.none,data:=.fields ps};exact k a _ (.inl rfl) e|met f y=>
  have e:h.get? a=Mq (Ry (.ref f) (.ref y)):=x;show h'.get? a=Mq (Ry (.ref f) (.ref y));exact k a _ (.inl rfl) e|ext F=>obtain⟨p,⟨o,e⟩,st⟩:=x;exact⟨st _ _ p λo q=>k _ _ (.inl rfl) q,⟨o,k _ _ (.inl rfl) e⟩,st⟩
theorem jo.lt(x:jo P w H h)(e:H a=Mq o):a<h.objs.size:=(x a o e).lt
theorem jo.fresh(x:jo P w H h)(e:h.objs.size<=a):H a=Mu:=by cases q:H a with
 |none=>rfl|some u=>exact absurd (MU (x.lt q) e) (Nx _)
theorem jo.kept(x:jo P w H h)(k:∀b u,h.get? b=Mq u->h'.get? b=Mq u):jo P w H h':=λa o e=>(x a o e).dg (λb u _ q=>k b u q) (λ_ q=>q) λ_ _ q=>q
theorem jo.laid(x:jo P w H h)(k:∀b u,h.get? b=Mq u->h'.get? b=Mq u)(f:h.objs.size<=a)(new:bW P w (upd H a o) h' a o):jo P w (upd H a o) h':=λb u e=>by
 have d:=x.fresh f;by_cases hb:b=a;.subst hb;rw[aj]at e;cases e;exact new
 .rw[ah hb]at e;exact(x b u e).dg (λc v _ q=>k c v q) (λc q=>by rw[ah (aA q d)];exact q) λc g q=>by rw[ah (aA q d)];exact q
end
noncomputable def Rd(H:Hp)(a:MB)(u:HO):Prop:=H a=Mq u\/∃o,H a=Mq (.cv o u)
theorem Rd.ok{P:MQ}{w:M6}{H:Hp}{h:M7}{a:MB}{u:HO}(r:Rd H a u)(x:jo P w H h):bW P w H h a u:=by
 rcases r with r|⟨o,r⟩;.exact x a u r
 .obtain⟨_,q⟩:=x a _ r;exact q
noncomputable def IV:Option HO->Prop
 |some (.lst _)=>True|some (.dK _)=>True|some (.dT _)=>True|some (.set _ _)=>True|some (.ins _ _ _)=>True|some (.ext _)=>True|_=>False
section
variable{P:MQ}{w:M6}{H:Hp}{h h':M7}{x e:MB}{o':HO}
theorem jo.write(ok:jo P w H h)(i:IV (H x))(n:e=x\/H e=Mq (.own x))(k:∀b u,b≠e->h.get? b=Mq u->h'.get? b=Mq u)(l:∃u,h'.get? e=Mq u)(new:bW P w (upd H x o') h' x o'):jo P w (upd H x o') h':=λb u q=>by
 have d:∀c y,H c=Mq (.own y)->c≠x:=λc y r z=>by subst z;rw[r]at i;exact i
 have f:∀c g,H c=Mq (.tup g)->c≠x:=λc g r z=>by subst z;rw[r]at i;exact i
 by_cases hb:b=x;.subst hb;rw[aj]at q;cases q;exact new
 .rw[ah hb]at q;by_cases a:b=e
  .have m:H b=Mq (.own x):=by
    rcases n with z|z;.exact absurd (a.trans z) hb
    .rw[a];exact z
   rw[q]at m;cases m;obtain⟨v,o⟩:=l;exact⟨v,by rw[a];exact o⟩
  .refine(ok b u q).dg (λc v j r=>k c v ?_ r) (λc r=>by rw[ah (d c b r)];exact r) λc g r=>by rw[ah (f c g r)];exact r
   rcases j with rfl|j;.exact a
   .rintro rfl;rcases n with z|z;.exact d c b j z
    .rw[j]at z;cases z;exact hb rfl
end
structure Un(fs ex:List MB)(H H':Hp)(h h':M7):Prop where
 keep:∀b o,h.get? b=Mq o->H b=Mu->b∉fs->b∉ex->h'.get? b=Mq o
 slot:∀b o,h.get? b=Mq o->H b=Mu->b∈fs->b∉ex->∃sl,h'.get? b=Mq {o with slots:=sl}free:∀b o,h.get? b=Mq o->H b=Mu->b∉ex->H' b=Mu
 there:∀b o,h.get? b=Mq o->b∉ex->∃o',h'.get? b=Mq o'
 jC:∀b xs,H b=Mq (.tup xs)->H' b=Mq (.tup xs)iR:∀b o u,H b=Mq (.cv o u)->H' b=Mq (.cv o u)jD:∀b ps,H b=Mq (.vE ps)->∃more,H' b=Mq (.vE (ps++more))
section
variable{fs fs' ex ex':List MB}{H H1 H2:Hp}{h h1 h2 h':M7}{a x e:MB}{o:HO}
theorem Un.any(u:Un fs ex H H1 h h1){b:MB}{ob:NI}(q:h.get? b=Mq ob)(n:H b=Mu)(c:b∉ex):∃d,h1.get? b=Mq {ob with slots:=d}:=by
 by_cases hb:b∈fs;.exact u.slot b ob q n hb c
 .exact⟨ob.slots,u.keep b ob q n hb c⟩
theorem Un.kept(k:∀b u,h.get? b=Mq u->h'.get? b=Mq u):Un fs ex H H h h':=⟨λb ob q _ _ _=>k b ob q,λb ob q _ _ _=>⟨ob.slots,k b ob q⟩,λ_ _ _ n _=>n,λb ob q _=>⟨ob,k b ob q⟩,λ_ _ q=>q,λ_ _ _ q=>q,λ_ ps q=>⟨#[],by rw[q];simp⟩⟩
theorem Un.refl:Un fs ex H H h h:=Un.kept λ_ _ q=>q
theorem Un.laid(k:∀b u,h.get? b=Mq u->h'.get? b=Mq u)(f:h.objs.size<=a)(c:H a=Mu):Un fs ex H (upd H a o) h h' where
 keep:=λb u q _ _ _=>k b u q;slot:=λb u q _ _ _=>⟨u.slots,k b u q⟩;free:=λb u q n _=>by rw[ah (M3 (MU (MM q) f))];exact n
 there:=λb u q _=>⟨u,k b u q⟩;jC:=λb d q=>by rw[ah (aA q c)];exact q
 iR:=λb u d q=>by rw[ah (aA q c)];exact q
 jD:=λb ps q=>⟨#[],by rw[ah (aA q c),q];simp⟩
theorem Un.write(d:IV (H x))(l:e=x\/H e=Mq (.own x))(k:∀b u,b≠e->h.get? b=Mq u->h'.get? b=Mq u)(g:∃u,h'.get? e=Mq u):Un fs ex H (upd H x o) h h':=by
 have i:∀b,H b=Mu->b≠x:=λb n z=>by subst z;rw[n]at d;exact d
 have hb:∀b,H b=Mu->b≠e:=λb n z=>by
  subst z;rcases l with r|r;.exact i b n r
  .rw[n]at r;cases r
 have f:∀b u,H b=Mq u->¬IV (Mq u)->b≠x:=λb u q nm z=>by subst z;rw[q]at d;exact nm d
 refine⟨λb u q n _ _=>k b u (hb b n) q,λb u q n _ _=>⟨u.slots,k b u (hb b n) q⟩,λb u q n _=>by rw[ah (i b n)];exact n,λb u q _=>?_,λb j q=>by rw[ah (f b _ q λz=>z)];exact q,λb u j q=>by rw[ah (f b _ q λz=>z)];exact q,λb ps q=>⟨#[],by rw[ah (f b _ q λz=>z),q];simp⟩⟩;by_cases c:b=e;.subst c;exact g
 .exact⟨u,k b u c q⟩
end
noncomputable def IW(h:M7)(H:Hp):List MB:=(N_ h.objs.size).filter λa=>(H a).isSome
noncomputable def nA(h:M7)(H:Hp):M7:=PySem.W.hideAll h (IW h H)
theorem uI(h:M7)(H:Hp):(nA h H).objs.size=h.objs.size:=PySem.W.hideAll_size _ _
theorem vL{h:M7}{H:Hp}{b:MB}{o:NI}(e:h.get? b=Mq o)(n:H b=Mu):(nA h H).get? b=Mq o:=PySem.W.hideAll_get _ e λa=>by
  have q:(H b).isSome=Mv:=(List.mem_filter.mp a).2;rw[n]at q;simp at q
theorem zb{h:M7}{H:Hp}{b:MB}{o:NI}(e:(nA h H).get? b=Mq o):h.get? b=Mq o/\H b=Mu:=by
 have a:h.get? b=Mq o:=PySem.W.of_hideAll (IW h H) e;refine⟨a,?_⟩;cases q:H b with
 |none=>rfl|some x=>
  have c:b∈IW h H:=List.mem_filter.mpr ⟨List.mem_range.mpr (MM a),by simp[q]⟩;have z:(nA h H).get? b=Mu:=PySem.W.hideAll_none (IW h H) c;rw[z]at e;cases e
end L2
namespace L2
open PySem PySem.Spec PyProof.Rows
structure Mod(K:MF)(mg:MR->Option Mt)(base:M7):Prop where
 IX:K.In base
 glob:base.Ns Nq mg
 blt:∃mb,base.Ns Sf mb/\∀x:MR,x≠"__name__"->mb x=O5 x
 nolimit:base.NoLimit
structure Cx where
 prog:MQ
 w:M6
 K:MF
 mg:MR->Option Mt
 base:M7
 A:Nf
 N:List MR
 cc:Mz
 gZ:Hp
 env:SD
 outer:List SD
 stack:List SD
 ex:List MB
 fn:MR->Bool
 calm:Bool
 pn:List (MB×NI)xe:Mt->Mz->Prop
noncomputable def uJ(l:List SD):List MB:=l.filterMap (·.frame)
noncomputable abbrev Cx.fs(X:Cx):List MB:=uJ X.outer
noncomputable def oI(sc:Of)(x:MR):Prop:=sc.names.lookup x=Mq .local\/sc.names.lookup x=Mq .cell\/sc.names.lookup x=Mq .free
noncomputable def Loc(sc:Of)(x:MR):Prop:=sc.names.lookup x=Mq .local\/sc.names.lookup x=Mq .cell
noncomputable def Look(env:SD)(h:M7)(m:MR->Option Mt)(x:MR)(u:Mt):Prop:=(env.kindOf x=Mq .local/\m x=Mq u)\/((env.kindOf x=Mq .cell\/env.kindOf x=Mq .free)/\∃c,env.cells.lookup x=Mq c/\h.IsCell c (Mq u))
structure Cx.Ok(X:Cx):Prop where
 mod:Mod X.K X.mg X.base
 kind:X.env.scope.kind=.function
 glob:X.env.globals=Nq
 blt:X.env.builtins=Sf
 above:X.cc.heap.objs.size<=X.env.locals
 inj:∀x y c,X.env.cells.lookup x=Mq c->X.env.cells.lookup y=Mq c->x=y
 has:∀x,(X.env.kindOf x=Mq .cell\/X.env.kindOf x=Mq .free)->∃c,X.env.cells.lookup x=Mq c
 Fz:∀x c,X.fn x=Mv->X.env.cells.lookup x=Mq c->X.cc.heap.objs.size<=c
 hd:X.calm=Mv->X.A.handled=Mu
 frames:X.A.frames=Mq X.stack
 FW:X.stack=X.outer\/(X.stack=X.env::X.outer/\X.env.frame=Mq X.env.locals)Jz:∀b∈X.ex,b≠X.env.locals/\∀x c,X.env.cells.lookup x=Mq c->c≠b
 bs:∀b o,X.base.get? b=Mq o->X.cc.heap.get? b=Mq o/\X.gZ b=Mu
 zc:X.base.objs.size<=X.cc.heap.objs.size
 uK:∀b o,X.base.get? b=Mq o->b∉X.ex
 vM:∀b∈X.ex,b∉X.fs
 jE:X.cc.heap.FunFrames X.base X.outer
 Ce:∀b∈X.fs,X.gZ b=Mu
structure Inv(X:Cx)(pins:List (MB×NI))(σ:List (Option V))(H:Hp)(s:Mz):Prop where
 ok:X.Ok
 os:s.os=X.cc.os
 bare:Rz s.gens
 base:Un X.fs X.ex X.gZ H X.cc.heap s.heap
 loc:∃m,s.heap.Ns X.env.locals m/\∀(i:Nat)(x:MR)(v:V),X.N[i]?=Mq x->σ[i]?=Mq (Mq v)->oI X.env.scope x->∃u,RelV v u/\Look X.env s.heap m x u
 cell:∀x c,X.env.cells.lookup x=Mq c->∃v,s.heap.IsCell c v
 free:H X.env.locals=Mu
 dh:∀x c,X.env.cells.lookup x=Mq c->H c=Mu
 pin:∀p∈X.pn++pins,s.heap.get? p.1=Mq p.2/\H p.1=Mu/\p.1≠X.env.locals/\p.1∉X.fs/\∀v,p.2.data≠.cell v
 aV:jo X.prog X.w H s.heap
 len:σ.length=X.N.length
section
variable{X:Cx}{pins:List (MB×NI)}{σ:List (Option V)}{H H':Hp}{s:Mz}{h':M7}
theorem Cx.Ok.JA(ok:X.Ok){b:MB}{o:NI}(e:X.base.get? b=Mq o):b∉X.fs:=λhb=>by
 have:=(ok.jE.mem hb).1;rw[e]at this;cases this
theorem Inv.bs(I:Inv X pins σ H s):∀b o,X.base.get? b=Mq o->s.heap.get? b=Mq o/\H b=Mu:=λb o e=>⟨I.base.keep b o (I.ok.bs b o e).1 (I.ok.bs b o e).2 (I.ok.JA e) (I.ok.uK b o e),I.base.free b o (I.ok.bs b o e).1 (I.ok.bs b o e).2 (I.ok.uK b o e)⟩
theorem Inv.bk(I:Inv X pins σ H s):∀b o,X.base.get? b=Mq o->s.heap.get? b=Mq o:=λb o e=>(I.bs b o e).1
theorem Inv.mod(I:Inv X pins σ H s):Mod X.K X.mg X.base:=I.ok.mod
theorem Inv.zd(I:Inv X pins σ H s):X.K.In s.heap:=I.ok.mod.IX.keeps I.bk
theorem Inv.lt(I:Inv X pins σ H s):X.env.locals<s.heap.objs.size:=let⟨_,a,_⟩:=I.loc;a.lt
theorem Inv.sz(I:Inv X pins σ H s):X.cc.heap.objs.size<=s.heap.objs.size:=Nv I.ok.above (Rc I.lt)
theorem Inv.Cf(I:Inv X pins σ H s){a:MB}(h:s.heap.objs.size<=a):a∉X.fs:=λhb=>by
 obtain⟨_,o,b,_⟩:=I.ok.jE.mem hb;exact absurd (MU (MM b) (Nv I.sz h)) (Nx _)
theorem Inv.Cg(I:Inv X pins σ H s):∀x c,X.env.cells.lookup x=Mq c->c≠X.env.locals:=λx c e z=>by
 obtain⟨v,o,d,hd⟩:=I.cell x c e;obtain⟨m,⟨f,g,h,a,b,_⟩,_⟩:=I.loc;rw[z,a]at d;cases d;rw[b]at hd;cases hd
theorem Inv.jE(I:Inv X pins σ H s):s.heap.FunFrames X.base X.outer:=by
 have all:∀(l:List SD),(∀b∈uJ l,b∈X.fs)->X.cc.heap.FunFrames X.base l->s.heap.FunFrames X.base l:=by
  intro l;induction l with
  |nil=>intro _ _;trivial|cons env r f=>
   intro d j;obtain⟨k,⟨L,o,a,i,h,hd⟩,g⟩:=j;have c:L∈X.fs:=d L (by unfold uJ;rw[OK,a];exact ME);obtain⟨m,e⟩:=I.base.slot L o h (I.ok.Ce L c) c λz=>I.ok.vM L z c;exact⟨k,⟨L,_,a,i,e,hd⟩,f (λb hb=>d b (by unfold uJ;rw[OK,a];exact MH _ hb)) g⟩
 exact all X.outer (λ_ hb=>hb) I.ok.jE
theorem Inv.stack(I:Inv X pins σ H s):s.heap.FunFrames X.base X.stack:=by
 rcases I.ok.FW with e|⟨e,b⟩;.rw[e];exact I.jE
 .rw[e];obtain⟨m,a,_⟩:=I.loc;refine .cons (by rw[I.ok.kind];decide) b a ?_ I.jE;exact Heap.get?_none_of_le (Nv I.ok.zc I.ok.above)
theorem Inv.j5(I:Inv X pins σ H s):∀b∈uJ X.stack,b∈X.env.locals::X.fs:=λb hb=>by
 rcases I.ok.FW with e|⟨e,a⟩;.rw[e]at hb;exact MH _ hb
 .rw[e]at hb;unfold uJ at hb;rw[OK,a]at hb;exact hb
theorem Inv.sD(I:Inv X pins σ H s):∀b∈uJ X.stack,H b=Mu:=λb hb=>by
 rcases List.mem_cons.mp (I.j5 b hb)with e|hb;.rw[e];exact I.free
 .obtain⟨_,o,a,_⟩:=I.ok.jE.mem hb;exact I.base.free b o a (I.ok.Ce b hb) λz=>I.ok.vM b z hb
theorem Inv.step{g':Array GenState}{t':Nat}{d':Drawn}{ch:List MB}(I:Inv X pins σ H s)(g:∀b∈ch,(b∈X.ex\/X.cc.heap.objs.size<=b)/\b≠X.env.locals/\(∀x c,X.env.cells.lookup x=Mq c->c≠b)/\∀p∈X.pn++pins,p.1≠b)(keep:∀b o,b≠X.env.locals->b∉X.fs->b∉ch->s.heap.get? b=Mq o->H b=Mu->h'.get? b=Mq o)(slot:∀b o,b≠X.env.locals->b∈X.fs->b∉ch->s.heap.get? b=Mq o->H b=Mu->∃F,h'.get? b=Mq {o with slots:=F})(free:∀b o,b∉ch->s.heap.get? b=Mq o->H b=Mu->H' b=Mu)(there:∀b o,b∉ch->s.heap.get? b=Mq o->∃o',h'.get? b=Mq o')(jC:∀b xs,H b=Mq (.tup xs)->H' b=Mq (.tup xs))(iR:∀b o u,H b=Mq (.cv o u)->H' b=Mq (.cv o u))(jD:∀b ps,H b=Mq (.vE ps)->∃B,H' b=Mq (.vE (ps++B)))(ns:∀m,s.heap.Ns X.env.locals m->h'.Ns X.env.locals m)(aV:jo X.prog X.w H' h')(N:Rz g'):Inv X pins σ H' {s with heap:=h',gens:=g',drawn:=d',toks:=t'}:=by
 have A:∀b o,X.cc.heap.get? b=Mq o->b≠X.env.locals:=λb o e=>M3 (MU (MM e) I.ok.above);have j:∀b o,X.cc.heap.get? b=Mq o->b∉X.ex->b∉ch:=λb o e a hb=>by
  rcases(g b hb).1 with z|z;.exact a z
  .exact absurd (MU (MM e) z) (Nx _)
 have h:∀x c,X.env.cells.lookup x=Mq c->∀v,s.heap.IsCell c v->h'.IsCell c v:=λx c e v D=>by
  obtain⟨o,y,hd⟩:=D;have f:c∉ch:=λz=>(g c z).2.2.1 x c e rfl;by_cases K:c∈X.fs
  .obtain⟨F,q⟩:=slot c o (I.Cg x c e) K f y (I.dh x c e);exact⟨_,q,hd⟩
  .exact⟨o,keep c o (I.Cg x c e) K f y (I.dh x c e),hd⟩
 refine⟨I.ok,I.os,N,⟨λb o e n hb a=>?_,λb o e n hb a=>?_,λb o e n a=>?_,λb o e a=>?_,λb xs e=>jC b xs (I.base.jC b xs e),λb o xs e=>iR b o xs (I.base.iR b o xs e),λb ps e=>?_⟩,?_,λx c e=>?_,?_,λx c e=>?_,λp J=>?_,aV,I.len⟩;.exact keep b o (A b o e) hb (j b o e a) (I.base.keep b o e n hb a) (I.base.free b o e n a)
 .obtain⟨F,t⟩:=I.base.slot b o e n hb a;obtain⟨E,C⟩:=slot b _ (A b o e) hb (j b o e a) t (I.base.free b o e n a);exact⟨E,C⟩
 .obtain⟨o',t⟩:=I.base.there b o e a;exact free b o' (j b o e a) t (I.base.free b o e n a)
 .obtain⟨o',t⟩:=I.base.there b o e a;exact there b o' (j b o e a) t
 .obtain⟨m1,t⟩:=I.base.jD b ps e;obtain⟨m2,C⟩:=jD b _ t;exact⟨m1++m2,by rw[C,Array.append_assoc]⟩
 .obtain⟨m,L,M⟩:=I.loc;refine⟨m,ns m L,λi x v t C O=>?_⟩;obtain⟨u,r,l⟩:=M i x v t C O;refine⟨u,r,?_⟩;rcases l with l|⟨k,c,e,z⟩;.exact .inl l
  .exact .inr ⟨k,c,e,h x c e _ z⟩
 .obtain⟨v,z⟩:=I.cell x c e;exact⟨v,h x c e v z⟩
 .obtain⟨m,⟨o,_,_,y,_⟩,_⟩:=I.loc;exact free _ o (λz=>(g _ z).2.1 rfl) y I.free
 .obtain⟨v,o,y,hd⟩:=I.cell x c e;exact free c o (λz=>(g c z).2.2.1 x c e rfl) y (I.dh x c e)
 .obtain⟨e,n,ne,G,d⟩:=I.pin p J;have f:p.1∉ch:=λz=>(g p.1 z).2.2.2 p J rfl;exact⟨keep p.1 p.2 ne G f e n,free p.1 p.2 f e n,ne,G,d⟩
theorem Inv.un{t':Nat}(I:Inv X pins σ H s)(u:Un X.fs [] H H' s.heap h')(aV:jo X.prog X.w H' h'):Inv X pins σ H' {s with heap:=h',toks:=t'}:=by
 obtain⟨m,⟨o,p,q,f,r⟩,_⟩:=id I.loc;obtain⟨j,i⟩:=u.any f I.free (by simp);exact I.step (g':=s.gens) (d':=s.drawn) (ch:=[]) (λ_ z=>nomatch z) (λb o _ hb _ e n=>u.keep b o e n hb (by simp)) (λb o _ hb _ e n=>u.slot b o e n hb (by simp)) (λb o _ e n=>u.free b o e n (by simp)) (λb o _ e=>u.there b o e (by simp)) u.jC u.iR u.jD (λl h=>by
  obtain⟨k,c,d,a,g⟩:=h;rw[f]at a;cases a;exact⟨_,c,d,i,g⟩) aV I.bare
theorem Inv.call{g':Array GenState}{t':Nat}{d':Drawn}{ch:List MB}(I:Inv X pins σ H s)(u:Un (uJ X.stack) ch H H' s.heap h')(aV:jo X.prog X.w H' h')(q:Rz g')(f:∀b∈ch,(b∈X.ex\/X.cc.heap.objs.size<=b)/\b≠X.env.locals/\(∀x c,X.env.cells.lookup x=Mq c->c≠b)/\∀p∈X.pn++pins,p.1≠b):Inv X pins σ H' {s with heap:=h',gens:=g',drawn:=d',toks:=t'}:=by
 obtain⟨m,⟨o,A,B,j,r⟩,_⟩:=id I.loc;obtain⟨t,g⟩:=u.any j I.free λz=>(f _ z).2.1 rfl;exact I.step (ch:=ch) f (λb o g hb a e n=>u.keep b o e n (λz=>(List.mem_cons.mp (I.j5 b z)).elim g hb) a) (λb o _ _ a e n=>u.any e n a) (λb o a e n=>u.free b o e n a) (λb o a e=>u.there b o e a) u.jC u.iR u.jD (λy l=>by
  obtain⟨v,h,i,d,k⟩:=l;rw[j]at d;cases d;exact⟨_,h,i,g,k⟩) aV q
theorem Inv.turned{t':Nat}{it:MB}(I:Inv X pins σ H s)(k:∀b o,b≠it->s.heap.get? b=Mq o->h'.get? b=Mq o)(h:H it=Mu)(f:it≠X.env.locals)(t:it∈X.ex\/X.cc.heap.objs.size<=it)(l:∀x c,X.env.cells.lookup x=Mq c->c≠it)(j:∀p∈X.pn++pins,p.1≠it):Inv X pins σ H {s with heap:=h',toks:=t'}:=by
 have d:∀b u,H b=Mq u->b≠it:=λb u e z=>by rw[z,h]at e;cases e
 refine I.step (g':=s.gens) (d':=s.drawn) (ch:=[it]) (λb hb=>?_) (λb o _ _ a e _=>k b o (λz=>a (by simp[z])) e) (λb o _ _ a e _=>⟨o.slots,k b o (λz=>a (by simp[z])) e⟩) (λ_ _ _ _ n=>n) (λb o a e=>⟨o,k b o (λz=>a (by simp[z])) e⟩) (λ_ _ e=>e) (λ_ _ _ e=>e) (λb ps e=>⟨#[],by rw[e];simp⟩) (λm i=>?_) (λb u e=>?_) I.bare
 .have e:b=it:=by simpa using hb
  subst e;exact⟨t,f,l,j⟩
 .obtain⟨o,w,y,g,r⟩:=i;exact⟨o,w,y,k _ o (Nj f) g,r⟩
 .refine(I.aV b u e).dg (λc v a q=>k c v ?_ q) (λ_ q=>q) λ_ _ q=>q;rcases a with z|z;.rw[z];exact d b u e
  .exact d c _ z
theorem Inv.tok(I:Inv X pins σ H s)(t:Nat):Inv X pins σ H {s with toks:=t}:=I.un (h':=s.heap) (t':=t) Un.refl I.aV
theorem Inv.kept{t':Nat}(I:Inv X pins σ H s)(k:∀b u,s.heap.get? b=Mq u->h'.get? b=Mq u):Inv X pins σ H {s with heap:=h',toks:=t'}:=I.un (Un.kept k) (I.aV.kept k)
theorem Inv.laid{a:MB}{o:HO}{t':Nat}(I:Inv X pins σ H s)(k:∀b u,s.heap.get? b=Mq u->h'.get? b=Mq u)(c:s.heap.objs.size<=a)(new:bW X.prog X.w (upd H a o) h' a o):Inv X pins σ (upd H a o) {s with heap:=h',toks:=t'}:=I.un (Un.laid k c (I.aV.fresh c)) (I.aV.laid k c new)
theorem Inv.write{x e:MB}{o:HO}{t':Nat}(I:Inv X pins σ H s)(c:IV (H x))(d:e=x\/H e=Mq (.own x))(k:∀b u,b≠e->s.heap.get? b=Mq u->h'.get? b=Mq u)(a:∃u,h'.get? e=Mq u)(new:bW X.prog X.w (upd H x o) h' x o):Inv X pins σ (upd H x o) {s with heap:=h',toks:=t'}:=I.un (Un.write c d k a) (I.aV.write c d k a new)
theorem Inv.eG{a:List (MB×NI)}(I:Inv X pins σ H s)(h:∀p∈a,s.heap.get? p.1=Mq p.2/\H p.1=Mu/\p.1≠X.env.locals/\p.1∉X.fs/\∀v,p.2.data≠.cell v):Inv X a σ H s:=⟨I.ok,I.os,I.bare,I.base,I.loc,I.cell,I.free,I.dh,λp b=>(List.mem_append.mp b).elim (λz=>I.pin p (Oz _ z)) (h p),I.aV,I.len⟩
theorem oR{N:List MR}(hN:N.Nodup){i j:Nat}{x:MR}(a:N[i]?=Mq x)(b:N[j]?=Mq x):i=j:=by
 obtain⟨f,d⟩:=List.getElem?_eq_some_iff.mp a;obtain⟨e,c⟩:=List.getElem?_eq_some_iff.mp b;exact(List.getElem_inj hN).mp (d.trans c.symm)
theorem uL{M:Uh}{A:Nf}{E:Mt->Mz->Prop}{i:Nat}{x:MR}{v:V}{u:Mt}{Q:Unit->Mz->Prop}(I:Inv X pins σ H s)(hN:X.N.Nodup)(P:X.N[i]?=Mq x)(B:Loc X.env.scope x)(r:RelV v u)(h:∀s',Inv X pins (σ.set i (Mq v)) H s'->(∃a,N1 a s.heap s'.heap/\(a=X.env.locals\/X.env.cells.lookup x=Mq a))->Q () s')(hf:X.fn x=Mv\/X.env.scope.names.lookup x=Mq .local:=by first|exact .inl rfl|exact .inr rfl|assumption):wpAny M A (storeName X.env x u) Q E s:=by
 obtain⟨m,hn,hl⟩:=id I.loc;have R:(X.env.scope.kind==.class||(X.env.scope.kind==.module&&X.env.locals !=X.env.globals))=Mw:=by rw[I.ok.kind];rfl
 have G:i<σ.length:=by rw[I.len];exact(List.getElem?_eq_some_iff.mp P).1
 have Cg:=I.Cg;have g:∀{a:MB}{h':M7},(∃o,s.heap.get? a=Mq o/\H a=Mu)->N1 a s.heap h'->jo X.prog X.w H h':=λ{a h'}ha f b ob e=>by
  obtain⟨_,_,C⟩:=ha;refine(I.aV b ob e).dg (λc U t q=>(f.2 c ?_).trans q) (λ_ q=>q) λ_ _ q=>q;rintro rfl;rcases t with rfl|t;.rw[C]at e;cases e
  .rw[C]at t;cases t
 rcases B with F|F
 .refine wpAny_storeName_local F hn (λh' a2 f=>?_) R;obtain⟨oL,_,_,a0,_⟩:=id hn;refine h _ ⟨I.ok,I.os,I.bare,⟨λb o e n hb B=>?_,λb o e n hb B=>?_,I.base.free,λb o e B=>?_,I.base.jC,I.base.iR,I.base.jD⟩,⟨_,a2,λj y Y l D e3=>?_⟩,λy c e=>?_,I.free,I.dh,λp hp=>?_,g ⟨oL,a0,I.free⟩ f,by simpa using I.len⟩ ⟨_,f,.inl rfl⟩;.exact(f.2 b (M3 (MU (MM e) I.ok.above))).trans (I.base.keep b o e n hb B)
  .obtain⟨sl,l⟩:=I.base.slot b o e n hb B;exact⟨sl,(f.2 b (M3 (MU (MM e) I.ok.above))).trans l⟩
  .obtain⟨o',l⟩:=I.base.there b o e B;exact⟨o',(f.2 b (M3 (MU (MM e) I.ok.above))).trans l⟩
  .by_cases J:j=i
   .subst J;rw[P]at l;cases l;rw[OP G]at D;cases D;exact⟨u,r,.inl ⟨F,by simp⟩⟩
   .rw[OA (Nj J)]at D;obtain⟨Z,r',q⟩:=hl j y Y l D e3;refine⟨Z,r',?_⟩;rcases q with⟨k,e⟩|⟨k,c,e,z⟩
    .refine .inl ⟨k,?_⟩;have:y≠x:=λe=>J (oR hN l (e▸P));simp[this,e]
    .exact .inr ⟨k,c,e,z.sameBut f (Cg y c e)⟩
  .obtain⟨U,z⟩:=I.cell y c e;exact⟨U,z.sameBut f (Cg y c e)⟩
  .obtain⟨e,n,ne,nf,d⟩:=I.pin p hp;exact⟨(f.2 p.1 ne).trans e,n,ne,nf,d⟩
 .have K:X.fn x=Mv:=by
   rcases hf with z|z;.exact z
   .rw[z]at F;cases F
  obtain⟨c,t⟩:=I.ok.has x (.inl F);obtain⟨U,z⟩:=I.cell x c t;refine wpAny_storeName_cell I.ok.kind F t z (λh' T f=>?_);obtain⟨oc,O,L⟩:=id z;refine h {s with heap:=h'} ⟨I.ok,I.os,I.bare,⟨λb o e n hb B=>?_,λb o e n hb B=>?_,I.base.free,λb o e B=>?_,I.base.jC,I.base.iR,I.base.jD⟩,⟨m,hn.sameBut f (Nj (Cg x c t)),λj y Y l D e3=>?_⟩,λy W e=>?_,I.free,I.dh,λp hp=>?_,g ⟨oc,O,I.dh x c t⟩ f,by simpa using I.len⟩ ⟨c,f,.inr t⟩;.exact(f.2 b (M3 (MU (MM e) (I.ok.Fz x c K t)))).trans (I.base.keep b o e n hb B)
  .obtain⟨sl,l⟩:=I.base.slot b o e n hb B;exact⟨sl,(f.2 b (M3 (MU (MM e) (I.ok.Fz x c K t)))).trans l⟩
  .obtain⟨o',l⟩:=I.base.there b o e B;exact⟨o',(f.2 b (M3 (MU (MM e) (I.ok.Fz x c K t)))).trans l⟩
  .by_cases J:j=i
   .subst J;rw[P]at l;cases l;rw[OP G]at D;cases D;exact⟨u,r,.inr ⟨.inl F,c,t,T⟩⟩
   .rw[OA (Nj J)]at D;obtain⟨Z,r',q⟩:=hl j y Y l D e3;refine⟨Z,r',?_⟩;rcases q with q|⟨k,W,e,z'⟩;.exact .inl q
    .refine .inr ⟨k,W,e,z'.sameBut f ?_⟩;rintro rfl;exact J (oR hN l (I.ok.inj _ _ _ e t▸P))
  .by_cases S:W=c;.subst S;exact⟨_,T⟩
   .obtain⟨w2,z2⟩:=I.cell y W e;exact⟨w2,z2.sameBut f S⟩
  .obtain⟨e,n,ne,nf,d⟩:=I.pin p hp;refine⟨(f.2 p.1 ?_).trans e,n,ne,nf,d⟩;intro q;rw[q,O]at e;have q':oc=p.2:=MD e;exact d U (by rw[<-q'];exact L)
theorem g9{M:Uh}{A:Nf}{E:Mt->Mz->Prop}{i:Nat}{x:MR}{v:V}{u:Mt}{Q:Unit->Mz->Prop}(I:Inv X pins σ H s)(hN:X.N.Nodup)(c:X.N[i]?=Mq x)(b:Loc X.env.scope x)(r:RelV v u)(h:∀a,Inv X pins (σ.set i (Mq v)) H a->Q () a)(d:X.fn x=Mv\/X.env.scope.names.lookup x=Mq .local:=by first|exact .inl rfl|exact .inr rfl|assumption):wpAny M A (storeName X.env x u) Q E s:=uL I hN c b r (λa e _=>h a e) d
theorem Inv.FX{a:Mz}{ch:List MB}(I:Inv X pins σ H s)(g:a.os=s.os)(u:Un (uJ X.stack) ch H H' s.heap a.heap)(aV:jo X.prog X.w H' a.heap)(h:Rz a.gens)(d:∀b∈ch,(b∈X.ex\/X.cc.heap.objs.size<=b)/\b≠X.env.locals/\(∀x c,X.env.cells.lookup x=Mq c->c≠b)/\∀p∈X.pn++pins,p.1≠b):Inv X pins σ H' a:=by
 obtain⟨h',g',d',t',f⟩:=a;have e:f=s.os:=g;subst e;exact I.call (g':=g') (t':=t') (d':=d') u aV h d
end
abbrev XK:=Mt->Option MB->Hp->Prop
abbrev St:=List (Option V)
abbrev VK:=V->Hp->Prop
abbrev TE:=St->Hp->VK->Prop
abbrev TT:=St->Hp->(Bool->Hp->Prop)->Prop
abbrev TA:=St->Hp->(List V->Hp->Prop)->Prop
structure Ends where
 nx:St->Hp->Prop
 rt:VK
 bk:St->Hp->Prop:=λ_ _=>False
 ct:St->Hp->Prop:=λ_ _=>False
abbrev TS:=Ends->St->Hp->Prop
inductive EP(X:Cx)(pins:List (MB×NI))(σ:St)(Q:VK)(u:Mt)(s':Mz):Prop where|mk(v:V)(H':Hp)(I:Inv X pins σ H' s')(r:RelV v u)(q:Q v H')
inductive TP(X:Cx)(pins:List (MB×NI))(σ:St)(Q:Bool->Hp->Prop)(b:Bool)(s':Mz):Prop where|mk(H':Hp)(I:Inv X pins σ H' s')(q:Q b H')
inductive AP(X:Cx)(pins:List (MB×NI))(σ:St)(Q:List V->Hp->Prop)(us:List Mt)(s':Mz):Prop where|mk(vs:List V)(H':Hp)(I:Inv X pins σ H' s')(r:au vs us)(q:Q vs H')
noncomputable def SP(X:Cx)(b:List (MB×NI))(D:Ends)(f:Flow)(d:Mz):Prop:=match f with
 |.next=>∃a c,Inv X b a c d/\D.nx a c|.brk=>∃a c,Inv X b a c d/\D.bk a c|.cont=>∃a c,Inv X b a c d/\D.ct a c|.ret u=>∃v a c,Inv X b a c d/\RelV v u/\D.rt v c
noncomputable def PE(X:Cx)(e:MP)(t:TE):Prop:=∀(a:List (MB×NI))(s:Mz)(b:St)(H:Hp)(Q:VK),Inv X a b H s->t b H Q->wpAny (ML X.prog X.w) X.A (OB e X.env) (EP X a b Q) X.xe s
noncomputable def PT(X:Cx)(e:MP)(t:TT):Prop:=∀(a:List (MB×NI))(s:Mz)(b:St)(H:Hp)(Q:Bool->Hp->Prop),Inv X a b H s->t b H Q->wpAny (ML X.prog X.w) X.A (S7 e X.env (OB e X.env)) (TP X a b Q) X.xe s
noncomputable def PW(X:Cx)(e:MP)(t:TT):Prop:=∀(whole:Rw Mt)(a:List (MB×NI))(s:Mz)(b:St)(H:Hp)(Q:Bool->Hp->Prop),Inv X a b H s->t b H Q->wpAny (ML X.prog X.w) X.A (S7 e X.env whole) (TP X a b Q) X.xe s
theorem PW.pt{X:Cx}{e:MP}{t:TT}(h:PW X e t):PT X e t:=h _
noncomputable def PA(X:Cx)(d:List MP)(t:TA):Prop:=∀(c:Oc)(a:List (MB×NI))(s:Mz)(b:St)(H:Hp)(Q:List V->Hp->Prop),Inv X a b H s->t b H Q->wpAny (ML X.prog X.w) X.A (UL (PF c (MX d X.env))) (AP X a b Q) X.xe s
noncomputable def PS(X:Cx)(st:Ou)(t:TS):Prop:=∀(a:List (MB×NI))(s:Mz)(b:St)(H:Hp)(D:Ends),Inv X a b H s->t D b H->wpAny (ML X.prog X.w) X.A (exec st X.env) (SP X a D) X.xe s
noncomputable def oJ(X:Cx)(st:List Ou)(t:TS):Prop:=∀(a:List (MB×NI))(s:Mz)(b:St)(H:Hp)(D:Ends),Inv X a b H s->t D b H->wpAny (ML X.prog X.w) X.A (execs st X.env) (SP X a D) X.xe s
theorem a_{b:Type}{t:Rw b}{Q Q':b->Mz->Prop}{M:Uh}{A:Nf}{E:Mt->Mz->Prop}{s:Mz}(h:wpAny M A t Q E s)(c:∀a s,Q a s->Q' a s):wpAny M A t Q' E s:=Og h c λ_ _ x=>x
end L2
namespace L2
open PySem PySem.Spec PyProof.Rows
section
variable{X:Cx}
noncomputable def FY(i:Nat):TE:=λa H Q=>∃v,a[i]?=Mq (Mq v)/\Q v H
noncomputable def tC(v:V):TE:=λ_ H Q=>Q v H
theorem bX{i:Nat}{x:MR}{pos:Oc}(hN:X.N[i]?=Mq x)(n:oI X.env.scope x)(hd:(x==("__debug__":MR))=Mw:=by decide)(g:(x==("__classdict__":MR))=Mw:=by decide):PE X (.Name x pos) (FY i):=by
 intro f s k H Q I h;obtain⟨v,e,h⟩:=h;obtain⟨m,o,q⟩:=I.loc;obtain⟨u,r,l⟩:=q i x v hN e n;have d:EP X f k Q u s:=⟨v,H,I,r,h⟩;rcases l with⟨b,p⟩|⟨b,c,j,a⟩;.exact Ux (wpAny_loadName_local I.ok.kind b o p d) hd
 .rcases b with b|b;.exact Ux (wpAny_loadName_cell I.ok.kind b j a d) hd
  .exact Ux (wpAny_loadName_free I.ok.kind b j a d g) hd
theorem aB{i j pos}:PE X (.Constant (.int i) j pos) (tC (.int i)):=λ_ _ _ H _ I h=>wpAny_Constant_int ⟨.int i,H,I.tok _,⟨_,rfl⟩,h⟩
theorem FZ{b j pos}:PE X (.Constant (.bool b) j pos) (tC (.bl b)):=λ_ _ _ H _ I h=>Constant_bool ⟨.bl b,H,I,rfl,h⟩
theorem Ci{j pos}:PE X (.Constant .none j pos) (tC .bH):=λ_ _ _ H _ I h=>Constant_none ⟨.bH,H,I,rfl,h⟩
theorem Cj{x j pos}:PE X (.Constant (.str x) j pos) (tC (.str x)):=λ_ _ _ H _ I h=>Calls.Constant_str ⟨.str x,H,I.tok _,⟨_,rfl⟩,h⟩
noncomputable def Gl(X:Cx)(x:MR):Prop:=X.env.kindOf x=Mq .globalImplicit
theorem sE{E:Mt->Mz->Prop}{a:List (MB×NI)}{s:Mz}{b:St}{H:Hp}{x:MR}{u:Mt}{pos:Oc}{Q:Mt->Mz->Prop}(I:Inv X a b H s)(d:Gl X x)(c:X.mg x=Mq u)(h:Q u s)(hd:(x==("__debug__":MR))=Mw:=by decide):wpAny (ML X.prog X.w) X.A (OB (.Name x pos) X.env) Q E s:=Rk I.ok.kind d (Calls.loadGlobal_global (by rw[I.ok.glob];exact I.mod.glob.keeps I.bk) c h) hd
theorem fm{E:Mt->Mz->Prop}{a:List (MB×NI)}{s:Mz}{b:St}{H:Hp}{x:MR}{u:Mt}{pos:Oc}{Q:Mt->Mz->Prop}(I:Inv X a b H s)(f:Gl X x)(e:X.mg x=Mu)(c:O5 x=Mq u)(h:Q u s)(d:x≠"__name__":=by decide)(hd:(x==("__debug__":MR))=Mw:=by decide):wpAny (ML X.prog X.w) X.A (OB (.Name x pos) X.env) Q E s:=by
 obtain⟨j,i,g⟩:=I.mod.blt;exact Rk I.ok.kind f (Calls.loadGlobal_builtin (by rw[I.ok.glob];exact I.mod.glob.keeps I.bk) e (by rw[I.ok.blt];exact i.keeps I.bk) ((g x d).trans c) h) hd
theorem ze{x:MR}{v:V}{u:Mt}{pos:Oc}(b:Gl X x)(a:X.mg x=Mq u)(r:RelV v u)(hd:(x==("__debug__":MR))=Mw:=by decide):PE X (.Name x pos) (tC v):=λ_ _ _ H _ I h=>sE I b a ⟨v,H,I,r,h⟩ hd
variable{a b:MP}{ta tb:TE}{pos:Oc}
variable{tA tB':TT}{rest:List MP}
noncomputable def JB(t u:TT):TT:=λd H Q=>t d H λc e=>if c=Mv then u d e Q else Q Mw e
noncomputable def LP(t u:TT):TT:=λd H Q=>t d H λc e=>if c=Mv then Q Mv e else u d e Q
noncomputable def JC(t:TT):TT:=λd H Q=>t d H λc e=>Q (!c) e
theorem sF(ha:PT X a tA):PW X (.BoolOp .And [a] pos) tA:=by
 intro g d s f H Q I h;refine isTrue_and (a_ (ha d s f H Q I h) λc s1 e=>?_);cases c with
 |true=>exact isTrue_and_nil e|false=>exact e
theorem Ck(ha:PT X a tA):PW X (.BoolOp .Or [a] pos) tA:=by
 intro g d s f H Q I h;refine isTrue_or (a_ (ha d s f H Q I h) λc s1 e=>?_);cases c with
 |false=>exact isTrue_or_nil e|true=>exact e
theorem vN(ha:PT X a tA)(hb:PW X (.BoolOp .And (b::rest) pos) tB'):PW X (.BoolOp .And (a::b::rest) pos) (JB tA tB'):=by
 intro k d s f H Q I h;refine isTrue_and (a_ (ha d s f H _ I h) λc s1 e=>?_);obtain⟨j,i,g⟩:=e;cases c with
 |true=>exact hb k d s1 f j Q i g|false=>exact⟨j,i,g⟩
theorem F0(ha:PT X a tA)(hb:PW X (.BoolOp .Or (b::rest) pos) tB'):PW X (.BoolOp .Or (a::b::rest) pos) (LP tA tB'):=by
 intro k d s f H Q I h;refine isTrue_or (a_ (ha d s f H _ I h) λc s1 e=>?_);obtain⟨j,i,g⟩:=e;cases c with
 |true=>exact⟨j,i,g⟩|false=>exact hb k d s1 f j Q i g
theorem Cn(ha:PT X a tA):PT X (.UnaryOp .Not a pos) (JC tA):=by
 intro d s e H Q I h;exact isTrue_not (a_ (ha d s e H (λc g=>Q (!c) g) I h) λc j z=>by obtain⟨i,f,q⟩:=z;exact⟨i,f,q⟩)
noncomputable def F1(ta tb:TE):TE:=λd H Q=>ta d H λx e=>∃c,x=.bl c/\if c=Mv then tb d e Q else Q (.bl Mw) e
noncomputable def JD(ta tb:TE):TE:=λd H Q=>ta d H λx e=>∃c,x=.bl c/\if c=Mv then Q (.bl Mv) e else tb d e Q
noncomputable def F2(ta:TE):TE:=λd H Q=>ta d H λx e=>∃c,x=.bl c/\Q (.bl (!c)) e
theorem Co{op}{t:TE}(h:PE X a t):PE X (.BoolOp op [a] pos) t:=λc s d H Q I hw=>BoolOp_one (h c s d H Q I hw)
theorem Cp(ha:PE X a ta)(hb:PE X (.BoolOp .And (b::rest) pos) tb):PE X (.BoolOp .And (a::b::rest) pos) (F1 ta tb):=by
 intro d s g H Q I h;refine BoolOp_and (a_ (ha d s g H _ I h) λv s1 f=>?_);obtain⟨x,j,i,k,e⟩:=f;obtain⟨c,rfl,e⟩:=e;cases k;refine NH ?_;cases c with
 |true=>exact hb d s1 g j Q i e|false=>exact⟨.bl Mw,j,i,rfl,e⟩
theorem F3(ha:PE X a ta)(hb:PE X (.BoolOp .Or (b::rest) pos) tb):PE X (.BoolOp .Or (a::b::rest) pos) (JD ta tb):=by
 intro d s g H Q I h;refine BoolOp_or (a_ (ha d s g H _ I h) λv s1 f=>?_);obtain⟨x,j,i,k,e⟩:=f;obtain⟨c,rfl,e⟩:=e;cases k;refine NH ?_;cases c with
 |false=>exact hb d s1 g j Q i e|true=>exact⟨.bl Mv,j,i,rfl,e⟩
theorem Cq(ha:PE X a ta):PE X (.UnaryOp .Not a pos) (F2 ta):=by
 intro d s g H Q I h;refine UnaryOp_ (a_ (ha d s g H _ I h) λv s1 e=>?_);obtain⟨x,k,j,i,f⟩:=e;obtain⟨c,rfl,f⟩:=f;cases i;exact not_of (NH ⟨.bl (!c),k,j,rfl,f⟩)
noncomputable def LQ(t:TT)(ta tb:TE):TE:=λd H Q=>t d H λc e=>if c=Mv then ta d e Q else tb d e Q
theorem vO{c:MP}(l:PT X c tA)(ha:PE X a ta)(hb:PE X b tb):PE X (.IfExp c a b pos) (LQ tA ta tb):=by
 intro e s f H Q I h;refine wpAny_IfExp (a_ (l e s f H _ I h) λd s1 g=>?_);obtain⟨k,j,i⟩:=g;cases d with
 |true=>exact ha e s1 f k Q j i|false=>exact hb e s1 f k Q j i
end
end L2
namespace L2
open PySem PySem.Spec PyProof.Rows
noncomputable def dI(K:MF)(H:Hp)(a:MB)(xs:List V):Prop:=Rd H a (.lst xs)\/∃(o:NI)(b:Array Mt)(n:Nat),K.lookup a=Mq o/\o.cls=.type "list"/\o.dict=Mu/\o.data=.seq b n/\b.size<=MA/\au xs b.toList
noncomputable def iQ(K:MF)(H:Hp)(a:MB)(xs:List V):Prop:=Rd H a (.tup xs)\/∃(o:NI)(b:Array Mt)(n:Nat),K.lookup a=Mq o/\o.cls=.type "tuple"/\o.data=.seq b n/\b.size<=MA/\au xs b.toList
noncomputable def JE:Mt->Option V
 |.none=>Mq .bH|.bool b=>Mq (.bl b)|.int i _=>Mq (.int i)|.str x _=>Mq (.str x)|.bytes b _=>Mq (.Cc b)|.float b _=>Mq (.Jx b)|.ref a=>Mq (.ref a)|.type n=>Mq (.ty n)|_=>Mu
theorem RelV.abs{x:V}{u:Mt}(r:RelV x u):JE u=Mq x:=by cases x with
 |bH=>cases r;rfl|bl _=>cases r;rfl|int _=>obtain⟨t,rfl⟩:=r;rfl|str _=>obtain⟨t,rfl⟩:=r;rfl|Cc _=>obtain⟨t,rfl⟩:=r;rfl|Jx _=>obtain⟨t,rfl⟩:=r;rfl|ref _=>cases r;rfl|ty _=>cases r;rfl
theorem RelV.inj{x y:V}{u:Mt}(r:RelV x u)(q:RelV y u):x=y:=MD (r.abs.symm.trans q.abs)
theorem au.inj:∀{xs ys:List V}{us:List Mt},au xs us->au ys us->xs=ys
 |_,_,_,.nil,.nil=>rfl|_,_,_,.cons r t,.cons b a=>by rw[r.inj b,au.inj t a]
section
variable{X:Cx}{pins:List (MB×NI)}{σ:St}{H:Hp}{s:Mz}{a:MB}{xs ys:List V}
theorem dI.of{K:MF}(h:H a=Mq (.lst xs)):dI K H a xs:=.inl (.inl h)
theorem iQ.of{K:MF}(h:H a=Mq (.tup xs)):iQ K H a xs:=.inl (.inl h)
theorem Inv.list(I:Inv X pins σ H s)(h:dI X.K H a xs):∃b:List Mt,au xs b/\PlainL s.heap a b.toArray/\xs.length<=MA:=by
 rcases h with h|⟨o,b,n,d,f,hd,c,g,r⟩
 .obtain⟨z,b,n,r,e⟩:=h.ok I.aV;exact⟨b,r,⟨_,n,e,rfl,rfl,rfl⟩,z⟩
 .refine⟨b.toList,r,⟨o,n,I.zd a o d,f,hd,by simpa using c⟩,?_⟩;have e:=r.length;simp only[NQ]at e;omega
theorem Inv.tuple(I:Inv X pins σ H s)(h:iQ X.K H a xs):∃b:List Mt,au xs b/\S0 s.heap a b.toArray/\xs.length<=MA:=by
 rcases h with h|⟨o,b,n,d,f,c,g,r⟩
 .obtain⟨z,b,r,p⟩:=h.ok I.aV;exact⟨b,r,p,z⟩
 .refine⟨b.toList,r,⟨o,I.zd a o d,f,n,by simpa using c⟩,?_⟩;have e:=r.length;simp only[NQ]at e;omega
theorem Inv.vP(I:Inv X pins σ H s)(h:dI X.K H a xs)(h':dI X.K H a ys):xs=ys:=by
 obtain⟨c,r,⟨o,n,e,_,_,d⟩,_⟩:=I.list h;obtain⟨b,i,⟨k,l,f,_,_,g⟩,_⟩:=I.list h';rw[e]at f;cases f;rw[d]at g;injection g with j _;have:c=b:=by simpa using congrArg Array.toList j
 subst this;exact r.inj i
theorem Inv.uM(I:Inv X pins σ H s)(h:iQ X.K H a xs)(h':iQ X.K H a ys):xs=ys:=by
 obtain⟨c,r,⟨o,e,_,n,d⟩,_⟩:=I.tuple h;obtain⟨b,i,⟨k,f,_,l,g⟩,_⟩:=I.tuple h';rw[e]at f;cases f;rw[d]at g;injection g with j _;have:c=b:=by simpa using congrArg Array.toList j
 subst this;exact r.inj i
end
noncomputable abbrev Cx.lV(X:Cx)(E:Mt->Mz->Prop):Cx:={X with xe:=E}
noncomputable abbrev Cx.FA(X:Cx):Cx:=X.lV λ_ _=>False
theorem Cx.Ok.lV{X:Cx}(ok:X.Ok)(E:Mt->Mz->Prop):(X.lV E).Ok:=⟨ok.mod,ok.kind,ok.glob,ok.blt,ok.above,ok.inj,ok.has,ok.Fz,ok.hd,ok.frames,ok.FW,ok.Jz,ok.bs,ok.zc,ok.uK,ok.vM,ok.jE,ok.Ce⟩
theorem Cx.Ok.ft{X:Cx}{E:Mt->Mz->Prop}(ok:(X.lV E).Ok):X.Ok:=⟨ok.mod,ok.kind,ok.glob,ok.blt,ok.above,ok.inj,ok.has,ok.Fz,ok.hd,ok.frames,ok.FW,ok.Jz,ok.bs,ok.zc,ok.uK,ok.vM,ok.jE,ok.Ce⟩
section
variable{X:Cx}{pins:List (MB×NI)}{σ:St}{H:Hp}{s:Mz}{E:Mt->Mz->Prop}
theorem Inv.lV(I:Inv X pins σ H s)(E:Mt->Mz->Prop):Inv (X.lV E) pins σ H s:=⟨I.ok.lV E,I.os,I.bare,I.base,I.loc,I.cell,I.free,I.dh,I.pin,I.aV,I.len⟩
theorem Inv.ft(I:Inv (X.lV E) pins σ H s):Inv X pins σ H s:=⟨I.ok.ft,I.os,I.bare,I.base,I.loc,I.cell,I.free,I.dh,I.pin,I.aV,I.len⟩
theorem SP.ft{D:Ends}{f:Flow}{c:Mz}(h:SP (X.lV E) pins D f c):SP X pins D f c:=by cases f with
 |next=>obtain⟨a,b,I,q⟩:=h;exact⟨a,b,I.ft,q⟩|brk=>obtain⟨a,b,I,q⟩:=h;exact⟨a,b,I.ft,q⟩|cont=>obtain⟨a,b,I,q⟩:=h;exact⟨a,b,I.ft,q⟩|ret u=>obtain⟨v,a,b,I,r,q⟩:=h;exact⟨v,a,b,I.ft,r,q⟩
theorem oJ.FA{st:List Ou}{t:TS}(h:oJ X.FA st t):oJ X st t:=λpins s σ H D I hw=>Og (h pins s σ H D (I.lV _) hw) (λ_ _ q=>q.ft) λ_ _ z=>Oh z
end
section
variable{X:Cx}{st:Ou}{rest:List Ou}{t u:TS}{e:MP}{te:TE}{pos:Oc}
noncomputable def F4:TS:=λD a H=>D.nx a H
noncomputable def JF(t u:TS):TS:=λD a H=>t {D with nx:=u D} a H
theorem jM:oJ X [] F4:=λ_ _ a H _ I h=>Q6 ⟨a,H,I,h⟩
theorem bh(g:PS X st t)(d:oJ X rest u):oJ X (st::rest) (JF t u):=by
 intro a s c H D I h;refine wpAny_execs_cons (a_ (g a s c H {D with nx:=u D} I h) λf s1 q=>?_);cases f with
 |next=>
  obtain⟨b,j,i,q⟩:=q;exact d a s1 b j D i q|ret v=>exact q|brk=>exact q|cont=>exact q
theorem g_(c:PS X st t):oJ X [st] t:=by
 intro a s b H D I h;refine wpAny_execs_cons (a_ (c a s b H D I h) λf s1 q=>?_);cases f with
 |next=>exact Q6 q|ret v=>exact q|brk=>exact q|cont=>exact q
theorem Inv.quiet{a:List (MB×NI)}{b:St}{H:Hp}{s:Mz}(I:Inv X a b H s):interactive X.env=Mw:=by simp[interactive,I.ok.kind]
noncomputable def F5(te:TE):TS:=λD a H=>te a H λ_ b=>D.nx a b
theorem nB(f:PE X e te)(d:Py e Mu pos.line X.env=pure Mw:=by rfl):PS X (.Expr e pos) (F5 te):=by
 intro a s b H D I h;exact wpAny_Expr_any (a_ (f a s b H _ I h) λv s1⟨x,i,g,j,c⟩=>⟨b,i,g,c⟩) I.quiet d
noncomputable def JG(te:TE):TS:=λD a H=>te a H D.rt
theorem gC(f:PE X e te):PS X (.Return (Mq e) pos) (JG te):=by
 intro a s b H D I h;exact wpAny_Return_some (a_ (f a s b H _ I h) λv s1⟨x,i,g,c,d⟩=>⟨x,b,i,g,c,d⟩)
noncomputable def JH(c:TT)(t u:TS):TS:=λD a H=>c a H λb d=>if b=Mv then t D a d else u D a d
theorem sG{c:MP}{a b:List Ou}{tc:TT}(m:PT X c tc)(ha:oJ X a t)(hb:oJ X b u):PS X (.If c a b pos) (JH tc t u):=by
 intro f s g H D I h;refine wpAny_If (a_ (m f s g H _ I h) λd s1 i=>?_);obtain⟨l,k,j⟩:=i;cases d with
 |true=>exact ha f s1 g l D k j|false=>exact hb f s1 g l D k j
end
abbrev TG:=V->St->Hp->(St->Hp->Prop)->Prop
abbrev zf:=List V->St->Hp->(St->Hp->Prop)->Prop
noncomputable def PG(X:Cx)(a:MP)(t:TG):Prop:=∀(b:List (MB×NI))(s:Mz)(d:St)(H:Hp)(v:V)(u:Mt)(Q:St->Hp->Prop),Inv X b d H s->RelV v u->t v d H Q->wpAny (ML X.prog X.w) X.A (Rl a X.env u) (λ_ f=>∃c e,Inv X b c e f/\Q c e) X.xe s
noncomputable def Br(X:Cx)(g:List MP)(t:zf):Prop:=∀(a:List (MB×NI))(s:Mz)(c:St)(H:Hp)(d:List V)(e:List Mt)(Q:St->Hp->Prop),Inv X a c H s->au d e->t d c H Q->wpAny (ML X.prog X.w) X.A (RI ((NJ g X.env).map (·.2)) e) (λ_ h=>∃b f,Inv X a b f h/\Q b f) X.xe s
abbrev Cr:=V->V->V->Hp->(Hp->Prop)->Prop
noncomputable def F6(X:Cx)(t:Cr):Prop:=∀(a:List (MB×NI))(s:Mz)(b:St)(H:Hp)(o i v:V)(c iv u:Mt)(Q:Hp->Prop),Inv X a b H s->RelV o c->RelV i iv->RelV v u->t o i v H Q->wpAny (ML X.prog X.w) X.A (setItem c iv u) (λ_ e=>∃d,Inv X a b d e/\Q d) X.xe s
section
variable{X:Cx}{pos:Oc}
noncomputable def mh(i:Nat):TG:=λv a H Q=>Q (a.set i (Mq v)) H
theorem nE{i:Nat}{x:MR}(hN:X.N.Nodup)(c:X.N[i]?=Mq x)(b:Loc X.env.scope x)(d:X.fn x=Mv\/X.env.scope.names.lookup x=Mq .local:=by first|exact .inl rfl|exact .inr rfl|assumption):PG X (.Name x pos) (mh i):=by
 intro a s f H v u Q I r h;exact wpAny_assign_Name (g9 I hN c b r (λg e=>⟨_,H,e,h⟩) d)
noncomputable def JI:zf:=λb a H Q=>b=[]/\Q a H
noncomputable def F7(t:TG)(u:zf):zf:=λc b H Q=>∃v r,c=v::r/\t v b H λa d=>u r a d Q
theorem zg:Br X [] JI:=by
 intro a s b H c d Q I r h;obtain⟨e,h⟩:=h;subst e;cases r;exact TZ ⟨b,H,I,h⟩
theorem vQ{e:MP}{b:List MP}{t:TG}{u:zf}(l:PG X e t)(k:Br X b u)(j:(NJ (e::b) X.env).map (·.2)=Rl e X.env::(NJ b X.env).map (·.2):=by rfl):Br X (e::b) (F7 t u):=by
 intro a s f H p w Q I r h;obtain⟨v,q,m,h⟩:=h;subst m;cases r with|cons r g=>
  rw[j];refine Rm (a_ (l a s f H _ _ _ I r h) λ_ s1 d=>?_);obtain⟨c,o,n,i⟩:=d;exact k a s1 c o _ _ Q n g i
noncomputable def JJ(K:MF)(n:Nat)(t:zf):TG:=λv c H Q=>∃a b,v=.ref a/\iQ K H a b/\b.length=n/\t b c H Q
theorem Cs{d:List MP}{k:Nat}{t:zf}{n:Nat}(z:X.calm=Mv)(h:Br X d t)(x:(NJ d X.env).length=n:=by rfl)(f:(NJ d X.env).findIdx? (·.1)=Mu:=by rfl):PG X (.Tuple d k pos) (JJ X.K n t):=by
 intro c s g H v u Q I r hw;obtain⟨a,l,B,w,y,hw⟩:=hw;subst B;cases r;obtain⟨m,i,q,D⟩:=I.tuple w;refine assign_Tuple_tuple (I.ok.hd z) q (by simp[x,<-y,i.length]) f λA p=>?_;have C:Inv X c g H {s with heap:=A}:=I.kept (t':=s.toks) λb o e=>p b o (M3 (MM e)) e;exact h c _ g H l _ Q C (by simpa using i) hw
noncomputable def JK(to ti:TE)(t:Cr):TG:=λv a H Q=>to a H λo d=>ti a d λi c=>t o i v c λb=>Q a b
theorem qO{o i:MP}{to ti:TE}{t:Cr}(m:PE X o to)(n:PE X i ti)(l:F6 X t)(ha:∀v,Rl (.Subscript o i pos) X.env v=(do
   let c<-QQ [v] (OB o X.env)let iv<-QQ [v,c] (OB i X.env)RA pos;QQ [v,c,iv] (setItem c iv v)release [v,c,iv] []):=by intro _;rfl):PG X (.Subscript o i pos) (JK to ti t):=by
 intro b s d H v u Q I r h;rw[ha];refine Ms (Na (a_ (m b s d H _ I h) λc s1 a=>?_));obtain⟨x,B,w,f,k⟩:=a;refine Ms (Na (a_ (n b s1 d B _ w k) λiv s2 a=>?_));obtain⟨y,A,q,e,j⟩:=a;refine Ms (Pz (Ms (Na (a_ (l b s2 d A x y v c iv u _ q f e r j) λ_ C a=>?_))));obtain⟨z,p,g⟩:=a;exact wpAny_release ⟨d,z,p,g⟩
noncomputable def Ct(te:TE)(g:TG):TS:=λD a H=>te a H λx b=>g x a b D.nx
theorem nF{tg e:MP}{te:TE}{g:TG}(j:PE X e te)(i:PG X tg g)(f:RJ [tg] e pos.line X.env=pure Mw:=by rfl)(hw:Ox [tg] e X.env=pure Mu:=by rfl)(k:(NJ [tg] X.env).map (·.2)=[Rl tg X.env]:=by rfl):PS X (.Assign [tg] e pos) (Ct te g):=by
 intro a s b H D I h;refine wpAny_Assign_stores (a_ (j a s b H _ I h) λv s1⟨x,m,l,c,d⟩=>?_) f hw;rw[k];exact a_ (i a s1 b m x v _ l c d) λ_ s2 q=>q
theorem cM{i:Nat}{x:MR}{e:MP}{te:TE}{a:Oc}(hN:X.N.Nodup)(k:X.N[i]?=Mq x)(g:Loc X.env.scope x)(m:PE X e te)(j:Py e (Mq (.Name x a)) pos.line X.env=pure Mw:=by rfl)(l:X.fn x=Mv\/X.env.scope.names.lookup x=Mq .local:=by first|exact .inl rfl|exact .inr rfl|assumption):PS X (.Assign [.Name x a] e pos) (Ct te (mh i)):=by
 intro b s c H D I h;refine wpAny_Assign_Name (a_ (m b s c H _ I h) λv s1⟨y,p,o,d,f⟩=>?_) j;exact g9 o hN k g d (λs2 n=>⟨_,p,n,f⟩) l
noncomputable def F8(i j:Nat)(c:TA):TS:=λD a H=>c a H λb d=>∃v w,b=[v,w]/\D.nx ((a.set i (Mq v)).set j (Mq w)) d
theorem Cu{i j:Nat}{x y:MR}{a b:MP}{z:TA}{n m pt:Oc}{kt k2 pt2}(T:X.calm=Mv)(hN:X.N.Nodup)(S:X.N[i]?=Mq x)(R:X.N[j]?=Mq y)(t:i≠j)(C:X.env.scope.names.lookup x=Mq .local)(B:X.env.scope.names.lookup y=Mq .local)(ha:PA X [a,b] z)(hw:Ox [.Tuple [.Name x n,.Name y m] kt pt] (.Tuple [a,b] k2 pt2) X.env=pure (Mq [x,y]))(Q:RJ [.Tuple [.Name x n,.Name y m] kt pt] (.Tuple [a,b] k2 pt2) pos.line X.env=pure Mw:=by rfl):PS X (.Assign [.Tuple [.Name x n,.Name y m] kt pt] (.Tuple [a,b] k2 pt2) pos) (F8 i j z):=by
 intro c s u H D I h;rw[exec_Assign_arm];refine Ms (Pz ?_);rw[Q];refine Ms (Mx ?_);rw[if_neg (by decide)];refine Ms (Tuple_ (a_ (ha _ c s u H _ I h) λK s1 g=>?_));obtain⟨vs,J,I1,M,l⟩:=g;obtain⟨v,w,U,l⟩:=l;subst U;obtain⟨f,d,rfl,L,k⟩:∃f d,K=[f,d]/\RelV v f/\RelV w d:=by cases M with|cons p q=>cases q with|cons P O=>
    cases O;exact⟨_,_,rfl,p,P⟩
 refine Nl ?_ (by show 2<=MA;decide);have Z:Inv X c u J {s1 with heap:=s1.heap.push {cls:=.type "tuple",data:=.seq [f,d].toArray}}:=I1.kept (t':=s1.toks) λb o e=>My _ e;rw[hw];refine Ms (Mx ?_);show wpAny (ML X.prog X.w) X.A (do RS "assign.swapped-stores";let items<-unpackItems (.ref s1.heap.objs.size) 2 Mu;RI [λv=>Uy X.env y v,λv=>Uy X.env x v] items.reverse;pure Flow.next) _ _ _;refine Ms (OF (Ms (unpackItems_tuple (items:=#[f,d]) (I.ok.hd T) (Ud s1.heap _) λh' r=>?_)));have Y:=Z.kept (h':=h') (t':=s1.toks) λb o e=>r b o (M3 (MM e)) e;show wpAny _ _ (RI [λv=>Uy X.env y v,λv=>Uy X.env x v] [d,f]>>=λ_=>pure Flow.next) _ _ _;refine Ms (Rm (wpAny_bindName (g9 Y hN R (.inl B) k (λs2 W=>?_) (.inr B))));refine Rm (wpAny_bindName (g9 W hN S (.inl C) L (λs3 G=>TZ (Mx ?_)) (.inr C)));rw[List.set_comm _ _ (Nj t)]at G;exact⟨_,J,G,l⟩
end
section
variable{X:Cx}{pos:Oc}
noncomputable def Cv(c:TT)(h:TS):TS:=λD a H=>∃W:Nat->St->Hp->Prop,(∃m,W m a H)/\∀m a H,W m a H->c a H λb f=>if b=Mv then∃N:St->Hp->Prop,(∀d g,N d g->∃e,e<m/\W e d g)/\h {D with nx:=N,ct:=N,bk:=D.nx} a f else D.nx a f
theorem vR{c:MP}{body:List Ou}{tc:TT}{t:TS}(u:RT (ML X.prog X.w) X.A X.env X.xe)(K:PT X c tc)(hb:oJ X body t):PS X (.While c body [] pos) (Cv tc t):=by
 intro d s C H D I h;obtain⟨W,⟨J,F⟩,i⟩:=h;refine wpAny_While (codeAny_whileLoop (λn G=>∃g B,Inv X d g B G/\W n g B) ?_ J ⟨C,H,I,F⟩);rintro n s1⟨e,z,L,E⟩;refine O0 u (a_ (K d s1 e z _ L (i n e z E)) λb s2 m=>?_);obtain⟨y,x,l⟩:=m;cases b with
 |true=>
  obtain⟨N,hN,l⟩:=l;rw[if_pos rfl];refine O0 u (a_ (hb d s2 e y _ x l) λf M k=>?_);cases f with
  |next=>
   obtain⟨a,j,r,n3⟩:=k;obtain⟨p,q,o⟩:=hN a j n3;exact⟨p,q,a,j,r,o⟩|cont=>
   obtain⟨a,j,r,n3⟩:=k;obtain⟨p,q,o⟩:=hN a j n3;exact⟨p,q,a,j,r,o⟩|brk=>exact k|ret v=>exact k
 |false=>
  rw[if_neg Nu];exact Q6 ⟨e,y,x,l⟩
end
structure It where
 go:Nat->Hp->Prop
 IY:Nat->Hp->V->Hp->Prop
 stop:Nat->Hp->Prop
noncomputable def dY(X:Cx)(a:List (MB×NI))(H:Hp)(b:MB):Prop:=H b=Mu/\b≠X.env.locals/\b∉X.fs/\(b∈X.ex\/X.cc.heap.objs.size<=b)/\(∀x c,X.env.cells.lookup x=Mq c->c≠b)/\∀p∈X.pn++a,p.1≠b
theorem Inv.Cw{X:Cx}{a:List (MB×NI)}{d:St}{H H':Hp}{s:Mz}{b:MB}(I:Inv X a d H s)(hb:s.heap.objs.size<=b)(g:H' b=Mu):dY X a H' b:=by
 refine⟨g,Oy (MU I.lt hb),I.Cf hb,.inr (Nv I.sz hb),λx c e z=>?_,λp f z=>?_⟩
 .obtain⟨v,q⟩:=I.cell x c e;exact absurd (MU q.lt (by rw[z];exact hb)) (Nx _)
 .exact absurd (MU (MM (I.pin p f).1) (by rw[z];exact hb)) (Nx _)
structure Turn(P:MQ)(w:M6)(K:MF)(tg:MP)(J:It)(fp:List MB)(it:MB)(tn:Nat->M7->Prop):Prop where
 mem:it∈fp
 obj:∀i h,tn i h->∀b∈fp,∃o,h.get? b=Mq o/\∀v,o.data≠.cell v
 keep:∀i h h',tn i h->(∀b∈fp,∀o,h.get? b=Mq o->h'.get? b=Mq o)->tn i h'
 item:∀(X:Cx),X.prog=P->X.w=w->X.K=K->X.calm=Mv->∀(i:Nat)(pins:List (MB×NI))(s:Mz)(σ:St)(H:Hp)(E:Mt->Mz->Prop),Inv X pins σ H s->(∀b∈fp,dY X pins H b)->tn i s.heap->J.go i H->wpAny (ML P w) X.A (OS (.ref it)) (λr s1=>∃u,r=Mq u/\wpAny (ML P w) X.A (Pt tg (.ref it) u) (λ_ s2=>∃x H',Inv X pins σ H' s2/\RelV x u/\J.IY i H x H'/\tn (i+1) s2.heap/\∀b∈fp,H' b=Mu) E s1) E s
 done:∀(X:Cx),X.prog=P->X.w=w->X.K=K->X.calm=Mv->∀(i:Nat)(pins:List (MB×NI))(s:Mz)(σ:St)(H:Hp)(E:Mt->Mz->Prop),Inv X pins σ H s->(∀b∈fp,dY X pins H b)->tn i s.heap->J.stop i H->wpAny (ML P w) X.A (OS (.ref it)) (λr s1=>r=Mu/\Inv X pins σ H s1) E s
 self:∀(A:Nf)(i:Nat)(s:Mz)(Q:Mt->Mz->Prop)(E:Mt->Mz->Prop),tn i s.heap->Q (.ref it) s->wpAny (ML P w) A (Ue (.ref it)) Q E s
abbrev TI:=St->Hp->(It->Hp->Prop)->Prop
noncomputable def Lq(X:Cx)(a:List (MB×NI))(h:St)(tg:MP)(R:It->Hp->Prop)(c:Mt)(s2:Mz):Prop:=∃(f:MB)(g:List MB)(e:Nat->M7->Prop)(J:It)(d:Hp),c=.ref f/\Inv X a h d s2/\Turn X.prog X.w X.K tg J g f e/\e 0 s2.heap/\(∀b∈g,dY X a d b)/\R J d
noncomputable def PI(X:Cx)(tg iter:MP)(wi:TI):Prop:=∀(a:List (MB×NI))(s:Mz)(b:St)(H:Hp)(R:It->Hp->Prop),Inv X a b H s->wi b H R->wpAny (ML X.prog X.w) X.A (OB iter X.env) (λv s1=>wpAny (ML X.prog X.w) X.A (Ue v) (Lq X a b tg R) X.xe s1) X.xe s
theorem oS{M:Uh}{A:Nf}{E:Mt->Mz->Prop}{s:Mz}{tg:MP}{it:MB}{u:Mt}{o:NI}{n:String}{b:Array Mt}{Q:Unit->Mz->Prop}(c:s.heap.get? it=Mq o)(e:o.cls=.type n)(hd:o.data=.fields b)(d:["enumerate","zip","dict_itemiterator","dict_reverseitemiterator","odict_iterator","itertools.zip_longest","itertools.pairwise"].contains n=Mw)(a:Q () s):wpAny M A (Pt tg (.ref it) u) Q E s:=by
  unfold Pt;cases tg<;>first
    |exact Mx a|(cases u<;>first
        |exact Mx a
        | (refine Ms (wpAny_load c ?_);rw[e,hd];show wpAny M A (if(["enumerate","zip","dict_itemiterator","dict_reverseitemiterator","odict_iterator","itertools.zip_longest","itertools.pairwise"].contains n&&b[0]?==Mq (Qo _))=Mv then _ else _) Q E s;rw[if_neg (by intro h;rw[d,Bool.false_and]at h;cases h)];exact Mx a))
noncomputable def Lr(K:MF)(a:MB):It:=⟨λi H=>∃b x,dI K H a b/\b[i]?=Mq x,λi H x c=>c=H/\∀b,dI K H a b->b[i]?=Mq x,λi H=>∃b,dI K H a b/\b.length<=i⟩
noncomputable def Lu(K:MF)(a:MB):It:=⟨λi H=>∃b x,iQ K H a b/\b[i]?=Mq x,λi H x c=>c=H/\∀b,iQ K H a b->b[i]?=Mq x,λi H=>∃b,iQ K H a b/\b.length<=i⟩
noncomputable def JL(lo:Int)(n:Nat):It:=⟨λi _=>i<n,λi H x a=>a=H/\x=.int (lo+i),λi _=>n<=i⟩
theorem uN{P:MQ}{w:M6}{K:MF}{tg:MP}(a it:MB):Turn P w K tg (Lr K a) [it] it (λi h=>h.IsListIter it a i)where
 mem:=by simp
 obj:=λi h st b hb=>by
  have e:b=it:=by simpa using hb
  subst e;obtain⟨o,e,c,d⟩:=st;exact⟨o,e,λv z=>by rw[d]at z;cases z⟩
 keep:=λi h n st k=>st.at λo e=>k it (by simp) o e;item:=by
  intro X hP hw hK J i f s G H E I m st y;subst hP hw hK;obtain⟨L,x,l,t⟩:=y;obtain⟨r,q,p,O⟩:=I.list l;obtain⟨u,hu,N⟩:=q.get t;obtain⟨F,D,R,C,B,A⟩:=m it (by simp);refine Sg st p.isList (x:=u) (by simpa using hu) λn g M=>?_;have T:Inv X f G H {s with heap:=n}:=I.turned (t':=s.toks) (λb o hb e=>(M.2 b hb).trans e) F D C B A;obtain⟨o,e,c,d⟩:=id g;exact⟨u,rfl,oS (s:={s with heap:=n}) e c d (by decide) ⟨x,H,T,N,⟨rfl,λU Q=>by rw[I.vP Q l];exact t⟩,g,λb hb=>(m b hb).1⟩⟩
 done:=by
  intro X hP hw hK J i f s G H E I m st y;subst hP hw hK;obtain⟨L,l,t⟩:=y;obtain⟨r,q,p,O⟩:=I.list l;obtain⟨F,D,R,C,B,A⟩:=m it (by simp);have V:=q.length;exact SO (I.ok.hd J) st p.isList (by simp;omega) λn S=>⟨rfl,I.turned (t':=s.toks) (λb o hb e=>S b o hb e) F D C B A⟩
 self:=λ_ _ _ _ _ st h=>wpAny_pyIter_listiter st h
theorem qP{P:MQ}{w:M6}{K:MF}{tg:MP}(a it:MB):Turn P w K tg (Lu K a) [it] it (λi h=>h.IsTupleIter it a i)where
 mem:=by simp
 obj:=λi h st b hb=>by
  have e:b=it:=by simpa using hb
  subst e;obtain⟨o,e,c,d⟩:=st;exact⟨o,e,λv z=>by rw[d]at z;cases z⟩
 keep:=λi h q st k=>st.at λo e=>k it (by simp) o e;item:=by
  intro X hP hw hK J i f s G H E I n st y;subst hP hw hK;obtain⟨L,x,m,t⟩:=y;obtain⟨g,r,p,O⟩:=I.tuple m;obtain⟨u,hu,N⟩:=r.get t;obtain⟨F,D,R,C,B,A⟩:=n it (by simp);refine wpAny_pyNext_tuple_item st (show s.heap.IsTuple a g.toArray from p) (x:=u) (by simpa using hu) λq j M=>?_;have T:Inv X f G H {s with heap:=q}:=I.turned (t':=s.toks) (λb o hb e=>(M.2 b hb).trans e) F D C B A;obtain⟨o,e,c,d⟩:=id j;exact⟨u,rfl,oS (s:={s with heap:=q}) e c d (by decide) ⟨x,H,T,N,⟨rfl,λU Q=>by rw[I.uM Q m];exact t⟩,j,λb hb=>(n b hb).1⟩⟩
 done:=by
  intro X hP hw hK J i f s G H E I n st y;subst hP hw hK;obtain⟨L,m,t⟩:=y;obtain⟨g,r,p,O⟩:=I.tuple m;obtain⟨F,D,R,C,B,A⟩:=n it (by simp);have V:=r.length;exact wpAny_pyNext_tuple_end (I.ok.hd J) st (show s.heap.IsTuple a g.toArray from p) (by simp;omega) λq S=>⟨rfl,I.turned (t':=s.toks) (λb o hb e=>S b o hb e) F D C B A⟩
 self:=λ_ _ _ _ _ st h=>wpAny_pyIter_tupleiter st h
theorem qQ{P:MQ}{w:M6}{K:MF}{tg:MP}(it:MB)(lo:Int)(n:Nat):Turn P w K tg (JL lo n) [it] it (λi h=>IsRangeIter h it (lo+(i:Nat)*1) ((n:Int)-(i:Nat)) 1)where
 mem:=by simp
 obj:=λi h st b hb=>by
  have e:b=it:=by simpa using hb
  subst e;exact⟨_,st,λv z=>by
   have B:Data.fields _=Data.cell v:=z;cases B⟩
 keep:=λi h j st k=>k it (by simp) _ st;item:=by
  intro X hP hw hK m i a s y H E I g st l;subst hP hw hK;obtain⟨x,u,F,r,q,p⟩:=g it (by simp);have W:=Walks.range (prog:=X.prog) (w:=X.w) (I.ok.hd m) it lo 1 n;refine W.item i s _ _ l st λv j A D d C=>?_;obtain⟨t,rfl⟩:=D;have J:Inv X a y H {s with heap:=j,toks:=A}:=I.turned (λb o hb e=>C b o (by simpa using hb) e) x u r q p;refine⟨_,rfl,oS (s:={s with heap:=j,toks:=A}) (n:="range_iterator") d rfl rfl (by decide) ⟨.int (lo+i),H,J,⟨t,?_⟩,⟨rfl,rfl⟩,d,λb hb=>(g b hb).1⟩⟩;rw[Int.mul_one]
 done:=by
  intro X hP hw hK m i a s y H E I g st l;subst hP hw hK;obtain⟨x,u,F,r,q,p⟩:=g it (by simp);exact wpAny_pyNext_range_end (I.ok.hd m) st (by have:n<=i:=l;omega) λj G=>⟨rfl,I.turned (t':=s.toks) (λb o hb e=>G b o hb e) x u r q p⟩
 self:=λ_ _ _ _ _ st h=>wpAny_pyIter_rangeiter st h
end L2
namespace L2
open PySem PySem.Spec PyProof.Rows
section
variable{X:Cx}{tg:MP}
theorem vS{d:List (MB×NI)}{i:St}{H:Hp}{s:Mz}{R:It->Hp->Prop}{E:Mt->Mz->Prop}{lo c:Int}{t u v:UJ}{j:Nat}(I:Inv X d i H s)(p:-(2^62)<=lo)(n:lo<2^62)(m:-(2^62)<=c)(l:c<2^62)(q:R (JL lo (c-lo).toNat) H):wpAny (ML X.prog X.w) X.A (Ue (.ref s.heap.objs.size)) (Lq X d i tg R) E {s with heap:=s.heap.push {cls:=.type "range",data:=.fields #[.int lo t,.int c u,.int 1 v]},toks:=j}:=by
 refine wpAny_pyIter_range (IsRange.new ..) (small_one p n m l) ?_;have k:Inv X d i H {s with heap:=s.heap.push {cls:=.type "range",data:=.fields #[.int lo t,.int c u,.int 1 v]},toks:=j}:=I.kept λb o e=>My _ e;refine⟨(s.heap.push {cls:=.type "range",data:=.fields #[.int lo t,.int c u,.int 1 v]}).objs.size,[(s.heap.push {cls:=.type "range",data:=.fields #[.int lo t,.int c u,.int 1 v]}).objs.size],_,_,H,rfl,k.kept (t':=j) λb o e=>My _ e,qQ _ lo (c-lo).toNat,?_,λb hb=>?_,q⟩
 .have x:lo+((0:Nat):Int)*1=lo:=by simp
  have r:(((c-lo).toNat:Nat):Int)-((0:Nat):Int)=RU lo c 1:=by rw[rangeSize_one];split<;>omega
  show IsRangeIter _ _ (lo+((0:Nat):Int)*1) ((((c-lo).toNat:Nat):Int)-((0:Nat):Int)) 1;rw[x,r];exact MK _ rfl
 .have e:b=(s.heap.push {cls:=.type "range",data:=.fields #[.int lo t,.int c u,.int 1 v]}).objs.size:=by simpa using hb
  subst e;exact k.Cw (MO _) (k.aV.fresh (MO _))
noncomputable def F9(c:TA):TI:=λa H R=>c a H λb d=>∃j:Int,b=[.int j]/\-(2^62)<=j/\j<2^62/\R (JL 0 j.toNat) d
theorem uO{a:MP}{d:TA}{p pos:Oc}(n:Gl X "range")(m:X.mg "range"=Mu)(ha:PA X [a] d)(l:MX [a] X.env=[(Mw,OB a X.env)]:=by rfl):PI X tg (.Call (.Name "range" p) [a] [] pos) (F9 d):=by
 intro b s f H R I h;refine Call_ (fm I n m boot_range (NT (a_ (ha pos b s f H _ I h) λv s1⟨u,w,o,i,c⟩=>?_) l rfl));obtain⟨j,e,c,k,q⟩:=c;subst e;cases i with|cons r g=>
  cases g;obtain⟨t,rfl⟩:=r;exact call_range_1 (vS o (by omega) (by omega) c k (by simpa using q))
noncomputable def JM(wi:TI)(g:TG)(f:TS):TS:=λD a H=>wi a H λJ j=>∃W:Nat->Nat->St->Hp->Prop,(∃m,W 0 m a j)/\∀i m a H,W i m a H->(J.stop i H/\D.nx a H)\/(J.go i H/\∃N:St->Hp->Prop,(∀b c,N b c->∃e,e<m/\W (i+1) e b c)/\∀x c,J.IY i H x c->g x a c λd h=>f {D with nx:=N,ct:=N,bk:=D.nx} d h)
noncomputable def eI(fp:List MB)(h:M7):List (MB×NI):=fp.filterMap λb=>(h.get? b).map λo=>(b,o)
theorem eJ{fp:List MB}{h:M7}{b:MB}{o:NI}(hb:b∈fp)(e:h.get? b=Mq o):(b,o)∈eI fp h:=List.mem_filterMap.mpr ⟨b,hb,by rw[e];rfl⟩
theorem mi{fp:List MB}{h:M7}{p:MB×NI}(a:p∈eI fp h):p.1∈fp/\h.get? p.1=Mq p.2:=by
 obtain⟨b,hb,e⟩:=List.mem_filterMap.mp a;cases q:h.get? b with
 |none=>rw[q]at e;cases e|some o=>
  rw[q]at e;have c:(b,o)=p:=MD e;subst c;exact⟨hb,q⟩
theorem Inv.pinned{a:List (MB×NI)}{c:St}{H:Hp}{s:Mz}{fp:List MB}(I:Inv X a c H s)(i:∀b∈fp,dY X a H b)(h:∀b∈fp,∃o,s.heap.get? b=Mq o/\∀v,o.data≠.cell v):Inv X (a++eI fp s.heap) c H s:=I.eG λp g=>(List.mem_append.mp g).elim (λz=>I.pin p (MW _ z)) λz=>by
  obtain⟨hb,e⟩:=mi z;obtain⟨l,k,j,_⟩:=i p.1 hb;obtain⟨o,f,d⟩:=h p.1 hb;rw[e]at f;cases f;exact⟨e,l,k,j,d⟩
theorem Inv.hJ{a pl:List (MB×NI)}{b:St}{H:Hp}{s:Mz}(I:Inv X (a++pl) b H s):Inv X a b H s:=I.eG λp c=>I.pin p (MW _ (Oz _ c))
theorem Cy{iter:MP}{body:List Ou}{wi:TI}{g:TG}{Y:TS}{pos:Oc}(G:RT (ML X.prog X.w) X.A X.env X.xe)(hc:X.calm=Mv)(hi:PI X tg iter wi)(hg:PG X tg g)(hb:oJ X body Y)(hs:∀x,OE iter X.env x=pure x:=by intro _;rfl):PS X (.For tg iter body [] pos) (JM wi g Y):=by
 intro c s U H D I h;refine wpAny_For (a_ (hi c s U H _ I h) λv s1 h1=>a_ h1 λa0 s2 h2=>?_) hs;obtain⟨it,L,V,J,H2,e,I2,T,ba,f2,W,⟨m0,w0⟩,C⟩:=h2;subst e;have p:∀{y:Hp},(∀b∈L,y b=Mu)->∀b∈L,dY X c y b:=λhn b hb=>⟨hn b hb,(f2 b hb).2⟩;refine codeAny_forLoop_any (λn s'=>∃i l y,Inv X c l y s'/\V i s'.heap/\(∀b∈L,y b=Mu)/\W i n l y) ?_ m0 ⟨0,U,H2,I2,ba,λb hb=>(f2 b hb).1,w0⟩;rintro n s3⟨i,k,M,I3,E,K,w3⟩;rcases C i n k M w3 with⟨stop,qn⟩|⟨go,N,hN,step⟩
 .refine O0 G (a_ (T.done X rfl rfl rfl hc i c s3 k M X.xe I3 (p K) E stop) λr s4 j=>?_);obtain⟨Q,I4⟩:=j;subst Q;exact Q6 ⟨k,M,I4,qn⟩
 .refine O0 G (a_ (T.item X rfl rfl rfl hc i c s3 k M X.xe I3 (p K) E go) λr s4 j=>?_);obtain⟨u,Q,h4⟩:=j;subst Q;refine O0 G (a_ h4 λ_ Z j=>?_);obtain⟨x,H5,I5,r5,y5,B,R⟩:=j;have S:=I5.pinned (p R) (T.obj _ _ B);refine O0 G (a_ (hg _ Z k H5 x u _ S r5 (step x H5 y5)) λ_ s6 j=>?_);obtain⟨O,H6,I6,q6⟩:=j;refine O0 G (a_ (hb _ s6 O H6 _ I6 q6) λf P z=>?_);have UK:∀{a:St}{t:Hp},Inv X (c++eI L Z.heap) a t P->N a t->∃m,m<n/\∃i l y,Inv X c l y P/\V i P.heap/\(∀b∈L,y b=Mu)/\W i m l y:=λ{a t}q F=>by
   obtain⟨m',hm,w7⟩:=hN a t F;refine⟨m',hm,i+1,a,t,q.hJ,T.keep _ _ _ B λb hb o e=>(q.pin (b,o) (MW _ (MW _ (eJ hb e)))).1,λb hb=>?_,w7⟩;obtain⟨o,e,d⟩:=T.obj _ _ B b hb;exact(q.pin (b,o) (MW _ (MW _ (eJ hb e)))).2.1
  cases f with
  |next=>obtain⟨a,t,q,F⟩:=z;exact UK q F|cont=>obtain⟨a,t,q,F⟩:=z;exact UK q F|brk=>obtain⟨a,t,q,z⟩:=z;exact⟨a,t,q.hJ,z⟩|ret v=>obtain⟨x7,a,t,q,r7,z⟩:=z;exact⟨x7,a,t,q.hJ,r7,z⟩
end
end L2
namespace L2
open PySem PySem.Spec PyProof.Rows
abbrev R2:=V->V->Hp->VK->Prop
noncomputable def jq(X:Cx)(f:Mt->Mt->Rw Mt)(r:R2):Prop:=∀(a:List (MB×NI))(s:Mz)(b:St)(H:Hp)(x y:V)(v u:Mt)(Q:VK),Inv X a b H s->RelV x v->RelV y u->r x y H Q->wpAny (ML X.prog X.w) X.A (f v u) (EP X a b Q) X.xe s
noncomputable def JN(X:Cx)(f:Mt->Rw Mt)(r:V->Hp->VK->Prop):Prop:=∀(a:List (MB×NI))(s:Mz)(b:St)(H:Hp)(x:V)(v:Mt)(Q:VK),Inv X a b H s->RelV x v->r x H Q->wpAny (ML X.prog X.w) X.A (f v) (EP X a b Q) X.xe s
noncomputable def dA(X:Cx)(f:Mt)(r:List V->Hp->VK->Prop):Prop:=∀(a:List (MB×NI))(s:Mz)(b:St)(H:Hp)(c:List V)(d:List Mt)(Q:VK),Inv X a b H s->au c d->r c H Q->wpAny (ML X.prog X.w) X.A (call f d) (EP X a b Q) X.xe s
noncomputable def JO(X:Cx)(r:V->Hp->(Bool->Hp->Prop)->Prop):Prop:=∀(a:List (MB×NI))(s:Mz)(b:St)(H:Hp)(x:V)(v:Mt)(Q:Bool->Hp->Prop),Inv X a b H s->RelV x v->r x H Q->wpAny (ML X.prog X.w) X.A (truthy v) (TP X a b Q) X.xe s
noncomputable def F_(r:R2)(c b:TE):TE:=λa H Q=>c a H λx e=>b a e λy d=>r x y d Q
noncomputable def LR(r:V->Hp->VK->Prop)(b:TE):TE:=λa H Q=>b a H λx c=>r x c Q
noncomputable def rI(C:Int->Int->Prop)(g:Int->Int->V):R2:=λx y H Q=>∃i j,x=.int i/\y=.int j/\C i j/\Q (g i j) H
noncomputable def Bt(g:Int->Int->V):R2:=λx y H Q=>∃i j,x=.int i/\y=.int j/\Q (g i j) H
noncomputable def rU(g:Int->V):V->Hp->VK->Prop:=λx H Q=>∃i,x=.int i/\Q (g i) H
section
variable{X:Cx}{a b c:MP}{ta tb tc:TE}{pos:Oc}
theorem Cz(ha:PE X a ta)(hb:PE X b tb){d:List (MB×NI)}{s:Mz}{g:St}{H:Hp}{R:V->V->Hp->Prop}(I:Inv X d g H s)(h:ta g H λx l=>tb g l λy i=>R x y i){Q:Mt->Mz->Prop}{f:Mt->Mt->Rw Mt}(q:∀v u s2 x y i,Inv X d g i s2->RelV x v->RelV y u->R x y i->wpAny (ML X.prog X.w) X.A (f v u) Q X.xe s2):wpAny (ML X.prog X.w) X.A (OB a X.env) (λv k=>wpAny (ML X.prog X.w) X.A (OB b X.env) (λu j=>wpAny (ML X.prog X.w) X.A (f v u) Q X.xe j) X.xe k) X.xe s:=by
 refine a_ (ha d s g H _ I h) λv s1 e=>?_;obtain⟨x,l,t,n,p⟩:=e;refine a_ (hb d s1 g l _ t p) λu s2 e=>?_;obtain⟨y,i,r,m,o⟩:=e;exact q v u s2 x y i r n m o
theorem bA{op:Rn}{r:R2}(i:jq X (OL op) r)(ha:PE X a ta)(hb:PE X b tb):PE X (.BinOp a op b pos) (F_ r ta tb):=by
 intro d s e H Q I h;exact wpAny_BinOp (Cz ha hb I h λv u s2 x y k j g f q=>i d s2 e k x y v u Q j g f q)
theorem Ga{op:UnaryOp}{r:V->Hp->VK->Prop}(i:JN X (unaryOp op) r)(ha:PE X a ta):PE X (.UnaryOp op a pos) (LR r ta):=by
 intro d s e H Q I h;exact UnaryOp_ (a_ (ha d s e H _ I h) λv s1⟨x,k,j,f,g⟩=>i d s1 e k x v Q j f g)
theorem IZ{f:Mt->Mt->Rw Mt}{C:Int->Int->Prop}{g:Int->Int->Int}(RS:∀(i j:Int)(t u:UJ)(s:Mz)(Q:Mt->Mz->Prop)(E:Mt->Mz->Prop),C i j->Q (.int (g i j) s.toks) {s with toks:=s.toks+1}->wpAny (ML X.prog X.w) X.A (f (.int i t) (.int j u)) Q E s):jq X f (rI C λi j=>.int (g i j)):=by
 intro d s n H x y v u Q I l k h;obtain⟨i,j,rfl,rfl,m,q⟩:=h;obtain⟨t,rfl⟩:=l;obtain⟨e,rfl⟩:=k;exact RS i j t e s _ _ m ⟨.int (g i j),H,I.tok _,⟨_,rfl⟩,q⟩
theorem JP{f:Mt->Mt->Rw Mt}{g:Int->Int->Int}(RS:∀(i j:Int)(t u:UJ)(s:Mz)(Q:Mt->Mz->Prop)(E:Mt->Mz->Prop),Q (.int (g i j) s.toks) {s with toks:=s.toks+1}->wpAny (ML X.prog X.w) X.A (f (.int i t) (.int j u)) Q E s):jq X f (Bt λi j=>.int (g i j)):=by
 intro d s m H x y v u Q I l k h;obtain⟨i,j,rfl,rfl,q⟩:=h;obtain⟨t,rfl⟩:=l;obtain⟨e,rfl⟩:=k;exact RS i j t e s _ _ ⟨.int (g i j),H,I.tok _,⟨_,rfl⟩,q⟩
theorem zh{f:Mt->Mt->Rw Mt}{g:Int->Int->Bool}(RS:∀(i j:Int)(t u:UJ)(s:Mz)(Q:Mt->Mz->Prop)(E:Mt->Mz->Prop),Q (.bool (g i j)) s->wpAny (ML X.prog X.w) X.A (f (.int i t) (.int j u)) Q E s):jq X f (Bt λi j=>.bl (g i j)):=by
 intro d s m H x y v u Q I l k h;obtain⟨i,j,rfl,rfl,q⟩:=h;obtain⟨t,rfl⟩:=l;obtain⟨e,rfl⟩:=k;exact RS i j t e s _ _ ⟨.bl (g i j),H,I,rfl,q⟩
noncomputable def Gb(i j:Int):Prop:=0<j/\j<1073741824
noncomputable def Gc(i j:Int):Prop:=0<=j/\j<=1000000/\i.natAbs<2^64
noncomputable def zi(i j:Int):Prop:=(-(2^64)<i/\i<2^64)\/(-(2^64)<j/\j<2^64)
theorem zi.ok{i j:Int}(h:zi i j):IntMulOk i j:=by
 rcases h with⟨e,d⟩|⟨e,d⟩;.exact .of_left (intBits_le_64 e d)
 .exact .of_right (intBits_le_64 e d)
theorem j6:jq X (OL .Add) (Bt λi j=>.int (i+j)):=JP λ_ _ _ _ _ _ _ q=>add_int q
theorem gD:jq X (OL .Mult) (rI zi λi j=>.int (i*j)):=IZ λ_ _ _ _ _ _ _ d q=>mul_int q d.ok
theorem jN:jq X (OL .FloorDiv) (rI Gb λi j=>.int (i/j)):=IZ λi j _ _ _ _ _ d q=>by
 have f:(0:Int)<j:=d.1;have e:j<1073741824:=d.2;exact floordiv_int (by omega) (by rw[Int.fdiv_eq_ediv_of_nonneg i (by omega)];exact q) (.inl (PyProof.noPylong_small (by omega)))
theorem dJ:jq X (OL .Mod) (rI (λ_ j=>0<j) λi j=>.int (i%j)):=IZ λi j _ _ _ _ _ d q=>by
 have e:(0:Int)<j:=d;exact mod_int' (by omega) (by rw[Int.fmod_eq_emod_of_nonneg i (by omega)];exact q)
theorem vT:jq X (OL .Pow) (rI Gc λi j=>.int (i^j.toNat)):=IZ λ_ _ _ _ _ _ _ d q=>pow_int_small d.1 d.2.1 d.2.2 q
theorem LS{f:Mt->Rw Mt}{g:Int->Int}(RS:∀(i:Int)(t:UJ)(s:Mz)(Q:Mt->Mz->Prop)(E:Mt->Mz->Prop),Q (.int (g i) s.toks) {s with toks:=s.toks+1}->wpAny (ML X.prog X.w) X.A (f (.int i t)) Q E s):JN X f (rU λi=>.int (g i)):=by
 intro d s j H x v Q I e h;obtain⟨i,rfl,q⟩:=h;obtain⟨t,rfl⟩:=e;exact RS i t s _ _ ⟨.int (g i),H,I.tok _,⟨_,rfl⟩,q⟩
theorem CA:JN X (unaryOp .USub) (rU λi=>.int (-i)):=LS λ_ _ _ _ _ q=>neg_int q
end
section
variable{X:Cx}{a b c:MP}{ta tb tc:TE}{pos:Oc}
theorem CB{d:List (MB×NI)}{f:St}{H:Hp}{s:Mz}{Q:VK}{k g:Bool}(I:Inv X d f H s)(q:Q (.bl k) H)(e:k=g):EP X d f Q (.bool g) s:=by
 subst e;exact⟨.bl k,H,I,rfl,q⟩
theorem Bu:jq X (Nd .Lt) (Bt λi j=>.bl (decide (i<j))):=zh λ_ _ _ _ _ _ _ q=>lt_int q
theorem Gd:jq X (Nd .LtE) (Bt λi j=>.bl (decide (i<=j))):=zh λ_ _ _ _ _ _ _ q=>le_int q
theorem vU:jq X (Nd .Gt) (Bt λi j=>.bl (decide (j<i))):=zh λ_ _ _ _ _ _ _ q=>gt_int q
theorem Ge:jq X (Nd .GtE) (Bt λi j=>.bl (decide (j<=i))):=zh λ_ _ _ _ _ _ _ q=>ge_int q
theorem CC:jq X (Nd .Is) (λx y H Q=>y=.bH/\Q (.bl (decide (x=.bH))) H):=by
 intro e s g H x y v u Q I d f h;obtain⟨rfl,q⟩:=h;cases f;refine is_none_gen (CB I q ?_);cases x<;>first
  |(cases d;rfl)|(obtain⟨t,rfl⟩:=d;rfl)
theorem iS(b:MP){op:P0}(h:op≠.In:=by decide)(d:op≠.NotIn:=by decide):PB op b=Mw:=by
 have f:(op==CmpOp.In)=Mw:=by cases op<;>first|rfl|exact absurd rfl h
 have e:(op==CmpOp.NotIn)=Mw:=by cases op<;>first|rfl|exact absurd rfl d
 cases b<;>simp[PB,f,e]
theorem zj{op:P0}{r:R2}(i:jq X (Nd op) r)(ha:PE X a ta)(hb:PE X b tb)(j:PB op b=Mw):PE X (.Compare a [op] [b] pos) (F_ r ta tb):=by
 intro d s e H Q I h;exact wpAny_Compare1 (Cz ha hb I h λv u s2 x y l k g f q=>i d s2 e l x y v u Q k g f q) j
noncomputable def vV(t:TE):TT:=λd H Q=>t d H λx e=>∃k,x=.bl k/\Q k e
theorem fZ{op:P0}{r:R2}(o:jq X (Nd op) r)(ha:PE X a ta)(hb:PE X b tb)(p:PB op b=Mw):PT X (.Compare a [op] [b] pos) (vV (F_ r ta tb)):=by
 intro d s f H Q I h;refine wpAny_isTrue_Compare1 (a_ (ha d s f H _ I h) λv s1⟨x,C,w,j,n⟩=>a_ (hb d s1 f C _ w n) λu s2⟨y,B,t,i,m⟩=>a_ (o d s2 f B x y v u _ t j i m) λc D⟨z,A,q,g,k,e,l⟩=>?_) p;subst e;cases g;exact NH ⟨A,q,l⟩
noncomputable def qS(r g:R2)(ta tb tc:TE):TE:=λd H Q=>ta d H λx j=>tb d j λy i=>r x y i λz e=>∃k,z=.bl k/\(if k=Mv then tc d e λf h=>g y f h Q else Q (.bl Mw) e)
theorem vW{op g:P0}{r m:R2}(J:jq X (Nd op) r)(j:jq X (Nd g) m)(ha:PE X a ta)(hb:PE X b tb)(L:PE X c tc)(K:Ti [op,g] [b,c]=Mw:=by with_unfolding_all rfl):PE X (.Compare a [op,g] [b,c] pos) (qS r m ta tb tc):=by
 intro f s i H Q I h;refine Compare_chain (a_ (ha f s i H _ I h) λv s1⟨x,S,O,D,G⟩=>chain_link (a_ (hb f s1 i S _ O G) λu s2⟨y,R,N,l,F⟩=>a_ (J f s2 i R x y v u _ N D l F) λd A⟨z,p,o,C,k,e,n⟩=>?_)) K;subst e;cases C;refine NH ?_;cases k with
 |false=>exact ite_ff ⟨.bl Mw,p,o,rfl,n⟩|true=>exact ite_tt (chain_last (a_ (L f A i p _ o n) λt w⟨q,P,M,B,E⟩=>j f w i P y q u t Q M l B E))
theorem vX{op g:P0}{r n:R2}(N:jq X (Nd op) r)(l:jq X (Nd g) n)(ha:PE X a ta)(hb:PE X b tb)(P:PE X c tc)(O:Ti [op,g] [b,c]=Mw:=by with_unfolding_all rfl):PT X (.Compare a [op,g] [b,c] pos) (vV (qS r n ta tb tc)):=by
 intro f s i H Q I h;refine isTrue_chain (a_ (ha f s i H _ I h) λv s1⟨x,H1,W,F,L⟩=>test_link (a_ (hb f s1 i H1 _ W L) λu s2⟨y,H2,V,m,K⟩=>a_ (N f s2 i H2 x y v u _ V F m K) λd B⟨z,q,p,E,k,e,o⟩=>?_)) O;subst e;cases E;refine NH ?_;cases k with
 |false=>
  obtain⟨k',S,M⟩:=o;cases S;exact ite_ff ⟨q,p,M⟩|true=>
  refine ite_tt (test_last (a_ (P f B i q _ p o) λw A⟨t,Z,U,D,J⟩=>a_ (l f A i Z y t u w _ U m D J) λd' s5 j=>?_));obtain⟨z2,Y,T,C,k2,R,G⟩:=j;subst R;cases C;exact NH ⟨Y,T,G⟩
noncomputable def Gf(K:MF)(x:V)(H:Hp)(k:Bool):Prop:=match x with
 |.bH=>k=Mw|.bl b=>k=b|.int i=>k=(i !=0)|.str y=>y.length<=MA/\k=((y.length:Int)!=0)|.Cc y=>y.size<=MA/\k=((y.size:Int)!=0)|.ref p=>(∃d,dI K H p d/\k=!d.isEmpty)\/(∃d,iQ K H p d/\k=!d.isEmpty)\/∃e,H p=Mq (.dK e)/\k=!e.isEmpty|_=>False
theorem qU{e:Type}{d:List (e×V)}{f:List (e×Mt)}(r:KV d f):(!f.isEmpty)=!d.isEmpty:=by cases r<;>rfl
theorem j7{xs:List V}{d:List Mt}(r:au xs d):(!d.toArray.isEmpty)=!xs.isEmpty:=by cases r<;>simp
theorem gE:(MA:Nat)<2^63:=by rw[PL];decide
theorem CD:JO X (λx H Q=>∃k,Gf X.K x H k/\Q k H):=by
 intro z s D H x v Q I l h;obtain⟨k,e,q⟩:=h;have F:=gE;have E:MA=16777216:=PL;cases x with
 |bH=>
  cases l;have d:k=Mw:=e;subst d;exact truthy_none ⟨H,I,q⟩|bl b=>
  cases l;have d:k=b:=e;subst d;exact NH ⟨H,I,q⟩|int i=>
  obtain⟨t,rfl⟩:=l;have d:k=(i !=0):=e;subst d;exact PySem.P.truthy_int ⟨H,I,q⟩|str y=>
  obtain⟨t,rfl⟩:=l;obtain⟨B,d⟩:y.length<=MA/\k=((y.length:Int)!=0):=e;subst d;exact PySem.P.truthy_str (by omega) ⟨H,I.tok _,q⟩|Cc y=>
  obtain⟨t,rfl⟩:=l;obtain⟨B,d⟩:y.size<=MA/\k=((y.size:Int)!=0):=e;subst d;exact PySem.W.truthy_bytes (by omega) ⟨H,I.tok _,q⟩|ref p=>
  cases l;have d:(∃j,dI X.K H p j/\k=!j.isEmpty)\/(∃j,iQ X.K H p j/\k=!j.isEmpty)\/∃f,H p=Mq (.dK f)/\k=!f.isEmpty:=e;rcases d with⟨j,n,d⟩|⟨j,n,d⟩|⟨f,n,d⟩
  .subst d;obtain⟨u,r,pl,A⟩:=I.list n;have g:=r.length;exact wpAny_truthy_list pl.isList (by simp only[MJ];omega) ⟨H,I.tok _,by rw[j7 r];exact q⟩
  .subst d;obtain⟨u,r,pl,A⟩:=I.tuple n;have g:=r.length;exact truthy_tuple pl (by simp only[MJ];omega) ⟨H,I.tok _,by rw[j7 r];exact q⟩
  .subst d;obtain⟨A,C,o,r,m⟩:f.length<=MA/\(p==NW)=Mw/\∃o,KV f o/\s.heap.DictOf (ax X.prog X.w) p o:=I.aV p _ n;have g:f.length=o.length:=Paired.length r;exact wpAny_truthy_dict C m (by omega) ⟨H,I.tok _,by rw[qU r];exact q⟩|_=>exact(show False from e).elim
theorem vY(ha:PE X a ta)(i:∀whole,S7 a X.env whole=(do let v<-whole;RA a.pos;QQ [v] (truthy v))):PT X a (λe H Q=>ta e H λx H'=>∃k,Gf X.K x H' k/\Q k H'):=by
 intro d s e H Q I h;exact isTrue_plain (a_ (ha d s e H _ I h) λv s1⟨x,l,j,f,g⟩=>CD d s1 e l x v Q j f g) (i _)
theorem vals1{x:V}{us:List Mt}(r:au [x] us):∃u,us=[u]/\RelV x u:=by cases r with|cons e d=>cases d;exact⟨_,rfl,e⟩
theorem vals2{x y:V}{us:List Mt}(r:au [x,y] us):∃u w',us=[u,w']/\RelV x u/\RelV y w':=by cases r with|cons g f=>cases f with|cons e d=>cases d;exact⟨_,_,rfl,g,e⟩
theorem uP(f:X.calm=Mv):dA X (.builtin "max") (λxs H Q=>∃i j,xs=[.int i,.int j]/\Q (.int (if j>i then j else i)) H):=by
 intro e s g H xs m Q I r h;obtain⟨i,j,rfl,q⟩:=h;obtain⟨u,l,rfl,⟨t,rfl⟩,⟨o,rfl⟩⟩:=vals2 r;refine max_two_ints (I.ok.hd f) λp n k=>⟨_,H,I.kept k,?_,q⟩;by_cases d:j>i;.rw[if_pos d,if_pos d];exact⟨_,rfl⟩
 .rw[if_neg d,if_neg d];exact⟨_,rfl⟩
theorem uQ(f:X.calm=Mv):dA X (.builtin "min") (λxs H Q=>∃i j,xs=[.int i,.int j]/\Q (.int (if j<i then j else i)) H):=by
 intro e s g H xs m Q I r h;obtain⟨i,j,rfl,q⟩:=h;obtain⟨u,l,rfl,⟨t,rfl⟩,⟨o,rfl⟩⟩:=vals2 r;refine min_two_ints (I.ok.hd f) λp n k=>⟨_,H,I.kept k,?_,q⟩;by_cases d:j<i;.rw[if_pos d,if_pos d];exact⟨_,rfl⟩
 .rw[if_neg d,if_neg d];exact⟨_,rfl⟩
noncomputable def JQ(K:MF)(x:V)(H:Hp)(n:Nat):Prop:=match x with
 |.str y=>y.length<=MA/\n=y.length|.Cc y=>y.size<=MA/\n=y.size|.ref p=>(∃d,dI K H p d/\n=d.length)\/∃d,iQ K H p d/\n=d.length|_=>False
theorem vZ:dA X (.builtin "len") (λxs H Q=>∃x n,xs=[x]/\JQ X.K x H n/\Q (.int n) H):=by
 intro l s v H xs w Q I r h;obtain⟨x,n,rfl,e,q⟩:=h;obtain⟨u,rfl,g⟩:=vals1 r;have A:=gE;have z:MA=16777216:=PL;cases x with
 |str y=>
  obtain⟨t,rfl⟩:=g;obtain⟨o,f⟩:y.length<=MA/\n=y.length:=e;subst f;exact len_str (by omega) ⟨.int _,H,I.tok _,⟨_,rfl⟩,q⟩|Cc y=>
  obtain⟨t,rfl⟩:=g;obtain⟨o,f⟩:y.size<=MA/\n=y.size:=e;subst f;exact PySem.W.len_bytes (by omega) ⟨.int _,H,I.tok _,⟨_,rfl⟩,q⟩|ref p=>
  cases g;have f:(∃xs,dI X.K H p xs/\n=xs.length)\/∃xs,iQ X.K H p xs/\n=xs.length:=e;rcases f with⟨xs,k,f⟩|⟨xs,k,f⟩
  .subst f;obtain⟨j,i,pl,m⟩:=I.list k;have d:=i.length;exact Tp pl.isList (by simp only[MJ];omega) ⟨.int xs.length,H,I.tok _,⟨_,by simp only[MJ];rw[d]⟩,q⟩
  .subst f;obtain⟨j,i,pl,m⟩:=I.tuple k;have d:=i.length;exact len_tuple pl (by simp only[MJ];omega) ⟨.int xs.length,H,I.tok _,⟨_,by simp only[MJ];rw[d]⟩,q⟩|_=>exact(show False from e).elim
end
end L2
namespace L2
open PySem PySem.Spec PyProof.Rows
theorem oQ.some_of{v:V}{o:Option Mt}(r:oQ (Mq v) o):∃u,o=Mq u/\RelV v u:=by cases o with
 |none=>exact(show False from r).elim|some u=>exact⟨u,rfl,r⟩
end L2
namespace L2
open PySem PySem.Spec PyProof.Rows
structure cX(k:Nat)(A:Nf):Prop where
 hd:A.handled=Mu
 dp:A.depth+3*k+5<recursionLimit
 un:A.units+16*k+200<NB
 gd:A.guards=Mq []
theorem cX.mono{j k:Nat}{A:Nf}(r:cX k A)(h:j<=k):cX j A:=⟨r.hd,by have:=r.dp;omega,by have:=r.un;omega,r.gd⟩
theorem cX.deeper{k:Nat}{A:Nf}(r:cX (k+1) A)(env:SD):cX k (A.deeper env):=⟨r.hd,by have:=r.dp;show A.depth+1+3*k+5<_;omega,by have:=r.un;show A.units+3+16*k+200<_;omega,r.gd⟩
theorem cX.depth{k:Nat}{A:Nf}(r:cX k A):A.depth<recursionLimit:=by have:=r.dp;omega
theorem cX.units{k:Nat}{A:Nf}(r:cX k A):A.units+64<NB:=by have:=r.un;omega
noncomputable def Gg:TA:=λ_ H Q=>Q [] H
noncomputable def Bv(d:TE)(c:TA):TA:=λa H Q=>d a H λx f=>c a f λb e=>Q (x::b) e
section
variable{X:Cx}{e:MP}{es:List MP}{te:TE}{t:TA}{pos:Oc}
theorem cf:PA X [] Gg:=λ_ _ _ _ H Q I h=>Qp ⟨[],H,I,.nil,h⟩
theorem bf(ha:PE X e te)(l:PA X es t)(k:MX (e::es) X.env=(Mw,OB e X.env)::MX es X.env:=by rfl):PA X (e::es) (Bv te t):=by
 intro pos a s c H Q I h;rw[k];show wpAny _ _ (UL ((Mw,OB e X.env)::PF pos (MX es X.env))) _ _ s;refine Qd (a_ (ha a s c H _ I h) λu s1 b=>?_);obtain⟨x,p,n,g,j⟩:=b;exact a_ (l pos a s1 c p _ n j) λq s2⟨d,o,m,f,i⟩=>⟨x::d,o,m,.cons g f,i⟩
noncomputable def JR(t:TA):TE:=λc H Q=>t c H λa b=>a.length<=MA/\∀p,b p=Mu->Q (.ref p) (upd b p (.tup a))
noncomputable def JS(t:TA):TE:=λc H Q=>t c H λa b=>a.length<=MA/\∀p,b p=Mu->Q (.ref p) (upd b p (.lst a))
theorem CF{x1}(h:PA X es t):PE X (.Tuple es x1 pos) (JR t):=by
 intro a s f H Q I j;refine wpAny_Tuple_spliced (a_ (h pos a s f H _ I j) λi s1⟨g,d,c,r,z,q⟩=>⟨by rw[<-r.length];exact z,?_⟩);have k:d s1.heap.objs.size=Mu:=c.aV.fresh (MO _);refine⟨.ref s1.heap.objs.size,upd d s1.heap.objs.size (.tup g),c.laid (t':=s1.toks) (λb u e=>My _ e) (MO _) ?_,rfl,q _ k⟩;exact⟨z,i,r,⟨_,MK _ rfl,rfl,_,rfl⟩⟩
theorem nG(h:PA X es t):PE X (.List es pos) (JS t):=by
 intro a s f H Q I j;refine wpAny_List_spliced (a_ (h pos a s f H _ I j) λi s1⟨g,d,c,r,z,q⟩=>⟨by rw[<-r.length];exact z,?_⟩);have k:d s1.heap.objs.size=Mu:=c.aV.fresh (MO _);refine⟨.ref s1.heap.objs.size,upd d s1.heap.objs.size (.lst g),c.laid (t':=s1.toks) (λb u e=>My _ e) (MO _) ?_,rfl,q _ k⟩;exact⟨z,i,0,r,MK _ rfl⟩
end
abbrev Sp:=List V->Hp->VK->XK->Prop
abbrev vF:=List SD->Hp->Mz->XK->Mt->Mz->Prop
structure zk(P:MQ)(w:M6)(K:MF)(mg:MR->Option Mt)(base:M7)(A:Nf)(outer:List SD)(s:Mz)(H:Hp):Prop where
 frames:A.frames=Mq outer
 mod:Mod K mg base
 bs:∀b o,base.get? b=Mq o->s.heap.get? b=Mq o/\H b=Mu
 zc:base.objs.size<=s.heap.objs.size
 jE:s.heap.FunFrames base outer
 Ce:∀b∈uJ outer,H b=Mu
 aV:jo P w H s.heap
 bare:Rz s.gens
noncomputable def CE(outer:List SD)(P:MQ)(w:M6)(H:Hp)(s:Mz)(Q:VK)(u:Mt)(a:Mz):Prop:=∃v b,a.os=s.os/\Rz a.gens/\Un (uJ outer) [] H b s.heap a.heap/\jo P w b a.heap/\RelV v u/\Q v b
noncomputable def CR(CX:vF)(outer:List SD)(P:MQ)(w:M6)(H:Hp)(s:Mz)(Q:VK)(E:XK)(r:UM)(a:Mz):Prop:=match r with
 |.ok (.ret u)=>CE outer P w H s Q u a|.ok _=>False|.error e=>CX outer H s E e a
structure dZ(P:MQ)(w:M6)(K:MF)(mg:MR->Option Mt)(base:M7)(CX:vF)(k:Nat)(f:MB)(fd:NX)(ps:List MR)(sp:Sp):Prop where
 len:∀vs H Q E,sp vs H Q E->vs.length=ps.length
 run:∀(A:Nf)(outer:List SD)(s:Mz)(H:Hp)(args:Args)(us:List Mt)(vs:List V)(Q:VK)(E:XK),cX k A->zk P w K mg base A outer s H->UN s fd args (ps.zip us)->au vs us->sp vs H Q E->codeAny (ML P w) A (.call (.ref f) args) (CR CX outer P w H s Q E) s
theorem dZ.mono{P:MQ}{w:M6}{K:MF}{mg:MR->Option Mt}{base:M7}{CX:vF}{j k:Nat}{f:MB}{fd:NX}{ps:List MR}{sp:Sp}(F:dZ P w K mg base CX j f fd ps sp)(h:j<=k):dZ P w K mg base CX k f fd ps sp:=⟨F.len,λA outer s H a c b Q E d=>F.run A outer s H a c b Q E (d.mono h)⟩
theorem dZ.imp{P:MQ}{w:M6}{K:MF}{mg:MR->Option Mt}{base:M7}{CX:vF}{k:Nat}{f:MB}{fd:NX}{ps:List MR}{sp b:Sp}(F:dZ P w K mg base CX k f fd ps sp)(h:∀a H Q E,b a H Q E->sp a H Q E):dZ P w K mg base CX k f fd ps b:=⟨λa H Q E q=>F.len a H Q E (h _ _ _ _ q),λA outer s H c d a Q E i j hb e g=>F.run A outer s H c d a Q E i j hb e (h _ _ _ _ g)⟩
section
variable{X:Cx}{pins:List (MB×NI)}{σ:St}{H:Hp}{s s':Mz}
theorem Inv.uR(I:Inv X pins σ H s):zk X.prog X.w X.K X.mg X.base X.A X.stack s H:=⟨I.ok.frames,I.ok.mod,I.bs,Nv I.ok.zc I.sz,I.stack,I.sD,I.aV,I.bare⟩
theorem Inv.after{Q:VK}{u:Mt}(I:Inv X pins σ H s)(h:CE X.stack X.prog X.w H s Q u s'):EP X pins σ Q u s':=by
 obtain⟨v,e,os,bare,un,aV,r,q⟩:=h;obtain⟨c,g,d,t,a⟩:=s';obtain rfl:a=s.os:=os;exact⟨v,e,I.call (h':=c) (g':=g) (d':=d) (t':=t) (ch:=[]) un aV bare (λb z=>absurd z (by simp)),r,q⟩
end
noncomputable def Bw(sp:Sp)(a:List V)(E:XK)(t:TA):TE:=λb H Q=>t b H λc d=>sp (c++a) d Q E
noncomputable def Binds(K:MF)(fd:NX)(ps:List MR)(ds:List Mt):Prop:=∀(s:Mz)(a:List Mt),K.In s.heap->(a++ds).length=ps.length->UN s fd ⟨a,[]⟩ (ps.zip (a++ds))
theorem Binds.all{K:MF}{fd:NX}{ps:List MR}(h:∀us:List Mt,us.length=ps.length->T1 fd ⟨us,[]⟩=pure (ps.zip us)):Binds K fd ps []:=λs us _ a=>by
 rw[M1]at a⊢;exact .of_eq (h us a)
noncomputable def qV(CX:vF)(X:Cx)(E:XK):Prop:=∀(a:List (MB×NI))(c:St)(H:Hp)(s:Mz)(e:Mt)(b:Mz),Inv X a c H s->CX X.stack H s E e b->X.xe e b
section
variable{X:Cx}{CX:vF}{k:Nat}{f C:MB}{fd:NX}{ps:List MR}{sp:Sp}{dvs:List V}{ds:List Mt}{E:XK}{x m:MR}{p pos apos:Oc}{e o:MP}{es:List MP}{ta:TE}{t:TA}
theorem CG{a:List (MB×NI)}{d:St}{H:Hp}{s:Mz}{Q:VK}{us:List Mt}{c:List V}(F:dZ X.prog X.w X.K X.mg X.base CX k f fd ps sp)(l:cX k X.A)(hb:Binds X.K fd ps ds)(hd:au dvs ds)(j:qV CX X E)(I:Inv X a d H s)(r:au c us)(h:sp (c++dvs) H Q E):wpAny (ML X.prog X.w) X.A (call (.ref f) us) (EP X a d Q) X.xe s:=by
 have g:au (c++dvs) (us++ds):=r.append hd;have n:(us++ds).length=ps.length:=by rw[<-g.length];exact F.len _ _ _ _ h
 refine wpAny_call (Sh (F.run X.A X.stack s H ⟨us,[]⟩ (us++ds) (c++dvs) Q E l I.uR (hb s us I.zd n) g h) λr i b=>?_);cases r with
 |error e=>exact j a d H s e i I b|ok q=>cases q with
  |ret u=>exact I.after b|next=>exact Oh b|brk=>exact Oh b|cont=>exact Oh b
theorem sH(F:dZ X.prog X.w X.K X.mg X.base CX k f fd ps sp)(j:cX k X.A)(u:Gl X x)(l:X.mg x=Mq (.ref f))(n:PM X.K (.ref f)=Mv)(hb:Binds X.K fd ps ds)(hd:au dvs ds)(i:qV CX X E)(ha:PA X (e::es) t)(c:(x==("__debug__":MR))=Mw:=by decide)(v:MX (e::es) X.env=(Mw,OB e X.env)::MX es X.env:=by rfl)(b:(PF pos (MX es X.env)).any (·.1)=Mw:=by rfl):PE X (.Call (.Name x p) (e::es) [] pos) (Bw sp dvs E t):=by
 intro a s g H Q I h;refine Oa (sE I u l ?_ c);refine PySem.W.callWith_K (h₀:=X.base) I.ok.mod.IX n (a_ (ha pos a s g H _ I h) λz s1⟨y,B,d,r,q⟩=>⟨d.zd,?_⟩) v b;exact CG F j hb hd i d r q
end
structure cw(N P:List MR)(sc:Of):Prop where
 kind:sc.kind=.function
 co:sc.isCoroutine=Mw
 gen:sc.isGenerator=Mw
 nd:N.Nodup
 pre:N.take P.length=P
 par:∀x∈P,sc.names.lookup x=Mq .local\/sc.names.lookup x=Mq .cell
 CH:∀y∈sc.names,y.2≠.free
theorem mj{kindOf:MR->Option OU}{x:MR}:∀{a:List (MR×Mt)}{m:MR->Option Mt},(∀v,(x,v)∉a)->Uz kindOf a m x=m x
 |[],_,_=>rfl|(n,v)::r,m,h=>by
  unfold Uz;rw[mj λw hw=>h w (MH _ hw)];split
  .have:x≠n:=by rintro rfl;exact h v ME
   simp[this]
  .rfl
theorem ml{kindOf:MR->Option OU}{x:MR}:∀{a:List (MR×Mt)}{m:MR->Option Mt},(∀v,(x,v)∉a)->UA kindOf a m x=m x
 |[],_,_=>rfl|(n,v)::r,m,h=>by
  unfold UA;rw[ml λw hw=>h w (MH _ hw)];split;.rfl
  .have:x≠n:=by rintro rfl;exact h v ME
   simp[this]
theorem mm{kindOf:MR->Option OU}{x:MR}{v:Mt}:∀{P:List MR}{a:List Mt}{i:Nat}{m:MR->Option Mt},P.Nodup->P[i]?=Mq x->a[i]?=Mq v->kindOf x=Mq .local->Uz kindOf (P.zip a) m x=Mq v
 |[],_,_,_,_,h,_,_=>by simp at h|_::_,[],_,_,_,_,h,_=>by simp at h|p::P,w::a,0,m,nd,c,b,d=>by
  simp at c b;subst c;subst b;show Uz kindOf ((p,w)::P.zip a) m p=_;unfold Uz;rw[mj λv e=>(List.nodup_cons.mp nd).1 (SE e).1,if_pos d];simp|p::P,w::a,i+1,m,nd,c,b,d=>by
  show Uz kindOf ((p,w)::P.zip a) m x=_;unfold Uz;exact mm (i:=i) (List.nodup_cons.mp nd).2 (by simpa using c) (by simpa using b) d
theorem mo{kindOf:MR->Option OU}{x:MR}{v:Mt}:∀{P:List MR}{a:List Mt}{i:Nat}{m:MR->Option Mt},P.Nodup->P[i]?=Mq x->a[i]?=Mq v->kindOf x≠Mq .local->UA kindOf (P.zip a) m x=Mq v
 |[],_,_,_,_,h,_,_=>by simp at h|_::_,[],_,_,_,_,h,_=>by simp at h|p::P,w::a,0,m,nd,c,b,d=>by
  simp at c b;subst c;subst b;show UA kindOf ((p,w)::P.zip a) m p=_;unfold UA;rw[ml λv e=>(List.nodup_cons.mp nd).1 (SE e).1,if_neg d];simp|p::P,w::a,i+1,m,nd,c,b,d=>by
  show UA kindOf ((p,w)::P.zip a) m x=_;unfold UA;exact mo (i:=i) (List.nodup_cons.mp nd).2 (by simpa using c) (by simpa using b) d
noncomputable def start(N:List MR)(a:List V):St:=a.map Mq++NY (N.length-a.length) Mu
noncomputable def lW(CX:vF)(P:MQ)(w:M6)(K:MF)(mg:MR->Option Mt)(base:M7)(N:List MR)(b:MR)(a:Of)(f:MB)(cd:Mt)(A:Nf)(outer:List SD)(s:Mz)(H:Hp)(E:XK):Cx where
 prog:=P;w:=w;K:=K;mg:=mg;base:=base;A:=A.deeper (Si b a s.heap.objs.size f cd);N:=N;cc:=s;gZ:=H;env:=Si b a s.heap.objs.size f cd;outer:=outer;stack:=Si b a s.heap.objs.size f cd::outer;ex:=[];calm:=Mv;fn:=λ_=>Mv;pn:=[];xe:=λe d=>wpAny (ML P w) (A.deeper (Si b a s.heap.objs.size f cd)) (leaving (Si b a s.heap.objs.size f cd) e) (λ_ c=>CX outer H s E e c) (λg c=>CX outer H s E g c) d
theorem oT{sc:Of}{n:Nat}{x:MR}(h:sc.names.lookup x=Mq .cell):∃c,(OR n sc.names []).lookup x=Mq c:=by
 have q:=Qq sc.names n [] (.inl h);exact Option.isSome_iff_exists.mp q
theorem uS{CX:vF}{P:MQ}{w:M6}{K:MF}{mg:MR->Option Mt}{base:M7}{N ps:List MR}{g:MR}{d:Of}{f:MB}{cd:Mt}{A:Nf}{outer:List SD}{s s1:Mz}{H:Hp}{E:XK}{us:List Mt}{m:List V}(S:cw N ps d)(hd:A.handled=Mu)(l:zk P w K mg base A outer s H)(M:m.length=ps.length)(r:au m us)(x:InCallC s s.heap.objs.size (Uz (Si g d s.heap.objs.size f cd).kindOf (ps.zip us) λ_=>Mu) (OR (s.heap.objs.size+1) d.names []) (UA (Si g d s.heap.objs.size f cd).kindOf (ps.zip us) λ_=>Mu) s1):Inv (lW CX P w K mg base N g d f cd A outer s H E) [] (start N m) H s1:=by
 have J:ps.length<=N.length:=by have:=congrArg Qh S.pre;rw[QL]at this;omega
 obtain⟨F,L,rfl,G⟩:=x.done;have o:∀b:MB,b∉(lW CX P w K mg base N g d f cd A outer s H E).ex:=λb z=>absurd (show b∈([]:List MB)from z) (by simp);refine⟨⟨l.mod,S.kind,rfl,rfl,MO _,λy z c F j=>?_,λy t=>?_,λy c _ h=>?_,λ_=>hd,Around.frames_deeper l.frames,.inr ⟨rfl,rfl⟩,λb z=>absurd z (o b),l.bs,l.zc,λb _ _=>o b,λb z=>absurd z (o b),l.jE,l.Ce⟩,rfl,l.bare,Un.kept G,⟨_,x.toInCall.ns,λi y v F j O=>?_⟩,λy c h=>⟨_,x.cell y c h⟩,l.aV.fresh (MO _),λy c h=>?_,λp C=>absurd (show p∈([]:List (MB×NI))from C) (by simp),l.aV.kept G,?_⟩;.exact name_of_addr x.apart (N5 F) (N5 j)
 .have t:d.names.lookup y=Mq .cell\/d.names.lookup y=Mq .free:=t;rcases t with t|t;.exact oT t
  .exact absurd rfl (S.CH _ (N5 t))
 .exact Rc (x.above y c (N5 h))
 .have D:i<m.length:=by
   unfold start at j;by_cases D:i<m.length;.exact D
   .rw[Nk (by simpa using D)]at j;rw[Pd]at j;split at j<;>cases j
  have ha:m[i]?=Mq v:=by
   unfold start at j;rw[Ny (by simpa using D),M9]at j;cases e:m[i]? with
   |none=>rw[e]at j;cases j|some a=>rw[e]at j;cases j;rfl
  obtain⟨u,hu,I⟩:=r.get ha;have C:ps[i]?=Mq y:=by rw[<-S.pre,List.getElem?_take_of_lt (by omega)];exact F
  have B:ps.Nodup:=by rw[<-S.pre];exact S.nd.sublist (List.take_sublist _ _)
  refine⟨u,I,?_⟩;rcases S.par y (Nz C)with k|k;.exact .inl ⟨k,mm B C hu k⟩
  .obtain⟨c,e⟩:=oT (n:=s.heap.objs.size+1) k;refine .inr ⟨.inl k,c,e,?_⟩;have q:=x.cell y c e;rw[mo B C hu (by show d.names.lookup y≠_;rw[k];decide)]at q;exact q
 .exact l.aV.fresh (Rc (x.above y c (N5 h)))
 .unfold start;show _=N.length;rw[Nh,M0,Ov];omega
theorem Bx{CX:vF}{P:MQ}{w:M6}{K:MF}{mg:MR->Option Mt}{base:M7}{k:Nat}{f:MB}{name c:MR}{g:RV}{body:List Ou}{a:Of}{U kV C T d ct oc:Mt}{Y od:Option MB}{L:Array (Option Mt)}{N ps:List MR}{sp:Sp}(lk:K.lookup f=Mq ⟨oc,od,.func (Sj name c g body a U kV C T Y d ct),L⟩)(R:Qr K d c=Mv)(S:cw N ps a)(len:∀i H Q E,sp i H Q E->i.length=ps.length)(l:∀(A:Nf)(outer:List SD)(s:Mz)(H:Hp)(i:List V)(Q:VK)(E:XK),cX k (A.deeper (Si c a s.heap.objs.size f d))->sp i H Q E->∃t,oJ (lW CX P w K mg base N c a f d A outer s H E) body t/\t {nx:=λ_ H'=>Q .bH H',rt:=Q} (start N i) H):dZ P w K mg base CX (k+1) f (Sj name c g body a U kV C T Y d ct) ps sp:=by
 refine⟨len,λA outer s H X us i Q E O B hb r p=>?_⟩;have hl:=len _ _ _ _ p;have Z:K.In s.heap:=B.mod.IX.keeps λb o e=>(B.bs b o e).1;have M:s.heap.NoLimit:=B.mod.nolimit.keeps λb o e=>(B.bs b o e).1;have j:∀y∈ps.zip us,a.names.lookup y.1=Mq .local\/(a.names.lookup y.1=Mq .cell/\((OR (s.heap.objs.size+1) a.names []).lookup y.1).isSome=Mv):=λD hy=>by
  obtain⟨n,v⟩:=D;rcases S.par n (SE hy).1 with q|q;.exact .inl q
  .exact .inr ⟨q,Qq _ _ _ (.inl q)⟩
 refine codeAny_call_function O.depth (Z _ _ lk) rfl S.co S.gen rfl (PySem.W.codeRec_of Z R) (hb _ _ _ _ ?_);refine wpAny_newFunctionEnv_cells S.kind j λenv he s1 x=>?_;subst he;refine⟨M.keeps x.toInCall.keep,codeAny_func ?_⟩;obtain⟨t,ht,hq⟩:=l A outer s H i Q E (O.deeper _) p;have I:Inv (lW CX P w K mg base N c a f d A outer s H E) [] (start N i) H s1:=uS S O.hd B hl r x;refine Og (ht [] s1 (start N i) H _ I hq) (λfl F m=>?_) λe F m=>m;have z:∀{h:St}{H':Hp}{v:V}{u:Mt},Inv (lW CX P w K mg base N c a f d A outer s H E) [] h H' F->RelV v u->Q v H'->CE outer P w H s Q u F:=λ{h H' v u}J G q=>⟨v,H',J.os,J.bare,J.base,J.aV,G,q⟩;cases fl with
 |ret u=>
  obtain⟨v,h,H',J,G,q⟩:=m;exact z J G q|next=>
  obtain⟨h,H',J,q⟩:=m;exact z (v:=V.bH) (u:=NV) J rfl q|brk=>
  obtain⟨_,_,_,q⟩:=m;exact Oh q|cont=>
  obtain⟨_,_,_,q⟩:=m;exact Oh q
end L2
namespace L2
open PySem PySem.Spec PyProof.Rows
section
variable{X:Cx}{x:MR}{p pos:Oc}{e:MP}{es:List MP}{t:TA}{id T:String}{r:List V->Hp->VK->Prop}
noncomputable def JT(r:List V->Hp->VK->Prop)(t:TA):TE:=λa H Q=>t a H λb c=>r b c Q
theorem hU(q:dA X (.builtin id) r)(n:Gl X x)(m:X.mg x=Mu)(k:O5 x=Mq (.builtin id))(ha:PA X (e::es) t)(l:x≠"__name__":=by decide)(c:(x==("__debug__":MR))=Mw:=by decide)(o:MX (e::es) X.env=(Mw,OB e X.env)::MX es X.env:=by rfl)(b:(PF pos (MX es X.env)).any (·.1)=Mw:=by rfl):PE X (.Call (.Name x p) (e::es) [] pos) (JT r t):=by
 intro a s d H Q I h;refine Oa (fm I n m k ?_ l c);exact PyProof.Rows.callWith_builtin1 (a_ (ha pos a s d H _ I h) λg s1⟨f,v,u,i,j⟩=>q a s1 d v f g Q u i j) o b
theorem mq(q:dA X (.type T) r)(n:Gl X x)(m:X.mg x=Mu)(k:O5 x=Mq (.type T))(ha:PA X (e::es) t)(l:x≠"__name__":=by decide)(c:(x==("__debug__":MR))=Mw:=by decide)(o:MX (e::es) X.env=(Mw,OB e X.env)::MX es X.env:=by rfl)(b:(PF pos (MX es X.env)).any (·.1)=Mw:=by rfl):PE X (.Call (.Name x p) (e::es) [] pos) (JT r t):=by
 intro a s d H Q I h;refine Oa (fm I n m k ?_ l c);exact NT (a_ (ha pos a s d H _ I h) λg s1⟨f,v,u,i,j⟩=>q a s1 d v f g Q u i j) o b
end
end L2
namespace HT
open PySem PyProof.Rows
noncomputable def lexLt:List Int->List Int->Bool
 |[],[]=>Mw|[],_::_=>Mv|_::_,[]=>Mw|x::b,y::a=>if x=y then lexLt b a else decide (x<y)
theorem eK(x y:Int)(xs ys:List Int):lexLt (x::xs) (y::ys)=if x=y then lexLt xs ys else decide (x<y):=rfl
theorem gu:lexLt [] []=Mw:=rfl
theorem j8(y:Int)(ys:List Int):lexLt [] (y::ys)=Mv:=rfl
theorem j9(x:Int)(xs:List Int):lexLt (x::xs) []=Mw:=rfl
theorem v5(A:Nf)(s:Mz)(a:Int)(t:UJ)(c:Int)(u:UJ):∃e,O9 A s (.int a t) (.int c u) e/\(e=Mv↔a=c):=⟨(a==c),TC a t c u,by simp⟩
theorem v7(A:Nf)(s:Mz)(a:Int)(t:UJ)(c:Int)(u:UJ)(prog:MQ)(w:M6)(E:Mt->Mz->Prop)(Q:Mt->Mz->Prop)(h:Q (.bool (decide (a<c))) s):wpAny (ML prog w) A (richCompare .Lt (.int a t) (.int c u)) Q E s:=(Tq h:wpAny (ML prog w) A (Nd .Lt (.int a t) (.int c u)) Q E s)
section
open PySem.SeqAt
open PySem.AutoSeq1 (wpAny_loadPart')
open PySem.MeetsSeq PySem.MeetsSeq2 PySem.MeetsSeq3
theorem lX(l b:MB)(items f:Array Mt)(n n2:Nat)(X N:Option MB)(S J:Array (Option Mt))(ns H:List Int)(Q:O6 items.toList ns)(P:O6 f.toList H):Meets (Builtin.«tuple.__lt__» ⟨[.ref l,.ref b],[]⟩) (λ_ R s=>s.heap.get? l=Mq {cls:=.type "tuple",dict:=X,data:=.seq items n,slots:=S}/\s.heap.get? b=Mq {cls:=.type "tuple",dict:=N,data:=.seq f n2,slots:=J}/\R (.ok (.ret (.bool (lexLt ns H)))) s):=.of_wp λprog w A R s h=>by
  obtain⟨I,g,d,G,os⟩:=s;obtain⟨V,hb,h⟩:=h;have f2:=AutoSeq1.sub_tuple_tuple;have Z:items.size=ns.length:=by rw[<-Q.length];simp
  have Y:f.size=H.length:=by rw[<-P.length];simp
  wp_walk using SF V,SF hb,PV _ (λrest b K=>b.1=Mu/\K=⟨I,g,d,G,os⟩/\∃(F E:List Mt)(j k:List Int),rest=F.zip E/\O6 F j/\O6 E k/\j.length+f.size=k.length+items.size/\R (.ok (.ret (.bool (lexLt j k)))) ⟨I,g,d,G,os⟩) _;case turn=>
   rintro⟨y,x⟩rest b K⟨B,rfl,F,E,j,k,m,v,o,i,r⟩;cases v with
   |nil=>rw[List.zip_nil_left]at m;cases m|cons a t D=>cases o with
    |nil=>rw[TF]at m;cases m|cons c u C=>
     rw[Ob]at m;injection m with L z;injection L with T U;subst T U;rw[eK]at r;simp only[Ng]at i;obtain⟨e,W,p⟩:=v5 A.in1 ⟨I,g,d,G,os⟩ a t c u;refine Ms (W prog w _ _ ?_);cases e with
     |true=>
      rw[if_pos (p.mp rfl)]at r;wp_walk;exact⟨rfl,rfl,_,_,_,_,z,D,C,by omega,r⟩|false=>
      rw[if_neg (λq=>absurd (p.mpr q) Nu)]at r;have M:=v7 A.in1 ⟨I,g,d,G,os⟩ a t c u prog w;wp_walk using M;exact⟨_,rfl,by simpa using r⟩
  case fin=>
   rintro⟨b1,b2⟩K⟨B,rfl,F,E,j,k,m,v,o,i,r⟩;simp only at B;subst B;have O:lexLt j k=decide (items.size<f.size):=by cases v with
    |nil=>cases o with
     |nil=>
      simp only[NZ]at i;rw[gu];exact(decide_eq_false (by omega)).symm|cons c u hw=>
      simp only[NZ,Ng]at i;rw[j8];exact(decide_eq_true (by omega)).symm
    |cons a t O=>cases o with
     |nil=>
      simp only[NZ,Ng]at i;rw[j9];exact(decide_eq_false (by omega)).symm|cons c u hw=>
      rw[Ob]at m;cases m
   rw[O]at r;wp_walk;exact⟨_,rfl,by simpa[Builtin.Tuple.tupleCompareSizes]using r⟩
  case h=>exact⟨rfl,rfl,items.toList,f.toList,ns,H,rfl,Q,P,by omega,h⟩
end
section
variable{prog:MQ}{w:M6}{A:Nf}{E:Mt->Mz->Prop}{s:Mz}
theorem j_{l b:MB}{items a:Array Mt}{ns c:List Int}{Q:Mt->Mz->Prop}(q:S0 s.heap l items)(hb:S0 s.heap b a)(t:O6 items.toList ns)(r:O6 a.toList c)(hu:A.units<NB)(h:Q (.bool (lexLt ns c)) s):wpAny (ML prog w) A (Nd .Lt (.ref l) (.ref b)) Q E s:=by
 obtain⟨⟨v,u,m,p⟩,j,k,n,hd⟩:=id q;obtain⟨⟨o,i,data2,g⟩,d,f,n2,e⟩:=id hb;simp only at k hd f e;subst k hd f e;exact richCompare_meets_room (op:=.Lt) ⟨_,j,rfl⟩ ⟨_,d,rfl⟩ PySem.F.slot_tuple_lt PySem.F.entry_tuple_lt (PySem.F.args_tuple_lt_2 _ _) (lX l b items a n n2 u i p g ns c t r) ⟨j,d,show Uv (lexLt ns c)≠Value.notImplemented/\Q (.bool (lexLt ns c)) s from⟨(λx=>nomatch x),h⟩⟩ hu
theorem zl{t b:MB}{d a:List Mt}{Q:Mt->Mz->Prop}(u:S0 s.heap t d.toArray)(hb:S0 s.heap b a.toArray)(o:d≠[])(x:a=[]->Q (.ref t) s)(v:a≠[]->Q (.ref s.heap.objs.size) {s with heap:=s.heap.push {cls:=.type "tuple",data:=.seq (d++a).toArray}})(hsz:d.length+a.length<=MA):wpAny (ML prog w) A (OL .Add (.ref t) (.ref b)) Q E s:=by
 obtain⟨⟨l,q,j,m⟩,k,p,n,hd⟩:=id u;obtain⟨⟨r,i,data2,f⟩,c,h,n2,g⟩:=id hb;simp only at p hd h g;subst p hd h g;have e:d.toArray++a.toArray=(d++a).toArray:=by simp
 by_cases hw:a=[]
 .exact T2 ⟨_,k,rfl⟩ ⟨_,c,rfl⟩ RW Tu Qs Qi (P8 _ _) (tuple_addW1 t b d.toArray a.toArray n n2 q i m f (by simpa using o) (by simp[hw])) ⟨k,c,x hw⟩
 .refine T2 ⟨_,k,rfl⟩ ⟨_,c,rfl⟩ RW Tu Qs Qi (P8 _ _) (tuple_addW2 t b d.toArray a.toArray n n2 q i m f (by simpa using o) (by simpa using hw) (by rw[MJ,MJ];exact hsz)) ⟨k,c,?_⟩;rw[e];exact v hw
noncomputable def bR(n d:Nat):Option Int->Nat
 |none=>d|some v=>if v<0 then(v+(n:Int)).toNat else min v.toNat n
theorem v8(n d:Nat):bR n d Mu=d:=rfl
theorem zm(n d k:Nat):bR n d (Mq (k:Int))=min k n:=by
 show(if(k:Int)<0 then((k:Int)+(n:Int)).toNat else min (k:Int).toNat n)=min k n;rw[if_neg (by omega),O7]
theorem CI(n d:Nat)(hd:d<=n)(o:Option Int):bR n d o<=n:=by cases o with
 |none=>exact hd|some v=>
  show(if v<0 then(v+(n:Int)).toNat else min v.toNat n)<=n;by_cases a:v<0;.rw[if_pos a];omega
  .rw[if_neg a];exact Nat.min_le_right _ _
theorem sI(v:Int)(n d:Nat):(if v<0 then max (v+(n:Int)) 0 else min v (n:Int))=((bR n d (Mq v):Nat):Int):=by
 show(if v<0 then max (v+(n:Int)) 0 else min v (n:Int))=(((if v<0 then(v+(n:Int)).toNat else min v.toNat n):Nat):Int);by_cases a:v<0;.simp only[if_pos a];omega
 .simp only[if_neg a];omega
theorem qW(lo a:Option Int)(n:Nat):P1 lo a 1 (n:Int)=(((bR n 0 lo:Nat):Int),((bR n n a:Nat):Int)):=by
 have b:¬((1:Int)<0):=by omega
 unfold P1;simp only[b,if_false];refine UB ?_ ?_;.cases lo with
  |none=>rfl|some v=>exact sI v n 0
 .cases a with
  |none=>rfl|some v=>exact sI v n n
theorem qX(i j:Nat):OY (i:Int) (j:Int) 1=j-i:=by
 unfold OY;have a:(1:Int)>0:=by omega
 simp only[a,if_true,Int.ediv_one];split<;>omega
theorem kf{v:Mt}{o:Option Int}{Q:Option Int->Mz->Prop}(p:Q8 v o)(h:Q o s):wpAny (ML prog w) A (Builtin.Slice.slicePartIndex v) Q E s:=by cases p with
 |none=>exact slicePart_none h|int i t=>exact slicePart_int h
theorem d3{f:MB}{e d:Mt}{lo b:Option Int}{n:Nat}{Q:Int×Int×Nat->Mz->Prop}(g:s.heap.IsSliceOf f e d .none)(pl:Q8 e lo)(pu:Q8 d b)(h:Q (((bR n 0 lo:Nat):Int),1,bR n n b-bR n 0 lo) s):wpAny (ML prog w) A (Ro (.ref f) (pure (n:Int))) Q E s:=by
 obtain⟨os,a,i,c⟩:=id g;unfold Ro Builtin.Slice.sliceFields;refine Ms (Ms (Nw a c (x:=e) rfl (Ms (Nw a c (x:=d) rfl (Ms (Nw a c (x:=.none) rfl (Mx ?_)))))));refine Ms (slicePart_none ?_);show wpAny _ _ (if((1:Int)==0)=Mv then _ else _) _ _ s;rw[if_neg (by decide)];refine Ms (kf pl (Ms (kf pu (Ms (Mx ?_)))));show wpAny _ _ (match P1 lo b 1 (n:Int)with|(lo,b)=>pure (lo,(1:Int),OY lo b 1)) _ _ s;rw[qW lo b n];show wpAny _ _ (pure (((bR n 0 lo:Nat):Int),(1:Int),OY ((bR n 0 lo:Nat):Int) ((bR n n b:Nat):Int) 1)) _ _ s;rw[qX];exact Mx h
theorem v9(xs:Array Mt)(i k:Nat):((N_ k).filterMap λ(m:Nat)=>xs[((i:Int)+(m:Int)*1).toNat]?).toArray=((xs.toList.drop i).take k).toArray:=by
 have e:(λ(m:Nat)=>xs[((i:Int)+(m:Int)*1).toNat]?)=λm=>xs[i+m]?:=by
  funext m;have:((i:Int)+(m:Int)*1).toNat=i+m:=by omega
  rw[this]
 rw[e];have:=pick_run xs i k;rw[List.filterMap_map]at this;have a:((λx=>xs[x]?)∘λx=>i+x)=λm=>xs[i+m]?:=rfl;rw[a]at this;rw[this]
theorem hV{t d:MB}{items:Array Mt}{k j:Mt}{lo b:Option Int}{Q:Mt->Mz->Prop}(c:S0 s.heap t items)(l:s.heap.IsSliceOf d k j .none)(pl:Q8 k lo)(pu:Q8 j b)(hw:¬(bR items.size 0 lo=0/\bR items.size items.size b=items.size))(h:Q (.ref s.heap.objs.size) {s with heap:=s.heap.push {cls:=.type "tuple",data:=.seq ((items.toList.drop (bR items.size 0 lo)).take (bR items.size items.size b-bR items.size 0 lo)).toArray}})(hsz:items.size<=MA):wpAny (ML prog w) A (RC (.ref t) (.ref d)) Q E s:=by
 have a:sizeOk (.seq ((items.toList.drop (bR items.size 0 lo)).take (bR items.size items.size b-bR items.size 0 lo)).toArray):=by
  show((items.toList.drop (bR items.size 0 lo)).take (bR items.size items.size b-bR items.size 0 lo)).toArray.size<=MA;rw[MJ,QL,RX,NQ];omega
 have r:bR items.size items.size b<=items.size:=CI _ _ (MO _) b;obtain⟨os,e,g,n⟩:=id l;have i:s.TypeIs (.ref d) "slice":=⟨os,e,g⟩;unfold RC;try with_reducible refine Na ?_
 first|refine Ms (Mx ?_)|skip
 refine Ms (T3 c.typeIs (by decide) ?_);refine Ms (Nm (name:=Mr "__getitem__") c.typeIs Oq (Nr Oq c.typeIs entry_tuple_getitem ?_ (TH _ _)));show wpAny _ _ (PN (.ref t)>>=_) _ _ s;refine Ms (tupleItemsOf_ c ?_);refine Ms (Rf i ?_);rw[if_pos (by decide)];refine Ms (d3 l pl pu ?_);have f:¬((((bR items.size 0 lo:Nat):Int)==0&&(1:Int)==1&&(bR items.size items.size b-bR items.size 0 lo)==items.size)=Mv):=by
  intro q;rw[MG,MG]at q;have p:((bR items.size 0 lo:Nat):Int)=0:=eq_of_beq q.1.1;have o:bR items.size items.size b-bR items.size 0 lo=items.size:=eq_of_beq q.2;exact hw ⟨by omega,by omega⟩
 show wpAny _ _ (if(((bR items.size 0 lo:Nat):Int)==0&&(1:Int)==1&&(bR items.size items.size b-bR items.size 0 lo)==items.size)=Mv then _ else _) _ _ s;rw[if_neg f,v9];first
  |exact Ms (m:=O_ _) (Nl (Mx ⟨_,rfl,Mx h⟩) a)|exact Ms (m:=O_ _) (Nl (Ms (Mx (Mx ⟨_,rfl,Mx h⟩))) a)|exact Ms (Ms (m:=O_ _) (Nl (Mx (Mx ⟨_,rfl,Mx h⟩)) a))|exact Ms (Ms (m:=O_ _) (Nl (Mx ⟨_,rfl,Mx h⟩) a))
end
end HT
namespace L2
open PySem PySem.Spec PyProof.Rows
abbrev TO:=St->Hp->(Option Int->Hp->Prop)->Prop
noncomputable def PO(X:Cx)(e:Option MP)(t:TO):Prop:=∀(a:List (MB×NI))(s:Mz)(b:St)(H:Hp)(Q:Option Int->Hp->Prop),Inv X a b H s->t b H Q->wpAny (ML X.prog X.w) X.A (evalPart e X.env) (λu d=>∃o c,Inv X a b c d/\Q8 u o/\Q o c) X.xe s
noncomputable def zo:TO:=λ_ H Q=>Q Mu H
noncomputable def Gh(t:TE):TO:=λa H Q=>t a H λx b=>∃i,x=.int i/\Q (Mq i) b
theorem intsAre_of{ns:List Int}:∀{us:List Mt},au (ns.map V.int) us->O6 us ns:=by induction ns with
 |nil=>intro us r;rw[Oi]at r;cases r;exact .nil|cons n ns c=>
  intro us r;rw[MT]at r;cases r with|cons b a=>
   obtain⟨t,e⟩:=b;subst e;exact .cons n t (c a)
section
variable{X:Cx}{e:MP}{te:TE}{lo hi:Option MP}{tl th:TO}{pos p2:Oc}
theorem sJ:PO X Mu zo:=by
 intro a s b H Q I h;rw[evalPart_none];exact Mx ⟨Mu,H,I,.none,h⟩
theorem sL(h:PE X e te):PO X (Mq e) (Gh te):=by
 intro a s c H Q I hw;rw[evalPart_some];refine a_ (h a s c H _ I hw) λu s1 b=>?_;obtain⟨x,j,g,d,f⟩:=b;obtain⟨i,rfl,q⟩:=f;obtain⟨t,rfl⟩:=d;exact⟨Mq i,j,g,.int i t,q⟩
noncomputable def JU(X:Cx)(r:V->Option Int->Option Int->Hp->VK->Prop):Prop:=∀(a:List (MB×NI))(s:Mz)(b:St)(H:Hp)(x:V)(v d c:Mt)(lo hi:Option Int)(f:MB)(Q:VK),Inv X a b H s->RelV x v->s.heap.IsSliceOf f d c .none->Q8 d lo->Q8 c hi->r x lo hi H Q->∃T id,UC (.type T) "__getitem__"=pure (Mq (.builtin id))/\s.TypeIs v T/\wpAny (ML X.prog X.w) X.A (RC v (.ref f)) (EP X a b Q) X.xe s
noncomputable def LU(r:V->Option Int->Option Int->Hp->VK->Prop)(te:TE)(tl th:TO):TE:=λa H Q=>te a H λx d=>tl a d λl c=>th a c λu b=>r x l u b Q
theorem oU{r:V->Option Int->Option Int->Hp->VK->Prop}(B:JU X r)(E:PE X e te)(C:PO X lo tl)(hu:PO X hi th):PE X (.Subscript e (.Slice lo hi Mu p2) pos) (LU r te tl th):=by
 intro a s i H Q I h;refine Subscript_ (a_ (E a s i H _ I h) λv s1 g=>?_);obtain⟨x,N,L,o,y⟩:=g;refine wpAny_Slice (a_ (C a s1 i N _ L y) λm s2⟨l,M,K,pl,t⟩=>a_ (hu a s2 i M _ K t) λk c g=>?_);obtain⟨u,n,J,pu,p⟩:=g;rw[evalPart_none];refine Mx ?_;have G:Inv X a i n {c with heap:=c.heap.push {cls:=.type "slice",data:=.fields #[m,k,.none]}}:=J.kept (t':=c.toks) λb ob q=>My _ q;obtain⟨T,id,F,z,D⟩:=B a {c with heap:=c.heap.push {cls:=.type "slice",data:=.fields #[m,k,.none]}} i n x v m k l u c.heap.objs.size Q G o (Heap.IsSliceOf.new ..) pl pu p;show wpAny (ML X.prog X.w) X.A (Tv e (.Slice lo hi Mu p2) v (.ref c.heap.objs.size)) (EP X a i Q) X.xe {c with heap:=c.heap.push {cls:=.type "slice",data:=.fields #[m,k,.none]}};exact tail_any (ops:=[.ref c.heap.objs.size,v]) z F D (by with_unfolding_all rfl)
noncomputable def nH(xs:List V)(lo hi:Option Int):List V:=(xs.drop (HT.bR xs.length 0 lo)).take (HT.bR xs.length xs.length hi-HT.bR xs.length 0 lo)
theorem jr(xs:List V)(lo hi:Option Int):(nH xs lo hi).length<=xs.length:=by
 unfold nH;rw[QL,RX];omega
noncomputable def JV(K:MF):R2:=λx y H Q=>∃a b ns c,x=.ref a/\y=.ref b/\iQ K H a (ns.map V.int)/\iQ K H b (c.map V.int)/\Q (.bl (HT.lexLt ns c)) H
theorem CJ(hu:X.A.units<NB):jq X (Nd .Lt) (JV X.K):=by
 intro f s p H x y v u Q I j i h;obtain⟨a,b,ns,g,rfl,rfl,ha,hb,q⟩:=h;cases j;cases i;obtain⟨d,l,m,_⟩:=I.tuple ha;obtain⟨c,k,p2,_⟩:=I.tuple hb;have o:O6 d.toArray.toList ns:=intsAre_of l;have n:O6 c.toArray.toList g:=intsAre_of k;exact HT.j_ m p2 o n hu ⟨.bl (HT.lexLt ns g),H,I,rfl,q⟩
theorem au.sM{xs:List V}{us:List Mt}(r:au xs us):us=[]↔xs=[]:=by cases r with
 |nil=>simp|cons _ _=>simp
end
end L2
namespace L2
open PySem PySem.Spec PyProof.Rows
noncomputable def By(n:Nat)(i:Int):Option Nat:=if 0<=i then(if i<n then Mq i.toNat else Mu)else if-(n:Int)<=i then Mq (i+n).toNat else Mu
noncomputable def fu{a:Type}(xs:List a)(i:Int):Option a:=(By xs.length i).bind λj=>xs[j]?
theorem sN{n:Nat}{i:Int}{j:Nat}(h:By n i=Mq j):Tj i n=Mq j/\j<n/\-(n:Int)<=i/\i<n:=by
 unfold By at h;by_cases b:0<=i
 .rw[if_pos b]at h;by_cases a:i<n
  .rw[if_pos a]at h;have e:i.toNat=j:=MD h;exact⟨by rw[Ui b a,e],by omega,by omega,a⟩
  .rw[if_neg a]at h;cases h
 .rw[if_neg b]at h;by_cases a:-(n:Int)<=i
  .rw[if_pos a]at h;have e:(i+n).toNat=j:=MD h;exact⟨by rw[T4 (by omega) a,e],by omega,a,by omega⟩
  .rw[if_neg a]at h;cases h
theorem nI{a:Type}{xs:List a}{i:Int}{v:a}(h:fu xs i=Mq v):∃j,Tj i xs.length=Mq j/\xs[j]?=Mq v/\j<xs.length/\-(xs.length:Int)<=i/\i<xs.length:=by
 unfold fu at h;cases e:By xs.length i with
 |none=>rw[e]at h;cases h|some j=>
  rw[e]at h;obtain⟨f,d,c,b⟩:=sN e;exact⟨j,f,h,d,c,b⟩
theorem cy{a:Type}{xs:List a}{j:Nat}{v:a}(h:xs[j]?=Mq v):fu xs (j:Int)=Mq v:=by
 have b:j<xs.length:=(List.getElem?_eq_some_iff.mp h).1;have e:By xs.length (j:Int)=Mq j:=by
  unfold By;rw[if_pos (by omega),if_pos (by omega)];simp
 unfold fu;rw[e];exact h
noncomputable def jO(b:MP):Prop:=∀o i,Uj b Mw o i=operate [o,i] (RC o i)
noncomputable def v_(X:Cx)(r:R2):Prop:=∀(c a:MP)(b:List (MB×NI))(s:Mz)(d:St)(H:Hp)(x y:V)(v u:Mt)(Q:VK),Inv X b d H s->RelV x v->RelV y u->r x y H Q->Uj a Mw v u=operate [v,u] (RC v u)->wpAny (ML X.prog X.w) X.A (Tv c a v u) (EP X b d Q) X.xe s
noncomputable def LV(X:Cx)(id:String)(r:V->List V->Hp->VK->Prop):Prop:=∀(a:List (MB×NI))(s:Mz)(b:St)(H:Hp)(x:V)(c:List V)(v:Mt)(d:List Mt)(Q:VK),Inv X a b H s->RelV x v->au c d->r x c H Q->wpAny (ML X.prog X.w) X.A (call (.builtin id) (v::d)) (EP X a b Q) X.xe s
section
variable{X:Cx}{a b:MP}{ta tb:TE}{pos:Oc}
theorem v_.or{r j:R2}(h:v_ X r)(h':v_ X j):v_ X (λx y H Q=>r x y H Q\/j x y H Q):=by
 intro c d e s f H x y v u Q I i g q k;rcases q with q|q;.exact h c d e s f H x y v u Q I i g q k
 .exact h' c d e s f H x y v u Q I i g q k
theorem fv{r:R2}(i:v_ X r)(ha:PE X a ta)(hb:PE X b tb)(g:jO b):PE X (.Subscript a b pos) (F_ r ta tb):=by
 intro c s d H Q I h;exact Subscript_ (Cz ha hb I h λv u s2 x y k j f e q=>i a b c s2 d k x y v u Q j f e q (g _ _))
noncomputable def Gi(K:MF):R2:=λx y H Q=>∃p c i v,x=.ref p/\y=.int i/\dI K H p c/\fu c i=Mq v/\Q v H
noncomputable def Gj(K:MF):R2:=λx y H Q=>∃p c i v,x=.ref p/\y=.int i/\iQ K H p c/\fu c i=Mq v/\Q v H
noncomputable def Gk:R2:=λx y H Q=>∃z i c,x=.str z/\y=.int i/\z.length<=MA/\fu z.cps.toList i=Mq c/\Q (.str ⟨#[c]⟩) H
theorem cz:v_ X (Gi X.K):=by
 intro f g c s n H x y v u Q I E D h o;obtain⟨p,O,i,z,rfl,rfl,F,J,q⟩:=h;cases E;obtain⟨t,rfl⟩:=D;obtain⟨l,r,pl,P⟩:=I.list F;obtain⟨j,e,N,S,M,L⟩:=nI J;obtain⟨w,B,k⟩:=r.get N;have G:=r.length;have R:=gE;have d:EP X c n Q w s:=⟨z,H,I,k,q⟩;by_cases A:0<=i
 .have m:i.toNat=j:=by
   rw[Ui A L]at e;exact MD e
  exact item_listR pl.isList A (by omega) (by rw[m];simpa using B) d o
 .have m:(i+(l.toArray.size:Int)).toNat=j:=by
   rw[T4 (by omega) M]at e;rw[MJ,<-G];exact MD e
  exact Sk (x:=w) pl.isList.typeIs slot_list_getitem.lookup (wpAny_getItem_list_neg (Q:=λr C=>r=w/\EP X c n Q r C) pl.isList (by omega) (by rw[MJ]<;>omega) (by omega) (by rw[m];simpa using B) ⟨rfl,d⟩) o
theorem CK:v_ X (Gj X.K):=by
 intro d e c s k H x y v u Q I n m h A;obtain⟨p,J,i,z,rfl,rfl,B,D,q⟩:=h;cases n;obtain⟨t,rfl⟩:=m;obtain⟨o,r,pl,L⟩:=I.tuple B;obtain⟨j,F,E,P,O,N⟩:=nI D;obtain⟨w,G,f⟩:=r.get E;have C:=r.length;have M:=gE;have g:EP X c k Q w s:=⟨z,H,I,f,q⟩;exact Sk (x:=w) pl.typeIs slot_tuple_getitem.lookup (getItem_tuple (j:=j) (Q:=λr l=>r=w/\EP X c k Q r l) pl (by omega) (by omega) (by rw[MJ,<-C];exact F) (by simpa using G) ⟨rfl,g⟩) A
theorem CL:v_ X Gk:=by
 intro d e f s C H x y v u Q I l k h m;obtain⟨z,i,c,rfl,rfl,E,o,q⟩:=h;obtain⟨t,rfl⟩:=l;obtain⟨D,rfl⟩:=k;obtain⟨j,g,w,G,r,p⟩:=nI o;have n:z.cps.toList.length=z.length:=by simp[Str.length]
 rw[n]at g r p;have F:=gE;exact tail_any (UD s z t) slot_str_getitem.lookup (getItem_str (c:=c) (by
  have B:decide (i< -(2^63:Int))=Mw:=decide_eq_false (by omega);have A:decide (i>=2^63)=Mw:=decide_eq_false (by omega);rw[B,A,Bool.or_false]) (by rw[g];simpa using w) ⟨.str ⟨#[c]⟩,H,I.tok _,⟨_,rfl⟩,q⟩) m
noncomputable def LW(K:MF):R2:=λx y H Q=>Gi K x y H Q\/Gj K x y H Q\/Gk x y H Q
theorem CM:v_ X (LW X.K):=cz.or (CK.or CL)
theorem qY(c:List Mt)(n j:Nat)(u:Mt):OG (·.setIfInBounds j u) {cls:=.type "list",data:=.seq c.toArray n}={cls:=.type "list",data:=.seq (c.set j u).toArray n}:=by simp[OG]
theorem Inv.lst{d:List (MB×NI)}{f:St}{H:Hp}{s:Mz}{p:MB}{xs:List V}(I:Inv X d f H s)(h:H p=Mq (.lst xs)):∃(c:List Mt)(n:Nat),au xs c/\s.heap.get? p=Mq {cls:=.type "list",data:=.seq c.toArray n}/\xs.length<=MA:=by
 obtain⟨z,c,n,r,e⟩:=I.aV p _ h;exact⟨c,n,r,e,z⟩
theorem Inv.CN{c:List (MB×NI)}{i:St}{H:Hp}{s:Mz}{p:MB}{xs ys:List V}{d its':List Mt}{n g:Nat}{f:NI->NI}(I:Inv X c i H s)(h:H p=Mq (.lst xs))(l:s.heap.get? p=Mq {cls:=.type "list",data:=.seq d.toArray n})(j:f {cls:=.type "list",data:=.seq d.toArray n}={cls:=.type "list",data:=.seq its'.toArray g})(r:au ys its')(k:ys.length<=MA)(t:Nat):Inv X c i (upd H p (.lst ys)) {s with heap:=s.heap.update p f,toks:=t}:=by
 have e:(s.heap.update p f).get? p=Mq {cls:=.type "list",data:=.seq its'.toArray g}:=by rw[OV f l (by rw[j]<;>rfl),j]
 refine I.write (x:=p) (e:=p) (by rw[h];trivial) (.inl rfl) (λb u hb q=>(N2 _ _ (Nj hb)).trans q) ⟨_,e⟩ ?_;exact⟨k,its',g,r,e⟩
noncomputable def Gm:V->V->V->Hp->(Hp->Prop)->Prop:=λo i v H Q=>∃p c k j,o=.ref p/\i=.int k/\H p=Mq (.lst c)/\By c.length k=Mq j/\Q (upd H p (.lst (c.set j v)))
theorem set_list:F6 X Gm:=by
 intro c s B H o i v J iv u Q I ro E D h;obtain⟨p,C,k,j,rfl,rfl,m,G,q⟩:=h;cases ro;obtain⟨t,rfl⟩:=E;obtain⟨d,n,r,f,F⟩:=I.lst m;obtain⟨e,L,y,x⟩:=sN G;have g:=r.length;have K:=gE;have A:Inv X c B (upd H p (.lst (C.set j v))) {s with heap:=s.heap.update p (OG (·.setIfInBounds j u))}:=I.CN m f (qY d n j u) (r.set D j) (by rw[List.length_set];exact F) s.toks;by_cases z:0<=k
 .have l:k.toNat=j:=by
   rw[Ui z x]at e;exact MD e
  exact PySem.W.ki_setAt f z (by omega) (by rw[MJ,<-g];exact x) (by rw[l];exact⟨_,A,q⟩)
 .have l:(k+(d.toArray.size:Int)).toNat=j:=by
   rw[T4 (by omega) y]at e;rw[MJ,<-g];exact MD e
  exact PySem.W.ki_setBack f (by omega) (by rw[MJ,<-g];exact y) (by omega) (by rw[l];exact⟨_,A,q⟩)
theorem nJ(lo c:Option Int)(n:Nat):(Qj lo c Mu n).1=((HT.bR n 0 lo:Nat):Int)/\(Qj lo c Mu n).2.1=((HT.bR n n c:Nat):Int)/\(Qj lo c Mu n).2.2=1:=by
 refine⟨?_,?_,rfl⟩;.cases lo with
  |none=>simp[Qj,HT.bR]|some i=>
   simp only[Qj,HT.bR,RY,show(1:Int)>0 by decide,if_true];by_cases h:i<0;.simp only[h,if_true]<;>omega
   .simp only[h,if_false]<;>omega
 .cases c with
  |none=>simp[Qj,HT.bR]|some i=>
   simp only[Qj,HT.bR,RY,show(1:Int)>0 by decide,if_true];by_cases h:i<0;.simp only[h,if_true]<;>omega
   .simp only[h,if_false]<;>omega
theorem lY(c:List Mt)(lo d:Option Int):slicePick c.toArray lo d Mu=((c.drop (HT.bR c.length 0 lo)).take (HT.bR c.length c.length d-HT.bR c.length 0 lo)).toArray:=by
 obtain⟨g,f,e⟩:=nJ lo d c.toArray.size;unfold slicePick;rw[g,f,e];simp only[sliceRange_one,pick_run,MJ]<;>rfl
noncomputable def JW(K:MF):V->Option Int->Option Int->Hp->VK->Prop:=λx lo d H Q=>∃a c,x=.ref a/\dI K H a c/\∀p,H p=Mu->Q (.ref p) (upd H p (.lst (nH c lo d)))
theorem sO:JU X (JW X.K):=by
 intro f s n H x v t p lo e u Q I i m pl pu h;obtain⟨a,c,rfl,l,q⟩:=h;cases i;obtain⟨j,r,g,k⟩:=I.list l;have d:=r.length;refine⟨"list",_,slot_list_getitem.lookup,g.isList.typeIs,?_⟩;refine wpAny_getItem_list_slice g.isList m pl pu .none (by simp) ?_ (by rw[MJ]<;>omega);rw[lY,<-d];refine⟨.ref s.heap.objs.size,_,I.laid (t':=s.toks) (o:=.lst (nH c lo e)) (λb ob q=>My _ q) (MO _) ?_,rfl,q _ (I.aV.fresh (MO _))⟩;exact⟨Nv (jr c lo e) k,_,0,(r.drop (HT.bR c.length 0 lo)).take (HT.bR c.length c.length e-HT.bR c.length 0 lo),MK _ rfl⟩
theorem eL:dA X (.builtin "len") (λxs H Q=>∃p ys,xs=[.ref p]/\(dI X.K H p ys\/iQ X.K H p ys)/\Q (.int ys.length) H):=by
 intro g s k H xs l Q I r h;obtain⟨p,ys,rfl,d,q⟩:=h;obtain⟨u,rfl,i⟩:=vals1 r;cases i;have m:=gE;rcases d with d|d
 .obtain⟨f,e,pl,j⟩:=I.list d;have c:=e.length;exact Tp pl.isList (by simp only[MJ]<;>omega) ⟨.int ys.length,H,I.tok _,⟨s.toks+1,by rw[MJ,c]⟩,q⟩
 .obtain⟨f,e,pl,j⟩:=I.tuple d;have c:=e.length;exact len_tuple pl (by simp only[MJ]<;>omega) ⟨.int ys.length,H,I.tok _,⟨s.toks+1,by rw[MJ,c]⟩,q⟩
theorem hW:dA X (.type "list") (λxs H Q=>∃p ys,xs=[.ref p]/\(dI X.K H p ys\/iQ X.K H p ys)/\∀l,H l=Mu->Q (.ref l) (upd H l (.lst ys))):=by
 intro i s z H xs B Q I r h;obtain⟨p,ys,rfl,k,q⟩:=h;obtain⟨u,rfl,A⟩:=vals1 r;cases A;have t:∀(c:List Mt),au ys c->ys.length<=MA->∀(d:M7)(g:Nat),(∀b y,s.heap.get? b=Mq y->d.get? b=Mq y)->d.get? s.heap.objs.size=Mq {cls:=.type "list",dict:=Mu,data:=.seq c.toArray g,slots:=#[]}->EP X i z Q (.ref s.heap.objs.size) {s with heap:=d}:=λc f j d g kp e=>⟨.ref s.heap.objs.size,_,I.laid (t':=s.toks) kp (MO _) (show bW X.prog X.w _ d _ (.lst ys)from⟨j,c,g,f,e⟩),rfl,q _ (I.aV.fresh (MO _))⟩;rcases k with k|k
 .obtain⟨c,f,pl,j⟩:=I.list k;have m:=f.length;obtain⟨o,v,x,n,hd⟩:=pl.isList;exact call_list_seq p (.inl rfl) v x hd (λd g kp e=>t c f j d g kp e) (by simp only[MJ]<;>omega)
 .obtain⟨c,f,pl,j⟩:=I.tuple k;have m:=f.length;obtain⟨o,v,x,n,hd⟩:=pl;exact call_list_seq p (.inr rfl) v x hd (λd g kp e=>t c f j d g kp e) (by simp only[MJ]<;>omega)
theorem lZ:dA X (.type "tuple") (λxs H Q=>∃p ys,xs=[.ref p]/\((dI X.K H p ys/\∀l,H l=Mu->Q (.ref l) (upd H l (.tup ys)))\/(iQ X.K H p ys/\Q (.ref p) H))):=by
 intro c s k H xs A Q I r h;obtain⟨p,ys,rfl,h⟩:=h;obtain⟨u,rfl,x⟩:=vals1 r;cases x;rcases h with⟨j,q⟩|⟨j,q⟩
 .obtain⟨d,i,pl,m⟩:=I.list j;have n:=i.length;refine call_tuple_list pl.isList (λg kp=>?_) (by simp only[MJ]<;>omega);have v:Inv X c k H {s with heap:=g}:=I.kept (t':=s.toks) kp;have z:Inv X c k (upd H g.objs.size (.tup ys)) {s with heap:=g.push {cls:=.type "tuple",data:=.seq d.toArray}}:=v.laid (t':=s.toks) (λb o e=>My _ e) (MO _) (show bW X.prog X.w _ _ _ (.tup ys)from⟨m,d,i,Ud _ _⟩);exact⟨.ref g.objs.size,_,z,rfl,q _ (v.aV.fresh (MO _))⟩
 .obtain⟨d,i,pl,m⟩:=I.tuple j;exact call_tuple_same pl ⟨.ref p,H,I,rfl,q⟩
noncomputable def Lv(K:MF)(T:String)(x:V)(H:Hp):Prop:=match x with
 |.str _=>T="str"|.int _=>T="int"|.ref p=>(T="list"/\∃d,dI K H p d)\/(T="tuple"/\∃o,K.lookup p=Mq o/\o.cls=.type "tuple"/\o.dict=Mu)\/(T="dict"/\((∃c,H p=Mq (.dK c))\/∃c,H p=Mq (.dT c)))\/(T="set"/\∃S n,H p=Mq (.set S n))|_=>False
theorem CO{f:List (MB×NI)}{j:St}{H:Hp}{s:Mz}{T:String}{x:V}{v:Mt}(I:Inv X f j H s)(r:RelV x v)(ty:Lv X.K T x H):s.TypeIs v T/\∀a,v=.ref a->∃ob,s.heap.get? a=Mq ob/\ob.dict=Mu:=by cases x with
 |str z=>
  obtain⟨t,rfl⟩:=r;cases(show T="str"from ty);exact⟨UD s z t,λ_ e=>nomatch e⟩|int i=>
  obtain⟨t,rfl⟩:=r;cases(show T="int"from ty);exact⟨typeIs_int s i t,λ_ e=>nomatch e⟩|ref p=>
  cases r;rcases ty with⟨rfl,q,l⟩|⟨rfl,o,d,m,hd⟩|⟨rfl,d⟩|⟨rfl,S,n,d⟩
  .obtain⟨k,_,pl,_⟩:=I.list l;refine⟨pl.isList.typeIs,λa e=>?_⟩;cases e;obtain⟨o,n,e,c,hd,_⟩:=pl;exact⟨o,e,hd⟩
  .refine⟨⟨o,I.zd p o d,m⟩,λa e=>?_⟩;cases e;exact⟨o,I.zd _ o d,hd⟩
  .have z:∃o,s.heap.get? p=Mq o/\o.ExactDict:=by
    rcases d with⟨g,d⟩|⟨g,d⟩
    .obtain⟨_,_,_,_,o,_,_,e,ex,_⟩:=I.aV p _ d;exact⟨o,e,ex⟩
    .obtain⟨_,_,_,_,o,_,_,e,ex,_⟩:=I.aV p _ d;exact⟨o,e,ex⟩
   obtain⟨o,e,ex⟩:=z;refine⟨⟨o,e,ex.1⟩,λa h=>?_⟩;cases h;exact⟨o,e,ex.2.1⟩
  .obtain⟨o,_,_,_,e,ex,_⟩:=I.aV p _ d;refine⟨⟨o,e,ex.1⟩,λa h=>?_⟩;cases h;exact⟨o,e,ex.2.1⟩|_=>exact Oh ty
noncomputable def JX(K:MF)(T:String)(r:V->List V->Hp->VK->Prop)(to:TE)(t:TA):TE:=λc H Q=>to c H λx d=>Lv K T x d/\t c d λe f=>r x e f Q
variable{o e:MP}{es:List MP}{to:TE}{t:TA}{name:MR}{apos cpos:Oc}{T id:String}{r:V->List V->Hp->VK->Prop}
theorem sP(pa:PlainAttrs T)(slot:Slot T name id)(l:UO (.builtin id)=pure (.type "method_descriptor"))(C:LV X id r)(B:PE X o to)(ha:PA X (e::es) t)(g:RK o name X.env (OB o X.env)=OB o X.env:=by rfl)(i:((PF cpos (MX (e::es) X.env)).all (λx=>!x.1)&&(backToKw cpos (keywordEach [] X.env)).all (λx=>x.1.isSome)&&decide ((e::es).length+([]:List Keyword).length+(if([]:List Keyword).isEmpty then 0 else 1)<30))=Mv:=by rfl)(f:(apos.endLine==cpos.line)=Mv:=by rfl)(A:MX (e::es) X.env=(Mw,OB e X.env)::MX es X.env:=by rfl)(d:(PF cpos (MX es X.env)).any (·.1)=Mw:=by rfl):PE X (.Call (.Attribute o name apos) (e::es) [] cpos) (JX X.K T r to t):=by
 intro c s j H Q I h;refine wpAny_Call_method_late g i f rfl (a_ (B c s j H _ I h) λv s1 k=>?_);obtain⟨x,J,p,m,ty,z⟩:=k;obtain⟨E,D⟩:=CO p m ty;refine⟨T,id,pa,slot,l,E,D,?_⟩;have n:=ha cpos c s1 j J _ p z;rw[A]at n⊢;refine Calls.callWith_builtin (by show(Mw||(PF cpos (MX es X.env)).any (·.1))=Mw;rw[d]<;>rfl) (Calls.evalArgs_plain ?_);exact a_ n λu s2⟨q,G,F,w,y⟩=>C c s2 j G x q v u Q F m w y
end
end L2
namespace L2
open PySem PySem.Spec PyProof.Rows
noncomputable def JY(X:Cx)(id:String)(r:V->List V->Hp->VK->Prop):Prop:=∀(a:List (MB×NI))(s:Mz)(b:St)(H:Hp)(x:V)(c:List V)(v:Mt)(d:List Mt)(Q:VK),Inv X a b H s->RelV x v->au c d->r x c H Q->wpAny (ML X.prog X.w) X.A (call (.builtin id) (v::d)) (EP X a b Q) X.xe s
theorem au.one:∀{x:V}{us:List Mt},au [x] us->∃u,us=[u]/\RelV x u|_,_,.cons r .nil=>⟨_,rfl,r⟩
theorem au.eraseIdx:∀{xs:List V}{us:List Mt}(i:Nat),au xs us->au (xs.eraseIdx i) (us.eraseIdx i)
 |_,_,_,.nil=>.nil|_,_,0,.cons _ t=>t|_,_,i+1,.cons r t=>.cons r (au.eraseIdx i t)
theorem mv{a:Type}:∀(l:List a)(i:Nat),(l.eraseIdx i).length<=l.length
 |[],_=>MO _|_::_,0=>Qk _|_::r,i+1=>Nat.succ_le_succ (mv r i)
section
variable{X:Cx}{pins:List (MB×NI)}{σ:St}{H:Hp}{s:Mz}{l b:MB}{xs ys zs:List V}
theorem Inv.CP{a its':List Mt}{n:Nat}{f:Array Mt->Array Mt}{t':Nat}(I:Inv X pins σ H s)(h:H l=Mq (.lst xs))(e:s.heap.get? l=Mq {cls:=.type "list",data:=.seq a.toArray n})(g:f a.toArray=its'.toArray)(d:au ys its')(c:ys.length<=MA):Inv X pins σ (upd H l (.lst ys)) {s with heap:=s.heap.update l (OG f),toks:=t'}:=by
 have q:=PySem.IsL.update e f;rw[g]at q;refine I.write (x:=l) (e:=l) (by rw[h];exact trivial) (.inl rfl) (λi u hb hu=>(N2 s.heap (OG f) (Nj hb)).trans hu) ⟨_,q⟩ ?_;exact⟨c,its',_,d,q⟩
theorem Inv.JZ{a:List Mt}{t':Nat}(I:Inv X pins σ H s)(d:au ys a)(c:ys.length<=MA):Inv X pins σ (upd H s.heap.objs.size (.lst ys)) {s with heap:=s.heap.push {cls:=.type "list",data:=.seq a.toArray},toks:=t'}:=I.laid (λ_ _ q=>My _ q) (MO _) ⟨c,a,0,d,MK _ rfl⟩
theorem Inv.fresh(I:Inv X pins σ H s):H s.heap.objs.size=Mu:=I.aV.fresh (MO _)
theorem Inv.CQ(I:Inv X pins σ H s)(c:H l=Mq (.lst xs)):xs.length<=MA/\∃(a:List Mt)(n:Nat),au xs a/\xs.length=a.length/\s.heap.get? l=Mq {cls:=.type "list",data:=.seq a.toArray n}:=by
 obtain⟨z,a,n,r,e⟩:=I.aV l _ c;exact⟨z,a,n,r,r.length,e⟩
theorem wa{n:Nat}(h:n<=MA):P9 n=Mw:=by
 unfold P9;exact decide_eq_false (by omega)
end
section
variable{X:Cx}
noncomputable def zq:V->List V->Hp->VK->Prop:=λx b H Q=>∃l a y,x=.ref l/\b=[y]/\H l=Mq (.lst a)/\a.length<MA/\Q .bH (upd H l (.lst (a++[y])))
theorem mw:JY X "list.append" zq:=by
 intro b s i H x k v m Q I d f h;obtain⟨l,j,y,rfl,rfl,c,o,q⟩:=h;cases d;obtain⟨u,rfl,g⟩:=f.one;obtain⟨z,a,n,r,p,e⟩:=I.CQ c;refine TJ F.slot_list_append ⟨_,e,rfl⟩ F.entry_list_append (F.args_list_append_2 _ _) (PySem.list_append l a.toArray n u (by rw[MJ];omega)) ⟨e,?_⟩;refine⟨.bH,_,I.CP (its':=a++[u]) c e (by simp) (r.append (.cons g .nil)) ?_,rfl,q⟩;rw[Nh,List.length_singleton];omega
noncomputable def wb:V->List V->Hp->VK->Prop:=λx b H Q=>∃l a i k y,x=.ref l/\b=[.int i]/\H l=Mq (.lst a)/\-(2^63)<=i/\i<2^63/\Tj i a.length=Mq k/\a[k]?=Mq y/\Q y (upd H l (.lst (a.eraseIdx k)))
theorem wc:JY X "list.pop" wb:=by
 intro c s D H x E v G Q I g j h;obtain⟨l,f,i,k,y,rfl,rfl,d,C,B,A,o,q⟩:=h;cases g;obtain⟨u,rfl,m⟩:=j.one;obtain⟨t,rfl⟩:=m;obtain⟨z,a,n,r,p,e⟩:=I.CQ d;obtain⟨w,hw,b⟩:=r.get o;refine TJ F.slot_list_pop ⟨_,e,rfl⟩ F.entry_list_pop (F.args_list_pop_2 _ _) (MeetsSeq.list_pop_at l a.toArray n i t k w (fitsIndex_both C B) (by rw[MJ,<-p];exact A) (by rw[<-N6];exact hw) (by rw[MJ];omega)) ⟨e,?_⟩;refine⟨y,_,I.CP (its':=a.eraseIdx k) d e ?_ (r.eraseIdx k) ?_,b,q⟩
 .show a.toArray.eraseIdxIfInBounds k=(a.eraseIdx k).toArray;rw[List.eraseIdxIfInBounds_toArray]
 .have:=mv f k;omega
end
end L2
namespace L2
open PySem PySem.Spec PyProof.Rows
section
variable{κ:Type}[DecidableEq κ]
noncomputable def jF(a:List (κ×V))(k:κ):Option V:=(a.find? λb=>decide (b.1=k)).map (·.2)
noncomputable def putK(a:List (κ×V))(k:κ)(v:V):List (κ×V):=if(a.any λb=>decide (b.1=k))=Mv then a.map (λb=>if b.1=k then(b.1,v)else b)else a++[(k,v)]
theorem oV{p:κ×V}{r:List (κ×V)}{k:κ}(e:p.1=k):jF (p::r) k=Mq p.2:=by simp[jF,Pu,e]
theorem oW{p:κ×V}{r:List (κ×V)}{k:κ}(e:¬p.1=k):jF (p::r) k=jF r k:=by simp[jF,Pu,e]
theorem kh(k:κ):∀a:List (κ×V),(a.any λb=>decide (b.1=k))=(jF a k).isSome
 |[]=>rfl|p::r=>by
  rw[Pa];by_cases e:p.1=k;.simp only[oV e,decide_eq_true e,Bool.true_or,TK]
  .rw[oW e,decide_eq_false e,Bool.false_or];exact kh k r
theorem oQ.mz{o:Option V}{u:Option Mt}(r:oQ o u):o.isSome=u.isSome:=by cases o with
 |none=>cases u with
  |none=>rfl|some _=>exact(show False from r).elim
 |some _=>cases u with
  |none=>exact(show False from r).elim|some _=>rfl
theorem KV.val{a:List (κ×V)}{f:List (κ×Mt)}(r:KV a f)(k:κ):oQ (jF a k) (Tn f k):=by
 unfold KV at r;induction r with
 |nil=>exact True.intro|@cons p q ps c h t i=>
  obtain⟨g,j⟩:=h;by_cases e:p.1=k
  .have d:q.1=k:=g.symm.trans e;have b:Tn (q::c) k=Mq q.2:=by simp[Tn,Pu,d]
   rw[oV e,b];exact j
  .have d:¬q.1=k:=λz=>e (g.trans z);have b:Tn (q::c) k=Tn c k:=by simp[Tn,Pu,d]
   rw[oW e,b];exact i
theorem KV.any{a:List (κ×V)}{c:List (κ×Mt)}(r:KV a c)(k:κ):(a.any λb=>decide (b.1=k))=c.any λb=>decide (b.1=k):=by
 unfold KV at r;induction r with
 |nil=>rfl|cons h t d=>rw[Pa,Pa,d,h.1]
theorem KV.zr{b:List (κ×V)}{d:List (κ×Mt)}(r:KV b d)(k:κ){y:V}{u:Mt}(f:RelV y u):KV (b.map λa=>if a.1=k then(a.1,y)else a) (d.map λa=>if a.1=k then(a.1,u)else a):=by
 unfold KV at r⊢;induction r with
 |nil=>exact .nil|@cons p q ps j h t g=>
  rw[MT,MT];refine .cons ?_ g;obtain⟨c,i⟩:=h;by_cases e:p.1=k;.rw[if_pos e,if_pos (c.symm.trans e)];exact⟨c,f⟩
  .rw[if_neg e,if_neg (λz=>e (c.trans z))];exact⟨c,i⟩
theorem KV.put{a:List (κ×V)}{b:List (κ×Mt)}(r:KV a b)(k:κ){y:V}{u:Mt}(c:RelV y u):KV (putK a k y) (stored b k u):=by
 unfold putK stored;rw[r.any k];by_cases e:(b.any λd=>decide (d.1=k))=Mv;.rw[if_pos e,if_pos e];exact r.zr k c
 .rw[if_neg e,if_neg e];exact Paired.snoc r ⟨rfl,c⟩
end
theorem ki{P:MQ}{w:M6}{k:Key}{u:Mt}(r:RelV (kV k) u):(ax P w).is k u=Mv:=by cases k with
 |inl i=>obtain⟨t,e⟩:=(show∃t,u=Th i t from r);subst e;exact jn P w i t|inr x=>obtain⟨t,e⟩:=(show∃t,u=Uc x t from r);subst e;exact oP P w x t
theorem mB{P:MQ}{w:M6}:∀{ks:List Key}{us:List Mt},au (ks.map kV) us->ItemsAre (ax P w) ks us
 |[],_,r=>by rw[Oi]at r;cases r;exact .nil|k::ks,_,r=>by
  rw[MT]at r;cases r with|cons h t=>exact .cons (ki h) (mB t)
section
variable{X:Cx}{pins:List (MB×NI)}{σ:St}{H:Hp}{s:Mz}{a:MB}{y v:V}{u r:Mt}{o:Option V}{A:Nf}{E:Mt->Mz->Prop}
theorem Inv.I9(I:Inv X pins σ H s):NW<s.heap.objs.size:=by
 have h:Nq<s.heap.objs.size:=(I.mod.glob.keeps I.bk).lt;exact T5 (by decide) h
end
end L2
namespace Att
open PySem PySem.W PySem.Calls PyProof.Rows
theorem jG{P:RL}{h:M7}:∀(ns:List Int)(c:List Mt),WellAll P h c (ns.map WData.int)->O6 c ns:=by
 intro ns;induction ns with
 |nil=>
  intro c w;rw[Oi]at w;cases w;exact .nil|cons n ns d=>
  intro c w;rw[MT]at w;cases w with|cons a b=>
   cases a;exact .cons _ _ (d _ b)
theorem uT{l:OpenLaw}{n:Nat}(v:l.most=Mq n){P:RL}{h:M7}{b:List WData}{vals:List Mt}(c:l.row.toRowW.claim.pre b=Mv)(j:WellAll P h vals b):∃a m ns,vals=[M8 a]/\b=[WData.list (ns.map WData.int)]/\h.get? a=Mq {cls:=.type "list",data:=.seq m.toArray}/\O6 m ns/\ns.length<=n:=by
 have k:WShape.hasAll [] b [.list .int]=Mv:=(pre_splitW c).1;have o:l.pre.holds [] {args:=b}=Mv:=(pre_splitW c).2;obtain⟨d,r,rfl,y,x⟩:=hasAllW_cons k;obtain rfl:=hasAllW_nil x;obtain⟨z,rfl,w⟩:=hasW_list y;obtain⟨ns,rfl⟩:=items_int w;have e:ns.length<=n:=by
  unfold OpenLaw.pre at o;have i:(WTm.not (.lt (.lit (.int (n:Int))) (.len (.arg 0)))).holds [] {args:=[.list (ns.map .int)]}=Mv:=by
   have i:=(holds_andW o).1;rw[v]at i;exact i
  have g:=condW_of i (w_not (w_lt w_lit (w_len_list (w_arg rfl))));rw[M0]at g;refine Nat.le_of_not_lt λq=>?_;have t:(n:Int)<((ns.length:Nat):Int):=by omega
  first
   |(rw[decide_eq_true t]at g;exact absurd g (by decide))|(simp at g;omega)
 cases j with|cons s p=>
  cases p;cases s with|list u f=>exact⟨_,_,ns,rfl,rfl,u,jG ns _ f,e⟩
theorem uU(l:OpenLaw)(a:List WData):l.row.toRowW.claim.post a (.bool Mv) a=Mv:=postW_of (r:=l.row.toRowW) (X:=(Mv==Mv)) (show WShape.has [] (.bool Mv) .bool=Mv by first|rfl|decide|simp[WShape.has,WShape.arms,WShape.armsAll]) (show(WTm.eq .res (.lit (.bool Mv))).value [] {args:=a,res:=Mq (.bool Mv),after:=a}=Mq (.bool (Mv==Mv))from w_eq_bool (w_res rfl) w_lit) rfl
theorem oX{l:OpenLaw}{n:Nat}{q:MQ}{c:List MR}{E:(MR->Option Mt)->M7->Prop}{D:M6->M7->Prop}{d:DefRec}(J:l.most=Mq n)(x:d.params.defaults=[])(call:∀(w:M6)(cc b:Mz)(mg t:MR->Option Mt)(m:MB)(o:NI)(s cd g:Mt)(a:MB)(h:List Mt)(ns:List Int),Ground q c [] E w cc mg t b.heap->D w b.heap->b.heap.get? m=Mq o->o.data=.func (docDef d.name d.params d.body d.scope s cd g)->b.heap.CodeRec cd d.name->mg d.name=Mq (.ref m)->b.heap.get? a=Mq {cls:=.type "list",data:=.seq h.toArray}->O6 h ns->ns.length<=n->b.gens=#[]->codeAny (ML l.prog w) To (.call (.ref m) ⟨[.ref a],[]⟩) (λr p=>r=.ok (.ret (.bool Mv))/\OldK b.heap p.heap/\p.os=b.os/\Rz p.gens) b):WalkO q c E D l.row.toRowW d [] (λf h=>Sl f h):=by
 intro w cc b mg t G Y m o s cd g Q kV I hd y B v M C z R i A F u L;obtain rfl:Q=.none:=Dflts.none B x;obtain rfl:kV=.none:=Dflts.noKw B;obtain⟨a,h,ns,rfl,rfl,j,e,k⟩:=uT J i u;refine enter_call (Sh (call w cc b mg t m o s cd g a h ns G Y I (fd_plain hd) y v j e k M) λr p H=>?_);obtain⟨rfl,P,O,N⟩:=H;exact⟨.inl ⟨.bool Mv,.bool Mv,[],rfl,λ_=>rfl,.bool Mv,uU l _,λ_=>⟨List.Pairwise.nil,λ_ K=>(nomatch K)⟩⟩,P,O,N⟩
end Att
namespace L2
open PySem PySem.Spec PyProof.Rows
theorem mC:∀{a:List Mt}{ns:List Int},O6 a ns->au (ns.map V.int) a
 |_,_,.nil=>.nil|_,_,.cons n t h=>.cons ⟨t,rfl⟩ (mC h)
noncomputable def CS(H:Hp):Prop:=∀b,H b=Mu\/∃o a,H b=Mq (.cv o (.lst a))
theorem we{P:MQ}{w:M6}{K:MF}{mg I:MR->Option Mt}{CX:vF}{k:Nat}{O a:MB}{fd:NX}{x:MR}{sp:Sp}{c:Mz}{j:List Mt}{ns:List Int}(Y:K.In c.heap)(A:c.heap.Ns Nq mg)(hb:c.heap.Ns Sf I)(M:∀x:MR,x≠"__name__"->I x=O5 x)(B:c.heap.NoLimit)(hg:c.gens=#[])(ha:c.heap.get? a=Mq {cls:=.type "list",data:=.seq j.toArray})(T:O6 j ns)(S:ns.length<=MA)(hr:cX k To)(F:∀base:M7,K.In base->base.Ns Nq mg->dZ P w K mg base CX k O fd [x] sp)(l:∀(s:Mz)(u:Mt),UN s fd ⟨[u],[]⟩ [(x,u)])(J:∀H:Hp,CS H->dI K H a (ns.map V.int)->sp [.ref a] H (λv _=>v=.bl Mv) λ_ _ _=>False)(N:∀H e f,CX [] H c (λ_ _ _=>False) e f->False):codeAny (ML P w) To (.call (.ref O) ⟨[.ref a],[]⟩) (λr f=>r=.ok (.ret (.bool Mv))/\OldK c.heap f.heap/\f.os=c.os/\Rz f.gens) c:=by
 have R:=mC T;have t:=T.length;have i:∀H:Hp,CS H->dI K H a (ns.map V.int)->jo P w H c.heap->(∀b,H b≠Mu->b=a)->(H a≠Mu->K.lookup a=Mu)->codeAny (ML P w) To (.call (.ref O) ⟨[.ref a],[]⟩) (λr f=>r=.ok (.ret (.bool Mv))/\OldK c.heap f.heap/\f.os=c.os/\Rz f.gens) c:=by
  intro H U hS aV W hK;have jP:∀{b:MB}{o:NI},c.heap.get? b=Mq o->H b=Mu->(nA c.heap H).get? b=Mq o:=λe n=>vL e n;have G:∀{b:MB}{o:NI}{D:Array Ql}{E:Nat},c.heap.get? b=Mq o->o.data=.dict D E->H b=Mu:=λ{b o D E}e d=>by cases q:H b with
   |none=>rfl|some u=>
    have Q:b=a:=W b (by rw[q];simp);subst Q;rw[ha]at e;cases e;have d':Data.seq j.toArray _=Data.dict D E:=d;cases d'
  have g:∀{b:MB}{m:MR->Option Mt},c.heap.Ns b m->(nA c.heap H).Ns b m:=λ{b m}⟨o,D,E,e,d,r⟩=>⟨o,D,E,jP e (G e d),d,r⟩;have C:K.In (nA c.heap H):=λb o e=>jP (Y b o e) (by cases q:H b with
   |none=>rfl|some u=>
    have Q:b=a:=W b (by rw[q];simp);subst Q;rw[hK (by rw[q];simp)]at e;cases e);have hM:Mod K mg (nA c.heap H):=⟨C,g A,⟨I,g hb,M⟩,let⟨mc,h1,h2⟩:=B;⟨mc,g h1,h2⟩⟩;have e0:zk P w K mg (nA c.heap H) To [] c H:=⟨rfl,hM,λb o e=>zb e,PX (uI _ _),trivial,λb hb=>absurd (show b∈([]:List MB)from hb) (by simp),aV,.of_eq hg⟩;refine Sh ((F _ C (g A)).run To [] c H ⟨[.ref a],[]⟩ [.ref a] [.ref a] _ _ hr e0 (l c (.ref a)) (.cons rfl .nil) (J H U hS)) λr f h=>?_;cases r with
  |error e=>exact(N H e f h).elim|ok fl=>cases fl with
   |next=>exact Oh h|brk=>exact Oh h|cont=>exact Oh h|ret u=>
    obtain⟨v,H',os,bare,un,y,r',q⟩:=h;have q':v=.bl Mv:=q;subst q';obtain rfl:u=Uv Mv:=r';refine⟨rfl,OldK.of_keep λb o e=>?_,os,bare⟩;cases q:H b with
    |none=>exact un.keep b o e q (by intro z;exact absurd (show b∈([]:List MB)from z) (by simp)) (by simp)|some u=>
     rcases U b with z|⟨ob,xs,z⟩;.rw[q]at z;cases z
     .have Z:=un.iR b ob _ z;obtain⟨X,_⟩:=aV b _ z;obtain⟨e2,_⟩:=y b _ Z;rw[e]at X;cases X;exact e2
 cases L:K.lookup a with
 |some o=>
  have e:=Y a o L;rw[ha]at e;cases e;refine i (λ_=>Mu) (λ_=>.inl rfl) (.inr ⟨_,j.toArray,_,L,rfl,rfl,rfl,by rw[MJ,t];exact S,by simpa using R⟩) (λb u z=>by have p:(Mu:Option HO)=Mq u:=z;cases p) (λb z=>absurd rfl z) λz=>absurd rfl z|none=>
  refine i (λb=>if b=a then Mq (.cv {cls:=.type "list",data:=.seq j.toArray} (.lst (ns.map V.int)))else Mu) (λb=>?_) (.inl (.inr ⟨{cls:=.type "list",data:=.seq j.toArray},if_pos rfl⟩)) (λb u z=>?_) (λb z=>?_) λ_=>L
  .by_cases hb:b=a;.exact .inr ⟨_,_,if_pos hb⟩
   .exact .inl (if_neg hb)
  .by_cases hb:b=a
   .have p:=(if_pos hb).symm.trans z;cases p;subst hb;exact⟨ha,by rw[M0];exact S,j,_,R,ha⟩
   .have p:=(if_neg hb).symm.trans z;cases p
  .by_cases hb:b=a;.exact hb
   .exact absurd (if_neg hb) z
end L2
namespace L2
open PySem PySem.Spec PyProof.Rows
theorem zt{l:PySem.W.OpenLaw}{n k:Nat}{q:MQ}{i:List MR}{U:(MR->Option Mt)->M7->Prop}{E:M6->M7->Prop}{d:DefRec}{K:RL->MF}{CX:M6->vF}{sp:M6->Sp}{x:MR}(L:l.most=Mq n)(z:n<=MA)(B:d.params.defaults=[])(J:cX k To)(O:∀(w:M6)(h:M7),E w h->(K w.params).In h)(F:∀(w:M6)(mg:MR->Option Mt)(r:MB)(h:M7),(K w.params).In h->h.Ns Nq mg->mg d.name=Mq (.ref r)->∃fd:NX,(∀(s:Mz)(u:Mt),UN s fd ⟨[u],[]⟩ [(x,u)])/\∀base:M7,(K w.params).In base->base.Ns Nq mg->dZ l.prog w (K w.params) mg base (CX w) k r fd [x] (sp w))(y:∀(w:M6)(H:Hp)(a:MB)(ns:List Int),ns.length<=n->CS H->dI (K w.params) H a (ns.map V.int)->sp w [.ref a] H (λv _=>v=.bl Mv) λ_ _ _=>False)(C:∀(w:M6)(H:Hp)(s:Mz)(e:Mt)(t:Mz),CX w [] H s (λ_ _ _=>False) e t->False):PySem.W.WalkO q i U E l.row.toRowW d [] (λf D=>Sl f D):=by
 refine Att.oX L B λw cc m mg Z r o X cd S a D ns G Y ho hd N A p j c M=>?_;have I:=O w _ Y;obtain⟨fd,hb,R⟩:=F w mg r _ I G.T.g A;exact we I G.T.g G.T.b G.T.builtins G.T.nolimit M p j (Nv c z) J R hb (λH Q P=>y w H a ns c Q P) λH e t=>C w H m e t
end L2
namespace L2
open PySem PySem.Spec PyProof.Rows
noncomputable def cY(s:Ou):RV:=match s with
 |.FunctionDef _ a _ _ _ _ _ _ _ _=>a|_=>{posonlyargs:=[],args:=[],vararg:=Mu,kwonlyargs:=[],kw_defaults:=[],kwarg:=Mu,defaults:=[]}
noncomputable def bY(s:Ou):List Ou:=match s with
 |.FunctionDef _ _ b _ _ _ _ _ _ _=>b|_=>[]
noncomputable def ar(s:Ou):Of:=match s with
 |.FunctionDef _ _ _ _ _ _ sc _ _ _=>sc|_=>{kind:=.function,names:=[],isGenerator:=Mw,isCoroutine:=Mw}
noncomputable abbrev qL:vF:=λ_ _ _ _ _ _=>False
noncomputable abbrev E0:XK:=λ_ _ _=>False
theorem Bz{X:Cx}:qV qL X E0:=λ_ _ _ _ _ _ _ h=>h.elim
structure wg(K:MF)(x qual:MR)(st:Ou)(f:MB)(fd:NX):Prop where
 ex:∃(oc:Mt)(od:Option MB)(kV doc pm:Mt)(an:Option MB)(cdv ct:Mt)(osl:Array (Option Mt)),fd=Sj x qual (cY st) (bY st) (ar st) .none kV doc pm an cdv ct/\K.lookup f=Mq ⟨oc,od,.func fd,osl⟩/\Qr K cdv qual=Mv
 kp:PM K (.ref f)=Mv
section
variable{P:MQ}{w:M6}{K:MF}{mg:MR->Option Mt}{base:M7}
theorem wg.ok{x a:MR}{st:Ou}{f:MB}{fd:NX}{N ps:List MR}{k:Nat}{sp:Sp}(F:wg K x a st f fd)(S:cw N ps (ar st))(len:∀c H Q E,sp c H Q E->c.length=ps.length)(d:∀(b:Mt)(A:Nf)(outer:List SD)(s:Mz)(H:Hp)(c:List V)(Q:VK)(E:XK),cX k (A.deeper (Si a (ar st) s.heap.objs.size f b))->sp c H Q E->∃t,oJ (lW qL P w K mg base N a (ar st) f b A outer s H E).FA (bY st) t/\t {nx:=λ_ H'=>Q .bH H',rt:=Q} (start N c) H):dZ P w K mg base qL (k+1) f fd ps sp:=by
 obtain⟨n,od,kV,l,m,o,b,ct,i,rfl,lk,g⟩:=F.ex;refine Bx lk g S len λA outer s H c Q E j e=>?_;obtain⟨t,h,q⟩:=d b A outer s H c Q E j e;exact⟨t,h.FA,q⟩
end
theorem Gn{A:Nf}{k:Nat}(a:cX k A):A.units+1<NB:=Qe (Nat.add_le_add_left (by decide:1<=64) _) a.units
section
variable{X:Cx}
theorem pv(i:Nat){x:MR}{pos:Oc}(hN:X.N[i]?=Mq x:=by rfl)(b:oI X.env.scope x:=by first|exact Qt rfl|exact Rp (Qt rfl)|exact Rp (Rp rfl))(hd:(x==("__debug__":MR))=Mw:=by decide)(a:(x==("__classdict__":MR))=Mw:=by decide):PE X (.Name x pos) (FY i):=bX hN b hd a
end
theorem J3{A B:Prop}(h:B):if Mw=Mv then A else B:=by
 rw[if_neg Nu];exact h
theorem zu{c A B:Prop}[Decidable c](b:c->A)(a:¬c->B):if c then A else B:=by
 by_cases h:c
 .rw[if_pos h];exact b h
 .rw[if_neg h];exact a h
noncomputable def oY(H H':Hp):Prop:=∀b o,H b=Mq o->H' b=Mq o
end L2
namespace L2
open PySem PySem.Spec PyProof.Rows
abbrev NK:=Key⊕List Key
section
variable{prog:MQ}{w:M6}
inductive aK(prog:MQ)(w:M6)(h:M7):List NK->List Mt->Prop|nil:aK prog w h [] []|sc{k:Key}{v:Mt}{ks:List NK}{vs:List Mt}:(ax prog w).is k v=Mv->aK prog w h ks vs->aK prog w h (.inl k::ks) (v::vs)|tp{k:List Key}{b:MB}{ks:List NK}{vs:List Mt}:IsTupleKey (ax prog w) h k b->aK prog w h ks vs->aK prog w h (.inr k::ks) (.ref b::vs)
noncomputable def bJ(prog:MQ)(w:M6)(h:M7)(ks:List NK)(a:MB):Prop:=∃o items n,h.get? a=Mq o/\o.cls=.type "tuple"/\o.data=.seq items n/\aK prog w h ks items.toList
theorem aK.inj{h:M7}{x y:List NK}{f:List Mt}(g:aK prog w h x f)(e:aK prog w h y f):x=y:=by induction g generalizing y with
 |nil=>cases e;rfl|sc c _ d=>cases e with
  |sc a b=>rw[(ax prog w).inj _ _ _ c a,d b]|tp a b=>have:=(ax prog w).byValue _ _ c;cases this
 |tp c _ d=>cases e with
  |sc a b=>have:=(ax prog w).byValue _ _ a;cases this|tp a b=>rw[c.inj a,d b]
theorem bJ.typeIs{s:Mz}{ks:List NK}{a:MB}(x:bJ prog w s.heap ks a):s.TypeIs (.ref a) "tuple":=let⟨o,_,_,b,c,_⟩:=x;⟨o,b,c⟩
theorem bJ.inj{h:M7}{a:MB}{x y:List NK}(i:bJ prog w h x a)(g:bJ prog w h y a):x=y:=by
 obtain⟨o,items,n,j,_,hd,k⟩:=i;obtain⟨f,c,m,d,_,b,e⟩:=g;obtain rfl:o=f:=MD (j.symm.trans d);rw[hd]at b;injection b with l _;subst l;exact k.inj e
theorem aK.keeps{h h':M7}{d:MB}{o:NI}{es ep}{x:List NK}{c:List Mt}(e:aK prog w h x c)(g:h.get? d=Mq o)(hd:o.data=.dict es ep)(f:N1 d h h'):aK prog w h' x c:=by induction e with
 |nil=>exact .nil|sc b _ a=>exact .sc b a|tp b _ a=>exact .tp (b.keeps g hd f) a
theorem bJ.keeps{h h':M7}{ks:List NK}{a d:MB}{o:NI}{es ep}(x:bJ prog w h ks a)(i:h.get? d=Mq o)(hd:o.data=.dict es ep)(g:N1 d h h'):bJ prog w h' ks a:=by
 obtain⟨f,items,n,c,k,b,j⟩:=x;have e:a≠d:=by
  rintro rfl;obtain rfl:f=o:=MD (c.symm.trans i);rw[hd]at b;exact nomatch b
 exact⟨f,items,n,(g.2 a e).trans c,k,b,j.keeps i hd g⟩
noncomputable def gw(prog:MQ)(w:M6):NK->Int
 |.inl k=>(ax prog w).hash k|.inr ks=>tupleKeyHash (ax prog w) ks
noncomputable def kj(prog:MQ)(w:M6)(ks:List NK):Int:=reduceHash (N3 (ks.map (gw prog w)))
noncomputable def Gp:NK->Nat
 |.inl _=>1|.inr ks=>ks.length+1
noncomputable def e8:List NK->Nat
 |[]=>0|k::ks=>Gp k+e8 ks
theorem ko(a:List NK)(k:NK):e8 (a++[k])=e8 a+Gp k:=by induction a with
 |nil=>simp[e8]|cons x r b=>simp[e8,b,QR]
variable{A:Nf}{E:Mt->Mz->Prop}{s:Mz}
theorem in1_units{A:Nf}(h:A.units+1<NB):A.in1.units<NB:=h
theorem uV{ks:List NK}{a:MB}{Q:Int->Mz->Prop}(hu:A.units+1<NB)(t:bJ prog w s.heap ks a)(h:Q (kj prog w ks) {s with toks:=s.toks+(e8 ks+1)}):wpAny (ML prog w) A (pyHash (.ref a)) Q E s:=by
 have m:=t.typeIs;obtain⟨o,items,n,u,_,hd,v⟩:=t;unfold pyHash;first|unfold pyHashByItsType|skip
 first|refine Ms (wpAny_cRoomFor_or (.inr (by omega)) ?_)|skip
 refine Ms (Pw m PySem.F.slot_tuple_hash.lookup ?_);show wpAny _ _ (if(Mq (Value.builtin "tuple.__hash__")==Mq NV)=Mv then _ else _) Q E s;rw[if_neg (by rw[beq_builtin_none];exact Nu)];refine Ms (Pw m PySem.F.slot_tuple_hash.lookup ?_);show wpAny _ _ (callSpecialIfBoundUnlessNone? (.ref a) "__hash__" _>>=_) Q E s;refine Ms (wpAny_callSpecialIfBoundUnlessNone?_slot m RZ (Nr RZ m PySem.F.entry_tuple_hash ?_ (PySem.F.args_tuple_hash_1 _)));show wpAny _ _ (PN (.ref a)>>=_) _ _ s;refine Ms (Rq u hd ?_);refine Ms ?_;rw[<-Pk];refine PV _ (λrest(b:Array Int)p=>∃done left,ks=done++left/\aK prog w s.heap left rest/\b.toList=done.map (gw prog w)/\p={s with toks:=s.toks+e8 done}) _ ?_ ?_ _ _ ⟨[],ks,rfl,v,rfl,rfl⟩
 .rintro x rest b p⟨done,left,rfl,q,hb,rfl⟩;cases q with
  |@sc k _ g _ r j=>
   refine Ms ((ax prog w).pyHash r ?_);have i:∃d e,done++.inl k::g=d++e/\aK prog w s.heap e rest/\(b.push ((ax prog w).hash k)).toList=d.map (gw prog w)/\({s with toks:=s.toks+e8 done+1}:Mz)={s with toks:=s.toks+e8 d}:=⟨done++[.inl k],g,by simp,j,by simp[hb,gw],by rw[ko];rfl⟩;first
    |exact Mx i|exact Ms (Mx (Mx i))
  |@tp k c g _ r j=>
   refine Ms (wpAny_pyHash_tuple (in1_units hu) r ?_);have i:∃d e,done++.inr k::g=d++e/\aK prog w s.heap e rest/\(b.push (tupleKeyHash (ax prog w) k)).toList=d.map (gw prog w)/\({s with toks:=s.toks+e8 done+(k.length+1)}:Mz)={s with toks:=s.toks+e8 d}:=⟨done++[.inr k],g,by simp,j,by simp[hb,gw],by rw[ko,QR];rfl⟩;first
    |exact Mx i|exact Ms (Mx (Mx i))
 .rintro b p⟨done,left,rfl,q,hb,rfl⟩;cases q;rw[M1]at h;show wpAny _ _ (retInt (N3 b.toList)) _ _ _;rw[hb];refine wpAny_ret_mkInt ?_;show wpAny _ _ (if(decide (-(2:Int)^63<=N3 (done.map (gw prog w)))&&decide (N3 (done.map (gw prog w))<2^63))=Mv then _ else _) Q E _;unfold kj reduceHash at h;by_cases l:(decide (-(2:Int)^63<=N3 (done.map (gw prog w)))&&decide (N3 (done.map (gw prog w))<2^63))=Mv
  .rw[if_pos l];rw[if_pos l]at h;exact Mx (by simpa[QR]using h)
  .rw[if_neg l];rw[if_neg l]at h;exact Ms (OF (Mx (by simpa[QR]using h)))
theorem sQ{k:Key}{v:Mt}(h:(ax prog w).is k v=Mv):(∃i t,v=.int i t/\k=.inl i)\/∃x t,v=.str x t/\k=.inr x:=by
 rcases aJ (k:=k) (v:=v) h with⟨i,t,b,a⟩|⟨i,t,b,a⟩;.exact .inl ⟨i,t,a,b⟩
 .exact .inr ⟨i,t,a,b⟩
theorem IsTupleKey.tup{h:M7}{k:List Key}{b:MB}(x:IsTupleKey (ax prog w) h k b):∃items,h.IsTuple b items:=let⟨o,items,n,a,c,hd,_⟩:=x;⟨items,o,a,c,n,hd⟩
theorem aK.two{x y:List NK}{xs ys:List Mt}{u v:Mt}{rest:List (Mt×Mt)}(hu:A.units<NB)(I:aK prog w s.heap x xs)(F:aK prog w s.heap y ys)(c:(u,v)::rest=List.zip xs ys):∃n m D C g f,x=n::D/\y=m::C/\xs=u::g/\ys=v::f/\rest=List.zip g f/\aK prog w s.heap D g/\aK prog w s.heap C f/\∀(Q:Bool->Mz->Prop),Q (decide (n=m)) s->wpAny (ML prog w) A (eqBool u v) Q E s:=by cases I with
 |nil=>simp at c|@sc k J G z p l=>cases F with
  |nil=>simp at c|@sc d H r e j h=>
   simp only[Ob,Q9,QV]at c;obtain⟨⟨rfl,rfl⟩,rfl⟩:=c;refine⟨_,_,_,_,_,_,rfl,rfl,rfl,rfl,rfl,l,h,λQ q=>(ax prog w).eqBool (a:=k) (b:=d) p j ?_⟩;rw[show decide (k=d)=decide ((QP k:NK)=QP d)by simp];exact q|@tp d b r e j h=>
   simp only[Ob,Q9,QV]at c;obtain⟨⟨rfl,rfl⟩,rfl⟩:=c;refine⟨_,_,_,_,_,_,rfl,rfl,rfl,rfl,rfl,l,h,λQ q=>?_⟩;rw[decide_eq_false (by simp)]at q;obtain⟨B,o⟩:=IsTupleKey.tup j;rcases sQ p with⟨i,t,rfl,_⟩|⟨i,t,rfl,_⟩;.exact S8 i t o hu prog w E Q q
   .exact S9 i t o hu prog w E Q q
 |@tp k b1 G z p l=>cases F with
  |nil=>simp at c|@sc d H r e j h=>
   simp only[Ob,Q9,QV]at c;obtain⟨⟨rfl,rfl⟩,rfl⟩:=c;refine⟨_,_,_,_,_,_,rfl,rfl,rfl,rfl,rfl,l,h,λQ q=>?_⟩;rw[decide_eq_false (by simp)]at q;obtain⟨B,o⟩:=IsTupleKey.tup p;rcases sQ j with⟨i,t,rfl,_⟩|⟨i,t,rfl,_⟩;.exact S_ i t o hu prog w E Q q
   .exact Ta i t o hu prog w E Q q|@tp d b r e j h=>
   simp only[Ob,Q9,QV]at c;obtain⟨⟨rfl,rfl⟩,rfl⟩:=c;refine⟨_,_,_,_,_,_,rfl,rfl,rfl,rfl,rfl,l,h,λQ q=>TL hu p j ?_⟩;rw[show decide (k=d)=decide ((Rx k:NK)=Rx d)by simp];exact q
theorem aK.length{h:M7}{x:List NK}{xs:List Mt}(b:aK prog w h x xs):x.length=xs.length:=by induction b with
 |nil=>rfl|sc _ _ a=>simp[a]|tp _ _ a=>simp[a]
theorem zv{x y:List NK}{a b:MB}{P:PySem.Fin->Mz->Prop}(hu:A.units<NB)(U:bJ prog w s.heap x a)(T:bJ prog w s.heap y b)(h:P (.done (.ret (.bool (decide (x=y))))) s):wpAny (ML prog w) A (Builtin.«tuple.__eq__» ⟨[.ref a,.ref b],[]⟩) P E s:=by
 have S:=T.typeIs;obtain⟨Y,G,na,L,_,R,O⟩:=U;obtain⟨ob,F,Z,K,_,Q,N⟩:=T;show wpAny _ _ (TM (.ref b) (.type "tuple")>>=_) _ _ s;refine Ms (Pe S QH ?_);simp only[Oe,MV,if_false];refine Ms (Rq L R ?_);refine Ms (Rq K Q ?_);refine Ms ?_;refine PV _ (λrest r H=>r.1=Mu/\H=s/\∃q j e d,rest=List.zip e d/\aK prog w s.heap q e/\aK prog w s.heap j d/\decide (q=j)=decide (x=y)/\(e.length==d.length)=(G.size==F.size)) _ ?_ ?_ _ _ ⟨rfl,rfl,x,y,G.toList,F.toList,rfl,O,N,rfl,by simp⟩
 .rintro⟨u,v⟩rest r H⟨J,rfl,q,j,e,d,I,i,g,c,f⟩;obtain⟨n,m,p,l,o,k,rfl,rfl,rfl,rfl,rfl,C,z,ask⟩:=i.two (E:=E) hu g I;refine Ms (ask _ ?_);by_cases M:n=m
  .subst M;rw[decide_eq_true rfl];simp only[Oe,MV,if_false];refine Mx ⟨rfl,rfl,p,l,o,k,rfl,C,z,?_,by simpa using f⟩;rw[<-c];by_cases B:p=l;.simp[B]
   .simp[B]
  .rw[decide_eq_false M];simp only[Bool.not_false,if_true];have V:decide (x=y)=Mw:=by rw[<-c];simp[M]
   rw[V]at h;exact Ms (Mx (Mx (Mx h)))
 .rintro⟨X,W⟩H⟨J,rfl,q,j,e,d,I,i,g,c,f⟩;simp only at J;subst J;refine Mx ?_;have D:(G.size==F.size)=decide (x=y):=by
   rw[<-c,<-f,<-i.length,<-g.length];have t:=congrArg Qh I;simp only[NZ,List.length_zip,<-i.length,<-g.length]at t;cases q with
   |nil=>cases j<;>simp|cons _ _=>cases j with
    |nil=>simp|cons _ _=>simp at t
  show P (.done (.ret (.bool (G.size==F.size)))) H;rw[D];exact h
theorem zw{x y:List NK}{a b:MB}{Q:Bool->Mz->Prop}(hu:A.units+1<NB)(d:bJ prog w s.heap x a)(f:bJ prog w s.heap y b)(h:Q (decide (x=y)) s):wpAny (ML prog w) A (eqBool (.ref a) (.ref b)) Q E s:=by
 unfold eqBool;try with_reducible refine Na ?_
 show wpAny _ _ (if(M8 a==M8 b)=Mv then _ else _) Q E s;by_cases c:(M8 a==M8 b)=Mv
 .rw[if_pos c];have e:a=b:=by have:=eq_of_beq c;injection this
  subst e;obtain rfl:=d.inj f;exact Ms (OF (Mx (by simpa using h)))
 .rw[if_neg c];exact Ms (wpAny_richCompare_same_room (op:=.Eq) d.typeIs f.typeIs SQ (Nr SQ d.typeIs PySem.F.entry_tuple_eq (zv (in1_units hu) d f ⟨_,rfl,(λe=>nomatch e),NH h⟩) (PySem.F.args_tuple_eq_2 _ _)) (by omega))
theorem uW(n:Nat){ks:List Key}{a:MB}{Q:Bool->Mz->Prop}(f:IsTupleKey (ax prog w) s.heap ks a)(h:Q Mv s):wpAny (ML prog w) A (Ug (n+1) (.ref a)) Q E s:=by
 have g:=f.typeIs;obtain⟨o,items,m,i,_,hd,j⟩:=f;unfold Ug;refine Ms (Pw g PySem.F.slot_tuple_eq.lookup ?_);show wpAny _ _ (TM (.ref a) (.type "tuple")>>=_) _ _ s;refine Ms (Pe g QH ?_);simp only[Oe,MV,if_false];refine Ms (Np i hd ?_);refine Ms ?_;show wpAny _ _ (forIn items _ _) _ _ s;rw[<-Pk];refine PV _ (λrest r c=>r.1=Mu/\c=s/\∀v∈rest,carriedByValue v=Mv) _ ?_ ?_ _ _ ⟨rfl,rfl,j.byValue⟩
 .rintro v rest r c⟨e,rfl,b⟩;rw[T6 _ (b v ME)];refine Ms (Mx ?_);simp only[Oe,MV,if_false];exact Mx ⟨rfl,rfl,λu d=>b u (MH _ d)⟩
 .rintro⟨l,k⟩c⟨e,rfl,_⟩;simp only at e;subst e;exact Mx h
theorem qZ{ks:List NK}{a:MB}{Q:Bool->Mz->Prop}(e:bJ prog w s.heap ks a)(h:Q Mv s):wpAny (ML prog w) A (Ug 8 (.ref a)) Q E s:=by
 have f:=e.typeIs;obtain⟨o,items,m,g,_,hd,j⟩:=e;unfold Ug;refine Ms (Pw f PySem.F.slot_tuple_eq.lookup ?_);show wpAny _ _ (TM (.ref a) (.type "tuple")>>=_) _ _ s;refine Ms (Pe f QH ?_);simp only[Oe,MV,if_false];refine Ms (Np g hd ?_);refine Ms ?_;show wpAny _ _ (forIn items _ _) _ _ s;rw[<-Pk];refine PV _ (λrest r b=>r.1=Mu/\b=s/\∃ks,aK prog w s.heap ks rest) _ ?_ ?_ _ _ ⟨rfl,rfl,ks,j⟩
 .rintro v rest r b⟨c,rfl,ks,i⟩;cases i with
  |sc d t=>
   rw[T6 _ ((ax prog w).byValue _ _ d)];refine Ms (Mx ?_);simp only[Oe,MV,if_false];exact Mx ⟨rfl,rfl,_,t⟩|tp d t=>
   refine Ms (uW 6 d ?_);simp only[Oe,MV,if_false];exact Mx ⟨rfl,rfl,_,t⟩
 .rintro⟨l,k⟩b⟨c,rfl,_⟩;simp only at c;subst c;exact Mx h
end
noncomputable def cB(prog:MQ)(w:M6):HeapKind prog w (List NK)where
 is:=bJ prog w;hash:=kj prog w;draws:=λks=>e8 ks+1;room:=λA=>A.units+1<NB;inj:=λb a=>b.inj a;keeps:=λx e hd d=>x.keeps e hd d;pyHash:=λhu c h=>uV hu c h;eqBool:=λhu b a h=>zw hu b a h;quiet:=λc h=>qZ c h
theorem f6{prog:MQ}{w:M6}{A:Nf}(hu:A.units+2<NB):(cB prog w).room A.in1:=hu
structure I_(X:Cx)(scope:Of)(cl:List (MR×MB)):Prop where
 J4:UE scope X.env=pure cl
 sub:∀x c,cl.lookup x=Mq c->X.env.cells.lookup x=Mq c
 has:∀x,scope.names.lookup x=Mq .free->(∃c,cl.lookup x=Mq c)/\(X.env.kindOf x=Mq .cell\/X.env.kindOf x=Mq .free)kind:scope.kind=.function
 cells:∀y∈scope.names,y.2=.cell->scope.names.lookup y.1=Mq .cell
 names:∀y∈scope.names,y.2=.local->scope.names.lookup y.1=Mq .local
noncomputable def dB(X:Cx)(b:List (MB×NI))(a:Of)(N:List MR)(c:List (MR×MB))(C:MB)(fp:List MB)(s:Mz)(H:Hp):Cx:={X with N:=N,cc:=s,gZ:=H,env:=compEnvC a c C X.env,outer:=X.stack,stack:=X.stack,ex:=fp,fn:=λx=>a.names.lookup x==Mq .cell,pn:=X.pn++b,xe:=λ_ _=>False}
theorem di{env:SD}:∀{names:List (MR×OU)}{x:MR}{k:OU},(names.map λ(n,k)=>if(k==N0&&env.scope.kind==.function&&env.kindOf n==Mq .cell)then(n,NP)else(n,k)).lookup x=Mq k->(k=.cell\/k=.free)->names.lookup x=Mq .free\/names.lookup x=Mq .cell
 |[],_,_,h,_=>by simp at h|(n,b)::r,x,k,h,d=>by
  have e:=@di env r x k;have h:Uk x ((if(b==N0&&env.scope.kind==.function&&env.kindOf n==Mq .cell)=Mv then(n,NP)else(n,b))::_)=Mq k:=h;cases c:x==n with
  |true=>
   by_cases a:(b==N0&&env.scope.kind==.function&&env.kindOf n==Mq .cell)=Mv
   .rw[if_pos a]at h;simp only[MG,beq_iff_eq]at a;simp only[Ni,c];exact .inl (by rw[a.1.1])
   .rw[if_neg a]at h;simp only[Ni,c]at h⊢;cases h;rcases d with z|z;.exact .inr (by rw[z])
    .exact .inl (by rw[z])|false=>
   by_cases a:(b==N0&&env.scope.kind==.function&&env.kindOf n==Mq .cell)=Mv
   .rw[if_pos a]at h;simp only[Ni,c]at h⊢;exact e h d
   .rw[if_neg a]at h;simp only[Ni,c]at h⊢;exact e h d
theorem kq:∀(names:List (MR×OU))(n:Nat)(a:List (MR×MB)),(∀x c,a.lookup x=Mq c->c<n)->(∀x y c,a.lookup x=Mq c->a.lookup y=Mq c->x=y)->(∀x y c,(OR n names a).lookup x=Mq c->(OR n names a).lookup y=Mq c->x=y)/\∀x c,(OR n names a).lookup x=Mq c->(a.lookup x=Mq c/\(x,NP)∉names)\/(n<=c/\(x,NP)∈names/\∀h:M7,h.objs.size=n->(PY h names).IsCell c Mu)
 |[],n,a,_,l=>⟨l,λx c e=>.inl ⟨e,by simp⟩⟩|(b,kind)::r,n,a,hb,l=>by
  by_cases t:kind=.cell
  .subst t;have u:OR n ((b,NP)::r) a=OR (n+1) r ((b,n)::a):=rfl;have lk:∀x c,((b,n)::a).lookup x=Mq c->(x=b/\c=n)\/(x≠b/\a.lookup x=Mq c):=λx c e=>by
    rw[Ni]at e;cases k:x==b with
    |true=>rw[k]at e;cases e;exact .inl ⟨beq_iff_eq.mp k,rfl⟩|false=>rw[k]at e;exact .inr ⟨by simpa using k,e⟩
   obtain⟨s,p⟩:=kq r (n+1) ((b,n)::a) (λx c e=>by
    rcases lk x c e with⟨_,z⟩|⟨_,z⟩;.rw[z];exact R0 n
    .exact PJ (hb x c z)) (λx y c A w=>by
    rcases lk x c A with⟨f,d⟩|⟨_,d⟩<;>rcases lk y c w with⟨o,g⟩|⟨_,g⟩;.rw[f,o]
    .exact absurd (hb y c g) (by rw[d];exact Nx n)
    .exact absurd (hb x c d) (by rw[g];exact Nx n)
    .exact l x y c d g);rw[u];refine⟨s,λx c e=>?_⟩;rcases p x c e with⟨f,d⟩|⟨f,d,m⟩
   .rcases lk x c f with⟨rfl,rfl⟩|⟨o,g⟩
    .refine .inr ⟨MO _,ME,λh i=>?_⟩;show(PY (h.push {cls:=.type "cell",data:=.cell Mu}) r).IsCell c Mu;exact⟨_,SG r _ _ _ (i▸MK _ rfl),rfl⟩
    .refine .inl ⟨g,λq=>?_⟩;rcases List.mem_cons.mp q with q|q;.exact o (Prod.mk.inj q).1
     .exact d q
   .refine .inr ⟨Nat.le_of_succ_le f,MH _ d,λh i=>?_⟩;show(PY (h.push {cls:=.type "cell",data:=.cell Mu}) r).IsCell c Mu;exact m _ (by rw[NN,i])
  .have j:(kind==NP)=Mw:=beq_eq_false_iff_ne.mpr t;have u:OR n ((b,kind)::r) a=OR n r a:=by
    show(if kind==NP then _ else _)=_;rw[j];rfl
   have v:∀h:M7,PY h ((b,kind)::r)=PY h r:=λh=>by
    show(if kind==NP then _ else _)=_;rw[j];rfl
   obtain⟨s,p⟩:=kq r n a hb l;rw[u];refine⟨s,λx c e=>?_⟩;rcases p x c e with⟨f,d⟩|⟨f,d,m⟩
   .refine .inl ⟨f,λq=>?_⟩;rcases List.mem_cons.mp q with q|q;.exact t (Prod.mk.inj q).2.symm
    .exact d q
   .exact .inr ⟨f,MH _ d,λh i=>by rw[v];exact m h i⟩
structure CT(X:Cx)(scope:Of)(s:Mz)(C:MB)(h':M7)(cs:List (MR×MB)):Prop where
 inj:∀x y c,cs.lookup x=Mq c->cs.lookup y=Mq c->x=y
 sub:∀x c,cs.lookup x=Mq c->(X.env.cells.lookup x=Mq c/\scope.names.lookup x≠Mq .cell)\/(s.heap.objs.size<=C/\C<c/\h'.IsCell c Mu)free:∀x c,cs.lookup x=Mq c->scope.names.lookup x=Mq .free->X.env.cells.lookup x=Mq c
 has:∀x,scope.names.lookup x=Mq .cell\/scope.names.lookup x=Mq .free->∃c,cs.lookup x=Mq c
theorem nK{M:Uh}{A:Nf}{E:Mt->Mz->Prop}{s:Mz}{a:Of}{globals:MB}{f:List (MR×MB)}{c:MR}{b:SD}{Q:SD->Mz->Prop}(h:Q (newEnv a s.heap.objs.size globals (OR (s.heap.objs.size+1) a.names f) c Mu .none (Mq b) Sf) {s with heap:=PY (s.heap.push {cls:=.type "dict",data:=.dict #[]}) a.names}):wpAny M A (newFunctionEnv a globals f [] c Mu .none (Mq b)) Q E s:=by
 simp only[newFunctionEnv,TK,if_true];refine Ms (wpAny_alloc ?_);refine Ms (wpAny_layCells _ (λe kind cells=>by cases d:kind==NP<;>simp[d]) _ _ _ _ ?_);rw[Pf];refine Ms (Mx (Mx ?_));rw[show({s with heap:=s.heap.push {cls:=.type "dict",data:=.dict #[]}}:Mz).heap.objs.size=s.heap.objs.size+1 from NN ..];exact h
section
variable{X:Cx}{pins:List (MB×NI)}{σ:St}{H H':Hp}{s s':Mz}{cs:List (MR×MB)}{fp:List MB}{scope:Of}{cl:List (MR×MB)}{own fr:List MR}{js:List Nat}{C:MB}{h':M7}
noncomputable def aU(σ:St)(n:Nat)(js:List Nat):St:=NY n Mu++js.map λj=>(σ[j]?).join
theorem sR(I:Inv X pins σ H s)(a:∀b∈fp,dY X pins H b):∀b∈fp,b∉uJ X.stack:=λb hb z=>by
 obtain⟨_,d,c,_⟩:=a b hb;rcases List.mem_cons.mp (I.j5 b z)with e|e;.exact d e
 .exact c e
theorem CU(I:Inv X pins σ H s)(d:∀b∈fp,dY X pins H b)(g:∀b∈fp,b<s.heap.objs.size)(c:I_ X scope cl)(k:CT X scope s C h' cs)(j:s.heap.objs.size<=C){N:List MR}:(dB X pins scope N cs C fp s H).Ok where
 mod:=I.mod;kind:=c.kind;glob:=I.ok.glob;blt:=I.ok.blt;above:=j;inj:=k.inj;has:=λx f=>by
  have l:scope.names.lookup x=Mq .free\/scope.names.lookup x=Mq .cell:=by
   rcases f with f|f;.exact di f (.inl rfl)
   .exact di f (.inr rfl)
  exact k.has x l.symm
 Fz:=λx a z e=>by
  have z:(scope.names.lookup x==Mq .cell)=Mv:=z;rcases k.sub x a e with⟨_,q⟩|⟨i,h,_⟩;.exact absurd (beq_iff_eq.mp z) q
  .exact Rc (Qe i h)
 hd:=I.ok.hd;frames:=I.ok.frames;FW:=.inl rfl;Jz:=λb hb=>⟨M3 (MU (g b hb) j),λx a e=>by
  rcases k.sub x a e with⟨q,_⟩|⟨i,h,_⟩;.exact(d b hb).2.2.2.2.1 x a q
  .exact Oy (T5 (MU (g b hb) i) h)⟩;bs:=I.bs;zc:=Nv I.ok.zc I.sz;uK:=λb o e hb=>by
  rcases(d b hb).2.2.2.1 with z|z;.exact I.ok.uK b o e z
  .exact absurd (MU (MU (MM e) I.ok.zc) z) (Nx _)
 vM:=sR I d;jE:=I.stack;Ce:=I.sD
theorem uX(I:Inv X pins σ H s)(L:∀b∈fp,dY X pins H b)(M:∀b∈fp,b<s.heap.objs.size)(c:I_ X scope cl)(A:CT X scope s C h' cs)(S:js.map (λj=>X.N[j]?)=fr.map Mq)(K:∀x∈fr,scope.names.lookup x=Mq .free){t':Nat}(O:s.heap.objs.size<=C)(k:∀b o,s.heap.get? b=Mq o->h'.get? b=Mq o){m:MR->Option Mt}(hn:h'.Ns C m):Inv (dB X pins scope (own++fr) cs C fp s H) [] (aU σ own.length js) H {s with heap:=h',toks:=t'}:=by
 have jl:js.length=fr.length:=by simpa using congrArg Qh S
 refine⟨CU I L M c A O,rfl,I.bare,Un.kept k,⟨m,hn,λi x v w f _=>?_⟩,λx a e=>?_,I.aV.fresh O,λx a e=>?_,λp F=>?_,I.aV.kept k,?_⟩
 .unfold aU at f;have w:(own++fr)[i]?=Mq x:=w;by_cases J:i<own.length
  .rw[Ny (by simpa using J),Pd,if_pos J]at f;cases f
  .rw[Nk (by simpa using J)]at f;rw[Nk (by omega)]at w;rw[Ov]at f;generalize i-own.length=t at w f;have E:=congrArg (λl=>l[t]?) S;rw[M9,M9,w]at E;rw[M9]at f;cases U:js[t]? with
   |none=>rw[U]at f;cases f|some j=>
    rw[U]at f E;have h:X.N[j]?=Mq x:=MD E;have hv:σ[j]?=Mq (Mq v):=by
     have f:(σ[j]?).join=Mq v:=MD f;cases T:σ[j]? with
     |none=>rw[T]at f;cases f|some o=>
      rw[T]at f;have f:o=Mq v:=f;rw[f]
    have g:=K x (Nz w);obtain⟨_,P⟩:=c.has x g;obtain⟨a,V⟩:=A.has x (.inr g);obtain⟨m0,_,hl⟩:=I.loc;obtain⟨u,r,lk⟩:=hl j x v h hv (.inr P);refine⟨u,r,.inr ⟨?_,a,V,?_⟩⟩
    .show(UP scope X.env).names.lookup x=Mq .cell\/(UP scope X.env).names.lookup x=Mq .free;have gen:∀names:List (MR×OU),names.lookup x=Mq .free->(names.map λ(n,k)=>if(k==N0&&X.env.scope.kind==.function&&X.env.kindOf n==Mq .cell)then(n,NP)else(n,k)).lookup x=Mq .cell\/(names.map λ(n,k)=>if(k==N0&&X.env.scope.kind==.function&&X.env.kindOf n==Mq .cell)then(n,NP)else(n,k)).lookup x=Mq .free:=by
      intro names;induction names with
      |nil=>intro z;simp at z|cons y r R=>
       obtain⟨n,B⟩:=y;intro z;show Uk x ((if(B==N0&&X.env.scope.kind==.function&&X.env.kindOf n==Mq .cell)=Mv then(n,NP)else(n,B))::_)=_\/Uk x ((if(B==N0&&X.env.scope.kind==.function&&X.env.kindOf n==Mq .cell)=Mv then(n,NP)else(n,B))::_)=_;cases h:x==n with
       |true=>
        simp only[Ni,h]at z;cases z;by_cases D:(N0==N0&&X.env.scope.kind==.function&&X.env.kindOf n==Mq .cell)=Mv;.rw[if_pos D];exact .inl (by simp[Ni,h])
        .rw[if_neg D];exact .inr (by simp[Ni,h])|false=>
        simp only[Ni,h]at z;by_cases D:(B==N0&&X.env.scope.kind==.function&&X.env.kindOf n==Mq .cell)=Mv;.rw[if_pos D];simp only[Ni,h];exact R z
        .rw[if_neg D];simp only[Ni,h];exact R z
     exact gen scope.names g
    .rcases lk with⟨Q,_⟩|⟨_,b,eb,z⟩
     .rcases P with q|q;.rw[Q]at q;cases q
      .rw[Q]at q;cases q
     .have e:=A.free x a V g;rw[eb]at e;cases e;obtain⟨o,G,hd⟩:=z;exact⟨o,k _ _ G,hd⟩
 .rcases A.sub x a e with⟨q,_⟩|⟨_,_,q⟩
  .obtain⟨v,o,G,hd⟩:=I.cell x a q;exact⟨v,o,k _ _ G,hd⟩
  .exact⟨Mu,q⟩
 .rcases A.sub x a e with⟨q,_⟩|⟨Y,W,_⟩;.exact I.dh x a q
  .exact I.aV.fresh (Rc (Qe Y W))
 .have F:p∈X.pn++pins:=by simpa[dB]using F
  obtain⟨e,n,ne,Z,d⟩:=I.pin p F;refine⟨k _ _ e,n,M3 (MU (MM e) O),λz=>?_,d⟩;rcases List.mem_cons.mp (I.j5 _ z)with q|q;.exact ne q
  .exact Z q
 .show(aU σ own.length js).length=(own++fr).length;unfold aU;simp[jl]
theorem zx{a:St}{pl:List (MB×NI)}{N:List MR}(I:Inv X pins σ H s)(c:∀b∈fp,dY X pins H b)(J:Inv (dB X pins scope N cl C fp s H) pl a H' s'):Inv X pins σ H' s':=by
 refine I.FX (ch:=fp) J.os J.base J.aV J.bare λb hb=>?_;obtain⟨_,g,_,f,e,d⟩:=c b hb;exact⟨f,g,e,d⟩
theorem Inv.BA{a:MB}{o:HO}(I:Inv X pins σ H s)(ha:X.cc.heap.objs.size<=a)(f:H a=Mu)(l:a≠X.env.locals)(k:∀x c,X.env.cells.lookup x=Mq c->c≠a)(j:∀p∈X.pn++pins,p.1≠a)(new:bW X.prog X.w (upd H a o) s.heap a o):Inv X pins σ (upd H a o) s:=by
 refine⟨I.ok,I.os,I.bare,⟨I.base.keep,I.base.slot,λb ob e n i=>?_,I.base.there,λb g e=>?_,λb ob u e=>?_,λb ps e=>?_⟩,I.loc,I.cell,?_,λx c e=>?_,λp h=>?_,λb u e=>?_,I.len⟩
 .rw[ah (M3 (MU (MM e) ha))];exact I.base.free b ob e n i
 .have q:=I.base.jC b g e;rw[ah (aA q f)];exact q
 .have q:=I.base.iR b ob u e;rw[ah (aA q f)];exact q
 .obtain⟨d,q⟩:=I.base.jD b ps e;exact⟨d,by rw[ah (aA q f)];exact q⟩
 .rw[ah (Nj l)];exact I.free
 .rw[ah (k x c e)];exact I.dh x c e
 .obtain⟨e,n,r⟩:=I.pin p h;exact⟨e,by rw[ah (j p h)];exact n,r⟩
 .by_cases hb:b=a
  .subst hb;rw[aj]at e;cases e;exact new
  .rw[ah hb]at e;exact(I.aV b u e).dg (λ_ _ _ q=>q) (λc q=>by rw[ah (aA q f)];exact q) λc g q=>by rw[ah (aA q f)];exact q
end
noncomputable def wj(Y:Cx)(ifs:List MP)(t:TT):Prop:=∀(a:List (MB×NI))(s:Mz)(b:St)(H:Hp)(Q:Bool->Hp->Prop),Inv Y a b H s->t b H Q->wpAny (ML Y.prog Y.w) Y.A (forIn ifs Mv λc r=>if r=Mv then do let ok<-S7 c Y.env (OB c Y.env);pure (N7 ok)else pure (N7 r)) (TP Y a b Q) Y.xe s
noncomputable def CV:TT:=λ_ H Q=>Q Mv H
theorem oZ{Y:Cx}:wj Y [] CV:=λa s b H Q I h=>wpAny_tests_nil ⟨H,I,h⟩
theorem wm{Y:Cx}{c:MP}{t:TT}(h:PT Y c t):wj Y [c] t:=λa s b H Q I q=>wpAny_tests_one (h a s b H Q I q)
noncomputable abbrev RB(a:Type):=St->Hp->a->(a->St->Hp->Prop)->Prop
noncomputable def Body(Y:Cx){e:Type}(ok:e->NI->Prop)(D:MB)(body:Rw Unit)(rd:RB e):Prop:=∀(b:List (MB×NI))(s:Mz)(f:St)(H:Hp)(a:e)(ob:NI)(Q:e->St->Hp->Prop),Inv Y ((D,ob)::b) f H s->(∀p∈Y.pn++b,p.1≠D)->ok a ob->rd f H a Q->wpAny (ML Y.prog Y.w) Y.A body (λ_ i=>∃g d c h,Inv Y ((D,d)::b) c h i/\ok g d/\Q g c h) Y.xe s
noncomputable def sS{j:Type}(J:It)(g:TG)(e:TT)(rd:RB j):RB j:=λd H a Q=>∃W:Nat->Nat->j->St->Hp->Prop,(∃m,W 0 m a d H)/\∀i m a d H,W i m a d H->(J.stop i H/\Q a d H)\/(J.go i H/\∀x l,J.IY i H x l->g x d l λc p=>e c p λb k=>if b=Mv then rd c k a λn h o=>∃f,f<m/\W (i+1) f n h o else∃f,f<m/\W (i+1) f a c k)
theorem o_{Y:Cx}{α:Type}{ok:α->NI->Prop}{D it:MB}{e tg:MP}{d:Nat}{ifs:List MP}{body:Rw Unit}{pos0:Oc}{J:It}{fp:List MB}{tn:Nat->M7->Prop}{g:TG}{G:TT}{rd:RB α}(hc:Y.calm=Mv)(hx:∀x C,¬Y.xe x C)(b0:(ML Y.prog Y.w).den (.compLoop e d (.ref it) (.ref D) Y.env)=(T7 e d (.ref it) (.ref D) Y.env).onRaise (λx=>do noteFrame x Y.env;theTreesLotGoes x))(a6:Y.A.under (.compLoop e d (.ref it) (.ref D) Y.env)=Y.A)(b4:T7 e d (.ref it) (.ref D) Y.env=(do
   RA pos0;match<-OS (.ref it)with
   |none=>pure (.done .next)|some v=>
    Pt tg (.ref it) v;Rl tg Y.env v;let mut ok:=Mv;for c in ifs do if ok then ok<-S7 c Y.env (OB c Y.env)
    if ok then body
    UK (.compLoop e d (.ref it) (.ref D) Y.env)))(T:Turn Y.prog Y.w Y.K tg J fp it tn)(hg:PG Y tg g)(hi:wj Y ifs G)(hb:Body Y ok D body rd){f:List (MB×NI)}{ob:NI}{a:α}{F:St}{H:Hp}{s:Mz}{Q:α->St->Hp->Prop}(I:Inv Y ((D,ob)::f) F H s)(a9:∀p∈Y.pn++f,p.1≠D)(aV:ok a ob)(S:∀b∈fp,dY Y ((D,ob)::f) H b)(b3:tn 0 s.heap)(h:sS J g G rd F H a Q):codeAny (ML Y.prog Y.w) Y.A (.compLoop e d (.ref it) (.ref D) Y.env) (λr C=>∃a' E a2 H',r=.ok .next/\Inv Y ((D,E)::f) a2 H' C/\ok a' E/\Q a' a2 H'/\∀b∈fp,H' b=Mu) s:=by
 obtain⟨W,⟨m0,w0⟩,a4⟩:=h;have B:∀{H':Hp}{E:NI},(∀b∈fp,H' b=Mu)->∀b∈fp,dY Y ((D,E)::f) H' b:=λ{H' E}hn b hb=>by
  obtain⟨_,h1,h2,h3,h4,h5⟩:=S b hb;refine⟨hn b hb,h1,h2,h3,h4,λp hp=>?_⟩;rcases List.mem_append.mp hp with z|z;.exact h5 p (Oz _ z)
  .rcases List.mem_cons.mp z with q|q;.rw[q];exact h5 (D,ob) (MW _ ME)
   .exact h5 p (MW _ (MH _ q))
 have a7:∀h:M7,∀p∈Y.pn++(f++eI fp h),p.1≠D:=λh p hp=>by
  rcases List.mem_append.mp hp with z|z;.exact a9 p (Oz _ z)
  .rcases List.mem_append.mp z with q|q;.exact a9 p (MW _ q)
   .exact Nj ((S p.1 (mi q).1).2.2.2.2.2 (D,ob) (MW _ ME))
 have y:∀{R:Mt->Mz->Prop}(x:Mt)(C:Mz),Y.xe x C->R x C:=λx C z=>(hx x C z).elim;refine codeAny_loop rfl (λn C=>∃i a ob F H,Inv Y ((D,ob)::f) F H C/\ok a ob/\tn i C.heap/\(∀b∈fp,H b=Mu)/\W i n a F H) ?_ m0 ⟨0,a,ob,F,H,I,aV,b3,λb hb=>(S b hb).1,w0⟩;rintro n s3⟨i,a3,P,l,H3,I3,O,a5,U,w3⟩;rw[b0,a6];refine wpAny_noted ?_;rw[b4];refine Ms (Pz (Ms ?_));rcases a4 i n a3 l H3 w3 with⟨stop,qn⟩|⟨go,step⟩
 .refine Og (T.done Y rfl rfl rfl hc i _ s3 l H3 Y.xe I3 (B U) a5 stop) (λr s4⟨hr,I4⟩=>?_) y;subst hr;exact Mx ⟨a3,P,l,H3,rfl,I4,O,qn,U⟩
 .refine Og (T.item Y rfl rfl rfl hc i _ s3 l H3 Y.xe I3 (B U) a5 go) (λr s4⟨u,hr,h4⟩=>?_) y;subst hr;refine Ms (Og h4 (λ_ X⟨x,H5,I5,r5,y5,M,c0⟩=>?_) y);have c2:Inv Y ((D,P)::(f++eI fp X.heap)) l H5 X:=I5.pinned (B c0) (T.obj _ _ M);refine Ms (Og (hg _ X l H5 x u _ c2 r5 (step x H5 y5)) (λ_ s6⟨a0,H6,I6,q6⟩=>?_) y);refine Ms (Og (hi _ s6 a0 H6 _ I6 q6) (λb s7⟨H7,I7,q7⟩=>?_) y);have j:∀{a8:α}{t:NI}{k:St}{Z:Hp}{V:Mz},Inv Y ((D,t)::(f++eI fp X.heap)) k Z V->ok a8 t->(∃m',m'<n/\W (i+1) m' a8 k Z)->∃m,m<n/\∃i a ob F H,Inv Y ((D,ob)::f) F H V/\ok a ob/\tn i V.heap/\(∀b∈fp,H b=Mu)/\W i m a F H:=λ{a8 t k Z V}I8 N b2=>by
   obtain⟨m',hm,w8⟩:=b2;have L:=λ(b:MB)(o:NI)(z:(b,o)∈eI fp X.heap)=>I8.pin (b,o) (MW _ (MH _ (MW _ z)));have c1:Inv Y (((D,t)::f)++eI fp X.heap) k Z V:=I8;refine⟨m',hm,i+1,a8,t,k,Z,c1.hJ,N,T.keep _ _ _ M λb hb o e=>(L b o (eJ hb e)).1,λb hb=>?_,w8⟩;obtain⟨o,e,_⟩:=T.obj _ _ M b hb;exact(L b o (eJ hb e)).2.1
  cases b with
  |false=>
   rw[if_neg Nu]at q7;exact Mx ⟨rfl,j I7 O q7⟩|true=>
   rw[if_pos rfl]at q7;refine Ms (Og (hb _ s7 a0 H7 a3 P _ I7 (a7 _) O q7) (λ_ V⟨a8,t,k,Z,I8,N,q8⟩=>?_) y);exact Mx ⟨rfl,j I8 N q8⟩
noncomputable def Ja(b:List V)(ob:NI):Prop:=b.length<=MA/\∃(a:List Mt)(n:Nat),au b a/\ob={cls:=.type "list",data:=.seq a.toArray n}
noncomputable def iT(te:TE):RB (List V):=λb H a Q=>te b H λy c=>a.length<MA/\Q (a++[y]) b c
theorem au.snoc{xs:List V}{us:List Mt}{x:V}{u:Mt}(r:au xs us)(q:RelV x u):au (xs++[x]) (us++[u]):=r.append (.cons q .nil)
theorem Inv.BB{Y:Cx}{a:List (MB×NI)}{h:St}{H:Hp}{s:Mz}{D:MB}{ob d:NI}{h':M7}(I:Inv Y ((D,ob)::a) h H s)(r:Y.cc.heap.objs.size<=D)(j:∀x c,Y.env.cells.lookup x=Mq c->c≠D)(q:∀p∈Y.pn++a,p.1≠D)(k:∀b o,b≠D->s.heap.get? b=Mq o->h'.get? b=Mq o)(e:h'.get? D=Mq d)(hd:∀v,d.data≠.cell v){t':Nat}:Inv Y ((D,d)::a) h H {s with heap:=h',toks:=t'}:=by
 obtain⟨_,n,ne,m,_⟩:=I.pin (D,ob) (MW _ ME);have t:Inv Y a h H s:=I.eG λp i=>I.pin p (MW _ (MH _ i));have l:Inv Y a h H {s with heap:=h',toks:=t'}:=t.turned (it:=D) k n ne (.inr r) j q;refine l.eG λp i=>?_;rcases List.mem_cons.mp i with z|z;.rw[z];exact⟨e,n,ne,m,hd⟩
 .exact l.pin p (MW _ z)
structure Jb(Y:Cx)(D:MB):Prop where
 young:Y.cc.heap.objs.size<=D
 cells:∀x c,Y.env.cells.lookup x=Mq c->c≠D
theorem mD{Y:Cx}{D:MB}{c:MP}{te:TE}(o:Jb Y D)(h:PE Y c te):Body Y Ja D (do let _<-call (.builtin "list.append") [.ref D,<-OB c Y.env]) (iT te):=by
 intro k s i H g ob Q I f aV q;refine Ms (a_ (h _ s i H _ I q) λu s1 d=>?_);obtain⟨y,C,m,p,E,r⟩:=d;obtain⟨x,a,n,j,rfl⟩:=aV;have A:=(m.pin _ (MW _ ME)).1;refine Ms (wpAny_list_append_plain (l:=D) (items:=a.toArray) ⟨n,A⟩ (λF⟨t,B⟩w=>Mx ?_) (by rw[MJ,<-j.length];exact x));refine⟨g++[y],_,i,C,m.BB o.young o.cells f (λb ob hb e=>(w.2 b hb).trans e) B (λv z=>nomatch z),⟨by simp;omega,a++[u],t,j.snoc p,by simp⟩,r⟩
inductive D where|bH|bl(b:Bool)|int(i:Int)|str(x:MR)|tup(xs:List D)|lst(xs:List D)|aW(ks vs:List D)
inductive W where|d(x:D)|feed|own(d:D)|gq(ks ds:List D)
abbrev ag:=List (Option W)
structure Xc where
 x:D
 en:ag
structure M(α:Type)where
 run:Nat->(α->Nat->Prop)->(Xc->Nat->Prop)->Prop
 mono:∀{k Q Q' E E'},run k Q E->(∀a k,Q a k->Q' a k)->(∀x k,E x k->E' x k)->run k Q' E'
namespace M
variable{α β:Type}
protected def pure(a:α):M α:=⟨λk Q _=>Q a k,λh q _=>q _ _ h⟩
protected def bind(m:M α)(f:α->M β):M β:=⟨λk Q E=>m.run k (λa k'=>(f a).run k' Q E) E,λh q e=>m.mono h (λa k' h=>(f a).mono h q e) e⟩
instance:Monad M where
 pure:=M.pure;bind:=M.bind
noncomputable def fail:M α:=⟨λ_ _ _=>False,λh _ _=>h⟩
noncomputable def need(P:Prop):M Unit:=⟨λk Q _=>P/\Q () k,λh q _=>⟨h.1,q _ _ h.2⟩⟩
noncomputable def any(P:α->Prop):M α:=⟨λk Q _=>∀a,P a->Q a k,λh q _ a p=>q _ _ (h a p)⟩
noncomputable def tick(n:Nat):M Unit:=⟨λk Q _=>k+n<=1000000/\∀c,k<=c->c<=k+n->Q () c,λh q _=>⟨h.1,λc a b=>q _ _ (h.2 c a b)⟩⟩
noncomputable def get(o:Option α):M α:=match o with
 |some a=>pure a|none=>fail
theorem run_get{o:Option α}{k Q E}:(get o).run k Q E↔∃a,o=Mq a/\Q a k:=by cases o with
 |none=>exact⟨λh=>h.elim,λ⟨a,h,_⟩=>nomatch h⟩|some a=>exact⟨λh=>⟨a,rfl,h⟩,λ⟨b,h,q⟩=>by cases h;exact q⟩
end M
structure bZ(H:Hp)(p q:MB)(ns:List Int)(i r:Int):Prop where
 ob:H p=Mq (.lst [.ref q,.int i,.int r])cs:∃o,H q=Mq (.cv o (.lst (ns.map V.int)))ne:q≠p
 i0:0<=i
 r0:0<=r
 ln:ns.length<=63
noncomputable def kr(H:Hp)(p q:MB)(k:Nat):Prop:=∃ns i r,bZ H p q ns i r/\i<=(k:Int)
noncomputable def FC(H:Hp)(p:MB)(k:Nat):Prop:=∃q,kr H p q k
theorem kr.same{H H':Hp}{p q:MB}{k:Nat}(F:kr H p q k)(h:oY H H'):kr H' p q k:=by
 obtain⟨ns,i,r,⟨g,⟨o,f⟩,e,d,c,b⟩,a⟩:=F;exact⟨ns,i,r,⟨h _ _ g,⟨o,h _ _ f⟩,e,d,c,b⟩,a⟩
structure Fb where
 K:MF
 p:MB
 P:MQ
 w:M6
structure Fx extends Fb where
 H0:Hp
 k0:Nat
 E:Xc->Nat->Prop
 Hs:Hp
 ks:Nat
noncomputable def CW(H:Hp)(a:MB)(xs:List V):Prop:=∃o,H a=Mq (.cv o (.lst xs))
theorem CW.sq{K:MF}{H:Hp}{a:MB}{xs:List V}(h:CW H a xs):dI K H a xs:=.inl (.inr h)
noncomputable def TupAt(F:Fb)(H:Hp)(a:MB)(xs:List V):Prop:=a≠F.p/\iQ F.K H a xs
noncomputable def LstAt(F:Fb)(H:Hp)(a:MB)(xs:List V):Prop:=a≠F.p/\CW H a xs
theorem CY{X:Cx}{b:List (MB×NI)}{d:St}{H:Hp}{s:Mz}{a:MB}{ks:List Key}(I:Inv X b d H s)(h:iQ X.K H a (ks.map kV)):IsTupleKey (ax X.prog X.w) s.heap ks a:=by
 obtain⟨c,r,⟨o,g,f,n,e⟩,_⟩:=I.tuple h;exact⟨o,c.toArray,n,g,f,e,by simpa using mB r⟩
noncomputable def kD:Key->D
 |.inl i=>.int i|.inr x=>.str x
noncomputable def nD:NK->D
 |.inl k=>kD k|.inr ks=>.tup (ks.map kD)
noncomputable def FD(F:Fb)(H:Hp):V->NK->Prop
 |v,.inl k=>v=kV k|v,.inr ks=>∃b,v=.ref b/\TupAt F H b (ks.map kV)
noncomputable def eM(F:Fb)(H:Hp)(a:MB)(ks:List NK):Prop:=∃b,TupAt F H a b/\Paired (FD F H) b ks
noncomputable def iU(P:MQ)(w:M6)(o:NI)(us:List (Key×Mt)):Prop:=∃a b,o.ExactDict/\o.data=.dict a b/\KeysOf (ax P w) a/\Pairs (ax P w) a.toList us/\(us.map (·.1)).Nodup
noncomputable def iV(P:MQ)(w:M6)(o:NI)(xs:List (List NK×MB×Mt)):Prop:=∃a b,o.ExactDict/\o.data=.dict a b/\a.toList=xs.map (Uw (cB P w))/\(xs.map (·.1)).Nodup
noncomputable def KA:List (List NK×MB×V)->List (List NK×MB×Mt)->Prop:=Paired λp q=>p.1=q.1/\p.2.1=q.2.1/\RelV p.2.2 q.2.2
noncomputable def bj(F:Fb)(H:Hp)(o:NI)(ks:List D)(c:List V):Prop:=ks.length<=MA/\((∃(a:List (Key×V))(d:List (Key×Mt)),KV a d/\iU F.P F.w o d/\ks=a.map (λx=>kD x.1)/\c=a.map (·.2))\/(∃(a:List (List NK×MB×V))(b:List (List NK×MB×Mt)),KA a b/\iV F.P F.w o b/\(∀x∈a,eM F H x.2.1 x.1)/\ks=a.map (λx=>D.tup (x.1.map nD))/\c=a.map (·.2.2)))
noncomputable def uY(F:Fb)(H:Hp)(a:MB)(o:NI):Prop:=a≠F.p/\(a==NW)=Mw/\((∃u,H a=Mq (.cv o u))\/F.K.lookup a=Mq o)
noncomputable def sT(F:Fb)(H:Hp)(a:MB)(ks:List D)(b:List V):Prop:=∃o,uY F H a o/\bj F H o ks b
noncomputable def lS(a:MB)(o:NI):HO:=.ext λh=>h.get? a=Mq o
mutual
noncomputable def Is(F:Fb)(H:Hp):V->D->Prop
 |v,.bH=>v=.bH|v,.bl b=>v=.bl b|v,.int i=>v=.int i|v,.str x=>v=.str x|v,.tup d=>∃a c,v=.ref a/\TupAt F H a c/\af F H c d|v,.lst d=>∃a c,v=.ref a/\LstAt F H a c/\af F H c d|v,.aW ks d=>∃a c,v=.ref a/\sT F H a ks c/\af F H c d
noncomputable def af(F:Fb)(H:Hp):List V->List D->Prop
 |xs,[]=>xs=[]|xs,d::b=>∃x a,xs=x::a/\Is F H x d/\af F H a b
end
noncomputable def HO.jt:HO->Bool
 |.tup _=>Mv|.cv _ _=>Mv|_=>Mw
structure Kp(F:Fb)(H:Hp)(k:Nat)(H':Hp)(k':Nat):Prop where
 keep:∀a o,a≠F.p->o.jt=Mv->H a=Mq o->H' a=Mq o
 live:H F.p≠Mu->H' F.p≠Mu
 le:k<=k'
 bS:∀q,kr H F.p q k->kr H' F.p q k'
structure Ext(F:Fb)(H:Hp)(k:Nat)(H':Hp)(k':Nat):Prop where
 keep:∀a o,a≠F.p->H a=Mq o->H' a=Mq o
 live:H F.p≠Mu->H' F.p≠Mu
 le:k<=k'
 bS:∀q,kr H F.p q k->kr H' F.p q k'
section
variable{F:Fb}{H H1 H2 H':Hp}{k k1 k2 k':Nat}
theorem Ext.kp(e:Ext F H k H' k'):Kp F H k H' k':=⟨λa o h _ q=>e.keep a o h q,e.live,e.le,e.bS⟩
theorem Ext.feed(e:Ext F H k H' k'):FC H F.p k->FC H' F.p k':=λ⟨q,h⟩=>⟨q,e.bS q h⟩
theorem Kp.feed(e:Kp F H k H' k'):FC H F.p k->FC H' F.p k':=λ⟨q,h⟩=>⟨q,e.bS q h⟩
theorem Ext.refl:Ext F H k H k:=⟨λ_ _ _ h=>h,λh=>h,MO _,λ_ h=>h⟩
theorem Kp.refl:Kp F H k H k:=Ext.refl.kp
theorem Ext.trans(a:Ext F H k H1 k1)(b:Ext F H1 k1 H2 k2):Ext F H k H2 k2:=⟨λc o d h=>b.keep c o d (a.keep c o d h),λh=>b.live (a.live h),Nv a.le b.le,λq h=>b.bS q (a.bS q h)⟩
theorem Kp.trans(a:Kp F H k H1 k1)(b:Kp F H1 k1 H2 k2):Kp F H k H2 k2:=⟨λc o d s h=>b.keep c o d s (a.keep c o d s h),λh=>b.live (a.live h),Nv a.le b.le,λq h=>b.bS q (a.bS q h)⟩
theorem uZ(h:oY H H'):H F.p≠Mu->H' F.p≠Mu:=λn z=>n (by cases e:H F.p with
 |none=>rfl|some o=>rw[h _ _ e]at z;cases z)
theorem Ext.of(h:oY H H'):Ext F H k H' k:=⟨λa o _ e=>h a o e,uZ h,MO _,λ_ f=>f.same h⟩
theorem wo{a:MB}{o:HO}(h:H a=Mu):oY H (upd H a o):=λb u e=>by rw[ah (aA e h)];exact e
theorem Ext.new{a:MB}{o:HO}(h:H a=Mu):Ext F H k (upd H a o) k:=.of (wo h)
theorem gF{a:MB}(l:H F.p≠Mu)(h:H a=Mu):a≠F.p:=λz=>l (z▸h)
theorem TupAt.mono{a:MB}{xs:List V}(h:TupAt F H a xs)(e:Kp F H k H' k'):TupAt F H' a xs:=by
 refine⟨h.1,?_⟩;rcases h.2 with b|b
 .refine .inl ?_;rcases b with b|⟨o,b⟩;.exact .inl (e.keep _ _ h.1 rfl b)
  .exact .inr ⟨o,e.keep _ _ h.1 rfl b⟩
 .exact .inr b
theorem eM.mono{a:MB}{ks:List NK}(h:eM F H a ks)(e:Kp F H k H' k'):eM F H' a ks:=by
 obtain⟨f,i,g⟩:=h;refine⟨f,i.mono e,Paired.Cd g λv n z=>?_⟩;cases n with
 |inl k=>exact z|inr ks=>obtain⟨b,d,c⟩:=z;exact⟨b,d,c.mono e⟩
theorem LstAt.mono{a:MB}{xs:List V}(h:LstAt F H a xs)(e:Kp F H k H' k'):LstAt F H' a xs:=by
 refine⟨h.1,?_⟩;obtain⟨o,b⟩:=h.2;exact⟨o,e.keep _ _ h.1 rfl b⟩
theorem uY.mono{a:MB}{o:NI}(h:uY F H a o)(e:Kp F H k H' k'):uY F H' a o:=by
 obtain⟨c,d,b⟩:=h;refine⟨c,d,?_⟩;rcases b with⟨u,b⟩|b;.exact .inl ⟨u,e.keep _ _ c rfl b⟩
 .exact .inr b
theorem bj.mono{o:NI}{ks:List D}{xs:List V}(h:bj F H o ks xs)(e:Kp F H k H' k'):bj F H' o ks xs:=by
 obtain⟨b,h⟩:=h;refine⟨b,?_⟩;rcases h with h|⟨a,xs,i,g,f,d⟩;.exact .inl h
 .exact .inr ⟨a,xs,i,g,λx c=>(f x c).mono e,d⟩
theorem sT.mono{a:MB}{ks:List D}{xs:List V}(h:sT F H a ks xs)(e:Kp F H k H' k'):sT F H' a ks xs:=let⟨o,c,b⟩:=h;⟨o,c.mono e,b.mono e⟩
mutual
theorem Is.mono(e:Kp F H k H' k'):∀{v:V}{d:D},Is F H v d->Is F H' v d
 |_,.bH,h=>by simp only[Is]at h⊢;exact h|_,.bl _,h=>by simp only[Is]at h⊢;exact h|_,.int _,h=>by simp only[Is]at h⊢;exact h|_,.str _,h=>by simp only[Is]at h⊢;exact h|_,.tup _,h=>by
  simp only[Is]at h⊢;obtain⟨a,b,g,f,c⟩:=h;exact⟨a,b,g,f.mono e,af.mono e c⟩|_,.lst _,h=>by
  simp only[Is]at h⊢;obtain⟨a,b,g,f,c⟩:=h;exact⟨a,b,g,f.mono e,af.mono e c⟩|_,.aW _ _,h=>by
  simp only[Is]at h⊢;obtain⟨a,b,g,f,c⟩:=h;exact⟨a,b,g,f.mono e,af.mono e c⟩
theorem af.mono(e:Kp F H k H' k'):∀{xs:List V}{ds:List D},af F H xs ds->af F H' xs ds
 |_,[],h=>by simp only[af]at h⊢;exact h|_,d::ds,h=>by
  simp only[af]at h⊢;obtain⟨x,a,f,c,b⟩:=h;exact⟨x,a,f,Is.mono e c,af.mono e b⟩
end
theorem af.nil:af F H [] []:=by simp only[af]
theorem af.cons{x:V}{xs:List V}{d:D}{ds:List D}(h:Is F H x d)(t:af F H xs ds):af F H (x::xs) (d::ds):=by simp only[af];exact⟨x,xs,rfl,h,t⟩
theorem af.length:∀{xs:List V}{ds:List D},af F H xs ds->xs.length=ds.length
 |_,[],h=>by simp only[af]at h;rw[h];rfl|_,d::ds,h=>by
  simp only[af]at h;obtain⟨x,b,rfl,_,a⟩:=h;simp[af.length a]
theorem af.append:∀{xs ys:List V}{ds a:List D},af F H xs ds->af F H ys a->af F H (xs++ys) (ds++a)
 |_,_,[],_,h,t=>by simp only[af]at h;rw[h];exact t|_,_,d::ds,_,h,t=>by
  simp only[af]at h;obtain⟨x,ys,rfl,c,b⟩:=h;exact .cons c (af.append b t)
theorem af.get:∀{xs:List V}{ds:List D}{i:Nat}{d:D},af F H xs ds->ds[i]?=Mq d->∃x,xs[i]?=Mq x/\Is F H x d
 |_,[],_,_,_,e=>by simp at e|_,c::ds,i,d,h,e=>by
  simp only[af]at h;obtain⟨x,f,rfl,b,a⟩:=h;cases i with
  |zero=>simp at e;subst e;exact⟨x,rfl,b⟩|succ i=>simpa using af.get (i:=i) a (by simpa using e)
theorem af.drop:∀{xs:List V}{ds:List D}(n:Nat),af F H xs ds->af F H (xs.drop n) (ds.drop n)
 |_,_,0,h=>by simpa using h|_,[],n+1,h=>by simp only[af]at h;rw[h];exact .nil|_,d::ds,n+1,h=>by
  simp only[af]at h;obtain⟨x,b,rfl,_,a⟩:=h;simpa using af.drop n a
theorem af.take:∀{xs:List V}{ds:List D}(n:Nat),af F H xs ds->af F H (xs.take n) (ds.take n)
 |_,_,0,h=>by simpa using af.nil|_,[],n+1,h=>by simp only[af]at h;rw[h];exact .nil|_,d::ds,n+1,h=>by
  simp only[af]at h;obtain⟨x,c,rfl,b,a⟩:=h;simpa using af.cons b (af.take n a)
theorem af.pr:∀{xs:List V}{ds:List D},af F H xs ds->Paired (Is F H) xs ds
 |_,[],h=>by simp only[af]at h;rw[h];exact .nil|_,d::ds,h=>by
  simp only[af]at h;obtain⟨x,c,rfl,b,a⟩:=h;exact .cons b a.pr
theorem hX:∀{xs:List V}{ds:List D},Paired (Is F H) xs ds->af F H xs ds
 |_,_,.nil=>.nil|_,_,.cons h t=>.cons h (hX t)
end
noncomputable def gx(F:Fb)(H:Hp)(a:MB):D->Prop
 |.lst c=>∃b,H a=Mq (.lst b)/\af F H b c|.aW ks c=>∃o b,H a=Mq (lS a o)/\(a==NW)=Mw/\bj F H o ks b/\af F H b c|_=>False
noncomputable def gy(F:Fx)(H:Hp)(a:MB)(d:D):Prop:=a≠F.p/\F.H0 a=Mu/\gx F.toFb H a d
noncomputable def wq(B:Fb)(H:Hp)(b:MB)(d:D):Prop:=∃a c,d=.lst a/\H b=Mq (.lst c)/\af B H c a
inductive pb(F:Fx)(H:Hp)(a:MB)(ks ds:List D):Prop where|mk(o:NI)(bs:List MB)(ap:a≠F.p)(a0:F.H0 a=Mu)(ob:H a=Mq (lS a o))(sy:(a==NW)=Mw)(dc:bj F.toFb H o ks (bs.map V.ref))(nd:bs.Nodup)(na:a∉bs)(bp:∀b∈bs,b≠F.p/\F.H0 b=Mu)(lv:Paired (wq F.toFb H) bs ds)
noncomputable def FE(F:Fx)(H:Hp)(k:Nat):V->W->Prop
 |v,.d x=>Is F.toFb H v x|v,.feed=>v=.ref F.p/\FC H F.p k|v,.own d=>∃a,v=.ref a/\gy F H a d|v,.gq ks b=>∃a,v=.ref a/\pb F H a ks b
inductive A where|d(x:D)|feed|own(d:D)
noncomputable def A.w:A->W
 |.d x=>.d x|.feed=>.feed|.own y=>.own y
noncomputable def FG(F:Fb)(H:Hp)(k:Nat):V->A->Prop
 |v,.d x=>Is F H v x|v,.feed=>v=.ref F.p/\FC H F.p k|_,.own _=>False
noncomputable abbrev wu(F:Fb)(H:Hp)(k:Nat):List V->List A->Prop:=Paired (FG F H k)
section
variable{F:Fx}{H H1 H2 H':Hp}{k k1 k2 k':Nat}
theorem gx.keep{B:Fb}{a:MB}{d:D}(h:gx B H a d)(e:Kp B H k H' k')(ha:∀o,H a=Mq o->H' a=Mq o):gx B H' a d:=by cases d with
 |lst j=>obtain⟨b,f,c⟩:=h;exact⟨b,ha _ f,c.mono e⟩|aW ks j=>obtain⟨o,b,f,c,i,g⟩:=h;exact⟨o,b,ha _ f,c,i.mono e,g.mono e⟩|_=>exact h.elim
theorem gy.mono{a:MB}{d:D}(h:gy F H a d)(e:Ext F.toFb H k H' k'):gy F H' a d:=⟨h.1,h.2.1,h.2.2.keep e.kp λo q=>e.keep a o h.1 q⟩
theorem wq.keep{B:Fb}{b:MB}{d:D}(h:wq B H b d)(e:Kp B H k H' k')(hb:∀o,H b=Mq o->H' b=Mq o):wq B H' b d:=by
 obtain⟨a,c,i,g,f⟩:=h;exact⟨a,c,i,hb _ g,f.mono e⟩
theorem eN{d c:Type}{R S:d->c->Prop}:∀{l:List d}{r:List c},Paired R l r->(∀a∈l,∀b,R a b->S a b)->Paired S l r
 |_,_,.nil,_=>.nil|_,_,.cons h t,q=>.cons (q _ ME _ h) (eN t λa ha b=>q a (MH _ ha) b)
theorem pb.mono{a:MB}{ks ds:List D}(h:pb F H a ks ds)(e:Ext F.toFb H k H' k'):pb F H' a ks ds:=by
 obtain⟨o,bs,f,p,n,m,l,j,i,c,g⟩:=h;exact⟨o,bs,f,p,e.keep _ _ f n,m,l.mono e.kp,j,i,c,eN g λb hb d q=>q.keep e.kp λo z=>e.keep b o (c b hb).1 z⟩
theorem FE.mono{v:V}{x:W}(h:FE F H k v x)(e:Ext F.toFb H k H' k'):FE F H' k' v x:=by cases x with
 |d x=>exact Is.mono e.kp h|feed=>exact⟨h.1,e.feed h.2⟩|own d=>
  obtain⟨a,c,b⟩:=h;exact⟨a,c,b.mono e⟩|gq ks f=>
  obtain⟨a,c,b⟩:=h;exact⟨a,c,b.mono e⟩
theorem FG.w{v:V}{x:A}(h:FG F.toFb H k v x):FE F H k v x.w:=by cases x with
 |own d=>exact h.elim|_=>exact h
end
noncomputable def W.fw:W->Bool
 |.own _=>Mv|.gq _ _=>Mv|_=>Mw
structure b9(F:Fx)(ρ:ag)(k:Nat)(σ:St)(H:Hp):Prop where
 len:ρ.length=σ.length
 at_:∀(i:Nat)(d:W),ρ[i]?=Mq (Mq d)->∃v,σ[i]?=Mq (Mq v)/\FE F H k v d
 apart:∀(i j:Nat)(d e:W)(v:V),i≠j->ρ[i]?=Mq (Mq d)->ρ[j]?=Mq (Mq e)->d.fw=Mv->e.fw=Mv->σ[i]?=Mq (Mq v)->σ[j]?≠Mq (Mq v)alone:∀(i j:Nat)(ks ds:List D)(w:W),ρ[i]?=Mq (Mq (.gq ks ds))->ρ[j]?=Mq (Mq w)->w.fw=Mv->j=i
 live:H F.p≠Mu
 ext:Ext F.toFb F.H0 F.k0 H k
 zy:Kp F.toFb F.Hs F.ks H k
theorem b9.mono{F:Fx}{ρ:ag}{k b:Nat}{a:St}{H H':Hp}(h:b9 F ρ k a H)(e:Ext F.toFb H k H' b):b9 F ρ b a H' where
 len:=h.len;at_:=λi d q=>let⟨v,f,c⟩:=h.at_ i d q;⟨v,f,c.mono e⟩;apart:=h.apart;alone:=h.alone;live:=e.live h.live;ext:=h.ext.trans e;zy:=h.zy.trans e.kp
noncomputable def qE(F:Fb)(H:Hp)(k:Nat)(Q:V->Hp->Prop):D->Nat->Prop:=λd b=>∀v a,Ext F H k a b->Is F a v d->Q v a
noncomputable def qT(F:Fb)(H:Hp)(k:Nat)(Q:Bool->Hp->Prop):Bool->Nat->Prop:=λb c=>∀a,Ext F H k a c->Q b a
noncomputable def qA(F:Fb)(H:Hp)(k:Nat)(Q:List V->Hp->Prop):List A->Nat->Prop:=λd c=>∀b a,Ext F H k a c->wu F a c b d->Q b a
noncomputable def cL(F:Fx)(t:ag->M D):TE:=λb H Q=>∃a k,b9 F a k b H/\(t a).run k (qE F.toFb H k Q) F.E
noncomputable def oK(F:Fx)(t:ag->M Bool):TT:=λb H Q=>∃a k,b9 F a k b H/\(t a).run k (qT F.toFb H k Q) F.E
noncomputable def qM(F:Fx)(t:ag->M (List A)):TA:=λb H Q=>∃a k,b9 F a k b H/\(t a).run k (qA F.toFb H k Q) F.E
structure DE(X:Cx)(F:Fx)(e:MP)(t:ag->M D):Prop where
 hK:X.K=F.K
 pe:PE X e (cL F t)
structure DT(X:Cx)(F:Fx)(e:MP)(t:ag->M Bool):Prop where
 hK:X.K=F.K
 pt:PT X e (oK F t)
structure DA(X:Cx)(F:Fx)(es:List MP)(t:ag->M (List A)):Prop where
 hK:X.K=F.K
 pa:PA X es (qM F t)
inductive Fl where|nx(ρ:ag)|rt(d:D)|bk(ρ:ag)|ct(ρ:ag)|ro(d:D)
noncomputable def sU(F:Fx)(Z:Ends)(H:Hp)(k:Nat)(g:Fl)(e:Nat):Prop:=match g with
 |.nx f=>∀c b,Kp F.toFb H k b e->b9 F f e c b->Z.nx c b|.rt d=>∀v b,Ext F.toFb F.H0 F.k0 b e->Is F.toFb b v d->Z.rt v b|.bk f=>∀c b,Kp F.toFb H k b e->b9 F f e c b->Z.bk c b|.ct f=>∀c b,Kp F.toFb H k b e->b9 F f e c b->Z.ct c b|.ro d=>∀a b,Ext F.toFb F.H0 F.k0 b e->gy F b a d->Z.rt (.ref a) b
noncomputable def J5(F:Fx)(t:ag->M Fl):TS:=λZ b H=>∃a k,b9 F a k b H/\(t a).run k (sU F Z H k) F.E
structure DS(X:Cx)(F:Fx)(st:Ou)(t:ag->M Fl):Prop where
 hK:X.K=F.K
 ps:PS X st (J5 F t)
structure vG(X:Cx)(F:Fx)(st:List Ou)(t:ag->M Fl):Prop where
 hK:X.K=F.K
 ps:oJ X st (J5 F t)
theorem sU.mono{F:Fx}{Z:Ends}{H H':Hp}{k g j:Nat}{c:Fl}(e:Kp F.toFb H k H' g)(h:sU F Z H k c j):sU F Z H' g c j:=by cases c with
 |nx f=>exactλa b q S=>h a b (e.trans q) S|rt d=>exact h|ro d=>exact h|bk f=>exactλa b q S=>h a b (e.trans q) S|ct f=>exactλa b q S=>h a b (e.trans q) S
section
variable{X:Cx}
theorem PE.imp{e:MP}{t t':TE}(h:PE X e t)(q:∀a H Q,t' a H Q->t a H Q):PE X e t':=λb s a H Q I z=>h b s a H Q I (q a H Q z)
theorem PT.imp{e:MP}{t t':TT}(h:PT X e t)(q:∀a H Q,t' a H Q->t a H Q):PT X e t':=λb s a H Q I z=>h b s a H Q I (q a H Q z)
theorem PW.imp{e:MP}{t t':TT}(h:PW X e t)(q:∀a H Q,t' a H Q->t a H Q):PW X e t':=λw b s a H Q I z=>h w b s a H Q I (q a H Q z)
theorem PA.imp{e:List MP}{t t':TA}(h:PA X e t)(q:∀a H Q,t' a H Q->t a H Q):PA X e t':=λc b s a H Q I z=>h c b s a H Q I (q a H Q z)
theorem PS.imp{e:Ou}{t t':TS}(h:PS X e t)(q:∀D a H,t' D a H->t D a H):PS X e t':=λb s a H D I z=>h b s a H D I (q D a H z)
theorem oJ.imp{e:List Ou}{t t':TS}(h:oJ X e t)(q:∀D a H,t' D a H->t D a H):oJ X e t':=λb s a H D I z=>h b s a H D I (q D a H z)
end
theorem cL.next{F:Fx}{t:ag->M D}{b:St}{H:Hp}{ρ:ag}{k:Nat}{R:D->Nat->Prop}{Q:V->Hp->Prop}(S:b9 F ρ k b H)(h:(t ρ).run k R F.E)(q:∀d a v H',Ext F.toFb H k H' a->b9 F ρ a b H'->Is F.toFb H' v d->R d a->Q v H'):cL F t b H Q:=⟨ρ,k,S,(t ρ).mono h (λd a r v H' e i=>q d a v H' e (S.mono e) i r) λ_ _ z=>z⟩
theorem oK.next{F:Fx}{t:ag->M Bool}{c:St}{H:Hp}{ρ:ag}{k:Nat}{R:Bool->Nat->Prop}{Q:Bool->Hp->Prop}(S:b9 F ρ k c H)(h:(t ρ).run k R F.E)(q:∀b a H',Ext F.toFb H k H' a->b9 F ρ a c H'->R b a->Q b H'):oK F t c H Q:=⟨ρ,k,S,(t ρ).mono h (λb a r H' e=>q b a H' e (S.mono e) r) λ_ _ z=>z⟩
theorem qM.next{F:Fx}{t:ag->M (List A)}{c:St}{H:Hp}{ρ:ag}{k:Nat}{R:List A->Nat->Prop}{Q:List V->Hp->Prop}(S:b9 F ρ k c H)(h:(t ρ).run k R F.E)(q:∀ds a b H',Ext F.toFb H k H' a->b9 F ρ a c H'->wu F.toFb H' a b ds->R ds a->Q b H'):qM F t c H Q:=⟨ρ,k,S,(t ρ).mono h (λds a r b H' e i=>q ds a b H' e (S.mono e) i r) λ_ _ z=>z⟩
noncomputable def fx(ρ:ag)(i:Nat):Option D:=match ρ[i]? with
 |some (Mq (.d x))=>Mq x|_=>Mu
theorem zA{ρ:ag}{i:Nat}{x:D}(h:fx ρ i=Mq x):ρ[i]?=Mq (Mq (.d x)):=by
 unfold fx at h;split at h;.rename_i y e;cases h;exact e
 .cases h
noncomputable def dM:D->M Bool
 |.bl b=>pure b|_=>M.fail
noncomputable def e9:D->M Int
 |.int i=>pure i|_=>M.fail
theorem dj{d:D}{k Q E}:(dM d).run k Q E↔∃b,d=.bl b/\Q b k:=by cases d with
 |bl b=>exact⟨λh=>⟨b,rfl,h⟩,λ⟨c,e,h⟩=>by cases e;exact h⟩|_=>exact⟨λh=>h.elim,λ⟨c,e,h⟩=>nomatch e⟩
theorem aN{d:D}{k Q E}:(e9 d).run k Q E↔∃b,d=.int b/\Q b k:=by cases d with
 |int b=>exact⟨λh=>⟨b,rfl,h⟩,λ⟨c,e,h⟩=>by cases e;exact h⟩|_=>exact⟨λh=>h.elim,λ⟨c,e,h⟩=>nomatch e⟩
section
variable{X:Cx}{F:Fx}{a b c e:MP}{es rest:List MP}{pos:Oc}{ta tb tc:ag->M D}
theorem CZ(i:Nat){x:MR}{pos:Oc}(hN:X.N[i]?=Mq x:=by rfl)(g:oI X.env.scope x:=by first|exact Qt rfl|exact Rp (Qt rfl)|exact Rp (Rp rfl))(hd:(x==("__debug__":MR))=Mw:=by decide)(f:(x==("__classdict__":MR))=Mw:=by decide)(hK:X.K=F.K:=by rfl):DE X F (.Name x pos) (λρ=>M.get (fx ρ i)):=by
 refine⟨hK,(bX hN g hd f).imp λo H Q⟨ρ,k,S,h⟩=>?_⟩;obtain⟨d,n,m⟩:=M.run_get.mp h;obtain⟨v,l,j⟩:=S.at_ i _ (zA n);exact⟨v,l,m v H .refl j⟩
theorem C0{i j pos}(hK:X.K=F.K:=by rfl):DE X F (.Constant (.int i) j pos) (λ_=>pure (.int i)):=⟨hK,aB.imp λd H Q⟨f,k,S,h⟩=>h _ H .refl (by simp only[Is])⟩
theorem Gq{i j pos}(hK:X.K=F.K:=by rfl):DE X F (.Constant (.bool i) j pos) (λ_=>pure (.bl i)):=⟨hK,FZ.imp λd H Q⟨f,k,S,h⟩=>h _ H .refl (by simp only[Is])⟩
theorem wx{j pos}(hK:X.K=F.K:=by rfl):DE X F (.Constant .none j pos) (λ_=>pure .bH):=⟨hK,Ci.imp λd H Q⟨f,k,S,h⟩=>h _ H .refl (by simp only[Is])⟩
theorem C1{i j pos}(hK:X.K=F.K:=by rfl):DE X F (.Constant (.str i) j pos) (λ_=>pure (.str i)):=⟨hK,Cj.imp λd H Q⟨f,k,S,h⟩=>h _ H .refl (by simp only[Is])⟩
structure e_(X:Cx)(F:Fx)(f:Mt->Mt->Rw Mt)(m:D->D->M D):Prop where
 op:∀(pins:List (MB×NI))(s:Mz)(σ:St)(H:Hp)(k:Nat)(x y:V)(v u:Mt)(d e:D)(Q:VK),Inv X pins σ H s->RelV x v->RelV y u->H F.p≠Mu->X.K=F.K->Is F.toFb H x d->Is F.toFb H y e->(m d e).run k (qE F.toFb H k Q) F.E->wpAny (ML X.prog X.w) X.A (f v u) (EP X pins σ Q) X.xe s
noncomputable def Gu(F:Fx)(m:D->D->M D):R2:=λx y H Q=>∃k d e,H F.p≠Mu/\Is F.toFb H x d/\Is F.toFb H y e/\(m d e).run k (qE F.toFb H k Q) F.E
theorem e_.C2{f:Mt->Mt->Rw Mt}{m:D->D->M D}(h:e_ X F f m)(hK:X.K=F.K):jq X f (Gu F m):=λg s i H x y v u Q I n j⟨k,d,e,l,p,o,q⟩=>h.op g s i H k x y v u d e Q I n j l hK p o q
theorem e_.of{f:Mt->Mt->Rw Mt}{m:D->D->M D}{r:R2}(h:jq X f r)(q:X.K=F.K->∀H k x y d e Q,H F.p≠Mu->Is F.toFb H x d->Is F.toFb H y e->(m d e).run k (qE F.toFb H k Q) F.E->r x y H Q):e_ X F f m:=⟨λg s i H k x y v u d e Q I n j l hK t o z=>h g s i H x y v u Q I n j (q hK H k x y d e Q l t o z)⟩
theorem qE.ext{B:Fb}{H g:Hp}{k f:Nat}{Q:V->Hp->Prop}{d:D}{j:Nat}(e:Ext B H k g f)(h:qE B H k Q d j):qE B g f Q d j:=λv m l i=>h v m (e.trans l) i
theorem qT.ext{B:Fb}{H g:Hp}{k f:Nat}{Q:Bool->Hp->Prop}{d:Bool}{j:Nat}(e:Ext B H k g f)(h:qT B H k Q d j):qT B g f Q d j:=λl i=>h l (e.trans i)
theorem M.wk{d:Type}{m:M d}{k Q Q' E}(h:m.run k Q E)(q:∀a k,Q a k->Q' a k):m.run k Q' E:=m.mono h q λ_ _ z=>z
theorem sV{m:D->D->M D}{f:St}{H:Hp}{Q:VK}(h:cL F (λρ=>do let d<-ta ρ;let e<-tb ρ;m d e) f H Q):F_ (Gu F m) (cL F ta) (cL F tb) f H Q:=by
 obtain⟨ρ,k,S,h⟩:=h;refine cL.next S h λd u v x p s l o=>?_;refine cL.next s o λq i t w g r j n=>?_;exact⟨i,d,q,r.live,l.mono g.kp,j,M.wk n λ_ _ z=>z.ext (p.trans g)⟩
theorem Gw{op:Rn}{m:D->D->M D}(f:e_ X F (OL op) m)(ha:DE X F a ta)(hb:DE X F b tb):DE X F (.BinOp a op b pos) (λρ=>do let d<-ta ρ;let e<-tb ρ;m d e):=⟨ha.hK,(bA (f.C2 ha.hK) ha.pe hb.pe).imp λg H Q h=>sV h⟩
theorem C4{op:P0}{m:D->D->M D}(f:e_ X F (Nd op) m)(ha:DE X F a ta)(hb:DE X F b tb)(g:PB op b=Mw:=by first|exact iS _|with_unfolding_all rfl):DE X F (.Compare a [op] [b] pos) (λρ=>do let d<-ta ρ;let e<-tb ρ;m d e):=⟨ha.hK,(zj (f.C2 ha.hK) ha.pe hb.pe g).imp λi H Q h=>sV h⟩
theorem sW{t:ag->M D}{g:St}{H:Hp}{Q:Bool->Hp->Prop}(h:oK F (λρ=>do dM (<-t ρ)) g H Q):vV (cL F t) g H Q:=by
 obtain⟨ρ,k,S,h⟩:=h;refine cL.next S h λd m v l j n i f=>?_;obtain⟨c,rfl,f⟩:=dj.mp f;simp only[Is]at i;exact⟨c,i,f l j⟩
theorem C8{op:P0}{m:D->D->M D}(f:e_ X F (Nd op) m)(ha:DE X F a ta)(hb:DE X F b tb)(g:PB op b=Mw:=by first|exact iS _|with_unfolding_all rfl):DT X F (.Compare a [op] [b] pos) (λρ=>do dM (<-(do let d<-ta ρ;let e<-tb ρ;m d e))):=⟨ha.hK,(fZ (f.C2 ha.hK) ha.pe hb.pe g).imp λi H Q h=>by
  obtain⟨ρ,k,S,h⟩:=sW (t:=λρ=>do let d<-ta ρ;let e<-tb ρ;m d e) h;exact sV ⟨ρ,k,S,h⟩⟩
noncomputable def ku(m g:D->D->M D)(ta tb tc:ag->M D)(ρ:ag):M D:=do
 let d<-ta ρ;let e<-tb ρ;let r<-m d e;let y<-dM r;if y then do let f<-tc ρ;g e f else pure (.bl Mw)
theorem pd{m l:D->D->M D}{j:St}{H:Hp}{Q:VK}(h:cL F (ku m l ta tb tc) j H Q):qS (Gu F m) (Gu F l) (cL F ta) (cL F tb) (cL F tc) j H Q:=by
 obtain⟨K,k,S,h⟩:=h;refine cL.next S h λd R v V q I y C=>?_;refine cL.next I C λs w O U i t o B=>?_;refine⟨w,d,s,t.live,y.mono i.kp,o,M.wk B λr P f N J g n=>?_⟩;obtain⟨c,rfl,f⟩:=dj.mp f;simp only[Is]at n;refine⟨c,n,?_⟩;cases c with
 |false=>exact f _ J ((q.trans i).trans g) (by simp only[Is])|true=>
  refine cL.next (t.mono g) f λE u L T p G x A=>?_;exact⟨u,s,E,G.live,o.mono (g.trans p).kp,x,M.wk A λ_ _ z=>z.ext (((q.trans i).trans g).trans p)⟩
theorem wy{op d:P0}{m g:D->D->M D}(i:e_ X F (Nd op) m)(f:e_ X F (Nd d) g)(ha:DE X F a ta)(hb:DE X F b tb)(k:DE X F c tc)(j:Ti [op,d] [b,c]=Mw:=by with_unfolding_all rfl):DE X F (.Compare a [op,d] [b,c] pos) (ku m g ta tb tc):=⟨ha.hK,(vW (i.C2 ha.hK) (f.C2 ha.hK) ha.pe hb.pe k.pe j).imp λl H Q h=>pd h⟩
theorem wz{op d:P0}{m f:D->D->M D}(i:e_ X F (Nd op) m)(g:e_ X F (Nd d) f)(ha:DE X F a ta)(hb:DE X F b tb)(l:DE X F c tc)(j:Ti [op,d] [b,c]=Mw:=by with_unfolding_all rfl):DT X F (.Compare a [op,d] [b,c] pos) (λρ=>do dM (<-ku m f ta tb tc ρ)):=⟨ha.hK,(vX (i.C2 ha.hK) (g.C2 ha.hK) ha.pe hb.pe l.pe j).imp λn H Q h=>by
  obtain⟨ρ,k,S,h⟩:=sW (t:=ku m f ta tb tc) h;exact pd ⟨ρ,k,S,h⟩⟩
noncomputable def mI(C:Int->Int->Prop)(g:Int->Int->D):D->D->M D:=λd e=>do
 let i<-e9 d;let j<-e9 e;M.need (C i j)pure (g i j)
noncomputable def C9(g:Int->Int->D):D->D->M D:=λd e=>do
 let i<-e9 d;let j<-e9 e;pure (g i j)
theorem sX{f:Mt->Mt->Rw Mt}{C:Int->Int->Prop}{g:Int->Int->Int}(h:jq X f (rI C λi j=>.int (g i j))):e_ X F f (mI C λi j=>.int (g i j)):=.of h λhK H k x y d e Q l n m q=>by
  obtain⟨i,rfl,q⟩:=aN.mp q;obtain⟨j,rfl,q⟩:=aN.mp q;simp only[Is]at n m;exact⟨i,j,n,m,q.1,q.2 _ H .refl (by simp only[Is])⟩
theorem q_{f:Mt->Mt->Rw Mt}{g:Int->Int->Bool}(h:jq X f (Bt λi j=>.bl (g i j))):e_ X F f (C9 λi j=>.bl (g i j)):=.of h λhK H k x y d e Q l n m q=>by
  obtain⟨i,rfl,q⟩:=aN.mp q;obtain⟨j,rfl,q⟩:=aN.mp q;simp only[Is]at n m;exact⟨i,j,n,m,q _ H .refl (by simp only[Is])⟩
theorem C_:e_ X F (OL .Mult) (mI zi λi j=>.int (i*j)):=sX gD
theorem zB:e_ X F (OL .FloorDiv) (mI Gb λi j=>.int (i/j)):=sX jN
theorem Dc:e_ X F (OL .Mod) (mI (λ_ j=>0<j) λi j=>.int (i%j)):=sX dJ
theorem Dd:e_ X F (OL .Pow) (mI Gc λi j=>.int (i^j.toNat)):=sX vT
theorem Gx:e_ X F (Nd .Lt) (C9 λi j=>.bl (decide (i<j))):=q_ Bu
theorem Gy:e_ X F (Nd .LtE) (C9 λi j=>.bl (decide (i<=j))):=q_ Gd
theorem Gz:e_ X F (Nd .Gt) (C9 λi j=>.bl (decide (j<i))):=q_ vU
noncomputable def ky:D->Bool
 |.bH=>Mv|_=>Mw
theorem wA{B:Fb}{H:Hp}{v:V}{d:D}(h:Is B H v d):decide (v=.bH)=ky d:=by cases d with
 |bH=>simp only[Is]at h;rw[h];rfl|bl b=>simp only[Is]at h;rw[h];rfl|int i=>simp only[Is]at h;rw[h];rfl|str x=>simp only[Is]at h;rw[h];rfl|tup g=>simp only[Is]at h;obtain⟨a,f,h,_⟩:=h;rw[h];rfl|lst g=>simp only[Is]at h;obtain⟨a,f,h,_⟩:=h;rw[h];rfl|aW ks g=>simp only[Is]at h;obtain⟨a,f,h,_⟩:=h;rw[h];rfl
noncomputable def J6(neg:Bool):D->D->M D:=λd e=>do
 M.need (ky e=Mv)pure (.bl (if neg then !ky d else ky d))
theorem wB{B:Fb}{H:Hp}{v:V}{e:D}(h:ky e=Mv)(i:Is B H v e):v=.bH:=by cases e<;>first|(simp only[Is]at i;exact i)|cases h
theorem De:e_ X F (Nd .Is) (J6 Mw):=.of CC λhK H k x y d e Q l g f q=>⟨wB q.1 f,by rw[wA g];exact q.2 _ H .refl (by simp only[Is];rfl)⟩
noncomputable def J7(ta tb:ag->M D)(ρ:ag):M D:=do
 let b<-dM (<-ta ρ)if b then tb ρ else pure (.bl Mw)
noncomputable def LX(ta tb:ag->M D)(ρ:ag):M D:=do
 let b<-dM (<-ta ρ)if b then pure (.bl Mv)else tb ρ
theorem Dh{op}(h:DE X F a ta):DE X F (.BoolOp op [a] pos) ta:=⟨h.hK,Co h.pe⟩
theorem Di(ha:DE X F a ta)(hb:DE X F (.BoolOp .And (b::rest) pos) tb):DE X F (.BoolOp .And (a::b::rest) pos) (J7 ta tb):=⟨ha.hK,(Cp ha.pe hb.pe).imp λp H Q g=>by
  obtain⟨l,k,S,h⟩:=g;refine cL.next S h λd m v o j n i f=>?_;obtain⟨c,rfl,f⟩:=dj.mp f;simp only[Is]at i;refine⟨c,i,?_⟩;cases c with
  |true=>exact⟨l,m,n,M.wk f λ_ _ z=>z.ext j⟩|false=>exact f _ o j (by simp only[Is])⟩
theorem GA(ha:DE X F a ta)(hb:DE X F (.BoolOp .Or (b::rest) pos) tb):DE X F (.BoolOp .Or (a::b::rest) pos) (LX ta tb):=⟨ha.hK,(F3 ha.pe hb.pe).imp λp H Q g=>by
  obtain⟨l,k,S,h⟩:=g;refine cL.next S h λd m v o j n i f=>?_;obtain⟨c,rfl,f⟩:=dj.mp f;simp only[Is]at i;refine⟨c,i,?_⟩;cases c with
  |false=>exact⟨l,m,n,M.wk f λ_ _ z=>z.ext j⟩|true=>exact f _ o j (by simp only[Is])⟩
theorem Dj(ha:DE X F a ta):DE X F (.UnaryOp .Not a pos) (λρ=>do let b<-dM (<-ta ρ);pure (.bl (!b))):=⟨ha.hK,(Cq ha.pe).imp λm H Q f=>by
  obtain⟨ρ,k,S,h⟩:=f;refine cL.next S h λd n v l j o i g=>?_;obtain⟨c,rfl,g⟩:=dj.mp g;simp only[Is]at i;exact⟨c,i,g _ l j (by simp only[Is])⟩⟩
structure vH(X:Cx)(F:Fx)(e:MP)(t:ag->M Bool):Prop where
 hK:X.K=F.K
 pw:PW X e (oK F t)
theorem vH.dt{t:ag->M Bool}(h:vH X F e t):DT X F e t:=⟨h.hK,h.pw.pt⟩
variable{tA tB:ag->M Bool}
noncomputable def J8(ta tb:ag->M Bool)(ρ:ag):M Bool:=do
 let b<-ta ρ;if b then tb ρ else pure Mw
noncomputable def LY(ta tb:ag->M Bool)(ρ:ag):M Bool:=do
 let b<-ta ρ;if b then pure Mv else tb ρ
theorem zC(ha:DT X F a tA):vH X F (.BoolOp .And [a] pos) tA:=⟨ha.hK,sF ha.pt⟩
theorem Dl(ha:DT X F a tA):vH X F (.BoolOp .Or [a] pos) tA:=⟨ha.hK,Ck ha.pt⟩
theorem Dm(ha:DT X F a tA)(hb:vH X F (.BoolOp .And (b::rest) pos) tB):vH X F (.BoolOp .And (a::b::rest) pos) (J8 tA tB):=⟨ha.hK,(vN ha.pt hb.pw).imp λn H Q d=>by
  obtain⟨i,k,S,h⟩:=d;refine oK.next S h λc j m g l f=>?_;cases c with
  |true=>exact⟨i,j,l,M.wk f λ_ _ z=>z.ext g⟩|false=>exact f m g⟩
theorem GB(ha:DT X F a tA)(hb:vH X F (.BoolOp .Or (b::rest) pos) tB):vH X F (.BoolOp .Or (a::b::rest) pos) (LY tA tB):=⟨ha.hK,(F0 ha.pt hb.pw).imp λn H Q d=>by
  obtain⟨i,k,S,h⟩:=d;refine oK.next S h λc j m g l f=>?_;cases c with
  |false=>exact⟨i,j,l,M.wk f λ_ _ z=>z.ext g⟩|true=>exact f m g⟩
theorem Dn(ha:DT X F a tA):DT X F (.UnaryOp .Not a pos) (λρ=>do let b<-tA ρ;pure (!b)):=⟨ha.hK,(Cn ha.pt).imp λj H Q d=>by
  obtain⟨ρ,k,S,h⟩:=d;refine oK.next S h λc l i g m f=>?_;exact f i g⟩
noncomputable def LZ(t:ag->M Bool)(ta tb:ag->M D)(ρ:ag):M D:=do
 let b<-t ρ;if b then ta ρ else tb ρ
theorem GC(n:DT X F c tA)(ha:DE X F a ta)(hb:DE X F b tb):DE X F (.IfExp c a b pos) (LZ tA ta tb):=⟨ha.hK,(vO n.pt ha.pe hb.pe).imp λo H Q f=>by
  obtain⟨g,k,S,h⟩:=f;refine oK.next S h λd i p l m j=>?_;cases d with
  |true=>exact⟨g,i,m,M.wk j λ_ _ z=>z.ext l⟩|false=>exact⟨g,i,m,M.wk j λ_ _ z=>z.ext l⟩⟩
variable{tas:ag->M (List A)}
theorem Dp(hK:X.K=F.K:=by rfl):DA X F [] (λ_=>pure []):=⟨hK,cf.imp λd H Q⟨f,k,S,h⟩=>h [] H .refl .nil⟩
theorem zD(ha:DE X F e ta)(o:DA X F es tas)(n:MX (e::es) X.env=(Mw,OB e X.env)::MX es X.env:=by rfl):DA X F (e::es) (λρ=>do let d<-ta ρ;let r<-tas ρ;pure (.d d::r)):=⟨ha.hK,(bf ha.pe o.pa n).imp λu H Q f=>by
  obtain⟨ρ,k,S,h⟩:=f;refine cL.next S h λd x v B s t m q=>?_;refine qM.next t q λy j w i g z l p=>?_;exact p _ i (s.trans g) (.cons (show FG F.toFb i j v (.d d)from m.mono g.kp) l)⟩
theorem zE(i:Nat){x:MR}{pos:Oc}(g:DA X F es tas)(hN:X.N[i]?=Mq x:=by rfl)(p:oI X.env.scope x:=by first|exact Qt rfl|exact Rp (Qt rfl)|exact Rp (Rp rfl))(hd:(x==("__debug__":MR))=Mw:=by decide)(f:(x==("__classdict__":MR))=Mw:=by decide)(q:MX (.Name x pos::es) X.env=(Mw,OB (.Name x pos) X.env)::MX es X.env:=by rfl):DA X F (.Name x pos::es) (λρ=>do M.need (ρ[i]?=Mq (Mq .feed));let r<-tas ρ;pure (.feed::r)):=⟨g.hK,(bf (bX hN p hd f) g.pa q).imp λu H Q d=>by
  obtain⟨ρ,k,S,h⟩:=d;obtain⟨v,s,j⟩:=S.at_ i _ h.1;refine⟨v,s,?_⟩;refine qM.next S h.2 λy n w m l z o t=>?_;exact t _ m l (.cons (show FG F.toFb m n v .feed from⟨j.1,l.feed j.2⟩) o)⟩
noncomputable def hZ:List A->M (List D)
 |[]=>pure []|.d x::r=>do let f<-hZ r;pure (x::f)|.feed::_=>M.fail|.own _::_=>M.fail
theorem b5:∀{as:List A}{k Q E},(hZ as).run k Q E->∃ds,as=ds.map A.d/\Q ds k
 |[],_,_,_,h=>⟨[],rfl,h⟩|.d x::r,k,Q,E,h=>by
  obtain⟨ds,e,q⟩:=b5 (as:=r) h;exact⟨x::ds,by rw[e];rfl,q⟩|.feed::_,_,_,_,h=>h.elim|.own _::_,_,_,_,h=>h.elim
theorem b6{B:Fb}{H:Hp}{k:Nat}:∀{f:List V}{ds:List D},wu B H k f (ds.map A.d)->af B H f ds
 |_,[],h=>by cases h;exact .nil|_,d::ds,h=>by cases h with|cons r t=>exact .cons r (b6 t)
theorem Dq{x1}(h:DA X F es tas):DE X F (.Tuple es x1 pos) (λρ=>do let ds<-hZ (<-tas ρ);M.need (ds.length<=MA);pure (.tup ds)):=⟨h.hK,(CF h.pa).imp λp H Q f=>by
  obtain⟨ρ,k,S,h⟩:=f;refine qM.next S h λq l j r n o d m=>?_;obtain⟨ds,rfl,i⟩:=b5 m;have d:=b6 d;refine⟨by rw[d.length];exact i.1,λt g=>i.2 _ _ (n.trans (.new g)) ?_⟩;simp only[Is];exact⟨t,j,rfl,⟨gF o.live g,.of aj⟩,d.mono (Ext.new (k:=l) g).kp⟩⟩
end
end L2
end
section
namespace SortM
open PySem PySem.W PyProof.Rows
end SortM
end
section
namespace SortM
open PySem PySem.W PyProof.Rows
end SortM
end
section
namespace SortM
open PySem PySem.W PyProof.Rows L2
noncomputable abbrev fb(h h':M7):Prop:=∀b o,h.get? b=Mq o->h'.get? b=Mq o
section
variable{prog:MQ}{w:M6}{A:Nf}{E:Mt->Mz->Prop}{s:Mz}
theorem sY{Q:Bool->Mz->Prop}{a:Bool}:∀(xs ys:List Mt)(ns c:List Int)(i:Nat),O6 xs ns->O6 ys c->(ns.length<c.length↔a=Mv)->Q (HT.lexLt ns c) s->KatLex prog w A Mv a Q (xs.zip ys) i s
 |[],[],[],[],i,_,_,b,q=>by
  have:a=Mw:=by cases a with|false=>rfl|true=>exact absurd (b.mpr rfl) (by simp)
  subst this;exact q|[],y::ys,[],m::c,i,_,_,b,q=>by
  have:a=Mv:=b.mp (by simp);subst this;exact q|x::xs,[],n::ns,[],i,_,_,b,q=>by
  have:a=Mw:=by cases a with|false=>rfl|true=>exact absurd (b.mpr rfl) (by simp)
  subst this;exact q|x::xs,y::ys,n::ns,m::c,i,j,g,b,q=>by cases j with|cons _ l f=>cases g with|cons _ k d=>
    rw[HT.eK]at q;refine UG (RR ?_);by_cases e:n=m
    .rw[if_pos e]at q;rw[show(n==m)=Mv by simp[e]];exact Us (sY xs ys ns c (i+1) f d (by simpa using b) q)
    .rw[if_neg e]at q;rw[show(n==m)=Mw by simp[e]];refine UQ ?_;cases i with
     |zero=>exact oneLt_int q|succ i=>exact UR _ _ (lt_int q)
 |[],_,n::_,_,_,h,_,_,_=>by cases h|_::_,_,[],_,_,h,_,_,_=>by cases h|_,[],_,m::_,_,_,h,_,_=>by cases h|_,_::_,_,[],_,_,h,_,_=>by cases h
theorem u0{M:Uh}{h:M7}(n:Int)(t:UJ):Looks M h (UO (.int n t)) (.type "int"):=λA Q E s _ q=>Mx q
end
end SortM
end
section
namespace L2
open PySem PySem.W PyProof.Rows SortM
section
variable{X:Cx}
theorem Inv.newList{a:List (MB×NI)}{b:St}{H:Hp}{s:Mz}{h':M7}{D c:Nat}{ys:List V}{us:List Mt}(I:Inv X a b H s)(g:fb s.heap h')(f:s.heap.objs.size<=D)(r:au ys us)(d:ys.length<=MA)(e:h'.get? D=Mq (P2 "list" us.toArray c)){t:Nat}:Inv X a b (upd H D (.lst ys)) {s with heap:=h',toks:=t}:=I.laid g f ⟨d,us,c,r,e⟩
end
end L2
end
section
namespace DictIt
open PySem PySem.W PyProof.Rows
section
variable{prog:MQ}{w:M6}{A:Nf}{E:Mt->Mz->Prop}{s:Mz}
theorem sZ{d:MB}{o:NI}{e:Array Ql}{f:Nat}{Q:Mt->Mz->Prop}(a:(d==NW)=Mw)(b:s.heap.get? d=Mq o)(g:o.cls=.type "dict")(hd:o.data=.dict e f)(h:Q (.ref s.heap.objs.size) {s with heap:=s.heap.push {cls:=.type "dict_keyiterator",data:=.fields #[.ref d,.int 0 0,.int e.size 0,.int f 0]}}):wpAny (ML prog w) A (Ue (.ref d)) Q E s:=by
 have c:s.TypeIs (.ref d) "dict":=⟨o,b,g⟩;refine wpAny_pyIter_slot c F.slot_dict_iter (Nr F.slot_dict_iter c F.entry_dict_iter ?_ (F.args_dict_iter_1 _));unfold Builtin.«dict.__iter__»;refine Ms ?_;unfold Builtin.Dict.dictSlotNone;refine Ms (SR c ?_);show wpAny _ _ (pure (M8 d)) _ _ s;refine Mx ?_;show wpAny _ _ (SS d>>=_) _ _ s;unfold SS;rw[if_neg (by rw[a];exact Nu)];refine Ms (Mx ?_);refine Ms (RD b hd ?_);refine Ms (SH b hd ?_);refine Ms (Nl (Mx ⟨_,rfl,"dict_keyiterator",_,⟨_,MK _ rfl,rfl⟩,F.slot_dict_keyiterator_next.lookup,?_⟩));simpa[Qo]using h
theorem s_{it d:MB}{i g:Nat}{od:NI}{b:Array Ql}{Q:Option Mt->Mz->Prop}(hit:s.heap.IsKeyIter it d i b.size g)(e:s.heap.get? d=Mq od)(f:od.data=.dict b g)(j:i<b.size)(l:∀h',h'.IsKeyIter it d (i+1) b.size g->N1 it s.heap h'->Q (Mq b[i].key) {s with heap:=h'}):wpAny (ML prog w) A (OS (.ref it)) Q E s:=by
 obtain⟨o,h,k,hd⟩:=id hit;unfold OS;refine Ms (PC (Nm (name:=Mr "__next__") hit.typeIs OH (Nr OH hit.typeIs QY ?_ (QM _))));refine Ms (Mx ?_);refine Ms ?_;refine Ms ?_;first|refine Ms (OC hit.typeIs (Mx ?_))|refine Ms (Pb hit.typeIs (Mx ?_))
 refine Ms (wpAny_fieldsOf h hd ?_);have c:Q_ "dict_keyiterator"=Mw:=by decide
 simp only[c,MV,if_false];show wpAny _ _ (if(M8 d==NV)=Mv then _ else _) _ _ s;rw[if_neg (show¬((M8 d==NV)=Mv)from Nu)];refine Ms (Mx ?_);refine Ms (RD e f ?_);rw[if_neg (by simp)];refine Ms (Mx ?_);refine Ms (SH e f ?_);rw[if_neg (by simp)];refine Mx ?_;simp only[show¬((i:Int)<0)from by omega,if_false,O7,N4 j];refine Ms ?_;first|refine Ms (OC hit.typeIs (Mx ?_))|refine Ms (Pb hit.typeIs (Mx ?_))
 refine Ms (SU hit.typeIs ?_);show wpAny _ _ (setField (.ref it) 1 (Qo ((i:Int)+1))>>=_) _ _ s;refine Ms (Rr h hd (by simp) ?_);have a:(s.heap.update it (Obj.mapFields (·.setIfInBounds 1 (Qo ((i:Int)+1))))).IsKeyIter it d (i+1) b.size g:=⟨_,OV _ h (SV (Qf hd _)),(T8 ..).trans k,by rw[Qf hd];simp[Qo]⟩;refine Ms (Na ?_);refine Ms (SU (s:={s with heap:=s.heap.update it (Obj.mapFields (·.setIfInBounds 1 (Qo ((i:Int)+1))))}) a.typeIs ?_);show wpAny _ _ (pure b[i].key) _ _ _;exact Mx (Mx ⟨_,rfl,Mx (l _ a (OM ..))⟩)
theorem wC{it d:MB}{i k:Nat}{od:NI}{h:Array Ql}{Q:Option Mt->Mz->Prop}(l:A.handled=Mu)(hit:s.heap.IsKeyIter it d i h.size k)(e:s.heap.get? d=Mq od)(f:od.data=.dict h k)(g:h.size<=i)(n:∀h',QZ it s.heap h'->Q Mu {s with heap:=h'}):wpAny (ML prog w) A (OS (.ref it)) Q E s:=by
 obtain⟨o,j,p,hd⟩:=id hit;unfold OS;refine Ms (PC (Nm (name:=Mr "__next__") hit.typeIs OH (Nr OH hit.typeIs QY ?_ (QM _))));refine Ms (Mx ?_);refine Ms ?_;refine Ms ?_;first|refine Ms (OC hit.typeIs (Mx ?_))|refine Ms (Pb hit.typeIs (Mx ?_))
 refine Ms (wpAny_fieldsOf j hd ?_);have c:Q_ "dict_keyiterator"=Mw:=by decide
 simp only[c,MV,if_false];show wpAny _ _ (if(M8 d==NV)=Mv then _ else _) _ _ s;rw[if_neg (show¬((M8 d==NV)=Mv)from Nu)];refine Ms (Mx ?_);refine Ms (RD e f ?_);rw[if_neg (by simp)];refine Ms (Mx ?_);refine Ms (SH e f ?_);rw[if_neg (by simp)];refine Mx ?_;simp only[show¬((i:Int)<0)from by omega,if_false,O7,Pl g];refine Ms ?_;first|refine Ms (OC hit.typeIs (Mx ?_))|refine Ms (Pb hit.typeIs (Mx ?_))
 show wpAny _ _ (setField (.ref it) 0 .none>>=_) _ _ s;refine Ms (Rr j hd (by simp) ?_);show wpAny _ _ (newExc (.type "StopIteration") []>>=_) _ _ _;refine Ms ?_;simp only[newExc,newTuple];refine Ms (Nl ?_ (by size_fits));refine Ms (m:=Rt _ _) (Ul (a:=NV) (by first|rfl|(simp only[Rt];rfl)) ?_);refine Nl ?_ (by size_fits);simp only[raiseNew];refine Ms (wpAny_handled ?_);rw[show A.in1.handled=Mu from l];refine Ms (Mx (wpAny_throw ?_));refine Ms (Pe (T:="StopIteration") (b:=Mv) ⟨_,MK _ rfl,rfl⟩ Tb ?_);exact Mx (n _ (((OM ..).extBut.push _).push _))
theorem wD(q:A.handled=Mu)(I d:MB)(j:d≠I)(o:NI)(g:Array Ql)(p:Nat)(hd:o.data=.dict g p):Walks prog w A I [I,d] [I] g.size (λi v=>∃e,g[i]?=Mq e/\v=e.key) (λi h=>h.IsKeyIter I d i g.size p/\h.get? d=Mq o)where
 sub:=λb hb=>by simp at hb;simp[hb]
 frame:=λ_ _ _ st m=>⟨st.1.at λo e=>m I (by simp) o e,m d (by simp) o st.2⟩;item:=λi s Q E n st f=>s_ st.1 st.2 hd n λl c a=>f _ l s.toks ⟨g[i],by simp[n],rfl⟩ ⟨c,(a.2 d j).trans st.2⟩ λb o hb e=>a.extBut b o (λh=>hb (by simp[h])) e;done:=λs Q E st f=>wC q st.1 st.2 hd (MO _) λl k=>f l s.toks λb o hb e=>k b o (λh=>hb (by simp[h])) e;self:=λ_ _ _ _ st f=>Tc st.1 f
theorem Dr{d:MB}{o:NI}{c:Array Ql}{j:Nat}(b:(d==NW)=Mw)(g:o.cls=.type "dict")(hd:o.data=.dict c j):KdlSrc prog w "dict" d d c.size (λi v=>∃e,c[i]?=Mq e/\v=e.key) (λh=>h.get? d=Mq o)where
 type:=λ_ a=>⟨o,a,g⟩;there:=λ_ a=>⟨MM a,MM a⟩;keep:=λ_ _ a k=>k d (.inl rfl) o a;notList:=by decide
 notTuple:=by decide
 hint:=λ_ _ s _ a f=>kdl_hint_dict ⟨o,a,g⟩ f;iter:=λ_ _ l a=>⟨_,_,(λ_ _ f=>sZ b a g hd f),wD l _ d (M3 (MM a)) o c j hd,⟨⟨_,MK _ rfl,rfl,rfl⟩,My _ a⟩⟩
theorem ra{d:MB}{o:NI}{k:Array Ql}{v:Nat}{R:List Mt->Mz->Prop}(q:A.handled=Mu)(j:(d==NW)=Mw)(n:s.heap.get? d=Mq o)(r:o.cls=.type "dict")(hd:o.data=.dict k v)(p:k.size<=MA)(h:∀(h':M7)(l:Nat),(∀b o,s.heap.get? b=Mq o->h'.get? b=Mq o)->R (k.toList.map (·.key)) {s with heap:=h',toks:=l}):wpAny (ML prog w) A (US (.ref d)) R E s:=by
 refine kdu_collect (Dr (prog:=prog) (w:=w) j r hd) q n p λh' l f g a=>?_;have e:f.toList=k.toList.map (·.key):=by
  apply List.ext_getElem?;intro i;rw[M9];by_cases m:i<k.size
  .have c:i<f.size:=by rw[a.1];exact m
   obtain⟨e,u,t⟩:=a.2 i f[i] (by simp[c]);simp only[N6,u,N4 c,t,N8]
  .have c:f.size<=i:=by rw[a.1];omega
   simp only[N6,Pl c,Pl (Nat.not_lt.mp m),Option.map_none]
 rw[e];exact h h' l g
end
end DictIt
end
section
namespace L2
open PySem PySem.Spec PySem.W PyProof.Rows SortM
section
variable{X:Cx}{pins:List (MB×NI)}{σ:St}{H:Hp}{s:Mz}
theorem kz:∀{a:List (Key×V)}{f:List (Key×Mt)}{g:List Ql}{prog:MQ}{w:M6},KV a f->Pairs (ax prog w) g f->au (a.map λj=>kV j.1) (g.map (·.key))
 |_,_,_,_,_,.nil,.nil=>.nil|_,_,_,_,_,.cons ⟨e,_⟩ t,.cons h _ r=>by
  refine .cons ?_ (kz t r);dsimp only;rw[e];obtain⟨i,b,d,c⟩|⟨x,b,d,c⟩:=aJ h;.rw[d,c];exact⟨b,rfl⟩
  .rw[d,c];exact⟨b,rfl⟩
theorem Inv.freeze{a:MB}{o:NI}{u:HO}(I:Inv X pins σ H s)(hu:H a=Mq u)(l:s.heap.get? a=Mq o)(nt:∀xs,u≠.tup xs)(h:∀b v,u≠.cv b v)(i:∀ps,u≠.vE ps)(g:∀x,u≠.own x):Inv X pins σ (upd H a (.cv o u)) s:=by
 have ne:∀{b:MB},H b=Mu->b≠a:=λ{b}n z=>by rw[z,hu]at n;cases n
 have tp:∀b xs,H b=Mq (.tup xs)->(upd H a (.cv o u)) b=Mq (.tup xs):=λb xs e=>by rw[ah (λz=>by rw[z,hu]at e;cases e;exact nt _ rfl)];exact e
 have f:∀b x,H b=Mq (.own x)->(upd H a (.cv o u)) b=Mq (.own x):=λb x e=>by rw[ah (λz=>by rw[z,hu]at e;cases e;exact g _ rfl)];exact e
 refine⟨I.ok,I.os,I.bare,⟨I.base.keep,I.base.slot,λb ob e n j=>?_,I.base.there,λb xs e=>tp b xs (I.base.jC b xs e),λb ob v e=>?_,λb ps e=>?_⟩,I.loc,I.cell,?_,λx c e=>?_,λp k=>?_,λb v e=>?_,I.len⟩
 .have:=I.base.free b ob e n j;rw[ah (ne this)];exact this
 .have q:=I.base.iR b ob v e;rw[ah (λz=>by rw[z,hu]at q;cases q;exact h _ _ rfl)];exact q
 .obtain⟨d,q⟩:=I.base.jD b ps e;exact⟨d,by rw[ah (λz=>by rw[z,hu]at q;cases q;exact i _ rfl)];exact q⟩
 .rw[ah (ne I.free)];exact I.free
 .rw[ah (ne (I.dh x c e))];exact I.dh x c e
 .obtain⟨e,n,r⟩:=I.pin p k;exact⟨e,by rw[ah (ne n)];exact n,r⟩
 .by_cases hb:b=a
  .subst hb;rw[aj]at e;cases e;exact⟨l,(I.aV b u hu).dg (λ_ _ _ q=>q) (λc q=>f c _ q) tp⟩
  .rw[ah hb]at e;exact(I.aV b v e).dg (λ_ _ _ q=>q) (λc q=>f c _ q) tp
end
section
variable{X:Cx}{F:Fx}{a b c e:MP}{es rest:List MP}{pos:Oc}{ta tb tc:ag->M D}{tas:ag->M (List A)}
theorem rb{t:TE}(h:PE X e t):PE X e (λf H Q=>t f H λv i=>∃a xs,v=.ref a/\i a=Mq (.lst xs)/\∀o,Q v (upd i a (.cv o (.lst xs)))):=by
 intro d s f H Q I q;refine a_ (h d s f H _ I q) λu s1 g=>?_;obtain⟨v,i,j,r,a,xs,e,ha,k⟩:=g;obtain⟨_,l,n,p,m⟩:=j.aV a _ ha;exact⟨v,_,j.freeze ha m (λ_ z=>nomatch z) (λ_ _ z=>nomatch z) (λ_ z=>nomatch z) (λ_ z=>nomatch z),r,k _⟩
theorem dA.cv{f:Mt}{r:List V->Hp->VK->Prop}(h:dA X f r):dA X f (λm H Q=>r m H λv i=>∃a xs,v=.ref a/\i a=Mq (.lst xs)/\∀o,Q v (upd i a (.cv o (.lst xs)))):=by
 intro d s l H xs p Q I j q;refine a_ (h d s l H xs p _ I j q) λu s1 g=>?_;obtain⟨v,i,k,r,a,xs,e,ha,t⟩:=g;obtain⟨_,w,n,j,x⟩:=k.aV a _ ha;exact⟨v,_,k.freeze ha x (λ_ z=>nomatch z) (λ_ _ z=>nomatch z) (λ_ z=>nomatch z) (λ_ z=>nomatch z),r,t _⟩
theorem bE{B:Fb}{H:Hp}{k:Nat}{l:MB}{d:List V}{ds:List D}{o:NI}(lv:H B.p≠Mu)(f:H l=Mu)(i:af B H d ds):Is B (upd H l (.cv o (.lst d))) (.ref l) (.lst ds):=by
 simp only[Is];exact⟨l,d,rfl,⟨gF lv f,⟨o,aj⟩⟩,i.mono (Ext.new (k:=k) f).kp⟩
theorem gG{B:Fb}{H:Hp}{k:Nat}{l:MB}{d:List V}{ds:List D}(lv:H B.p≠Mu)(f:H l=Mu)(i:af B H d ds):Is B (upd H l (.tup d)) (.ref l) (.tup ds):=by
 simp only[Is];exact⟨l,d,rfl,⟨gF lv f,.of aj⟩,i.mono (Ext.new (k:=k) f).kp⟩
theorem Ds(h:DA X F es tas):DE X F (.List es pos) (λρ=>do let ds<-hZ (<-tas ρ);M.need (ds.length<=MA);pure (.lst ds)):=⟨h.hK,(rb (nG h.pa)).imp λq H Q f=>by
  obtain⟨ρ,k,S,h⟩:=f;refine qM.next S h λr l j s n p d m=>?_;obtain⟨ds,rfl,i⟩:=b5 m;have d:=b6 d;refine⟨by rw[d.length];exact i.1,λt g=>⟨t,j,rfl,aj,λo=>?_⟩⟩;rw[bV];exact i.2 _ _ (n.trans (.new g)) (bE (k:=l) p.live g d)⟩
noncomputable def items:D->Option (List D)
 |.tup d=>Mq d|.lst d=>Mq d|_=>Mu
theorem Dt{B:Fb}{H:Hp}{v:V}{d:D}{ds:List D}(h:Is B H v d)(e:items d=Mq ds):∃a f,v=.ref a/\(dI B.K H a f\/iQ B.K H a f)/\af B H f ds:=by
 cases d<;>first|cases e|skip
 .simp only[Is]at h;obtain⟨a,f,j,i,g⟩:=h;exact⟨a,f,j,.inr i.2,g⟩
 .simp only[Is]at h;obtain⟨a,f,j,i,g⟩:=h;exact⟨a,f,j,.inl i.2.sq,g⟩
theorem wF{B:Fb}{H:Hp}{f:List V}{ds:List D}{i:Int}{d:D}(h:af B H f ds)(e:fu ds i=Mq d):∃v,fu f i=Mq v/\Is B H v d:=by
 unfold fu at e⊢;rw[h.length];cases q:By ds.length i with
 |none=>rw[q]at e;cases e|some j=>
  rw[q]at e;exact h.get e
noncomputable def Du(x:MR)(i:Int):Option D:=(fu x.cps.toList i).map λc=>.str ⟨#[c]⟩
noncomputable def Lw:D->D->M D:=λd e=>do
 let i<-e9 e;match d with
 |.tup f=>M.get (fu f i)|.lst f=>M.get (fu f i)|.str x=>do M.need (x.length<=MA);M.get (Du x i)|_=>M.fail
structure Jc(X:Cx)(F:Fx)(m:D->D->M D):Prop where ix:X.K=F.K->v_ X (Gu F m)
theorem zF:Jc X F Lw:=⟨λhK g j n s J H x y v u Q I N L h P=>by
 refine CM g j n s J H x y v u Q I N L ?_ P;obtain⟨k,d,e,l,m,p,q⟩:=h;obtain⟨i,rfl,q⟩:=aN.mp q;simp only[Is]at p;cases d with
 |tup K=>
  obtain⟨z,f,o⟩:=M.run_get.mp q;simp only[Is]at m;obtain⟨a,r,G,E,C⟩:=m;obtain⟨w,B,t⟩:=wF C f;exact .inr (.inl ⟨a,r,i,w,G,p,by rw[hK];exact E.2,B,o w H .refl t⟩)|lst K=>
  obtain⟨z,f,o⟩:=M.run_get.mp q;simp only[Is]at m;obtain⟨a,r,G,E,C⟩:=m;obtain⟨w,B,t⟩:=wF C f;exact .inl ⟨a,r,i,w,G,p,by rw[hK];exact E.2.sq,B,o w H .refl t⟩|str x=>
  obtain⟨O,q⟩:=q;obtain⟨z,f,o⟩:=M.run_get.mp q;simp only[Is]at m;unfold Du at f;cases q:fu x.cps.toList i with
  |none=>rw[q]at f;cases f|some c=>
   rw[q]at f;cases f;exact .inr (.inr ⟨x,i,c,m,p,O,q,o _ H .refl (by simp only[Is])⟩)
 |_=>exact q.elim⟩
theorem GD{m:D->D->M D}(g:Jc X F m)(ha:DE X F a ta)(hb:DE X F b tb)(f:jO b:=by intro _ _;rfl):DE X F (.Subscript a b pos) (λρ=>do let d<-ta ρ;let e<-tb ρ;m d e):=⟨ha.hK,(fv (g.ix ha.hK) ha.pe hb.pe f).imp λi H Q h=>sV h⟩
structure bB(X:Cx)(F:Fx)(f:Mt)(m:List D->M D):Prop where
 call:∀(pins:List (MB×NI))(s:Mz)(σ:St)(H:Hp)(k:Nat)(xs:List V)(us:List Mt)(ds:List D)(Q:VK),Inv X pins σ H s->au xs us->H F.p≠Mu->X.K=F.K->af F.toFb H xs ds->(m ds).run k (qE F.toFb H k Q) F.E->wpAny (ML X.prog X.w) X.A (Sl f us) (EP X pins σ Q) X.xe s
noncomputable def BC(F:Fx)(m:List D->M D):List V->Hp->VK->Prop:=λf H Q=>∃k d,H F.p≠Mu/\af F.toFb H f d/\(m d).run k (qE F.toFb H k Q) F.E
theorem bB.BD{f:Mt}{m:List D->M D}(h:bB X F f m)(hK:X.K=F.K):dA X f (BC F m):=λd s g H j n Q I r⟨k,o,l,i,q⟩=>h.call d s g H k j n o Q I r l hK i q
theorem bB.of{f:Mt}{m:List D->M D}{r:List V->Hp->VK->Prop}(h:dA X f r)(q:X.K=F.K->∀H k xs ds Q,H F.p≠Mu->af F.toFb H xs ds->(m ds).run k (qE F.toFb H k Q) F.E->r xs H Q):bB X F f m:=⟨λd s g H k xs j ds Q I n l hK i z=>h d s g H xs j Q I n (q hK H k xs ds Q l i z)⟩
theorem td{m:List D->M D}{d:St}{H:Hp}{Q:VK}(h:cL F (λρ=>do m (<-hZ (<-tas ρ))) d H Q):JT (BC F m) (qM F tas) d H Q:=by
 obtain⟨ρ,k,S,h⟩:=h;refine qM.next S h λq f p r l o g j=>?_;obtain⟨n,rfl,i⟩:=b5 j;exact⟨f,n,o.live,b6 g,M.wk i λ_ _ z=>z.ext l⟩
theorem wG{id:String}{x:MR}{m:List D->M D}{p:Oc}(n:bB X F (.builtin id) m)(j:X.mg x=Mu)(g:O5 x=Mq (.builtin id))(ha:DA X F (e::es) tas)(k:Gl X x:=by rfl)(i:x≠"__name__":=by decide)(f:(x==("__debug__":MR))=Mw:=by decide)(l:MX (e::es) X.env=(Mw,OB e X.env)::MX es X.env:=by rfl)(d:(PF pos (MX es X.env)).any (·.1)=Mw:=by rfl):DE X F (.Call (.Name x p) (e::es) [] pos) (λρ=>do m (<-hZ (<-tas ρ))):=⟨ha.hK,(hU (n.BD ha.hK) k j g ha.pa i f l d).imp λo H Q h=>td h⟩
theorem u3{T:String}{x:MR}{m:List D->M D}{p:Oc}(n:bB X F (.type T) m)(j:X.mg x=Mu)(g:O5 x=Mq (.type T))(ha:DA X F (e::es) tas)(k:Gl X x:=by rfl)(i:x≠"__name__":=by decide)(f:(x==("__debug__":MR))=Mw:=by decide)(l:MX (e::es) X.env=(Mw,OB e X.env)::MX es X.env:=by rfl)(d:(PF pos (MX es X.env)).any (·.1)=Mw:=by rfl):DE X F (.Call (.Name x p) (e::es) [] pos) (λρ=>do m (<-hZ (<-tas ρ))):=⟨ha.hK,(mq (n.BD ha.hK) k j g ha.pa i f l d).imp λo H Q h=>td h⟩
noncomputable def one(f:D->M D):List D->M D
 |[d]=>f d|_=>M.fail
noncomputable def two(f:D->D->M D):List D->M D
 |[d,e]=>f d e|_=>M.fail
theorem dC{f:D->M D}{ds:List D}{k Q E}(h:(one f ds).run k Q E):∃d,ds=[d]/\(f d).run k Q E:=by match ds,h with|[d],h=>exact⟨d,rfl,h⟩
theorem tf{f:D->D->M D}{ds:List D}{k Q E}(h:(two f ds).run k Q E):∃d e,ds=[d,e]/\(f d e).run k Q E:=by match ds,h with|[d,e],h=>exact⟨d,e,rfl,h⟩
theorem af.one{B:Fb}{H:Hp}{f:List V}{d:D}(h:af B H f [d]):∃v,f=[v]/\Is B H v d:=by
 simp only[af]at h;obtain⟨x,i,rfl,g,rfl⟩:=h;exact⟨x,rfl,g⟩
theorem af.two{B:Fb}{H:Hp}{f:List V}{d e:D}(h:af B H f [d,e]):∃v u,f=[v,u]/\Is B H v d/\Is B H u e:=by
 simp only[af]at h;obtain⟨x,k,rfl,i,y,j,rfl,g,rfl⟩:=h;exact⟨x,y,rfl,i,g⟩
noncomputable def J9(d:D):M D:=match d with
 |.tup f=>pure (.int f.length)|.lst f=>pure (.int f.length)|.str x=>do M.need (x.length<=MA);pure (.int x.length)|_=>M.fail
theorem rf:bB X F (.builtin "len") (one J9):=.of vZ λhK H k j o Q l n m=>by
 obtain⟨d,rfl,q⟩:=dC m;obtain⟨v,rfl,i⟩:=n.one;cases d with
 |tup j=>
  simp only[Is]at i;obtain⟨a,f,rfl,h,g⟩:=i;exact⟨_,f.length,rfl,.inr ⟨f,by rw[hK];exact h.2,rfl⟩,q _ H .refl (by simp only[Is];rw[g.length])⟩|lst j=>
  simp only[Is]at i;obtain⟨a,f,rfl,h,g⟩:=i;exact⟨_,f.length,rfl,.inl ⟨f,by rw[hK];exact h.2.sq,rfl⟩,q _ H .refl (by simp only[Is];rw[g.length])⟩|str x=>
  simp only[Is]at i;subst i;exact⟨_,x.length,rfl,⟨q.1,rfl⟩,q.2 _ H .refl (by simp only[Is])⟩|_=>exact q.elim
theorem zG(n:X.calm=Mv):bB X F (.builtin "max") (two (C9 λi j=>.int (if j>i then j else i))):=.of (uP n) λhK H k o p Q l m h=>by
 obtain⟨d,e,rfl,q⟩:=tf h;obtain⟨v,u,rfl,g,f⟩:=m.two;obtain⟨i,rfl,q⟩:=aN.mp q;obtain⟨j,rfl,q⟩:=aN.mp q;simp only[Is]at g f;subst g f;exact⟨i,j,rfl,q _ H .refl (by simp only[Is])⟩
theorem zH(n:X.calm=Mv):bB X F (.builtin "min") (two (C9 λi j=>.int (if j<i then j else i))):=.of (uQ n) λhK H k o p Q l m h=>by
 obtain⟨d,e,rfl,q⟩:=tf h;obtain⟨v,u,rfl,g,f⟩:=m.two;obtain⟨i,rfl,q⟩:=aN.mp q;obtain⟨j,rfl,q⟩:=aN.mp q;simp only[Is]at g f;subst g f;exact⟨i,j,rfl,q _ H .refl (by simp only[Is])⟩
theorem wH:bB X F (.type "tuple") (one λd=>do pure (.tup (<-M.get (items d)))):=.of lZ λhK H k p o Q l n m=>by
 obtain⟨d,rfl,q⟩:=dC m;obtain⟨v,rfl,i⟩:=n.one;obtain⟨o,e,q⟩:=M.run_get.mp q;cases d<;>first|cases e|skip
 .simp only[Is]at i;obtain⟨a,f,rfl,g,h⟩:=i;exact⟨a,f,rfl,.inr ⟨by rw[hK];exact g.2,q _ H .refl (by simp only[Is];exact⟨a,f,rfl,g,h⟩)⟩⟩
 .simp only[Is]at i;obtain⟨a,f,rfl,g,h⟩:=i;exact⟨a,f,rfl,.inl ⟨by rw[hK];exact g.2.sq,λt j=>q _ _ (.new j) (gG (k:=k) l j h)⟩⟩
theorem zI:bB X F (.type "list") (one λd=>do pure (.lst (<-M.get (items d)))):=.of hW.cv λhK H k r p Q l j h=>by
 obtain⟨d,rfl,q⟩:=dC h;obtain⟨v,rfl,i⟩:=j.one;obtain⟨p,e,q⟩:=M.run_get.mp q;obtain⟨a,f,rfl,n,m⟩:=Dt i e;refine⟨a,f,rfl,by rw[hK];exact n,λt g=>⟨t,f,rfl,aj,λo=>?_⟩⟩;rw[bV];exact q _ _ (.new g) (bE (k:=k) l g m)
theorem kA:∀{bs:List Bool}{us:List Mt},au (bs.map V.bl) us->LSm.BoolsAre us bs
 |[],_,.nil=>.nil|b::bs,_,.cons r t=>by
  cases r;exact .cons _ (kA t)
theorem wI(t:X.calm=Mv):dA X (.builtin "all") (λxs H Q=>∃(a:MB)(bs:List Bool),xs=[.ref a]/\dI X.K H a (bs.map V.bl)/\Q (.bl (bs.all id)) H):=by
 intro j s w H xs x Q I r h;obtain⟨a,bs,rfl,n,q⟩:=h;obtain⟨u,rfl,l⟩:=vals1 r;cases l;obtain⟨d,m,pl,B⟩:=I.list n;have hb:=kA m;have g:=pl.isList;have f:a<s.heap.objs.size:=by obtain⟨_,e,_⟩:=g;exact MM e
 have p:=I.ok.hd t;refine call_all_walk (PK g ?_);refine⟨s.heap.objs.size,[s.heap.objs.size,a],[s.heap.objs.size],d.toArray.size,_,_,λi=>(bs[i]?).getD Mv,rfl,Walks.list (A:=X.A.in1) p _ a (M3 f) d.toArray,⟨⟨_,MK _ rfl,rfl,rfl⟩,g.push _⟩,λi v z E G hP k=>?_,λC y o=>?_⟩
 .obtain⟨b,e,rfl⟩:=hb.get i v (by simpa using hP);simp only[e,R1]at k;exact NH k
 .have e:((N_ d.toArray.size).all λi=>(bs[i]?).getD Mv)=bs.all id:=by rw[MJ,hb.length];exact LSm.range_all bs
  rw[e];exact⟨.bl _,H,I.kept (LSm.kept_iter o),rfl,q⟩
noncomputable def bools:List D->Option (List Bool)
 |[]=>Mq []|.bl b::r=>(bools r).map (b::·)|_=>Mu
theorem ph{B:Fb}{H:Hp}:∀{ds:List D}{f:List V}{bs:List Bool},af B H f ds->bools ds=Mq bs->f=bs.map V.bl
 |[],_,bs,h,e=>by simp only[af]at h;cases e;exact h|d::ds,f,bs,h,e=>by
  simp only[af]at h;obtain⟨x,k,rfl,g,i⟩:=h;cases d with
  |bl b=>
   simp only[bools,Pm]at e;obtain⟨cs,j,rfl⟩:=e;simp only[Is]at g;rw[g,ph i j];rfl|_=>cases e
noncomputable def J_(d:D):M D:=match d with
 |.lst f=>do let bs<-M.get (bools f);pure (.bl (bs.all id))|_=>M.fail
theorem Dv(m:X.calm=Mv):bB X F (.builtin "all") (one J_):=.of (wI m) λhK H k f r Q l h g=>by
 obtain⟨d,rfl,q⟩:=dC g;obtain⟨v,rfl,i⟩:=h.one;cases d with
 |lst f=>
  obtain⟨bs,e,q⟩:=M.run_get.mp q;simp only[Is]at i;obtain⟨a,p,rfl,o,n⟩:=i;have j:=ph n e;subst j;exact⟨a,bs,rfl,by rw[hK];exact o.2.sq,q _ H .refl (by simp only[Is])⟩|_=>exact q.elim
end
noncomputable def eO(N:List MR)(as:List A):ag:=as.map (λa=>Mq a.w)++NY (N.length-as.length) Mu
inductive Rs where|d(x:D)|own(x:D)
noncomputable def Ka:Rs->M D
 |.d x=>pure x|.own _=>M.fail
noncomputable def L3:Rs->M D
 |.d _=>M.fail|.own x=>pure x
noncomputable def GF(Q:Rs->Nat->Prop)(a:Fl)(k:Nat):Prop:=match a with
 |.rt d=>Q (.d d) k|.ro d=>Q (.own d) k|.nx _=>Q (.d .bH) k|_=>False
noncomputable def Jd{a:Type}(m:M a):M a:=⟨λk Q _=>m.run k Q (λ_ _=>False),λh q _=>m.mono h q λ_ _ z=>z⟩
noncomputable def era(H:Hp)(a:MB):Hp:=λb=>if b=a then Mu else H b
theorem fy{H:Hp}{a b:MB}(h:b≠a):era H a b=H b:=if_neg h
theorem kB{H:Hp}{a:MB}:era H a a=Mu:=if_pos rfl
noncomputable def qR(F:Fb)(H:Hp)(k:Nat)(Q:V->Hp->Prop)(r:Rs)(c:Nat):Prop:=match r with
 |.d d=>∀v b,Ext F H k b c->Is F b v d->Q v b|.own d=>∀a b,Ext F H k b c->H a=Mu->a≠F.p->gx F b a d->Q (.ref a) b
noncomputable def fA(F:Fb)(H H0:Hp):List V->List A->Prop:=λb c=>(b=[]/\c=[]/\H0=H)\/∃a d,b=[.ref a]/\c=[.own d]/\H0=era H a/\a≠F.p/\gx F H a d
noncomputable def Lx(P:MQ)(w:M6)(K:MF)(n:Nat)(m:List A->M Rs):Sp:=λb H Q _=>∃p k a H0 c bs,b=b.take a.length++c/\H0 p≠Mu/\wu ⟨K,p,P,w⟩ H0 k (b.take a.length) a/\fA ⟨K,p,P,w⟩ H H0 c bs/\(a++bs).length=n/\(m (a++bs)).run k (qR ⟨K,p,P,w⟩ H0 k Q) (λ_ _=>False)
noncomputable def Def(P:MQ)(w:M6)(K:MF)(mg:MR->Option Mt)(base:M7)(x:MR)(ps:List MR)(k:Nat)(sp:Sp):Prop:=∃f fd,dZ P w K mg base qL k f fd ps sp/\mg x=Mq (.ref f)/\PM K (.ref f)=Mv/\Binds K fd ps []
theorem rh{X:Cx}{x:MR}{ps:List MR}{k:Nat}{sp:Sp}{p pos:Oc}{e:MP}{a:List MP}{t:TA}(D:Def X.prog X.w X.K X.mg X.base x ps k sp)(d:cX k X.A)(i:Gl X x)(ha:PA X (e::a) t)(c:(x==("__debug__":MR))=Mw:=by decide)(j:MX (e::a) X.env=(Mw,OB e X.env)::MX a X.env:=by rfl)(b:(PF pos (MX a X.env)).any (·.1)=Mw:=by rfl):PE X (.Call (.Name x p) (e::a) [] pos) (Bw sp [] E0 t):=by
 obtain⟨f,fd,F,g,h,hb⟩:=D;exact sH F d i g h hb .nil Bz ha c j b
noncomputable def nL(P:MQ)(w:M6)(K:MF)(mg:MR->Option Mt)(base:M7)(x:MR)(n:Nat)(k:Nat)(m:List A->M Rs):Prop:=∃ps:List MR,ps.length=n/\Def P w K mg base x ps k (Lx P w K n m)
theorem nL.mono{P:MQ}{w:M6}{K:MF}{mg:MR->Option Mt}{base:M7}{x:MR}{n j k:Nat}{m:List A->M Rs}(h:nL P w K mg base x n j m)(b:j<=k):nL P w K mg base x n k m:=by
 obtain⟨ps,a,f,fd,F,r⟩:=h;exact⟨ps,a,f,fd,F.mono b,r⟩
section
variable{X:Cx}{F:Fx}{e:MP}{es:List MP}{pos:Oc}{tas:ag->M (List A)}
theorem Dw{x:MR}{n k:Nat}{m:List A->M Rs}{p:Oc}(Df:nL X.prog X.w X.K X.mg X.base x n k m)(o:cX k X.A)(ha:DA X F (e::es) tas)(s:Gl X x:=by rfl)(hP:X.prog=F.P:=by rfl)(hw:X.w=F.w:=by rfl)(c:(x==("__debug__":MR))=Mw:=by decide)(t:MX (e::es) X.env=(Mw,OB e X.env)::MX es X.env:=by rfl)(b:(PF pos (MX es X.env)).any (·.1)=Mw:=by rfl):DE X F (.Call (.Name x p) (e::es) [] pos) (λρ=>do let as<-tas ρ;M.need (as.length=n);let r<-Jd (m as);Ka r):=by
 obtain⟨ps,C,Df⟩:=Df;refine⟨ha.hK,(rh Df o s ha.pa c t b).imp λz H Q⟨ρ,k,S,h⟩=>?_⟩;refine qM.next S h λas l B y u v f g=>?_;have i:(⟨X.K,F.p,X.prog,X.w⟩:Fb)=F.toFb:=by
  have:F.toFb=⟨F.K,F.p,F.P,F.w⟩:=rfl;rw[this,ha.hK,hP,hw]
 have a:=Paired.length f;refine⟨F.p,l,as,y,[],[],?_,v.live,?_,.inl ⟨rfl,rfl,rfl⟩,?_,?_⟩;.rw[M1,M1,NL (PX a)]
 .rw[M1,NL (PX a),i];exact f
 .rw[M1];exact g.1
 .rw[M1];refine M.wk g.2 λr j q=>?_;cases r with
  |own d=>exact q.elim|d d=>
   have q:qE F.toFb H k Q d j:=q;rw[i];exact q.ext u
end
section
variable{P:MQ}{w:M6}{K:MF}{mg:MR->Option Mt}{base:M7}
theorem Paired.Dx{b a:Type}{R:b->a->Prop}:∀{l:List b}{r:List a},Paired R l r->∀{i:Nat}{y:a},r[i]?=Mq y->∃x,l[i]?=Mq x/\R x y
 |_,_,.nil,i,y,e=>by simp at e|_,_,.cons h t,0,y,e=>by simp at e;subst e;exact⟨_,rfl,h⟩|_,_,.cons h t,i+1,y,e=>by simpa using Paired.Dx t (i:=i) (by simpa using e)
theorem Ext.Kb{B:Fb}{H:Hp}{k:Nat}{a:MB}(h:H a=Mu){H':Hp}{c:Nat}(e:Ext B H k H' c)(d:a≠B.p):Ext B H k (era H' a) c where
 keep:=λb o hb q=>by
  have:b≠a:=λz=>by rw[z,h]at q;cases q
  rw[fy this];exact e.keep b o hb q
 live:=λl=>by rw[fy (Nj d)];exact e.live l
 le:=e.le;bS:=λq f=>by
  have m:q≠a:=λz=>by
   obtain⟨_,_,_,g,_⟩:=f;obtain⟨o,j⟩:=g.cs;rw[z,h]at j;cases j
  obtain⟨ns,i,r,⟨y,⟨o,x⟩,v,u,t,s⟩,n⟩:=e.bS q f;exact⟨ns,i,r,⟨by rw[fy (Nj d)];exact y,⟨o,by rw[fy m];exact x⟩,v,u,t,s⟩,n⟩
theorem Ext.back{B:Fb}{H:Hp}{k:Nat}{a:MB}(d:a≠B.p):Ext B (era H a) k H k where
 keep:=λb o hb q=>by
  have:b≠a:=λz=>by rw[z,kB]at q;cases q
  rw[fy this]at q;exact q
 live:=λl=>by rw[fy (Nj d)]at l;exact l
 le:=MO _;bS:=λq f=>by
  obtain⟨ns,i,r,⟨e,⟨o,c⟩,s,n,m,j⟩,h⟩:=f;have g:q≠a:=λz=>by rw[z,kB]at c;cases c
  exact⟨ns,i,r,⟨by rw[fy (Nj d)]at e;exact e,⟨o,by rw[fy g]at c;exact c⟩,s,n,m,j⟩,h⟩
theorem fA.ext{B:Fb}{H H0:Hp}{us:List V}{bs:List A}{k:Nat}(h:fA B H H0 us bs):Ext B H0 k H k:=by
 rcases h with⟨_,_,rfl⟩|⟨a,d,_,_,rfl,b,_⟩;.exact .refl
 .exact .back b
theorem fA.len{B:Fb}{H H0:Hp}{us:List V}{bs:List A}(h:fA B H H0 us bs):us.length=bs.length:=by rcases h with⟨rfl,rfl,_⟩|⟨a,d,rfl,rfl,_⟩<;>rfl
theorem fA.at_{B:Fb}{H H0:Hp}{us:List V}{bs:List A}(h:fA B H H0 us bs){j:Nat}{a:A}(e:bs[j]?=Mq a):j=0/\∃b d,a=.own d/\us[0]?=Mq (.ref b)/\b≠B.p/\H0 b=Mu/\gx B H b d:=by
 rcases h with⟨rfl,rfl,_⟩|⟨b,d,rfl,rfl,rfl,f,c⟩;.simp at e
 .cases j with
  |zero=>cases e;exact⟨rfl,b,d,rfl,rfl,f,kB,c⟩|succ j=>simp at e
theorem u4{B:Fb}{H H0:Hp}{k:Nat}{E:Xc->Nat->Prop}{N:List MR}{m us:List V}{as bs:List A}(lv:H0 B.p≠Mu)(i:wu B H0 k m as)(q:fA B H H0 us bs):b9 ⟨B,H0,k,E,H0,k⟩ (eO N (as++bs)) k (start N (m++us)) H:=by
 have x:=Paired.length i;have s:=q.len;have ex:Ext B H0 k H k:=q.ext;have g:∀(j:Nat)(w:W),(eO N (as++bs))[j]?=Mq (Mq w)->∃a,(as++bs)[j]?=Mq a/\w=a.w:=λj w e=>by
  unfold eO at e;by_cases l:j<(as++bs).length
  .rw[Ny (by simpa using l),M9]at e;cases f:(as++bs)[j]? with
   |none=>rw[f]at e;cases e|some a=>rw[f]at e;cases e;exact⟨a,rfl,rfl⟩
  .rw[Nk (by simpa using l),Pd]at e;split at e<;>cases e
 have val:∀(j:Nat)(v:V),(m++us)[j]?=Mq v->(start N (m++us))[j]?=Mq (Mq v):=λj v e=>by
  unfold start;rw[Ny (by have:=(List.getElem?_eq_some_iff.mp e).1;simpa using this),M9,e];rfl
 have c:∀(j:Nat)(w:W),(eO N (as++bs))[j]?=Mq (Mq w)->w.fw=Mv->j=as.length/\∃d,w=.own d:=λj w e o=>by
  obtain⟨a,f,rfl⟩:=g j w e;by_cases l:j<as.length
  .rw[Ny l]at f;obtain⟨v,_,h⟩:=Paired.Dx i f;cases a with
   |own d=>exact h.elim|_=>cases o
  .rw[Nk (by omega)]at f;obtain⟨D,b,d,rfl,_⟩:=q.at_ f;exact⟨by omega,d,rfl⟩
 refine⟨by simp[eO,start,x,s],λj w e=>?_,λi j d e v r n h u t=>?_,λi j ks J w G I o=>?_,ex.live lv,ex,ex.kp⟩
 .obtain⟨a,f,rfl⟩:=g j w e;by_cases l:j<as.length
  .rw[Ny l]at f;obtain⟨v,n,h⟩:=Paired.Dx i f;exact⟨v,val j v (by rw[Ny (by omega)];exact n),(FG.w (F:=⟨B,H0,k,E,H0,k⟩) h).mono ex⟩
  .rw[Nk (by omega)]at f;obtain⟨D,b,d,rfl,n,h,C,y⟩:=q.at_ f;exact⟨.ref b,val j _ (by rw[Nk (by omega),show j-m.length=0 by omega];exact n),b,rfl,h,C,y⟩
 .exact absurd ((c i d n u).1.trans (c j e h t).1.symm) r
 .obtain⟨_,d,z⟩:=c i _ G rfl;cases z
theorem wg.GG{x b:MR}{st:Ou}{f:MB}{fd:NX}{N ps:List MR}{n k:Nat}{m:List A->M Rs}(L:wg K x b st f fd)(S:cw N ps (ar st))(T:ps.length=n)(g:∀(c:Mt)(o:Nf)(outer:List SD)(s:Mz)(H H0:Hp)(p:MB)(k0:Nat),cX k (o.deeper (Si b (ar st) s.heap.objs.size f c))->∃t,vG (lW qL P w K mg base N b (ar st) f c o outer s H E0).FA ⟨⟨K,p,P,w⟩,H0,k0,λ_ _=>False,H0,k0⟩ (bY st) t/\∀(as:List A)(Q:Rs->Nat->Prop),as.length=n->(m as).run k0 Q (λ_ _=>False)->(t (eO N as)).run k0 (GF Q) (λ_ _=>False)):dZ P w K mg base qL (k+1) f fd ps (Lx P w K n m):=by
 refine L.ok S (λC H Q E h=>?_) λc o outer s H C Q E G h=>?_
 .obtain⟨p,j,as,H0,D,bs,ev,_,i,r,y,_⟩:=h;have:=Paired.length i;have:=r.len;rw[ev,Nh];rw[Nh]at y;omega
 .obtain⟨p,j,as,H0,D,bs,ev,lv,i,r,y,q⟩:=h;obtain⟨t,F,I⟩:=g c o outer s H H0 p j G;rw[ev];refine⟨_,F.ps,eO N (as++bs),j,u4 lv i r,M.wk (I _ _ y q) λJ R z=>?_⟩;cases J with
  |nx B=>exactλO l kp S=>z .bH l S.ext (by simp only[Is])|rt d=>exactλv l e i=>z v l e i|ro d=>exactλa l e u=>z a l e u.2.1 u.1 u.2.2|bk B=>exact z.elim|ct B=>exact z.elim
end
section
variable{F:Fx}{ρ:ag}{σ:St}{H H':Hp}{k k':Nat}
theorem b9.set{v:V}{d:D}(S:b9 F ρ k σ H)(i:Nat)(h:Is F.toFb H v d):b9 F (ρ.set i (Mq (.d d))) k (σ.set i (Mq v)) H where
 len:=by simp[S.len]
 at_:=λj x e=>by
  rw[NU]at e⊢;by_cases n:i=j
  .subst n;rw[if_pos rfl]at e⊢;split at e
   .rename_i p;cases e;rw[if_pos (by rw[<-S.len];exact p)];exact⟨v,rfl,h⟩
   .cases e
  .rw[if_neg n]at e⊢;exact S.at_ j x e
 apart:=λf c x y u g b a m l s1=>by
  rw[NU]at b a s1⊢;have n1:i≠f:=by
   rintro rfl;rw[if_pos rfl]at b;split at b;.cases b;cases m
   .cases b
  have n2:i≠c:=by
   rintro rfl;rw[if_pos rfl]at a;split at a;.cases a;cases l
   .cases a
  rw[if_neg n1]at b s1;rw[if_neg n2]at a⊢;exact S.apart f c x y u g b a m l s1
 alone:=λf c ks q w b a o=>by
  rw[NU]at b a;have n1:i≠f:=by
   rintro rfl;rw[if_pos rfl]at b;split at b;.cases b
   .cases b
  have n2:i≠c:=by
   rintro rfl;rw[if_pos rfl]at a;split at a;.cases a;cases o
   .cases a
  rw[if_neg n1]at b;rw[if_neg n2]at a;exact S.alone f c ks q w b a o
 live:=S.live;ext:=S.ext;zy:=S.zy
end
noncomputable def GH(F:Fx)(t:D->ag->M ag):TG:=λv g H Q=>∃e k d,b9 F e k g H/\Is F.toFb H v d/\(t d e).run k (λb f=>∀a c,Ext F.toFb H k c f->b9 F b f a c->Q a c) F.E
noncomputable def Kc(F:Fx)(t:List D->ag->M ag):zf:=λh g H Q=>∃d k f,b9 F d k g H/\af F.toFb H h f/\(t f d).run k (λb e=>∀a c,Ext F.toFb H k c e->b9 F b e a c->Q a c) F.E
structure DG(X:Cx)(F:Fx)(tg:MP)(t:D->ag->M ag):Prop where
 hK:X.K=F.K
 pg:PG X tg (GH F t)
structure zJ(X:Cx)(F:Fx)(tgs:List MP)(t:List D->ag->M ag):Prop where
 hK:X.K=F.K
 pg:Br X tgs (Kc F t)
section
variable{X:Cx}{F:Fx}{a b c e tg:MP}{es tgs:List MP}{pos:Oc}{ta tb tc:ag->M D}{tas:ag->M (List A)}{g:D->ag->M ag}{gs:List D->ag->M ag}
theorem PG.imp{t t':TG}(h:PG X tg t)(q:∀v d H Q,t' v d H Q->t v d H Q):PG X tg t':=λf s d H v u Q I r z=>h f s d H v u Q I r (q v d H Q z)
theorem Br.imp{t t':zf}(h:Br X tgs t)(q:∀v d H Q,t' v d H Q->t v d H Q):Br X tgs t':=λf s d H v u Q I r z=>h f s d H v u Q I r (q v d H Q z)
noncomputable def gN(i:Nat)(d:D)(ρ:ag):M ag:=pure (ρ.set i (Mq (.d d)))
theorem zK(i:Nat){x:MR}{pos:Oc}(hN:X.N.Nodup)(l:X.N[i]?=Mq x:=by rfl)(j:Loc X.env.scope x:=by first|exact Qt rfl|exact Rp rfl)(m:X.fn x=Mv\/X.env.scope.names.lookup x=Mq .local:=by first|exact Qt rfl|exact Rp rfl)(hK:X.K=F.K:=by rfl):DG X F (.Name x pos) (gN i):=⟨hK,(nE (i:=i) hN l j m).imp λv n H Q⟨o,k,d,S,f,h⟩=>h _ H .refl (S.set i f)⟩
noncomputable def GI:List D->ag->M ag
 |[],d=>pure d|_::_,_=>M.fail
noncomputable def Dy(g:D->ag->M ag)(gs:List D->ag->M ag):List D->ag->M ag
 |[],_=>M.fail|d::h,f=>do gs h (<-g d f)
theorem zL(hK:X.K=F.K:=by rfl):zJ X F [] GI:=⟨hK,zg.imp λv l H Q f=>by
 obtain⟨m,k,j,S,i,h⟩:=f;cases j with
 |nil=>simp only[af]at i;exact⟨i,h l H .refl S⟩|cons d j=>exact h.elim⟩
theorem wJ(m:DG X F e g)(B:zJ X F es gs)(y:(NJ (e::es) X.env).map (·.2)=Rl e X.env::(NJ es X.env).map (·.2):=by rfl):zJ X F (e::es) (Dy g gs):=by
 refine⟨m.hK,(vQ m.pg B.pg y).imp λv J H Q⟨r,k,l,S,i,h⟩=>?_⟩;cases l with
 |nil=>exact h.elim|cons d l=>
  simp only[af]at i;obtain⟨x,s,rfl,w,u⟩:=i;refine⟨x,s,rfl,r,k,d,S,w,M.wk h λj t q o L n G=>?_⟩;exact⟨j,t,l,G,u.mono n.kp,M.wk q λp K z f I C E=>z f I (n.trans C) E⟩
noncomputable def gT(n:Nat)(gs:List D->ag->M ag):D->ag->M ag
 |.tup d,f=>do M.need (d.length=n);gs d f|_,_=>M.fail
theorem Dz{n:Nat}{j:Nat}(s:X.calm=Mv)(h:zJ X F es gs)(r:(NJ es X.env).length=n:=by rfl)(l:(NJ es X.env).findIdx? (·.1)=Mu:=by rfl):DG X F (.Tuple es j pos) (gT n gs):=⟨h.hK,(Cs s h.pg r l).imp λv w H Q f=>by
  obtain⟨p,k,d,S,i,m⟩:=f;cases d with
  |tup u=>
   simp only[Is]at i;obtain⟨a,q,rfl,t,o⟩:=i;exact⟨a,q,rfl,by rw[h.hK];exact t.2,by rw[o.length];exact m.1,p,k,u,S,o,m.2⟩|_=>exact m.elim⟩
theorem DB(l:DE X F e ta)(r:DG X F tg g)(p:RJ [tg] e pos.line X.env=pure Mw:=by rfl)(hw:Ox [tg] e X.env=pure Mu:=by rfl)(j:(NJ [tg] X.env).map (·.2)=[Rl tg X.env]:=by rfl):DS X F (.Assign [tg] e pos) (λρ=>do let d<-ta ρ;let ρ'<-g d ρ;pure (.nx ρ')):=⟨l.hK,(nF l.pe r.pg p hw j).imp λZ y H i=>by
  obtain⟨ρ,k,S,h⟩:=i;refine cL.next S h λd n v B t w o j=>?_;exact⟨ρ,n,d,w,o,M.wk j λm z q f x s u=>q f x (t.trans s).kp u⟩⟩
theorem DC(i:Nat){x:MR}{f:Oc}(hN:X.N.Nodup)(l:DE X F e ta)(p:X.N[i]?=Mq x:=by rfl)(n:Loc X.env.scope x:=by first|exact Qt rfl|exact Rp rfl)(o:Py e (Mq (.Name x f)) pos.line X.env=pure Mw:=by rfl)(q:X.fn x=Mv\/X.env.scope.names.lookup x=Mq .local:=by first|exact .inl rfl|exact .inr rfl):DS X F (.Assign [.Name x f] e pos) (λρ=>do let d<-ta ρ;pure (.nx (ρ.set i (Mq (.d d))))):=⟨l.hK,(cM (i:=i) hN p n l.pe o q).imp λZ w H j=>by
  obtain⟨ρ,k,S,h⟩:=j;refine cL.next S h λd y v u s t m r=>?_;exact r _ u s.kp (t.set i m)⟩
theorem DD(i j:Nat){x y:MR}{p o pt:Oc}{kt k2 pt2}(J:X.calm=Mv)(hN:X.N.Nodup)(ha:DA X F [a,b] tas)(s:i≠j)(n:∀{ta:TA},PA X [a,b] ta->PS X (.Assign [.Tuple [.Name x p,.Name y o] kt pt] (.Tuple [a,b] k2 pt2) pos) (F8 i j ta)):DS X F (.Assign [.Tuple [.Name x p,.Name y o] kt pt] (.Tuple [a,b] k2 pt2) pos) (λρ=>do match<-hZ (<-tas ρ)with
   |[d,e]=>pure (.nx ((ρ.set i (Mq (.d d))).set j (Mq (.d e))))|_=>M.fail):=⟨ha.hK,(n ha.pa).imp λZ E H l=>by
  obtain⟨ρ,k,S,h⟩:=l;refine qM.next S h λK I G C w B m t=>?_;obtain⟨z,rfl,f⟩:=b5 t;match z,f,m with
  |[d,e],f,m=>
   obtain⟨v,u,rfl,r,q⟩:=(b6 m).two;exact⟨v,u,rfl,f _ C w.kp ((B.set i r).set j q)⟩|[],f,_=>exact f.elim|[_],f,_=>exact f.elim|_::_::_::_,f,_=>exact f.elim⟩
theorem DF(i:DE X F e ta):DS X F (.Return (Mq e) pos) (λρ=>do let d<-ta ρ;pure (.rt d)):=⟨i.hK,(gC i.pe).imp λZ o H f=>by
  obtain⟨ρ,k,S,h⟩:=f;refine cL.next S h λd p v n q m j l=>?_;exact l v n m.ext j⟩
variable{st:Ou}{sts sts':List Ou}{t u:ag->M Fl}{tA:ag->M Bool}
noncomputable def Kd(t u:ag->M Fl)(ρ:ag):M Fl:=do match<-t ρ with
 |.nx d=>u d|f=>pure f
theorem zM(hK:X.K=F.K:=by rfl):vG X F [] (λρ=>pure (.nx ρ)):=⟨hK,jM.imp λZ d H⟨ρ,k,S,h⟩=>h d H .refl S⟩
theorem wK(j:DS X F st t)(o:vG X F sts u):vG X F (st::sts) (Kd t u):=⟨j.hK,(bh j.ps o.ps).imp λZ w H i=>by
  obtain⟨m,k,S,h⟩:=i;refine⟨m,k,S,M.wk h λr n q=>?_⟩;cases r with
  |nx f=>exactλl y s v=>⟨f,n,v,M.wk q λp x z=>z.mono s⟩|rt d=>exact q|ro d=>exact q|bk f=>exact q|ct f=>exact q⟩
theorem GJ{m:MP}(i:DT X F m tA)(ha:vG X F sts t)(hb:vG X F sts' u):DS X F (.If m sts sts' pos) (λρ=>do let b<-tA ρ;if b then t ρ else u ρ):=⟨i.hK,(sG i.pt ha.ps hb.ps).imp λZ q H d=>by
  obtain⟨ρ,k,S,h⟩:=d;refine oK.next S h λb f r l n j=>?_;cases b with
  |true=>exact⟨ρ,f,n,M.wk j λp o z=>z.mono l.kp⟩|false=>exact⟨ρ,f,n,M.wk j λp o z=>z.mono l.kp⟩⟩
structure rj(F:Fb)(J:It)(ds:List D)(H0:Hp)(k0:Nat):Prop where
 step:∀(i:Nat)(d:D)(H:Hp)(k:Nat),ds[i]?=Mq d->Kp F H0 k0 H k->H F.p≠Mu->J.go i H/\∀x H',J.IY i H x H'->Ext F H k H' k/\Is F H' x d
 stop:∀(H:Hp)(k:Nat),Kp F H0 k0 H k->H F.p≠Mu->J.stop ds.length H
 len:ds.length<=MA
noncomputable def Je(F:Fx)(t:ag->M (List D)):TI:=λi H R=>∃f k,b9 F f k i H/\(t f).run k (λj h=>∀J d,Ext F.toFb H k d h->rj F.toFb J j d h->R J d) F.E
structure DI(X:Cx)(F:Fx)(tg iter:MP)(t:ag->M (List D)):Prop where
 hK:X.K=F.K
 pi:PI X tg iter (Je F t)
noncomputable def u5(g:D->ag->M ag)(body:ag->M Fl):List D->ag->M Fl
 |[],i=>pure (.nx i)|d::j,i=>do
  let h<-g d i;match<-body h with
  |.nx f=>u5 g body j f|.ct f=>u5 g body j f|.bk f=>pure (.nx f)|.rt r=>pure (.rt r)|.ro _=>M.fail
theorem jQ{d:Type}{l:List d}{i:Nat}(h:i<l.length):∃x,l[i]?=Mq x/\l.drop i=x::l.drop (i+1):=⟨l[i],MY h,OZ h⟩
theorem DH{iter:MP}{tI:ag->M (List D)}(hp:RT (ML X.prog X.w) X.A X.env X.xe)(hc:X.calm=Mv)(hi:DI X F tg iter tI)(hg:DG X F tg g)(hb:vG X F sts t)(hs:∀x,OE iter X.env x=pure x:=by intro _;rfl):DS X F (.For tg iter sts [] pos) (λρ=>do u5 g t (<-tI ρ) ρ):=⟨hi.hK,(Cy hp hc hi.pi hg.pg hb.ps hs).imp λZ σ H R=>by
  obtain⟨ρ,k,S,h⟩:=R;refine⟨ρ,k,S,M.wk h λl N q J H1 V it=>?_⟩;refine⟨λi m o v=>m=l.length-i/\i<=l.length/\∃j p,b9 F j p o v/\Kp F.toFb H1 N v p/\(u5 g t (l.drop i) j).run p (sU F Z H k) F.E,⟨l.length,rfl,ND _,ρ,N,S.mono V,.refl,q⟩,?_⟩;rintro i m o v⟨rfl,a2,j,p,P,O,L⟩;by_cases G:i<l.length
  .obtain⟨d,hd,U⟩:=jQ G;rw[U]at L;obtain⟨go,yl⟩:=it.step i d v p hd O P.live;refine .inr ⟨go,λz Y=>∃B T,b9 F B T z Y/\Kp F.toFb H1 N Y T/\(u5 g t (l.drop (i+1)) B).run T (sU F Z H k) F.E,λz Y h3=>⟨l.length-(i+1),by omega,rfl,G,h3⟩,λx H' y=>?_⟩;obtain⟨e3,i3⟩:=yl x H' y;refine⟨j,p,d,P.mono e3,i3,M.wk L λQ k4 q4 a0 H4 e4 S4=>?_⟩;have s:Kp F.toFb H1 N H4 k4:=O.trans (e3.trans e4).kp;refine⟨Q,k4,S4,M.wk q4 λfl k5 C=>?_⟩;cases fl with
   |nx f=>exactλn W I K=>⟨f,k5,K,s.trans I,C⟩|ct f=>exactλn W I K=>⟨f,k5,K,s.trans I,C⟩|bk f=>exactλn W I K=>C n W ((V.kp.trans s).trans I) K|rt r=>exact C|ro d=>exact C.elim
  .have e:i=l.length:=by omega
   subst e;rw[QN]at L;exact .inl ⟨it.stop v p O P.live,L o v (V.kp.trans O) P⟩⟩
noncomputable def eP(c:ag->M Bool)(body:ag->M Fl):Nat->ag->M Fl
 |0,_=>M.fail|n+1,f=>do
  let b<-c f;if b then do match<-body f with
   |.nx d=>eP c body n d|.ct d=>eP c body n d|.bk d=>pure (.nx d)|.rt r=>pure (.rt r)|.ro _=>M.fail;else pure (.nx f)
noncomputable def DJ(c:ag->M Bool)(body:ag->M Fl)(ρ:ag):M Fl:=⟨λk Q E=>∃n,(eP c body n ρ).run k Q E,λ⟨n,h⟩q e=>⟨n,(eP c body n ρ).mono h q e⟩⟩
theorem wL{R:MP}(W:RT (ML X.prog X.w) X.A X.env X.xe)(O:DT X F R tA)(hb:vG X F sts t):DS X F (.While R sts [] pos) (DJ tA t):=⟨O.hK,(vR W O.pt hb.ps).imp λZ σ H z=>by
  obtain⟨V,k,S,n,h⟩:=z;refine⟨λm l I=>∃i y,b9 F i y l I/\Kp F.toFb H k I y/\(eP tA t m i).run y (sU F Z H k) F.E,⟨n,V,k,S,.refl,h⟩,?_⟩;rintro m l I⟨i,y,S2,Q,K⟩;cases m with
  |zero=>exact K.elim|succ m=>
   refine oK.next S2 K λb N U P T J=>?_;cases b with
   |false=>exact J l U (Q.trans P.kp) T|true=>
    refine⟨λp G=>∃q B,b9 F q B p G/\Kp F.toFb H k G B/\(eP tA t m q).run B (sU F Z H k) F.E,λp G Y=>⟨m,R0 _,Y⟩,i,N,T,M.wk J λfl L s=>?_⟩;have o:Kp F.toFb H k U N:=Q.trans P.kp;cases fl with
    |nx f=>exactλj C v x=>⟨f,L,x,o.trans v,s⟩|ct f=>exactλj C v x=>⟨f,L,x,o.trans v,s⟩|bk f=>exactλj C v x=>s j C (o.trans v) x|rt r=>exact s|ro d=>exact s.elim⟩
theorem PI.imp{iter:MP}{t t':TI}(h:PI X tg iter t)(q:∀d H R,t' d H R->t d H R):PI X tg iter t':=λf s d H R I z=>h f s d H R I (q d H R z)
noncomputable def DK{h:Type}(f:D->M h):List D->M h
 |[d]=>f d|_=>M.fail
theorem pj{i:Type}{f:D->M i}{ds:List D}{k Q E}(h:(DK f ds).run k Q E):∃d,ds=[d]/\(f d).run k Q E:=by match ds,h with|[d],h=>exact⟨d,rfl,h⟩
noncomputable def av(n:Nat):List D:=(N_ n).map λ(i:Nat)=>D.int (i:Int)
noncomputable def DL(d:D):M (List D):=do
 let j<-e9 d;M.need (-(2^62)<=j/\j<=1000000)pure (av j.toNat)
theorem u6{p:Oc}(B:X.mg "range"=Mu)(ha:DA X F [a] tas)(C:Gl X "range":=by rfl)(z:MX [a] X.env=[(Mw,OB a X.env)]:=by rfl):DI X F tg (.Call (.Name "range" p) [a] [] pos) (λρ=>do DK DL (<-hZ (<-tas ρ))):=⟨ha.hK,(uO C B ha.pa z).imp λO H R m=>by
  obtain⟨ρ,k,S,h⟩:=m;refine qM.next S h λU Q P N K V w I=>?_;obtain⟨T,rfl,G⟩:=b5 I;obtain⟨d,rfl,E⟩:=pj G;obtain⟨j,rfl,l⟩:=aN.mp E;obtain⟨v,rfl,q⟩:=(b6 w).one;simp only[Is]at q;subst q;refine⟨j,rfl,l.1.1,Int.lt_of_le_of_lt l.1.2 (by decide),l.2 _ N K ⟨λi d L s hd J l2=>?_,λL s J _=>?_,?_⟩⟩
  .unfold av at hd;rw[M9]at hd;cases o:(N_ j.toNat)[i]? with
   |none=>rw[o]at hd;cases hd|some n=>
    rw[o]at hd;cases hd;obtain⟨f,r⟩:=List.getElem?_eq_some_iff.mp o;rw[List.getElem_range]at r;subst r;rw[RE]at f;refine⟨f,λx W y=>?_⟩;obtain⟨rfl,rfl⟩:=y;exact⟨.refl,by simp only[Is];simp⟩
  .show j.toNat<=_;simp[av]
  .have:=l.1.2;simp only[av,M0,RE,PL];omega⟩
theorem wM{B:Fb}{H:Hp}{k:Nat}{a:MB}{f:List V}{ds:List D}(h:LstAt B H a f)(i:af B H f ds)(q:f.length<=MA):rj B (Lr B.K a) ds H k where
 step:=λj d o p hd e l=>by
  obtain⟨x,n,r⟩:=(i.mono e).get hd;have m:dI B.K o a f:=(h.mono e).2.sq;refine⟨⟨f,x,m,n⟩,λy s z=>?_⟩;obtain⟨rfl,z⟩:=z;have:=z f m;rw[n]at this;cases this;exact⟨.refl,r⟩
 stop:=λo p e l=>⟨f,(h.mono e).2.sq,PX i.length⟩;len:=by rw[<-i.length];exact q
theorem wN{B:Fb}{H:Hp}{k:Nat}{a:MB}{f:List V}{ds:List D}(h:TupAt B H a f)(i:af B H f ds)(p:f.length<=MA):rj B (Lu B.K a) ds H k where
 step:=λj d r o hd e l=>by
  obtain⟨x,n,q⟩:=(i.mono e).get hd;have m:=(h.mono e).2;refine⟨⟨f,x,m,n⟩,λy s z=>?_⟩;obtain⟨rfl,z⟩:=z;have:=z f m;rw[n]at this;cases this;exact⟨.refl,q⟩
 stop:=λr o e l=>⟨f,(h.mono e).2,PX i.length⟩;len:=by rw[<-i.length];exact p
end
noncomputable def kC(outer a:Of):Bool:=(a.kind==.function)&&a.names.all λy=>((y.2 !=.cell)||(a.names.lookup y.1==Mq .cell))&&((y.2 !=.local)||(a.names.lookup y.1==Mq .local))&&((y.2 !=.free)||(outer.names.lookup y.1==Mq .cell)||(outer.names.lookup y.1==Mq .free))
noncomputable def rk(env:SD)(y:MR×OU)(cs:List (MR×MB)):Rw (ForInStep (List (MR×MB))):=do if y.2==.free then pure (N7 ((y.1,<-cellOf env y.1)::cs))else pure (N7 cs)
theorem rl{a:Of}{env:SD}{b:List (MR×MB)}(h:forIn a.names [] (rk env)=(pure b:Rw _)):UE a env=pure b:=by
 have e:UE a env=(forIn a.names [] (rk env)>>=λs=>pure s):=rfl;rw[e,h];rfl
theorem rm{env:SD}:∀(names:List (MR×OU)),(∀y∈names,y.2=.free->∃c,env.cells.lookup y.1=Mq c)->∀a:List (MR×MB),(∀x c,a.lookup x=Mq c->env.cells.lookup x=Mq c)->∃f,forIn names a (rk env)=(pure f:Rw _)/\(∀x c,f.lookup x=Mq c->env.cells.lookup x=Mq c)/\(∀x c,a.lookup x=Mq c->∃b,f.lookup x=Mq b)/\∀y∈names,y.2=.free->∃c,f.lookup y.1=Mq c
 |[],_,a,ha=>⟨a,rfl,ha,λx c e=>⟨c,e⟩,λy d=>nomatch d⟩|(n,h)::r,l,a,ha=>by
  by_cases m:h=.free
  .subst m;obtain⟨c,t⟩:=l (n,.free) ME rfl;have o:∀x b,((n,c)::a).lookup x=Mq b->env.cells.lookup x=Mq b:=λx b e=>by
    rw[Ni]at e;cases i:x==n with
    |true=>
     rw[i]at e;cases e;rw[beq_iff_eq.mp i];exact t|false=>
     rw[i]at e;exact ha x b e
   obtain⟨f,s,q,k,p⟩:=rm r (λy d=>l y (MH _ d)) ((n,c)::a) o;have keep:∀x b,a.lookup x=Mq b->∃g,((n,c)::a).lookup x=Mq g:=λx b e=>by
    rw[Ni];cases i:x==n with
    |true=>exact⟨c,rfl⟩|false=>exact⟨b,e⟩
   refine⟨f,?_,q,λx b e=>?_,λy d j=>?_⟩
   .rw[Px];have e:rk env (n,.free) a=(pure (N7 ((n,c)::a)):Rw _):=by
     unfold rk cellOf;rw[t];rfl
    rw[e];exact s
   .obtain⟨g,u⟩:=keep x b e;exact k x g u
   .rcases List.mem_cons.mp d with z|z
    .subst z;exact k n c (by rw[Ni,beq_self_eq_true])
    .exact p y z j
  .obtain⟨f,s,q,k,p⟩:=rm r (λy d=>l y (MH _ d)) a ha;refine⟨f,?_,q,k,λy d j=>?_⟩
   .rw[Px];have e:rk env (n,h) a=(pure (N7 a):Rw _):=by
     unfold rk;have:(h==N0)=Mw:=by cases h<;>first|rfl|exact absurd rfl m
     rw[this];rfl
    rw[e];exact s
   .rcases List.mem_cons.mp d with z|z
    .subst z;exact absurd j m
    .exact p y z j
theorem rp{X:Cx}(ok:X.Ok){a:Of}(h:kC X.env.scope a=Mv):∃g,I_ X a g:=by
 unfold kC at h;rw[MG,Pg]at h;obtain⟨i,ha⟩:=h;have b:∀y∈a.names,y.2=.free->X.env.kindOf y.1=Mq .cell\/X.env.kindOf y.1=Mq .free:=λy d f=>by
  have:=ha y d;simp only[MG,NO,bne_iff_ne,beq_iff_eq,ne_eq]at this;rcases this.2 with(z|z)|z;.exact absurd f z
  .exact .inl z
  .exact .inr z
 obtain⟨g,l,k,m,j⟩:=rm (env:=X.env) a.names (λy d f=>ok.has y.1 (b y d f)) [] (λx c e=>nomatch e);refine⟨g,rl l,k,λx e=>⟨j (x,.free) (N5 e) rfl,b (x,.free) (N5 e) rfl⟩,beq_iff_eq.mp i,λy d z=>?_,λy d z=>?_⟩
 .have:=ha y d;rw[z]at this;simpa using this
 .have:=ha y d;rw[z]at this;simpa using this
noncomputable def dy(ρ:ag)(n:Nat)(js:List Nat):ag:=NY n Mu++js.map λj=>(ρ[j]?).join
theorem h_{ρ:ag}{n:Nat}{js:List Nat}{i:Nat}{w:W}(h:(dy ρ n js)[i]?=Mq (Mq w)):n<=i/\∃j,js[i-n]?=Mq j/\ρ[j]?=Mq (Mq w):=by
 unfold dy at h;by_cases a:i<n
 .rw[Ny (by simpa using a),Pd,if_pos a]at h;cases h
 .rw[Nk (by simpa using a),Ov,M9]at h;refine⟨by omega,?_⟩;cases c:js[i-n]? with
  |none=>rw[c]at h;cases h|some j=>
   rw[c]at h;refine⟨j,rfl,?_⟩;have h:(ρ[j]?).join=Mq w:=MD h;cases b:ρ[j]? with
   |none=>rw[b]at h;cases h|some o=>
    rw[b]at h;have h:o=Mq w:=h;rw[h]
theorem dD{a:St}{n:Nat}{js:List Nat}{i j:Nat}{v:V}(c:n<=i)(b:js[i-n]?=Mq j)(h:a[j]?=Mq (Mq v)):(aU a n js)[i]?=Mq (Mq v):=by
 unfold aU;rw[Nk (by simpa using c),Ov,M9,b];show Mq ((a[j]?).join)=_;rw[h];rfl
theorem b9.dB{F:Fx}{ρ:ag}{k:Nat}{t:St}{H:Hp}(S:b9 F ρ k t H)(n:Nat){js:List Nat}(y:js.Nodup):b9 F (dy ρ n js) k (aU t n js) H where
 len:=by simp[dy,aU]
 at_:=λi w e=>by
  obtain⟨l,j,c,d⟩:=h_ e;obtain⟨v,m,A⟩:=S.at_ j w d;exact⟨v,dD l c m,A⟩
 apart:=λi p w x v q e s o C s1 s2=>by
  obtain⟨l,j,c,d⟩:=h_ e;obtain⟨g,f,a,b⟩:=h_ s;obtain⟨u,m,A⟩:=S.at_ j w d;obtain⟨G,h,D⟩:=S.at_ f x b;have a1:=dD l c m;have B:=dD g a h;rw[s1]at a1;rw[s2]at B;cases a1;cases B;have r:j≠f:=λz=>by
   subst z;have:i-n=p-n:=(T9 (List.getElem?_eq_some_iff.mp c).1 y).mp (c.trans a.symm);exact q (by omega)
  exact S.apart j f w x v r d b o C m h
 alone:=λi p ks E w e s o=>by
  obtain⟨l,j,c,d⟩:=h_ e;obtain⟨g,f,a,b⟩:=h_ s;have z:=S.alone j f ks E w d b o;rw[z]at a;have:i-n=p-n:=(T9 (List.getElem?_eq_some_iff.mp c).1 y).mp (c.trans a.symm);omega
 live:=S.live;ext:=S.ext;zy:=S.zy
structure pk(X:Cx)(F:Fx)(ifs:List MP)(t:ag->M Bool):Prop where
 hK:X.K=F.K
 pi:wj X ifs (oK F t)
section
variable{X:Cx}{F:Fx}{elt tg iter c:MP}{ifs:List MP}{pos:Oc}{scope:Of}{own fr:List MR}{js:List Nat}{g:D->ag->M ag}{tc:ag->M Bool}{te:ag->M D}{tI:ag->M (List D)}
theorem wO(hK:X.K=F.K:=by rfl):pk X F [] (λ_=>pure Mv):=⟨hK,λa s b H Q I⟨d,k,S,h⟩=>oZ a s b H Q I (h H .refl)⟩
theorem wQ(h:DT X F c tc):pk X F [c] tc:=⟨h.hK,wm h.pt⟩
noncomputable def mE(g:D->ag->M ag)(tc:ag->M Bool)(te:ag->M D):List D->ag->M (List D)
 |[],_=>pure []|d::e,f=>do
  let a<-g d f;let b<-tc a;if b then do
   let x<-te a;let r<-mE g tc te e a;pure (x::r)else mE g tc te e a
theorem zN{L:St}{ρ:ag}{A:Hp}{t:Nat}{J:It}{ds:List D}{Q:List D->Nat->Prop}{U:List V->St->Hp->Prop}(it:rj F.toFb J ds A t)(S:b9 F ρ t L A)(h:(mE g tc te ds ρ).run t Q F.E)(q:∀G xs C H' B,Ext F.toFb A t H' B->af F.toFb H' G xs->Q xs B->G.length<=MA->U G C H'):sS J (GH F g) (oK F tc) (iT (cL F te)) L A [] U:=by
 refine⟨λi m k n l=>m=ds.length-i/\i<=ds.length/\k.length<=i/\∃f a s,b9 F f a n l/\Ext F.toFb A t l a/\af F.toFb l k s/\(mE g tc te (ds.drop i) f).run a (λr B=>Q (s++r) B) F.E,⟨ds.length,rfl,ND _,MO _,ρ,t,[],S,.refl,.nil,h⟩,?_⟩;rintro i m k n l⟨rfl,a0,a2,f,a,s,K,w,H,o⟩;by_cases p:i<ds.length
 .obtain⟨d,hd,I⟩:=jQ p;rw[I]at o;obtain⟨go,Y⟩:=it.step i d l a hd w.kp K.live;refine .inr ⟨go,λx H3 y=>?_⟩;obtain⟨R,i3⟩:=Y x H3 y;refine⟨f,a,d,K.mono R,i3,M.wk o λu k4 q4 W H4 e4 S4=>?_⟩;refine oK.next S4 q4 λb O H5 e5 T N=>?_;have j:Ext F.toFb l a H5 O:=(R.trans e4).trans e5;cases b with
  |false=>exact⟨ds.length-(i+1),by omega,rfl,p,by omega,u,O,s,T,w.trans j,H.mono j.kp,N⟩|true=>
   rw[if_pos rfl];refine cL.next T N λZ k6 v H6 P S6 i6 q6=>?_;have hz:=it.len;refine⟨by omega,ds.length-(i+1),by omega,rfl,p,by simp;omega,u,k6,s++[Z],S6,w.trans (j.trans P),(H.mono (j.trans P).kp).append (.cons i6 .nil),M.wk q6 λr k7 z=>?_⟩;rw[M5];exact z
 .have e:i=ds.length:=by omega
  subst e;rw[QN]at o;have o:Q (s++[]) a:=o;rw[M1]at o;exact .inl ⟨it.stop l a w.kp K.live,q k s n l a w H o (by have:=it.len;omega)⟩
end
noncomputable def wR(e:MP)(d:Nat):Prop:=∀{prog:MQ}{w:M6}{A:Nf}{R:UM->Mz->Prop}{s:Mz}{f a:Mt}{env:SD},codeAny (ML prog w) A (.compLoop e d f a env) R s->wpAny (ML prog w) A (Ue f) (λc b=>codeAny (ML prog w) A (.compLoop e d c a env) R b) (notedBy (ML prog w) A env λx b=>R (.error x) b) s->codeAny (ML prog w) A (.compStart e d f a env) R s
noncomputable def tj{c:Type}(n:Nat)(js:List Nat)(wi:TI)(g:TG)(b:TT)(rd:RB c)(a0:c)(o:c->HO):TE:=λd H Q=>wi d H λJ f=>sS J g b rd (aU d n js) f a0 λa _ e=>∀p,e p=Mu->(p==NW)=Mw->Q (.ref p) (upd e p (o a))
inductive Ke(X:Cx)(pins:List (MB×NI))(σ:St)(Q:VK)(D C:MB)(s':Mz):Prop where|mk(H':Hp)(I:Inv X pins σ H' s')(q:Q (.ref D) H')(n:H' C=Mu)(l:C≠X.env.locals)(f:C∉X.fs)(c:∀y c,X.env.cells.lookup y=Mq c->c≠C)(p:∀p∈X.pn++pins,p.1≠C)(z:X.cc.heap.objs.size<=C)(m':MR->Option Mt)(hn:s'.heap.Ns C m')
noncomputable def pq(X:Cx)(cmp:Option (Mt->Rw Unit)->Rw Mt)(t:TE):Prop:=∀(b:Option (Mt->Rw Unit))(e:Mt->Mz->Prop)(a:List (MB×NI))(s:Mz)(c:St)(H:Hp)(Q:VK),Inv X a c H s->t c H Q->(∀D C d,Ke X a c Q D C d->compPost (ML X.prog X.w) X.A X.xe b e (.ref D) C (.ok .next) d)->wpAny (ML X.prog X.w) X.A (cmp b) e X.xe s
theorem pq.pe{X:Cx}{cmp:Option (Mt->Rw Unit)->Rw Mt}{t:TE}{e:MP}(w:pq X cmp t)(d:OB e X.env=cmp Mu):PE X e t:=by
 intro a s g H Q I h;rw[d];refine w _ _ a s g H Q I h λD C i z=>?_;obtain⟨o,I,q,n,l,f,c,p,z,j,m⟩:=z;exact⟨j,m,λr k=>⟨.ref D,o,I.turned (t':=i.toks) (it:=C) (λb ob hb e=>(k.2 b hb).trans e) n l (.inr z) c p,rfl,q⟩⟩
theorem iW{X:Cx}{Z:Type}{e tg iter:MP}{ifs:List MP}{rest:List RM}{f:Of}{pos:Oc}{cl:List (MR×MB)}{own fr:List MR}{js:List Nat}{wi:TI}{g:TG}{M:TT}{rd:RB Z}{ok:Z->NI->Prop}{a0:Z}{ob0:NI}{o:Z->HO}{newAcc:Rw Mt}{body:MB->SD->Rw Unit}(S:X.calm=Mv)(c:I_ X f cl)(hj:js.map (λj=>X.N[j]?)=fr.map Mq)(e5:∀x∈fr,f.names.lookup x=Mq .free)(hw:PI X tg iter wi)(b3:clausesOf e=⟨tg,iter,ifs,0⟩::rest)(d4:wR e 0)(a8:∀{Q:Mt->Mz->Prop}{s:Mz},Q (.ref s.heap.objs.size) {s with heap:=s.heap.push ob0}->wpAny (ML X.prog X.w) X.A newAcc Q X.xe s)(e3:∀a ob v,ok a ob->ob.data≠.cell v)(a4:ok a0 ob0)(e0:ob0.data≠.freed)(b2:∀it D env,(ML X.prog X.w).den (.compLoop e 0 (.ref it) (.ref D) env)=(T7 e 0 (.ref it) (.ref D) env).onRaise (λx=>do noteFrame x env;theTreesLotGoes x))(a6:∀it D env,X.A.under (.compLoop e 0 (.ref it) (.ref D) env)=X.A)(e6:∀it D env,T7 e 0 (.ref it) (.ref D) env=(do
   RA iter.pos;match<-OS (.ref it)with
   |none=>pure (.done .next)|some v=>
    Pt tg (.ref it) v;Rl tg env v;let mut ok:=Mv;for c in ifs do if ok then ok<-S7 c env (OB c env)
    if ok then body D env
    UK (.compLoop e 0 (.ref it) (.ref D) env)))(hg:∀i cs C fp s H,PG (dB X i f (own++fr) cs C fp s H) tg g)(hi:∀i cs C fp s H,wj (dB X i f (own++fr) cs C fp s H) ifs M)(hb:∀i cs C fp s H D,Jb (dB X i f (own++fr) cs C fp s H) D->Body (dB X i f (own++fr) cs C fp s H) ok D (body D (dB X i f (own++fr) cs C fp s H).env) rd)(b0:∀(a:Z)(ob:NI)(H:Hp)(h:M7)(D:MB),ok a ob->h.get? D=Mq ob->jo X.prog X.w H h->bW X.prog X.w (upd H D (o a)) h D (o a))(hs:∀x,OE iter X.env x=pure x:=by intro _;rfl):pq X (λu=>comprehension e f X.env pos newAcc Mw (OB iter X.env) u) (tj own.length js wi g M rd a0 o):=by
 intro c5 Qc i s σ H Q I h kk;refine wpAny_comprehension_free b3 hs c.J4 c.kind c.names (a_ (hw i s σ H _ I h) λv s1 h1=>a_ h1 λf4 s2 h2=>?_);obtain⟨it,fp,tn,J,G,e1,t,T,ba,f2,d0⟩:=h2;subst e1;refine a8 (nK ?_);dsimp only;generalize U:s2.heap.push ob0=l;have hC:l.objs.size=s2.heap.objs.size+1:=by rw[<-U,NN]
 have c0:s2.heap.objs.size≠l.objs.size:=by rw[hC];exact M3 (R0 _)
 have k:s2.heap.objs.size<=l.objs.size:=by rw[hC];exact Qk _
 have below:∀b,b<s2.heap.objs.size->b≠l.objs.size:=λb hb=>by rw[hC];exact M3 (PJ hb)
 have K:∀x a,X.env.cells.lookup x=Mq a->a<s2.heap.objs.size:=λx a e=>by
  obtain⟨v,q⟩:=t.cell x a e;exact q.lt
 obtain⟨cj,ck⟩:=kq f.names (l.objs.size+1) cl (λx a e=>PJ (MU (K x a (c.sub x a e)) k)) (λx y a e1 e2=>t.ok.inj x y a (c.sub x a e1) (c.sub y a e2));have kc:CT X f s2 l.objs.size (PY (l.push {cls:=.type "dict",data:=.dict #[]}) f.names) (OR (l.objs.size+1) f.names cl):=by
  refine⟨cj,λx a e=>?_,λx a e hf=>?_,λx hx=>?_⟩
  .rcases ck x a e with⟨R,W⟩|⟨R,_,z3⟩;.exact .inl ⟨c.sub x a R,λq=>W (N5 q)⟩
   .exact .inr ⟨k,R,z3 _ (NN ..)⟩
  .rcases ck x a e with⟨R,W⟩|⟨_,W,_⟩;.exact c.sub x a R
   .have:=c.cells _ W rfl;rw[hf]at this;cases this
  .have:((OR (l.objs.size+1) f.names cl).lookup x).isSome=Mv:=Qq _ _ _ (by
    rcases hx with z|z;.exact .inl z
    .obtain⟨a,e⟩:=(c.has x z).1;exact .inr (by rw[e];rfl));exact Option.isSome_iff_exists.mp this
 have B:(PY (l.push {cls:=.type "dict",data:=.dict #[]}) f.names).Ns l.objs.size (λ_=>Mu):=(Heap.Ns.new l (.type "dict")).keeps (SG _ _);have F:∀b o,l.get? b=Mq o->(PY (l.push {cls:=.type "dict",data:=.dict #[]}) f.names).get? b=Mq o:=λb o e=>SG _ _ _ _ (My _ e);generalize PY (l.push {cls:=.type "dict",data:=.dict #[]}) f.names=m at kc B F⊢;generalize OR (l.objs.size+1) f.names cl=cs at kc⊢;have a3:∀b o,s2.heap.get? b=Mq o->m.get? b=Mq o:=λb o e=>F b o (U▸My _ e);have b4:m.get? s2.heap.objs.size=Mq ob0:=F _ _ (U▸MK _ (by cases ob0;rename_i c d n sl;cases n<;>first|rfl|exact absurd rfl e0));have L:∀b∈fp,b<s2.heap.objs.size:=λb hb=>by
  obtain⟨o,e,_⟩:=T.obj _ _ ba b hb;exact MM e
 have J0:=uX (own:=own) (fr:=fr) (t':=s2.toks) t f2 L c kc hj e5 k a3 B;have oD:Jb (dB X i f (own++fr) cs l.objs.size fp s2 G) s2.heap.objs.size:=⟨MO _,λx a e z=>by
  rcases kc.sub x a e with⟨q,_⟩|⟨q1,q2,_⟩;.exact absurd (K x a q) (by rw[z];exact Nx _)
  .exact absurd (Qe q1 q2) (by rw[z];exact Nx _)⟩;have f0:G s2.heap.objs.size=Mu:=t.aV.fresh (MO _);have d2:s2.heap.objs.size∉uJ X.stack:=λz=>by
  rcases List.mem_cons.mp (t.j5 _ z)with q|q;.exact absurd t.lt (by rw[<-q];exact Nx _)
  .exact t.Cf (MO _) q
 have O:∀p∈(X.pn++i)++([]:List (MB×NI)),p.1≠s2.heap.objs.size:=λp E z=>by
  rw[M1]at E;exact absurd (MM (t.pin p E).1) (by rw[z];exact Nx _)
 have J1:Inv (dB X i f (own++fr) cs l.objs.size fp s2 G) [(s2.heap.objs.size,ob0)] (aU σ own.length js) G {s2 with heap:=m,toks:=s2.toks}:=J0.eG λp E=>by
   have E:=List.mem_singleton.mp E;rw[E];exact⟨b4,f0,c0,d2,λv=>e3 a0 ob0 v a4⟩
 have a9:∀b∈fp,dY (dB X i f (own++fr) cs l.objs.size fp s2 G) [(s2.heap.objs.size,ob0)] G b:=λb hb=>by
  obtain⟨q0,q1,q2,q3,q4,q5⟩:=f2 b hb;refine⟨q0,below b (L b hb),sR t f2 b hb,.inl hb,λx a e=>?_,λp E=>?_⟩
  .rcases kc.sub x a e with⟨q,_⟩|⟨R,W,_⟩;.exact q4 x a q
   .exact Oy (T5 (MU (L b hb) R) W)
  rcases List.mem_append.mp E with z|z;.exact q5 p z
  .have z:=List.mem_singleton.mp z;rw[z];exact Nj (M3 (L b hb))
 have eQ:tn 0 m:=T.keep _ _ _ ba λb hb o e=>a3 b o e;have a5:=o_ (Y:=dB X i f (own++fr) cs l.objs.size fp s2 G) (ok:=ok) (D:=s2.heap.objs.size) (it:=it) (e:=e) (d:=0) (tg:=tg) (ifs:=ifs) (pos0:=iter.pos) (body:=body s2.heap.objs.size (dB X i f (own++fr) cs l.objs.size fp s2 G).env) S (λ_ _ z=>z) (b2 _ _ _) (a6 _ _ _) (e6 _ _ _) T (hg i _ _ fp s2 G) (hi i _ _ fp s2 G) (hb i _ _ fp s2 G _ oD) J1 O (a:=a0) a4 a9 eQ d0;have c1:codeAny (ML X.prog X.w) X.A (.compLoop e 0 (.ref it) (.ref s2.heap.objs.size) (compEnvC f cs l.objs.size X.env)) (compPost (ML X.prog X.w) X.A X.xe c5 Qc (.ref s2.heap.objs.size) l.objs.size) {s2 with heap:=m,toks:=s2.toks}:=by
  refine Sh a5 λr s' c4=>?_;obtain⟨a,d1,f1,H',hr,I',a7,q',_⟩:=c4;subst hr;obtain⟨m',e4,_⟩:=I'.loc;obtain⟨eD,nD,f3,_,_⟩:=I'.pin _ (MW _ ME);have c2:Inv X i σ H' s':=zx t f2 I';refine kk _ _ s' ⟨upd H' s2.heap.objs.size (o a),c2.BA t.sz nD (Oy t.lt) (λy c e z=>?_) (λp E=>O p (by rw[M1];exact E)) (b0 a d1 H' s'.heap _ a7 eD c2.aV),q' _ nD (beq_eq_false_iff_ne.mpr (Nj (M3 t.I9))),by rw[ah (Nj c0)];exact I'.free,Oy (MU t.lt k),t.Cf k,λy c e z=>?_,λp E z=>absurd (MU (MM (t.pin p E).1) k) (by rw[z];exact Nx _),Nv t.sz k,m',e4⟩;.exact absurd (K y c e) (by rw[z];exact Nx _)
  .exact absurd (MU (K y c e) k) (by rw[z];exact Nx _)
 exact d4 c1 (T.self _ 0 _ _ _ eQ c1)
theorem iX{e:MP}{d:Nat}{g:RM}(j:(clausesOf e)[d]?=Mq g)(ha:(g.is_async !=0)=Mw)(c:∀prog w it a env,(ML prog w).den (.compStart e d it a env)=(compStart e d it a env).onRaise (λx=>do noteFrame x env;RA theWindowsPlace):=by intros;rfl)(b:∀(A:Nf)it a env,A.under (.compStart e d it a env)=A:=by intros;rfl):wR e d:=by
 intro prog w A R s it a env f h;refine codeAny_of_tree ?_;rw[c,b];refine wpAny_notedAt ?_;unfold compStart;rw[j];simp only[Option.elim,ha,MV,if_false];refine Ms (wpAny_askSetting (wpAny_ite ?_));split;.first
   |exact Ms (Mx (Mx (And.intro rfl f)))|exact Mx (And.intro rfl f)
 .refine Ms (OF (Ms (Pz (Ms (Og h (λi l k=>Mx (And.intro rfl k)) λ_ _ x=>x)))))
section
variable{X:Cx}{elt tg iter tg2 iter2:MP}{ifs ifs2:List MP}{scope:Of}{pos:Oc}{cl:List (MR×MB)}{own fr:List MR}{js:List Nat}{wi wi2:TI}{g g2:TG}{tifs tifs2:TT}{te:TE}
theorem pz{P:MQ}{w:M6}(a:List V)(ob:NI)(H:Hp)(h:M7)(D:MB)(ok:Ja a ob)(e:h.get? D=Mq ob)(_:jo P w H h):bW P w (upd H D (.lst a)) h D (.lst a):=by
 obtain⟨d,b,n,c,rfl⟩:=ok;exact⟨d,b,n,c,e⟩
end
mutual
noncomputable def be(h:M7):Mt->D->Prop
 |u,.bH=>u=.none|u,.bl b=>u=.bool b|u,.int i=>∃t,u=.int i t|u,.str x=>∃t,u=.str x t|u,.tup d=>∃a c,u=.ref a/\h.IsTuple a c/\bT h c.toList d|u,.lst d=>∃a c,u=.ref a/\h.IsList a c/\bT h c.toList d|u,.aW _ _=>∃a,u=.ref a
noncomputable def bT(h:M7):List Mt->List D->Prop
 |us,[]=>us=[]|us,d::a=>∃u r,us=u::r/\be h u d/\bT h r a
end
theorem bT.length{h:M7}:∀{us:List Mt}{ds:List D},bT h us ds->us.length=ds.length
 |_,[],q=>by simp only[bT]at q;rw[q];rfl|_,d::ds,q=>by
  simp only[bT]at q;obtain⟨u,r,rfl,_,q⟩:=q;simp[bT.length q]
theorem bT.get{h:M7}:∀{us:List Mt}{ds:List D}{i:Nat}{u:Mt},bT h us ds->us[i]?=Mq u->∃d,ds[i]?=Mq d/\be h u d
 |_,[],_,_,q,e=>by simp only[bT]at q;rw[q]at e;simp at e|_,c::ds,i,u,q,e=>by
  simp only[bT]at q;obtain⟨x,r,rfl,a,q⟩:=q;cases i with
  |zero=>simp at e;subst e;exact⟨c,rfl,a⟩|succ i=>simpa using bT.get (i:=i) q (by simpa using e)
section
variable{X:Cx}{pins:List (MB×NI)}{σ:St}{H:Hp}{s:Mz}{B:Fb}
mutual
theorem dO(I:Inv X pins σ H s)(hK:X.K=B.K):∀{v:V}{u:Mt}{d:D},RelV v u->Is B H v d->be s.heap u d
 |_,_,.bH,r,i=>by simp only[Is]at i;subst i;simp only[be];exact r|_,_,.bl _,r,i=>by simp only[Is]at i;subst i;simp only[be];exact r|_,_,.int _,r,i=>by simp only[Is]at i;subst i;simp only[be];exact r|_,_,.str _,r,i=>by simp only[Is]at i;subst i;simp only[be];exact r|_,_,.tup j,r,i=>by
  simp only[Is]at i;obtain⟨a,h,rfl,g,f⟩:=i;obtain⟨b,c,e,_⟩:=I.tuple (by rw[hK];exact g.2);simp only[be];exact⟨a,b.toArray,r,e,nM I hK c f⟩|_,_,.lst j,r,i=>by
  simp only[Is]at i;obtain⟨a,h,rfl,g,f⟩:=i;obtain⟨b,c,e,_⟩:=I.list (by rw[hK];exact g.2.sq);simp only[be];exact⟨a,b.toArray,r,e.isList,nM I hK c f⟩|_,_,.aW _ _,r,i=>by
  simp only[Is]at i;obtain⟨a,h,rfl,_⟩:=i;simp only[be];exact⟨a,r⟩
theorem nM(I:Inv X pins σ H s)(hK:X.K=B.K):∀{a:List V}{us:List Mt}{ds:List D},au a us->af B H a ds->bT s.heap us ds
 |_,_,[],r,i=>by
  simp only[af]at i;subst i;cases r;simp only[bT]|_,_,d::ds,r,i=>by
  simp only[af]at i;obtain⟨x,g,rfl,f,e⟩:=i;cases r with|cons c b=>
   simp only[bT];exact⟨_,_,rfl,dO I hK c f,nM I hK b e⟩
end
end
noncomputable def br(f:D->D->Option Bool):List D->List D->Option Bool
 |x::d,y::c=>match f x y,br f d c with
  |some a,Mq b=>Mq (a&&b)|_,_=>Mu
 |_,_=>Mq Mv
noncomputable def cP:Nat->D->D->Option Bool
 |0=>λ_ _=>Mu|n+1=>λd e=>match d,e with
  |.tup f,.tup c=>(br (cP n) f c).map λb=>b&&f.length==c.length|.lst f,.lst c=>(br (cP n) f c).map λb=>b&&f.length==c.length|.bH,.bH=>Mq Mv|.bl a,.bl b=>Mq (a==b)|.bl a,.int b=>Mq ((if a then 1 else 0)==b)|.int a,.bl b=>Mq (a==(if b then 1 else 0))|.int a,.int b=>Mq (a==b)|.str a,.str b=>Mq (a==b)|.aW _ _,_=>Mu|_,.aW _ _=>Mu|_,_=>Mq Mw
theorem cD{f:D->D->Option Bool}:∀{xs ys:List D}{b:Bool},br f xs ys=Mq b->(∀(j:Nat)(x y:D),xs[j]?=Mq x->ys[j]?=Mq y->∃c,f x y=Mq c)/\∀g:Nat->Bool,(∀(j:Nat)(x y:D),xs[j]?=Mq x->ys[j]?=Mq y->f x y=Mq (g j))->(N_ (min xs.length ys.length)).all g=b
 |[],ys,b,h=>by cases ys<;>(simp[br]at h;subst h;exact⟨λj x y e=>absurd e (by simp),λg _=>(by simp)⟩)|x::xs,[],b,h=>by
  simp[br]at h;subst h;exact⟨λj x y e d=>by simp at d,λg _=>by simp⟩|x::xs,y::ys,b,h=>by
  simp only[br]at h;cases i:f x y with
  |none=>rw[i]at h;simp at h|some a=>cases m:br f xs ys with
   |none=>rw[i,m]at h;simp at h|some c=>
    rw[i,m]at h;simp only[Qu]at h;obtain⟨p,o⟩:=cD m;refine⟨λj l k e d=>?_,λg n=>?_⟩;.cases j with
     |zero=>simp at e d;subst e d;exact⟨a,i⟩|succ j=>exact p j l k (by simpa using e) (by simpa using d)
    .have r:g 0=a:=by
      have:=n 0 x y rfl rfl;rw[i]at this;exact(MD this).symm
     have q:=o (λj=>g (j+1)) λj l k e d=>n (j+1) l k (by simpa using e) (by simpa using d);rw[<-h,<-q,<-r];have:min (x::xs).length (y::ys).length=min xs.length ys.length+1:=by simp only[Ng];omega
     rw[this,List.range_succ_eq_map,PD,List.all_map];rfl
theorem ju{h:M7}{a:MB}{b its':Array Mt}(p:h.IsTuple a b)(q:h.IsTuple a its'):b=its':=by
 obtain⟨o,e,c,n,d⟩:=p;obtain⟨i,f,k,j,g⟩:=q;rw[e]at f;cases f;rw[d]at g;cases g;rfl
theorem kE{h:M7}{a:MB}{b its':Array Mt}(p:h.IsList a b)(q:h.IsList a its'):b=its':=by
 obtain⟨o,e,c,n,d⟩:=p;obtain⟨i,f,k,j,g⟩:=q;rw[e]at f;cases f;rw[d]at g;cases g;rfl
theorem tm{h:M7}{a:MB}{b its':Array Mt}(p:h.IsList a b)(q:h.IsTuple a its'):False:=by
 obtain⟨o,e,c,n,d⟩:=p;obtain⟨i,f,g,j,k⟩:=q;rw[e]at f;cases f;rw[c]at g;exact absurd (Value.type.inj g) (by decide)
theorem kF{h:M7}:∀(n:Nat){u:Mt}{d e:D}{b:Bool},be h u d->be h u e->cP n d e=Mq b->b=Mv
  |0,_,_,_,_,_,_,q=>by cases q|n+1,u,d,e,b,p,i,q=>by
    have step:∀{f:List Mt}{xs ys:List D}{c:Bool},bT h f xs->bT h f ys->br (cP n) xs ys=Mq c->(c&&xs.length==ys.length)=Mv:=λ{f xs ys c}o s l=>by
      obtain⟨G,F⟩:=cD l;have:=F (λ_=>Mv) λj x y ex B=>by
        obtain⟨z,v⟩:=G j x y ex B;have A:j<f.length:=by rw[o.length];exact(List.getElem?_eq_some_iff.mp ex).1
        obtain⟨L,E,I⟩:=o.get (MY A);obtain⟨K,C,H⟩:=s.get (MY A);rw[ex]at E;rw[B]at C;cases E;cases C;rw[v,kF n I H v]
      rw[<-this,<-o.length,<-s.length];simp
    cases d<;>first
      |exact nomatch(show(Mu:Option Bool)=Mq b from q)|(cases e<;>first
          |exact nomatch(show(Mu:Option Bool)=Mq b from q)
          | (simp only[be]at p i;first
               | (exfalso;(first|(obtain⟨_,rfl⟩:=p)|(obtain⟨_,_,rfl,_⟩:=p)|subst p)<;>(first|(obtain⟨_,z⟩:=i;cases z;done)|(obtain⟨_,_,z,_⟩:=i;cases z;done)|(cases i;done)))|(subst p;cases i;have q:=MD (show Mq _=Mq b from q);rw[<-q];try simp;done)|(obtain⟨t,rfl⟩:=p;obtain⟨J,z⟩:=i;cases z;have q:=MD (show Mq _=Mq b from q);rw[<-q];try simp;done)|skip))
    all_goals
      obtain⟨a,f,rfl,m,w⟩:=p;obtain⟨M,r,z,g,k⟩:=i;cases z
    · obtain rfl:=ju m g;obtain⟨c,l,rfl⟩:=Option.map_eq_some_iff.mp (show(br (cP n) _ _).map _=Mq b from q);exact step w k l
    ·exact(tm g m).elim
    ·exact(tm m g).elim
    · obtain rfl:=kE m g;obtain⟨c,l,rfl⟩:=Option.map_eq_some_iff.mp (show(br (cP n) _ _).map _=Mq b from q);exact step w k l
theorem mF{h:M7}{n:Nat}{a its':Array Mt}{xs ys:List D}{b:Bool}{A:Nf}{s:Mz}(l:bT s.heap a.toList xs)(f:bT s.heap its'.toList ys)(q:(br (cP n) xs ys).map (λb=>b&&xs.length==ys.length)=Mq b)(w:∀{u v:Mt}{d e:D}{c:Bool},be s.heap u d->be s.heap v e->cP n d e=Mq c->O9 A s u v c):∃e:Nat->Bool,(∀j(o:j<a.size)(m:j<its'.size),O9 A s a[j] its'[j] (e j))/\((N_ (min a.size its'.size)).all e&&a.size==its'.size)=b:=by
 simp only[Pm]at q;obtain⟨c,F,rfl⟩:=q;obtain⟨t,r⟩:=cD F;have l1:a.size=xs.length:=by have:=l.length;simpa using this
 have l2:its'.size=ys.length:=by have:=f.length;simpa using this
 have all:∀j:Nat,∃g:Bool,∀(x y:D),xs[j]?=Mq x->ys[j]?=Mq y->cP n x y=Mq g:=λj=>by cases C:xs[j]? with
  |none=>exact⟨Mv,λx y z=>nomatch z⟩|some x=>cases B:ys[j]? with
   |none=>exact⟨Mv,λx y _ z=>nomatch z⟩|some y=>
    obtain⟨g,k⟩:=t j x y C B;exact⟨g,λJ I z p=>by cases z;cases p;exact k⟩
 obtain⟨g,k⟩:∃g:Nat->Bool,∀(j:Nat)(x y:D),xs[j]?=Mq x->ys[j]?=Mq y->cP n x y=Mq (g j):=⟨λj=>(all j).choose,λj=>(all j).choose_spec⟩;refine⟨g,λj o m=>?_,?_⟩
 .obtain⟨d,hd,H⟩:=l.get (i:=j) (u:=a[j]) (by simp[o]);obtain⟨e,E,G⟩:=f.get (i:=j) (u:=its'[j]) (by simp[m]);exact w H G (k j d e hd E)
 .rw[l1,l2,r g k]
theorem DM{n:Nat}{A:Nf}{s:Mz}{a1 k:MB}{f a:Array Mt}{xs ys:List D}{b:Bool}(o:bT s.heap f.toList xs)(m:bT s.heap a.toList ys)(j:s.heap.IsTuple a1 f)(i:s.heap.IsTuple k a)(l:A.units<NB)(q:cP (n+1) (.tup xs) (.tup ys)=Mq b)(x:∀{u v:Mt}{d e:D}{c:Bool},be s.heap u d->be s.heap v e->cP n d e=Mq c->O9 A.in1 s u v c):Sm A s (.ref a1) (.ref k) b/\Rg A s (.ref a1) (.ref k) (!b)/\O9 A s (.ref a1) (.ref k) b:=by
 obtain⟨g,t,hb⟩:=mF (h:=s.heap) o m q x;have p:Sm A s (.ref a1) (.ref k) b:=hb▸SeqAt.RcAt.tuples j i l t;have w:Rg A s (.ref a1) (.ref k) (!b):=hb▸SeqAt.RcNeAt.tuples j i l t;refine⟨p,w,?_⟩;by_cases r:a1=k
 .subst r;have:b=Mv:=kF (h:=s.heap) (n+1) (u:=.ref a1) (by simp only[be];exact⟨a1,f,rfl,j,o⟩) (by simp only[be];exact⟨a1,a,rfl,i,m⟩) q;subst this;exact .same _
 .exact .of_refs r p
theorem DN{n:Nat}{A:Nf}{s:Mz}{a1 m:MB}{a f:Array Mt}{xs ys:List D}{b:Bool}(r:bT s.heap a.toList xs)(p:bT s.heap f.toList ys)(j:s.heap.IsList a1 a)(i:s.heap.IsList m f)(k:A.units<NB)(q:cP (n+1) (.lst xs) (.lst ys)=Mq b)(B:∀{u v:Mt}{d e:D}{c:Bool},be s.heap u d->be s.heap v e->cP n d e=Mq c->O9 A.in1 s u v c):Sm A s (.ref a1) (.ref m) b/\Rg A s (.ref a1) (.ref m) (!b)/\O9 A s (.ref a1) (.ref m) b:=by
 obtain⟨g,y,hb⟩:=mF (h:=s.heap) r p q B;have t:Sm A s (.ref a1) (.ref m) b/\Rg A s (.ref a1) (.ref m) (!b):=by
  by_cases o:a.size=f.size
  .have l:(N_ a.size).all g=b:=by rw[<-o]at hb;simpa using hb
   exact⟨l▸SeqAt.RcAt.lists j i o k y,l▸SeqAt.RcNeAt.lists j i o k y⟩
  .have l:b=Mw:=by rw[<-hb];simp[o]
   subst l;exact⟨SeqAt.RcAt.lists_lengths j i (by simpa using o) k,SeqAt.RcNeAt.lists_lengths j i (by simpa using o) k⟩
 obtain⟨w,z⟩:=t;refine⟨w,z,?_⟩;by_cases x:a1=m
 .subst x;have:b=Mv:=kF (h:=s.heap) (n+1) (u:=.ref a1) (by simp only[be];exact⟨a1,a,rfl,j,r⟩) (by simp only[be];exact⟨a1,f,rfl,i,p⟩) q;subst this;exact .same _
 .exact .of_refs x w
theorem nN:∀(n:Nat){A:Nf}{s:Mz}{u v:Mt}{d e:D}{b:Bool},be s.heap u d->be s.heap v e->A.units+n<NB->cP n d e=Mq b->Sm A s u v b/\Rg A s u v (!b)/\O9 A s u v b
 |0,_,_,_,_,_,_,_,_,_,_,q=>by cases q|n+1,A,s,u,v,d,e,b,p,h,hu,q=>by
  have a:A.units<NB:=by omega
  have C:∀{u v:Mt}{d e:D}{c:Bool},be s.heap u d->be s.heap v e->cP n d e=Mq c->O9 A.in1 s u v c:=λH G F=>(nN n H G (by rw[Around.in1_units];omega) F).2.2;have B:=q;cases d with
  |bH=>cases e with
   |bH=>
    simp only[be]at p h;subst p;subst h;have q:=MD (show Mq _=Mq b from q);subst q;exact⟨SeqAt.RcAt.none_none,SeqAt.RcNeAt.none_none,SeqAt.EqAt.same _⟩|bl y=>
    simp only[be]at p h;subst p;subst h;have q:=MD (show Mq _=Mq b from q);subst q;exact⟨SeqAt.RcAt.none_bool _,SeqAt.RcNeAt.none_bool _,SeqAt.EqAt.none_bool _⟩|int y=>
    simp only[be]at p h;subst p;obtain⟨r,rfl⟩:=h;have q:=MD (show Mq _=Mq b from q);subst q;exact⟨SeqAt.RcAt.none_int _ _,SeqAt.RcNeAt.none_int _ _,SeqAt.EqAt.none_int _ _⟩|str y=>
    simp only[be]at p h;subst p;obtain⟨r,rfl⟩:=h;have q:=MD (show Mq _=Mq b from q);subst q;exact⟨SeqAt.RcAt.none_str _ _,SeqAt.RcNeAt.none_str _ _,SeqAt.EqAt.none_str _ _⟩|tup m=>
    simp only[be]at p h;subst p;obtain⟨z,i,rfl,f,k⟩:=h;have q:=MD (show Mq _=Mq b from q);subst q;exact⟨SeqAt.RcAt.none_tuple f a,SeqAt.RcNeAt.none_tuple f a,SeqAt.EqAt.none_tuple f a⟩|lst m=>
    simp only[be]at p h;subst p;obtain⟨z,i,rfl,f,k⟩:=h;have q:=MD (show Mq _=Mq b from q);subst q;exact⟨SeqAt.RcAt.none_list f a,SeqAt.RcNeAt.none_list f a,SeqAt.EqAt.none_list f a⟩|aW w o=>exact nomatch(show(Mu:Option Bool)=Mq b from q)
  |bl x=>cases e with
   |bH=>
    simp only[be]at p h;subst p;subst h;have q:=MD (show Mq _=Mq b from q);subst q;exact⟨SeqAt.RcAt.bool_none _,SeqAt.RcNeAt.bool_none _,SeqAt.EqAt.bool_none _⟩|bl y=>
    simp only[be]at p h;subst p;subst h;have q:=MD (show Mq _=Mq b from q);subst q;exact⟨SeqAt.RcAt.bool_bool _ _,SeqAt.RcNeAt.bool_bool _ _,SeqAt.EqAt.bool_bool _ _⟩|int y=>
    simp only[be]at p h;subst p;obtain⟨r,rfl⟩:=h;have q:=MD (show Mq _=Mq b from q);subst q;exact⟨SeqAt.RcAt.bool_int _ _ _,SeqAt.RcNeAt.bool_int _ _ _,SeqAt.EqAt.bool_int _ _ _⟩|str y=>
    simp only[be]at p h;subst p;obtain⟨r,rfl⟩:=h;have q:=MD (show Mq _=Mq b from q);subst q;exact⟨SeqAt.RcAt.bool_str _ _ _,SeqAt.RcNeAt.bool_str _ _ _,SeqAt.EqAt.bool_str _ _ _⟩|tup m=>
    simp only[be]at p h;subst p;obtain⟨z,i,rfl,f,k⟩:=h;have q:=MD (show Mq _=Mq b from q);subst q;exact⟨SeqAt.RcAt.bool_tuple _ f a,SeqAt.RcNeAt.bool_tuple _ f a,SeqAt.EqAt.bool_tuple _ f a⟩|lst m=>
    simp only[be]at p h;subst p;obtain⟨z,i,rfl,f,k⟩:=h;have q:=MD (show Mq _=Mq b from q);subst q;exact⟨SeqAt.RcAt.bool_list _ f a,SeqAt.RcNeAt.bool_list _ f a,SeqAt.EqAt.bool_list _ f a⟩|aW w o=>exact nomatch(show(Mu:Option Bool)=Mq b from q)
  |int x=>cases e with
   |bH=>
    simp only[be]at p h;obtain⟨t,rfl⟩:=p;subst h;have q:=MD (show Mq _=Mq b from q);subst q;exact⟨SeqAt.RcAt.int_none _ _,SeqAt.RcNeAt.int_none _ _,SeqAt.EqAt.int_none _ _⟩|bl y=>
    simp only[be]at p h;obtain⟨t,rfl⟩:=p;subst h;have q:=MD (show Mq _=Mq b from q);subst q;exact⟨SeqAt.RcAt.int_bool _ _ _,SeqAt.RcNeAt.int_bool _ _ _,SeqAt.EqAt.int_bool _ _ _⟩|int y=>
    simp only[be]at p h;obtain⟨t,rfl⟩:=p;obtain⟨r,rfl⟩:=h;have q:=MD (show Mq _=Mq b from q);subst q;exact⟨SeqAt.RcAt.int_int _ _ _ _,SeqAt.RcNeAt.int_int _ _ _ _,TC _ _ _ _⟩|str y=>
    simp only[be]at p h;obtain⟨t,rfl⟩:=p;obtain⟨r,rfl⟩:=h;have q:=MD (show Mq _=Mq b from q);subst q;exact⟨SeqAt.RcAt.int_str _ _ _ _,SeqAt.RcNeAt.int_str _ _ _ _,Tz _ _ _ _⟩|tup m=>
    simp only[be]at p h;obtain⟨t,rfl⟩:=p;obtain⟨z,i,rfl,f,k⟩:=h;have q:=MD (show Mq _=Mq b from q);subst q;exact⟨SeqAt.RcAt.int_tuple _ _ f a,SeqAt.RcNeAt.int_tuple _ _ f a,S8 _ _ f a⟩|lst m=>
    simp only[be]at p h;obtain⟨t,rfl⟩:=p;obtain⟨z,i,rfl,f,k⟩:=h;have q:=MD (show Mq _=Mq b from q);subst q;exact⟨SeqAt.RcAt.int_list _ _ f a,SeqAt.RcNeAt.int_list _ _ f a,SeqAt.EqAt.int_list _ _ f a⟩|aW w o=>exact nomatch(show(Mu:Option Bool)=Mq b from q)
  |str x=>cases e with
   |bH=>
    simp only[be]at p h;obtain⟨t,rfl⟩:=p;subst h;have q:=MD (show Mq _=Mq b from q);subst q;exact⟨SeqAt.RcAt.str_none _ _,SeqAt.RcNeAt.str_none _ _,SeqAt.EqAt.str_none _ _⟩|bl y=>
    simp only[be]at p h;obtain⟨t,rfl⟩:=p;subst h;have q:=MD (show Mq _=Mq b from q);subst q;exact⟨SeqAt.RcAt.str_bool _ _ _,SeqAt.RcNeAt.str_bool _ _ _,SeqAt.EqAt.str_bool _ _ _⟩|int y=>
    simp only[be]at p h;obtain⟨t,rfl⟩:=p;obtain⟨r,rfl⟩:=h;have q:=MD (show Mq _=Mq b from q);subst q;exact⟨SeqAt.RcAt.str_int _ _ _ _,SeqAt.RcNeAt.str_int _ _ _ _,TB _ _ _ _⟩|str y=>
    simp only[be]at p h;obtain⟨t,rfl⟩:=p;obtain⟨r,rfl⟩:=h;have q:=MD (show Mq _=Mq b from q);subst q;exact⟨SeqAt.RcAt.str_str _ _ _ _,SeqAt.RcNeAt.str_str _ _ _ _,SeqAt.EqAt.str_str _ _ _ _⟩|tup m=>
    simp only[be]at p h;obtain⟨t,rfl⟩:=p;obtain⟨z,i,rfl,f,k⟩:=h;have q:=MD (show Mq _=Mq b from q);subst q;exact⟨SeqAt.RcAt.str_tuple _ _ f a,SeqAt.RcNeAt.str_tuple _ _ f a,S9 _ _ f a⟩|lst m=>
    simp only[be]at p h;obtain⟨t,rfl⟩:=p;obtain⟨z,i,rfl,f,k⟩:=h;have q:=MD (show Mq _=Mq b from q);subst q;exact⟨SeqAt.RcAt.str_list _ _ f a,SeqAt.RcNeAt.str_list _ _ f a,SeqAt.EqAt.str_list _ _ f a⟩|aW w o=>exact nomatch(show(Mu:Option Bool)=Mq b from q)
  |tup E=>cases e with
   |bH=>
    simp only[be]at p h;obtain⟨a1,j,rfl,g,l⟩:=p;subst h;have q:=MD (show Mq _=Mq b from q);subst q;exact⟨SeqAt.RcAt.tuple_none g a,SeqAt.RcNeAt.tuple_none g a,SeqAt.EqAt.tuple_none g a⟩|bl y=>
    simp only[be]at p h;obtain⟨a1,j,rfl,g,l⟩:=p;subst h;have q:=MD (show Mq _=Mq b from q);subst q;exact⟨SeqAt.RcAt.tuple_bool _ g a,SeqAt.RcNeAt.tuple_bool _ g a,SeqAt.EqAt.tuple_bool _ g a⟩|int y=>
    simp only[be]at p h;obtain⟨a1,j,rfl,g,l⟩:=p;obtain⟨r,rfl⟩:=h;have q:=MD (show Mq _=Mq b from q);subst q;exact⟨SeqAt.RcAt.tuple_int _ _ g a,SeqAt.RcNeAt.tuple_int _ _ g a,S_ _ _ g a⟩|str y=>
    simp only[be]at p h;obtain⟨a1,j,rfl,g,l⟩:=p;obtain⟨r,rfl⟩:=h;have q:=MD (show Mq _=Mq b from q);subst q;exact⟨SeqAt.RcAt.tuple_str _ _ g a,SeqAt.RcNeAt.tuple_str _ _ g a,Ta _ _ g a⟩|tup m=>
    simp only[be]at p h;obtain⟨a1,j,rfl,g,l⟩:=p;obtain⟨z,i,rfl,f,k⟩:=h;exact DM l k g f a B C|lst m=>
    simp only[be]at p h;obtain⟨a1,j,rfl,g,l⟩:=p;obtain⟨z,i,rfl,f,k⟩:=h;have q:=MD (show Mq _=Mq b from q);subst q;exact⟨SeqAt.RcAt.tuple_list g f a,SeqAt.RcNeAt.tuple_list g f a,SeqAt.EqAt.tuple_list g f a⟩|aW w o=>exact nomatch(show(Mu:Option Bool)=Mq b from q)
  |lst E=>cases e with
   |bH=>
    simp only[be]at p h;obtain⟨a1,j,rfl,g,l⟩:=p;subst h;have q:=MD (show Mq _=Mq b from q);subst q;exact⟨SeqAt.RcAt.list_none g a,SeqAt.RcNeAt.list_none g a,SeqAt.EqAt.list_none g a⟩|bl y=>
    simp only[be]at p h;obtain⟨a1,j,rfl,g,l⟩:=p;subst h;have q:=MD (show Mq _=Mq b from q);subst q;exact⟨SeqAt.RcAt.list_bool _ g a,SeqAt.RcNeAt.list_bool _ g a,SeqAt.EqAt.list_bool _ g a⟩|int y=>
    simp only[be]at p h;obtain⟨a1,j,rfl,g,l⟩:=p;obtain⟨r,rfl⟩:=h;have q:=MD (show Mq _=Mq b from q);subst q;exact⟨SeqAt.RcAt.list_int _ _ g a,SeqAt.RcNeAt.list_int _ _ g a,SeqAt.EqAt.list_int _ _ g a⟩|str y=>
    simp only[be]at p h;obtain⟨a1,j,rfl,g,l⟩:=p;obtain⟨r,rfl⟩:=h;have q:=MD (show Mq _=Mq b from q);subst q;exact⟨SeqAt.RcAt.list_str _ _ g a,SeqAt.RcNeAt.list_str _ _ g a,SeqAt.EqAt.list_str _ _ g a⟩|tup m=>
    simp only[be]at p h;obtain⟨a1,j,rfl,g,l⟩:=p;obtain⟨z,i,rfl,f,k⟩:=h;have q:=MD (show Mq _=Mq b from q);subst q;exact⟨SeqAt.RcAt.list_tuple g f a,SeqAt.RcNeAt.list_tuple g f a,SeqAt.EqAt.list_tuple g f a⟩|lst m=>
    simp only[be]at p h;obtain⟨a1,j,rfl,g,l⟩:=p;obtain⟨z,i,rfl,f,k⟩:=h;exact DN l k g f a B C|aW w o=>exact nomatch(show(Mu:Option Bool)=Mq b from q)
  |aW ks I=>exact nomatch(show(Mu:Option Bool)=Mq b from q)
theorem kG{h:M7}{n:Nat}{f:List Mt}{xs ys e:List D}{a b:Bool}(p:bT h f xs)(v:bT h f ys)(q:br (cP n) xs e=Mq a)(H:br (cP n) ys e=Mq b)(L:∀{u:Mt}{d d' x:D}{a b:Bool},be h u d->be h u d'->cP n d x=Mq a->cP n d' x=Mq b->a=b):(a&&xs.length==e.length)=(b&&ys.length==e.length):=by
 obtain⟨t,I⟩:=cD q;obtain⟨o,m⟩:=cD H;have A:xs.length=ys.length:=p.length.symm.trans v.length;have same:∀j x y z,xs[j]?=Mq x->ys[j]?=Mq y->e[j]?=Mq z->cP n x z=cP n y z:=λj x y z s k i=>by
  obtain⟨T,C⟩:=t j x z s i;obtain⟨S,B⟩:=o j y z k i;have c:j<f.length:=by rw[p.length];exact(List.getElem?_eq_some_iff.mp s).1
  obtain⟨R,F,K⟩:=p.get (MY c);obtain⟨Q,E,J⟩:=v.get (MY c);rw[s]at F;rw[k]at E;cases F;cases E;rw[C,B,L K J C B]
 have all:∀j:Nat,∃g:Bool,∀(x z:D),xs[j]?=Mq x->e[j]?=Mq z->cP n x z=Mq g:=λj=>by cases N:xs[j]? with
  |none=>exact⟨Mv,λx y z=>nomatch z⟩|some x=>cases M:e[j]? with
   |none=>exact⟨Mv,λx y _ z=>nomatch z⟩|some z=>
    obtain⟨g,l⟩:=t j x z N M;exact⟨g,λP O w G=>by cases w;cases G;exact l⟩
 obtain⟨g,l⟩:∃g:Nat->Bool,∀(j:Nat)(x z:D),xs[j]?=Mq x->e[j]?=Mq z->cP n x z=Mq (g j):=⟨λj=>(all j).choose,λj=>(all j).choose_spec⟩;have r:∀(j:Nat)(y z:D),ys[j]?=Mq y->e[j]?=Mq z->cP n y z=Mq (g j):=λj y z k i=>by
  have c:j<xs.length:=by rw[A];exact(List.getElem?_eq_some_iff.mp k).1
  rw[<-same j xs[j] y z (MY c) k i];exact l j _ z (MY c) i
 rw[<-I g l,<-m g r,A]
theorem kH{h:M7}:∀(n:Nat){u:Mt}{d d' x:D}{a b:Bool},be h u d->be h u d'->cP n d x=Mq a->cP n d' x=Mq b->a=b
  |0,_,_,_,_,_,_,_,_,q,_=>by cases q|n+1,u,d,d',x,a,b,p,g,q,e=>by
    cases d<;>first
      |exact nomatch(show(Mu:Option Bool)=Mq a from q)|(cases d'<;>first
          |exact nomatch(show(Mu:Option Bool)=Mq b from e)
          | (simp only[be]at p g;first
               | (exfalso;(first|(obtain⟨_,rfl⟩:=p)|(obtain⟨_,_,rfl,_⟩:=p)|subst p)<;>(first|(obtain⟨_,z⟩:=g;cases z;done)|(obtain⟨_,_,z,_⟩:=g;cases z;done)|(cases g;done)))|(subst p;cases g;rw[q]at e;exact MD e)|(obtain⟨t,rfl⟩:=p;obtain⟨t',z⟩:=g;cases z;rw[q]at e;exact MD e)|skip))
    all_goals
      obtain⟨a1,A,rfl,k,w⟩:=p;obtain⟨C,v,z,f,j⟩:=g;cases z
    · obtain rfl:=ju k f;cases x with
      |tup y=>
        obtain⟨c,o,rfl⟩:=Option.map_eq_some_iff.mp (show(br (cP n) _ _).map _=Mq a from q);obtain⟨B,i,rfl⟩:=Option.map_eq_some_iff.mp (show(br (cP n) _ _).map _=Mq b from e);exact kG w j o i λm l s r=>kH n m l s r|aW _ _=>exact nomatch(show(Mu:Option Bool)=Mq a from q)|_=>exact(MD (show Mq Mw=Mq a from q)).symm.trans (MD (show Mq Mw=Mq b from e))
    ·exact(tm f k).elim
    ·exact(tm k f).elim
    · obtain rfl:=kE k f;cases x with
      |lst y=>
        obtain⟨c,o,rfl⟩:=Option.map_eq_some_iff.mp (show(br (cP n) _ _).map _=Mq a from q);obtain⟨B,i,rfl⟩:=Option.map_eq_some_iff.mp (show(br (cP n) _ _).map _=Mq b from e);exact kG w j o i λm l s r=>kH n m l s r|aW _ _=>exact nomatch(show(Mu:Option Bool)=Mq a from q)|_=>exact(MD (show Mq Mw=Mq a from q)).symm.trans (MD (show Mq Mw=Mq b from e))
noncomputable def bM:Nat:=60
noncomputable def L4:D->D->M D:=λd e=>do
 let b<-M.get (cP bM d e)pure (.bl b)
noncomputable def L5:D->D->M D:=λd e=>do
 let b<-M.get (cP bM d e)pure (.bl (!b))
noncomputable def zO(x:D):List D->Option Bool
 |[]=>Mq Mw|y::c=>match cP 50 y x,zO x c with
  |some a,Mq b=>Mq (a||b)|_,_=>Mu
noncomputable def Kf(neg:Bool):D->D->M D:=λd e=>do
 let a<-M.get (items e)let b<-M.get (zO d a)pure (.bl (if neg then !b else b))
section
variable{X:Cx}{F:Fx}
theorem GK(hu:X.A.units+64<NB):e_ X F (Nd .Eq) L4:=⟨λa s i H k x y v u d e Q I f c l hK h g q=>by
 obtain⟨b,hb,q⟩:=M.run_get.mp q;exact EqBoolInt.of_rc (nN bM (dO I hK f h) (dO I hK c g) (by unfold bM;omega) hb).1 ⟨.bl b,H,I,rfl,q _ H .refl (by simp only[Is])⟩⟩
theorem GL(hu:X.A.units+64<NB):e_ X F (Nd .NotEq) L5:=⟨λa s i H k x y v u d e Q I f c l hK h g q=>by
 obtain⟨b,hb,q⟩:=M.run_get.mp q;exact EqBoolInt.of_rcne (nN bM (dO I hK f h) (dO I hK c g) (by unfold bM;omega) hb).2.1 ⟨.bl (!b),H,I,rfl,q _ H .refl (by simp only[Is])⟩⟩
theorem pA{x:D}:∀{ys:List D}{b:Bool},zO x ys=Mq b->(∀y∈ys,∃c,cP 50 y x=Mq c)/\(b=Mv↔∃y∈ys,cP 50 y x=Mq Mv)
 |[],b,h=>by
  simp only[zO,Qu]at h;subst h;exact⟨λy j=>(nomatch j),⟨λz=>(nomatch z),λ⟨y,j,_⟩=>(nomatch j)⟩⟩|y::ys,b,h=>by
  simp only[zO]at h;cases f:cP 50 y x with
  |none=>rw[f]at h;simp at h|some a=>cases k:zO x ys with
   |none=>rw[f,k]at h;simp at h|some c=>
    rw[f,k]at h;simp only[Qu]at h;obtain⟨m,l⟩:=pA k;refine⟨λz i=>?_,?_⟩
    .rcases List.mem_cons.mp i with rfl|i;.exact⟨a,f⟩
     .exact m z i
    .rw[<-h,NO,l];constructor
     .rintro(z|⟨g,d,e⟩);.exact⟨y,ME,by rw[f,z]⟩
      .exact⟨g,MH _ d,e⟩
     .rintro⟨g,d,e⟩;rcases List.mem_cons.mp d with rfl|d;.rw[f]at e;exact .inl (MD e)
      .exact .inr ⟨g,d,e⟩
theorem ic{s:Mz}{A:Nf}{a:Array Mt}{ys:List D}{x:D}{v:Mt}{b:Bool}(o:bT s.heap a.toList ys)(z:be s.heap v x)(hu:A.units+51<NB)(q:zO x ys=Mq b):∃e:Mt->Bool,(∀y,y∈a->O9 A.in1 s y v (e y))/\a.any e=b:=by classical
 obtain⟨w,t⟩:=pA q;refine⟨λu=>decide (∃y∈ys,be s.heap u y/\cP 50 y x=Mq Mv),λu n=>?_,?_⟩
 .obtain⟨i,j,rfl⟩:=Array.mem_iff_getElem.mp n;obtain⟨y,d,l⟩:=o.get (i:=i) (u:=a[i]) (by simp[j]);obtain⟨c,p⟩:=w y (Nz d);have:decide (∃y∈ys,be s.heap a[i] y/\cP 50 y x=Mq Mv)=c:=by cases c with
   |true=>exact decide_eq_true ⟨y,Nz d,l,p⟩|false=>
    refine decide_eq_false λm=>?_;obtain⟨r,_,k,e⟩:=m;have:=kH 50 l k p e;cases this
  show O9 A.in1 s a[i] v (decide (∃y∈ys,be s.heap a[i] y/\cP 50 y x=Mq Mv));rw[this];exact(nN 50 l z (by rw[Around.in1_units];omega) p).2.2
 .have key:a.any (λu=>decide (∃y∈ys,be s.heap u y/\cP 50 y x=Mq Mv))=Mv↔b=Mv:=by
   rw[t,Array.any_eq_true];constructor
   .rintro⟨i,j,h⟩;obtain⟨y,d,_,e⟩:=of_decide_eq_true h;exact⟨y,d,e⟩
   .rintro⟨y,d,e⟩;obtain⟨i,j⟩:=List.mem_iff_getElem?.mp d;have g:i<a.size:=by have:=o.length;have:=(List.getElem?_eq_some_iff.mp j).1;simp at*;omega
    refine⟨i,g,decide_eq_true ⟨y,d,?_,e⟩⟩;obtain⟨r,f,l⟩:=o.get (i:=i) (u:=a[i]) (by simp[g]);rw[j]at f;cases f;exact l
  cases b with
  |true=>exact key.mpr rfl|false=>cases hb:a.any (λu=>decide (∃y∈ys,be s.heap u y/\cP 50 y x=Mq Mv))with
   |false=>rfl|true=>exact absurd (key.mp hb) (by decide)
theorem GN(hu:X.A.units+64<NB):e_ X F (Nd .In) (Kf Mw):=⟨λn s C H k x y v u d e Q I r p l hK z w q=>by
 obtain⟨D,B,t⟩:=M.run_get.mp q;obtain⟨b,hb,m⟩:=M.run_get.mp t;have o:=dO I hK r z;have c:=dO I hK p w;cases e<;>first|cases B|skip
 .simp only[be]at c;obtain⟨a,f,rfl,g,h⟩:=c;obtain⟨e,j,i⟩:=ic (A:=X.A) h o (by omega) hb;exact SeqAt.in_tupleAt e g j (by rw[i];exact⟨.bl b,H,I,rfl,m _ H .refl (by simp only[Is];rfl)⟩)
 .simp only[be]at c;obtain⟨a,f,rfl,g,h⟩:=c;obtain⟨e,j,i⟩:=ic (A:=X.A) h o (by omega) hb;exact SeqAt.in_listAt e g j (by rw[i];exact⟨.bl b,H,I,rfl,m _ H .refl (by simp only[Is];rfl)⟩)⟩
theorem wU(hu:X.A.units+64<NB):e_ X F (Nd .NotIn) (Kf Mv):=⟨λn s C H k x y v u d e Q I r p l hK z w q=>by
 obtain⟨D,B,t⟩:=M.run_get.mp q;obtain⟨b,hb,m⟩:=M.run_get.mp t;have o:=dO I hK r z;have c:=dO I hK p w;cases e<;>first|cases B|skip
 .simp only[be]at c;obtain⟨a,f,rfl,g,h⟩:=c;obtain⟨e,j,i⟩:=ic (A:=X.A) h o (by omega) hb;exact SeqAt.notIn_tupleAt e g j (by rw[i];exact⟨.bl (!b),H,I,rfl,m _ H .refl (by simp only[Is];rfl)⟩)
 .simp only[be]at c;obtain⟨a,f,rfl,g,h⟩:=c;obtain⟨e,j,i⟩:=ic (A:=X.A) h o (by omega) hb;exact SeqAt.notIn_listAt e g j (by rw[i];exact⟨.bl (!b),H,I,rfl,m _ H .refl (by simp only[Is];rfl)⟩)⟩
end
end L2
end
section
namespace HT
open PySem PyProof.Rows
section
variable{prog:MQ}{w:M6}{A:Nf}{E:Mt->Mz->Prop}{s:Mz}
theorem ie{t b:MB}{items:Array Mt}{i g:Mt}{lo d:Option Int}{Q:Mt->Mz->Prop}(a:S0 s.heap t items)(j:s.heap.IsSliceOf b i g .none)(pl:Q8 i lo)(pu:Q8 g d)(hw:bR items.size 0 lo=0/\bR items.size items.size d=items.size)(h:Q (.ref t) s):wpAny (ML prog w) A (RC (.ref t) (.ref b)) Q E s:=by
 obtain⟨os,c,e,k⟩:=id j;have f:s.TypeIs (.ref b) "slice":=⟨os,c,e⟩;unfold RC;try with_reducible refine Na ?_
 first|refine Ms (Mx ?_)|skip
 refine Ms (T3 a.typeIs (by decide) ?_);refine Ms (Nm (name:=Mr "__getitem__") a.typeIs Oq (Nr Oq a.typeIs entry_tuple_getitem ?_ (TH _ _)));show wpAny _ _ (PN (.ref t)>>=_) _ _ s;refine Ms (tupleItemsOf_ a ?_);refine Ms (Rf f ?_);rw[if_pos (by decide)];refine Ms (d3 j pl pu ?_);show wpAny _ _ (if(((bR items.size 0 lo:Nat):Int)==0&&(1:Int)==1&&(bR items.size items.size d-bR items.size 0 lo)==items.size)=Mv then _ else _) _ _ s;rw[if_pos (by rw[hw.1,hw.2];simp)];unfold Builtin.Tuple.tupleIsExact;refine Ms (Ms (Rf a.typeIs (Mx ?_)));rw[if_pos (by decide)];first
  |exact Ms (OF (Ms (Mx (Mx ⟨_,rfl,Mx h⟩))))|exact Ms (OF (Ms (Mx ⟨_,rfl,Mx h⟩)))|exact Ms (OF (Mx ⟨_,rfl,Mx h⟩))
theorem wV{t b:MB}{g:List Mt}{Q:Mt->Mz->Prop}(m:S0 s.heap t ([]:List Mt).toArray)(hb:S0 s.heap b g.toArray)(o:Q (.ref b) s):wpAny (ML prog w) A (OL .Add (.ref t) (.ref b)) Q E s:=by
 obtain⟨⟨q,p,j,l⟩,h,i,n,hd⟩:=id m;obtain⟨⟨k,f,data2,e⟩,a,d,n2,c⟩:=id hb;simp only at i hd d c;subst i hd d c;exact T2 ⟨_,h,rfl⟩ ⟨_,a,rfl⟩ RW Tu Qs Qi (P8 _ _) (tuple_addW0 t b ([]:List Mt).toArray g.toArray n n2 p f l e (by rfl)) ⟨h,a,o⟩
end
end HT
namespace L2
open PySem PySem.Spec PyProof.Rows
noncomputable def cutD(xs:List D)(lo a:Option Int):List D:=(xs.drop (HT.bR xs.length 0 lo)).take (HT.bR xs.length xs.length a-HT.bR xs.length 0 lo)
noncomputable def GO(F:Fx)(t:ag->M (Option Int)):TO:=λc H Q=>∃a k,b9 F a k c H/\(t a).run k (λo d=>∀b,Ext F.toFb H k b d->Q o b) F.E
structure DO(X:Cx)(F:Fx)(e:Option MP)(t:ag->M (Option Int)):Prop where
 hK:X.K=F.K
 po:PO X e (GO F t)
section
variable{X:Cx}{F:Fx}{e:MP}{te:ag->M D}{lo hi:Option MP}{tl th:ag->M (Option Int)}{pos p2:Oc}
theorem PO.imp{o:Option MP}{t t':TO}(h:PO X o t)(q:∀a H Q,t' a H Q->t a H Q):PO X o t':=λb s a H Q I z=>h b s a H Q I (q a H Q z)
theorem zP(hK:X.K=F.K:=by rfl):DO X F Mu (λ_=>pure Mu):=⟨hK,sJ.imp λa H Q⟨b,k,S,h⟩=>h H .refl⟩
theorem zQ(h:DE X F e te):DO X F (Mq e) (λρ=>do let i<-e9 (<-te ρ);pure (Mq i)):=⟨h.hK,(sL h.pe).imp λj H Q a=>by
  obtain⟨ρ,k,S,h⟩:=a;refine cL.next S h λd l v g f m c b=>?_;obtain⟨i,rfl,b⟩:=aN.mp b;simp only[Is]at c;exact⟨i,c,b g f⟩⟩
theorem GO.next{t:ag->M (Option Int)}{c:St}{H:Hp}{ρ:ag}{k:Nat}{R:Option Int->Nat->Prop}{Q:Option Int->Hp->Prop}(S:b9 F ρ k c H)(h:(t ρ).run k R F.E)(q:∀b a H',Ext F.toFb H k H' a->b9 F ρ a c H'->R b a->Q b H'):GO F t c H Q:=⟨ρ,k,S,(t ρ).mono h (λb a r H' e=>q b a H' e (S.mono e) r) λ_ _ z=>z⟩
theorem af.cut{B:Fb}{H:Hp}{a:List V}{ds:List D}(h:af B H a ds)(lo hi:Option Int):af B H (nH a lo hi) (cutD ds lo hi):=by
 unfold nH cutD;rw[h.length];exact(h.drop _).take _
noncomputable def GP(lo hi:Option Int):D->M D
 |.tup a=>pure (.tup (cutD a lo hi))|.lst a=>pure (.lst (cutD a lo hi))|.str x=>do M.need (x.length<=MA);pure (.str (Txt.slice x lo hi))|_=>M.fail
theorem zR{prog:MQ}{w:M6}{A:Nf}{E:Mt->Mz->Prop}{s:Mz}{x:MR}{t:UJ}{c:MB}{b a:Mt}{lo hi:Option Int}{Q:Mt->Mz->Prop}(g:s.heap.IsSliceOf c b a .none)(pl:Q8 b lo)(pu:Q8 a hi)(f:x.length<=MA)(h:∀t' k,Q (.str (Txt.slice x lo hi) t') {s with toks:=k}):wpAny (ML prog w) A (RC (.str x t) (.ref c)) Q E s:=by
 have d:∀{v:Mt}{o:Option Int},Q8 v o->∃l:Option (Int×UJ),v=partValue l/\o=l.map (·.1):=λq=>by cases q with
  |none=>exact⟨Mu,rfl,rfl⟩|int i t=>exact⟨Mq (i,t),rfl,rfl⟩
 obtain⟨l,rfl,rfl⟩:=d pl;obtain⟨u,rfl,rfl⟩:=d pu;exact wpAny_getItem_str_slice (l:=l) (u:=u) (st:=Mu) g rfl (post_val_or_str ⟨Nv (Txt.slice_le x _ _) f,h⟩)
noncomputable def L6(F:Fx):V->Option Int->Option Int->Hp->VK->Prop:=λx lo hi H Q=>∃k d,H F.p≠Mu/\Is F.toFb H x d/\(GP lo hi d).run k (qE F.toFb H k Q) F.E
theorem Kg(hK:X.K=F.K):JU X (L6 F):=by
 intro j s P H x v S R lo hi U Q I B w pl pu h;obtain⟨k,d,l,i,q⟩:=h;cases d with
 |tup E=>
  simp only[Is]at i;obtain⟨a,c,rfl,A,g⟩:=i;cases B;obtain⟨m,r,C,J⟩:=I.tuple (by rw[hK];exact A.2);have f:m.toArray.size=c.length:=by rw[MJ];exact r.length.symm
  refine⟨"tuple",_,PyProof.Rows.slot_tuple_getitem.lookup,C.typeIs,?_⟩;by_cases hw:HT.bR c.length 0 lo=0/\HT.bR c.length c.length hi=c.length
  .refine HT.ie C w pl pu (by rw[f];exact hw) ⟨.ref a,H,I,rfl,q _ H .refl ?_⟩;simp only[Is];refine⟨a,c,rfl,A,?_⟩;have e:cutD E lo hi=E:=by
    unfold cutD;rw[<-g.length,hw.1,hw.2,g.length];simp
   rw[e];exact g
  .refine HT.hV C w pl pu (by rw[f];exact hw) ?_ (by rw[f];exact J);rw[f];have N:=I.aV.fresh (MO _);refine⟨.ref s.heap.objs.size,_,I.laid (t':=s.toks) (o:=.tup (nH c lo hi)) (λb ob q=>My _ q) (MO _) ?_,rfl,q _ _ (.new N) (gG (k:=k) l N (g.cut lo hi))⟩;exact⟨Nv (jr c lo hi) J,_,(r.drop (HT.bR c.length 0 lo)).take (HT.bR c.length c.length hi-HT.bR c.length 0 lo),Ud _ _⟩|lst E=>
  simp only[Is]at i;obtain⟨a,c,rfl,A,g⟩:=i;obtain⟨T,id,Z,ty,Y⟩:=sO j s P H (.ref a) v S R lo hi U (λv G=>∃a c,v=.ref a/\G a=Mq (.lst c)/\∀o,Q v (upd G a (.cv o (.lst c)))) I B w pl pu ⟨a,c,rfl,by rw[hK];exact A.2.sq,λp L=>⟨p,_,rfl,aj,λo=>by
   rw[bV];exact q _ _ (.new L) (bE (k:=k) l L (g.cut lo hi))⟩⟩;refine⟨T,id,Z,ty,a_ Y λu s1⟨v,G,O,r,a,c,e,ha,V⟩=>?_⟩;obtain⟨_,m,n,rv,W⟩:=O.aV a _ ha;exact⟨v,_,O.freeze ha W (λ_ z=>nomatch z) (λ_ _ z=>nomatch z) (λ_ z=>nomatch z) (λ_ z=>nomatch z),r,V _⟩|str y=>
  simp only[Is]at i;subst i;obtain⟨t,rfl⟩:=B;exact⟨"str",_,PySem.F.slot_str_getitem.lookup,UD _ _ _,zR w pl pu q.1 λt' k'=>⟨.str _,H,I.tok _,⟨_,rfl⟩,q.2 _ H .refl (by simp only[Is])⟩⟩|_=>exact q.elim
theorem wW(b:DE X F e te)(j:DO X F lo tl)(hu:DO X F hi th):DE X F (.Subscript e (.Slice lo hi Mu p2) pos) (λρ=>do let d<-te ρ;let l<-tl ρ;let u<-th ρ;GP l u d):=⟨b.hK,(oU (Kg b.hK) b.pe j.po hu.po).imp λt H Q a=>by
  obtain⟨ρ,k,S,h⟩:=a;refine cL.next S h λd x v B p s i o=>?_;refine GO.next s o λl w A f r n=>?_;refine GO.next r n λu g y c q m=>?_;exact⟨g,d,q.live,i.mono (f.trans c).kp,M.wk m λ_ _ z=>z.ext ((p.trans f).trans c)⟩⟩
noncomputable def GQ:D->D->M D
 |.int i,.int j=>pure (.int (i+j))|.tup b,.tup a=>do M.need (b.length+a.length<=MA);pure (.tup (b++a))|.lst b,.lst a=>do M.need (b.length+a.length<=MA);pure (.lst (b++a))|_,_=>M.fail
theorem zS:e_ X F (OL .Add) GQ:=⟨λG s σ H k x y v u d e Q I O N l hK E C q=>by cases d with
 |int i=>cases e with
  |int j=>
   simp only[Is]at E C;subst E C;obtain⟨t,rfl⟩:=O;obtain⟨t',rfl⟩:=N;exact add_int ⟨.int (i+j),H,I.tok _,⟨_,rfl⟩,q _ H .refl (by simp only[Is])⟩|_=>exact q.elim
 |tup w=>cases e with
  |tup W=>
   simp only[Is]at E C;obtain⟨a,A,rfl,K,p⟩:=E;obtain⟨L,f,rfl,m,c⟩:=C;cases O;cases N;obtain⟨h,R,Y,_⟩:=I.tuple (by rw[hK];exact K.2);obtain⟨g,B,p2,_⟩:=I.tuple (by rw[hK];exact m.2);by_cases Z:h=[]
   .subst Z;have T:A=[]:=R.sM.mp rfl;subst T;have hd:w=[]:=List.length_eq_zero_iff.mp (by rw[<-p.length];rfl);subst hd;exact HT.wV Y p2 ⟨.ref L,H,I,rfl,q.2 _ H .refl (by simp only[Is];exact⟨L,f,rfl,m,c⟩)⟩
   .have S:A.length+f.length<=MA:=by rw[p.length,c.length];exact q.1
    refine HT.zl Y p2 Z (λz=>?_) (λz=>?_) (by rw[<-R.length,<-B.length];exact S)
    .have T:f=[]:=B.sM.mp z;subst T;have hd:W=[]:=List.length_eq_zero_iff.mp (by rw[<-c.length];rfl);subst hd;exact⟨.ref a,H,I,rfl,q.2 _ H .refl (by simp only[Is];exact⟨a,A,rfl,K,by rw[M1];exact p⟩)⟩
    .have hf:=I.aV.fresh (MO _);refine⟨.ref s.heap.objs.size,_,I.laid (t':=s.toks) (o:=.tup (A++f)) (λb ob q=>My _ q) (MO _) ?_,rfl,q.2 _ _ (.new hf) (gG (k:=k) l hf (p.append c))⟩;exact⟨by rw[Nh];exact S,_,R.append B,Ud _ _⟩|_=>exact q.elim
 |lst w=>cases e with
  |lst W=>
   simp only[Is]at E C;obtain⟨a,A,rfl,K,p⟩:=E;obtain⟨L,f,rfl,m,c⟩:=C;cases O;cases N;obtain⟨o,U⟩:=K.2;obtain⟨o',J⟩:=m.2;obtain⟨_,z,h,n,r,e⟩:=I.aV a _ U;obtain⟨_,z2,g,n2,B,e2⟩:=I.aV L _ J;have l1:=r.length;have l2:=B.length;have S:A.length+f.length<=MA:=by rw[p.length,c.length];exact q.1
   refine a_ (PySem.P.add_list e e2 (Q:=EP X G σ λv V=>∃a w,v=.ref a/\V a=Mq (.lst w)/\∀o,Q v (upd V a (.cv o (.lst w)))) ?_ (by rw[MJ,MJ];omega)) λu s1⟨v,V,I1,r,a,w,e,ha,q1⟩=>?_
   .have ea:h.toArray++g.toArray=(h++g).toArray:=by simp
    rw[ea];refine⟨.ref _,_,I.JZ (t':=s.toks) (r.append B) (by rw[Nh];omega),rfl,_,_,rfl,aj,λo=>?_⟩;rw[bV];exact q.2 _ _ (.new I.fresh) (bE (k:=k) l I.fresh (p.append c))
   .obtain⟨_,h,n,rv,ho⟩:=I1.aV a _ ha;exact⟨v,_,I1.freeze ha ho (λ_ z=>nomatch z) (λ_ _ z=>nomatch z) (λ_ z=>nomatch z) (λ_ z=>nomatch z),r,q1 _⟩|_=>exact q.elim
 |_=>exact q.elim⟩
noncomputable def GR:D->D->M D
 |.int i,.int j=>pure (.int (i-j))|_,_=>M.fail
theorem zT:e_ X F (OL .Sub) GR:=⟨λa s h H k x y v u d e Q I g f l hK c b q=>by cases d with
 |int i=>cases e with
  |int j=>
   simp only[Is]at c b;subst c b;obtain⟨t,rfl⟩:=g;obtain⟨m,rfl⟩:=f;exact sub_int ⟨.int (i-j),H,I.tok _,⟨_,rfl⟩,q _ H .refl (by simp only[Is])⟩|_=>exact q.elim
 |_=>exact q.elim⟩
theorem DP(f:DE X F e te):DE X F (.UnaryOp .USub e pos) (λρ=>do let i<-e9 (<-te ρ);pure (.int (-i))):=⟨f.hK,(Ga CA f.pe).imp λl H Q a=>by
  obtain⟨ρ,k,S,h⟩:=a;refine cL.next S h λd m v j g n c b=>?_;obtain⟨i,rfl,b⟩:=aN.mp b;simp only[Is]at c;exact⟨i,c,b _ j g (by simp only[Is])⟩⟩
end
end L2
end
section
namespace ZP
open PySem PyProof.Rows
inductive kI(h:M7)(i a:MB)(k:Nat)(xs:Array Mt):Prop where|list(p:h.IsListIter i a k)(q:h.IsList a xs)|tup(p:h.IsTupleIter i a k)(q:h.IsTuple a xs)
theorem kI.keep{h h':M7}{i a:MB}{k:Nat}{xs:Array Mt}(x:kI h i a k xs)(f:∀o,h.get? i=Mq o->h'.get? i=Mq o)(ha:∀o,h.get? a=Mq o->h'.get? a=Mq o):kI h' i a k xs:=by cases x with
 |list p q=>
  obtain⟨o,e,r⟩:=p;obtain⟨b,d,c⟩:=q;exact .list ⟨o,f o e,r⟩ ⟨b,ha b d,c⟩|tup p q=>
  obtain⟨o,e,r⟩:=p;obtain⟨b,d,c⟩:=q;exact .tup ⟨o,f o e,r⟩ ⟨b,ha b d,c⟩
theorem kI.ext{h h':M7}{i a b:MB}{k:Nat}{xs:Array Mt}(x:kI h i a k xs)(e:QZ b h h')(n1:i≠b)(n2:a≠b):kI h' i a k xs:=x.keep (λo q=>e i o n1 q) (λo q=>e a o n2 q)
theorem kI.lt{h:M7}{i a:MB}{k:Nat}{xs:Array Mt}(x:kI h i a k xs):i<h.objs.size/\a<h.objs.size:=by cases x with
 |list p q=>
  obtain⟨o,e,r⟩:=p;obtain⟨d,b,c⟩:=q;exact⟨MM e,MM b⟩|tup p q=>
  obtain⟨o,e,r⟩:=p;obtain⟨d,b,c⟩:=q;exact⟨MM e,MM b⟩
section
variable{prog:MQ}{w:M6}{A:Nf}{E:Mt->Mz->Prop}{s:Mz}
theorem wX{it t:MB}{i:Nat}{xs:Array Mt}{x:Mt}{Q:Mt->Mz->Prop}(hit:s.heap.IsTupleIter it t i)(g:s.heap.IsTuple t xs)(f:xs[i]?=Mq x)(h:∀h',h'.IsTupleIter it t (i+1)->N1 it s.heap h'->Q x {s with heap:=h'}):wpAny (ML prog w) A (M2 (.ref it)) Q E s:=by
 obtain⟨o,a,d,hd⟩:=id hit;obtain⟨j,b,_,nl,c⟩:=g;have e:s.TypeIs (.ref it) "tuple_iterator":=⟨o,a,d⟩;unfold M2;refine Ms (Nm (name:=Mr "__next__") e Oj (Nr Oj e Qn ?_ (Qg _)));show wpAny _ _ (SI (.ref it) 0>>=_) _ _ s;refine Ms (Nw a hd (x:=.ref t) rfl ?_);show wpAny _ _ (if(M8 t==NV)=Mv then _ else _) _ _ s;rw[if_neg (show¬((M8 t==NV)=Mv)from Nu)];show wpAny _ _ (SI (.ref it) 1>>=_) _ _ s;refine Ms (Nw a hd (x:=.int i 0) rfl ?_);show wpAny _ _ (Rj (.ref t)>>=_) _ _ s;refine Ms (Np b c ?_);simp only[O7,f];refine Ms (Rr a hd (by simp) (Mx ⟨x,rfl,Mx (h _ ?_ (OM ..))⟩));exact⟨_,OV _ a (SV (Qf hd _)),(T8 ..).trans d,by rw[Qf hd];simp[Qo]⟩
theorem zU{it t:MB}{i:Nat}{xs:Array Mt}{Q:Mt->Mz->Prop}(f:A.handled=Mu)(hit:s.heap.IsTupleIter it t i)(j:s.heap.IsTuple t xs)(h:xs[i]?=Mu)(l:∀h' e,QZ it s.heap h'->(∃o,h'.get? e=Mq o/\o.cls=.type "StopIteration")->E (.ref e) {s with heap:=h'}):wpAny (ML prog w) A (M2 (.ref it)) Q E s:=by
 obtain⟨o,b,k,hd⟩:=id hit;obtain⟨n,c,_,nl,d⟩:=j;have g:s.TypeIs (.ref it) "tuple_iterator":=⟨o,b,k⟩;unfold M2;refine Ms (Nm (name:=Mr "__next__") g Oj (Nr Oj g Qn ?_ (Qg _)));show wpAny _ _ (SI (.ref it) 0>>=_) _ _ s;refine Ms (Nw b hd (x:=.ref t) rfl ?_);show wpAny _ _ (if(M8 t==NV)=Mv then _ else _) _ _ s;rw[if_neg (show¬((M8 t==NV)=Mv)from Nu)];show wpAny _ _ (SI (.ref it) 1>>=_) _ _ s;refine Ms (Nw b hd (x:=.int i 0) rfl ?_);show wpAny _ _ (Rj (.ref t)>>=_) _ _ s;refine Ms (Np c d ?_);simp only[O7,h];refine Ms (OF (Ms (Rr b hd (by simp) ?_)));show wpAny _ _ (newExc (.type "StopIteration") []>>=_) _ _ _;refine Ms ?_;simp only[newExc,newTuple];refine Ms (Nl ?_ (by size_fits));refine Ms (m:=Rt _ _) (Ul (a:=NV) (by first|rfl|(simp only[Rt];rfl)) ?_);refine Nl ?_ (by size_fits);simp only[raiseNew];refine Ms (wpAny_handled ?_);first|rw[show A.in1.handled=Mu from f]|rw[f]
 refine Ms (Mx (wpAny_throw ?_));exact l _ _ (((OM ..).extBut.push _).push _) ⟨_,MK _ rfl,rfl⟩
theorem d5{i a:MB}{k:Nat}{xs:Array Mt}{x:Mt}{Q:Mt->Mz->Prop}(c:a≠i)(hit:kI s.heap i a k xs)(e:xs[k]?=Mq x)(f:∀h',kI h' i a (k+1) xs->N1 i s.heap h'->Q x {s with heap:=h'}):wpAny (ML prog w) A (M2 (.ref i)) Q E s:=by cases hit with
 |list p q=>exact wpAny_nextOf_list_item p q e λh' d b=>f h' (.list d (q.extBut b.extBut c)) b|tup p q=>exact wX p q e λh' d b=>f h' (.tup d (q.extBut b.extBut c)) b
theorem jR{i a:MB}{k:Nat}{xs:Array Mt}{Q:Mt->Mz->Prop}(c:A.handled=Mu)(hit:kI s.heap i a k xs)(b:xs[k]?=Mu)(d:∀h' e,QZ i s.heap h'->(∃o,h'.get? e=Mq o/\o.cls=.type "StopIteration")->E (.ref e) {s with heap:=h'}):wpAny (ML prog w) A (M2 (.ref i)) Q E s:=by cases hit with
 |list p q=>exact wpAny_nextOf_list_end c p q b d|tup p q=>exact zU c p q b d
structure zV(h:M7)(z TI TO i1 i2 a1 a2:MB)(k:Nat)(xs ys:Array Mt)(f0:Mt):Prop where
 zp:Um h z TI TO f0
 ti:P4 h TI (.ref i1) (.ref i2)to:∃a b,P4 h TO a b
 s1:kI h i1 a1 k xs
 s2:kI h i2 a2 k ys
theorem wY{z TI TO g f a1 r:MB}{k:Nat}{xs ys:Array Mt}{x y:Mt}{Q:Mt->Mz->Prop}(D:P_ z TI TO g f a1 r)(Z:zV s.heap z TI TO g f a1 r k xs ys .none)(hx:xs[k]?=Mq x)(hy:ys[k]?=Mq y)(hQ:∀h',zV h' z TI TO g f a1 r (k+1) xs ys (Qo s.heap.objs.size)->P4 h' s.heap.objs.size x y->h'.objs.size=s.heap.objs.size+1->(∀c o,c≠z->c≠TO->c≠g->c≠f->s.heap.get? c=Mq o->h'.get? c=Mq o)->Q (.ref s.heap.objs.size) {s with heap:=h'}):wpAny (ML prog w) A (Builtin.«zip.__next__» ⟨[.ref z],[]⟩) (λL Y=>∃v,L=.done (.ret v)/\Q v Y) E s:=by
 obtain⟨n,p,⟨a,b,K⟩,h1,h2⟩:=Z;show wpAny _ _ (SI (.ref z) 2>>=_) _ _ _;refine Ms (Nw n rfl (x:=.bool Mw) rfl ?_);show wpAny _ _ (SI (.ref z) 3>>=_) _ _ _;refine Ms (Nw n rfl (x:=.ref TI) rfl ?_);refine Ms (Np p rfl ?_);show wpAny _ _ (Nc (.ref z)>>=_) _ _ _;refine Ms ?_;unfold Nc;refine Ms (Nw n rfl (x:=.none) rfl (Mx ?_));simp only[if_true];refine Ms (OF ?_);refine Ms (Nw n rfl (x:=.ref TO) rfl ?_);refine Ms (Ow n (by simp) λg1 F m1=>?_);replace F:Um g1 z TI TO .ellipsis:=F;refine Ms ?_;simp only[R3,List.zipIdx_nil,Px,Pf];refine Ms (Ms (RN ?_));show wpAny _ _ (M2 (.ref g)>>=_) _ _ _;refine Ms (d5 D.l1i1 (h1.ext m1.extBut D.i1z D.l1z) hx λg2 p2 m2=>Mx ?_);have P:P4 g2 TO a b:=m2.extBut _ _ D.TOi1 (m1.extBut _ _ D.TOz K);refine Ms (Np P rfl ?_);refine Ms (Q1 P λU H l=>?_);replace H:P4 U TO x b:=H;refine Ms (Qm (Mx ?_));refine Ms (Ms (RN ?_));show wpAny _ _ (M2 (.ref f)>>=_) _ _ _;have q3:kI U f r k ys:=((h2.ext m1.extBut D.i2z D.l2z).ext m2.extBut D.i12.symm D.l2i1).ext l.extBut D.TOi2.symm D.l2TO;refine Ms (d5 D.l2i2 q3 hy λg4 p4 j=>Mx ?_);have O:P4 g4 TO x b:=j.extBut _ _ D.TOi2 H;refine Ms (Np O rfl ?_);refine Ms (Q1 O λd u i=>?_);replace u:P4 d TO x y:=u;refine Ms (Qm (Mx (Mx ?_)));refine Ms (Np u rfl ?_);refine Ms (Td ?_);have n5:d.objs.size=s.heap.objs.size:=by rw[i.1,j.1,l.1,m2.1,m1.1]
 have N:Um d z TI TO .ellipsis:=i.extBut _ _ D.TOz.symm (j.extBut _ _ D.i2z.symm (l.extBut _ _ D.TOz.symm (m2.extBut _ _ D.i1z.symm F)));have T:∀c o,c≠z->c≠TO->c≠g->c≠f->s.heap.get? c=Mq o->d.get? c=Mq o:=λc o h B c3 M e=>i.extBut _ _ B (j.extBut _ _ M (l.extBut _ _ B (m2.extBut _ _ c3 (m1.extBut _ _ h e))));have X:kI d g a1 (k+1) xs:=((p2.ext l.extBut D.TOi1.symm D.l1TO).ext j.extBut D.i12 D.l1i2).ext i.extBut D.TOi1.symm D.l1TO;have W:kI d f r (k+1) ys:=p4.ext i.extBut D.TOi2.symm D.l2TO;have G:P4 d TI (.ref g) (.ref f):=T _ _ D.TIz D.TITO D.TIi1 D.TIi2 p;have m:z<d.objs.size:=MM N;show wpAny _ _ (P5 (.ref z) (.ref d.objs.size)>>=_) _ _ _;refine Ms ?_;unfold P5;have V:Um (d.push {cls:=.type "tuple",data:=.seq #[x,y]}) z TI TO .ellipsis:=My _ N;refine Ms (Ow V (by simp) λg7 C J=>?_);replace C:Um g7 z TI TO (Qo d.objs.size):=C;refine Ow C (by simp) λq t I=>?_;replace t:Um q z TI TO (Qo d.objs.size):=t;have up:∀c o,c≠z->d.get? c=Mq o->q.get? c=Mq o:=λc o h e=>I.extBut _ _ h (J.extBut _ _ h (My _ e));have R:P4 q d.objs.size x y:=I.extBut _ _ (Oy m) (J.extBut _ _ (Oy m) (MK _ rfl));have S:q.objs.size=d.objs.size+1:=by rw[I.1,J.1,NN]
 rw[n5]at t R S;refine Mx ⟨_,rfl,?_⟩;show Q (.ref d.objs.size) _;rw[n5];exact hQ q ⟨t,up _ _ D.TIz G,⟨_,_,up _ _ D.TOz u⟩,X.keep (λo e=>up _ o D.i1z e) (λo e=>up _ o D.l1z e),W.keep (λo e=>up _ o D.i2z e) (λo e=>up _ o D.l2z e)⟩ R S λc o h B c3 M e=>up c o h (T c o h B c3 M e)
theorem zW{z TI TO q j a1 F:MB}{k:Nat}{xs ys:Array Mt}{Q:Fin->Mz->Prop}(L:A.handled=Mu)(D:P_ z TI TO q j a1 F)(Z:zV s.heap z TI TO q j a1 F k xs ys .none)(m:xs[k]?=Mu\/ys[k]?=Mu)(M:∀h' e,(∀c o,c≠z->c≠TO->c≠q->c≠j->s.heap.get? c=Mq o->h'.get? c=Mq o)->(∃o,h'.get? e=Mq o/\o.cls=.type "StopIteration")->E (.ref e) {s with heap:=h'}):wpAny (ML prog w) A (Builtin.«zip.__next__» ⟨[.ref z],[]⟩) Q E s:=by
 obtain⟨l,y,⟨a,b,v⟩,N,R⟩:=Z;show wpAny _ _ (SI (.ref z) 2>>=_) _ _ _;refine Ms (Nw l rfl (x:=.bool Mw) rfl ?_);show wpAny _ _ (SI (.ref z) 3>>=_) _ _ _;refine Ms (Nw l rfl (x:=.ref TI) rfl ?_);refine Ms (Np y rfl ?_);show wpAny _ _ (Nc (.ref z)>>=_) _ _ _;refine Ms ?_;unfold Nc;refine Ms (Nw l rfl (x:=.none) rfl (Mx ?_));simp only[if_true];refine Ms (OF ?_);refine Ms (Nw l rfl (x:=.ref TO) rfl ?_);refine Ms (Ow l (by simp) λU p m1=>?_);replace p:Um U z TI TO .ellipsis:=p;refine Ms ?_;simp only[R3,List.zipIdx_nil,Px,Pf];refine Ms (Ms (RN ?_));show wpAny _ _ (M2 (.ref q)>>=_) _ _ _;cases t:xs[k]? with
 |none=>
  refine Ms (jR L (N.ext m1.extBut D.i1z D.l1z) t λC e m2 u=>?_);obtain⟨r,d,f⟩:=u;have H:Um C z TI TO .ellipsis:=m2 _ _ D.i1z.symm p;have g:e≠z:=λx=>by subst x;rw[H]at d;cases d;simp at f
  exact Ow H (by simp) λB _ i=>M B e (λc o n _ c3 _ x=>i.extBut _ _ n (m2 _ _ c3 (m1.extBut _ _ n x))) ⟨r,i.extBut _ _ g d,f⟩|some x=>
  have P:ys[k]?=Mu:=by rcases m with h|h;rw[t]at h;cases h;exact h
  refine Ms (d5 D.l1i1 (N.ext m1.extBut D.i1z D.l1z) t λC Y m2=>Mx ?_);have I:P4 C TO a b:=m2.extBut _ _ D.TOi1 (m1.extBut _ _ D.TOz v);refine Ms (Np I rfl ?_);refine Ms (Q1 I λB X i=>?_);refine Ms (Qm (Mx ?_));refine Ms (Ms (RN ?_));show wpAny _ _ (M2 (.ref j)>>=_) _ _ _;have O:kI B j F k ys:=((R.ext m1.extBut D.i2z D.l2z).ext m2.extBut D.i12.symm D.l2i1).ext i.extBut D.TOi2.symm D.l2TO;refine Ms (jR L O P λT e K u=>?_);obtain⟨r,d,f⟩:=u;have G:Um T z TI TO .ellipsis:=K _ _ D.i2z.symm (i.extBut _ _ D.TOz.symm (m2.extBut _ _ D.i1z.symm p));have g:e≠z:=λx=>by subst x;rw[G]at d;cases d;simp at f
  exact Ow G (by simp) λS _ J=>M S e (λc o n W c3 V x=>J.extBut _ _ n (K _ _ V (i.extBut _ _ W (m2.extBut _ _ c3 (m1.extBut _ _ n x))))) ⟨r,J.extBut _ _ g d,f⟩
theorem jH{z TI TO b a a1 d:MB}{k:Nat}{xs ys:Array Mt}{x y:Mt}{Q:Option Mt->Mz->Prop}(D:P_ z TI TO b a a1 d)(Z:zV s.heap z TI TO b a a1 d k xs ys .none)(g:xs[k]?=Mq x)(f:ys[k]?=Mq y)(h:∀h',zV h' z TI TO b a a1 d (k+1) xs ys (Qo s.heap.objs.size)->P4 h' s.heap.objs.size x y->h'.objs.size=s.heap.objs.size+1->(∀c o,c≠z->c≠TO->c≠b->c≠a->s.heap.get? c=Mq o->h'.get? c=Mq o)->Q (Mq (.ref s.heap.objs.size)) {s with heap:=h'}):wpAny (ML prog w) A (OS (.ref z)) Q E s:=by
 have e:s.TypeIs (.ref z) "zip":=⟨_,Z.zp,rfl⟩;unfold OS;exact Ms (PC (Nm (name:=Mr "__next__") e NS (Nr NS e Pn (wY D Z g f λh' l j c3 i=>Mx (h h' l j c3 i)) (Ph _))))
theorem fB{z TI TO f d a1 h:MB}{k:Nat}{xs ys:Array Mt}{Q:Option Mt->Mz->Prop}(l:A.handled=Mu)(D:P_ z TI TO f d a1 h)(Z:zV s.heap z TI TO f d a1 h k xs ys .none)(a:xs[k]?=Mu\/ys[k]?=Mu)(p:∀h',(∀c o,c≠z->c≠TO->c≠f->c≠d->s.heap.get? c=Mq o->h'.get? c=Mq o)->Q Mu {s with heap:=h'}):wpAny (ML prog w) A (OS (.ref z)) Q E s:=by
 have g:s.TypeIs (.ref z) "zip":=⟨_,Z.zp,rfl⟩;unfold OS;refine Ms (PC (Nm (name:=Mr "__next__") g NS (Nr NS g Pn (zW l D Z a λh' e j m=>?_) (Ph _))));obtain⟨o,i,n⟩:=m;exact Ms (Pe (T:="StopIteration") (b:=Mv) ⟨o,i,n⟩ Tb (Mx (p _ j)))
end
noncomputable def kJ(tup:Bool)(a:MB):NI:={cls:=.type (if tup then"tuple_iterator"else"list_iterator"),data:=.fields #[.ref a,.int 0 0]}
inductive Sq(h:M7)(a:MB)(xs:Array Mt):Bool->Prop where|list(q:h.IsList a xs):Sq h a xs Mw|tup(q:h.IsTuple a xs):Sq h a xs Mv
theorem Sq.keep{h h':M7}{a:MB}{xs:Array Mt}{t:Bool}(x:Sq h a xs t)(ha:∀o,h.get? a=Mq o->h'.get? a=Mq o):Sq h' a xs t:=by cases x with
 |list q=>obtain⟨o,e,r⟩:=q;exact .list ⟨o,ha o e,r⟩|tup q=>obtain⟨o,e,r⟩:=q;exact .tup ⟨o,ha o e,r⟩
theorem Sq.lt{h:M7}{a:MB}{xs:Array Mt}{t:Bool}(x:Sq h a xs t):a<h.objs.size:=by cases x with
 |list q=>obtain⟨o,e,r⟩:=q;exact MM e|tup q=>obtain⟨o,e,r⟩:=q;exact MM e
theorem Sq.Ly{h:M7}{a i:MB}{xs:Array Mt}{t:Bool}(x:Sq h a xs t)(e:h.get? i=Mq (kJ t a)):kI h i a 0 xs:=by cases x with
 |list q=>exact .list ⟨_,e,rfl,rfl⟩ q|tup q=>exact .tup ⟨_,e,rfl,rfl⟩ q
theorem mG{prog:MQ}{w:M6}{A:Nf}{E:Mt->Mz->Prop}{s:Mz}{a:MB}{xs:Array Mt}{t:Bool}{Q:Mt->Mz->Prop}(x:Sq s.heap a xs t)(h:Q (.ref s.heap.objs.size) {s with heap:=s.heap.push (kJ t a)}):wpAny (ML prog w) A (Ue (.ref a)) Q E s:=by cases x with
 |list q=>exact PK q h|tup q=>exact TN q h
noncomputable abbrev Jf(h:M7)(a:Bool)(a1:MB):M7:=h.push (kJ a a1)
noncomputable abbrev Jg(h:M7)(b a:Bool)(a1 c:MB):M7:=(Jf h b a1).push (kJ a c)
noncomputable abbrev Jh(h:M7)(a b:Bool)(a1 c:MB):M7:=(Jg h a b a1 c).push {cls:=.type "tuple",data:=.seq #[.ref h.objs.size,.ref (Jf h a a1).objs.size]}
noncomputable abbrev Ji(h:M7)(b a:Bool)(a1 c:MB):M7:=(Jh h b a a1 c).push {cls:=.type "tuple",data:=.seq #[.none,.none]}
noncomputable abbrev DQ(h:M7)(b a:Bool)(a1 c:MB):M7:=(Ji h b a a1 c).push {cls:=.type "zip",data:=.fields #[.none,.bool Mw,.bool Mw,.ref (Jg h b a a1 c).objs.size,.ref (Jh h b a a1 c).objs.size]}
theorem zX(a1 b:MB)(xs ys:Array Mt)(a c:Bool):Meets (Builtin.«zip.__new__» ⟨[.type "zip",.ref a1,.ref b],[]⟩) (λ_ R s=>Sq s.heap a1 xs a/\Sq s.heap b ys c/\R (.ok (.ret (.ref (Ji s.heap a c a1 b).objs.size))) {s with heap:=DQ s.heap a c a1 b}):=.of_wp λprog w A R s h=>by
  obtain⟨j,g,d,f,os⟩:=s;obtain⟨n,m,h⟩:=h;have i:=sub_zip;have l:Sq (Shared.heap ⟨j,g,d,f,os⟩) a1 xs a:=n;have k:Sq (Shared.heap ⟨j.push (kJ a a1),g,d,f,os⟩) b ys c:=m.keep λo e=>My _ e;wp_walk using mG l,mG k;exact⟨_,rfl,h⟩
theorem wZ{prog:MQ}{w:M6}{A:Nf}{E:Mt->Mz->Prop}{s:Mz}{a1 a:MB}{xs ys:Array Mt}{d f:Bool}{Q:Mt->Mz->Prop}(p:Sq s.heap a1 xs d)(n:Sq s.heap a ys f)(h:∀h' z TI TO m l,P_ z TI TO m l a1 a->zV h' z TI TO m l a1 a 0 xs ys .none->(∀c o,s.heap.get? c=Mq o->h'.get? c=Mq o)->(∀b∈[z,TI,TO,m,l],s.heap.objs.size<=b)->Q (.ref z) {s with heap:=h'}):wpAny (ML prog w) A (call (.type "zip") [.ref a1,.ref a]) Q E s:=by
 refine callType_new PySem.F.called_zip (by decide) (PySem.F.typeCall_zip_2 _ _) (PySem.F.newCall_zip_2 _ _) (λobj=>PySem.F.args_object_init_3 obj _ _) PySem.F.entry_zip_new (zX a1 a xs ys d f) ⟨p,n,?_⟩;have j:(Jf s.heap d a1).objs.size=s.heap.objs.size+1:=NN ..;have i:(Jg s.heap d f a1 a).objs.size=s.heap.objs.size+2:=by rw[NN,j]
 have g:(Jh s.heap d f a1 a).objs.size=s.heap.objs.size+3:=by rw[NN,i]
 have r:(Ji s.heap d f a1 a).objs.size=s.heap.objs.size+4:=by rw[NN,g]
 have k:∀c o,s.heap.get? c=Mq o->(DQ s.heap d f a1 a).get? c=Mq o:=λc o x=>My _ (My _ (My _ (My _ (My _ x))));have q:(DQ s.heap d f a1 a).get? (Ji s.heap d f a1 a).objs.size=Mq _:=MK _ rfl;have t:(DQ s.heap d f a1 a).get? (Jh s.heap d f a1 a).objs.size=Mq _:=My _ (MK _ rfl);have u:(DQ s.heap d f a1 a).get? (Jg s.heap d f a1 a).objs.size=Mq _:=My _ (My _ (MK _ rfl));have v:(DQ s.heap d f a1 a).get? (Jf s.heap d a1).objs.size=Mq (kJ f a):=My _ (My _ (My _ (MK _ rfl)));have y:(DQ s.heap d f a1 a).get? s.heap.objs.size=Mq (kJ d a1):=My _ (My _ (My _ (My _ (MK _ rfl))));show _/\_;rw[i,g,r]at q;rw[j,i]at u;rw[g]at t;rw[j]at v;rw[r];refine⟨⟨_,q,rfl⟩,h _ _ _ _ _ _ (zipApart_new p.lt n.lt) ⟨q,u,⟨_,_,t⟩,(p.keep λo e=>k _ o e).Ly y,(n.keep λo e=>k _ o e).Ly v⟩ k λb hb=>?_⟩;simp only[NC,Nt,or_false]at hb;rcases hb with rfl|rfl|rfl|rfl|rfl<;>first|exact MO _|exact R4 _ _
end ZP
namespace L2
open PySem PySem.Spec PyProof.Rows ZP
noncomputable def Kh(K:MF)(H:Hp)(a:MB)(xs:List V):Bool->Prop
 |false=>dI K H a xs|true=>iQ K H a xs
section
variable{X:Cx}{pins:List (MB×NI)}{σ:St}{H:Hp}{s:Mz}
theorem Inv.Lz{a:MB}{xs:List V}{t:Bool}(I:Inv X pins σ H s)(h:Kh X.K H a xs t):∃b:List Mt,au xs b/\Sq s.heap a b.toArray t/\xs.length<=MA:=by cases t with
 |false=>obtain⟨b,r,p,z⟩:=I.list h;exact⟨b,r,.list p.isList,z⟩|true=>obtain⟨b,r,p,z⟩:=I.tuple h;exact⟨b,r,.tup p,z⟩
theorem Inv.w4{fp:List MB}{h':M7}{t':Nat}(I:Inv X pins σ H s)(d:∀b∈fp,dY X pins H b)(keep:∀c o,c∉fp->s.heap.get? c=Mq o->h'.get? c=Mq o):Inv X pins σ H {s with heap:=h',toks:=t'}:=I.call (h':=h') (g':=s.gens) (d':=s.drawn) (t':=t') (ch:=fp) (H':=H) ⟨λb o e n hb a=>keep b o a e,λb o e n hb a=>⟨o.slots,keep b o a e⟩,λb o e n a=>n,λb o e a=>⟨o,keep b o a e⟩,λb m e=>e,λb o u e=>e,λb ps e=>⟨#[],by rw[Array.append_empty];exact e⟩⟩ (λb o e=>(I.aV b o e).dg (λc v f q=>keep c v (λh=>by
   have g:=(d c h).1;rcases f with rfl|f;.rw[g]at e;cases e
   .rw[g]at f;cases f) q) (λ_ q=>q) λ_ _ q=>q) I.bare (λb hb=>by
   obtain⟨_,l,p,k,j,i⟩:=d b hb;exact⟨k,l,j,i⟩)
end
noncomputable def l4(xs ys:List D):List D:=List.zipWith (λx y=>D.tup [x,y]) xs ys
end L2
end
section
namespace L2
open PySem PySem.Spec PyProof.Rows ZP
noncomputable def w5(x:D):Prop:=∃k:List NK,x=.tup (k.map nD)
theorem gH{B:Fb}{H:Hp}{v:V}{k:Key}(h:Is B H v (kD k)):v=kV k:=by cases k with
 |inl i=>simp only[kD,Is]at h;exact h|inr x=>simp only[kD,Is]at h;exact h
theorem tq{B:Fb}{H:Hp}:∀{a:List V}{ks:List Key},af B H a (ks.map kD)->a=ks.map kV
 |_,[],h=>by simp only[Oi,af]at h;rw[h];rfl|_,k::ks,h=>by
  simp only[MT,af]at h;obtain⟨x,d,rfl,c,b⟩:=h;rw[gH c,tq b];rfl
theorem GS{B:Fb}{H:Hp}{v:V}{k:NK}(h:Is B H v (nD k)):FD B H v k:=by cases k with
 |inl k=>exact gH h|inr ks=>
  simp only[nD,Is]at h;obtain⟨a,d,rfl,c,b⟩:=h;exact⟨a,rfl,by rw[<-tq b];exact c⟩
theorem w6{B:Fb}{H:Hp}:∀{a:List V}{ks:List NK},af B H a (ks.map nD)->Paired (FD B H) a ks
 |_,[],h=>by simp only[Oi,af]at h;rw[h];exact .nil|_,k::ks,h=>by
  simp only[MT,af]at h;obtain⟨x,d,rfl,c,b⟩:=h;exact .cons (GS c) (w6 b)
theorem key_is{B:Fb}{H:Hp}(k:Key):Is B H (kV k) (kD k):=by cases k<;>simp only[kD,kV,Is]
theorem tu{B:Fb}{H:Hp}:∀(ks:List Key),af B H (ks.map kV) (ks.map kD)
 |[]=>.nil|k::ks=>.cons (key_is k) (tu ks)
theorem GU{B:Fb}{H:Hp}{v:V}{k:NK}(h:FD B H v k):Is B H v (nD k):=by cases k with
 |inl k=>rw[show v=kV k from h];exact key_is k|inr ks=>
  obtain⟨b,rfl,h⟩:=h;simp only[nD,Is];exact⟨b,_,rfl,h,tu ks⟩
theorem w9{B:Fb}{H:Hp}:∀{a:List V}{ks:List NK},Paired (FD B H) a ks->af B H a (ks.map nD)
 |_,_,.nil=>.nil|_,_,.cons h t=>.cons (GU h) (w9 t)
theorem eM.is{B:Fb}{H:Hp}{a:MB}{ks:List NK}(h:eM B H a ks):Is B H (.ref a) (.tup (ks.map nD)):=by
 obtain⟨b,d,c⟩:=h;simp only[Is];exact⟨a,b,rfl,d,w9 c⟩
theorem eM.of{B:Fb}{H:Hp}{v:V}{ks:List NK}(h:Is B H v (.tup (ks.map nD))):∃a,v=.ref a/\eM B H a ks:=by
 simp only[Is]at h;obtain⟨a,b,rfl,d,c⟩:=h;exact⟨a,rfl,b,d,w6 c⟩
theorem rq{X:Cx}{F:Fb}{a:List (MB×NI)}{d:St}{H:Hp}{s:Mz}(I:Inv X a d H s)(hK:X.K=F.K):∀{xs:List V}{us:List Mt}{ks:List NK},au xs us->Paired (FD F H) xs ks->aK X.prog X.w s.heap ks us
 |_,_,_,.nil,.nil=>.nil|_,_,.inl k::_,.cons r c,.cons h t=>by
  have h:_=kV k:=h;subst h;exact .sc (ki r) (rq I hK c t)|_,_,.inr ks::_,.cons r c,.cons h t=>by
  obtain⟨b,rfl,hb⟩:=(show∃b,_=V.ref b/\TupAt F H b (ks.map kV)from h);cases(show _=M8 b from r);exact .tp (CY I (by rw[hK];exact hb.2)) (rq I hK c t)
theorem f7{X:Cx}{F:Fb}{b:List (MB×NI)}{d:St}{H:Hp}{s:Mz}{a:MB}{ks:List NK}(I:Inv X b d H s)(hK:X.K=F.K)(h:eM F H a ks):bJ X.prog X.w s.heap ks a:=by
 obtain⟨e,k,j⟩:=h;obtain⟨c,r,⟨o,i,g,n,f⟩,_⟩:=I.tuple (show iQ X.K H a e by rw[hK];exact k.2);exact⟨o,c.toArray,n,i,g,f,by simpa using rq I hK r j⟩
inductive T(α:Type)where|ok(a:α)|stuck|draw(n:Int)(k:Int->T α)|perm(l:List D)(k:List D->T α)
namespace T
variable{α β:Type}
protected def bind:T α->(α->T β)->T β
 |.ok a,f=>f a|.stuck,_=>.stuck|.draw n k,f=>.draw n λi=>(k i).bind f|.perm l k,f=>.perm l λi=>(k i).bind f
instance:Monad T where
 pure:=T.ok;bind:=T.bind
noncomputable def get:Option α->T α
 |some a=>.ok a|none=>.stuck
noncomputable def need(b:Bool):T Unit:=if b then .ok ()else .stuck
noncomputable def mH(n:Int):M Int:=do
 M.need (0<n/\n<1073741824)M.tick 1;M.any λi=>0<=i/\i<n
noncomputable def aM:T α->M α
 |.ok a=>pure a|.stuck=>M.fail|.draw n k=>do let i<-mH n;(k i).aM|.perm l k=>do let i<-M.any λi=>i.Perm l;(k i).aM
end T
theorem M.ext{b:Type}{m a:M b}(h:∀k Q E,m.run k Q E=a.run k Q E):m=a:=by
 obtain⟨r,p⟩:=m;obtain⟨c,d⟩:=a;have:r=c:=by funext k Q E;exact h k Q E
 subst this;rfl
theorem M.bind_assoc{c b d:Type}(m:M c)(f:c->M b)(g:b->M d):(m>>=f)>>=g=m>>=λa=>f a>>=g:=M.ext λ_ _ _=>rfl
namespace T
variable{α β:Type}
theorem cF(t:T α)(f:α->T β):(t>>=f).aM=t.aM>>=λa=>(f a).aM:=by
 show(T.bind t f).aM=_;induction t with
 |ok a=>rfl|stuck=>rfl|draw n k b=>
  show(mH n>>=λi=>((k i).bind f).aM)=(mH n>>=λi=>(k i).aM)>>=_;rw[M.bind_assoc];congr 1;funext i;exact b i|perm l k b=>
  show((M.any λi=>i.Perm l)>>=λi=>((k i).bind f).aM)=((M.any λi=>i.Perm l)>>=λi=>(k i).aM)>>=_;rw[M.bind_assoc];congr 1;funext i;exact b i
theorem ig:∀(t:T α){k Q E}(c:Xc->Nat->Prop),t.aM.run k Q E->t.aM.run k Q c
 |.ok a,_,_,_,_,h=>h|.stuck,_,_,_,_,h=>h.elim|.draw n f,k,Q,E,c,h=>by
  have h:(T.mH n).run k (λi d=>(f i).aM.run d Q E) E:=h;show(T.mH n).run k (λi d=>(f i).aM.run d Q c) c;obtain⟨j,g,e⟩:=h;exact⟨j,g,λd a b i p=>ig (f i) c (e d a b i p)⟩|.perm l f,k,Q,E,c,h=>λi p=>ig (f i) c (h i p)
theorem rz:∀(t:T α){k:Nat}{E:Xc->Nat->Prop},t.aM.run k (λ_ _=>False) E->False
 |.ok a,_,_,h=>h|.stuck,_,_,h=>h|.draw n f,k,E,h=>by
  have h:(T.mH n).run k (λi b=>(f i).aM.run b (λ_ _=>False) E) E:=h;obtain⟨d,e,c⟩:=h;exact rz (f 0) (c k (MO _) (Qk _) 0 ⟨Q3 _,d.1⟩)|.perm l f,k,E,h=>rz (f l) (h l (.refl l))
theorem zY(o:Option α):(T.get o).aM=M.get o:=by cases o<;>rfl
end T
noncomputable def Ref{a:Type}(t m:M a):Prop:=∀k Q E,t.run k Q E->m.run k Q E
theorem Ref.refl{a:Type}(m:M a):Ref m m:=λ_ _ _ h=>h
theorem Ref.of_eq{a:Type}{t m:M a}(h:t=m):Ref t m:=h▸.refl _
theorem Ref.bind{b c:Type}{t m:M b}{f g:b->M c}(h:Ref t m)(q:∀a,Ref (f a) (g a)):Ref (t>>=f) (m>>=g):=λk Q E z=>by
 refine h k _ E ?_;exact t.mono z (λa d y=>q a d Q E y) λ_ _ y=>y
theorem Ref.fail{a:Type}{m:M a}:Ref M.fail m:=λ_ _ _ h=>h.elim
theorem Ref.need{b:Bool}{P:Prop}(h:b=Mv->P):Ref (T.need b).aM (M.need P):=λk Q E z=>by
 unfold T.need at z;split at z;.rename_i hb;exact⟨h hb,z⟩
 .exact z.elim
theorem Ref.get{a:Type}{o:Option a}:Ref (T.get o).aM (M.get o):=.of_eq (T.zY o)
section
variable{X:Cx}{F:Fx}{e:MP}{es:List MP}{st:Ou}{sts:List Ou}
theorem DE.ref{t m:ag->M D}(h:DE X F e m)(r:∀ρ,Ref (t ρ) (m ρ)):DE X F e t:=⟨h.hK,h.pe.imp λa H Q⟨ρ,k,S,z⟩=>⟨ρ,k,S,r ρ _ _ _ z⟩⟩
theorem DT.ref{t m:ag->M Bool}(h:DT X F e m)(r:∀ρ,Ref (t ρ) (m ρ)):DT X F e t:=⟨h.hK,h.pt.imp λa H Q⟨ρ,k,S,z⟩=>⟨ρ,k,S,r ρ _ _ _ z⟩⟩
theorem vH.ref{t m:ag->M Bool}(h:vH X F e m)(r:∀ρ,Ref (t ρ) (m ρ)):vH X F e t:=⟨h.hK,h.pw.imp λa H Q⟨ρ,k,S,z⟩=>⟨ρ,k,S,r ρ _ _ _ z⟩⟩
theorem DA.ref{t m:ag->M (List A)}(h:DA X F es m)(r:∀ρ,Ref (t ρ) (m ρ)):DA X F es t:=⟨h.hK,h.pa.imp λa H Q⟨ρ,k,S,z⟩=>⟨ρ,k,S,r ρ _ _ _ z⟩⟩
theorem DS.ref{t m:ag->M Fl}(h:DS X F st m)(r:∀ρ,Ref (t ρ) (m ρ)):DS X F st t:=⟨h.hK,h.ps.imp λZ a H⟨ρ,k,S,z⟩=>⟨ρ,k,S,r ρ _ _ _ z⟩⟩
theorem vG.ref{t m:ag->M Fl}(h:vG X F sts m)(r:∀ρ,Ref (t ρ) (m ρ)):vG X F sts t:=⟨h.hK,h.ps.imp λZ a H⟨ρ,k,S,z⟩=>⟨ρ,k,S,r ρ _ _ _ z⟩⟩
theorem DG.ref{tg:MP}{t m:D->ag->M ag}(h:DG X F tg m)(r:∀d ρ,Ref (t d ρ) (m d ρ)):DG X F tg t:=⟨h.hK,h.pg.imp λv a H Q⟨ρ,k,d,S,i,z⟩=>⟨ρ,k,d,S,i,r d ρ _ _ _ z⟩⟩
theorem zJ.ref{a:List MP}{t m:List D->ag->M ag}(h:zJ X F a m)(r:∀d ρ,Ref (t d ρ) (m d ρ)):zJ X F a t:=⟨h.hK,h.pg.imp λv b H Q⟨ρ,k,d,S,i,z⟩=>⟨ρ,k,d,S,i,r d ρ _ _ _ z⟩⟩
theorem DI.ref{tg iter:MP}{t m:ag->M (List D)}(h:DI X F tg iter m)(r:∀ρ,Ref (t ρ) (m ρ)):DI X F tg iter t:=⟨h.hK,h.pi.imp λa H R⟨ρ,k,S,z⟩=>⟨ρ,k,S,r ρ _ _ _ z⟩⟩
theorem pk.ref{ifs:List MP}{t m:ag->M Bool}(h:pk X F ifs m)(r:∀ρ,Ref (t ρ) (m ρ)):pk X F ifs t:=⟨h.hK,λa s b H Q I⟨ρ,k,S,z⟩=>h.pi a s b H Q I ⟨ρ,k,S,r ρ _ _ _ z⟩⟩
theorem DE.stuck(hK:X.K=F.K):DE X F e (λ_=>M.fail):=⟨hK,λa s b H Q I⟨c,k,S,z⟩=>z.elim⟩
theorem DT.stuck(hK:X.K=F.K):DT X F e (λ_=>M.fail):=⟨hK,λa s b H Q I⟨c,k,S,z⟩=>z.elim⟩
theorem DS.stuck(hK:X.K=F.K):DS X F st (λ_=>M.fail):=⟨hK,λa s b H Q I⟨c,k,S,z⟩=>z.elim⟩
theorem DI.stuck{tg iter:MP}(hK:X.K=F.K):DI X F tg iter (λ_=>M.fail):=⟨hK,λa s b H R I⟨c,k,S,z⟩=>z.elim⟩
theorem e_.ref{f:Mt->Mt->Rw Mt}{t:D->D->M D}(h:∀d e,∃m,e_ X F f m/\Ref (t d e) (m d e)):e_ X F f t:=⟨λa s b H k x y v u d e Q I g c l hK j i q=>by
 obtain⟨m,o,r⟩:=h d e;exact o.op a s b H k x y v u d e Q I g c l hK j i (r _ _ _ q)⟩
theorem bB.ref{f:Mt}{t:List D->M D}(h:∀ds,∃m,bB X F f m/\Ref (t ds) (m ds)):bB X F f t:=⟨λa s b H k c d ds Q I g l hK i q=>by
 obtain⟨m,o,r⟩:=h ds;exact o.call a s b H k c d ds Q I g l hK i (r _ _ _ q)⟩
end
noncomputable def GV:D->Bool
 |.int _=>Mv|_=>Mw
noncomputable def BE:D->Bool
 |.int _=>Mv|.str _=>Mv|_=>Mw
noncomputable def DR:D->Bool
 |.tup a=>a.all BE|d=>BE d
noncomputable def zZ:D->Bool
 |.tup a=>a.all DR|_=>Mw
noncomputable def jv:D->D->Bool
 |.int i,.int j=>decide (i=j)|.str x,.str y=>decide (x=y)|_,_=>Mw
noncomputable def fC:List D->List D->Bool
 |[],[]=>Mv|x::b,y::a=>jv x y&&fC b a|_,_=>Mw
noncomputable def w_:D->D->Bool
 |.tup b,.tup a=>fC b a|x,y=>jv x y
noncomputable def jw:List D->List D->Bool
 |[],[]=>Mv|x::b,y::a=>w_ x y&&jw b a|_,_=>Mw
noncomputable def fc:D->D->Bool
 |.tup b,.tup a=>jw b a|x,y=>jv x y
noncomputable def z_(x:D):Prop:=∃k:Key,x=kD k
theorem jS{x:D}(h:BE x=Mv):∃k:Key,x=kD k:=by cases x<;>first|exact⟨.inl _,rfl⟩|exact⟨.inr _,rfl⟩|cases h
theorem mJ:∀{xs:List D},xs.all BE=Mv->∃ks:List Key,xs=ks.map kD
 |[],_=>⟨[],rfl⟩|x::xs,h=>by
  rw[PD,MG]at h;obtain⟨k,rfl⟩:=jS h.1;obtain⟨ks,rfl⟩:=mJ h.2;exact⟨k::ks,rfl⟩
theorem xa{x:D}(h:DR x=Mv):∃k:NK,x=nD k:=by
 by_cases b:∃a,x=.tup a
 .obtain⟨a,rfl⟩:=b;obtain⟨ks,rfl⟩:=mJ h;exact⟨.inr ks,rfl⟩
 .have h:BE x=Mv:=by cases x<;>first|exact h|exact absurd ⟨_,rfl⟩ b
  obtain⟨k,rfl⟩:=jS h;exact⟨.inl k,rfl⟩
theorem kK:∀{xs:List D},xs.all DR=Mv->∃ks:List NK,xs=ks.map nD
 |[],_=>⟨[],rfl⟩|x::xs,h=>by
  rw[PD,MG]at h;obtain⟨k,rfl⟩:=xa h.1;obtain⟨ks,rfl⟩:=kK h.2;exact⟨k::ks,rfl⟩
theorem pB{x:D}(h:zZ x=Mv):w5 x:=by cases x<;>first|(obtain⟨ks,rfl⟩:=kK h;exact⟨ks,rfl⟩)|cases h
theorem xb{l:List D}(h:l.all zZ=Mv):∀x∈l,w5 x:=λx a=>pB (List.all_eq_true.mp h x a)
theorem Aa{l:List D}(h:l.all BE=Mv):∀x∈l,z_ x:=λx a=>jS (List.all_eq_true.mp h x a)
theorem kL(a b:Key):jv (kD a) (kD b)=Mv↔a=b:=by cases a<;>cases b<;>simp[kD,jv]
theorem mK:∀(a b:List Key),fC (a.map kD) (b.map kD)=Mv↔a=b
 |[],[]=>by simp[fC]|[],_::_=>by simp[fC]|_::_,[]=>by simp[fC]|x::a,y::b=>by simp[fC,kL,mK a b]
theorem kM(a b:Key):fc (kD a) (kD b)=decide (a=b):=by
 have:fc (kD a) (kD b)=jv (kD a) (kD b):=by cases a<;>cases b<;>rfl
 rw[this,O1,kL,decide_eq_true_iff]
theorem Ab(a b:NK):w_ (nD a) (nD b)=Mv↔a=b:=by cases a with
 |inl a=>cases b with
  |inl b=>
   have:w_ (nD (.inl a)) (nD (.inl b))=jv (kD a) (kD b):=by cases a<;>cases b<;>rfl
   rw[this,kL];simp|inr b=>
   have:w_ (nD (.inl a)) (nD (.inr b))=Mw:=by cases a<;>rfl
   rw[this];simp
 |inr a=>cases b with
  |inl b=>
   have:w_ (nD (.inr a)) (nD (.inl b))=Mw:=by cases b<;>rfl
   rw[this];simp|inr b=>
   show fC (a.map kD) (b.map kD)=Mv↔_;rw[mK];simp
theorem pC:∀(a b:List NK),jw (a.map nD) (b.map nD)=Mv↔a=b
 |[],[]=>by simp[jw]|[],_::_=>by simp[jw]|_::_,[]=>by simp[jw]|x::a,y::b=>by simp[jw,Ab,pC a b]
theorem kN(a b:List NK):fc (.tup (a.map nD)) (.tup (b.map nD))=decide (a=b):=by
 show jw _ _=_;rw[O1,pC,decide_eq_true_iff]
noncomputable def aF:List D->List D->D->Option D
 |k::ks,v::a,d=>if fc k d then Mq v else aF ks a d|_,_,_=>Mu
noncomputable def bU(ks:List D)(d:D):Bool:=ks.any λk=>fc k d
section
variable{P:MQ}{w:M6}{o:NI}{us:List (Key×Mt)}{xs:List (List NK×MB×Mt)}{hp:M7}{a:MB}
theorem iU.at(h:iU P w o us)(e:hp.get? a=Mq o):hp.DictOf (ax P w) a us:=let⟨i,j,g,f,d,c,b⟩:=h;⟨o,i,j,e,g,f,d,c,b⟩
theorem iU.of(h:hp.DictOf (ax P w) a us):∃o,hp.get? a=Mq o/\iU P w o us:=let⟨o,i,j,e,g,f,d,c,b⟩:=h;⟨o,e,i,j,g,f,d,c,b⟩
theorem iV.at(h:iV P w o xs)(e:hp.get? a=Mq o)(k:∀x∈xs,(cB P w).is hp x.1 x.2.1):hp.DictOfH (cB P w) a xs:=let⟨g,i,f,d,c,b⟩:=h;⟨o,g,i,e,f,d,c,k,b⟩
theorem iV.of(h:hp.DictOfH (cB P w) a xs):∃o,hp.get? a=Mq o/\iV P w o xs:=let⟨o,g,i,e,f,d,c,_,b⟩:=h;⟨o,e,g,i,f,d,c,b⟩
theorem GW(h:iU P w o []):iV P w o []:=by
 obtain⟨c,f,e,d,i,b,g⟩:=h;refine⟨c,f,e,d,?_,.nil⟩;generalize c.toList=l at b;cases b;rfl
theorem GX(h:iV P w o []):iU P w o []:=by
 obtain⟨c,i,g,f,d,j⟩:=h;have e:c.toList=[]:=d;refine⟨c,i,g,f,λk b=>?_,by rw[e];exact .nil,.nil⟩;rw[<-Q4,e]at b;exact nomatch b
theorem iU.nO(h:iU P w o us):∀v,o.data≠.cell v:=λv z=>by obtain⟨d,e,c,b,_⟩:=h;rw[b]at z;cases z
theorem iV.nO(h:iV P w o xs):∀v,o.data≠.cell v:=λv z=>by obtain⟨d,e,c,b,_⟩:=h;rw[b]at z;cases z
end
section
variable{B:Fb}{H:Hp}{o:NI}{ks:List D}{vs:List V}
theorem bj.GY(h:bj B H o ks vs)(b:∀x∈ks,z_ x):∃(a:List (Key×V))(us:List (Key×Mt)),KV a us/\iU B.P B.w o us/\ks=a.map (λx=>kD x.1)/\vs=a.map (·.2):=by
 rcases h.2 with h|⟨a,f,d,c,g,rfl,rfl⟩;.exact h
 .cases a with
  |nil=>cases d;exact⟨[],[],.nil,GX c,rfl,rfl⟩|cons x r=>
   obtain⟨k,e⟩:=b _ ME;cases k<;>cases e
theorem bj.GZ(h:bj B H o ks vs)(d:∀x∈ks,w5 x):∃(a:List (List NK×MB×V))(xs:List (List NK×MB×Mt)),KA a xs/\iV B.P B.w o xs/\(∀x∈a,eM B H x.2.1 x.1)/\ks=a.map (λx=>D.tup (x.1.map nD))/\vs=a.map (·.2.2):=by
 rcases h.2 with⟨a,j,g,f,rfl,rfl⟩|h;.cases a with
  |nil=>cases g;exact⟨[],[],.nil,GW f,λx c=>(nomatch c),rfl,rfl⟩|cons x r=>
   obtain⟨k,e⟩:=d _ ME;obtain⟨b,i⟩:=x;cases b<;>cases e
 .exact h
theorem mL{a:Type}[DecidableEq a]{k0 k:a}{v:V}{r:List (a×V)}:jF ((k0,v)::r) k=if k0=k then Mq v else jF r k:=by
 unfold jF;rw[Pu];by_cases h:k0=k;.simp[h]
 .simp[h]
theorem BF{R:V->D->Prop}{k:Key}{e:D}:∀{a:List (Key×V)}{ds:List D},Paired R (a.map (·.2)) ds->aF (a.map λx=>kD x.1) ds (kD k)=Mq e->∃v,jF a k=Mq v/\R v e
 |[],ds,_,q=>by cases ds<;>cases q|(k0,g)::r,d::ds,.cons f c,q=>by
  simp only[MT,aF,kM]at q;rw[mL];by_cases b:k0=k
  .simp only[b,decide_true,if_true]at q⊢;cases q;exact⟨_,rfl,f⟩
  .simp only[b,decide_false,if_false]at q⊢;exact BF c q
theorem xf{k:Key}:∀(a:List (Key×V)),bU (a.map λx=>kD x.1) (kD k)=(jF a k).isSome
 |[]=>rfl|(k0,d)::r=>by
  have b:=xf (k:=k) r;unfold bU at b⊢;rw[MT,Pa,b,mL,kM];by_cases c:k0=k<;>simp[c]
theorem kO{k0 k:List NK}{p:MB×Mt}{r:List (List NK×MB×Mt)}:UT ((k0,p)::r) k=if k0=k then Mq p else UT r k:=by
 unfold UT;rw[Pu];by_cases h:k0=k;.simp[h]
 .simp[h]
theorem BG{R:V->D->Prop}{k:List NK}{e:D}:∀{a:List (List NK×MB×V)}{xs:List (List NK×MB×Mt)}{ds:List D},KA a xs->Paired R (a.map (·.2.2)) ds->aF (a.map λx=>D.tup (x.1.map nD)) ds (.tup (k.map nD))=Mq e->∃p v,UT xs k=Mq p/\RelV v p.2/\R v e
 |[],_,ds,_,_,q=>by cases ds<;>cases q|(k0,n,j)::r,(m,b1,l)::xs,d::ds,.cons z t,.cons i h,q=>by
  obtain⟨c,g,b⟩:=z;simp only at c g b;subst c;simp only[MT,aF,kN]at q;rw[kO];by_cases f:k0=k
  .simp only[f,decide_true,if_true]at q⊢;cases q;exact⟨_,_,rfl,b,i⟩
  .simp only[f,decide_false,if_false]at q⊢;exact BG t h q
theorem Ac{k:List NK}:∀{a:List (List NK×MB×V)}{xs:List (List NK×MB×Mt)},KA a xs->bU (a.map λx=>D.tup (x.1.map nD)) (.tup (k.map nD))=(UT xs k).isSome
 |[],_,.nil=>rfl|(k0,j,g)::r,(i,b1,h)::xs,.cons z t=>by
  obtain⟨b,f,e⟩:=z;simp only at b;subst b;have c:=Ac (k:=k) t;unfold bU at c⊢;rw[MT,Pa,c,kO,kN];by_cases d:k0=k<;>simp[d]
end
section
variable{X:Cx}{F:Fx}{pins:List (MB×NI)}{σ:St}{H:Hp}{s:Mz}{a:MB}{o:NI}{ks ds:List D}{vs:List V}{d e:D}{x:V}{v:Mt}{A:Nf}{E:Mt->Mz->Prop}
theorem uY.get(I:Inv X pins σ H s)(hK:X.K=F.K)(h:uY F.toFb H a o):s.heap.get? a=Mq o:=by
 obtain⟨_,_,⟨u,h⟩|h⟩:=h;.exact(I.aV a _ h).1
 .exact I.zd _ _ (by rw[hK];exact h)
theorem f9(I:Inv X pins σ H s)(hK:X.K=F.K):∀{b:List (List NK×MB×V)}{xs:List (List NK×MB×Mt)},KA b xs->(∀x∈b,eM F.toFb H x.2.1 x.1)->∀x∈xs,(cB X.prog X.w).is s.heap x.1 x.2.1
 |_,_,.nil,_,x,c=>nomatch c|(k0,n,k)::r,(m,b1,l)::xs,.cons z t,h,x,c=>by
  obtain⟨g,f,j⟩:=z;simp only at g f;subst g f;rcases List.mem_cons.mp c with rfl|c;.exact f7 I hK (h _ ME)
  .exact f9 I hK t (λy i=>h y (MH _ i)) x c
noncomputable def kinds(ks:List D)(d:D):Prop:=(∀x∈ks,z_ x)/\z_ d\/(∀x∈ks,w5 x)/\w5 d
theorem xg(h:bj F.toFb H o ks vs)(c:s.heap.get? a=Mq o):s.TypeIs (.ref a) "dict":=by
 rcases h.2 with⟨_,_,_,⟨f,g,b,_⟩,_⟩|⟨_,_,_,⟨f,g,b,_⟩,_⟩;.exact⟨o,c,b.1⟩
 .exact⟨o,c,b.1⟩
theorem Ad{R:V->D->Prop}{Q:Mt->Mz->Prop}(hu:A.units+2<NB)(I:Inv X pins σ H s)(hK:X.K=F.K)(hP:X.prog=F.P)(hw:X.w=F.w)(h:bj F.toFb H o ks vs)(B:s.heap.get? a=Mq o)(z:Paired R vs ds)(i:Is F.toFb H x d)(r:RelV x v)(c:kinds ks d)(C:aF ks ds d=Mq e)(q:∀y u n,Inv X pins σ H n->RelV y u->R y e->Q u n):wpAny (ML X.prog X.w) A (RC (.ref a) v) Q E s:=by
 rcases c with⟨c,k,rfl⟩|⟨c,k,rfl⟩
 .obtain⟨g,G,M,ob,rfl,rfl⟩:=h.GY c;rw[<-hP,<-hw]at ob;obtain⟨y,m,l⟩:=BF z C;have:=gH i;subst this;obtain⟨J,j,f⟩:=oQ.some_of (v:=y) (o:=Tn G k) (by rw[<-m];exact M.val k);exact wpAny_getItem_of (ki r) (ob.at B).mapOf j (q y J _ (I.tok _) f l)
 .obtain⟨g,O,t,ob,tp,rfl,rfl⟩:=h.GZ c;rw[<-hP,<-hw]at ob;obtain⟨p,y,m,l,N⟩:=BG t z C;obtain⟨b,rfl,L⟩:=eM.of i;cases(show v=M8 b from r);exact wpAny_getItem_heap (f6 hu) (f7 I hK L) (ob.at B (f9 I hK t tp)) m (q y _ _ (I.tok _) l N)
theorem xh{Q:Mt->Mz->Prop}(hu:A.units+2<NB)(I:Inv X pins σ H s)(hK:X.K=F.K)(hP:X.prog=F.P)(hw:X.w=F.w)(h:bj F.toFb H o ks vs)(m:s.heap.get? a=Mq o)(c:(a==NW)=Mw)(i:Is F.toFb H x d)(r:RelV x v)(f:kinds ks d)(q:∀j,Inv X pins σ H j->Q (.bool (bU ks d)) j):wpAny (ML X.prog X.w) A (Nd .In v (.ref a)) Q E s:=by
 rcases f with⟨f,k,rfl⟩|⟨f,k,rfl⟩
 .obtain⟨g,u,p,ob,rfl,rfl⟩:=h.GY f;rw[<-hP,<-hw]at ob;have:=gH i;subst this;refine wpAny_in_of (ki r) c (ob.at m).mapOf ?_;rw[<-(p.val k).mz,<-xf];exact q _ (I.tok _)
 .obtain⟨g,t,l,ob,tp,rfl,rfl⟩:=h.GZ f;rw[<-hP,<-hw]at ob;obtain⟨b,rfl,n⟩:=eM.of i;cases(show v=M8 b from r);refine wpAny_in_heap (f6 hu) (f7 I hK n) c (ob.at m (f9 I hK l tp)) ?_;rw[<-Ac l];exact q _ (I.tok _)
theorem u7{Q:Mt->Mz->Prop}(hu:A.units+2<NB)(I:Inv X pins σ H s)(hK:X.K=F.K)(hP:X.prog=F.P)(hw:X.w=F.w)(h:bj F.toFb H o ks vs)(m:s.heap.get? a=Mq o)(c:(a==NW)=Mw)(i:Is F.toFb H x d)(r:RelV x v)(f:kinds ks d)(q:∀j,Inv X pins σ H j->Q (.bool (!bU ks d)) j):wpAny (ML X.prog X.w) A (Nd .NotIn v (.ref a)) Q E s:=by
 rcases f with⟨f,k,rfl⟩|⟨f,k,rfl⟩
 .obtain⟨g,u,p,ob,rfl,rfl⟩:=h.GY f;rw[<-hP,<-hw]at ob;have:=gH i;subst this;refine wpAny_notIn_of (ki r) c (ob.at m).mapOf ?_;rw[<-(p.val k).mz,<-xf];exact q _ (I.tok _)
 .obtain⟨g,t,l,ob,tp,rfl,rfl⟩:=h.GZ f;rw[<-hP,<-hw]at ob;obtain⟨b,rfl,n⟩:=eM.of i;cases(show v=M8 b from r);refine wpAny_notIn_heap (f6 hu) (f7 I hK n) c (ob.at m (f9 I hK l tp)) ?_;rw[<-Ac l];exact q _ (I.tok _)
theorem DV(h:bj F.toFb H o ks vs):∃b c,o.ExactDict/\o.data=.dict b c/\b.size=ks.length/\(b.size:Int)<2^63:=by
 have g:=h.1;rw[PL]at g;rcases h.2 with⟨f,l,m,⟨b,c,j,i,_,p,_⟩,rfl,_⟩|⟨f,k,n,⟨b,c,j,i,q,_⟩,_,rfl,_⟩
 .have:b.size=l.length:=by rw[<-p.length];simp
  have r:=Paired.length m;rw[M0]at g;exact⟨b,c,j,i,by rw[M0];omega,by omega⟩
 .have:b.size=k.length:=size_of_entries q;have r:=Paired.length n;rw[M0]at g;exact⟨b,c,j,i,by rw[M0];omega,by omega⟩
end
theorem Kp.own{B:Fb}{H:Hp}{k:Nat}{a:MB}{u o':HO}(j:a≠B.p)(hu:H a=Mq u)(ns:u.jt=Mw):Kp B H k (upd H a o') k where
 keep:=λb o hb st e=>by
  by_cases c:b=a;.subst c;rw[hu]at e;cases e;rw[ns]at st;cases st
  .rw[ah c];exact e
 live:=λh=>by rw[ah (Nj j)];exact h
 le:=MO _;bS:=λq d=>by
  obtain⟨f,i,r,⟨w,⟨o,g⟩,v,t,s,n⟩,m⟩:=d;have l:q≠a:=λz=>by rw[z,hu]at g;cases g;cases ns
  exact⟨f,i,r,⟨by rw[ah (Nj j)];exact w,⟨o,by rw[ah l];exact g⟩,v,t,s,n⟩,m⟩
section
variable{X:Cx}{F:Fx}{pins:List (MB×NI)}{σ:St}{H:Hp}{s:Mz}{ρ:ag}{k:Nat}
theorem b9.eR{i:Nat}{d:D}{a:MB}{u o':HO}{w':W}(S:b9 F ρ k σ H)(A:ρ[i]?=Mq (Mq (.own d)))(J:σ[i]?=Mq (Mq (.ref a)))(N:a≠F.p)(P:F.H0 a=Mu)(hu:H a=Mq u)(ns:u.jt=Mw)(hw:FE F (upd H a o') k (.ref a) w')(O:∀ks ds,w'≠.gq ks ds:=by intro _ _ z;cases z):b9 F (ρ.set i (Mq w')) k σ (upd H a o'):=by
 have kp:Kp F.toFb H k (upd H a o') k:=Kp.own N hu ns;have I:i<ρ.length:=(List.getElem?_eq_some_iff.mp A).1;refine⟨by simp[S.len],λj x e=>?_,λt B x y v g c r G E s1=>?_,λt B ks ds w c r o=>?_,kp.live S.live,⟨λb o hb e=>?_,λh=>kp.live (S.ext.live h),S.ext.le,λq f=>kp.bS q (S.ext.bS q f)⟩,S.zy.trans kp⟩
 .rw[NU]at e;by_cases C:i=j
  .subst C;rw[if_pos rfl,if_pos I]at e;cases e;exact⟨_,J,hw⟩
  .rw[if_neg C]at e;obtain⟨v,l,n⟩:=S.at_ j x e;refine⟨v,l,?_⟩;cases x with
   |d x=>exact Is.mono kp n|feed=>exact⟨n.1,kp.feed n.2⟩|own Q=>
    obtain⟨b,rfl,M,L,K⟩:=n;have m:b≠a:=λz=>by
     subst z;exact S.apart i j _ _ _ C A e rfl rfl J l
    exact⟨b,rfl,M,L,K.keep kp λo e=>by rw[ah m];exact e⟩|gq ks ds=>exact absurd (S.alone j i ks ds _ e A rfl) C
 .rw[NU]at c r;by_cases l:i=t
  .subst l;rw[if_neg g]at r;exact S.apart i B _ _ v g A r rfl E s1
  .rw[if_neg l]at c;by_cases n:i=B
   .subst n;exact S.apart t i _ _ v g c A G rfl s1
   .rw[if_neg n]at r;exact S.apart t B _ _ v g c r G E s1
 .rw[NU]at c r;by_cases l:i=t
  .subst l;rw[if_pos rfl,if_pos I]at c;cases c;exact absurd rfl (O ks ds)
  .rw[if_neg l]at c;exact absurd (S.alone t i ks ds _ c A rfl) l
 .have m:b≠a:=λz=>by rw[z,P]at e;cases e
  rw[ah m];exact S.ext.keep b o hb e
noncomputable def G5:D->Bool
 |.aW _ _=>Mv|_=>Mw
structure G6(X:Cx)(F:Fx)(pins:List (MB×NI))(σ:St)(H:Hp)(s:Mz)(k:Nat)(a:MB)(d:D)(u:HO)(o:NI):Prop where
 hu:H a=Mq u
 ns:u.jt=Mw
 nt:∀xs,u≠.tup xs
 inv:Inv X pins σ (upd H a (.cv o u)) s
 Ki:Is F.toFb (upd H a (.cv o u)) (.ref a) d
 n1:∀xs,X.gZ a≠Mq (.tup xs)n2:∀ob v,X.gZ a≠Mq (.cv ob v)n3:∀ps,X.gZ a≠Mq (.vE ps)nl:G5 d=Mv->∀xs,u≠.lst xs
theorem gy.xi{d:D}{a:MB}(I:Inv X pins σ H s)(h:gy F H a d):∃u o,G6 X F pins σ H s k a d u o:=by
  obtain⟨g,B,h⟩:=h;have base:∀{u:HO},H a=Mq u->u.jt=Mw->(∀f,u≠.tup f)->(∀b v,u≠.cv b v)->(∀ps,u≠.vE ps)->(∀f,X.gZ a≠Mq (.tup f))/\(∀ob v,X.gZ a≠Mq (.cv ob v))/\∀ps,X.gZ a≠Mq (.vE ps):=λ{u}hu ns nt q r=>⟨λf e=>by have:=I.base.jC a f e;rw[hu]at this;cases this;exact nt _ rfl,λob v e=>by have:=I.base.iR a ob v e;rw[hu]at this;cases this;exact q _ _ rfl,λps e=>by obtain⟨m,this⟩:=I.base.jD a ps e;rw[hu]at this;cases this;exact r _ rfl⟩;cases d with
  |lst y=>
    obtain⟨f,c,j⟩:=h;obtain⟨_,t,n,A,i⟩:=I.aV a _ c;obtain⟨b1,p,l⟩:=base c rfl (λ_ z=>nomatch z) (λ_ _ z=>nomatch z) (λ_ z=>nomatch z);refine⟨_,_,c,rfl,(λ_ z=>nomatch z),I.freeze c i (λ_ z=>nomatch z) (λ_ _ z=>nomatch z) (λ_ z=>nomatch z) (λ_ z=>nomatch z),?_,b1,p,l,λz=>nomatch z⟩;simp only[Is];exact⟨a,f,rfl,⟨g,_,aj⟩,j.mono (Kp.own (k:=k) g c rfl)⟩|aW ks y=>
    obtain⟨o,f,c,j,x,w⟩:=h;have i:s.heap.get? a=Mq o:=(I.aV a _ c).1;obtain⟨b1,p,l⟩:=base c rfl (λ_ z=>nomatch z) (λ_ _ z=>nomatch z) (λ_ z=>nomatch z);refine⟨_,o,c,rfl,(λ_ z=>nomatch z),I.freeze c i (λ_ z=>nomatch z) (λ_ _ z=>nomatch z) (λ_ z=>nomatch z) (λ_ z=>nomatch z),?_,b1,p,l,λ_ _ z=>nomatch z⟩;simp only[Is];exact⟨a,f,rfl,⟨o,⟨g,j,.inl ⟨_,aj⟩⟩,x.mono (Kp.own (k:=k) g c rfl)⟩,w.mono (Kp.own (k:=k) g c rfl)⟩|_=>exact h.elim
theorem Inv.ij{a:MB}{o:NI}{u:HO}(I:Inv X pins σ H s)(f:H a=Mq (.cv o u))(n1:∀xs,X.gZ a≠Mq (.tup xs))(n2:∀ob v,X.gZ a≠Mq (.cv ob v))(n3:∀ps,X.gZ a≠Mq (.vE ps)):Inv X pins σ (upd H a u) s:=by
 have ne:∀{b:MB},H b=Mu->b≠a:=λ{b}n z=>by rw[z,f]at n;cases n
 have tp:∀b xs,H b=Mq (.tup xs)->(upd H a u) b=Mq (.tup xs):=λb xs e=>by rw[ah (λz=>by rw[z,f]at e;cases e)];exact e
 have g:∀b x,H b=Mq (.own x)->(upd H a u) b=Mq (.own x):=λb x e=>by rw[ah (λz=>by rw[z,f]at e;cases e)];exact e
 refine⟨I.ok,I.os,I.bare,⟨I.base.keep,I.base.slot,λb ob e n h=>?_,I.base.there,λb xs e=>tp b xs (I.base.jC b xs e),λb ob v e=>?_,λb ps e=>?_⟩,I.loc,I.cell,?_,λx c e=>?_,λp i=>?_,λb v e=>?_,I.len⟩
 .have:=I.base.free b ob e n h;rw[ah (ne this)];exact this
 .have q:=I.base.iR b ob v e;rw[ah (λz=>by rw[z]at e;exact n2 _ _ e)];exact q
 .obtain⟨d,q⟩:=I.base.jD b ps e;exact⟨d,by rw[ah (λz=>by rw[z]at e;exact n3 _ e)];exact q⟩
 .rw[ah (ne I.free)];exact I.free
 .rw[ah (ne (I.dh x c e))];exact I.dh x c e
 .obtain⟨e,n,r⟩:=I.pin p i;exact⟨e,by rw[ah (ne n)];exact n,r⟩
 .by_cases hb:b=a
  .subst hb;rw[aj]at e;cases e;exact(I.aV b _ f).2.dg (λ_ _ _ q=>q) (λc q=>g c _ q) tp
  .rw[ah hb]at e;exact(I.aV b v e).dg (λ_ _ _ q=>q) (λc q=>g c _ q) tp
end
mutual
noncomputable def flat(l:Bool):D->Bool
 |.bH=>Mv|.bl _=>Mv|.int _=>Mv|.str _=>Mv|.tup a=>kP l a|.lst a=>l&&kP l a|_=>Mw
noncomputable def kP(l:Bool):List D->Bool
 |[]=>Mv|x::a=>flat l x&&kP l a
end
section
variable{B:Fb}{H:Hp}{a:MB}{o:NI}{u u':HO}
theorem TupAt.ij{b:MB}{xs:List V}(d:H a=Mq (.cv o u))(nt:∀xs,u≠.tup xs)(h:TupAt B H b xs):TupAt B (upd H a u') b xs:=by
 refine⟨h.1,?_⟩;rcases h.2 with(c|⟨e,c⟩)|c;.exact .inl (.inl (by rw[ah (λz=>by rw[z,d]at c;cases c)];exact c))
 .exact .inl (.inr ⟨e,by rw[ah (λz=>by rw[z,d]at c;cases c;exact nt _ rfl)];exact c⟩)
 .exact .inr c
mutual
theorem Is.ij(c:H a=Mq (.cv o u)){l:Bool}(nt:∀xs,u≠.tup xs)(nl:l=Mv->∀xs,u≠.lst xs):∀{d:D}{v:V},flat l d=Mv->Is B H v d->Is B (upd H a u') v d
 |.bH,_,_,h=>by simp only[Is]at h⊢;exact h|.bl _,_,_,h=>by simp only[Is]at h⊢;exact h|.int _,_,_,h=>by simp only[Is]at h⊢;exact h|.str _,_,_,h=>by simp only[Is]at h⊢;exact h|.tup _,_,f,h=>by
  simp only[Is]at h⊢;simp only[flat]at f;obtain⟨b,xs,j,i,g⟩:=h;exact⟨b,xs,j,i.ij c nt,af.ij c nt nl f g⟩|.lst _,_,f,h=>by
  simp only[Is]at h⊢;simp only[flat,MG]at f;obtain⟨b,xs,j,⟨i,k,e⟩,g⟩:=h;exact⟨b,xs,j,⟨i,k,by rw[ah (λz=>by rw[z,c]at e;cases e;exact nl f.1 _ rfl)];exact e⟩,af.ij c nt nl f.2 g⟩|.aW _ _,_,f,_=>by simp[flat]at f
theorem af.ij(b:H a=Mq (.cv o u)){l:Bool}(nt:∀xs,u≠.tup xs)(nl:l=Mv->∀xs,u≠.lst xs):∀{ds:List D}{xs:List V},kP l ds=Mv->af B H xs ds->af B (upd H a u') xs ds
 |[],_,_,h=>by simp only[af]at h⊢;exact h|d::ds,_,f,h=>by
  simp only[af]at h⊢;simp only[kP,MG]at f;obtain⟨x,c,i,g,e⟩:=h;exact⟨x,c,i,Is.ij b nt nl f.1 g,af.ij b nt nl f.2 e⟩
end
end
noncomputable def gr(ρ:ag)(i:Nat):Bool:=match ρ[i]? with
 |some (Mq (.own d))=>G5 d|_=>Mw
noncomputable def mM(i:Nat)(ρ:ag):ag:=match ρ[i]? with
 |some (Mq (.own d))=>ρ.set i (Mq (.d d))|_=>ρ
section
variable{X:Cx}{F:Fx}{e:MP}{st:Ou}
theorem nP{ρ:ag}{i:Nat}{d:D}(h:ρ[i]?=Mq (Mq (.own d))):mM i ρ=ρ.set i (Mq (.d d)):=by unfold mM;rw[h]
theorem rA{ρ:ag}{i:Nat}(h:∀d,ρ[i]?≠Mq (Mq (.own d))):mM i ρ=ρ:=by
 unfold mM;split;.rename_i d e;exact absurd e (h d)
 .rfl
theorem rB(ρ:ag)(i:Nat):(∃d,ρ[i]?=Mq (Mq (.own d)))\/∀d,ρ[i]?≠Mq (Mq (.own d)):=by
 by_cases h:∃d,ρ[i]?=Mq (Mq (.own d));.exact .inl h
 .exact .inr λd e=>h ⟨d,e⟩
theorem DS.fz(i:Nat){t:ag->M Fl}(h:DS X F st t):DS X F st (λρ=>t (mM i ρ)):=by
 refine⟨h.hK,λb s j H Z I⟨ρ,k,S,z⟩=>?_⟩;rcases rB ρ i with⟨d,f⟩|f
 .obtain⟨v,l,a,rfl,g⟩:=S.at_ i _ f;obtain⟨u,o,c⟩:=gy.xi (k:=k) I g;have m:=S.eR (w':=.d d) f l g.1 g.2.1 c.hu c.ns c.Ki;dsimp only at z;rw[nP f]at z;exact h.ps b s j _ Z c.inv ⟨_,k,m,M.wk z λp n q=>q.mono (Kp.own g.1 c.hu c.ns)⟩
 .dsimp only at z;rw[rA f]at z;exact h.ps b s j H Z I ⟨ρ,k,S,z⟩
theorem Ext.ij{H m:Hp}{k n:Nat}{a:MB}{u:HO}{o:NI}(h:a≠F.p)(hu:H a=Mq u)(ns:u.jt=Mw)(e:Ext F.toFb (upd H a (.cv o u)) k m n):Ext F.toFb H k (upd m a u) n:=by
 have ha:m a=Mq (.cv o u):=e.keep a _ h aj;have kp:Kp F.toFb H k (upd H a (.cv o u)) k:=Kp.own h hu ns;refine⟨λb s hb q=>?_,λq=>by rw[ah (Nj h)];exact e.live (kp.live q),e.le,λq f=>?_⟩
 .by_cases c:b=a;.subst c;rw[aj,<-hu];exact q
  .rw[ah c];exact e.keep b s hb (by rw[ah c];exact q)
 .have t:q≠a:=λz=>by
   obtain⟨_,_,_,g,_⟩:=f;obtain⟨d,j⟩:=g.cs;rw[z,hu]at j;cases j;cases ns
  obtain⟨l,i,r,⟨B,⟨d,j⟩,A,y,x,w⟩,v⟩:=e.bS q (kp.bS q f);exact⟨l,i,r,⟨by rw[ah (Nj h)];exact B,⟨d,by rw[ah t];exact j⟩,A,y,x,w⟩,v⟩
theorem DE.kQ(i:Nat){t:ag->M D}(h:DE X F e t):DE X F e (λρ=>do let d<-t (mM i ρ);M.need (flat (gr ρ i) d=Mv);pure d):=by
 refine⟨h.hK,λc s r H Q I⟨ρ,k,S,z⟩=>?_⟩;rcases rB ρ i with⟨d,g⟩|g
 .obtain⟨v,B,a,rfl,l⟩:=S.at_ i _ g;obtain⟨u,o,b⟩:=gy.xi (k:=k) I l;have G:=S.eR (w':=.d d) g B l.1 l.2.1 b.hu b.ns b.Ki;have z:(t (mM i ρ)).run k (λd f=>flat (gr ρ i) d=Mv/\qE F.toFb H k Q d f) F.E:=z;rw[nP g]at z;refine a_ (h.pe c s r _ (λv j=>∃n d,Ext F.toFb (upd H a (.cv o u)) k j n/\Is F.toFb j v d/\flat (gr ρ i) d=Mv/\qE F.toFb H k Q d n) b.inv ⟨_,k,G,M.wk z λd f q v j e p=>⟨f,d,e,p,q.1,q.2⟩⟩) λv s1 m=>?_;obtain⟨x,j,J,y,n,K,w,p,C,A⟩:=m;have ha:j a=Mq (.cv o u):=w.keep a _ l.1 aj;exact⟨x,upd j a u,J.ij ha b.n1 b.n2 b.n3,y,A x _ (w.ij l.1 b.hu b.ns) (Is.ij ha b.nt (λz=>b.nl (by unfold gr at z;rw[g]at z;exact z)) C p)⟩
 .have z:(t (mM i ρ)).run k (λd f=>flat (gr ρ i) d=Mv/\qE F.toFb H k Q d f) F.E:=z;rw[rA g]at z;exact h.pe c s r H Q I ⟨ρ,k,S,M.wk z λd f q=>q.2⟩
theorem DT.kQ(i:Nat){t:ag->M Bool}(h:DT X F e t):DT X F e (λρ=>t (mM i ρ)):=by
 refine⟨h.hK,λf s p H Q I⟨ρ,k,S,z⟩=>?_⟩;dsimp only at z;rcases rB ρ i with⟨d,j⟩|j
 .obtain⟨v,y,a,rfl,g⟩:=S.at_ i _ j;obtain⟨u,o,c⟩:=gy.xi (k:=k) I g;have A:=S.eR (w':=.d d) j y g.1 g.2.1 c.hu c.ns c.Ki;rw[nP j]at z;refine a_ (h.pt f s p _ (λb l=>∃n,Ext F.toFb (upd H a (.cv o u)) k l n/\qT F.toFb H k Q b n) c.inv ⟨_,k,A,M.wk z λb x q l e=>⟨x,e,q⟩⟩) λb s1 m=>?_;obtain⟨l,B,n,r,w⟩:=m;have ha:l a=Mq (.cv o u):=r.keep a _ g.1 aj;exact⟨upd l a u,B.ij ha c.n1 c.n2 c.n3,w _ (r.ij g.1 c.hu c.ns)⟩
 .rw[rA j]at z;exact h.pt f s p H Q I ⟨ρ,k,S,z⟩
end
section
variable{X:Cx}{F:Fx}
noncomputable def G7:D->D->M D
 |.aW ks a,d=>do M.need (kinds ks d);M.get (aF ks a d)|_,_=>M.fail
noncomputable def Kj(X:Cx)(F:Fx):R2:=λx y H Q=>∃(R:V->D->Prop)(a:MB)(o:NI)(ks f:List D)(c:List V)(d e:D),x=.ref a/\(∀b g s,Inv X b g H s->s.heap.get? a=Mq o)/\bj F.toFb H o ks c/\Paired R c f/\Is F.toFb H y d/\kinds ks d/\aF ks f d=Mq e/\∀z,R z e->Q z H
theorem xj(hu:X.A.units+2<NB)(hP:X.prog=F.P)(hw:X.w=F.w)(hK:X.K=F.K):v_ X (Kj X F):=λf g c s k H x y v u Q I z t h L=>by
 obtain⟨R,a,o,ks,V,T,d,e,rfl,C,q,D,G,M,O,N⟩:=h;cases(show v=M8 a from z);have n:=C _ _ _ I;have key:=Ad (A:=X.A) (E:=X.xe) (Q:=λr m=>EP X c k Q r m) hu I hK hP hw q n D G t M O λl U m S B J=>⟨l,H,S,B,N l J⟩;have p:=xg q n;unfold Tv;refine Ms ?_;rw[getitemInPython_of_ne p.not_modules];refine Ms (Pw p PySem.F.slot_dict_getitem.lookup ?_);have i:wpAny (ML X.prog X.w) X.A (Uj g Mw (.ref a) u) (λr b=>wpAny (ML X.prog X.w) X.A (letTemporaryGo f (.ref a) r>>=λ_=>pure r) (EP X c k Q) X.xe b) X.xe s:=by
  rw[L];exact wpAny_operating (Og key (λr b j=>Ms (wpAny_letTemporaryGo (Mx j))) λ_ _ x=>x)
 first
  |exact Mx (Ms i)|exact Ms (Mx (Ms i))|exact Ms i
theorem Ae(hu:X.A.units+2<NB)(hP:X.prog=F.P)(hw:X.w=F.w):Jc X F G7:=⟨λhK b c f s i H x y v u Q I p n h D=>by
 obtain⟨k,d,e,l,g,B,q⟩:=h;cases d with
 |aW ks K=>
  obtain⟨E,q⟩:=q;obtain⟨z,J,G⟩:=M.run_get.mp q;simp only[Is]at g;obtain⟨a,m,rfl,⟨o,r,L⟩,t⟩:=g;exact xj hu hP hw hK b c f s i H _ y v u Q I p n ⟨_,a,o,ks,K,m,e,z,rfl,λ_ _ _ I=>r.get I hK,L,t.pr,B,E,J,λj C=>G j H .refl C⟩ D|_=>exact q.elim⟩
noncomputable def G8(neg:Bool):D->D->M D
 |d,.aW ks _=>do M.need (kinds ks d);pure (.bl (if neg then !bU ks d else bU ks d))|_,_=>M.fail
theorem DW(hu:X.A.units+2<NB)(hP:X.prog=F.P)(hw:X.w=F.w):e_ X F (Nd .In) (G8 Mw):=⟨λb s p H k x y v u d e Q I h g l hK i f q=>by cases e with
 |aW ks B=>
  obtain⟨j,q⟩:=q;simp only[Is]at f;obtain⟨a,r,rfl,⟨o,c,m⟩,z⟩:=f;cases(show u=M8 a from g);exact xh hu I hK hP hw m (c.get I hK) c.2.1 i h j λt n=>⟨.bl (bU ks d),H,n,rfl,q _ H .refl (by simp only[Is];rfl)⟩|_=>exact q.elim⟩
theorem u9(hu:X.A.units+2<NB)(hP:X.prog=F.P)(hw:X.w=F.w):e_ X F (Nd .NotIn) (G8 Mv):=⟨λb s p H k x y v u d e Q I h g l hK i f q=>by cases e with
 |aW ks B=>
  obtain⟨j,q⟩:=q;simp only[Is]at f;obtain⟨a,r,rfl,⟨o,c,m⟩,z⟩:=f;cases(show u=M8 a from g);exact u7 hu I hK hP hw m (c.get I hK) c.2.1 i h j λt n=>⟨.bl (!bU ks d),H,n,rfl,q _ H .refl (by simp only[Is];rfl)⟩|_=>exact q.elim⟩
noncomputable def Kk(K:MF)(H:Hp)(a:MB)(o:NI):Prop:=(∃u,H a=Mq (.cv o u))\/K.lookup a=Mq o
noncomputable def L7(K:MF)(a:MB)(o:NI)(b:List V):It:=⟨λi H=>Kk K H a o/\i<b.length,λi H x c=>c=H/\b[i]?=Mq x,λi H=>Kk K H a o/\b.length<=i⟩
theorem rC{P:MQ}{w:M6}{K:MF}{tg:MP}{a it:MB}{o:NI}{f:List V}{l:Array Ql}{S:Nat}(hd:o.data=.dict l S)(t:au f (l.toList.map (·.key)))(W:a≠it):Turn P w K tg (L7 K a o f) [it] it (λi h=>h.IsKeyIter it a i l.size S)where
 mem:=by simp
 obj:=λi h st b hb=>by
  have e:b=it:=by simpa using hb
  subst e;obtain⟨o,e,c,d⟩:=st;exact⟨o,e,λv z=>by rw[d]at z;cases z⟩
 keep:=λi h r st k=>st.at λo e=>k it (by simp) o e;item:=by
  intro X hP hw hK R i j s M H E I q st B;obtain⟨g,Q⟩:=B;have Y:f.length=l.size:=by simpa using t.length
  have A:s.heap.get? a=Mq o:=by
   rcases g with⟨u,g⟩|g;.exact(I.aV a _ g).1
   .exact I.zd _ _ (by rw[hK];exact g)
  obtain⟨x,O⟩:∃x,f[i]?=Mq x:=⟨f[i],by simp[Q]⟩;obtain⟨y,N,U⟩:=t.get O;have n:i<l.size:=by omega
  have ey:y=l[i].key:=by
   rw[M9,N6,N4 n]at N;exact(MD N).symm
  obtain⟨L,J,Z,G,D,C⟩:=q it (by simp);refine DictIt.s_ st A hd n λr m T=>?_;have I1:Inv X j M H {s with heap:=r}:=I.turned (t':=s.toks) (λb o hb e=>(T.2 b hb).trans e) L J G D C;obtain⟨o',e,c,d⟩:=id m;exact⟨_,rfl,oS (s:={s with heap:=r}) e c d (by decide) ⟨x,H,I1,by rw[<-ey];exact U,⟨rfl,O⟩,m,λb hb=>(q b hb).1⟩⟩
 done:=by
  intro X hP hw hK R i j s M H E I q st B;obtain⟨g,Q⟩:=B;have Y:f.length=l.size:=by simpa using t.length
  have A:s.heap.get? a=Mq o:=by
   rcases g with⟨u,g⟩|g;.exact(I.aV a _ g).1
   .exact I.zd _ _ (by rw[hK];exact g)
  obtain⟨L,J,Z,G,D,C⟩:=q it (by simp);exact DictIt.wC (I.ok.hd R) st A hd (by omega) λr eb=>⟨rfl,I.turned (t':=s.toks) (λb o hb e=>eb b o hb e) L J G D C⟩
 self:=λ_ _ _ _ _ st h=>Tc st h
theorem mN{P:MQ}{w:M6}:∀{a:List (List NK×MB×V)}{xs:List (List NK×MB×Mt)},KA a xs->au (a.map λx=>V.ref x.2.1) ((xs.map (Uw (cB P w))).map (·.key))
 |_,_,.nil=>.nil|_,_,.cons z t=>.cons (show M8 _=_ by rw[z.2.1]) (mN t)
theorem kR{B:Fb}{H:Hp}:∀{a:List (List NK×MB×V)},(∀x∈a,eM B H x.2.1 x.1)->af B H (a.map λx=>V.ref x.2.1) (a.map λx=>D.tup (x.1.map nD))
 |[],_=>.nil|x::r,h=>.cons (h x ME).is (kR λy b=>h y (MH _ b))
theorem kS{B:Fb}{H:Hp}:∀{a:List (Key×V)},af B H (a.map λx=>kV x.1) (a.map λx=>kD x.1)
 |[]=>.nil|(k,v)::ks=>.cons (by cases k<;>simp only[kD,kV,Is]) kS
theorem pD{H:Hp}{o:NI}{ks:List D}{g:List V}(h:bj F.toFb H o ks g):∃a b c,o.ExactDict/\o.data=.dict b c/\au a (b.toList.map (·.key))/\af F.toFb H a ks:=by
 rcases h.2 with⟨d,n,i,⟨b,c,f,e,_,k,_⟩,rfl,_⟩|⟨d,m,j,⟨b,c,f,e,l,_⟩,tp,rfl,_⟩;.exact⟨_,b,c,f,e,kz i k,kS⟩
 .exact⟨_,b,c,f,e,by rw[l];exact mN j,kR tp⟩
end
noncomputable def l7(X:Cx)(e:MP)(t:TE)(a:List (MB×NI))(s:Mz)(b:St)(H:Hp):Prop:=(∀Q,t b H Q->wpAny (ML X.prog X.w) X.A (OB e X.env) (EP X a b Q) X.xe s)/\∀(x:MR)(c d:Oc)(gt:TG)(D:Ends),Py e (Mq (.Name x c)) d.line X.env=pure Mv->PG X (.Name x c) gt->Ct t gt D b H->wpAny (ML X.prog X.w) X.A (exec (.Assign [.Name x c] e d) X.env) (SP X a D) X.xe s
structure DU(X:Cx)(F:Fx)(e:MP)(t:ag->M D):Prop where
 hK:X.K=F.K
 pu:∀pins s σ H,Inv X pins σ H s->l7 X e (cL F t) pins s σ H
section
variable{X:Cx}{F:Fx}{e:MP}{pins:List (MB×NI)}{s:Mz}{σ:St}{H:Hp}
theorem DU.de{t:ag->M D}(h:DU X F e t):DE X F e t:=⟨h.hK,λpins s σ H Q I q=>(h.pu pins s σ H I).1 Q q⟩
theorem DU.ref{t m:ag->M D}(h:DU X F e m)(r:∀ρ,Ref (t ρ) (m ρ)):DU X F e t:=⟨h.hK,λpins s σ H I=>⟨λQ⟨ρ,k,S,z⟩=>(h.pu pins s σ H I).1 Q ⟨ρ,k,S,r ρ _ _ _ z⟩,λx b a gt D c d⟨ρ,k,S,z⟩=>(h.pu pins s σ H I).2 x b a gt D c d ⟨ρ,k,S,r ρ _ _ _ z⟩⟩⟩
theorem pq.pu{cmp:Option (Mt->Rw Unit)->Rw Mt}{t:TE}(w:pq X cmp t)(E:OB e X.env=cmp Mu)(g:∀u,evalThenUse e X.env u=(do let _<-cmp (Mq u)))(I:Inv X pins σ H s):l7 X e t pins s σ H:=by
 refine⟨λQ z=>w.pe E pins s σ H Q I z,λx P Y gt Z m B z=>?_⟩;rw[exec_Assign_Name_used _ _ _ _ m];refine Ms (Pz ?_);rw[g];refine Ms (Ms (w _ _ pins s σ H _ I z λD C j z=>?_));show wpAny (ML X.prog X.w) X.A (Rl (.Name x P) X.env (.ref D)) _ X.xe j;obtain⟨W,M,q,R,a,l,c,f,le,S,k,G,J,y,h,o⟩:=z;have V:Inv X ((C,k)::pins) σ W j:=M.eG λp r=>by
  rcases List.mem_cons.mp r with z|z
  .rw[z];exact⟨y,R,a,l,λv q=>by rw[h]at q;cases q⟩
  .exact M.pin p (MW _ z)
 refine a_ (B _ j σ _ (.ref D) (.ref D) Z.nx V rfl q) λ_ L i=>?_;obtain⟨d,N,K,O⟩:=i;obtain⟨T,n5,_,_,_⟩:=K.pin (C,k) (MW _ ME);refine⟨S,⟨k,G,J,T,h,o⟩,λh6 n=>Mx (Mx ?_)⟩;have U:Inv X pins d N L:=K.eG λp r=>K.pin p (MW _ (MH _ r));exact⟨d,N,U.turned (t':=L.toks) (it:=C) (λb ob hb e=>(n.2 b hb).trans e) n5 a (.inr le) c f,O⟩
theorem l7.imp{t t':TE}(h:l7 X e t pins s σ H)(q:∀Q,t' σ H Q->t σ H Q):l7 X e t' pins s σ H:=⟨λQ z=>h.1 Q (q Q z),λx b a gt D c d z=>h.2 x b a gt D c d (q _ z)⟩
noncomputable def Kl(t:TE):TE:=λσ H Q=>t σ H λv c=>∃a b,v=.ref a/\c a=Mq (.lst b)/\∀o,Q v (upd c a (.cv o (.lst b)))
theorem DX{tg:MP}{gt:TG}(h:PG X tg gt):PG X tg (λv σ H Q=>∃a xs,v=.ref a/\H a=Mq (.lst xs)/\∀o,gt v σ (upd H a (.cv o (.lst xs))) Q):=by
 intro pins s σ H v u Q I r⟨a,xs,e,ha,q⟩;obtain⟨_,b,n,d,c⟩:=I.aV a _ ha;exact h pins s σ _ v u Q (I.freeze ha c (λ_ z=>nomatch z) (λ_ _ z=>nomatch z) (λ_ z=>nomatch z) (λ_ z=>nomatch z)) r (q _)
theorem l7.cv{t:TE}(I:Inv X pins σ H s)(h:l7 X e t pins s σ H):l7 X e (Kl t) pins s σ H:=by
 refine⟨λQ z=>?_,λx g f gt D j l z=>h.2 x g f _ D j (DX l) z⟩;refine a_ (h.1 _ z) λu s1 b=>?_;obtain⟨v,p,c,r,a,m,e,ha,d⟩:=b;obtain⟨_,i,n,o,k⟩:=c.aV a _ ha;exact⟨v,_,c.freeze ha k (λ_ z=>nomatch z) (λ_ _ z=>nomatch z) (λ_ z=>nomatch z) (λ_ z=>nomatch z),r,d _⟩
theorem Af(i:Nat){x:MR}{a pos:Oc}{b:ag->M D}(hN:X.N.Nodup)(c:DU X F e b)(l:X.N[i]?=Mq x)(g:Loc X.env.scope x)(j:Py e (Mq (.Name x a)) pos.line X.env=pure Mv)(m:X.fn x=Mv\/X.env.scope.names.lookup x=Mq .local):DS X F (.Assign [.Name x a] e pos) (λρ=>do let d<-b ρ;pure (.nx (ρ.set i (Mq (.d d))))):=by
 refine⟨c.hK,λpins s σ H Z I⟨ρ,k,S,h⟩=>(c.pu pins s σ H I).2 x a pos (mh i) Z j (nE (i:=i) hN l g m) ?_⟩;refine cL.next S h λd r v q o p f n=>?_;exact n _ q o.kp (p.set i f)
end
section
variable{X:Cx}{F:Fx}{elt tg iter tg2 iter2:MP}{ifs ifs2:List MP}{pos:Oc}{scope:Of}{g g2:D->ag->M ag}{tc tc2:ag->M Bool}{te:ag->M D}{tI tI2:ag->M (List D)}
theorem xk(own fr:List MR)(js:List Nat)(d:X.calm=Mv)(n:kC X.env.scope scope=Mv)(T:js.map (λj=>X.N[j]?)=fr.map Mq)(m:∀x∈fr,scope.names.lookup x=Mq .free)(l:js.Nodup)(hw:DI X F tg iter tI)(V:∀b f C fp s H,DG (dB X b scope (own++fr) f C fp s H) F tg g)(U:∀b f C fp s H,pk (dB X b scope (own++fr) f C fp s H) F ifs tc)(W:∀b f C fp s H,DE (dB X b scope (own++fr) f C fp s H) F elt te)(R:∀x,OE iter X.env x=pure x):DU X F (.ListComp elt [⟨tg,iter,ifs,0⟩] scope pos) (λρ=>do let ds<-tI ρ;let r<-mE g tc te ds (dy ρ own.length js);pure (.lst r)):=by
 refine⟨hw.hK,λb s B H I=>?_⟩;obtain⟨f,c⟩:=rp I.ok n;have P:l7 X (.ListComp elt [⟨tg,iter,ifs,0⟩] scope pos) (tj own.length js (Je F tI) (GH F g) (oK F tc) (iT (cL F te)) [] .lst) b s B H:=(iW (ok:=Ja) (ob0:={cls:=.type "list",dict:=Mu,data:=.seq ([]:List Mt).toArray}) (newAcc:=newObj (.type "list") (.seq #[])) (o:=HO.lst) (a0:=[]) (rd:=iT (cL F te)) (body:=λD env=>do let _<-call (.builtin "list.append") [.ref D,<-OB elt env]) d c T m hw.pi rfl (iX rfl rfl) (λh=>Nl h) (λa ob v⟨_,_,_,_,e⟩z=>by rw[e]at z;cases z) ⟨ND _,[],_,.nil,rfl⟩ (λz=>nomatch z) (λ_ _ _=>rfl) (λ_ _ _=>rfl) (λ_ _ _=>rfl) (λb cs C fp s H=>(V b cs C fp s H).pg) (λb cs C fp s H=>(U b cs C fp s H).pi) (λb cs C fp s H D o=>mD o (W b cs C fp s H).pe) pz R).pu rfl (λ_=>rfl) I;refine(P.cv I).imp λQ i=>?_;obtain⟨ρ,k,S,h⟩:=i;refine⟨ρ,k,S,M.wk h λds Z q J H1 w L=>?_⟩;have y:=(S.mono w).dB own.length l;refine zN L y q λE Y A H' K u O G hz p t _=>⟨p,E,rfl,aj,λo=>?_⟩;rw[bV];exact G _ _ ((w.trans u).trans (.new t)) (bE (k:=K) (u.live y.live) t O)
end
noncomputable def ip:List D->List D->D->D->List D
 |k::ks,v::a,d,e=>(if fc k d then e else v)::ip ks a d e|_,_,_,_=>[]
noncomputable def putD(ks ds:List D)(d e:D):List D×List D:=if bU ks d then(ks,ip ks ds d e)else(ks++[d],ds++[e])
section
variable{B:Fb}{H:Hp}
theorem BH{R:V->D->Prop}{k:Key}{y:V}{e:D}(f:R y e):∀{a:List (Key×V)}{ds:List D},Paired R (a.map (·.2)) ds->Paired R ((a.map λb=>if b.1=k then(b.1,y)else b).map (·.2)) (ip (a.map λx=>kD x.1) ds (kD k) e)
 |[],_,.nil=>.nil|(k0,j)::r,d::ds,.cons i h=>by
  have c:=BH (k:=k) f h;simp only[MT,ip,kM];by_cases g:k0=k
  .simp only[g,decide_true,if_true];exact .cons f c
  .simp only[g,decide_false,if_false];exact .cons i c
theorem BJ{R:V->D->Prop}{k:List NK}{y:V}{e:D}(c:R y e):∀{a:List (List NK×MB×V)}{ds:List D},Paired R (a.map (·.2.2)) ds->Paired R ((a.map λx=>if x.1=k then(x.1,x.2.1,y)else x).map (·.2.2)) (ip (a.map λx=>D.tup (x.1.map nD)) ds (.tup (k.map nD)) e)
 |[],_,.nil=>.nil|(k0,j,i)::r,d::ds,.cons h g=>by
  have b:=BJ (k:=k) c g;simp only[MT,ip,kN];by_cases f:k0=k
  .simp only[f,decide_true,if_true];exact .cons c b
  .simp only[f,decide_false,if_false];exact .cons h b
theorem iq{f e:Type}{R:f->e->Prop}:∀{a:List f}{b:List e}{c:List f}{d:List e},Paired R a b->Paired R c d->Paired R (a++c) (b++d)
 |_,_,_,_,.nil,q=>q|_,_,_,_,.cons h t,q=>.cons h (iq t q)
theorem KA.zr{k:List NK}{y:V}{u:Mt}(r:RelV y u):∀{a:List (List NK×MB×V)}{xs:List (List NK×MB×Mt)},KA a xs->KA (a.map λx=>if x.1=k then(x.1,x.2.1,y)else x) (xs.map (putAt k u))
 |_,_,.nil=>.nil|(k0,j,f)::h,(i,b1,g)::xs,.cons z t=>by
  obtain⟨d,c,b⟩:=z;simp only at d c b;subst d c;refine .cons ?_ (KA.zr r t);by_cases e:k0=k;.simp only[e,if_true,putAt];exact⟨trivial,trivial,r⟩
  .simp only[e,if_false,putAt];exact⟨trivial,trivial,b⟩
end
section
variable{R:V->D->Prop}{X:Cx}{F:Fx}{pins:List (MB×NI)}{σ:St}{H:Hp}{s:Mz}{a:MB}{o:NI}{ks ds:List D}{vs:List V}{d e:D}{x y:V}{v r:Mt}{A:Nf}{E:Mt->Mz->Prop}
noncomputable def mO(R:V->D->Prop)(F:Fx)(H:Hp)(ks ds:List D)(d e:D)(o':NI):Prop:=(∃b,bj F.toFb H o' (putD ks ds d e).1 b/\Paired R b (putD ks ds d e).2)/\∀v,o'.data≠.cell v
theorem tw{b:List (Key×V)}{us:List (Key×Mt)}{k:Key}{o':NI}(h:KV b us)(i:b.length<MA)(f:Paired R (b.map (·.2)) ds)(c:R y e)(g:RelV y r)(ob:iU F.P F.w o' (stored us k r)):mO R F H (b.map λx=>kD x.1) ds (kD k) e o':=by
 refine⟨⟨(putK b k y).map (·.2),⟨?_,.inl ⟨putK b k y,_,h.put k g,ob,?_,rfl⟩⟩,?_⟩,ob.nO⟩
 .unfold putD;split;.simp;omega
  .simp;omega
 .unfold putD putK;rw[xf,<-kh];split
  .rw[M_];refine NR λx _=>?_;simp only[P6];split<;>rfl
  .simp
 .unfold putD putK;rw[xf,<-kh];split;.exact BH c f
  .rw[NG];exact iq f (.cons c .nil)
theorem tz{c:List (List NK×MB×V)}{xs:List (List NK×MB×Mt)}{k:List NK}{b:MB}{o':NI}(g:KA c xs)(p:c.length<MA)(n:Paired R (c.map (·.2.2)) ds)(tp:∀x∈c,eM F.toFb H x.2.1 x.1)(t:eM F.toFb H b k)(m:R y e)(l:RelV y r)(ob:iV F.P F.w o' (Ut xs k b r)):mO R F H (c.map λx=>D.tup (x.1.map nD)) ds (.tup (k.map nD)) e o':=by
 have q:=Ac (k:=k) g;by_cases f:(UT xs k).isSome=Mv
 .have j:Ut xs k b r=xs.map (putAt k r):=by unfold Ut;rw[if_pos f]
  have i:putD (c.map λx=>D.tup (x.1.map nD)) ds (.tup (k.map nD)) e=(c.map λx=>D.tup (x.1.map nD),ip (c.map λx=>D.tup (x.1.map nD)) ds (.tup (k.map nD)) e):=by unfold putD;rw[q,if_pos f]
  rw[j]at ob;refine⟨?_,ob.nO⟩;rw[i];refine⟨_,⟨by simp;omega,.inr ⟨c.map λx=>if x.1=k then(x.1,x.2.1,y)else x,_,KA.zr l g,ob,λx h=>?_,?_,rfl⟩⟩,BJ m n⟩
  .obtain⟨z,p,rfl⟩:=List.mem_map.mp h;split<;>exact tp z p
  .rw[M_];refine NR λx _=>?_;simp only[P6];split<;>rfl
 .have j:Ut xs k b r=xs++[(k,b,r)]:=by unfold Ut;rw[if_neg f]
  have i:putD (c.map λx=>D.tup (x.1.map nD)) ds (.tup (k.map nD)) e=(c.map (λx=>D.tup (x.1.map nD))++[.tup (k.map nD)],ds++[e]):=by unfold putD;rw[q,if_neg f]
  rw[j]at ob;refine⟨?_,ob.nO⟩;rw[i];refine⟨_,⟨by simp;omega,.inr ⟨c++[(k,b,y)],_,Paired.snoc g ⟨rfl,rfl,l⟩,ob,λx h=>?_,by simp,rfl⟩⟩,by rw[NG];exact iq n (.cons m .nil)⟩;rcases List.mem_append.mp h with z|z;.exact tp x z
  .rw[List.mem_singleton.mp z];exact t
theorem tD{Q:Unit->Mz->Prop}(hu:A.units+1<NB)(I:Inv X pins σ H s)(hK:X.K=F.K)(hP:X.prog=F.P)(hw:X.w=F.w)(h:bj F.toFb H o ks vs)(J:s.heap.get? a=Mq o)(G:Paired R vs ds)(i:Is F.toFb H x d)(z:RelV x v)(C:R y e)(u:RelV y r)(g:kinds ks d)(j:ks.length<MA)(q:∀h' o' L,N1 a s.heap h'->h'.get? a=Mq o'->mO R F H ks ds d e o'->Q () {s with heap:=h',toks:=L}):wpAny (ML X.prog X.w) A (dictSet a v r) Q E s:=by
 rcases g with⟨g,k,rfl⟩|⟨g,k,rfl⟩
 .obtain⟨l,N,B,ob,rfl,rfl⟩:=h.GY g;rw[<-hP,<-hw]at ob;have:=gH i;subst this;rw[M0]at j;refine wpAny_dictSet_pairs (hsz:=by rw[<-Paired.length B];omega) (ki z) (ob.at J) λh' f n=>?_;obtain⟨o',p,c⟩:=iU.of f;exact q h' o' _ n p (tw B j G C u (by rw[<-hP,<-hw];exact c))
 .obtain⟨l,M,m,ob,tp,rfl,rfl⟩:=h.GZ g;rw[<-hP,<-hw]at ob;obtain⟨b,rfl,t⟩:=eM.of i;cases(show v=M8 b from z);rw[M0]at j;refine wpAny_dictSet_heap (hsz:=by rw[<-Paired.length m];omega) (show(cB X.prog X.w).room A from hu) (f7 I hK t) (ob.at J (f9 I hK m tp)) λh' f n=>?_;obtain⟨o',p,c⟩:=iV.of f;exact q h' o' _ n p (tz m j G tp t C u (by rw[<-hP,<-hw];exact c))
theorem jx{Q:Unit->Mz->Prop}(hu:A.units+2<NB)(I:Inv X pins σ H s)(hK:X.K=F.K)(hP:X.prog=F.P)(hw:X.w=F.w)(h:bj F.toFb H o ks vs)(J:s.heap.get? a=Mq o)(G:Paired R vs ds)(i:Is F.toFb H x d)(z:RelV x v)(C:R y e)(u:RelV y r)(g:kinds ks d)(j:ks.length<MA)(q:∀h' o' L,N1 a s.heap h'->h'.get? a=Mq o'->mO R F H ks ds d e o'->Q () {s with heap:=h',toks:=L}):wpAny (ML X.prog X.w) A (setItem (.ref a) v r) Q E s:=by
 rcases g with⟨g,k,rfl⟩|⟨g,k,rfl⟩
 .obtain⟨l,N,B,ob,rfl,rfl⟩:=h.GY g;rw[<-hP,<-hw]at ob;have:=gH i;subst this;rw[M0]at j;refine wpAny_setItem_pairs (hsz:=by rw[<-Paired.length B];omega) (ki z) (ob.at J) λh' f n=>?_;obtain⟨o',p,c⟩:=iU.of f;exact q h' o' _ n p (tw B j G C u (by rw[<-hP,<-hw];exact c))
 .obtain⟨l,M,m,ob,tp,rfl,rfl⟩:=h.GZ g;rw[<-hP,<-hw]at ob;obtain⟨b,rfl,t⟩:=eM.of i;cases(show v=M8 b from z);rw[M0]at j;refine wpAny_setItem_heap (hsz:=by rw[<-Paired.length m];omega) (f6 hu) (f7 I hK t) (ob.at J (f9 I hK m tp)) λh' f n=>?_;obtain⟨o',p,c⟩:=iV.of f;exact q h' o' _ n p (tz m j G tp t C u (by rw[<-hP,<-hw];exact c))
end
theorem gx.G9{B:Fb}{H:Hp}{a:MB}{d:D}(h:gx B H a d):∃u,H a=Mq u:=by cases d with
 |lst e=>obtain⟨c,b,f⟩:=h;exact⟨_,b⟩|aW ks e=>obtain⟨o,c,b,_⟩:=h;exact⟨_,b⟩|_=>exact h.elim
noncomputable def xl(ρ:ag):Bool:=ρ.all λx=>match x with
 |some (.gq _ _)=>Mw|_=>Mv
theorem xm{ρ:ag}(h:xl ρ=Mv){i:Nat}{ks ds:List D}:ρ[i]?≠Mq (Mq (.gq ks ds)):=λe=>by
 have:=List.all_eq_true.mp h _ (Nz e);cases this
section
variable{X:Cx}{F:Fx}{σ:St}{H:Hp}{ρ:ag}{k:Nat}
theorem b9.nQ{p:MB}{o':HO}{d:D}(S:b9 F ρ k σ H)(i:Nat)(hN:xl ρ=Mv)(m:H p=Mu)(h:gx F.toFb (upd H p o') p d):b9 F (ρ.set i (Mq (.own d))) k (σ.set i (Mq (.ref p))) (upd H p o'):=by
 have r:=S.mono (Ext.new (F:=F.toFb) (k:=k) (o:=o') m);have ne:p≠F.p:=gF S.live m;have G:F.H0 p=Mu:=by cases e:F.H0 p with
  |none=>rfl|some o=>have:=S.ext.keep p o ne e;rw[m]at this;cases this
 have l:∀{j:Nat}{y:W},ρ[j]?=Mq (Mq y)->y.fw=Mv->σ[j]?≠Mq (Mq (.ref p)):=λ{j y}e o z=>by
  obtain⟨v,g,n⟩:=S.at_ j y e;rw[z]at g;cases g;cases y with
  |own K=>
   obtain⟨b,I,_,_,q⟩:=n;cases I;obtain⟨u,q⟩:=q.G9;rw[m]at q;cases q|gq ks J=>exact xm hN e|_=>cases o
 refine⟨by simp[S.len],λj x e=>?_,λt s x y v f a c B A s1=>?_,λt s ks J w a c o=>?_,r.live,r.ext,r.zy⟩
 .rw[NU]at e⊢;by_cases C:i=j
  .subst C;rw[if_pos rfl]at e⊢;split at e
   .rename_i E;cases e;rw[if_pos (by rw[<-S.len];exact E)];exact⟨_,rfl,p,rfl,ne,G,h⟩
   .cases e
  .rw[if_neg C]at e⊢;exact r.at_ j x e
 .rw[NU]at a c s1⊢;by_cases g:i=t
  .subst g;rw[if_pos rfl]at s1;rw[if_neg f]at c⊢;split at s1;.cases s1;exact l c A
   .cases s1
  .rw[if_neg g]at a s1;by_cases n:i=s
   .subst n;rw[if_pos rfl];split;.intro z;cases z;exact l a B s1
    .exactλz=>nomatch z
   .rw[if_neg n]at c⊢;exact S.apart t s x y v f a c B A s1
 .rw[NU]at a;split at a;.split at a<;>cases a
  .exact absurd a (xm hN)
end
section
variable{X:Cx}{F:Fx}{e:MP}{es:List MP}{tas:ag->M (List A)}{ta tk:ag->M D}{pos pos' lp:Oc}{x:MR}
theorem Ag(i:Nat)(hN:X.N.Nodup)(ha:DA X F es tas)(n:X.N[i]?=Mq x)(m:Loc X.env.scope x)(o:X.fn x=Mv\/X.env.scope.names.lookup x=Mq .local):DS X F (.Assign [.Name x pos'] (.List es lp) pos) (λρ=>do M.need (xl ρ=Mv);let ds<-hZ (<-tas ρ);M.need (ds.length<=MA);pure (.nx (ρ.set i (Mq (.own (.lst ds)))))):=⟨ha.hK,(cM (i:=i) hN n m (nG ha.pa) rfl o).imp λZ t H a=>by
  obtain⟨ρ,k,S,hN,h⟩:=a;refine qM.next S h λu g f v r s j q=>?_;obtain⟨ds,rfl,c⟩:=b5 q;obtain⟨l,c⟩:=c;have d:=b6 j;refine⟨by rw[d.length];exact l,λp b=>?_⟩;exact c _ _ (r.trans (.new b)).kp (s.nQ i hN b ⟨f,aj,d.mono (Ext.new (k:=g) b).kp⟩)⟩
noncomputable def b7:NI:={cls:=.type "dict",dict:=Mu,data:=.dict #[]}
theorem iY{B:Fb}{H:Hp}:bj B H b7 [] []:=⟨ND _,.inl ⟨[],[],.nil,⟨#[],0,⟨rfl,rfl,rfl⟩,rfl,λe a=>by simp at a,.nil,.nil⟩,rfl,rfl⟩⟩
theorem nR{P:MQ}{w:M6}{H:Hp}{h:M7}{a:MB}{o:NI}(e:h.get? a=Mq o):bW P w H h a (lS a o):=⟨e,⟨o,e⟩,λc b q st=>st _ q⟩
theorem Ah(i:Nat)(hN:X.N.Nodup)(hK:X.K=F.K)(j:X.N[i]?=Mq x)(g:Loc X.env.scope x)(l:X.fn x=Mv\/X.env.scope.names.lookup x=Mq .local):DS X F (.Assign [.Name x pos'] (.Dict [] [] lp) pos) (λρ=>do M.need (xl ρ=Mv);pure (.nx (ρ.set i (Mq (.own (.aW [] [])))))):=by
 have pe:PE X (.Dict [] [] lp) (λ_ H Q=>∀p,H p=Mu->(p==NW)=Mw->Q (.ref p) (upd H p (lS p b7))):=λc s f H Q I h=>wpAny_Dict_empty ⟨.ref s.heap.objs.size,_,I.laid (a:=s.heap.objs.size) (o:=lS s.heap.objs.size b7) (t':=s.toks) (λ_ _ q=>My _ q) (MO _) (nR (MK _ rfl)),rfl,h _ (I.aV.fresh (MO _)) (beq_eq_false_iff_ne.mpr (Nj (M3 I.I9)))⟩;exact⟨hK,(cM (i:=i) hN j g pe rfl l).imp λZ f H⟨ρ,k,S,hN,h⟩p d b=>h _ _ (Ext.new (k:=k) d).kp (S.nQ i hN d ⟨_,[],aj,b,iY,.nil⟩)⟩
noncomputable def d6(ρ:ag)(i:Nat):Option D:=match ρ[i]? with
 |some (Mq (.own d))=>Mq d|_=>Mu
theorem cZ{ρ:ag}{i:Nat}{d:D}(h:d6 ρ i=Mq d):ρ[i]?=Mq (Mq (.own d)):=by
 unfold d6 at h;split at h;.rename_i y e;cases h;exact e
 .cases h
noncomputable def kT:D->M (List D)
 |.lst a=>pure a|_=>M.fail
theorem d7{d:D}{k Q E}(h:(kT d).run k Q E):∃xs,d=.lst xs/\Q xs k:=by cases d with
 |lst xs=>exact⟨xs,rfl,h⟩|_=>exact h.elim
theorem DY(i:Nat){np q p:Oc}(E:X.N[i]?=Mq x)(B:oI X.env.scope x)(hd:(x==("__debug__":MR))=Mw)(m:(x==("__classdict__":MR))=Mw)(ha:DE X F e ta)(C:(q.endLine==p.line)=Mv)(l:MX [e] X.env=(Mw,OB e X.env)::MX [] X.env):DS X F (.Expr (.Call (.Attribute (.Name x np) "append" q) [e] [] p) pos) (λρ=>do
   let ds<-kT (<-M.get (d6 ρ i))let d<-ta ρ;M.need (ds.length<MA)pure (.nx (ρ.set i (Mq (.own (.lst (ds++[d]))))))):=by
 have pe:=sP (X:=X) (name:="append") (apos:=q) (cpos:=p) Pj RO (by rfl) mw (bX (pos:=np) E B hd m) (bf ha.pe cf l) rfl (by rw[l];rfl) C l rfl;refine⟨ha.hK,(nB pe rfl).imp λZ I H⟨ρ,k,S,h⟩=>?_⟩;obtain⟨J,t,h⟩:=M.run_get.mp h;obtain⟨ds,rfl,h⟩:=d7 h;obtain⟨v,g,a,rfl,b⟩:=S.at_ i _ (cZ t);obtain⟨j,s,ix⟩:=b.2.2;refine⟨_,g,.inl ⟨rfl,j,.inl (.inl s)⟩,?_⟩;refine cL.next S h λd r u w o G y n=>?_;obtain⟨z,n⟩:=n;have c:=o.keep a _ b.1 s;have f:=ix.mono o.kp;refine⟨a,j,u,rfl,rfl,c,by rw[f.length];exact z,?_⟩;have kp:Kp F.toFb w r (upd w a (.lst (j++[u]))) r:=Kp.own b.1 c rfl;refine n _ _ (o.kp.trans kp) ?_;exact G.eR (cZ t) g b.1 b.2.1 c rfl ⟨a,rfl,b.1,b.2.1,j++[u],aj,(f.append (.cons y .nil)).mono kp⟩
end
section
variable{X:Cx}{F:Fx}{e ke:MP}{ta tk:ag->M D}{pos pos' lp:Oc}{x:MR}
theorem iZ{c:List (MB×NI)}{d:St}{H:Hp}{s:Mz}{a:MB}{o o':NI}{h':M7}{tk:Nat}(I:Inv X c d H s)(e:H a=Mq (lS a o))(g:N1 a s.heap h')(f:h'.get? a=Mq o'):Inv X c d (upd H a (lS a o')) {s with heap:=h',toks:=tk}:=I.write (x:=a) (e:=a) (by rw[e];exact trivial) (.inl rfl) (λb u hb q=>(g.2 b hb).trans q) ⟨_,f⟩ (nR f)
noncomputable def tE:D->M (List D×List D)
 |.aW ks a=>pure (ks,a)|_=>M.fail
theorem u_{d:D}{k Q E}(h:(tE d).run k Q E):∃ks ds,d=.aW ks ds/\Q (ks,ds) k:=by cases d with
 |aW ks ds=>exact⟨ks,ds,rfl,h⟩|_=>exact h.elim
theorem DZ(i:Nat){np:Oc}(hu:X.A.units+2<NB)(hP:X.prog=F.P)(hw:X.w=F.w)(hi:X.N[i]?=Mq x)(hv:oI X.env.scope x)(hd:(x==("__debug__":MR))=Mw)(Y:(x==("__classdict__":MR))=Mw)(hk:DE X F ke tk)(ha:DE X F e ta)(hs:Py e (Mq (.Subscript (.Name x np) ke pos')) pos.line X.env=pure Mw):DS X F (.Assign [.Subscript (.Name x np) ke pos'] e pos) (λρ=>do
   let d<-ta ρ;let b<-tE (<-M.get (d6 ρ i))let q<-tk ρ;M.need (b.1.length<MA/\kinds b.1 q)pure (.nx (ρ.set i (Mq (.own (.aW (putD b.1 b.2 q d).1 (putD b.1 b.2 q d).2)))))):=by
 refine⟨ha.hK,λc s B H Z I⟨ρ,k,S,h⟩=>?_⟩;let R2:D->List D×List D->D->M Fl:=λd b q=>do
  M.need (b.1.length<MA/\kinds b.1 q)pure (.nx (ρ.set i (Mq (.own (.aW (putD b.1 b.2 q d).1 (putD b.1 b.2 q d).2)))))
 let R:D->M Fl:=λd=>do
  let b<-tE (<-M.get (d6 ρ i))let q<-tk ρ;R2 d b q
 refine Sr (a_ (ha.pe c s B H (λu z=>∃d m,Ext F.toFb H k z m/\b9 F ρ m B z/\Is F.toFb z u d/\(R d).run m (sU F Z H k) F.E) I (cL.next S h λd m u z e1 K U n=>⟨d,m,e1,K,U,n⟩)) λr s1⟨u,z,I1,ru,d,m,e1,K,U,n⟩=>?_) hs;obtain⟨d0,h0,n⟩:=M.run_get.mp n;obtain⟨ks,ds,rfl,n⟩:=u_ n;obtain⟨v,G,a,rfl,l⟩:=K.at_ i _ (cZ h0);refine a_ (bX (pos:=np) hi hv hd Y c s1 B z (λv L=>v=.ref a/\L=z) I1 ⟨_,G,rfl,rfl⟩) λov s2 j=>?_;obtain⟨w,L,I2,Q,ew,eH⟩:=j;subst ew eH;cases(show ov=M8 a from Q);refine a_ (hk.pe c s2 B L (λy t=>∃q g,Ext F.toFb L m t g/\b9 F ρ g B t/\Is F.toFb t y q/\(R2 d (ks,ds) q).run g (sU F Z H k) F.E) I2 (cL.next K n λq g y t p S3 T J=>⟨q,g,p,S3,T,J⟩)) λkv s3 j=>?_;obtain⟨y,t,I3,ry,q,g,p,S3,T,J⟩:=j;obtain⟨⟨hz,W⟩,J⟩:=J;obtain⟨o,xs,ho,C,dd,ia⟩:=l.2.2;have f:=p.keep a _ l.1 ho;have V:s3.heap.get? a=Mq o:=(I3.aV a _ f).1;refine jx (F:=F) hu I3 ha.hK hP hw (dd.mono p.kp) V (ia.mono p.kp).pr T ry (U.mono p.kp) ru W hz λh' o' tk sb eo po=>?_;obtain⟨⟨O,d1,d2⟩,_⟩:=po;replace d2:=hX d2;have kp:Kp F.toFb t g (upd t a (lS a o')) g:=Kp.own l.1 f rfl;refine⟨B,_,iZ I3 f sb eo,J _ _ (((e1.trans p).kp).trans kp) ?_⟩;exact S3.eR (cZ h0) G l.1 l.2.1 f rfl ⟨a,rfl,l.1,l.2.1,o',O,aj,C,d1.mono kp,d2.mono kp⟩
end
section
variable{X:Cx}{F:Fx}{e:MP}{ta:ag->M D}{pos pos' lp:Oc}{x y:MR}
noncomputable def G_:V->List V->Hp->VK->Prop:=λx d H Q=>∃l b c a,x=.ref l/\d=[.ref b]/\H l=Mq (.lst c)/\Rd H b (.lst a)/\c.length+a.length<=MA/\Q .bH (upd H l (.lst (c++a)))
theorem Ai:JY X "list.extend" G_:=by
 intro i s A H x G v J Q I k m h;obtain⟨l,b,E,B,rfl,rfl,j,t,K,q⟩:=h;cases k;obtain⟨u,rfl,o⟩:=m.one;cases o;obtain⟨z,c,n,r,L,e⟩:=I.CQ j;obtain⟨C,a,n2,g,w⟩:=t.ok I.aV;have p:=g.length;have f:c.toArray.size+a.toArray.size<=MA:=by rw[MJ,MJ];omega
 have d:¬(!c.toArray.isEmpty&&P9 (c.toArray.size+a.toArray.size))=Mv:=by
  rw[wa f,Bool.and_false];exact Nu
 refine TJ RP ⟨_,e,rfl⟩ PySem.F.entry_list_extend (PySem.F.args_list_extend_2 _ _) (AutoSeq1.list_extend_list_list_0 l c.toArray n b a.toArray n2 d (by rw[MJ];omega) (by omega)) ⟨e,w,?_⟩;refine⟨.bH,_,I.CP (its':=c++a) j e (by simp) (r.append g) ?_,rfl,q⟩;rw[Nh];omega
theorem D1(i:Nat){np t s:Oc}(L:X.N[i]?=Mq x)(J:oI X.env.scope x)(hd:(x==("__debug__":MR))=Mw)(p:(x==("__classdict__":MR))=Mw)(ha:DE X F e ta)(K:(t.endLine==s.line)=Mv)(o:MX [e] X.env=(Mw,OB e X.env)::MX [] X.env):DS X F (.Expr (.Call (.Attribute (.Name x np) "extend" t) [e] [] s) pos) (λρ=>do
   let ds<-kT (<-M.get (d6 ρ i))let q<-kT (<-ta ρ)M.need (ds.length+q.length<=MA)pure (.nx (ρ.set i (Mq (.own (.lst (ds++q))))))):=by
 have pe:=sP (X:=X) (name:="extend") (apos:=t) (cpos:=s) Pj RP (by rfl) Ai (bX (pos:=np) L J hd p) (bf ha.pe cf o) rfl (by rw[o];rfl) K o rfl;refine⟨ha.hK,(nB pe rfl).imp λZ P H⟨ρ,k,S,h⟩=>?_⟩;obtain⟨Q,C,h⟩:=M.run_get.mp h;obtain⟨ds,rfl,h⟩:=d7 h;obtain⟨v,j,a,rfl,c⟩:=S.at_ i _ (cZ C);obtain⟨m,B,ix⟩:=c.2.2;refine⟨_,j,.inl ⟨rfl,m,.inl (.inl B)⟩,?_⟩;refine cL.next S h λd w u E r O A l=>?_;obtain⟨q,rfl,l⟩:=d7 l;obtain⟨I,l⟩:=l;have f:=r.keep a _ c.1 B;have g:=ix.mono r.kp;simp only[Is]at A;obtain⟨b,n,rfl,G,z⟩:=A;refine⟨a,b,m,n,rfl,rfl,f,.inr G.2,by rw[g.length,z.length];exact I,?_⟩;have kp:Kp F.toFb E w (upd E a (.lst (m++n))) w:=Kp.own c.1 f rfl;refine l _ _ (r.kp.trans kp) ?_;exact O.eR (cZ C) j c.1 c.2.1 f rfl ⟨a,rfl,c.1,c.2.1,m++n,aj,(g.append z).mono kp⟩
end
noncomputable def LA(x:MR):It:=⟨λi _=>i<x.cps.size,λi H v a=>a=H/\∃c,x.cps[i]?=Mq c/\v=.str ⟨#[c]⟩,λi _=>x.cps.size<=i⟩
theorem pE{P:MQ}{w:M6}{K:MF}{tg:MP}{it:MB}{x:MR}{t:UJ}{ty:String}(m:["enumerate","zip","dict_itemiterator","dict_reverseitemiterator","odict_iterator","itertools.zip_longest","itertools.pairwise"].contains ty=Mw)(L:∀{A:Nf}{E:Mt->Mz->Prop}{s:Mz}{i c:Nat}{Q:Option Mt->Mz->Prop},s.heap.IsStrIter it ty x t i->x.cps[i]?=Mq c->(∀h',h'.IsStrIter it ty x t (i+1)->N1 it s.heap h'->Q (Mq (.str ⟨#[c]⟩ s.toks)) {s with heap:=h',toks:=s.toks+1})->wpAny (ML P w) A (OS (.ref it)) Q E s)(M:∀{A:Nf}{E:Mt->Mz->Prop}{s:Mz}{i:Nat}{Q:Option Mt->Mz->Prop},A.handled=Mu->s.heap.IsStrIter it ty x t i->x.cps[i]?=Mu->(∀h',QZ it s.heap h'->Q Mu {s with heap:=h'})->wpAny (ML P w) A (OS (.ref it)) Q E s)(J:∀{A:Nf}{E:Mt->Mz->Prop}{s:Mz}{i:Nat}{Q:Mt->Mz->Prop},s.heap.IsStrIter it ty x t i->Q (.ref it) s->wpAny (ML P w) A (Ue (.ref it)) Q E s):Turn P w K tg (LA x) [it] it (λi h=>h.IsStrIter it ty x t i)where
 mem:=by simp
 obj:=λi h st b hb=>by
  have e:b=it:=by simpa using hb
  subst e;obtain⟨o,e,c,d⟩:=st;exact⟨o,e,λv z=>by rw[d]at z;cases z⟩
 keep:=λi h h' st k=>by
  obtain⟨o,e,r⟩:=st;exact⟨o,k it (by simp) o e,r⟩
 item:=by
  intro X hP hw hK F i g s C H E I l st n;subst hP hw hK;obtain⟨B,y,N,u,q,p⟩:=l it (by simp);have D:x.cps[i]?=Mq x.cps[i]:=N4 n;refine L st D λh' j G=>?_;have R:Inv X g C H {s with heap:=h',toks:=s.toks+1}:=I.turned (t':=s.toks+1) (λb o hb e=>(G.2 b hb).trans e) B y u q p;obtain⟨o,e,c,d⟩:=id j;exact⟨_,rfl,oS (s:={s with heap:=h',toks:=s.toks+1}) e c d m ⟨.str ⟨#[x.cps[i]]⟩,H,R,⟨_,rfl⟩,⟨rfl,_,D,rfl⟩,j,λb hb=>(l b hb).1⟩⟩
 done:=by
  intro X hP hw hK F i g s C H E I l st n;subst hP hw hK;obtain⟨B,y,N,u,q,p⟩:=l it (by simp);exact M (I.ok.hd F) st (Pl n) λh' O=>⟨rfl,I.turned (t':=s.toks) (λb o hb e=>O b o hb e) B y u q p⟩
 self:=λ_ _ _ _ _ st h=>J st h
noncomputable def FH(x:MR):List D:=x.cps.toList.map λc=>.str ⟨#[c]⟩
theorem pF{B:Fb}{H:Hp}{k:Nat}{x:MR}(h:x.length<=MA):rj B (LA x) (FH x) H k where
 step:=λj d i g hd e l=>by
  unfold FH at hd;rw[M9]at hd;cases b:x.cps.toList[j]? with
  |none=>rw[b]at hd;cases hd|some c=>
   rw[b]at hd;cases hd;have a:x.cps[j]?=Mq c:=by simpa using b
   refine⟨(Array.getElem?_eq_some_iff.mp a).1,λy n z=>?_⟩;obtain⟨rfl,m,f,rfl⟩:=z;rw[a]at f;cases f;exact⟨.refl,by simp only[Is]⟩
 stop:=λi g e l=>by
  show x.cps.size<=(FH x).length;simp[FH]
 len:=by
  have:x.cps.size<=MA:=h;simpa[FH]using this
noncomputable def d8:D->Option (List D)
 |.tup a=>Mq a|.lst a=>Mq a|.aW ks _=>Mq ks|.str x=>if x.length<=MA then Mq (FH x)else Mu|_=>Mu
section
variable{X:Cx}{F:Fx}
theorem Aj{tg a:MP}{ta:ag->M D}(ha:DE X F a ta):DI X F tg a (λρ=>do M.get (d8 (<-ta ρ))):=⟨ha.hK,λl s σ H R I P=>by
  obtain⟨ρ,k,S,h⟩:=P;refine a_ (ha.pe l s σ H _ I (cL.next S h (Q:=λv c=>∃d n A,Ext F.toFb H k c n/\Is F.toFb c v d/\d8 d=Mq A/\c F.p≠Mu/\(∀J Z,Ext F.toFb H k Z n->rj F.toFb J A Z n->R J Z)) λd n v c r S1 f L=>by
   obtain⟨A,e,Y⟩:=M.run_get.mp L;exact⟨d,n,A,r,f,e,S1.live,Y⟩)) λv s1⟨x,c,g,C,d,n,A,r,f,m,lv,q⟩=>?_;have UU:∀b∈[s1.heap.objs.size],dY X l c b:=λb hb=>by
   have e:b=s1.heap.objs.size:=by simpa using hb
   subst e;exact g.Cw (MO _) (g.aV.fresh (MO _))
  cases d with
  |tup xs=>
   cases m;simp only[Is]at f;obtain⟨a,B,rfl,w,G⟩:=f;cases(show v=M8 a from C);obtain⟨u,T,p,j⟩:=g.tuple (show iQ X.K c a B by rw[ha.hK];exact w.2);refine TN (show s1.heap.IsTuple a u.toArray from p) ?_;exact⟨s1.heap.objs.size,[s1.heap.objs.size],_,_,c,rfl,g.kept (t':=s1.toks) λb o e=>My _ e,qP a _,⟨_,MK _ rfl,rfl,rfl⟩,UU,q _ c r (by rw[ha.hK];exact wN w G j)⟩|lst xs=>
   cases m;simp only[Is]at f;obtain⟨a,B,rfl,w,G⟩:=f;cases(show v=M8 a from C);obtain⟨u,T,p,j⟩:=g.list (show dI X.K c a B by rw[ha.hK];exact w.2.sq);refine PK p.isList ?_;exact⟨s1.heap.objs.size,[s1.heap.objs.size],_,_,c,rfl,g.kept (t':=s1.toks) λb o e=>My _ e,uN a _,⟨_,MK _ rfl,rfl,rfl⟩,UU,q _ c r (by rw[ha.hK];exact wM w G j)⟩|aW ks a2=>
   cases m;simp only[Is]at f;obtain⟨a,B,rfl,⟨o,U,dd⟩,G⟩:=f;cases(show v=M8 a from C);obtain⟨a0,es,ep,E,hd,T,ik⟩:=pD dd;have ho:=U.get g ha.hK;have lt:a<s1.heap.objs.size:=MM ho;refine DictIt.sZ U.2.1 ho E.1 hd ?_;refine⟨s1.heap.objs.size,[s1.heap.objs.size],_,_,_,rfl,g.kept (t':=s1.toks) λb o e=>My _ e,rC (K:=X.K) hd T (M3 lt),⟨_,MK _ rfl,rfl,rfl⟩,UU,q _ _ r ?_⟩;have kn:∀{O:Hp}{V:Nat},Kp F.toFb c n O V->Kk X.K O a o:=λe=>by
    rcases(U.mono e).2.2 with z|z;.exact .inl z
    .exact .inr (by rw[ha.hK];exact z)
   refine⟨λi d O V W N l2=>?_,λO V N l2=>⟨kn N,by rw[ik.length];exact MO _⟩,dd.1⟩;obtain⟨y,L,Y⟩:=(ik.mono N).get W;refine⟨⟨kn N,(List.getElem?_eq_some_iff.mp L).1⟩,λz H3 yl=>?_⟩;obtain⟨rfl,j⟩:=yl;rw[L]at j;cases j;exact⟨.refl,Y⟩|str y=>
   simp only[Is]at f;subst f;obtain⟨t,rfl⟩:=C;simp only[d8]at m;split at m
   .rename_i j;cases m;cases E:y.cps.all (·<128)with
    |false=>exact wpAny_pyIter_wide E ⟨s1.heap.objs.size,[s1.heap.objs.size],_,_,c,rfl,g.kept (t':=s1.toks) λb o e=>My _ e,pE (t:=t) (ty:="str_iterator") (by decide) wpAny_pyNext_wide_item wpAny_pyNext_wide_end wpAny_pyIter_striter_wide,⟨_,MK _ rfl,rfl,rfl⟩,UU,q _ c r (pF j)⟩|true=>exact wpAny_pyIter_ascii E ⟨s1.heap.objs.size,[s1.heap.objs.size],_,_,c,rfl,g.kept (t':=s1.toks) λb o e=>My _ e,pE (t:=t) (ty:="str_ascii_iterator") (by decide) wpAny_pyNext_ascii_item wpAny_pyNext_ascii_end wpAny_pyIter_striter_ascii,⟨_,MK _ rfl,rfl,rfl⟩,UU,q _ c r (pF j)⟩
   .cases m|_=>cases m⟩
noncomputable def D2:D->Option Bool
 |.bH=>Mq Mw|.bl b=>Mq b|.int i=>Mq (i !=0)|.str y=>if y.length<=MA then Mq ((y.length:Int)!=0)else Mu|.tup a=>Mq (!a.isEmpty)|.lst a=>Mq (!a.isEmpty)|_=>Mu
theorem jy{B:Fb}{H:Hp}{xs:List V}{ds:List D}(h:af B H xs ds):xs.isEmpty=ds.isEmpty:=by
 have:=h.length;cases xs<;>cases ds<;>first|rfl|simp at this
theorem D3{e:MP}{t:ag->M D}(h:DE X F e t)(p:∀whole,S7 e X.env whole=(do let v<-whole;RA e.pos;QQ [v] (truthy v))):DT X F e (λρ=>do M.get (D2 (<-t ρ))):=⟨h.hK,(vY h.pe p).imp λw H Q g=>by
  obtain⟨ρ,k,S,z⟩:=g;refine cL.next S z λd x v u s A f r=>?_;obtain⟨b,hb,q⟩:=M.run_get.mp r;refine⟨b,?_,q u s⟩;cases d with
  |bH=>cases hb;simp only[Is]at f;rw[f];rfl|bl c=>cases hb;simp only[Is]at f;rw[f];rfl|int i=>cases hb;simp only[Is]at f;rw[f];rfl|str y=>
   simp only[D2]at hb;split at hb
   .rename_i o;cases hb;simp only[Is]at f;rw[f];exact⟨o,rfl⟩
   .cases hb|tup n=>
   cases hb;simp only[Is]at f;obtain⟨a,j,rfl,m,l⟩:=f;exact .inr (.inl ⟨j,by rw[h.hK];exact m.2,by rw[jy l]⟩)|lst n=>
   cases hb;simp only[Is]at f;obtain⟨a,j,rfl,m,l⟩:=f;exact .inl ⟨j,by rw[h.hK];exact m.2.sq,by rw[jy l]⟩|_=>cases hb⟩
end
end L2
end
section
namespace SrtP
open PySem PyProof.Rows
section
variable{prog:MQ}{w:M6}{A:Nf}{E:Mt->Mz->Prop}{s:Mz}{κ:ON}{a₀:Array MZ}
noncomputable def Cm(prog:MQ)(w:M6)(A:Nf)(s:Mz)(κ:ON)(a₀:Array MZ):Prop:=∀x∈a₀,∀y∈a₀,∀(Q:Bool->Mz->Prop)(E:Mt->Mz->Prop),(∀b,Q b s)->wpAny (ML prog w) A (keyLt' κ x.1 y.1) Q E s
structure Bs(κ:ON)(a₀:Array MZ)(st:M4):Prop where
 k:kindOf st=κ
 p:(OO st).Perm a₀
 f:Te st=Mu
theorem Bs.size{st:M4}(h:Bs κ a₀ st):(OO st).size=a₀.size:=h.p.size_eq
theorem Bs.mem{st:M4}(h:Bs κ a₀ st){x:MZ}(m:x∈OO st):x∈a₀:=h.p.mem_iff.mp m
theorem kU(C:Cm prog w A s κ a₀){st:M4}{x y:MZ}{Q:Option Bool->M4->Prop}(d:kindOf st=κ)(c:x∈a₀)(a:y∈a₀)(q:∀b,Q (Mq b) st):SY (ML prog w) A E s (lt' x y) Q st:=by
 rw[lt'_eq];refine MI (Qw ?_);rw[d];refine MI (wpS_lift (PC (C x c y a _ _ λb=>⟨rfl,?_⟩)));exact MN (q b)
theorem ay{st:M4}{a:Array MZ}{i:Nat}{Q:MZ->M4->Prop}(h:i<a.size)(q:∀x∈a,a[i]?=Mq x->Q x st):SY (ML prog w) A E s (Ol a i) Q st:=by
 rw[elem'_eq,N4 h];exact MN (q _ (Array.getElem_mem h) (N4 h))
theorem fD(C:Cm prog w A s κ a₀){st:M4}{i j:Nat}{Q:Option Bool->M4->Prop}(h:Bs κ a₀ st)(e:i<a₀.size)(d:j<a₀.size)(q:∀b,Q (Mq b) st):SY (ML prog w) A E s (ltAt' i j) Q st:=by
 rw[ltAt'_eq];refine MI (Qw ?_);refine MI (ay (by rw[h.size];exact e) λx c _=>?_);refine MI (ay (by rw[h.size];exact d) λy a _=>?_);exact kU C h.k (h.mem c) (h.mem a) q
theorem dE{st:M4}{i j:Nat}{Q:Unit->M4->Prop}(h:Bs κ a₀ st)(q:∀a,Bs κ a₀ a->MS a=MS st->Q () a):SY (ML prog w) A E s (reverseSlice' i j) Q st:=by
 rw[reverseSlice'_eq];exact Po (q _ ⟨h.k,(mirror_perm _ _ _ _).trans h.p,h.f⟩ rfl)
theorem xo{st:M4}{i j:Nat}{Q:Unit->M4->Prop}(h:Bs κ a₀ st)(q:∀a,Bs κ a₀ a->MS a=MS st->Q () a):SY (ML prog w) A E s (moveDown' i j) Q st:=by
 rw[moveDown'_eq];exact Po (q _ ⟨h.k,(bubble_perm _ _ _).trans h.p,h.f⟩ rfl)
theorem dk{st:M4}{x:String}{Q:Unit->M4->Prop}(q:Q () st):SY (ML prog w) A E s (liftM (RS x):StateT M4 Rw Unit) Q st:=wpS_lift (OF ⟨rfl,q⟩)
theorem aY{e:Type}{a b:Nat}{f:Nat->e->StateT M4 Rw (ForInStep e)}{Q:e->M4->Prop}{c:e}{st:M4}(I:Nat->e->M4->Prop)(R:e->M4->Prop)(k:I a c st)(d:∀i c st,a<=i->i<b->I i c st->SY (ML prog w) A E s (f i c) (λr g=>match r with|.done j=>R j g|.yield j=>I (i+1) j g) st)(h:∀c st,I (max a b) c st->R c st)(q:∀c st,R c st->Q c st):SY (ML prog w) A E s (forIn [a:b] c f) Q st:=Q5 (wpS_forRange I d h k) q
theorem ir(C:Cm prog w A s κ a₀){st:M4}{lo a d:Nat}{Q:Option (Option Nat)×Nat->M4->Prop}(h:Bs κ a₀ st)(l:1<=a)(j:a<=d)(k:lo+d<=a₀.size)(q:∀n,a<=n->n<=d->Q (Mu,n) st):SY (ML prog w) A E s (forIn [a:d] ((Mu,a):Option (Option Nat)×Nat) λx __s=>do
   let __x<-ltAt' (lo+__s.snd) (lo+__s.snd-1)match __x with
    |some f=>if f=Mv then pure (Qx (Mu,__s.snd))else pure (N7 (Mu,__s.snd+1))|x=>pure (Qx (Mq Mu,__s.snd))) Q st:=by
 refine aY (λi c e=>e=st/\c=(Mu,i)) (λc e=>e=st/\∃n,c=(Mu,n)/\a<=n/\n<=d) ⟨rfl,rfl⟩ ?_ ?_ ?_
 .rintro i c e vI y8⟨rfl,rfl⟩;refine MI (fD C h (by dsimp only;omega) (by dsimp only;omega) λb=>?_);cases b with
  |true=>exact MN ⟨rfl,i,rfl,vI,by omega⟩|false=>exact MN ⟨rfl,rfl⟩
 .rintro c e⟨rfl,rfl⟩;exact⟨rfl,_,rfl,by omega,by omega⟩
 .rintro c e⟨rfl,n,rfl,a1,g⟩;exact q n a1 g
theorem pG(C:Cm prog w A s κ a₀){st:M4}{lo a e:Nat}{Q:Option (Option Nat)×Nat×Nat->M4->Prop}(h:Bs κ a₀ st)(u:1<=a)(r:a<=e)(t:lo+e<=a₀.size)(q:∀n m d,a<=n->n<=e->Bs κ a₀ d->MS d=MS st->Q (Mu,n,m) d):SY (ML prog w) A E s (forIn [a:e] ((Mu,a,0):Option (Option Nat)×Nat×Nat) λx __s=>do
   let __x<-ltAt' (lo+__s.snd.fst) (lo+__s.snd.fst-1)match __x with
    |some f=>
     if f=Mv then
      if __s.snd.snd>0 then do
       let __r<-reverseSlice' (lo+__s.snd.fst-(__s.snd.snd+1)) (lo+__s.snd.fst)pure (N7 (Mu,__s.snd.fst+1,0))else pure (N7 (Mu,__s.snd.fst+1,0))else do
      let __x<-ltAt' (lo+__s.snd.fst-1) (lo+__s.snd.fst)match __x with
       |some g=>
        if g=Mv then pure (Qx (Mu,__s.snd.fst,__s.snd.snd))else pure (N7 (Mu,__s.snd.fst+1,__s.snd.snd+1))|x=>pure (Qx (Mq Mu,__s.snd.fst,__s.snd.snd))
    |x=>pure (Qx (Mq Mu,__s.snd.fst,__s.snd.snd))) Q st:=by
 refine aY (λi c d=>Bs κ a₀ d/\MS d=MS st/\∃m,c=(Mu,i,m)) (λc d=>Bs κ a₀ d/\MS d=MS st/\∃n m,c=(Mu,n,m)/\a<=n/\n<=e) ⟨h,rfl,0,rfl⟩ ?_ ?_ ?_
 .rintro i c d vI y8⟨hb,j,m,rfl⟩;refine MI (fD C hb (by dsimp only;omega) (by dsimp only;omega) λb=>?_);cases b with
  |true=>
   dsimp only;rw[if_pos rfl];by_cases o:m>0
   .rw[if_pos o];exact MI (dE hb λba l k=>MN ⟨l,k.trans j,0,rfl⟩)
   .rw[if_neg o];exact MN ⟨hb,j,0,rfl⟩|false=>
   dsimp only;rw[if_neg (by decide)];refine MI (fD C hb (by omega) (by omega) λb=>?_);cases b with
   |true=>exact MN ⟨hb,j,i,m,rfl,vI,by omega⟩|false=>exact MN ⟨hb,j,m+1,rfl⟩
 .rintro c d⟨hb,j,m,rfl⟩;exact⟨hb,j,_,m,rfl,by omega,by omega⟩
 .rintro c d⟨hb,j,n,m,rfl,a1,p⟩;exact q n m d a1 p hb j
theorem va(C:Cm prog w A s κ a₀){st:M4}{lo a:Nat}{Q:Option Nat->M4->Prop}(h:Bs κ a₀ st)(I:1<=a)(k:lo+a<=a₀.size)(q:∀n i,1<=n->n<=a->Bs κ a₀ i->MS i=MS st->Q (Mq n) i):SY (ML prog w) A E s (countRun' lo a) Q st:=by
 rw[countRun'_eq];refine MI (ir C h (MO _) I k λn a1 F=>?_);dsimp only;by_cases z:(n==a)=Mv
 .rw[if_pos z];exact MN (q n st a1 F h rfl)
 .rw[if_neg z];have r:n+1<=a:=by
   have:n≠a:=λe=>z (by rw[e];exact beq_self_eq_true _);omega
  by_cases p:n>1
  .rw[if_pos p];refine MI (fD C h (by omega) (by omega) λb=>?_);cases b with
   |true=>exact MN (q n st a1 F h rfl)|false=>
    refine MI (dE h λeQ b1 D=>?_);refine MI (dk ?_);refine MI (pG C b1 (by omega) r k λH m ba G l u o=>?_);dsimp only;by_cases t:m>0
    .rw[if_pos t];refine MI (dE u λx B y=>?_);refine MI (dE B λc f j=>?_);refine MI (ir C f (by omega) l k λd v g=>?_);exact MN (q d c (by omega) g f (j.trans (y.trans (o.trans D))))
    .rw[if_neg t];refine MI (dE u λc f j=>?_);refine MI (ir C f (by omega) l k λd v g=>?_);exact MN (q d c (by omega) g f (j.trans (o.trans D)))
  .rw[if_neg p];refine MI (dk ?_);refine MI (pG C h (by omega) r k λH m ba G l u o=>?_);dsimp only;by_cases t:m>0
   .rw[if_pos t];refine MI (dE u λx B y=>?_);refine MI (dE B λc f j=>?_);refine MI (ir C f (by omega) l k λd v g=>?_);exact MN (q d c (by omega) g f (j.trans (y.trans o)))
   .rw[if_neg t];refine MI (dE u λc f j=>?_);refine MI (ir C f (by omega) l k λd v g=>?_);exact MN (q d c (by omega) g f (j.trans o))
theorem Ak(C:Cm prog w A s κ a₀){st:M4}{lo n ok:Nat}{Q:Bool->M4->Prop}(h:Bs κ a₀ st)(u:lo+n<=a₀.size)(q:∀a,Bs κ a₀ a->MS a=MS st->Q Mv a):SY (ML prog w) A E s (binarySort' lo n ok) Q st:=by
 rw[binarySort'_eq];refine MI (aY (λk c a=>c=(Mu,())/\Bs κ a₀ a/\MS a=MS st) (λc a=>c=(Mu,())/\Bs κ a₀ a/\MS a=MS st) ⟨rfl,h,rfl⟩ ?_ (λ_ _ z=>z) ?_)
 .rintro k c eQ o m⟨rfl,b1,e⟩;refine MI (aY (λi(c:Option Bool×Nat×Nat)a=>a=eQ/\c.1=Mu/\c.2.2<=k) (λc a=>a=eQ/\c.1=Mu) ⟨rfl,rfl,MO _⟩ ?_ (λc a z=>⟨z.1,z.2.1⟩) ?_)
  .rintro i⟨p,l,r⟩a vI y8⟨rfl,d,f⟩;dsimp only at d f⊢;subst d;by_cases g:l>=r
   .rw[if_pos g];exact MN ⟨rfl,rfl⟩
   .rw[if_neg g];refine MI (fD C b1 (by omega) (by omega) λb=>?_);cases b with
    |true=>exact MN ⟨rfl,rfl,by show(l+r)/2<=k;omega⟩|false=>exact MN ⟨rfl,rfl,f⟩
  .rintro⟨p,l,r⟩a⟨rfl,d⟩;dsimp only at d⊢;subst d;exact MI (xo b1 λba t j=>MN ⟨rfl,t,j.trans e⟩)
 .rintro c eQ⟨rfl,b1,e⟩;exact MN (q eQ b1 e)
noncomputable def bL:Bool->MZ->Array MZ->Nat->Nat->Nat->StateT M4 Rw (Option Nat):=sortPriv%PySem.Builtin.gallop
theorem rD(left:Bool)(key:MZ)(j:Array MZ)(base n a:Nat):bL left key j base n a=(do
 let e(i:Nat):StateT M4 Rw (Option Bool):=do
  let x<-Ol j (base+i)if left then lt' x key else return(<-lt' key x).map (!·)
 let mut c:=0;let mut d:=1;let mut lo:=0;let mut h:=0
 let Mq right<-e a|return Mu
 if right then
  let b:=n-a;for _ in[0:n]do
   if d>=b then break
   let Mq f<-e (a+d)|return Mu
   if !f then break
   c:=d;d:=2*d+1
  lo:=a+c+1;h:=a+min d b;else
  let b:=a+1;for _ in[0:n]do
   if d>=b then break
   let Mq g<-e (a-d)|return Mu
   if g then break
   c:=d;d:=2*d+1
  lo:=a+1-min d b;h:=a-c
 for _ in[0:n]do
  if lo>=h then break
  let m:=lo+(h-lo)/2
  let Mq f<-e m|return Mu
  if f then lo:=m+1 else h:=m
 return Mq h):=rfl
theorem cg(C:Cm prog w A s κ a₀){st:M4}{left:Bool}{key:MZ}{h:Array MZ}{base n e:Nat}{Q:Option Nat->M4->Prop}(y:kindOf st=κ)(v:∀x∈h,x∈a₀)(g:key∈a₀)(p:e<n)(D:base+n<=h.size)(q:∀k,k<=n->Q (Mq k) st):SY (ML prog w) A E s (bL left key h base n e) Q st:=by
 rw[rD];extract_lets beyond la0 of0 jp mx1 mx2;have hb:∀(i:Nat)(Q:Option Bool->M4->Prop),i<n->(∀b,Q (Mq b) st)->SY (ML prog w) A E s (beyond i) Q st:=λi Q o q=>by
  refine MI (ay (by omega) λx u _=>?_);cases left with
  |true=>exact kU C y (v x u) g q|false=>exact MI (kU C y g (v x u) λb=>MN (q _))
 have B:∀(t of lo o:Nat),o<=n->SY (ML prog w) A E s (jp () t of lo o) Q st:=λt of lo o p=>by
  refine MI (aY (λi(c:Option (Option Nat)×Nat×Nat)a=>a=st/\c.1=Mu/\c.2.2<=n) (λc a=>a=st/\c.1=Mu/\c.2.2<=n) ⟨rfl,rfl,p⟩ ?_ (λc a z=>z) ?_)
  .rintro i⟨m,l,r⟩a vI y8⟨rfl,d,j⟩;dsimp only at d j⊢;subst d;by_cases f:l>=r
   .rw[if_pos f];exact MN ⟨rfl,rfl,j⟩
   .rw[if_neg f];refine MI (hb _ _ (by omega) λb=>?_);cases b with
    |true=>exact MN ⟨rfl,rfl,j⟩|false=>exact MN ⟨rfl,rfl,by show l+(r-l)/2<=n;omega⟩
  .rintro⟨m,l,r⟩a⟨rfl,d,j⟩;dsimp only at d j⊢;subst d;exact MN (q r j)
 refine MI (hb _ _ p λb=>?_);cases b with
 |true=>
  dsimp only;rw[if_pos rfl];refine MI (aY (λi(c:Option (Option Nat)×Nat×Nat)a=>a=st/\c.1=Mu) (λc a=>a=st/\c.1=Mu) ⟨rfl,rfl⟩ ?_ (λc a z=>z) ?_)
  .rintro i⟨m,l,r⟩a vI y8⟨rfl,d⟩;dsimp only at d⊢;subst d;by_cases f:r>=mx1
   .rw[if_pos f];exact MN ⟨rfl,rfl⟩
   .rw[if_neg f];refine MI (hb _ _ (by have:mx1=n-e:=rfl;omega) λb=>?_);cases b<;>exact MN ⟨rfl,rfl⟩
  .rintro⟨m,l,r⟩a⟨rfl,d⟩;dsimp only at d⊢;subst d;exact B l r _ _ (by have:mx1=n-e:=rfl;omega)|false=>
  dsimp only;rw[if_neg (by decide)];refine MI (aY (λi(c:Option (Option Nat)×Nat×Nat)a=>a=st/\c.1=Mu) (λc a=>a=st/\c.1=Mu) ⟨rfl,rfl⟩ ?_ (λc a z=>z) ?_)
  .rintro i⟨m,l,r⟩a vI y8⟨rfl,d⟩;dsimp only at d⊢;subst d;by_cases f:r>=mx2
   .rw[if_pos f];exact MN ⟨rfl,rfl⟩
   .rw[if_neg f];refine MI (hb _ _ (by omega) λb=>?_);cases b<;>exact MN ⟨rfl,rfl⟩
  .rintro⟨m,l,r⟩a⟨rfl,d⟩;dsimp only at d⊢;subst d;exact B l r _ _ (by omega)
noncomputable def aD:Nat->StateT M4 Rw Unit:=sortPriv%PySem.Builtin.setMinGallop
noncomputable abbrev D4(st:M4)(g:Nat):M4:=TQ (kindOf st) (OO st) (MS st) g (Te st)
theorem i5(g:Nat):aD g=modify λs=>D4 s g:=rfl
noncomputable def iA:Array MZ->Array MZ->StateT M4 Rw (Array MZ):=sortPriv%PySem.Builtin.mergeLo
theorem pH(a b:Array MZ):iA a b=(do
 RS "list.sort.merge-lo"let j:=a.size+b.size;let done(d:Array MZ)(e f:Nat):=d++a.extract e a.size++b.extract f b.size;let i(d:Array MZ)(e f:Nat):=d++b.extract f b.size++a.extract e a.size;let mut d:Array MZ:=#[<-Ol b 0]let mut e:=0;let mut f:=1;if f==b.size then return done d e f
 if e+1==a.size then return i d e f
 let mut c:=UH (<-get)for _ in[0:j]do
  let mut h:=0;let mut g:=0;for _ in[0:j]do
   let Mq l<-lt' (<-Ol b f) (<-Ol a e)|return done d e f
   if l then
    d:=d.push (<-Ol b f);f:=f+1;g:=g+1;h:=0;if f==b.size then return done d e f
    if g>=c then break
   else
    d:=d.push (<-Ol a e);e:=e+1;h:=h+1;g:=0;if e+1==a.size then return i d e f
    if h>=c then break
  RS "list.sort.gallop"c:=c+1;for _ in[0:j]do
   if c>1 then c:=c-1
   aD c
   let Mq k<-bL Mw (<-Ol b f) a e (a.size-e) 0|return done d e f
   h:=k;if k>0 then
    d:=d++a.extract e (e+k);e:=e+k;if e+1==a.size then return i d e f
    if e==a.size then return done d e f
   d:=d.push (<-Ol b f);f:=f+1;if f==b.size then return done d e f
   let Mq k<-bL Mv (<-Ol a e) b f (b.size-f) 0|return done d e f
   g:=k;if k>0 then
    d:=d++b.extract f (f+k);f:=f+k;if f==b.size then return done d e f
   d:=d.push (<-Ol a e);e:=e+1;if e+1==a.size then return i d e f
   if h<7&&g<7 then break
  c:=c+1;aD c
 RF "internal:list.sort.merge-bound"):=rfl
structure Lo(a b out:Array MZ)(ia ib:Nat):Prop where
 p:(out.toList++a.toList.drop ia++b.toList.drop ib).Perm (a.toList++b.toList)ha:ia<=a.size
 hb:ib<=b.size
section
variable{a b out:Array MZ}{ia ib k:Nat}{x:MZ}
theorem Lo.size(h:Lo a b out ia ib):out.size+(a.size-ia)+(b.size-ib)=a.size+b.size:=by
 have:=h.p.length_eq;simp only[Nh,RX,NQ]at this;exact this
theorem pI(xs:Array MZ)(i:Nat):(xs.extract i xs.size).toList=xs.toList.drop i:=by
 rw[O8];rw[Ot,NL (by simp)]
theorem pJ(xs:Array MZ)(i k:Nat):(xs.extract i (i+k)).toList=(xs.toList.drop i).take k:=by rw[O8,Ot,R5]
theorem Lo.done(h:Lo a b out ia ib):(out++a.extract ia a.size++b.extract ib b.size).Perm (a++b):=by
 rw[Om];simp only[NF,pI];exact h.p
theorem Lo.last(h:Lo a b out ia ib):(out++b.extract ib b.size++a.extract ia a.size).Perm (a++b):=by
 rw[Om];simp only[NF,pI];refine N9 ?_ h.p;rw[M5,M5];exact Nn _ OW
theorem pK{xs:Array MZ}{i:Nat}(e:xs[i]?=Mq x):xs.toList.drop i=x::xs.toList.drop (i+1)/\i<xs.size:=by
 obtain⟨c,e⟩:=Array.getElem?_eq_some_iff.mp e;refine⟨?_,c⟩;rw[OZ (by simpa using c)];simp[e]
theorem Lo.mP(h:Lo a b out ia ib)(e:a[ia]?=Mq x):Lo a b (out.push x) (ia+1) ib:=by
 obtain⟨c,d⟩:=pK e;refine⟨?_,by omega,h.hb⟩;have:=h.p;rw[c]at this;rw[Oo];simpa using this
theorem Lo.mQ(h:Lo a b out ia ib)(e:b[ib]?=Mq x):Lo a b (out.push x) ia (ib+1):=by
 obtain⟨c,d⟩:=pK e;refine⟨?_,h.ha,by omega⟩;have:=h.p;rw[c]at this;rw[Oo];refine N9 ?_ this;simp only[M5];refine Nn _ ?_;show(x::(a.toList.drop ia++b.toList.drop (ib+1))).Perm (a.toList.drop ia++x::b.toList.drop (ib+1));exact List.perm_middle.symm
theorem Lo.D8(h:Lo a b out ia ib)(c:ia+k<=a.size):Lo a b (out++a.extract ia (ia+k)) (ia+k) ib:=by
 refine⟨?_,c,h.hb⟩;rw[NF,pJ];refine N9 (O2 ?_) h.p;have:a.toList.drop ia=(a.toList.drop ia).take k++a.toList.drop (ia+k):=by rw[<-List.drop_drop,PH]
 conv=>rhs;rw[this]
 simp only[M5]
theorem Lo.D9(h:Lo a b out ia ib)(c:ib+k<=b.size):Lo a b (out++b.extract ib (ib+k)) ia (ib+k):=by
 refine⟨?_,h.ha,c⟩;rw[NF,pJ];refine N9 ?_ h.p;have:b.toList.drop ib=(b.toList.drop ib).take k++b.toList.drop (ib+k):=by rw[<-List.drop_drop,PH]
 conv=>rhs;rw[this]
 simp only[M5];refine Nn _ ?_;rw[<-M5,<-M5];exact Pp _ OW
end
structure Gs(κ:ON)(a₀:Array MZ)(st st':M4):Prop where
 b:Bs κ a₀ st'
 e:OO st'=OO st
 p:MS st'=MS st
theorem jT{vJ st:M4}{g:Nat}{Q:Unit->M4->Prop}(h:Gs κ a₀ vJ st)(q:∀a,Gs κ a₀ vJ a->Q () a):SY (ML prog w) A E s (aD g) Q st:=by
 rw[i5];exact Po (q _ ⟨⟨h.b.k,h.b.p,h.b.f⟩,h.e,h.p⟩)
theorem aO{i n:Nat}(h:¬(i==n)=Mv):i≠n:=λe=>h (by rw[e];exact beq_self_eq_true _)
abbrev C6:=Option (Array MZ)×Array MZ×Nat×Nat×Nat×Nat
abbrev C7:=Option (Array MZ)×Array MZ×Nat×Nat×Nat×Nat×Nat
abbrev C5:=Option (Array MZ)×Array MZ×Nat×Nat×Nat
abbrev SM:=StateT M4 Rw
noncomputable def dn(a b c:Array MZ)(e d:Nat):Array MZ:=c++a.extract e a.size++b.extract d b.size
noncomputable def lst(a b c:Array MZ)(e d:Nat):Array MZ:=c++b.extract d b.size++a.extract e a.size
noncomputable def lo1(a b:Array MZ)(mg:Nat)(c:C6):SM (ForInStep C6):=do
 let y<-Ol b c.2.2.2.1;let x<-Ol a c.2.2.1;match<-lt' y x with
 |some d=>
  if d=Mv then do
   let z<-Ol b c.2.2.2.1;if(c.2.2.2.1+1==b.size)=Mv then pure (.done (Mq (dn a b (c.2.1.push z) c.2.2.1 (c.2.2.2.1+1)),c.2.1.push z,c.2.2.1,c.2.2.2.1+1,0,c.2.2.2.2.2+1))else if c.2.2.2.2.2+1>=mg then pure (.done (Mu,c.2.1.push z,c.2.2.1,c.2.2.2.1+1,0,c.2.2.2.2.2+1))else pure (.yield (Mu,c.2.1.push z,c.2.2.1,c.2.2.2.1+1,0,c.2.2.2.2.2+1))else do
   let z<-Ol a c.2.2.1;if(c.2.2.1+1+1==a.size)=Mv then pure (.done (Mq (lst a b (c.2.1.push z) (c.2.2.1+1) c.2.2.2.1),c.2.1.push z,c.2.2.1+1,c.2.2.2.1,c.2.2.2.2.1+1,0))else if c.2.2.2.2.1+1>=mg then pure (.done (Mu,c.2.1.push z,c.2.2.1+1,c.2.2.2.1,c.2.2.2.2.1+1,0))else pure (.yield (Mu,c.2.1.push z,c.2.2.1+1,c.2.2.2.1,c.2.2.2.2.1+1,0))|_=>pure (.done (Mq (dn a b c.2.1 c.2.2.1 c.2.2.2.1),c.2))
noncomputable def Km(a b:Array MZ)(mg g f d:Nat)(c:Array MZ)(e:Nat):SM (ForInStep C7):=do
 let z<-Ol a d;if(d+1+1==a.size)=Mv then pure (.done (Mq (lst a b (c.push z) (d+1) e),c.push z,d+1,e,mg,g,f))else if(decide (g<7)&&decide (f<7))=Mv then pure (.done (Mu,c.push z,d+1,e,mg,g,f))else pure (.yield (Mu,c.push z,d+1,e,mg,g,f))
noncomputable def Jj(a b:Array MZ)(mg f g c:Nat)(d:Array MZ)(e:Nat):SM (ForInStep C7):=do
 let z<-Ol b c;if(c+1==b.size)=Mv then pure (.done (Mq (dn a b (d.push z) e (c+1)),d.push z,e,c+1,mg,f,g))else do
  let x<-Ol a e;match<-bL Mv x b (c+1) (b.size-(c+1)) 0 with
  |some k=>
   if k>0 then
    if(c+1+k==b.size)=Mv then pure (.done (Mq (dn a b (d.push z++b.extract (c+1) (c+1+k)) e (c+1+k)),d.push z++b.extract (c+1) (c+1+k),e,c+1+k,mg,f,k))else Km a b mg f k e (d.push z++b.extract (c+1) (c+1+k)) (c+1+k)else Km a b mg f k e (d.push z) (c+1)|_=>pure (.done (Mq (dn a b (d.push z) e (c+1)),d.push z,e,c+1,mg,f,g))
noncomputable def Jk(a b:Array MZ)(c:C7)(mg:Nat):SM (ForInStep C7):=do
 aD mg;let y<-Ol b c.2.2.2.1;match<-bL Mw y a c.2.2.1 (a.size-c.2.2.1) 0 with
 |some k=>
  if k>0 then
   if(c.2.2.1+k+1==a.size)=Mv then pure (.done (Mq (lst a b (c.2.1++a.extract c.2.2.1 (c.2.2.1+k)) (c.2.2.1+k) c.2.2.2.1),c.2.1++a.extract c.2.2.1 (c.2.2.1+k),c.2.2.1+k,c.2.2.2.1,mg,k,c.2.2.2.2.2.2))else if(c.2.2.1+k==a.size)=Mv then pure (.done (Mq (dn a b (c.2.1++a.extract c.2.2.1 (c.2.2.1+k)) (c.2.2.1+k) c.2.2.2.1),c.2.1++a.extract c.2.2.1 (c.2.2.1+k),c.2.2.1+k,c.2.2.2.1,mg,k,c.2.2.2.2.2.2))else Jj a b mg k c.2.2.2.2.2.2 c.2.2.2.1 (c.2.1++a.extract c.2.2.1 (c.2.2.1+k)) (c.2.2.1+k)else Jj a b mg k c.2.2.2.2.2.2 c.2.2.2.1 c.2.1 c.2.2.1|_=>pure (.done (Mq (dn a b c.2.1 c.2.2.1 c.2.2.2.1),c.2.1,c.2.2.1,c.2.2.2.1,mg,c.2.2.2.2.2.1,c.2.2.2.2.2.2))
noncomputable def Kn(a b:Array MZ)(c:C5):SM (ForInStep C5):=do
 let d<-forIn [0:a.size+b.size] ((Mu,c.2.1,c.2.2.1,c.2.2.2.1,0,0):C6) λ_ d=>lo1 a b c.2.2.2.2 d;match d.1 with
 |some r=>pure (.done (Mq r,d.2.1,d.2.2.1,d.2.2.2.1,c.2.2.2.2))|none=>do
  liftM (RS "list.sort.gallop")let e<-forIn [0:a.size+b.size] ((Mu,d.2.1,d.2.2.1,d.2.2.2.1,c.2.2.2.2+1,d.2.2.2.2.1,d.2.2.2.2.2):C7) λ_ e=>if e.2.2.2.2.1>1 then Jk a b e (e.2.2.2.2.1-1)else Jk a b e e.2.2.2.2.1;match e.1 with
  |some r=>pure (.done (Mq r,e.2.1,e.2.2.1,e.2.2.2.1,e.2.2.2.2.1))|none=>do
   aD (e.2.2.2.2.1+1)pure (.yield (Mu,e.2.1,e.2.2.1,e.2.2.2.1,e.2.2.2.2.1+1))
theorem vc(a b:Array MZ):iA a b=(do
 liftM (RS "list.sort.merge-lo")let x<-Ol b 0;if(1==b.size)=Mv then pure (dn a b #[x] 0 1)else if(0+1==a.size)=Mv then pure (lst a b #[x] 0 1)else do
  let st<-get;let c<-forIn [0:a.size+b.size] ((Mu,#[x],0,1,UH st):C5) λ_ c=>Kn a b c;match c.1 with
  |some r=>pure r|none=>liftM (RF "internal:list.sort.merge-bound":Rw (Array MZ))):=by
 rw[pH];dsimp only;refine congrArg _ (funext λ_=>?_);refine congrArg _ (funext λx=>?_);refine congrArg _ ?_;refine congrArg _ ?_;refine congrArg _ (funext λst=>?_);refine congr (congrArg _ ?_) (funext λc=>by obtain⟨e,c⟩:=c;cases e<;>rfl);refine congrArg _ (funext λ_=>funext λc=>?_);unfold Kn;refine congr (congrArg _ rfl) (funext λd=>?_);obtain⟨f,d⟩:=d;cases f with
 |some r=>rfl|none=>
  dsimp only;refine congrArg _ (funext λ_=>?_);refine congr (congrArg _ ?_) (funext λc=>by obtain⟨e,c⟩:=c;cases e<;>rfl);refine congrArg _ (funext λ_=>funext λc=>?_);unfold Jk;refine congr (congrArg _ ?_) ?_;all_goals
   refine congrArg _ (funext λ_=>?_);refine congrArg _ (funext λy=>?_);refine congrArg _ (funext λk=>?_);cases k with
   |none=>rfl|some k=>
    dsimp only;unfold Jj;refine congr (congrArg _ ?_) ?_
    .refine congrArg _ ?_;refine congrArg _ ?_;refine congrArg _ (funext λy=>?_);refine congrArg _ ?_;refine congrArg _ (funext λy=>?_);refine congrArg _ (funext λk=>?_);cases k<;>rfl
    .refine congrArg _ (funext λy=>?_);refine congrArg _ ?_;refine congrArg _ (funext λy=>?_);refine congrArg _ (funext λk=>?_);cases k<;>rfl
structure Go(κ:ON)(a₀:Array MZ)(st:M4)(a b:Array MZ)(o0:Nat)(r:Option (Array MZ))(out:Array MZ)(ia ib:Nat)(st':M4):Prop where
 g:Gs κ a₀ st st'
 n:r=Mu
 l:Lo a b out ia ib
 a1:ia+1<a.size
 b1:ib<b.size
 o:o0<out.size
inductive Fi(κ:ON)(a₀:Array MZ)(st:M4)(a b:Array MZ)(o0:Nat)(out:Array MZ)(ia ib:Nat)(st':M4):Option (Array MZ)->Prop where|ret{z:Array MZ}(g:Gs κ a₀ st st')(p:z.Perm (a++b)):Fi κ a₀ st a b o0 out ia ib st' (Mq z)|go(h:Go κ a₀ st a b o0 Mu out ia ib st'):Fi κ a₀ st a b o0 out ia ib st' Mu
section
variable{st:M4}{a b:Array MZ}
noncomputable abbrev Q7(κ:ON)(a₀:Array MZ)(st:M4)(a b:Array MZ)(e:Nat):ForInStep C7->M4->Prop:=λr d=>match r with
 |.done c=>Fi κ a₀ st a b e c.2.1 c.2.2.1 c.2.2.2.1 d c.1|.yield c=>Go κ a₀ st a b e c.1 c.2.1 c.2.2.1 c.2.2.2.1 d
theorem tF(u:∀x∈a,x∈a₀){mg n m e j i:Nat}{c:Array MZ}{d:M4}(h:Go κ a₀ st a b i Mu c e j d):SY (ML prog w) A E s (Km a b mg n m e c j) (Q7 κ a₀ st a b i) d:=by
 refine MI (ay (by have:=h.a1;omega) λv t ev=>?_);have k:=h.l.mP ev;have r:(c.push v).size=c.size+1:=OJ ..;have q:=h.o;have p:=h.a1;by_cases f:(e+1+1==a.size)=Mv
 .rw[if_pos f];exact MN (.ret h.g k.last)
 rw[if_neg f];have f:=aO f;have g:Go κ a₀ st a b i Mu (c.push v) (e+1) j d:=⟨h.g,rfl,k,by omega,h.b1,by omega⟩;split;.exact MN (.go g)
 .exact MN g
theorem tG(C:Cm prog w A s κ a₀)(p:∀x∈a,x∈a₀)(n:∀x∈b,x∈a₀){mg z y t f q:Nat}{c:Array MZ}{d:M4}(h:Go κ a₀ st a b q Mu c t f d):SY (ML prog w) A E s (Jj a b mg z y f c t) (Q7 κ a₀ st a b q) d:=by
 refine MI (ay h.b1 λv G ev=>?_);have m:=h.l.mQ ev;have F:(c.push v).size=c.size+1:=OJ ..;have D:=h.o;have B:=h.b1;by_cases j:(f+1==b.size)=Mv
 .rw[if_pos j];exact MN (.ret h.g m.done)
 rw[if_neg j];have j:=aO j;refine MI (ay (by have:=h.a1;omega) λx u ex=>?_);refine MI (cg C h.g.b.k n (p x u) (by omega) (by omega) λk H=>?_);show SY _ _ _ _ (if k>0 then _ else _) _ _;by_cases e:k>0
 .rw[if_pos e];have r:=m.D9 (k:=k) (by omega);by_cases i:(f+1+k==b.size)=Mv
  .rw[if_pos i];exact MN (.ret h.g r.done)
  .rw[if_neg i];have i:=aO i;exact tF p ⟨h.g,rfl,r,h.a1,by omega,by rw[Qy];omega⟩
 .rw[if_neg e];exact tF p ⟨h.g,rfl,m,h.a1,by omega,by omega⟩
theorem tH(C:Cm prog w A s κ a₀)(n:∀x∈a,x∈a₀)(d:∀x∈b,x∈a₀){mg p:Nat}{c:C7}{e:M4}(h:Go κ a₀ st a b p c.1 c.2.1 c.2.2.1 c.2.2.2.1 e):SY (ML prog w) A E s (Jk a b c mg) (Q7 κ a₀ st a b p) e:=by
 obtain⟨J,B,q,H,D,L,K⟩:=c;obtain⟨v,u,o,t,i,r⟩:=h;dsimp only at v u o t i r;subst u;refine MI (jT v λz g=>?_);refine MI (ay i λy F I=>?_);refine MI (cg C g.b.k n (d y F) (by dsimp only;omega) (by dsimp only;omega) λk G=>?_);show SY _ _ _ _ (if k>0 then _ else _) _ _;dsimp only at G⊢;by_cases f:k>0
 .rw[if_pos f];have m:=o.D8 (k:=k) (by omega);by_cases l:(q+k+1==a.size)=Mv
  .rw[if_pos l];exact MN (.ret g m.last)
  rw[if_neg l];have l:=aO l;by_cases j:(q+k==a.size)=Mv
  .rw[if_pos j];exact MN (.ret g m.done)
  rw[if_neg j];have j:=aO j;exact tG C n d ⟨g,rfl,m,by omega,i,by rw[Qy];omega⟩
 .rw[if_neg f];exact tG C n d ⟨g,rfl,o,t,i,r⟩
theorem Al(C:Cm prog w A s κ a₀)(H:∀x∈a,x∈a₀)(p:∀x∈b,x∈a₀){mg u n:Nat}{c:C6}{d:M4}(h:Go κ a₀ st a b n c.1 c.2.1 c.2.2.1 c.2.2.2.1 d)(K:u<=n):SY (ML prog w) A E s (lo1 a b mg c) (λr d=>match r with
  |.done g=>Fi κ a₀ st a b (u+1) g.2.1 g.2.2.1 g.2.2.2.1 d g.1|.yield g=>Go κ a₀ st a b (n+1) g.1 g.2.1 g.2.2.1 g.2.2.2.1 d) d:=by
 obtain⟨M,e,F,D,O,N⟩:=c;obtain⟨i,v,t,q,l,I⟩:=h;dsimp only at i v t q l I;subst v;refine MI (ay l λy o m=>?_);refine MI (ay (by dsimp only;omega) λz G L=>?_);refine MI (kU C i.b.k (p y o) (H z G) λJ=>?_);cases J with
 |true=>
  dsimp only;rw[if_pos rfl];refine MI (ay l λy o m=>?_);have j:=t.mQ m;have B:(e.push y).size=e.size+1:=OJ ..;by_cases f:(D+1==b.size)=Mv
  .rw[if_pos f];exact MN (.ret i j.done)
  .rw[if_neg f];have f:=aO f;split;.exact MN (.go ⟨i,rfl,j,q,by dsimp only;omega,by dsimp only;omega⟩)
   .exact MN ⟨i,rfl,j,q,by dsimp only;omega,by dsimp only;omega⟩|false=>
  dsimp only;rw[if_neg (by decide)];refine MI (ay (by omega) λy o m=>?_);have j:=t.mP m;have B:(e.push y).size=e.size+1:=OJ ..;by_cases f:(F+1+1==a.size)=Mv
  .rw[if_pos f];exact MN (.ret i j.last)
  .rw[if_neg f];have f:=aO f;split;.exact MN (.go ⟨i,rfl,j,by dsimp only;omega,l,by dsimp only;omega⟩)
   .exact MN ⟨i,rfl,j,by dsimp only;omega,l,by dsimp only;omega⟩
theorem Am(C:Cm prog w A s κ a₀)(H:∀x∈a,x∈a₀)(m:∀x∈b,x∈a₀){i:Nat}{c:C5}{eQ:M4}(h:Go κ a₀ st a b i c.1 c.2.1 c.2.2.1 c.2.2.2.1 eQ):SY (ML prog w) A E s (Kn a b c) (λr e=>match r with
  |.done q=>∃z,q.1=Mq z/\z.Perm (a++b)/\Gs κ a₀ st e|.yield q=>Go κ a₀ st a b (i+1) q.1 q.2.1 q.2.2.1 q.2.2.2.1 e) eQ:=by
 refine MI (aY (λj(d:C6)e=>Go κ a₀ st a b (i+j) d.1 d.2.1 d.2.2.1 d.2.2.2.1 e) (λd e=>Fi κ a₀ st a b (i+1) d.2.1 d.2.2.1 d.2.2.2.1 e d.1) ⟨h.g,rfl,h.l,h.a1,h.b1,h.o⟩ ?_ ?_ ?_)
 .rintro j d ba _ N g;exact Q5 (Al C H m g (R4 _ _)) λr e h=>by cases r<;>exact h
 .rintro⟨I,k,G,F,K,J⟩ba g;obtain⟨B,y,n,v,u,D⟩:=g;dsimp only at B y n v u D;subst y;have:=n.size;exact .go ⟨B,rfl,n,v,u,by dsimp only;omega⟩
 .rintro⟨I,k,G,F,K,J⟩ba f;dsimp only at f⊢;cases f with
  |ret g p=>exact MN ⟨_,rfl,p,g⟩|go g=>
   refine MI (dk ?_);refine MI (aY (λj(d:C7)e=>Go κ a₀ st a b (i+1) d.1 d.2.1 d.2.2.1 d.2.2.2.1 e) (λd e=>Fi κ a₀ st a b (i+1) d.2.1 d.2.2.1 d.2.2.2.1 e d.1) g ?_ ?_ ?_)
   .rintro j d t _ _ g;split;.exact Q5 (tH C H m g) λr e h=>by cases r<;>exact h
    .exact Q5 (tH C H m g) λr e h=>by cases r<;>exact h
   .rintro⟨I,k,G,F,mg,K,J⟩t g;obtain⟨B,y,n,v,u,D⟩:=g;dsimp only at B y n v u D;subst y;exact .go ⟨B,rfl,n,v,u,D⟩
   .rintro⟨I,k,G,F,mg,K,J⟩t f;dsimp only at f⊢;cases f with
    |ret g p=>exact MN ⟨_,rfl,p,g⟩|go g=>exact MI (jT g.g λL M=>MN ⟨M,rfl,g.l,g.a1,g.b1,g.o⟩)
theorem pL(C:Cm prog w A s κ a₀){Q:Array MZ->M4->Prop}(h:Bs κ a₀ st)(y:∀x∈a,x∈a₀)(m:∀x∈b,x∈a₀)(ha:0<a.size)(hb:0<b.size)(q:∀r d,r.Perm (a++b)->Gs κ a₀ st d->Q r d):SY (ML prog w) A E s (iA a b) Q st:=by
 rw[vc];refine MI (dk ?_);refine MI (ay hb λx D ex=>?_);have k:Lo a b #[x] 0 1:=by
  have l:Lo a b #[] 0 0:=⟨by simp,ND _,ND _⟩;exact l.mQ ex
 have n:Gs κ a₀ st st:=⟨h,rfl,rfl⟩;by_cases f:(1==b.size)=Mv
 .rw[if_pos f];exact MN (q _ _ k.done n)
 rw[if_neg f];by_cases e:(0+1==a.size)=Mv
 .rw[if_pos e];exact MN (q _ _ k.last n)
 rw[if_neg e];have f:=aO f;have e:=aO e;refine MI (Qw ?_);refine MI (aY (λi(c:C5)d=>Go κ a₀ st a b i c.1 c.2.1 c.2.2.1 c.2.2.2.1 d) (λc d=>∃z,c.1=Mq z/\z.Perm (a++b)/\Gs κ a₀ st d) ⟨n,rfl,k,by dsimp only;omega,by dsimp only;omega,by show 0<1;omega⟩ ?_ ?_ ?_)
 .rintro i c eQ _ _ g;exact Q5 (Am C y m g) λr d h=>by cases r<;>exact h
 .rintro⟨B,j,v,u,mg⟩ba g;have:=g.l.size;have:=g.o;have:=g.a1;have:=g.b1;dsimp only at*;omega
 .rintro⟨B,j,v,u,mg⟩ba⟨z,t,p,g⟩;dsimp only at t⊢;subst t;exact MN (q z ba p g)
end
end
end SrtP
end
section
namespace SrtP
open PySem PyProof.Rows
section
variable{prog:MQ}{w:M6}{A:Nf}{E:Mt->Mz->Prop}{s:Mz}{κ:ON}{a₀:Array MZ}
noncomputable def iB:Array MZ->Array MZ->StateT M4 Rw (Array MZ):=sortPriv%PySem.Builtin.mergeHi
theorem pM(a b:Array MZ):iB a b=(do
 RS "list.sort.merge-hi"let j:=a.size+b.size;let done(d:Array MZ)(f e:Nat):=a.extract 0 f++b.extract 0 e++d.reverse;let g(d:Array MZ)(f e:Nat):=b.extract 0 e++a.extract 0 f++d.reverse;let mut f:=a.size-1;let mut e:=b.size;let mut d:Array MZ:=#[<-Ol a f]if f==0 then return done d f e
 if e==1 then return g d f e
 let mut c:=UH (<-get)for _ in[0:j]do
  let mut i:=0;let mut h:=0;for _ in[0:j]do
   let Mq l<-lt' (<-Ol b (e-1)) (<-Ol a (f-1))|return done d f e
   if l then
    f:=f-1;d:=d.push (<-Ol a f);i:=i+1;h:=0;if f==0 then return done d f e
    if i>=c then break
   else
    e:=e-1;d:=d.push (<-Ol b e);h:=h+1;i:=0;if e==1 then return g d f e
    if h>=c then break
  RS "list.sort.gallop"c:=c+1;for _ in[0:j]do
   if c>1 then c:=c-1
   aD c
   let Mq at_<-bL Mw (<-Ol b (e-1)) a 0 f (f-1)|return done d f e
   let k:=f-at_;i:=k;if k>0 then
    d:=d++(a.extract at_ f).reverse;f:=at_;if f==0 then return done d f e
   e:=e-1;d:=d.push (<-Ol b e)if e==1 then return g d f e
   let Mq at_<-bL Mv (<-Ol a (f-1)) b 0 e (e-1)|return done d f e
   let k:=e-at_;h:=k;if k>0 then
    d:=d++(b.extract at_ e).reverse;e:=at_;if e==1 then return g d f e
    if e==0 then return done d f e
   f:=f-1;d:=d.push (<-Ol a f)if f==0 then return done d f e
   if i<7&&h<7 then break
  c:=c+1;aD c
 RF "internal:list.sort.merge-bound"):=rfl
structure Hi(a b out:Array MZ)(na nb:Nat):Prop where
 p:(a.toList.take na++b.toList.take nb++out.toList).Perm (a.toList++b.toList)ha:na<=a.size
 hb:nb<=b.size
section
variable{a b out:Array MZ}{na nb k:Nat}{x:MZ}
theorem Hi.size(h:Hi a b out na nb):na+nb+out.size=a.size+b.size:=by
 have:=h.p.length_eq;have d:=h.ha;have c:=h.hb;simp only[Nh,QL,NQ]at this;omega
noncomputable def tJ(a b out:Array MZ)(na nb:Nat):Array MZ:=a.extract 0 na++b.extract 0 nb++out.reverse
noncomputable def FI(a b out:Array MZ)(na nb:Nat):Array MZ:=b.extract 0 nb++a.extract 0 na++out.reverse
theorem BK(xs:Array MZ)(n:Nat):(xs.extract 0 n).toList=xs.toList.take n:=by
 rw[O8,Ot];rfl
theorem Hi.done(h:Hi a b out na nb):(tJ a b out na nb).Perm (a++b):=by
 unfold tJ;rw[Om];simp only[NF,BK,PQ];exact(Nn _ (Qz _)).trans h.p
theorem Hi.first(h:Hi a b out na nb):(FI a b out na nb).Perm (a++b):=by
 unfold FI;rw[Om];simp only[NF,BK,PQ];exact(List.Perm.append OW (Qz _)).trans h.p
theorem pN{xs:Array MZ}{i:Nat}(e:xs[i]?=Mq x):xs.toList.take (i+1)=xs.toList.take i++[x]:=by
 obtain⟨c,e⟩:=Array.getElem?_eq_some_iff.mp e;rw[List.take_succ_eq_append_getElem (by simpa using c)];simp[e]
theorem d9(xs:Array MZ){i n:Nat}(h:i<=n):xs.toList.take n=xs.toList.take i++(xs.extract i n).toList:=by
 rw[O8,Ot];obtain⟨k,rfl⟩:∃k,n=i+k:=⟨n-i,by omega⟩;rw[R5,<-List.take_add]
theorem Hi.mP(h:Hi a b out na nb)(c:1<=na)(e:a[na-1]?=Mq x):Hi a b (out.push x) (na-1) nb:=by
 refine⟨?_,by have:=h.ha;omega,h.hb⟩;refine N9 ?_ h.p;have:=pN e;rw[show na-1+1=na by omega]at this;rw[this,Oo];simp only[M5];refine Nn _ ?_;rw[<-M5];exact OW
theorem Hi.mQ(h:Hi a b out na nb)(c:1<=nb)(e:b[nb-1]?=Mq x):Hi a b (out.push x) na (nb-1):=by
 refine⟨?_,h.ha,by have:=h.hb;omega⟩;refine N9 ?_ h.p;have:=pN e;rw[show nb-1+1=nb by omega]at this;rw[this,Oo];simp only[M5];refine Nn _ (Nn _ ?_);exact OW
theorem Hi.D8(h:Hi a b out na nb)(c:k<=na):Hi a b (out++(a.extract k na).reverse) k nb:=by
 refine⟨?_,by have:=h.ha;omega,h.hb⟩;refine N9 ?_ h.p;rw[d9 a c,NF,PQ];simp only[M5];refine Nn _ ?_;rw[<-M5];exact List.perm_append_comm.trans (Pp _ (Qz _))
theorem Hi.D9(h:Hi a b out na nb)(c:k<=nb):Hi a b (out++(b.extract k nb).reverse) na k:=by
 refine⟨?_,h.ha,by have:=h.hb;omega⟩;refine N9 ?_ h.p;rw[d9 b c,NF,PQ];simp only[M5];refine Nn _ (Nn _ ?_);exact List.perm_append_comm.trans (Pp _ (Qz _))
end
abbrev D6:=Option (Array MZ)×Nat×Nat×Array MZ×Nat×Nat
abbrev D7:=Option (Array MZ)×Nat×Nat×Array MZ×Nat×Nat×Nat
abbrev D5:=Option (Array MZ)×Nat×Nat×Array MZ×Nat
noncomputable def vI(a b:Array MZ)(mg:Nat)(c:D6):SM (ForInStep D6):=do
 let y<-Ol b (c.2.2.1-1)let x<-Ol a (c.2.1-1)match<-lt' y x with
 |some d=>
  if d=Mv then do
   let z<-Ol a (c.2.1-1)if(c.2.1-1==0)=Mv then pure (.done (Mq (tJ a b (c.2.2.2.1.push z) (c.2.1-1) c.2.2.1),c.2.1-1,c.2.2.1,c.2.2.2.1.push z,c.2.2.2.2.1+1,0))else if c.2.2.2.2.1+1>=mg then pure (.done (Mu,c.2.1-1,c.2.2.1,c.2.2.2.1.push z,c.2.2.2.2.1+1,0))else pure (.yield (Mu,c.2.1-1,c.2.2.1,c.2.2.2.1.push z,c.2.2.2.2.1+1,0))else do
   let z<-Ol b (c.2.2.1-1)if(c.2.2.1-1==1)=Mv then pure (.done (Mq (FI a b (c.2.2.2.1.push z) c.2.1 (c.2.2.1-1)),c.2.1,c.2.2.1-1,c.2.2.2.1.push z,0,c.2.2.2.2.2+1))else if c.2.2.2.2.2+1>=mg then pure (.done (Mu,c.2.1,c.2.2.1-1,c.2.2.2.1.push z,0,c.2.2.2.2.2+1))else pure (.yield (Mu,c.2.1,c.2.2.1-1,c.2.2.2.1.push z,0,c.2.2.2.2.2+1))|_=>pure (.done (Mq (tJ a b c.2.2.2.1 c.2.1 c.2.2.1),c.2))
noncomputable def Ko(a b:Array MZ)(mg g f d:Nat)(c:Array MZ)(e:Nat):SM (ForInStep D7):=do
 let z<-Ol a (d-1)if(d-1==0)=Mv then pure (.done (Mq (tJ a b (c.push z) (d-1) e),d-1,e,c.push z,mg,g,f))else if(decide (g<7)&&decide (f<7))=Mv then pure (.done (Mu,d-1,e,c.push z,mg,g,f))else pure (.yield (Mu,d-1,e,c.push z,mg,g,f))
noncomputable def Jl(a b:Array MZ)(mg f g d:Nat)(c:Array MZ)(e:Nat):SM (ForInStep D7):=do
 let z<-Ol b (d-1)if(d-1==1)=Mv then pure (.done (Mq (FI a b (c.push z) e (d-1)),e,d-1,c.push z,mg,f,g))else do
  let x<-Ol a (e-1)match<-bL Mv x b 0 (d-1) (d-1-1)with
  |some p=>
   if d-1-p>0 then
    if(p==1)=Mv then pure (.done (Mq (FI a b (c.push z++(b.extract p (d-1)).reverse) e p),e,p,c.push z++(b.extract p (d-1)).reverse,mg,f,d-1-p))else if(p==0)=Mv then pure (.done (Mq (tJ a b (c.push z++(b.extract p (d-1)).reverse) e p),e,p,c.push z++(b.extract p (d-1)).reverse,mg,f,d-1-p))else Ko a b mg f (d-1-p) e (c.push z++(b.extract p (d-1)).reverse) p;else Ko a b mg f (d-1-p) e (c.push z) (d-1)|_=>pure (.done (Mq (tJ a b (c.push z) e (d-1)),e,d-1,c.push z,mg,f,g))
noncomputable def y8(a b:Array MZ)(c:D7)(mg:Nat):SM (ForInStep D7):=do
 aD mg;let y<-Ol b (c.2.2.1-1)match<-bL Mw y a 0 c.2.1 (c.2.1-1)with
 |some p=>
  if c.2.1-p>0 then
   if(p==0)=Mv then pure (.done (Mq (tJ a b (c.2.2.2.1++(a.extract p c.2.1).reverse) p c.2.2.1),p,c.2.2.1,c.2.2.2.1++(a.extract p c.2.1).reverse,mg,c.2.1-p,c.2.2.2.2.2.2))else Jl a b mg (c.2.1-p) c.2.2.2.2.2.2 c.2.2.1 (c.2.2.2.1++(a.extract p c.2.1).reverse) p;else Jl a b mg (c.2.1-p) c.2.2.2.2.2.2 c.2.2.1 c.2.2.2.1 c.2.1|_=>pure (.done (Mq (tJ a b c.2.2.2.1 c.2.1 c.2.2.1),c.2.1,c.2.2.1,c.2.2.2.1,mg,c.2.2.2.2.2.1,c.2.2.2.2.2.2))
noncomputable def Kq(a b:Array MZ)(c:D5):SM (ForInStep D5):=do
 let d<-forIn [0:a.size+b.size] ((Mu,c.2.1,c.2.2.1,c.2.2.2.1,0,0):D6) λ_ d=>vI a b c.2.2.2.2 d;match d.1 with
 |some r=>pure (.done (Mq r,d.2.1,d.2.2.1,d.2.2.2.1,c.2.2.2.2))|none=>do
  liftM (RS "list.sort.gallop")let e<-forIn [0:a.size+b.size] ((Mu,d.2.1,d.2.2.1,d.2.2.2.1,c.2.2.2.2+1,d.2.2.2.2.1,d.2.2.2.2.2):D7) λ_ e=>if e.2.2.2.2.1>1 then y8 a b e (e.2.2.2.2.1-1)else y8 a b e e.2.2.2.2.1;match e.1 with
  |some r=>pure (.done (Mq r,e.2.1,e.2.2.1,e.2.2.2.1,e.2.2.2.2.1))|none=>do
   aD (e.2.2.2.2.1+1)pure (.yield (Mu,e.2.1,e.2.2.1,e.2.2.2.1,e.2.2.2.2.1+1))
theorem vd(a b:Array MZ):iB a b=(do
 liftM (RS "list.sort.merge-hi")let x<-Ol a (a.size-1)if(a.size-1==0)=Mv then pure (tJ a b #[x] (a.size-1) b.size)else if(b.size==1)=Mv then pure (FI a b #[x] (a.size-1) b.size)else do
  let st<-get;let c<-forIn [0:a.size+b.size] ((Mu,a.size-1,b.size,#[x],UH st):D5) λ_ c=>Kq a b c;match c.1 with
  |some r=>pure r|none=>liftM (RF "internal:list.sort.merge-bound":Rw (Array MZ))):=by
 rw[pM];dsimp only;refine congrArg _ (funext λ_=>?_);refine congrArg _ (funext λx=>?_);refine congrArg _ ?_;refine congrArg _ ?_;refine congrArg _ (funext λst=>?_);refine congr (congrArg _ ?_) (funext λc=>by obtain⟨e,c⟩:=c;cases e<;>rfl);refine congrArg _ (funext λ_=>funext λc=>?_);unfold Kq;refine congr (congrArg _ rfl) (funext λd=>?_);obtain⟨f,d⟩:=d;cases f with
 |some r=>rfl|none=>
  dsimp only;refine congrArg _ (funext λ_=>?_);refine congr (congrArg _ ?_) (funext λc=>by obtain⟨e,c⟩:=c;cases e<;>rfl);refine congrArg _ (funext λ_=>funext λc=>?_);unfold y8;refine congr (congrArg _ ?_) ?_;all_goals
   refine congrArg _ (funext λ_=>?_);refine congrArg _ (funext λy=>?_);refine congrArg _ (funext λk=>?_);cases k with
   |none=>rfl|some k=>
    dsimp only;unfold Jl;refine congr (congrArg _ ?_) ?_
    .refine congrArg _ ?_;refine congrArg _ (funext λy=>?_);refine congrArg _ ?_;refine congrArg _ (funext λy=>?_);refine congrArg _ (funext λk=>?_);cases k<;>rfl
    .refine congrArg _ (funext λy=>?_);refine congrArg _ ?_;refine congrArg _ (funext λy=>?_);refine congrArg _ (funext λk=>?_);cases k<;>rfl
structure Ho(κ:ON)(a₀:Array MZ)(st:M4)(a b:Array MZ)(o0:Nat)(r:Option (Array MZ))(out:Array MZ)(na nb:Nat)(st':M4):Prop where
 g:Gs κ a₀ st st'
 n:r=Mu
 l:Hi a b out na nb
 a1:1<=na
 b1:2<=nb
 o:o0<out.size
inductive Hf(κ:ON)(a₀:Array MZ)(st:M4)(a b:Array MZ)(o0:Nat)(out:Array MZ)(na nb:Nat)(st':M4):Option (Array MZ)->Prop where|ret{z:Array MZ}(g:Gs κ a₀ st st')(p:z.Perm (a++b)):Hf κ a₀ st a b o0 out na nb st' (Mq z)|go(h:Ho κ a₀ st a b o0 Mu out na nb st'):Hf κ a₀ st a b o0 out na nb st' Mu
section
variable{st:M4}{a b:Array MZ}
noncomputable abbrev R7(κ:ON)(a₀:Array MZ)(st:M4)(a b:Array MZ)(e:Nat):ForInStep D7->M4->Prop:=λr d=>match r with
 |.done c=>Hf κ a₀ st a b e c.2.2.2.1 c.2.1 c.2.2.1 d c.1|.yield c=>Ho κ a₀ st a b e c.1 c.2.2.2.1 c.2.1 c.2.2.1 d
theorem tK(y:∀x∈a,x∈a₀){mg p n e j i:Nat}{c:Array MZ}{d:M4}(h:Ho κ a₀ st a b i Mu c e j d):SY (ML prog w) A E s (Ko a b mg p n e c j) (R7 κ a₀ st a b i) d:=by
 have m:=h.a1;have q:=h.l.ha;refine MI (ay (by omega) λv u ev=>?_);have k:=h.l.mP m ev;have t:(c.push v).size=c.size+1:=OJ ..;have r:=h.o;by_cases f:(e-1==0)=Mv
 .rw[if_pos f];exact MN (.ret h.g k.done)
 rw[if_neg f];have f:=aO f;have g:Ho κ a₀ st a b i Mu (c.push v) (e-1) j d:=⟨h.g,rfl,k,by omega,h.b1,by omega⟩;split;.exact MN (.go g)
 .exact MN g
theorem tL(C:Cm prog w A s κ a₀)(r:∀x∈a,x∈a₀)(q:∀x∈b,x∈a₀){mg D B u e t:Nat}{c:Array MZ}{d:M4}(h:Ho κ a₀ st a b t Mu c u e d):SY (ML prog w) A E s (Jl a b mg D B e c u) (R7 κ a₀ st a b t) d:=by
 have H:=h.b1;have G:=h.l.hb;have F:=h.a1;have y:=h.l.ha;refine MI (ay (by omega) λv K ev=>?_);have p:=h.l.mQ (by omega) ev;have J:(c.push v).size=c.size+1:=OJ ..;have I:=h.o;by_cases m:(e-1==1)=Mv
 .rw[if_pos m];exact MN (.ret h.g p.first)
 rw[if_neg m];have m:=aO m;refine MI (ay (by omega) λx z ex=>?_);refine MI (cg C h.g.b.k q (r x z) (by omega) (by omega) λk L=>?_);show SY _ _ _ _ (if e-1-k>0 then _ else _) _ _;by_cases f:e-1-k>0
 .rw[if_pos f];have n:=p.D9 (k:=k) (by omega);by_cases j:(k==1)=Mv
  .rw[if_pos j];exact MN (.ret h.g n.first)
  .rw[if_neg j];have j:=aO j;by_cases i:(k==0)=Mv
   .rw[if_pos i];exact MN (.ret h.g n.done)
   .rw[if_neg i];have i:=aO i;exact tK r ⟨h.g,rfl,n,h.a1,by omega,by rw[Qy];omega⟩
 .rw[if_neg f];exact tK r ⟨h.g,rfl,p,h.a1,by omega,by omega⟩
theorem tM(C:Cm prog w A s κ a₀)(l:∀x∈a,x∈a₀)(d:∀x∈b,x∈a₀){mg n:Nat}{c:D7}{e:M4}(h:Ho κ a₀ st a b n c.1 c.2.2.2.1 c.2.1 c.2.2.1 e):SY (ML prog w) A E s (y8 a b c mg) (R7 κ a₀ st a b n) e:=by
 obtain⟨K,o,I,z,B,M,L⟩:=c;obtain⟨u,t,g,r,m,q⟩:=h;dsimp only at u t g r m q;subst t;have H:=g.ha;have G:=g.hb;refine MI (jT u λv j=>?_);refine MI (ay (by dsimp only;omega) λy D J=>?_);refine MI (cg C j.b.k l (d y D) (by dsimp only;omega) (by dsimp only;omega) λk F=>?_);show SY _ _ _ _ (if o-k>0 then _ else _) _ _;dsimp only at F⊢;by_cases f:o-k>0
 .rw[if_pos f];have p:=g.D8 (k:=k) (by omega);by_cases i:(k==0)=Mv
  .rw[if_pos i];exact MN (.ret j p.done)
  rw[if_neg i];have i:=aO i;exact tL C l d ⟨j,rfl,p,by omega,m,by rw[Qy];omega⟩
 .rw[if_neg f];exact tL C l d ⟨j,rfl,g,r,m,q⟩
theorem An(C:Cm prog w A s κ a₀)(H:∀x∈a,x∈a₀)(q:∀x∈b,x∈a₀){mg u o:Nat}{c:D6}{d:M4}(h:Ho κ a₀ st a b o c.1 c.2.2.2.1 c.2.1 c.2.2.1 d)(M:u<=o):SY (ML prog w) A E s (vI a b mg c) (λr d=>match r with
  |.done g=>Hf κ a₀ st a b (u+1) g.2.2.2.1 g.2.1 g.2.2.1 d g.1|.yield g=>Ho κ a₀ st a b (o+1) g.1 g.2.2.2.1 g.2.1 g.2.2.1 d) d:=by
 obtain⟨O,F,D,e,Q,P⟩:=c;obtain⟨i,v,l,m,t,I⟩:=h;dsimp only at i v l m t I;subst v;have L:=l.ha;have K:=l.hb;refine MI (ay (by dsimp only;omega) λy p n=>?_);refine MI (ay (by dsimp only;omega) λz G N=>?_);refine MI (kU C i.b.k (q y p) (H z G) λJ=>?_);cases J with
 |true=>
  dsimp only;rw[if_pos rfl];refine MI (ay (by omega) λy p n=>?_);have j:=l.mP m n;have B:(e.push y).size=e.size+1:=OJ ..;by_cases f:(F-1==0)=Mv
  .rw[if_pos f];exact MN (.ret i j.done)
  .rw[if_neg f];have f:=aO f;split;.exact MN (.go ⟨i,rfl,j,by dsimp only;omega,t,by dsimp only;omega⟩)
   .exact MN ⟨i,rfl,j,by dsimp only;omega,t,by dsimp only;omega⟩|false=>
  dsimp only;rw[if_neg (by decide)];refine MI (ay (by omega) λy p n=>?_);have j:=l.mQ (by omega) n;have B:(e.push y).size=e.size+1:=OJ ..;by_cases f:(D-1==1)=Mv
  .rw[if_pos f];exact MN (.ret i j.first)
  .rw[if_neg f];have f:=aO f;split;.exact MN (.go ⟨i,rfl,j,m,by dsimp only;omega,by dsimp only;omega⟩)
   .exact MN ⟨i,rfl,j,m,by dsimp only;omega,by dsimp only;omega⟩
theorem Ao(C:Cm prog w A s κ a₀)(H:∀x∈a,x∈a₀)(m:∀x∈b,x∈a₀){i:Nat}{c:D5}{eQ:M4}(h:Ho κ a₀ st a b i c.1 c.2.2.2.1 c.2.1 c.2.2.1 eQ):SY (ML prog w) A E s (Kq a b c) (λr e=>match r with
  |.done q=>∃z,q.1=Mq z/\z.Perm (a++b)/\Gs κ a₀ st e|.yield q=>Ho κ a₀ st a b (i+1) q.1 q.2.2.2.1 q.2.1 q.2.2.1 e) eQ:=by
 refine MI (aY (λj(d:D6)e=>Ho κ a₀ st a b (i+j) d.1 d.2.2.2.1 d.2.1 d.2.2.1 e) (λd e=>Hf κ a₀ st a b (i+1) d.2.2.2.1 d.2.1 d.2.2.1 e d.1) ⟨h.g,rfl,h.l,h.a1,h.b1,h.o⟩ ?_ ?_ ?_)
 .rintro j d ba _ N g;exact Q5 (An C H m g (R4 _ _)) λr e h=>by cases r<;>exact h
 .rintro⟨I,G,F,k,K,J⟩ba g;obtain⟨B,y,n,v,u,D⟩:=g;dsimp only at B y n v u D;subst y;have:=n.size;exact .go ⟨B,rfl,n,v,u,by dsimp only;omega⟩
 .rintro⟨I,G,F,k,K,J⟩ba f;dsimp only at f⊢;cases f with
  |ret g p=>exact MN ⟨_,rfl,p,g⟩|go g=>
   refine MI (dk ?_);refine MI (aY (λj(d:D7)e=>Ho κ a₀ st a b (i+1) d.1 d.2.2.2.1 d.2.1 d.2.2.1 e) (λd e=>Hf κ a₀ st a b (i+1) d.2.2.2.1 d.2.1 d.2.2.1 e d.1) g ?_ ?_ ?_)
   .rintro j d t _ _ g;split;.exact Q5 (tM C H m g) λr e h=>by cases r<;>exact h
    .exact Q5 (tM C H m g) λr e h=>by cases r<;>exact h
   .rintro⟨I,G,F,k,mg,K,J⟩t g;obtain⟨B,y,n,v,u,D⟩:=g;dsimp only at B y n v u D;subst y;exact .go ⟨B,rfl,n,v,u,D⟩
   .rintro⟨I,G,F,k,mg,K,J⟩t f;dsimp only at f⊢;cases f with
    |ret g p=>exact MN ⟨_,rfl,p,g⟩|go g=>exact MI (jT g.g λL M=>MN ⟨M,rfl,g.l,g.a1,g.b1,g.o⟩)
theorem pO(C:Cm prog w A s κ a₀){Q:Array MZ->M4->Prop}(h:Bs κ a₀ st)(y:∀x∈a,x∈a₀)(m:∀x∈b,x∈a₀)(ha:0<a.size)(hb:0<b.size)(q:∀r d,r.Perm (a++b)->Gs κ a₀ st d->Q r d):SY (ML prog w) A E s (iB a b) Q st:=by
 rw[vd];refine MI (dk ?_);refine MI (ay (by omega) λx D ex=>?_);have k:Hi a b #[x] (a.size-1) b.size:=by
  have l:Hi a b #[] a.size b.size:=⟨by simp[NL],MO _,MO _⟩;exact l.mP ha ex
 have n:Gs κ a₀ st st:=⟨h,rfl,rfl⟩;by_cases f:(a.size-1==0)=Mv
 .rw[if_pos f];exact MN (q _ _ k.done n)
 rw[if_neg f];by_cases e:(b.size==1)=Mv
 .rw[if_pos e];exact MN (q _ _ k.first n)
 rw[if_neg e];have f:=aO f;have e:=aO e;refine MI (Qw ?_);refine MI (aY (λi(c:D5)d=>Ho κ a₀ st a b i c.1 c.2.2.2.1 c.2.1 c.2.2.1 d) (λc d=>∃z,c.1=Mq z/\z.Perm (a++b)/\Gs κ a₀ st d) ⟨n,rfl,k,by dsimp only;omega,by dsimp only;omega,by show 0<1;omega⟩ ?_ ?_ ?_)
 .rintro i c eQ _ _ g;exact Q5 (Ao C y m g) λr d h=>by cases r<;>exact h
 .rintro⟨B,v,u,j,mg⟩ba g;have:=g.l.size;have:=g.o;have:=g.a1;have:=g.b1;dsimp only at*;omega
 .rintro⟨B,v,u,j,mg⟩ba⟨z,t,p,g⟩;dsimp only at t⊢;subst t;exact MN (q z ba p g)
end
end
end SrtP
end
section
namespace SrtP
open PySem PyProof.Rows
inductive Runs:Nat->List (Nat×Nat×Nat)->Nat->Prop where|nil(s:Nat):Runs s [] s|cons{s n p e:Nat}{r:List (Nat×Nat×Nat)}(h:1<=n)(t:Runs (s+n) r e):Runs s ((s,n,p)::r) e
theorem Runs.le{s e:Nat}{l:List (Nat×Nat×Nat)}(h:Runs s l e):s<=e:=by induction h with
 |nil=>exact MO _|cons _ _ a=>omega
theorem Runs.snoc{s e n p:Nat}{l:List (Nat×Nat×Nat)}(h:Runs s l e)(b:1<=n):Runs s (l++[(e,n,p)]) (e+n):=by induction h with
 |nil s=>exact .cons b (.nil _)|cons h t a=>exact .cons h a
theorem Runs.mod{s e i:Nat}{l:List (Nat×Nat×Nat)}(pw:Nat)(h:Runs s l e):Runs s (l.modify i λx=>(x.1,x.2.1,pw)) e:=by induction h generalizing i with
 |nil s=>cases i<;>exact .nil s|cons h t a=>cases i with
  |zero=>exact .cons h t|succ i=>exact .cons h a
theorem Runs.two{s e:Nat}:∀{i:Nat}{l:List (Nat×Nat×Nat)},Runs s l e->i+1<l.length->∃b a p c q,l[i]?=Mq (b,a,p)/\l[i+1]?=Mq (b+a,c,q)/\1<=a/\1<=c/\b+a+c<=e/\Runs s ((l.set i (b,a+c,p)).eraseIdx (i+1)) e
 |i,[],h,d=>by simp at d|0,[_],h,d=>by simp at d|0,_::_::_,.cons (n:=n) (p:=p) f (.cons (n:=m) (p:=q) g t),d=>⟨_,n,p,m,q,rfl,rfl,f,g,t.le,.cons (by omega) (by rw[<-QR];exact t)⟩|i+1,_::_,.cons f t,d=>by
  obtain⟨b,a,p,c,q,v,u,r,o,k,j⟩:=t.two (i:=i) (by simpa using d);exact⟨b,a,p,c,q,by simpa using v,by simpa using u,r,o,k,.cons f j⟩
theorem pP:∀(m pre c b:List MZ)(k:Nat),c.length=m.length->∀(xs:Array MZ),xs.toList=pre++c++b->k<=pre.length->((m.zipIdx k).foldl (λa(x:MZ×Nat)=>a.setIfInBounds (pre.length-k+x.2) x.1) xs).toList=pre++m++b
 |[],pre,c,b,k,h,xs,e,_=>by cases c with
  |nil=>exact e|cons _ _=>simp at h
 |y::m,pre,[],b,k,h,xs,e,_=>by simp at h|y::m,pre,z::c,b,k,h,xs,e,g=>by
  simp only[R3,List.foldl_cons];have f:(xs.setIfInBounds (pre.length-k+k) y).toList=(pre++[y])++c++b:=by
   rw[show pre.length-k+k=pre.length by omega,Ru,e];simp
  have:=pP m (pre++[y]) c b (k+1) (by simpa using h) _ f (by simp;omega);have d:(pre++[y]).length-(k+1)=pre.length-k:=by simp
  rw[d]at this;rw[this];simp
section
variable{prog:MQ}{w:M6}{A:Nf}{E:Mt->Mz->Prop}{s:Mz}{κ:ON}{a₀:Array MZ}
theorem pQ(i:Nat):mergeAt' i=(do
 let s<-get
 let(Mq (b,e,c),Mq (f,d,_)):=((MS s)[i]?,(MS s)[i+1]?)|unsupported "internal:list.sort.pending"
 set (setPending s (((MS s).setIfInBounds i (b,e+d,c)).eraseIdxIfInBounds (i+1)))
 let Mq k<-bL Mw (<-Ol (OO s) f) (OO s) b e 0|return Mw
 let(b,e):=(b+k,e-k)if e==0 then return Mv
 let Mq d<-bL Mv (<-Ol (OO s) (b+e-1)) (OO s) f d (d-1)|return Mw
 if d==0 then return Mv
 let x:=(OO s).extract b f;let y:=(OO s).extract f (f+d)let merged<-if e<=d then iA x y else iB x y
 modify λs=>setArr s (merged.toList.zipIdx.foldl (λa(p,j)=>a.setIfInBounds (b+j) p) (OO s))return(Te (<-get)).isNone):=rfl
theorem tN{xs:Array MZ}{i j:Nat}{z:MZ}(h:z∈xs.extract i j):z∈xs:=by
 rw[<-Q4,O8,Ot]at h;exact Array.mem_toList_iff.mp (List.mem_of_mem_drop (List.mem_of_mem_take h))
theorem Aq{Q:PUnit->M4->Prop}{st a:M4}(h:Q ⟨⟩ a):SY (ML prog w) A E s (set a:StateT M4 Rw PUnit) Q st:=by
 unfold SY;rw[StateT.run_set];exact Mx ⟨rfl,h⟩
theorem fE(C:Cm prog w A s κ a₀){st:M4}{i lo:Nat}{Q:Bool->M4->Prop}(h:Bs κ a₀ st)(N:Runs 0 (MS st).toList lo)(U:lo<=a₀.size)(J:i+1<(MS st).size)(q:∀t,Bs κ a₀ t->Runs 0 (MS t).toList lo->Q Mv t):SY (ML prog w) A E s (mergeAt' i) Q st:=by
 obtain⟨c,d,p,G,L,T,S,Y,X,W,R⟩:=N.two (i:=i) (by simpa using J);rw[pQ];refine MI (Qw ?_);rw[show(MS st)[i]?=Mq (c,d,p)by rw[<-N6];exact T,show(MS st)[i+1]?=Mq (c+d,G,L)by rw[<-N6];exact S];dsimp only;refine MI (Aq ?_);have M:=h.size;generalize l:setPending st (((MS st).setIfInBounds i (c,d+G,p)).eraseIdxIfInBounds (i+1))=eQ;have b1:Bs κ a₀ eQ:=by subst l;exact⟨h.k,h.p,h.f⟩
 have F:Runs 0 (MS eQ).toList lo:=by
  subst l;show Runs 0 (((MS st).setIfInBounds i (c,d+G,p)).eraseIdxIfInBounds (i+1)).toList lo;rw[Array.eraseIdxIfInBounds_eq,dif_pos (by rw[Array.size_setIfInBounds];exact J),Array.toList_eraseIdx,Ru];exact R
 have a1:OO eQ=OO st:=by subst l;rfl
 clear l;refine MI (ay (by omega) λx B _=>?_);refine MI (cg C b1.k (λy o=>h.mem o) (h.mem B) (by omega) (by omega) λk V=>?_);dsimp only;by_cases D:(d-k==0)=Mv
 .rw[if_pos D];exact MN (q eQ b1 F)
 rw[if_neg D];have D:=aO D;refine MI (ay (by omega) λy o _=>?_);refine MI (cg C b1.k (λy o=>h.mem o) (h.mem o) (by omega) (by omega) λm O=>?_);dsimp only;by_cases n:(m==0)=Mv
 .rw[if_pos n];exact MN (q eQ b1 F)
 rw[if_neg n];have n:=aO n;have B:0<((OO st).extract (c+k) (c+d)).size:=by rw[TR];omega
 have o:0<((OO st).extract (c+d) (c+d+m)).size:=by rw[TR];omega
 have mx:∀z∈(OO st).extract (c+k) (c+d),z∈a₀:=λz H=>h.mem (tN H);have I:∀z∈(OO st).extract (c+d) (c+d+m),z∈a₀:=λz H=>h.mem (tN H);have v:∀(r:Array MZ)(ba:M4),r.Perm ((OO st).extract (c+k) (c+d)++(OO st).extract (c+d) (c+d+m))->Gs κ a₀ eQ ba->SY (ML prog w) A E s (do
   modify λs=>setArr s (r.toList.zipIdx.foldl (λa(x:MZ×Nat)=>match x with|(p,j)=>a.setIfInBounds (c+k+j) p) (OO s))let __do_lift<-get;pure (Te __do_lift).isNone) Q ba:=λr ba u g=>by
  refine MI (Po ?_);refine MI (Qw ?_);have P:(Te (setArr ba (r.toList.zipIdx.foldl (λa(x:MZ×Nat)=>match x with|(p,j)=>a.setIfInBounds (c+k+j) p) (OO ba)))).isNone=Mv:=by
   show(Te ba).isNone=Mv;rw[g.b.f];rfl
  rw[P];refine MN (q _ ⟨g.b.k,?_,g.b.f⟩ ?_)
  .show(r.toList.zipIdx.foldl (λa(x:MZ×Nat)=>match x with|(p,j)=>a.setIfInBounds (c+k+j) p) (OO ba)).Perm a₀;rw[g.e,a1];refine Array.Perm.trans ?_ h.p;rw[Om];have K:=pP r.toList ((OO st).toList.take (c+k)) (((OO st).extract (c+k) (c+d)++(OO st).extract (c+d) (c+d+m)).toList) ((OO st).toList.drop (c+d+m)) 0 (by rw[NQ,NQ];exact u.size_eq.symm) (OO st) ?_ (ND _)
   .rw[show((OO st).toList.take (c+k)).length-0=c+k by simp;omega]at K;refine N9 (O2 K) ?_;refine N9 (Pp _ (Nn _ u.toList)) (O2 ?_);rw[NF,<-M5,<-d9 _ (by omega),<-d9 _ (by omega),PH]
   .rw[NF,<-M5,<-d9 _ (by omega),<-d9 _ (by omega),PH]
  .show Runs 0 (MS ba).toList lo;rw[g.p];exact F
 split;.exact MI (pL C b1 mx I B o λr ba u g=>v r ba u g)
 .exact MI (pO C b1 mx I B o λr ba u g=>v r ba u g)
end
end SrtP
end
section
namespace SrtP
open PySem PyProof.Rows
section
variable{prog:MQ}{w:M6}{A:Nf}{E:Mt->Mz->Prop}{s:Mz}{κ:ON}{a₀:Array MZ}
theorem kW:∀(f n r:Nat),1<=n->1<=minRun' f n r
 |0,n,r,h=>by show 1<=n+r;omega|f+1,n,r,h=>by
  rw[minRun'_succ];split;.omega
  .exact kW f _ _ (by omega)
theorem D_(c:Prop)[Decidable c]{n:Nat}(h:2<=n):(if c then n-2-1 else n-2)+1<n:=by split<;>omega
theorem xp(C:Cm prog w A s κ a₀){st:M4}{Q:Unit->M4->Prop}(h:Bs κ a₀ st)(g:MS st=#[])(q:∀a,Bs κ a₀ a->Q () a):SY (ML prog w) A E s sortRuns' Q st:=by
 rw[sortRuns'_eq];refine MI (Qw ?_);have D:=h.size;dsimp only;rw[D];refine MI (aY (λ_(c:Option Unit×Nat)a=>c.1=Mu/\Bs κ a₀ a/\Runs 0 (MS a).toList c.2/\c.2<=a₀.size) (λc a=>c.1=Mu/\Bs κ a₀ a/\∃lo,Runs 0 (MS a).toList lo/\lo<=a₀.size) ⟨rfl,h,by rw[g];exact .nil _,ND _⟩ ?_ (λc a z=>⟨z.1,z.2.1,_,z.2.2⟩) ?_)
 .rintro i⟨T,lo⟩eQ _ _⟨u,b1,r,l⟩;dsimp only at u r l⊢;subst u;by_cases I:lo>=a₀.size
  .rw[if_pos I];exact MN ⟨rfl,b1,lo,r,l⟩
  .rw[if_neg I];refine MI (va C b1 (by omega) (by omega) λn ba t S b N=>?_);have d:Runs 0 (MS ba).toList lo:=by rw[N];exact r
   dsimp only;have F:=kW a₀.size a₀.size 0 (by omega);generalize minRun' a₀.size a₀.size 0=B at F⊢;by_cases H:n<B
   .rw[if_pos H];refine MI (dk ?_);have hN:1<=min (a₀.size-lo) B:=by omega
    have v:lo+min (a₀.size-lo) B<=a₀.size:=by omega
    generalize min (a₀.size-lo) B=m at hN v⊢;refine MI (Ak C b v λe j M=>?_);have o:Runs 0 (MS e).toList lo:=by rw[M];exact d
    simp only[Oe,MV,if_false];refine MI (Qw ?_);cases G:(MS e).back? with
    |none=>
     dsimp only;refine MI (Po (MN ⟨rfl,⟨j.k,j.p,j.f⟩,?_,by dsimp only;omega⟩));show Runs 0 ((MS e).push (lo,m,0)).toList (lo+m);rw[Oo];exact o.snoc hN|some x=>
     obtain⟨s1,n1,O⟩:=x;dsimp only;refine MI (aY (λ_ c a=>c=(Mu,())/\Bs κ a₀ a/\Runs 0 (MS a).toList lo) (λc a=>c=(Mu,())/\Bs κ a₀ a/\Runs 0 (MS a).toList lo) ⟨rfl,j,o⟩ ?_ (λ_ _ z=>z) ?_)
     .rintro i c ba _ _⟨rfl,b,d⟩;refine MI (Qw ?_);by_cases g:(MS ba).size>1
      .rw[if_pos g];cases R:(MS ba)[(MS ba).size-2]? with
       |none=>exact MN ⟨rfl,b,d⟩|some y=>
        obtain⟨L,K,J⟩:=y;dsimp only;split;.exact MN ⟨rfl,b,d⟩
        .refine MI (fE C b d (by omega) (by omega) λe j o=>?_);exact MN ⟨rfl,j,o⟩
      .rw[if_neg g];exact MN ⟨rfl,b,d⟩
     .rintro c ba⟨rfl,b,d⟩;dsimp only;refine MI (Po (MI (Po (MN ⟨rfl,⟨b.k,b.p,b.f⟩,?_,by dsimp only;omega⟩))));show Runs 0 (((MS ba).modify ((MS ba).size-1) _).push (lo,m,0)).toList (lo+m);rw[Oo,Tr];exact(d.mod _).snoc hN
   .rw[if_neg H];refine MI (Qw ?_);cases G:(MS ba).back? with
    |none=>
     dsimp only;refine MI (Po (MN ⟨rfl,⟨b.k,b.p,b.f⟩,?_,by dsimp only;omega⟩));show Runs 0 ((MS ba).push (lo,n,0)).toList (lo+n);rw[Oo];exact d.snoc t|some x=>
     obtain⟨s1,n1,O⟩:=x;dsimp only;refine MI (aY (λ_ c a=>c=(Mu,())/\Bs κ a₀ a/\Runs 0 (MS a).toList lo) (λc a=>c=(Mu,())/\Bs κ a₀ a/\Runs 0 (MS a).toList lo) ⟨rfl,b,d⟩ ?_ (λ_ _ z=>z) ?_)
     .rintro i c ba _ _⟨rfl,b,d⟩;refine MI (Qw ?_);by_cases g:(MS ba).size>1
      .rw[if_pos g];cases R:(MS ba)[(MS ba).size-2]? with
       |none=>exact MN ⟨rfl,b,d⟩|some y=>
        obtain⟨L,K,J⟩:=y;dsimp only;split;.exact MN ⟨rfl,b,d⟩
        .refine MI (fE C b d (by omega) (by omega) λe j o=>?_);exact MN ⟨rfl,j,o⟩
      .rw[if_neg g];exact MN ⟨rfl,b,d⟩
     .rintro c ba⟨rfl,b,d⟩;dsimp only;refine MI (Po (MI (Po (MN ⟨rfl,⟨b.k,b.p,b.f⟩,?_,by dsimp only;omega⟩))));show Runs 0 (((MS ba).modify ((MS ba).size-1) _).push (lo,n,0)).toList (lo+n);rw[Oo,Tr];exact(d.mod _).snoc t
 .rintro⟨T,P⟩eQ⟨u,b1,lo,r,l⟩;dsimp only at u⊢;subst u;refine MI (aY (λ_ c a=>c=(Mu,())/\Bs κ a₀ a/\Runs 0 (MS a).toList lo) (λc a=>c=(Mu,())/\Bs κ a₀ a/\Runs 0 (MS a).toList lo) ⟨rfl,b1,r⟩ ?_ (λ_ _ z=>z) ?_)
  .rintro i c ba _ _⟨rfl,b,d⟩;refine MI (Qw ?_);by_cases g:(MS ba).size<=1
   .rw[if_pos g];exact MN ⟨rfl,b,d⟩
   .rw[if_neg g];refine MI (fE C b d l (D_ _ (by omega)) λe j o=>?_);exact MN ⟨rfl,j,o⟩
  .rintro c ba⟨rfl,b,d⟩;exact MN (q ba b)
end
end SrtP
end
section
namespace SrtP
open PySem PySem.W PyProof.Rows L2
noncomputable def Kept(a:MB)(h h':M7):Prop:=∀b o,b≠a->h.get? b=Mq o->h'.get? b=Mq o
noncomputable abbrev fb(h h':M7):Prop:=∀b o,h.get? b=Mq o->h'.get? b=Mq o
section
variable{prog:MQ}{w:M6}{A:Nf}{E:Mt->Mz->Prop}{s:Mz}
theorem pR(a:List Mt):(a.toArray.zip a.toArray).toList=a.map λv=>(v,v):=by
 rw[Array.toList_zip];induction a with
 |nil=>rfl|cons v r b=>simpa using b
theorem kX{a:MB}{d:List Mt}{n:Nat}{P:PySem.Fin->Mz->Prop}{F:ON}(D:s.heap.get? a=Mq (P2 "list" d.toArray n))(N:d.length<=MA)(S:2<=d.length->∀h',Kept a s.heap h'->(∀Q':ON->Mz->Prop,Q' F {s with heap:=h'}->wpAny (ML prog w) A (keyKind' d.toArray) Q' (λ_ _=>False) {s with heap:=h'})/\∀x∈d,∀y∈d,∀(Q:Bool->Mz->Prop)(E:Mt->Mz->Prop),(∀b,Q b {s with heap:=h'})->wpAny (ML prog w) A (keyLt' F x y) Q E {s with heap:=h'})(h:∀(us:List Mt)(h':M7)(c:Nat),us.Perm d->Kept a s.heap h'->h'.get? a=Mq (P2 "list" us.toArray c)->P (.done (.ret .none)) {s with heap:=h'}):wpAny (ML prog w) A (Builtin.«list.sort» ⟨[.ref a],[]⟩) P E s:=by
 have ha:a<s.heap.objs.size:=MM D;have s1:=OM s.heap a (OG λ_=>(#[]:Array Mt));obtain⟨H,r⟩:∃H,(s.heap.update a (OG λ_=>(#[]:Array Mt))).get? a=Mq (P2 "list" #[] H):=⟨_,SJ D λ_=>#[]⟩;rw[list_sort_plain];refine Ms (listItems_at D rfl ?_);refine Ms (Tw D rfl ?_ (by rw[MJ];exact N) (ND _));refine Ms (Uo r rfl ?_);refine Ms (Td ?_ (by show d.length<=_;exact N));refine Ms (wpAny_newList ?_ (ND _));refine Na ?_;show wpAny (ML prog w) A _ P E {s with heap:=((s.heap.update a (OG λ_=>(#[]:Array Mt))).push (P2 "tuple" d.toArray 0)).push (P2 "list" #[] 0)};generalize t:((s.heap.update a (OG λ_=>(#[]:Array Mt))).push (P2 "tuple" d.toArray 0)).push (P2 "list" #[] 0)=m;have J:Kept a s.heap m:=λb o hb e=>by
  rw[<-t];exact My _ (My _ ((s1.2 b hb).trans e))
 have i:m.get? a=Mq (P2 "list" #[] H):=by
  rw[<-t];exact My _ (My _ r)
 dsimp only;have B:∀(us:Array Mt),us.toList.Perm d->∀l,(m.update a (OG λ_=>us)).get? a=Mq (P2 "list" us l)->P (.done (.ret .none)) {s with heap:=m.update a (OG λ_=>us)}:=λus hu l T=>h us.toList _ l hu (λb o hb e=>((OM m a _).2 b hb).trans (J b o hb e)) T;have fz:∀(us:Array Mt),us.toList.Perm d->us.size<=MA+1:=λus hu=>by have:=hu.length_eq;rw[NQ]at this;omega
 have K:((d.toArray.zip d.toArray).map (·.2)).toList=d:=by
  rw[R6,pR,M_];exact Up _
 by_cases z:d.toArray.size<2
 .rw[if_pos z,if_pos z];refine Ms (Mx ?_);rw[StateT.run_pure];refine Ms (Mx ?_);dsimp only;have hu:((OO (TQ general' (d.toArray.zip d.toArray) #[] 7 Mu)).map (·.2)).toList.Perm d:=O2 K;generalize(OO (TQ general' (d.toArray.zip d.toArray) #[] 7 Mu)).map (·.2)=us at hu⊢;obtain⟨l,q⟩:∃l,(m.update a (OG λ_=>us)).get? a=Mq (P2 "list" us l):=⟨_,SJ i λ_=>_⟩;refine Ms (Uo i rfl ?_);refine Ms (Tw i rfl ?_ (ND _) (fz us hu));simp only[bne_self_eq_false,MV,if_false];exact Mx (B us hu l q)
 .rw[if_neg z,if_neg z];have G:2<=d.length:=by
   have:¬d.length<2:=by simpa using z
   omega
  obtain⟨O,C⟩:=S G m J;refine Ms (Og (O (λj I=>j=F/\I={s with heap:=m}) ⟨rfl,rfl⟩) (λj W U=>?_) λ_ _ x=>x.elim);obtain⟨rfl,rfl⟩:=U;have V:Cm prog w A {s with heap:=m} j (d.toArray.zip d.toArray):=λx M y L=>by
   rw[<-Q4,pR]at M L;obtain⟨v,R,rfl⟩:=List.mem_map.mp M;obtain⟨u,hu,rfl⟩:=List.mem_map.mp L;exact C v R u hu
  refine Ms (Og (xp (st:=TQ j (d.toArray.zip d.toArray) #[] 7 Mu) (Q:=λ_ k=>Bs j (d.toArray.zip d.toArray) k) V ⟨rfl,Array.Perm.refl _,rfl⟩ rfl λk b=>b) ?_ λ_ _ e=>e);rintro⟨⟨⟩,k⟩I⟨rfl,b⟩;dsimp only;have hu:((OO k).map (·.2)).toList.Perm d:=by
   rw[R6];refine(b.p.toList.map _).trans (O2 ?_);rw[<-R6];exact K
  rw[b.f];generalize(OO k).map (·.2)=us at hu⊢;obtain⟨l,q⟩:∃l,(m.update a (OG λ_=>us)).get? a=Mq (P2 "list" us l):=⟨_,SJ i λ_=>_⟩;refine Ms (Uo i rfl ?_);refine Ms (Tw i rfl ?_ (ND _) (fz us hu));simp only[bne_self_eq_false,MV,if_false];exact Mx (B us hu l q)
structure Ar(prog:MQ)(w:M6)(A:Nf)(vals:List Mt)(κ:ON)(s:Mz):Prop where
 kind:2<=vals.length->∀h',fb s.heap h'->∀Q':ON->Mz->Prop,Q' κ {s with heap:=h'}->wpAny (ML prog w) A (keyKind' vals.toArray) Q' (λ_ _=>False) {s with heap:=h'}cmp:2<=vals.length->∀h',fb s.heap h'->∀x∈vals,∀y∈vals,∀(Q:Bool->Mz->Prop)(E:Mt->Mz->Prop),(∀b,Q b {s with heap:=h'})->wpAny (ML prog w) A (keyLt' κ x y) Q E {s with heap:=h'}
theorem pS{v:Mt}{Q:Mt->Mz->Prop}(h:wpAny (ML prog w) A.in1 (US v) (λvals s1=>vals.length<=MA/\∃d,Ar prog w A.in1.in1 vals d s1/\∀(us:List Mt)(h':M7)(c:Nat),us.Perm vals->fb s1.heap h'->h'.get? s1.heap.objs.size=Mq (P2 "list" us.toArray c)->Q (.ref s1.heap.objs.size) {s1 with heap:=h'}) E s):wpAny (ML prog w) A (call (.builtin "sorted") [v]) Q E s:=by
 refine Calls.call_function_entry kind_sorted plain_sorted entry_sorted (args_sorted1 _) ?_;unfold Builtin.«sorted»;refine Ms (m:=checkCount "sorted" 1 1 _) (Mx ?_);refine Ms (Og h (λvals s1 i=>?_) λ_ _ e=>e);obtain⟨f,d,K,q⟩:=i;refine Ms (wpAny_newList ?_ f);have a:(s1.heap.push (P2 "list" vals.toArray 0)).get? s1.heap.objs.size=Mq (P2 "list" vals.toArray 0):=MK _ rfl;have keep:∀h',Kept s1.heap.objs.size (s1.heap.push (P2 "list" vals.toArray 0)) h'->fb s1.heap h':=λh' k b o e=>k b o (M3 (MM e)) (My _ e);refine Ms (Na (Nr slot_list_sort ⟨_,a,rfl⟩ entry_list_sort ?body (args_list_sort _)));case body=>
  refine kX (s:={s1 with heap:=s1.heap.push (P2 "list" vals.toArray 0)}) a f (λg h' k=>⟨K.kind g h' (keep h' k),K.cmp g h' (keep h' k)⟩) λus h' c v k e=>⟨_,rfl,?_⟩;exact Mx ⟨_,rfl,q us h' c v (keep h' k) e⟩
end
end SrtP
end
section
namespace SrtP
open PySem PySem.W PyProof.Rows L2
section
variable{prog:MQ}{w:M6}{A:Nf}{E:Mt->Mz->Prop}{s:Mz}
noncomputable def pT(h:M7)(v:Mt)(k:List Int):Prop:=∃a b,v=.ref a/\S0 h a (List.toArray b)/\O6 b k
noncomputable def TT(h:M7)(v:Mt):Prop:=∃k,k≠[]/\pT h v k
theorem pT.grown{h h':M7}{v:Mt}{k:List Int}(t:pT h v k)(g:fb h h'):pT h' v k:=by
 obtain⟨a,b,e,⟨o,c,r⟩,d⟩:=t;exact⟨a,b,e,⟨o,g _ _ c,r⟩,d⟩
theorem TT.grown{h h':M7}{v:Mt}(t:TT h v)(g:fb h h'):TT h' v:=let⟨k,a,t⟩:=t;⟨k,a,t.grown g⟩
theorem pU{h:M7}{M:Uh}:∀{vals:List Mt},(∀v∈vals,TT h v)->∃fs:List Mt,KatTups h vals fs/\fs.length=vals.length/\∀v∈fs,Looks M h (UO v) (.type "int")
 |[],_=>⟨[],trivial,rfl,λv b=>by cases b⟩|v::r,H=>by
  obtain⟨fs,p,m,l⟩:=pU (M:=M) (vals:=r) λu hu=>H u (MH _ hu);obtain⟨k,f,a,d,rfl,⟨o,e,j,n,hd⟩,g⟩:=H v ME;cases g with
  |nil=>exact absurd rfl f|cons i c r=>
   refine⟨.int i c::fs,KatTups.cons e j hd (by simp) p,by simp[m],λv b=>?_⟩;rcases List.mem_cons.mp b with z|z;.rw[z];exact SortM.u0 i c
   .exact l v z
theorem Ea{vals:List Mt}(t:∀v∈vals,TT s.heap v):Ar prog w A vals (tuples' Mv) s where
 kind:=λB e g I q=>by
  obtain⟨fs,C,H,z⟩:=pU (M:=ML prog w) λv p=>(t v p).grown g;exact kat_kind (s:={s with heap:=e}) C (by omega) z (by decide) q
 cmp:=λB e g x m y l Q E q=>by
  obtain⟨k,_,a,j,rfl,⟨o,r,G,n,hd⟩,h⟩:=(t x m).grown g;obtain⟨F,_,b,i,rfl,⟨D,c,u,n2,d⟩,f⟩:=(t y l).grown g;refine kat_lt (s:={s with heap:=e}) r hd c d (SortM.sY _ _ _ _ 0 h f ?_ (q _));rw[MJ,MJ,h.length,f.length,decide_eq_true_iff]
theorem items_int{a:List Mt}{k:List Int}(h:O6 a k):ItemsAre (ax prog w) (k.map QP) a:=by induction h with
 |nil=>exact .nil|cons i b _ c=>exact .cons (jn prog w i b) c
theorem pT.key{h:M7}{v:Mt}{k:List Int}(t:pT h v k):∃a,v=.ref a/\IsTupleKey (ax prog w) h (k.map QP) a:=by
 obtain⟨a,b,e,⟨o,c,f,n,hd⟩,d⟩:=t;exact⟨a,e,o,_,n,c,f,hd,by simpa using items_int d⟩
end
end SrtP
end
section
namespace SrtP
open PySem PySem.W PyProof.Rows L2
section
variable{prog:MQ}{w:M6}{A:Nf}{E:Mt->Mz->Prop}{s:Mz}
inductive iC(h:M7):List Mt->List Nat->Prop|nil:iC h [] []|int(i:Int)(tk:UJ){vs:List Mt}{g:List Nat}(r:iC h vs g):iC h (.int i tk::vs) (0::g)|str(x:MR)(tk:UJ){vs:List Mt}{g:List Nat}(r:iC h vs g):iC h (.str x tk::vs) (1::g)|tup{u:Mt}{k:List Int}(t:pT h u k){vs:List Mt}{g:List Nat}(r:iC h vs g):iC h (u::vs) (2::g)
theorem iC.grown{h h':M7}(q:fb h h'){c:List Mt}{g:List Nat}(t:iC h c g):iC h' c g:=by induction t with
 |nil=>exact .nil|int i b _ a=>exact .int i b a|str x b _ a=>exact .str x b a|tup t _ a=>exact .tup (t.grown q) a
noncomputable def OT(g:List Nat)(h:M7)(v:Mt):Prop:=∃a b,v=.ref a/\S0 h a (List.toArray b)/\iC h b g
theorem OT.grown{g:List Nat}{h h':M7}{v:Mt}(t:OT g h v)(q:fb h h'):OT g h' v:=by
 obtain⟨a,b,e,⟨o,c,r⟩,d⟩:=t;exact⟨a,b,e,⟨o,q _ _ c,r⟩,d.grown q⟩
theorem vf{M:Uh}{h:M7}(n:MR)(t:UJ):Looks M h (UO (.str n t)) (.type "str"):=λA Q E s _ q=>Mx q
theorem pV{g:List Nat}{h:M7}{M:Uh}:∀{vals:List Mt},(∀v∈vals,OT (1::g) h v)->∃fs:List Mt,KatTups h vals fs/\fs.length=vals.length/\∀v∈fs,Looks M h (UO v) (.type "str")
 |[],_=>⟨[],trivial,rfl,λv b=>by cases b⟩|v::r,H=>by
  obtain⟨fs,l,k,j⟩:=pV (M:=M) (vals:=r) λu hu=>H u (MH _ hu);obtain⟨a,d,rfl,⟨o,e,i,n,hd⟩,f⟩:=H v ME;cases f with|str x c r=>
   refine⟨.str x c::fs,KatTups.cons e i hd (by simp) l,by simp[k],λv b=>?_⟩;rcases List.mem_cons.mp b with z|z;.rw[z];exact vf x c
   .exact j v z
theorem tO{Q:Bool->Mz->Prop}{c:Bool}(hu:A.units<NB)(q:∀b,Q b s):∀{xs ys:List Mt}{g:List Nat}(i:Nat),iC s.heap xs g->iC s.heap ys g->KatLex prog w A Mv c Q (xs.zip ys) (i+1) s
 |_,_,_,i,.nil,.nil=>q c|_,_,_,i,.int a t h,.int b u d=>UG (RR (by cases a==b with
  |true=>exact Us (tO hu q (i+1) h d)|false=>exact UQ (UR _ _ (Tq (q _)))))|_,_,_,i,.str a t h,.str b u d=>UG (R8 (by cases a==b with
  |true=>exact Us (tO hu q (i+1) h d)|false=>exact UQ (UR _ _ (Ts (q _)))))|x::xs,y::ys,_,i,.tup f h,.tup ty d=>by
  obtain⟨a,z,m⟩:=f.key (prog:=prog) (w:=w);obtain⟨b,v,l⟩:=ty.key (prog:=prog) (w:=w);have go:∀e,KatGo prog w A Mv c Q x y (xs.zip ys) (i+1) e s:=λe=>by cases e with
   |true=>exact Us (tO hu q (i+1) h d)|false=>
    refine UQ ?_;obtain⟨C,o,rfl,k,r⟩:=f;obtain⟨B,n,rfl,j,p⟩:=ty;exact UR _ _ (HT.j_ k j (by simpa using r) (by simpa using p) hu (q _))
  subst z v;exact TL hu m l (go _)
theorem Eb{g:List Nat}{vals:List Mt}(hu:A.units<NB)(t:∀v∈vals,OT (1::g) s.heap v):Ar prog w A vals (tuples' Mv) s where
 kind:=λF e g K q=>by
  obtain⟨fs,G,J,D⟩:=pV (M:=ML prog w) λv p=>(t v p).grown g;exact kat_kind (s:={s with heap:=e}) G (by omega) D (by decide) q
 cmp:=λF e g x m y l Q E q=>by
  obtain⟨a,k,rfl,⟨o,r,I,n,hd⟩,B⟩:=(t x m).grown g;obtain⟨b,j,rfl,⟨H,f,C,n2,i⟩,z⟩:=(t y l).grown g;refine kat_lt (s:={s with heap:=e}) r hd f i ?_;cases B with|str c t h=>cases z with|str d u e=>exact UG (R8 (by cases c==d with
     |true=>exact Us (tO hu q 0 h e)|false=>exact UQ (oneLt_str (q _))))
end
end SrtP
end
section
namespace L2
open PySem PySem.Spec PyProof.Rows
section
variable{X:Cx}{F:Fx}
noncomputable def xq:D->Bool
 |.tup []=>Mw|.tup a=>a.all GV|_=>Mw
noncomputable def vg:List Nat->List D->Bool
 |[],[]=>Mv|0::g,.int _::r=>vg g r|1::g,.str _::r=>vg g r|2::g,.tup a::r=>a.all GV&&vg g r|_,_=>Mw
noncomputable def Ec:D->Bool
 |.tup a=>vg [1,1,2,0,0,0] a|_=>Mw
noncomputable def d_(ds:List D):Bool:=ds.all xq||ds.all Ec
noncomputable def kY:D->Option (List D)
 |.lst a=>Mq a|.aW ks _=>Mq ks|_=>Mu
noncomputable def nS(d:D):M D:=do
 let a<-M.get (kY d)M.need (a.length<=MA/\d_ a=Mv)let l<-M.any λl=>l.Perm a;pure (.lst l)
theorem As{d:D}(h:GV d=Mv):∃i,d=.int i:=by cases d<;>first|exact⟨_,rfl⟩|cases h
theorem tP:∀{ds:List D},ds.all GV=Mv->∃ns:List Int,ds=ns.map D.int
 |[],_=>⟨[],rfl⟩|d::ds,h=>by
  rw[PD,MG]at h;obtain⟨i,rfl⟩:=As h.1;obtain⟨ns,rfl⟩:=tP h.2;exact⟨i::ns,rfl⟩
theorem kZ{B:Fb}{H:Hp}:∀{a:List V}{ns:List Int},af B H a (ns.map D.int)->a=ns.map V.int
 |_,[],h=>by simp only[Oi,af]at h;rw[h];rfl|_,n::ns,h=>by
  simp only[MT,af,Is]at h;obtain⟨x,c,rfl,rfl,b⟩:=h;rw[kZ b];rfl
section
variable{pins:List (MB×NI)}{σ:St}{H:Hp}{s:Mz}
theorem tQ(I:Inv X pins σ H s)(hK:X.K=F.K){v:V}{u:Mt}{xs:List D}(r:RelV v u)(i:Is F.toFb H v (.tup xs))(h:xs.all GV=Mv):∃ns:List Int,xs=ns.map D.int/\SrtP.pT s.heap u ns:=by
 obtain⟨ns,rfl⟩:=tP h;simp only[Is]at i;obtain⟨a,g,rfl,c,e⟩:=i;cases(show u=M8 a from r);have:=kZ e;subst this;obtain⟨b,d,f,_⟩:=I.tuple (show iQ X.K H a _ by rw[hK];exact c.2);exact⟨ns,rfl,a,b,rfl,f,intsAre_of d⟩
theorem Ha(I:Inv X pins σ H s)(hK:X.K=F.K){v:V}{u:Mt}{d:D}(r:RelV v u)(i:Is F.toFb H v d)(h:xq d=Mv):SrtP.TT s.heap u:=by match d,h,i with
 |.tup (x::a),h,i=>
  obtain⟨ns,e,t⟩:=tQ I hK r i h;refine⟨ns,λz=>?_,t⟩;rw[z]at e;cases e
theorem nT(I:Inv X pins σ H s)(hK:X.K=F.K):∀{g:List Nat}{ds:List D}{j:List V}{us:List Mt},vg g ds=Mv->af F.toFb H j ds->au j us->SrtP.iC s.heap us g
 |[],[],_,_,_,a,b=>by
  simp only[af]at a;subst a;cases b;exact .nil|0::g,.int i::ds,_,_,h,a,b=>by
  simp only[af,Is]at a;obtain⟨x,f,rfl,rfl,e⟩:=a;cases b with|cons d c=>
   obtain⟨k,rfl⟩:=d;exact .int _ _ (nT I hK (g:=g) h e c)|1::g,.str i::ds,_,_,h,a,b=>by
  simp only[af,Is]at a;obtain⟨x,f,rfl,rfl,e⟩:=a;cases b with|cons d c=>
   obtain⟨k,rfl⟩:=d;exact .str _ _ (nT I hK (g:=g) h e c)|2::g,.tup m::ds,_,_,h,a,b=>by
  simp only[af]at a;obtain⟨x,f,rfl,l,e⟩:=a;simp only[vg,MG]at h;cases b with|cons d c=>
   obtain⟨ns,_,t⟩:=tQ I hK d l h.1;exact .tup t (nT I hK (g:=g) h.2 e c)
theorem Hb(I:Inv X pins σ H s)(hK:X.K=F.K){v:V}{u:Mt}{d:D}(r:RelV v u)(i:Is F.toFb H v d)(h:Ec d=Mv):SrtP.OT [1,1,2,0,0,0] s.heap u:=by match d,h,i with
 |.tup j,h,i=>
  simp only[Is]at i;obtain⟨a,k,rfl,c,f⟩:=i;cases(show u=M8 a from r);obtain⟨b,e,g,_⟩:=I.tuple (show iQ X.K H a _ by rw[hK];exact c.2);exact⟨a,b,rfl,g,nT I hK h f e⟩
theorem rE{P:Mt->Prop}{f:D->Bool}(e:∀{v:V}{u:Mt}{d:D},RelV v u->Is F.toFb H v d->f d=Mv->P u):∀{c:List V}{us:List Mt}{ds:List D},au c us->af F.toFb H c ds->ds.all f=Mv->∀u∈us,P u
 |_,_,[],b,a,_,u,hu=>by
  simp only[af]at a;subst a;cases b;cases hu|_,_,d::ds,b,a,h,u,hu=>by
  simp only[af]at a;obtain⟨x,l,rfl,k,j⟩:=a;rw[PD,MG]at h;cases b with|cons i g=>
   rcases List.mem_cons.mp hu with z|z;.subst z;exact e i k h.1
   .exact rE e g j h.2 u z
theorem Au(I:Inv X pins σ H s)(hK:X.K=F.K){A:Nf}(hu:A.units<NB){a:List V}{us:List Mt}{ds:List D}(b:au a us)(c:af F.toFb H a ds)(h:d_ ds=Mv):∃d,SrtP.Ar X.prog X.w A us d s:=by
 unfold d_ at h;rw[NO]at h;rcases h with h|h;.exact⟨_,SrtP.Ea (rE (λr i hd=>Ha I hK r i hd) b c h)⟩
 .exact⟨_,SrtP.Eb hu (rE (λr i hd=>Hb I hK r i hd) b c h)⟩
end
theorem Paired.Hc{f e:Type}{P:f->e->Prop}{ys us:List e}(p:us.Perm ys):∀{xs:List f},Paired P xs ys->∃a,a.Perm xs/\Paired P a us:=by induction p with
 |nil=>intro xs h;exact⟨xs,.refl _,h⟩|cons x p o=>
  intro xs h;cases h with|cons r t=>
   obtain⟨a,g,d⟩:=o t;exact⟨_::a,g.cons _,.cons r d⟩
 |swap x y l=>
  intro xs h;cases h with|cons r t=>cases t with|cons k j=>exact⟨_,.swap _ _ _,.cons k (.cons r j)⟩
 |trans g s c b=>
  intro xs h;obtain⟨a,n,d⟩:=b h;obtain⟨i,m,q⟩:=c d;exact⟨i,m.trans n,q⟩
theorem rF{B:Fb}{H:Hp}{j xs:List V}(p:j.Perm xs):∀{ds:List D},af B H xs ds->∃c,c.Perm ds/\af B H j c:=by induction p with
 |nil=>intro ds h;exact⟨ds,.refl _,h⟩|cons x p t=>
  intro ds h;cases ds with
  |nil=>simp[af]at h|cons d ds=>
   simp only[af]at h;obtain⟨q,n,e,b,a⟩:=h;cases e;obtain⟨c,k,i⟩:=t a;exact⟨d::c,k.cons _,.cons b i⟩
 |swap x y l=>
  intro ds h;cases ds with
  |nil=>simp[af]at h|cons d ds=>cases ds with
   |nil=>simp[af]at h|cons v ds=>
    simp only[af]at h;obtain⟨q,n,e,b,o,m,u,a,i⟩:=h;cases e;cases u;exact⟨v::d::ds,.swap _ _ _,.cons a (.cons b i)⟩
 |trans k w g f=>
  intro ds h;obtain⟨c,s,b⟩:=f h;obtain⟨fs,r,a⟩:=g b;exact⟨fs,r.trans s,a⟩
theorem vh{c:List (MB×NI)}{j:St}{H:Hp}{s:Mz}{a:MB}{g:List V}{R:List Mt->Mz->Prop}(I:Inv X c j H s)(m:dI X.K H a g)(h:∀(h':M7)(k:Nat)(us:List Mt),SrtP.fb s.heap h'->au g us->R us {s with heap:=h',toks:=k}):wpAny (ML X.prog X.w) X.A.in1 (US (.ref a)) R X.xe s:=by
 obtain⟨f,i,pl,l⟩:=I.list m;have d:=i.length;refine collect_list pl.isList ?_ (by simpa[d]using l);refine h _ s.toks f (λb o e=>?_) i;rw[Heap.get?_update_ne _ _ _ _ (M3 (MM e))];exact My _ e
theorem vk(C:X.calm=Mv){j:List (MB×NI)}{t:St}{H:Hp}{s:Mz}{x:V}{u:Mt}{d:D}{ds:List D}{R:List Mt->Mz->Prop}(I:Inv X j t H s)(hK:X.K=F.K)(r:RelV x u)(i:Is F.toFb H x d)(e:kY d=Mq ds)(h:∀(h':M7)(f:Nat)(c:List V)(us:List Mt),SrtP.fb s.heap h'->au c us->af F.toFb H c ds->R us {s with heap:=h',toks:=f}):wpAny (ML X.prog X.w) X.A.in1 (US u) R X.xe s:=by
 have hd:(∃l,d=.lst l)\/∃ks q,d=.aW ks q:=by cases d<;>first|exact .inl ⟨_,rfl⟩|exact .inr ⟨_,_,rfl⟩|cases e
 rcases hd with⟨l,rfl⟩|⟨ks,q,rfl⟩
 .cases e;simp only[Is]at i;obtain⟨a,c,rfl,v,iv⟩:=i;cases(show u=M8 a from r);exact vh I (by rw[hK];exact v.2.sq) λh' f us g m=>h h' f c us g m iv
 .cases e;simp only[Is]at i;obtain⟨a,c,rfl,⟨o,p,n⟩,G⟩:=i;cases(show u=M8 a from r);obtain⟨k,E,J,y,hd,m,ik⟩:=pD n;have z:=p.get I hK;obtain⟨_,_,_,b,B,_⟩:=DV n;rw[hd]at b;injection b with b _;subst b;exact DictIt.ra (show X.A.in1.handled=Mu from I.ok.hd C) p.2.1 z y.1 hd (by rw[B];exact n.1) λh' f g=>h h' f k _ g m ik
theorem xr(T:X.calm=Mv)(hu:X.A.units+2<NB):bB X F (.builtin "sorted") (one nS)where
 call:=λb s C H k Y o ds Q I L l hK P N=>by
  obtain⟨d,rfl,q⟩:=dC N;obtain⟨v,rfl,i⟩:=P.one;obtain⟨es,e,q⟩:=M.run_get.mp q;obtain⟨⟨w,R⟩,q⟩:=q;obtain⟨u,rfl,J⟩:=vals1 L;refine SrtP.pS (vk T I hK J i e λf h vs o g a iv=>?_);have n:Inv X b C H {s with heap:=f,toks:=h}:=I.kept (t':=h) g;obtain⟨E,K⟩:=Au n hK (A:=X.A.in1.in1) (show X.A.units+1+1<NB from hu) a iv R;have S:o.length<=MA:=by rw[<-a.length,iv.length];exact w
  refine⟨S,E,K,λG U c O V B=>?_⟩;obtain⟨Z,pw,j⟩:=Paired.Hc O a;obtain⟨m,pe,r⟩:=rF pw iv;have x:H f.objs.size=Mu:=n.aV.fresh (MO _);have W:=n.newList (t:=h) (D:=f.objs.size) V (MO _) j (by rw[r.length,pe.length_eq];exact w) B;exact⟨.ref f.objs.size,_,W.freeze aj B (λ_ z=>nomatch z) (λ_ _ z=>nomatch z) (λ_ z=>nomatch z) (λ_ z=>nomatch z),rfl,by
   rw[bV];exact q m pe _ _ (.new x) (bE (k:=k) l x r)⟩
end
section
variable{prog:MQ}{w:M6}{A:Nf}{E:Mt->Mz->Prop}{s:Mz}
theorem i7:entryFor table "dict.update.loop"=Mq Builtin.«dict.update.loop»:=entryFor_of_tree (by kernel_rfl)
theorem i8:plainId "dict.update.loop"=Mv:=by decide+kernel
end
noncomputable def aC(ks:List D)(d:D):Bool:=(ks.all BE&&BE d)||(ks.all zZ&&zZ d)
theorem bI{ks:List D}{d:D}(h:aC ks d=Mv):kinds ks d:=by
 unfold aC at h;rw[NO,MG,MG]at h;rcases h with⟨b,a⟩|⟨b,a⟩;.exact .inl ⟨Aa b,jS a⟩
 .exact .inr ⟨xb b,pB a⟩
noncomputable def ee:List D->List D×List D->Option (List D×List D)
 |[],a=>Mq a|.tup [k,v]::r,a=>if aC a.1 k&&decide (a.1.length<MA)then ee r (putD a.1 a.2 k v)else Mu|_,_=>Mu
mutual
noncomputable def oM:D->PyData
 |.bl b=>.bool b|.int i=>.int i|.str x=>.str x|.tup a=>.tuple (gI a)|.lst a=>.list (gI a)|_=>.none
noncomputable def gI:List D->List PyData
 |[]=>[]|x::a=>oM x::gI a
end
mutual
noncomputable def rG:D->Bool
 |.bH=>Mv|.bl _=>Mv|.int _=>Mv|.str _=>Mv|.tup a=>k8 a|.lst a=>k8 a|_=>Mw
noncomputable def k8:List D->Bool
 |[]=>Mv|x::a=>rG x&&k8 a
end
mutual
theorem tR:∀(d:D),(oM d).hasDict=Mw
 |.bH=>rfl|.bl _=>rfl|.int _=>rfl|.str _=>rfl|.tup a=>by simp only[oM,PyData.hasDict];exact k9 a|.lst a=>by simp only[oM,PyData.hasDict];exact k9 a|.aW _ _=>rfl
theorem k9:∀(ds:List D),T_ (gI ds)=Mw
 |[]=>rfl|d::ds=>by simp only[gI,T_,tR d,k9 ds,Bool.or_self]
end
mutual
theorem pW{h:M7}:∀{u:Mt}{d:D},rG d=Mv->be h u d->∃as,Reads h u (oM d) as
 |_,.bH,_,i=>by simp only[be]at i;subst i;exact⟨_,.none⟩|_,.bl b,_,i=>by simp only[be]at i;subst i;exact⟨_,.bool b⟩|_,.int n,_,i=>by simp only[be]at i;obtain⟨t,rfl⟩:=i;exact⟨_,.int n t⟩|_,.str x,_,i=>by simp only[be]at i;obtain⟨t,rfl⟩:=i;exact⟨_,.str x t⟩|_,.tup k,p,i=>by
  simp only[be]at i;obtain⟨a,c,rfl,⟨o,j,g,n,f⟩,e⟩:=i;simp only[rG]at p;obtain⟨as,r⟩:=i9 p e;exact⟨_,.tuple j g f r⟩|_,.lst k,p,i=>by
  simp only[be]at i;obtain⟨a,c,rfl,⟨o,j,g,n,f⟩,e⟩:=i;simp only[rG]at p;obtain⟨as,r⟩:=i9 p e;exact⟨_,.list j g f r⟩|_,.aW _ _,p,_=>by simp[rG]at p
theorem i9{h:M7}:∀{us:List Mt}{ds:List D},k8 ds=Mv->bT h us ds->∃as,ReadsAll h us (gI ds) as
 |_,[],_,i=>by simp only[bT]at i;subst i;exact⟨_,.nil⟩|_,d::ds,p,i=>by
  simp only[bT]at i;obtain⟨u,r,rfl,e,c⟩:=i;simp only[k8,MG]at p;obtain⟨as,b⟩:=pW p.1 e;obtain⟨bs,a⟩:=i9 p.2 c;exact⟨_,.cons b a⟩
end
noncomputable def pX(d:D):Bool:=rG d&&((oM d).showable&&(decide ((oM d).depth<=8)&&decide ((oM d).shown.length<=MA)))
section
variable{X:Cx}{F:Fx}
noncomputable def BL:D->D->M D
 |.str x,.str y=>do M.need (x.length+y.length<=MA);pure (.str (x++y))|_,_=>M.fail
theorem Av:e_ X F (OL .Add) BL:=⟨λc s m H k x y v u d e Q I j i l hK g f q=>by cases d with
 |str a=>cases e with
  |str b=>
   simp only[Is]at g f;subst g f;obtain⟨t,rfl⟩:=j;obtain⟨h,rfl⟩:=i;exact SB.add (λh n=>⟨.str _,H,I.tok _,⟨_,rfl⟩,q.2 _ H .refl (by simp only[Is])⟩) q.1|_=>exact q.elim
 |_=>exact q.elim⟩
noncomputable def Hd(a:Bool):D->D->M D
 |.str x,.str y=>pure (.bl (if a then !(Ss y x)else Ss y x))|_,_=>M.fail
theorem Aw:e_ X F (Nd .In) (Hd Mw):=⟨λc s j H k x y v u d e Q I i h l hK g f q=>by cases d with
 |str a=>cases e with
  |str b=>
   simp only[Is]at g f;subst g f;obtain⟨t,rfl⟩:=i;obtain⟨m,rfl⟩:=h;exact SB.contains ⟨.bl _,H,I,rfl,q _ H .refl (by simp only[Is];rfl)⟩|_=>exact q.elim
 |_=>exact q.elim⟩
theorem rH:e_ X F (Nd .NotIn) (Hd Mv):=⟨λc s j H k x y v u d e Q I i h l hK g f q=>by cases d with
 |str a=>cases e with
  |str b=>
   simp only[Is]at g f;subst g f;obtain⟨t,rfl⟩:=i;obtain⟨m,rfl⟩:=h;exact SB.notContains ⟨.bl _,H,I,rfl,q _ H .refl (by simp only[Is];rfl)⟩|_=>exact q.elim
 |_=>exact q.elim⟩
end
theorem k_{b:Type}:∀{l:List b}{i:Nat}{x:b},l[i]?=Mq x->l.set i x=l
 |[],_,_,h=>by simp at h|a::l,0,x,h=>by simp at h;subst h;rfl|a::l,i+1,x,h=>by simp at h;simp[k_ h]
theorem Ext.chg{B:Fb}{H0 H:Hp}{k0 k:Nat}{a:MB}{u o':HO}(e:Ext B H0 k0 H k)(d:a≠B.p)(g:H0 a=Mu)(hu:H a=Mq u)(ns:u.jt=Mw):Ext B H0 k0 (upd H a o') k:=⟨λb o hb q=>by
  have c:b≠a:=λz=>by rw[z,g]at q;cases q
  rw[ah c];exact e.keep b o hb q,λh=>(Kp.own (k:=k) d hu ns).live (e.live h),e.le,λq f=>(Kp.own d hu ns).bS q (e.bS q f)⟩
section
variable{F:Fx}{ρ:ag}{k:Nat}{σ:St}{H H':Hp}
theorem b9.xt{p:MB}(S:b9 F ρ k σ H)(a:H p=Mu):p≠F.p/\F.H0 p=Mu:=by
 have ne:p≠F.p:=gF S.live a;refine⟨ne,?_⟩;cases e:F.H0 p with
 |none=>rfl|some o=>have:=S.ext.keep p o ne e;rw[a]at this;cases this
theorem b9.gq{i:Nat}{a:MB}{ks ds:List D}(S:b9 F ρ k σ H)(A:∀j w,ρ[j]?=Mq (Mq w)->w.fw=Mv->j=i)(kp:Kp F.toFb H k H' k)(ex:Ext F.toFb F.H0 F.k0 H' k)(n:pb F H' a ks ds):b9 F (ρ.set i (Mq (.gq ks ds))) k (σ.set i (Mq (.ref a))) H':=by
 have b:∀j w,(ρ.set i (Mq (.gq ks ds)))[j]?=Mq (Mq w)->(j=i/\w=.gq ks ds)\/(j≠i/\ρ[j]?=Mq (Mq w)/\w.fw=Mw):=λj w e=>by
  rw[NU]at e;by_cases c:i=j
  .subst c;rw[if_pos rfl]at e;split at e;.cases e;exact .inl ⟨rfl,rfl⟩
   .cases e
  .rw[if_neg c]at e;refine .inr ⟨Nj c,e,?_⟩;cases o:w.fw with
   |false=>rfl|true=>exact absurd (A j w e o) (Nj c)
 refine⟨by simp[S.len],λj w e=>?_,λl g x y v m r q t s s1=>?_,λl g u E w r q o=>?_,kp.live S.live,ex,S.zy.trans kp⟩
 .rcases b j w e with⟨rfl,rfl⟩|⟨c,C,o⟩
  .have z:j<ρ.length:=by
    rw[List.getElem?_eq_some_iff]at e;obtain⟨h,_⟩:=e;simpa using h
   exact⟨.ref a,by rw[OP (by rw[<-S.len];exact z)],a,rfl,n⟩
  .obtain⟨v,B,p⟩:=S.at_ j w C;refine⟨v,by rw[OA (Nj c)];exact B,?_⟩;cases w with
   |d x=>exact Is.mono kp p|feed=>exact⟨p.1,kp.feed p.2⟩|own d=>cases o|gq ks ds=>cases o
 .rcases b l x r with⟨rfl,rfl⟩|⟨_,_,o⟩
  .rcases b g y q with⟨rfl,rfl⟩|⟨_,_,o⟩;.exact absurd rfl m
   .rw[s]at o;cases o
  .rw[t]at o;cases o
 .rcases b l _ r with⟨rfl,_⟩|⟨_,_,f⟩
  .rcases b g w q with⟨rfl,_⟩|⟨_,_,f⟩;.rfl
   .rw[o]at f;cases f
  .cases f
end
noncomputable def oN(b:MB):D:=.int (b:Int)
noncomputable def He:V->D->Prop:=λv d=>∃b:MB,v=.ref b/\d=oN b
theorem nU:∀(bs:List MB),Paired He (bs.map V.ref) (bs.map oN)
 |[]=>.nil|b::bs=>.cons ⟨b,rfl,rfl⟩ (nU bs)
theorem jU{a b:MB}(h:oN a=oN b):a=b:=by
 unfold oN at h;injection h with h;exact Int.ofNat.inj h
theorem xu:∀{bs:List MB}{a:List V},Paired He a (bs.map oN)->a=bs.map V.ref
 |[],_,.nil=>rfl|b::bs,_,.cons ⟨c,e,d⟩ t=>by
  rw[e,xu t,jU d];rfl
theorem mR{P:MB->D->Prop}{q d:D}:∀{ks:List D}{bs:List MB}{ds:List D},Paired P bs ds->aF ks ds q=Mq d->∃b∈bs,aF ks (bs.map oN) q=Mq (oN b)/\P b d
 |[],_,_,_,h=>by simp[aF]at h|k::ks,_,_,.nil,h=>by simp[aF]at h|k::ks,b::bs,j::ds,.cons i t,h=>by
  simp only[aF]at h;simp only[MT,aF];split at h
  .rename_i a;cases h;exact⟨b,ME,by rw[if_pos a],i⟩
  .rename_i a;obtain⟨c,g,f,e⟩:=mR t h;exact⟨c,MH _ g,by rw[if_neg a];exact f,e⟩
noncomputable def xv(f:D->D)(q:D):List D->List D->List D
 |k::ks,v::a=>if fc k q then f v::a else v::xv f q ks a|_,a=>a
theorem tS{P i:MB->D->Prop}{f:D->D}{q:D}{b:MB}:∀{ks:List D}{bs:List MB}{ds:List D},Paired P bs ds->bs.Nodup->aF ks (bs.map oN) q=Mq (oN b)->(∀c∈bs,c≠b->∀d,P c d->i c d)->(∀d,P b d->i b (f d))->Paired i bs (xv f q ks ds)
 |[],bs,_,_,_,h,_,_=>by cases bs<;>simp[aF]at h|k::ks,_,_,.nil,_,h,_,_=>by simp[aF]at h|k::ks,c::bs,n::ds,.cons l t,nd,h,e,j=>by
  rw[O3]at nd;simp only[MT,aF]at h;simp only[xv];split at h
  .rename_i g;rw[if_pos g];have hb:c=b:=jU (MD h);subst hb;exact .cons (j _ l) (eN t λa ha d p=>e a (MH _ ha) (λz=>nd.1 (z▸ha)) d p)
  .rename_i g;rw[if_neg g];have hb:b∈bs:=by
    have:∀{ks:List D}{bs:List MB},aF ks (bs.map oN) q=Mq (oN b)->b∈bs:=λ{ks bs}h=>by induction bs generalizing ks with
     |nil=>cases ks<;>simp[aF]at h|cons c bs m=>cases ks with
      |nil=>simp[aF]at h|cons k ks=>
       simp only[MT,aF]at h;split at h;.rw[jU (MD h)];exact ME
       .exact MH _ (m h)
    exact this h
   exact .cons (e c ME (λz=>nd.1 (z▸hb)) _ l) (tS t nd.2 h (λa ha=>e a (MH _ ha)) j)
theorem Paired.Ax{c d:Type}{R:c->d->Prop}{a:c}:∀{l:List c}{r:List d},Paired R l r->a∈l->∃b,R a b
 |_,_,.nil,h=>nomatch h|_,_,.cons h t,z=>by
  rcases List.mem_cons.mp z with rfl|z;.exact⟨_,h⟩
  .exact Paired.Ax t z
noncomputable def fF(ρ:ag)(i:Nat):Option (List D×List D):=match ρ[i]? with
 |some (Mq (.gq ks a))=>Mq (ks,a)|_=>Mu
theorem f_{ρ:ag}{i:Nat}{p:List D×List D}(h:fF ρ i=Mq p):ρ[i]?=Mq (Mq (.gq p.1 p.2)):=by
 unfold fF at h;split at h;.rename_i ks a e;cases h;exact e
 .cases h
section
variable{X:Cx}{F:Fx}{e ke:MP}{ta tk:ag->M D}{pos pos' lp:Oc}{x:MR}
theorem Ay(i:Nat)(hN:X.N.Nodup)(hK:X.K=F.K)(m:X.N[i]?=Mq x)(l:Loc X.env.scope x)(n:X.fn x=Mv\/X.env.scope.names.lookup x=Mq .local):DS X F (.Assign [.Name x pos'] (.Dict [] [] lp) pos) (λρ=>do M.need (∀j w,ρ[j]?=Mq (Mq w)->w.fw=Mv->j=i);pure (.nx (ρ.set i (Mq (.gq [] []))))):=by
 have pe:PE X (.Dict [] [] lp) (λ_ H Q=>∀p,H p=Mu->(p==NW)=Mw->Q (.ref p) (upd H p (lS p b7))):=λf s g H Q I h=>wpAny_Dict_empty ⟨.ref s.heap.objs.size,_,I.laid (a:=s.heap.objs.size) (o:=lS s.heap.objs.size b7) (t':=s.toks) (λ_ _ q=>My _ q) (MO _) (nR (MK _ rfl)),rfl,h _ (I.aV.fresh (MO _)) (beq_eq_false_iff_ne.mpr (Nj (M3 I.I9)))⟩;refine⟨hK,(cM (i:=i) hN m l pe rfl n).imp λZ g H⟨ρ,k,S,r,h⟩p c d=>?_⟩;obtain⟨ne,t⟩:=S.xt c;exact h _ _ (Ext.new (k:=k) c).kp (S.gq r (Ext.new (k:=k) c).kp (S.ext.trans (.new c)) ⟨b7,[],ne,t,aj,d,iY,.nil,(λz=>nomatch z),(λb z=>nomatch z),.nil⟩)
theorem Az(i:Nat){np:Oc}(hu:X.A.units+2<NB)(hP:X.prog=F.P)(hw:X.w=F.w)(hi:X.N[i]?=Mq x)(hv:oI X.env.scope x)(hd:(x==("__debug__":MR))=Mw)(a2:(x==("__classdict__":MR))=Mw)(hk:DE X F ke tk):DS X F (.Assign [.Subscript (.Name x np) ke pos'] (.List [] lp) pos) (λρ=>do
   let G<-M.get (fF ρ i)let q<-tk ρ;M.need (G.1.length<MA/\kinds G.1 q/\bU G.1 q=Mw)pure (.nx (ρ.set i (Mq (.gq (G.1++[q]) (G.2++[.lst []])))))):=by
 refine⟨hk.hK,λg s B H Z I⟨ρ,k,S,h⟩=>?_⟩;obtain⟨⟨ks,ds⟩,h0,h⟩:=M.run_get.mp h;let R2:D->M Fl:=λq=>do
  M.need (ks.length<MA/\kinds ks q/\bU ks q=Mw)pure (.nx (ρ.set i (Mq (.gq (ks++[q]) (ds++[.lst []])))))
 refine Sr (a_ (nG cf g s B H (λu H1=>∃p,u=.ref p/\H p=Mu/\H1=upd H p (.lst [])) I ⟨ND _,λp n=>⟨p,rfl,n,rfl⟩⟩) λr s1 f=>?_) rfl;obtain⟨u,H1,I1,ru,p,rfl,n,rfl⟩:=f;obtain⟨C,p0⟩:=S.xt n;have e1:Ext F.toFb H k (upd H p (.lst [])) k:=.new n;have S1:=S.mono e1;obtain⟨v,J,a,rfl,o,bs,Q,a0,ob,sy,dc,nd,na,bp,lv⟩:=S.at_ i _ (f_ h0);refine a_ (bX (pos:=np) hi hv hd a2 g s1 B _ (λv H2=>v=.ref a/\H2=upd H p (.lst [])) I1 ⟨_,J,rfl,rfl⟩) λov s2 f=>?_;obtain⟨w,H2,I2,T,ew,eH⟩:=f;subst ew eH;cases(show ov=M8 a from T);refine a_ (hk.pe g s2 B _ (λy t=>∃q m,Ext F.toFb (upd H p (.lst [])) k t m/\b9 F ρ m B t/\Is F.toFb t y q/\(R2 q).run m (sU F Z H k) F.E) I2 (cL.next S1 h λq m y t O L V K=>⟨q,m,O,L,V,K⟩)) λkv s3 f=>?_;obtain⟨y,t,I3,ry,q,m,O,L,V,K⟩:=f;obtain⟨⟨hz,Y,hh⟩,K⟩:=K;have e:=e1.trans O;have l:=e.keep a _ Q ob;have W:s3.heap.get? a=Mq o:=(I3.aV a _ l).1;have pa:p≠a:=λz=>by rw[z,ob]at n;cases n
 have U:p∉bs:=λz=>by
  obtain⟨d,_,_,_,q,_⟩:=Paired.Ax lv z;rw[n]at q;cases q
 refine jx (R:=He) (F:=F) hu I3 hk.hK hP hw (dc.mono e.kp) W (nU bs) V ry (⟨p,rfl,rfl⟩:He (.ref p) (oN p)) ru Y hz λh' o' tk sb eo po=>?_;obtain⟨⟨a3,d1,d2⟩,_⟩:=po;have ep:putD ks (bs.map oN) q (oN p)=(ks++[q],(bs++[p]).map oN):=by
  unfold putD;rw[hh,NG];rfl
 rw[ep]at d1 d2;have:=xu d2;subst this;have kp:Kp F.toFb t m (upd t a (lS a o')) m:=Kp.own Q l rfl;have S4:=L.gq (i:=i) (λj w ej oj=>L.alone i j ks ds w (f_ h0) ej oj) kp (L.ext.chg Q a0 l rfl) (a:=a) (ks:=ks++[q]) (ds:=ds++[.lst []]) ⟨o',bs++[p],Q,a0,aj,sy,d1.mono kp,List.nodup_append.mpr ⟨nd,(by simp),λb hb c hc z=>by rw[List.mem_singleton.mp hc]at z;exact U (z▸hb)⟩,(λz=>by
    rcases List.mem_append.mp z with z|z;.exact na z
    .exact pa (List.mem_singleton.mp z).symm),(λb hb=>by
    rcases List.mem_append.mp hb with z|z;.exact bp b z
    .rw[List.mem_singleton.mp z];exact⟨C,p0⟩),iq (eN lv λb hb d z=>(z.keep e.kp λo z=>e.keep b o (bp b hb).1 z).keep kp λo z=>by rw[ah (λ(y:b=a)=>na (by rw[<-y];exact hb))];exact z) (.cons ⟨[],[],rfl,by rw[ah pa];exact O.keep p _ C aj,.nil⟩ .nil)⟩;rw[k_ J]at S4;exact⟨B,_,iZ I3 l sb eo,K _ _ (e.kp.trans kp) S4⟩
theorem AA(i:Nat){np sp Y U:Oc}(hu:X.A.units+2<NB)(hP:X.prog=F.P)(hw:X.w=F.w)(hi:X.N[i]?=Mq x)(hv:oI X.env.scope x)(hd:(x==("__debug__":MR))=Mw)(O:(x==("__classdict__":MR))=Mw)(hk:DE X F ke tk)(G:jO ke)(ha:DE X F e ta)(hl:(Y.endLine==U.line)=Mv)(E:MX [e] X.env=(Mw,OB e X.env)::MX [] X.env)(hb:RK (.Subscript (.Name x np) ke sp) "append" X.env (OB (.Subscript (.Name x np) ke sp) X.env)=OB (.Subscript (.Name x np) ke sp) X.env):DS X F (.Expr (.Call (.Attribute (.Subscript (.Name x np) ke sp) "append" Y) [e] [] U) pos) (λρ=>do
   let n<-M.get (fF ρ i)let q<-tk ρ;M.need (kinds n.1 q)let ys<-kT (<-M.get (aF n.1 n.2 q))let d<-ta ρ;M.need (ys.length<MA)pure (.nx (ρ.set i (Mq (.gq n.1 (xv (λ_=>.lst (ys++[d])) q n.1 n.2)))))):=by
 have pe:=sP (X:=X) (name:="append") (apos:=Y) (cpos:=U) Pj RO (by rfl) mw (fv (pos:=sp) (xj (F:=F) hu hP hw ha.hK) (bX (pos:=np) hi hv hd O) hk.pe G) (bf ha.pe cf E) hb (by rw[E];rfl) hl E rfl;refine⟨ha.hK,(nB pe rfl).imp λZ σ H⟨ρ,k,S,h⟩=>?_⟩;obtain⟨⟨ks,ds⟩,h0,h⟩:=M.run_get.mp h;obtain⟨v,s,a,rfl,o,bs,m,a0,ob,sy,dc,nd,na,W,lv⟩:=S.at_ i _ (f_ h0);refine⟨_,s,?_⟩;refine cL.next S h λq k1 y H1 B S1 i1 l=>?_;obtain⟨K,l⟩:=l;obtain⟨d0,L,l⟩:=M.run_get.mp l;obtain⟨ys,rfl,l⟩:=d7 l;have C:=B.keep a _ m ob;obtain⟨b,hb,lb,a2,t,T,hx,ix⟩:=mR lv L;injection T with T;subst T;refine⟨He,a,o,ks,bs.map oN,bs.map V.ref,q,oN b,rfl,λ_ _ _ I=>(I.aV a _ C).1,dc.mono B.kp,nU bs,i1,K,lb,?_⟩;rintro _⟨b',rfl,eb⟩;obtain rfl:=jU eb;have f:=W b hb;have r:=B.keep b _ f.1 hx;refine⟨.inl ⟨rfl,t,.inl (.inl r)⟩,?_⟩;refine cL.next S1 l λd k2 u H2 e2 S2 i2 R=>?_;obtain⟨hz,R⟩:=R;have e:=B.trans e2;have g:=e2.keep b _ f.1 r;have p:=ix.mono e.kp;refine⟨b,t,u,rfl,rfl,g,by rw[p.length];exact hz,?_⟩;have kp:Kp F.toFb H2 k2 (upd H2 b (.lst (t++[u]))) k2:=Kp.own f.1 g rfl;have Q:a≠b:=λz=>na (z▸hb);have S4:=S2.gq (i:=i) (λj w ej oj=>S2.alone i j ks ds w (f_ h0) ej oj) kp (S2.ext.chg f.1 f.2 g rfl) (a:=a) (ks:=ks) (ds:=xv (λ_=>.lst (ys++[d])) q ks ds) ⟨o,bs,m,a0,by rw[ah Q];exact e.keep a _ m ob,sy,(dc.mono e.kp).mono kp,nd,na,W,tS lv nd lb (λc hc J d' z=>(z.keep e.kp λo z=>e.keep c o (W c hc).1 z).keep kp λo z=>by rw[ah J];exact z) λd' z=>⟨ys++[d],t++[u],rfl,aj,(p.append (.cons i2 .nil)).mono kp⟩⟩;rw[k_ s]at S4;exact R _ _ (e.kp.trans kp) S4
noncomputable def Kr(X:Cx)(F:Fx):R2:=λx y H Q=>∃a o ks f d,y=.ref a/\(∀b c s,Inv X b c H s->s.heap.get? a=Mq o)/\(a==NW)=Mw/\bj F.toFb H o ks f/\Is F.toFb H x d/\kinds ks d/\Q (.bl (bU ks d)) H
theorem Ed(hu:X.A.units+2<NB)(hP:X.prog=F.P)(hw:X.w=F.w)(hK:X.K=F.K):jq X (Nd .In) (Kr X F):=λb s m H x y v u Q I f c h=>by
 obtain⟨a,o,ks,n,d,rfl,g,sy,k,i,j,q⟩:=h;cases(show u=M8 a from c);exact xh hu I hK hP hw k (g _ _ _ I) sy i f j λp l=>⟨.bl (bU ks d),H,l,rfl,q⟩
theorem Ee(i:Nat){np:Oc}(hu:X.A.units+2<NB)(hP:X.prog=F.P)(hw:X.w=F.w)(ha:DE X F e ta)(p:X.N[i]?=Mq x)(m:oI X.env.scope x)(hd:(x==("__debug__":MR))=Mw)(g:(x==("__classdict__":MR))=Mw):DT X F (.Compare e [.In] [.Name x np] pos) (λρ=>do let d<-ta ρ;let j<-M.get (fF ρ i);M.need (kinds j.1 d);pure (bU j.1 d)):=⟨ha.hK,(fZ (Ed (F:=F) hu hP hw ha.hK) ha.pe (bX (pos:=np) p m hd g) rfl).imp λu H Q c=>by
  obtain⟨ρ,k,S,h⟩:=c;refine cL.next S h λd z v t r s l b=>?_;obtain⟨⟨ks,B⟩,q,b⟩:=M.run_get.mp b;obtain⟨n,b⟩:=b;obtain⟨v,f,a,rfl,o,bs,E,G,ob,sy,dc,nd,y,C,lv⟩:=s.at_ i _ (f_ q);exact⟨_,f,a,o,ks,_,d,rfl,λ_ _ _ I=>(I.aV a _ ob).1,sy,dc,l,n,_,rfl,b t r⟩⟩
end
end L2
end
section
namespace HT
open PySem PyProof.Rows
section
variable{prog:MQ}{w:M6}{A:Nf}{E:Mt->Mz->Prop}{s:Mz}
theorem mS{it t:MB}{items:Array Mt}(f:t≠it):∀(n i:Nat)(s:Mz)(Q:List Mt->Mz->Prop),s.heap.IsListIter it t i->s.heap.IsList t items->i+n<=items.size->(∀h',h'.IsListIter it t (i+n)->N1 it s.heap h'->Q ((items.toList.drop i).take n) {s with heap:=h'})->wpAny (ML prog w) A (draw (.ref it) n) Q E s
 |0,i,s,Q,hit,_,_,h=>by
  show wpAny _ _ (pure []) Q E s;exact Mx (by simpa using h s.heap hit (Ua ..))|n+1,i,s,Q,hit,k,l,h=>by
  have g:i<items.size:=by omega
  show wpAny _ _ (OS (.ref it)>>=_) Q E s;refine Ms (Sg hit k (x:=items[i]) (by simp[g]) λj c a=>?_);refine Ms (Na (mS f n (i+1) _ _ c (k.extBut a.extBut f) (by omega) λe b d=>Mx ?_));have hd:items.toList.drop i=items[i]::items.toList.drop (i+1):=by simp[OZ,g]
  have:=h e (by rw[show i+(n+1)=i+1+n by omega];exact b) (a.trans d);rw[hd,List.take_succ_cons]at this;exact this
theorem iD{env:SD}{a:List MP}{x1}{pos:Oc}{t:MB}{items:Array Mt}{Q:Unit->Mz->Prop}(q:A.handled=Mu)(l:s.heap.IsList t items)(p:(NJ a env).length=items.size)(g:(NJ a env).findIdx? (·.1)=Mu)(h:∀h',QZ s.heap.objs.size s.heap h'->wpAny (ML prog w) A (RI ((NJ a env).map (·.2)) items.toList) Q E {s with heap:=h'}):wpAny (ML prog w) A (Rl (.Tuple a x1 pos) env (.ref t)) Q E s:=by
 have m:t≠s.heap.objs.size:=by obtain⟨o,ho,_⟩:=l;exact M3 (MM ho)
 rw[assign_Tuple];refine Ms (Pz ?_);unfold unpack;rw[p,g];refine Ms (Na ?_);unfold unpackItems;refine Ms ?_;unfold notIterableAtAll;refine Ms (Pw l.typeIs slot_list_iter.lookup ?_);refine Mx ?_;simp only[MV,if_false];refine Ms (Na (PK l ?_));refine Ms (Na (mS m items.size 0 _ _ ⟨_,MK _ rfl,rfl,rfl⟩ (l.push _) (by omega) λk d c=>?_));have n:List.take items.size (List.drop 0 items.toList)=items.toList:=by rw[List.drop_zero];exact NL (by simp)
 rw[n];rw[if_neg (by simp)];have f:k.IsList t items:=(l.push _).extBut c.extBut m;refine Ms (Na (SO q d f (by simp) λj i=>?_));simp only[Option.isSome_none,MV,if_false];exact Mx (h j λb o hb e=>i b o hb (c.extBut b o hb (My _ e)))
end
end HT
namespace L2
open PySem PySem.Spec PyProof.Rows
section
variable{X:Cx}{F:Fx}{e a b:MP}{te ta tb:ag->M D}{es:List MP}{gs:List D->ag->M ag}{pos p2:Oc}
noncomputable def pY:List D->Option (List Int)
 |[]=>Mq []|.int i::r=>(pY r).map (i::·)|_=>Mu
theorem tT{B:Fb}{H:Hp}:∀{ds:List D}{c:List V}{ns:List Int},af B H c ds->pY ds=Mq ns->c=ns.map V.int
 |[],_,ns,h,e=>by simp only[af]at h;cases e;exact h|d::ds,c,ns,h,e=>by
  simp only[af]at h;obtain⟨x,j,rfl,f,g⟩:=h;cases d with
  |int b=>
   simp only[pY,Pm]at e;obtain⟨cs,i,rfl⟩:=e;simp only[Is]at f;rw[f,tT g i];rfl|_=>cases e
noncomputable def pZ:D->Option (List Int)
 |.tup c=>pY c|_=>Mu
noncomputable def Ks(d e:D):M D:=do
 let ns<-M.get (pZ d)let c<-M.get (pZ e)pure (.bl (HT.lexLt ns c))
theorem p_{B:Fb}{H:Hp}{v:V}{d:D}{ns:List Int}(h:pZ d=Mq ns)(i:Is B H v d):∃a,v=.ref a/\iQ B.K H a (ns.map V.int):=by
 cases d<;>first|cases h|skip
 rename_i f;simp only[Is]at i;obtain⟨a,j,rfl,c,g⟩:=i;have h:pY f=Mq ns:=h;rw[tT g h]at c;exact⟨a,rfl,c.2⟩
theorem Ef(hu:X.A.units<NB):e_ X F (Nd .Lt) Ks:=.of (CJ hu) λhK H k x y d e Q l i h q=>by
 obtain⟨ns,m,q⟩:=M.run_get.mp q;obtain⟨g,j,q⟩:=M.run_get.mp q;obtain⟨a,rfl,f⟩:=p_ m i;obtain⟨b,rfl,c⟩:=p_ j h;exact⟨a,b,ns,g,rfl,rfl,by rw[hK];exact f,by rw[hK];exact c,q _ H .refl (by simp only[Is])⟩
noncomputable def L8(n:Nat)(gs:List D->ag->M ag):D->ag->M ag
 |.tup c,d=>do M.need (c.length=n);gs c d|.lst c,d=>do M.need (c.length=n);gs c d|_,_=>M.fail
theorem Hg{n:Nat}{j:Nat}(x:X.calm=Mv)(h:zJ X F es gs)(t:(NJ es X.env).length=n)(f:(NJ es X.env).findIdx? (·.1)=Mu):DG X F (.Tuple es j pos) (L8 n gs):=⟨h.hK,λc s l H v u Q I r⟨m,k,d,S,i,g⟩=>by cases d with
  |tup z=>exact(Dz (n:=n) x h t f).pg c s l H v u Q I r ⟨m,k,_,S,i,g⟩|lst z=>
   simp only[Is]at i;obtain⟨a,p,rfl,C,y⟩:=i;cases(show u=M8 a from r);obtain⟨A,q,pl,J⟩:=I.list (show dI X.K H a p by rw[h.hK];exact C.2.sq);refine HT.iD (I.ok.hd x) pl.isList (by rw[t,<-g.1,<-y.length,q.length];simp) f λE B=>?_;have G:Inv X c l H {s with heap:=E}:=I.kept (t':=s.toks) λb o e=>B b o (M3 (MM e)) e;exact h.pg c _ l H p _ Q G (by simpa using q) ⟨m,k,z,S,y,g.2⟩|_=>exact g.elim⟩
end
theorem lg:∀(l:List Mt)(a:Nat),(∀(j:Nat)(v:Mt),l[j]?=Mq v->∃t,v=Th ((a+j:Nat):Int) t)->au ((List.range' a l.length).map λ(i:Nat)=>V.int (i:Int)) l
 |[],a,_=>.nil|v::l,a,h=>by
  obtain⟨t,rfl⟩:=h 0 v rfl;refine .cons ⟨t,rfl⟩ (lg l (a+1) λj w e=>?_);obtain⟨b,c⟩:=h (j+1) w e;exact⟨b,by rw[c];congr 1;omega⟩
theorem jz{B:Fb}{H:Hp}:∀(l:List Nat),af B H (l.map λ(i:Nat)=>V.int (i:Int)) (l.map λ(i:Nat)=>D.int (i:Int))
 |[]=>.nil|_::l=>.cons (by simp only[Is]) (jz l)
section
variable{X:Cx}{F:Fx}{a e:MP}{ta:TA}{tas:ag->M (List A)}{p pos p0 pos0:Oc}{x:MR}
noncomputable def L9(ta:TA):TE:=λc H Q=>ta c H λd b=>∃n:Nat,d=[.int (n:Int)]/\n<=1000000/\∀l,b l=Mu->Q (.ref l) (upd b l (.lst ((N_ n).map λ(i:Nat)=>V.int (i:Int))))
theorem AB(L:X.calm=Mv)(k:Gl X "list")(g:X.mg "list"=Mu)(K:Gl X "range")(G:X.mg "range"=Mu)(ha:PA X [a] ta)(E:MX [a] X.env=[(Mw,OB a X.env)]):PE X (.Call (.Name "list" p0) [.Call (.Name "range" p) [a] [] pos] [] pos0) (L9 ta):=by
 intro f s w H Q I h;refine Oa (fm I k g Su ?_);refine NT ?_ rfl rfl;show wpAny _ _ (UL ((Mw,OB (.Call (.Name "range" p) [a] [] pos) X.env)::PF pos0 (MX [] X.env))) _ _ s;refine Qd ?_;refine Oa (fm I K G boot_range ?_);refine NT (a_ (ha pos f s w H _ I h) λR s1⟨P,U,m,r,B⟩=>?_) E rfl;obtain⟨n,rfl,S,q⟩:=B;obtain⟨u,rfl,z⟩:=vals1 r;obtain⟨t,rfl⟩:=z;refine call_range_1 (Qp ?_);refine call_list_range (n:=n) (I.ok.hd L) (IsRange.new ..) (small_one (by omega) (by omega) (by omega) (by omega)) ?_ (by omega) λT y d c J N l=>?_
 .unfold RU;split;.split<;>omega
  .omega
 have D:au ((N_ n).map λ(i:Nat)=>V.int (i:Int)) d.toList:=by
  have:=lg d.toList 0 λj v e=>by
   obtain⟨t,O⟩:=l.2 j v (by rw[<-e,N6]);exact⟨t,by rw[O];congr 1;omega⟩
  rw[NQ,l.1,<-List.range_eq_range']at this;exact this
 have C:((N_ n).map λ(i:Nat)=>V.int (i:Int)).length<=MA:=by rw[M0,RE,PL];omega
 refine⟨.ref _,_,m.laid (t':=y) (o:=.lst ((N_ n).map λ(i:Nat)=>V.int (i:Int))) (λb o e=>J b o (My _ e)) (by rw[NN];exact Qk _) ⟨C,d.toList,c,D,by rw[Array.toArray_toList];exact N⟩,rfl,q _ (m.aV.fresh (by rw[NN];exact Qk _))⟩
theorem AD(i:Nat){n c:Oc}(z:X.calm=Mv)(hN:X.N.Nodup)(ha:DA X F [a] tas)(l:Gl X "list")(g:X.mg "list"=Mu)(w:Gl X "range")(t:X.mg "range"=Mu)(s:MX [a] X.env=[(Mw,OB a X.env)])(u:X.N[i]?=Mq x)(r:Loc X.env.scope x)(y:X.fn x=Mv\/X.env.scope.names.lookup x=Mq .local):DS X F (.Assign [.Name x c] (.Call (.Name "list" p0) [.Call (.Name "range" p) [a] [] pos] [] pos0) n) (λρ=>do
   M.need (xl ρ=Mv)let ds<-hZ (<-tas ρ)let j<-DK e9 ds;M.need (0<=j/\j<=1000000)pure (.nx (ρ.set i (Mq (.own (.lst (av j.toNat))))))):=⟨ha.hK,(cM (i:=i) hN u r (AB z l g w t ha.pa s) rfl y).imp λZ E H f=>by
  obtain⟨ρ,k,S,hN,h⟩:=f;refine qM.next S h λK I G L C D q B=>?_;obtain⟨ds,rfl,b⟩:=b5 B;obtain⟨d,rfl,b⟩:=pj b;obtain⟨j,rfl,b⟩:=aN.mp b;obtain⟨⟨o,J⟩,b⟩:=b;obtain⟨v,rfl,iv⟩:=(b6 q).one;simp only[Is]at iv;subst iv;refine⟨j.toNat,by rw[Int.toNat_of_nonneg o],by omega,λp m=>?_⟩;exact b _ _ (C.trans (.new m)).kp (D.nQ i hN m ⟨_,aj,jz _⟩)⟩
theorem mT{f:List (MB×NI)}{j:St}{s:Mz}:∀(bs:List MB){H:Hp},Inv X f j H s->(∀b∈bs,∃xs,H b=Mq (.lst xs))->bs.Nodup->∃H',Inv X f j H' s/\(∀b,b∉bs->H' b=H b)/\∀b∈bs,∀xs,H b=Mq (.lst xs)->∃o,H' b=Mq (.cv o (.lst xs))
 |[],H,I,_,_=>⟨H,I,λ_ _=>rfl,λb hb=>nomatch hb⟩|b::bs,H,I,h,nd=>by
  rw[O3]at nd;obtain⟨xs,i⟩:=h b ME;obtain⟨_,q,n,v,r⟩:=I.aV b _ i;have t:=I.freeze i r (λ_ z=>nomatch z) (λ_ _ z=>nomatch z) (λ_ z=>nomatch z) (λ_ z=>nomatch z);have ne:∀c∈bs,c≠b:=λc d z=>nd.1 (z▸d);obtain⟨H',u,k,m⟩:=mT bs t (λc d=>by rw[ah (ne c d)];exact h c (MH _ d)) nd.2;refine⟨H',u,λc d=>?_,λc d l g=>?_⟩;.rw[k c (λz=>d (MH _ z)),ah (λz=>d (by rw[z];exact ME))]
  .rcases List.mem_cons.mp d with rfl|d
   .rw[i]at g;cases g;exact⟨_,by rw[k c nd.1,aj]⟩
   .exact m c d l (by rw[ah (ne c d)];exact g)
theorem AE(i:Nat){np:Oc}(hK:X.K=F.K)(hi:X.N[i]?=Mq x)(hv:oI X.env.scope x)(hd:(x==("__debug__":MR))=Mw)(R:(x==("__classdict__":MR))=Mw):DS X F (.Return (Mq (.Name x np)) pos) (λρ=>do let Y<-M.get (fF ρ i);pure (.ro (.aW Y.1 Y.2))):=by
 have pe:PE X (.Name x np) (λG H Q=>∃(a:MB)(bs:List MB),G[i]?=Mq (Mq (.ref a))/\bs.Nodup/\(∀b∈bs,∃g,H b=Mq (.lst g))/\∀c,(∀b,b∉bs->c b=H b)->(∀b∈bs,∀g,H b=Mq (.lst g)->∃o,c b=Mq (.cv o (.lst g)))->Q (.ref a) c):=λE s G H Q I h=>by
  obtain⟨a,bs,hs,nd,hb,q⟩:=h;refine a_ (bX (pos:=np) hi hv hd R E s G H (λv H2=>v=.ref a/\H2=H) I ⟨_,hs,rfl,rfl⟩) λu s1 y=>?_;obtain⟨w,H2,I2,r,e1,e2⟩:=y;subst e1 e2;obtain⟨c,I',n,L⟩:=mT bs I2 hb nd;exact⟨.ref a,c,I',r,q c n L⟩
 refine⟨hK,(gC pe).imp λZ G H y=>?_⟩;obtain⟨ρ,k,S,h⟩:=y;obtain⟨⟨ks,ds⟩,h0,h⟩:=M.run_get.mp h;obtain⟨v,O,a,rfl,o,bs,T,a0,ob,sy,dc,nd,na,J,lv⟩:=S.at_ i _ (f_ h0);refine⟨a,bs,O,nd,λb hb=>?_,λc n L=>?_⟩
 .obtain⟨d,U,g,_,q,_⟩:=Paired.Ax lv hb;exact⟨g,q⟩
 have W:∀b o,o.jt=Mv->H b=Mq o->b∉bs:=λb o st e z=>by
  obtain⟨d,U,g,_,q,_⟩:=Paired.Ax lv z;rw[e]at q;cases q;cases st
 have kp:Kp F.toFb H k c k:=by
  refine⟨λb o hb st e=>by rw[n b (W b o st e)];exact e,λl=>by rw[n _ (λz=>(J _ z).1 rfl)];exact l,MO _,λq f=>?_⟩;obtain⟨ns,j,r,⟨h1,⟨o,h2⟩,h3,h4,h5,h6⟩,hj⟩:=f;exact⟨ns,j,r,⟨by rw[n _ (λz=>(J _ z).1 rfl)];exact h1,⟨o,by rw[n _ (W q _ rfl h2)];exact h2⟩,h3,h4,h5,h6⟩,hj⟩
 have ex:Ext F.toFb F.H0 F.k0 c k:=by
  refine⟨λb o hb e=>?_,λl=>kp.live (S.ext.live l),S.ext.le,λq f=>kp.bS q (S.ext.bS q f)⟩;rw[n b (λz=>by rw[(J b z).2]at e;cases e)];exact S.ext.keep b o hb e
 have all:∀(m:List MB)(C:List D),(∀b∈m,b∈bs)->Paired (wq F.toFb H) m C->af F.toFb c (m.map V.ref) C:=λm C B p=>by induction p with
  |nil=>exact .nil|cons h t ih=>
   obtain⟨U,g,rfl,hx,ix⟩:=h;obtain⟨o',P⟩:=L _ (B _ ME) g hx;refine .cons ?_ (ih λb hb=>B b (MH _ hb));simp only[Is];exact⟨_,g,rfl,⟨(J _ (B _ ME)).1,o',P⟩,ix.mono kp⟩
 exact h a c ex ⟨T,a0,o,bs.map V.ref,by rw[n a na];exact ob,sy,dc.mono kp,all bs ds (λ_ z=>z) lv⟩
theorem xw{f g:MR}(i:Nat){j:MP}{b:List MP}{n1 n2 Z Y:Nat}{t mg:List A->M Rs}{pf pg np cp c:Oc}(Df:nL X.prog X.w X.K X.mg X.base f n1 Z t)(z:cX Z X.A)(V:nL X.prog X.w X.K X.mg X.base g n2 Y mg)(y:cX Y X.A)(hP:X.prog=F.P)(hw:X.w=F.w)(hi:X.N[i]?=Mq x)(hv:oI X.env.scope x)(hd:(x==("__debug__":MR))=Mw)(O:(x==("__classdict__":MR))=Mw)(ha:DA X F (j::b) tas)(D:Gl X f)(C:Gl X g)(L:(f==("__debug__":MR))=Mw)(J:(g==("__debug__":MR))=Mw)(I:MX (j::b) X.env=(Mw,OB j X.env)::MX b X.env)(n:(PF c (MX b X.env)).any (·.1)=Mw):DE X F (.Call (.Name f pf) [.Name x np,.Call (.Name g pg) (j::b) [] c] [] cp) (λρ=>do
   M.need (ρ[i]?=Mq (Mq .feed))let bs<-tas ρ;M.need (bs.length=n2/\n1=2)let r<-Jd (mg bs)let d<-L3 r;let l<-Jd (t [.feed,.own d])Ka l):=by
 obtain⟨a2,a4,Df⟩:=Df;obtain⟨a0,a3,V⟩:=V;have m:MX [.Name x np,.Call (.Name g pg) (j::b) [] c] X.env=(Mw,OB (.Name x np) X.env)::MX [.Call (.Name g pg) (j::b) [] c] X.env:=rfl;refine⟨ha.hK,(rh (pos:=cp) Df z D (bf (bX (pos:=np) hi hv hd O) (bf (rh (pos:=c) V y C ha.pa J I n) cf rfl) m) L m rfl).imp λσ H Q⟨ρ,k,S,G,h⟩=>?_⟩;have s:(⟨X.K,F.p,X.prog,X.w⟩:Fb)=F.toFb:=by
  have:F.toFb=⟨F.K,F.p,F.P,F.w⟩:=rfl;rw[this,ha.hK,hP,hw]
 obtain⟨v,h3,rfl,fd⟩:=S.at_ i _ G;refine⟨_,h3,?_⟩;refine qM.next S h λbs j1 vs H1 e1 S1 i1 R=>?_;obtain⟨⟨hb,B⟩,R⟩:=R;have o:=Paired.length i1;refine⟨F.p,j1,bs,H1,[],[],?_,S1.live,?_,.inl ⟨rfl,rfl,rfl⟩,?_,?_⟩;.rw[M1,M1,NL (PX o)]
 .rw[M1,NL (PX o),s];exact i1
 .rw[M1];exact hb
 rw[M1,s];refine M.wk R λr u q=>?_;cases r with
 |d _=>exact q.elim|own d=>
  intro a H2 U hn ap oi;have ex:Ext F.toFb H1 j1 (era H2 a) u:=U.Kb hn ap;have q:(Jd (t [.feed,.own d])>>=λl=>Ka l).run u (qE F.toFb H k Q) F.E:=q;refine⟨F.p,u,[.feed],era H2 a,[.ref a],[.own d],rfl,ex.live S1.live,?_,.inr ⟨a,d,rfl,rfl,rfl,ap,?_⟩,B.symm,?_⟩
  .rw[s];exact .cons ⟨rfl,ex.feed (e1.feed fd)⟩ .nil
  .rw[s];exact oi
  .rw[s];refine M.wk q λl j3 W=>?_;cases l with
   |own _=>exact W.elim|d d2=>exactλv H3 T i3=>W v H3 ((e1.trans ex).trans T) i3
end
noncomputable def xx(te:ag->M D)(ρ:ag)(i:Nat)(js:List Nat):List D->List D->M (List D)
 |[],_=>pure []|d::a,rest=>do
  let n<-e9 (<-te ((dy (ρ.set i (Mq (.own (.lst rest)))) 1 js).set 0 (Mq (.d d))))M.need (0<=n/\n<(rest.length:Int)/\rest.length<=MA)let x<-M.get rest[n.toNat]?;let r<-xx te ρ i js a (rest.eraseIdx n.toNat)pure (x::r)
theorem af.erase{B:Fb}{H:Hp}:∀{xs:List V}{ds:List D}(n:Nat),af B H xs ds->af B H (xs.eraseIdx n) (ds.eraseIdx n)
 |_,[],n,h=>by simp only[af]at h;rw[h];simpa using af.nil|_,d::ds,0,h=>by
  simp only[af]at h;obtain⟨x,b,rfl,_,a⟩:=h;exact a|_,d::ds,n+1,h=>by
  simp only[af]at h;obtain⟨x,b,rfl,c,a⟩:=h;exact .cons c (a.erase n)
theorem Hh{n:Int}{l:Nat}(c:0<=n)(b:n<(l:Int)):Tj n l=Mq n.toNat:=by
 have a:¬n<0:=by omega
 simp only[Tj,a,if_false];rw[if_pos (by simp;omega)]
section
variable{X:Cx}{F:Fx}{ae iter:MP}{scope:Of}{x kx:MR}{te:ag->M D}{tI:ag->M (List D)}{np ap cp kp pos pos0:Oc}
theorem AF(i T:Nat)(fr:List MR)(js:List Nat)(O:X.calm=Mv)(c2:kC X.env.scope scope=Mv)(hj:js.map (λj=>X.N[j]?)=fr.map Mq)(c0:∀x∈fr,scope.names.lookup x=Mq .free)(b3:js.Nodup)(b4:js[T]?=Mq i)(hw:DI X F (.Name kx kp) iter tI)(hg:∀b R C fp s H,PG (dB X b scope ([kx]++fr) R C fp s H) (.Name kx kp) (mh 0))(hx:∀b R C fp s H,(dB X b scope ([kx]++fr) R C fp s H).N[1+T]?=Mq x/\oI (dB X b scope ([kx]++fr) R C fp s H).env.scope x)(hd:(x==("__debug__":MR))=Mw)(c4:(x==("__classdict__":MR))=Mw)(he:∀b R C fp s H,DE (dB X b scope ([kx]++fr) R C fp s H) F ae te)(hl:(ap.endLine==cp.line)=Mv)(G:∀env,MX [ae] env=(Mw,OB ae env)::MX [] env)(hs:∀y,OE iter X.env y=pure y):DS X F (.Return (Mq (.ListComp (.Call (.Attribute (.Name x np) "pop" ap) [ae] [] cp) [⟨.Name kx kp,iter,[],0⟩] scope pos0)) pos) (λρ=>do
   let Y<-kT (<-M.get (d6 ρ i))let ds<-tI ρ;let r<-xx te ρ i js ds Y;pure (.rt (.lst r))):=by
 have pe:PE X (.ListComp (.Call (.Attribute (.Name x np) "pop" ap) [ae] [] cp) [⟨.Name kx kp,iter,[],0⟩] scope pos0) (tj 1 js (Je F tI) (mh 0) CV (iT (JX X.K "list" wb (λg H Q=>∃v,g[1+T]?=Mq (Mq v)/\Q v H) (Bv (cL F te) Gg))) [] .lst):=λb s g H Q I z=>by
  obtain⟨R,c⟩:=rp I.ok c2;exact(iW (own:=[kx]) (ok:=Ja) (ob0:={cls:=.type "list",dict:=Mu,data:=.seq ([]:List Mt).toArray}) (newAcc:=newObj (.type "list") (.seq #[])) (o:=HO.lst) (a0:=[]) (body:=λD env=>do let _<-call (.builtin "list.append") [.ref D,<-OB (.Call (.Attribute (.Name x np) "pop" ap) [ae] [] cp) env]) O c hj c0 hw.pi rfl (iX rfl rfl) (λh=>Nl h) (λa ob v⟨_,_,_,_,e⟩z=>by rw[e]at z;cases z) ⟨ND _,[],_,.nil,rfl⟩ (λz=>nomatch z) (λ_ _ _=>rfl) (λ_ _ _=>rfl) (λ_ _ _=>rfl) (λb cs C fp s H=>hg b cs C fp s H) (λb cs C fp s H=>oZ) (λb cs C fp s H D o=>mD o (sP (X:=dB X b scope ([kx]++fr) cs C fp s H) (name:="pop") (apos:=ap) (cpos:=cp) Pj PySem.F.slot_list_pop (by rfl) wc (bX (pos:=np) (hx b cs C fp s H).1 (hx b cs C fp s H).2 hd c4) (bf (he b cs C fp s H).pe cf (G _)) rfl (by rw[G];rfl) hl (G _) rfl)) pz hs).pe rfl b s g H Q I z
 refine⟨hw.hK,(gC (rb pe)).imp λZ g H⟨ρ,k,S,h⟩=>?_⟩;obtain⟨d0,h0,h⟩:=M.run_get.mp h;obtain⟨Y,rfl,h⟩:=d7 h;obtain⟨v,L,a,rfl,oa⟩:=S.at_ i _ (cZ h0);refine⟨ρ,k,S,M.wk h λds k1 q J H1 e1 it=>?_⟩;have q:(xx te ρ i js ds Y>>=λr=>pure (Fl.rt (.lst r))).run k1 (sU F Z H k) F.E:=q;have S1:=S.mono e1;have er:ρ.set i (Mq (.own (.lst Y)))=ρ:=k_ (cZ h0);refine⟨λn m l V U=>m=ds.length-n/\n<=ds.length/\l.length<=n/\(∃v0,V=(aU g 1 js).set 0 v0)/\∃rest t as,b9 F (ρ.set i (Mq (.own (.lst rest)))) t g U/\Kp F.toFb H1 k1 U t/\af F.toFb U l as/\(xx te ρ i js (ds.drop n) rest).run t (λr k'=>sU F Z H k (.rt (.lst (as++r))) k') F.E,⟨ds.length,rfl,ND _,MO _,⟨Mu,(k_ (by simp[aU])).symm⟩,Y,k1,[],by rw[er];exact S1,.refl,.nil,q⟩,?_⟩;rintro n m l V U⟨rfl,d4,e0,⟨v0,rfl⟩,rest,t,as,S2,e2,ia,w⟩;by_cases a7:n<ds.length
 .obtain⟨d,tJ,c1⟩:=jQ a7;rw[c1]at w;obtain⟨go,yl⟩:=it.step n d U t tJ e2 S2.live;refine .inr ⟨go,λy H3 hy=>?_⟩;obtain⟨e3,i3⟩:=yl y H3 hy;have S3:=S2.mono e3;have B3:=(S3.dB 1 b3).set 0 i3;have c5:((aU g 1 js).set 0 v0).set 0 (Mq y)=(aU g 1 js).set 0 (Mq y):=List.set_set ..;unfold mh;rw[c5];unfold CV;dsimp only;rw[if_pos rfl];unfold iT JX;have a2:((aU g 1 js).set 0 (Mq y))[1+T]?=Mq (Mq (.ref a)):=by
   rw[OA (by omega)];exact dD (by omega) (by rw[show 1+T-1=T by omega];exact b4) L
  have il:i<ρ.length:=(List.getElem?_eq_some_iff.mp (cZ h0)).1;have a6:(ρ.set i (Mq (W.own (.lst rest))))[i]?=Mq (Mq (.own (.lst rest))):=by rw[OP il]
  obtain⟨w3,a5,a3,rfl,f⟩:=S3.at_ i _ a6;rw[L]at a5;cases a5;obtain⟨xs,a4,a8⟩:=f.2.2;refine⟨_,a2,.inl ⟨rfl,xs,.inl (.inl a4)⟩,?_⟩;refine cL.next B3 w λdn k4 u H4 e4 B4 i4 P=>?_;obtain⟨nn,rfl,P⟩:=aN.mp P;obtain⟨⟨n0,n1,n2⟩,P⟩:=P;obtain⟨xd,b0,P⟩:=M.run_get.mp P;simp only[Is]at i4;subst i4;have S4:=S3.mono e4;have B:=e4.keep a _ f.1 a4;have A:=a8.mono e4.kp;obtain⟨wv,b2,a9⟩:=A.get b0;have d2:=A.length;have d1:=PL;refine⟨a,xs,nn,nn.toNat,wv,rfl,rfl,B,by omega,by omega,Hh n0 (by omega),b2,?_⟩;have kp:Kp F.toFb H4 k4 (upd H4 a (.lst (xs.eraseIdx nn.toNat))) k4:=Kp.own f.1 B rfl;have S5:=S4.eR (o':=.lst (xs.eraseIdx nn.toNat)) (w':=.own (.lst (rest.eraseIdx nn.toNat))) a6 L f.1 f.2.1 B rfl ⟨a,rfl,f.1,f.2.1,_,aj,(A.erase nn.toNat).mono kp⟩;rw[List.set_set]at S5;have hz:=it.len;refine⟨by omega,ds.length-(n+1),by omega,rfl,a7,by simp;omega,⟨_,rfl⟩,rest.eraseIdx nn.toNat,k4,as++[xd],S5,(e2.trans (e3.trans e4).kp).trans kp,((ia.mono (e3.trans e4).kp).mono kp).append (.cons (a9.mono kp) .nil),M.wk P λr k7 z=>?_⟩;rw[M5];exact z
 .have e:n=ds.length:=by omega
  subst e;rw[QN]at w;have w:sU F Z H k (.rt (.lst (as++[]))) t:=w;rw[M1]at w;refine .inl ⟨it.stop U t e2 S2.live,λp hp _=>⟨p,l,rfl,aj,λo=>?_⟩⟩;rw[bV];exact w _ _ (S2.ext.trans (.new hp)) (bE (k:=t) S2.live hp ia)
end
end L2
end
section
namespace ZP
open PySem PyProof.Rows
section
variable{prog:MQ}{w:M6}{A:Nf}{E:Mt->Mz->Prop}{s:Mz}
theorem qb{a:MB}{Q:Option NI->Mz->Prop}(h:Q (s.heap.get? a) s):wpAny (ML prog w) A (Uq a) Q E s:=λb p _=>by
 unfold Uq;rw[Sem.wp_loadIfAlive];exact h
noncomputable abbrev AG(h:M7)(z TI TO:MB)(q:Nat)(b:Bool):Prop:=h.get? z=Mq {cls:=.type "zip",dict:=Mu,data:=.fields #[Qo q,.bool b,.bool Mw,.ref TI,.ref TO],slots:=#[]}
structure Eg(h:M7)(z TI TO i1 i2 a1 a2:MB)(k:Nat)(xs ys:Array Mt)(q:Nat):Prop where
 zp:∃b,AG h z TI TO q b
 al:∃o,h.get? q=Mq o
 ti:P4 h TI (.ref i1) (.ref i2)s1:kI h i1 a1 k xs
 s2:kI h i2 a2 k ys
theorem tU{z TI TO:MB}{q:Nat}{b:Bool}{Q:Bool->Mz->Prop}(a:AG s.heap z TI TO q b)(ha:∃o,s.heap.get? q=Mq o)(h:∀h',AG h' z TI TO q Mv->N1 z s.heap h'->Q Mw {s with heap:=h'}):wpAny (ML prog w) A (Nc (.ref z)) Q E s:=by
 obtain⟨o,d⟩:=ha;unfold Nc;refine Ms (Nw a rfl (x:=Qo q) rfl ?_);show wpAny _ _ (Uq (Int.toNat (q:Int))>>=_) _ _ _;rw[O7];refine Ms (qb ?_);rw[d];show wpAny _ _ (SI (.ref z) 1>>=_) _ _ _;refine Ms (Nw a rfl (x:=.bool b) rfl ?_);cases b with
 |true=>exact Mx (h s.heap a (Ua ..))|false=>
  show wpAny _ _ (setField (.ref z) 1 (.bool Mv)>>=_) _ _ _;exact Ms (Ow a (by simp) λe c m1=>Mx (h e c m1))
theorem vm{z TI TO f d a1 l:MB}{k:Nat}{xs ys:Array Mt}{x y:Mt}{q:Nat}{Q:Mt->Mz->Prop}(D:P_ z TI TO f d a1 l)(Z:Eg s.heap z TI TO f d a1 l k xs ys q)(n:q≠z)(r:q≠f)(p:q≠d)(R:xs[k]?=Mq x)(P:ys[k]?=Mq y)(S:∀h',Eg h' z TI TO f d a1 l (k+1) xs ys q->P4 h' s.heap.objs.size x y->h'.objs.size=s.heap.objs.size+1->(∀c o,c≠z->c≠TO->c≠f->c≠d->s.heap.get? c=Mq o->h'.get? c=Mq o)->(∀o,s.heap.get? TO=Mq o->h'.get? TO=Mq o)->Q (.ref s.heap.objs.size) {s with heap:=h'}):wpAny (ML prog w) A (Builtin.«zip.__next__» ⟨[.ref z],[]⟩) (λu K=>∃v,u=.done (.ret v)/\Q v K) E s:=by
 obtain⟨⟨b,m⟩,ha,h,U,T⟩:=Z;show wpAny _ _ (SI (.ref z) 2>>=_) _ _ _;refine Ms (Nw m rfl (x:=.bool Mw) rfl ?_);show wpAny _ _ (SI (.ref z) 3>>=_) _ _ _;refine Ms (Nw m rfl (x:=.ref TI) rfl ?_);refine Ms (Np h rfl ?_);show wpAny _ _ (Nc (.ref z)>>=_) _ _ _;refine Ms (tU m ha λW I m1=>?_);refine Ms ?_;simp only[<-Pk,Px,Pf];refine Ms (Ms (Na ?_));show wpAny _ _ (M2 (.ref f)>>=_) _ _ _;refine Ms (d5 D.l1i1 (U.ext m1.extBut D.i1z D.l1z) R λV N m2=>Mx ?_);refine Mx ?_;refine Ms (Ms (Na ?_));show wpAny _ _ (M2 (.ref d)>>=_) _ _ _;have L:kI V d l k ys:=(T.ext m1.extBut D.i2z D.l2z).ext m2.extBut D.i12.symm D.l2i1;refine Ms (d5 D.l2i2 L P λa M g=>Mx ?_);refine Mx (Mx ?_);show wpAny _ _ (newTuple [x,y]>>=_) _ _ _;refine Ms (Td ?_);have n4:a.objs.size=s.heap.objs.size:=by rw[g.1,m2.1,m1.1]
 have H:AG a z TI TO q Mv:=g.extBut _ _ D.i2z.symm (m2.extBut _ _ D.i1z.symm I);have F:∀c o,c≠z->c≠TO->c≠f->c≠d->s.heap.get? c=Mq o->a.get? c=Mq o:=λc o j G c3 i e=>g.extBut _ _ i (m2.extBut _ _ c3 (m1.extBut _ _ j e));have C:∀c o,c≠z->c≠f->c≠d->s.heap.get? c=Mq o->a.get? c=Mq o:=λc o j c3 i e=>g.extBut _ _ i (m2.extBut _ _ c3 (m1.extBut _ _ j e));have J:kI a f a1 (k+1) xs:=N.ext g.extBut D.i12 D.l1i2;refine Mx ⟨_,rfl,?_⟩;show Q (.ref a.objs.size) _;have B:P4 (a.push {cls:=.type "tuple",data:=.seq #[x,y]}) a.objs.size x y:=MK _ rfl;have sz:(a.push {cls:=.type "tuple",data:=.seq #[x,y]}).objs.size=a.objs.size+1:=NN ..;rw[n4]at B sz⊢;obtain⟨O,t⟩:=ha;exact S _ ⟨⟨Mv,My _ H⟩,⟨O,My _ (C _ _ n r p t)⟩,My _ (F _ _ D.TIz D.TITO D.TIi1 D.TIi2 h),J.keep (λo e=>My _ e) (λo e=>My _ e),M.keep (λo e=>My _ e) (λo e=>My _ e)⟩ B sz (λc o j G c3 i e=>My _ (F c o j G c3 i e)) λo e=>My _ (C TO o D.TOz D.TOi1 D.TOi2 e)
theorem xy{z TI TO f a a1 p:MB}{k:Nat}{xs ys:Array Mt}{q:Nat}{Q:Fin->Mz->Prop}(r:A.handled=Mu)(D:P_ z TI TO f a a1 p)(Z:Eg s.heap z TI TO f a a1 p k xs ys q)(d:xs[k]?=Mu\/ys[k]?=Mu)(t:∀h' e,(∀c o,c≠z->c≠TO->c≠f->c≠a->s.heap.get? c=Mq o->h'.get? c=Mq o)->(∃o,h'.get? e=Mq o/\o.cls=.type "StopIteration")->E (.ref e) {s with heap:=h'}):wpAny (ML prog w) A (Builtin.«zip.__next__» ⟨[.ref z],[]⟩) Q E s:=by
 obtain⟨⟨b,g⟩,ha,l,u,C⟩:=Z;show wpAny _ _ (SI (.ref z) 2>>=_) _ _ _;refine Ms (Nw g rfl (x:=.bool Mw) rfl ?_);show wpAny _ _ (SI (.ref z) 3>>=_) _ _ _;refine Ms (Nw g rfl (x:=.ref TI) rfl ?_);refine Ms (Np l rfl ?_);show wpAny _ _ (Nc (.ref z)>>=_) _ _ _;refine Ms (tU g ha λJ H m1=>?_);refine Ms ?_;simp only[<-Pk,Px,Pf];refine Ms (Ms (Na ?_));show wpAny _ _ (M2 (.ref f)>>=_) _ _ _;cases i:xs[k]? with
 |none=>exact Ms (jR r (u.ext m1.extBut D.i1z D.l1z) i λm e m2 j=>t m e (λc o n _ c3 _ x=>m2 _ _ c3 (m1.extBut _ _ n x)) j)|some x=>
  have B:ys[k]?=Mu:=by rcases d with h|h;rw[i]at h;cases h;exact h
  refine Ms (d5 D.l1i1 (u.ext m1.extBut D.i1z D.l1z) i λm I m2=>Mx ?_);refine Mx ?_;refine Ms (Ms (Na ?_));show wpAny _ _ (M2 (.ref a)>>=_) _ _ _;have v:kI m a p k ys:=(C.ext m1.extBut D.i2z D.l2z).ext m2.extBut D.i12.symm D.l2i1;exact Ms (jR r v B λF e y j=>t F e (λc o n K c3 G x=>y _ _ G (m2.extBut _ _ c3 (m1.extBut _ _ n x))) j)
theorem i_{z TI TO d a a1 h:MB}{k:Nat}{xs ys:Array Mt}{x y:Mt}{q:Nat}{Q:Option Mt->Mz->Prop}(D:P_ z TI TO d a a1 h)(Z:Eg s.heap z TI TO d a a1 h k xs ys q)(e:q≠z)(g:q≠d)(f:q≠a)(l:xs[k]?=Mq x)(j:ys[k]?=Mq y)(m:∀h',Eg h' z TI TO d a a1 h (k+1) xs ys q->P4 h' s.heap.objs.size x y->h'.objs.size=s.heap.objs.size+1->(∀c o,c≠z->c≠TO->c≠d->c≠a->s.heap.get? c=Mq o->h'.get? c=Mq o)->(∀o,s.heap.get? TO=Mq o->h'.get? TO=Mq o)->Q (Mq (.ref s.heap.objs.size)) {s with heap:=h'}):wpAny (ML prog w) A (OS (.ref z)) Q E s:=by
 have i:s.TypeIs (.ref z) "zip":=by obtain⟨b,hz⟩:=Z.zp;exact⟨_,hz,rfl⟩
 unfold OS;exact Ms (PC (Nm (name:=Mr "__next__") i NS (Nr NS i Pn (vm D Z e g f l j λh' t r c3 p n=>Mx (m h' t r c3 p n)) (Ph _))))
theorem fe{z TI TO f d a1 h:MB}{k:Nat}{xs ys:Array Mt}{q:Nat}{Q:Option Mt->Mz->Prop}(l:A.handled=Mu)(D:P_ z TI TO f d a1 h)(Z:Eg s.heap z TI TO f d a1 h k xs ys q)(a:xs[k]?=Mu\/ys[k]?=Mu)(p:∀h',(∀c o,c≠z->c≠TO->c≠f->c≠d->s.heap.get? c=Mq o->h'.get? c=Mq o)->Q Mu {s with heap:=h'}):wpAny (ML prog w) A (OS (.ref z)) Q E s:=by
 have g:s.TypeIs (.ref z) "zip":=by obtain⟨b,hz⟩:=Z.zp;exact⟨_,hz,rfl⟩
 unfold OS;refine Ms (PC (Nm (name:=Mr "__next__") g NS (Nr NS g Pn (xy l D Z a λh' e j m=>?_) (Ph _))));obtain⟨o,i,n⟩:=m;exact Ms (Pe (T:="StopIteration") (b:=Mv) ⟨o,i,n⟩ Tb (Mx (p _ j)))
end
end ZP
namespace L2
open PySem PySem.Spec PyProof.Rows ZP
section
variable{X:Cx}{pins:List (MB×NI)}{σ:St}
noncomputable def Eh(h:M7)(H:Hp)(z TI TO b a a1 c:MB)(k:Nat)(xs ys:Array Mt):Prop:=zV h z TI TO b a a1 c k xs ys .none\/∃q,Eg h z TI TO b a a1 c k xs ys q/\H q≠Mu
theorem dY.mono{H H':Hp}{b:MB}(h:dY X pins H b)(e:H' b=Mu):dY X pins H' b:=⟨e,h.2⟩
end
end L2
end
section
namespace L2
open PySem PySem.Spec PyProof.Rows ZP
section
variable{prog:MQ}{w:M6}{A:Nf}{E:Mt->Mz->Prop}{s:Mz}
theorem l9:UC (.type "zip") "keys"=pure Mu:=by rw[typeLookup_type,SW];kernel_rfl
theorem ja:UC (.type "zip") "__getattr__"=pure Mu:=by rw[typeLookup_type,SW];kernel_rfl
theorem nV:entryFor table "zip.__getattribute__"=Mq Builtin.«object.__getattribute__»:=entryFor_alias (id':="object.__getattribute__") (by kernel_rfl) (by decide+kernel) (by decide+kernel) (by kernel_rfl)
theorem xA(a:MB)(xs:Array Mt)(h:Array (Option Mt))(u:UJ):Meets (Builtin.«object.__getattribute__» ⟨[.ref a,.str "keys" u],[]⟩) (λA R s=>s.heap.get? a=Mq {cls:=.type "zip",dict:=Mu,data:=.fields xs,slots:=h}/\raisesAttr (.ref a) "keys" A R s):=Meets.of_wp λprog w A R s c=>by
  obtain⟨j,g,d,f,os⟩:=s;obtain⟨i,c⟩:=c;have k:(⟨j,g,d,f,os⟩:Mz).TypeIs (.ref a) "zip":=⟨_,i,rfl⟩;have e:=l9;have b:(["__module__","__name__","__qualname__","__doc__","__annotations__"]:List MR).contains "keys"=Mw:=by decide+kernel
  unfold Builtin.«object.__getattribute__»;repeat(any_goals(first|assumption|wp_step))
  try simp only[b,MV,if_false]
  repeat(any_goals(first|assumption|wp_step))
  exact wpAny_raiseAttrError c.1 c.2 (attrMsg_fits (by decide+kernel) (by size_fits))
theorem rJ{a:MB}{xs:Array Mt}{l:Array (Option Mt)}{Q:Option Mt->Mz->Prop}(n:s.heap.get? a=Mq {cls:=.type "zip",dict:=Mu,data:=.fields xs,slots:=l})(q:A.handled=Mu)(h:∀h' i,(∀b o,s.heap.get? b=Mq o->h'.get? b=Mq o)->Q Mu {s with heap:=h',toks:=i}):wpAny (ML prog w) A (getAttr? (.ref a) "keys") Q E s:=by
 obtain⟨j,g,d,i,os⟩:=s;have p:∀c,(⟨j,g,d,c,os⟩:Mz).TypeIs (.ref a) "zip":=λ_=>⟨_,n,rfl⟩;have H:=sub_AttributeError;have G:=F.slot_zip_getattribute.lookup;have D:=F.slot_zip_getattribute.bind (.ref a);have C:=ja;have k:wpAny (ML prog w) A (getAttr? (.ref a) "keys") (λr m=>∃h' c,r=Mu/\(∀b o,j.get? b=Mq o->h'.get? b=Mq o)/\m=⟨h',g,d,c,os⟩) E ⟨j,g,d,i,os⟩:=by
  unfold getAttr? getAttrBy? getAttrBy;repeat(any_goals(first|assumption|exact p _|((with_reducible show wpAny _ _ (call (Value.builtin "zip.__getattribute__") _ _) _ _ _);refine TJ F.slot_zip_getattribute (p _) nV (F.args_zip_getattribute_2 _ _) (xA a xs l _) ⟨n,q,λh' c e f=>?_⟩)|wp_step))
  obtain⟨y,x,B⟩:=f.there;show wpAny _ _ (TU _ _ _ _ _ _ _) _ _ _;unfold TU;repeat(any_goals(first|assumption|wp_step))
  exact⟨_,_,rfl,f.of.keeps,rfl⟩
 exact Og k (λr m⟨h',c,v,t,u⟩=>by subst v u;exact h h' c t) λ_ _ z=>z
end
section
variable{X:Cx}{F:Fx}{pins:List (MB×NI)}{σ:St}
theorem Ei{a:Type}{b z t u v w:a}(h:b∈[z,t,u,v,w]):b=z\/b=t\/b=u\/b=v\/b=w:=by simpa using h
theorem rK(H:X.calm=Mv)(hK:X.K=F.K)(hP:X.prog=F.P)(hw:X.w=F.w){A1:Nf}(hA:A1.handled=Mu)(hu:A1.units+2<NB){n z TI TO C B a1 a2:MB}{r:List D×List D}{R:UM->Mz->Prop}(hp:n≠F.p)(Ap:P_ z TI TO C B a1 a2){xs ys:List Mt}{vs us:List V}(r1:au vs xs)(r2:au us ys)(n1:n≠a1)(n2:n≠a2):∀(ps qs:List D)(k:Nat)(j:Int)(t:UJ)(ks ds:List D)(ws:List V)(o:NI)(i:Hp)(s:Mz),Inv X pins σ i s->i F.p≠Mu->i n=Mq (lS n o)->bj F.toFb i o ks ws->af F.toFb i ws ds->af F.toFb i (vs.drop k) ps->af F.toFb i (us.drop k) qs->(∀b∈[z,TI,TO,C,B],dY X pins i b/\∃o,s.heap.get? b=Mq o)->Eh s.heap i z TI TO C B a1 a2 k xs.toArray ys.toArray->ee (l4 ps qs) (ks,ds)=Mq r->(∀o' Y H' s',Inv X pins σ H' s'->H' n=Mq (lS n o')->(∀b u,b≠n->i b=Mq u->H' b=Mq u)->bj F.toFb H' o' r.1 Y->af F.toFb H' Y r.2->R (.ok (.ret .none)) s')->codeAny (ML X.prog X.w) A1 (.builtin "dict.update.loop" ⟨[.ref n,.ref z,.int j t,.none],[]⟩) R s:=by
 intro ps;induction ps with
 |nil=>
  intro qs k j t ks ds ws o i s I l hD dd ia a4 a3 fp Z e q;have e:Mq (ks,ds)=Mq r:=e;cases e;have J:xs.toArray[k]?=Mu\/ys.toArray[k]?=Mu:=by
   have:=a4.length;have:=r1.length;left;simp at*;omega
  refine O4 i7 ?_;rw[Od i8 _];unfold Builtin.«dict.update.loop»;dsimp only;have M:∀d,(∀c o,c≠z->c≠TO->c≠C->c≠B->s.heap.get? c=Mq o->d.get? c=Mq o)->R (.ok (.ret .none)) {s with heap:=d}:=λd g=>by
   have I2:Inv X pins σ i {s with heap:=d}:=I.w4 (t':=s.toks) (fp:=[z,TI,TO,C,B]) (λb hb=>(fp b hb).1) λc o H e=>by
    simp only[NC,Nt,or_false,not_or]at H;exact g c o H.1 H.2.2.1 H.2.2.2.1 H.2.2.2.2 e
   exact q o ws i _ I2 hD (λ_ _ _ z=>z) dd ia
  rcases Z with Z|⟨y,Z,hy⟩;.exact Ms (fB (A:=A1.in1) hA Ap Z J λd g=>Ms (Mx (Mx (M d g))))
  .exact Ms (fe (A:=A1.in1) hA Ap Z J λd g=>Ms (Mx (Mx (M d g))))|cons p ps ih=>
  intro qs k j t ks ds ws o i s I l hD dd ia a4 a3 fp Z e q;cases qs with
  |nil=>
   have e:Mq (ks,ds)=Mq r:=e;cases e;have J:xs.toArray[k]?=Mu\/ys.toArray[k]?=Mu:=by
    have:=a3.length;have:=r2.length;right;simp at*;omega
   refine O4 i7 ?_;rw[Od i8 _];unfold Builtin.«dict.update.loop»;dsimp only;have M:∀d,(∀c o,c≠z->c≠TO->c≠C->c≠B->s.heap.get? c=Mq o->d.get? c=Mq o)->R (.ok (.ret .none)) {s with heap:=d}:=λd g=>by
    have I2:Inv X pins σ i {s with heap:=d}:=I.w4 (t':=s.toks) (fp:=[z,TI,TO,C,B]) (λb hb=>(fp b hb).1) λc o H e=>by
     simp only[NC,Nt,or_false,not_or]at H;exact g c o H.1 H.2.2.1 H.2.2.2.1 H.2.2.2.2 e
    exact q o ws i _ I2 hD (λ_ _ _ z=>z) dd ia
   rcases Z with Z|⟨y,Z,hy⟩;.exact Ms (fB (A:=A1.in1) hA Ap Z J λd g=>Ms (Mx (Mx (M d g))))
   .exact Ms (fe (A:=A1.in1) hA Ap Z J λd g=>Ms (Mx (Mx (M d g))))|cons p' qs=>
   have e:(if aC ks p&&decide (ks.length<MA)then ee (l4 ps qs) (putD ks ds p p')else Mu)=Mq r:=e;by_cases hk:(aC ks p&&decide (ks.length<MA))=Mv
   .rw[if_pos hk]at e;rw[MG,decide_eq_true_eq]at hk;simp only[af]at a4 a3;obtain⟨v,vr,ev,iv,d0⟩:=a4;obtain⟨u,ur,eu,iu,d4⟩:=a3;have hv:vs[k]?=Mq v:=by
     have:=congrArg List.head? ev;simpa[List.head?_drop]using this
    have e1:vs.drop (k+1)=vr:=by
     have:=congrArg List.tail ev;simpa[List.tail_drop]using this
    have e3:us[k]?=Mq u:=by
     have:=congrArg List.head? eu;simpa[List.head?_drop]using this
    have e2:us.drop (k+1)=ur:=by
     have:=congrArg List.tail eu;simpa[List.tail_drop]using this
    obtain⟨x,hx,rx⟩:=r1.get hv;obtain⟨y,hy,ry⟩:=r2.get e3;have b3:xs.toArray[k]?=Mq x:=by simpa using hx
    have b2:ys.toArray[k]?=Mq y:=by simpa using hy
    refine O4 i7 ?_;rw[Od i8 _];unfold Builtin.«dict.update.loop»;dsimp only;have lt:∀b∈[z,TI,TO,C,B],b<s.heap.objs.size:=λb hb=>by obtain⟨o,e⟩:=(fp b hb).2;exact MM e
    have hf:i s.heap.objs.size=Mu:=I.aV.fresh (MO _);have nD:n≠s.heap.objs.size:=λh=>by rw[h,hf]at hD;cases hD
    have go:∀d,Eh d (upd i s.heap.objs.size (.tup [v,u])) z TI TO C B a1 a2 (k+1) xs.toArray ys.toArray->P4 d s.heap.objs.size x y->d.objs.size=s.heap.objs.size+1->(∀c o,c≠z->c≠TO->c≠C->c≠B->s.heap.get? c=Mq o->d.get? c=Mq o)->(∀b∈[z,TI,TO,C,B],∃o,d.get? b=Mq o)->∀h2 o2 a6,N1 n d h2->h2.get? n=Mq o2->mO (Is F.toFb (upd i s.heap.objs.size (.tup [v,u]))) F (upd i s.heap.objs.size (.tup [v,u])) ks ds p p' o2->Inv X pins σ (upd i s.heap.objs.size (.tup [v,u])) {s with heap:=d}->codeAny (ML X.prog X.w) A1 (.builtin "dict.update.loop" ⟨[.ref n,.ref z,Qo (j+1),.none],[]⟩) R {s with heap:=h2,toks:=a6}:=λd Q pr O g a7 h2 o2 a6 a0 eo po I1=>by
     obtain⟨⟨Y,d1,d2⟩,_⟩:=po;replace d2:=hX d2;have ex:Ext F.toFb i 0 (upd i s.heap.objs.size (.tup [v,u])) 0:=.new hf;have a5:upd i s.heap.objs.size (.tup [v,u]) n=Mq (lS n o):=by rw[ah nD];exact hD
     have kp:Kp F.toFb (upd i s.heap.objs.size (.tup [v,u])) 0 (upd (upd i s.heap.objs.size (.tup [v,u])) n (lS n o2)) 0:=Kp.own hp a5 rfl;have I2:Inv X pins σ (upd (upd i s.heap.objs.size (.tup [v,u])) n (lS n o2)) {s with heap:=h2,toks:=a6}:=iZ (s:={s with heap:=d}) I1 a5 a0 eo;have G:∀b∈[z,TI,TO,C,B],b≠n:=λb hb h=>by
      have:=(fp b hb).1.1;rw[h,hD]at this;cases this
     have E:∀b o,b≠n->d.get? b=Mq o->h2.get? b=Mq o:=λb o hb q=>(a0.2 b hb).trans q;refine ih qs (k+1) _ _ (putD ks ds p p').1 (putD ks ds p p').2 Y o2 _ _ I2 (kp.live (ex.live l)) aj (d1.mono kp) (d2.mono kp) (by rw[e1];exact(d0.mono ex.kp).mono kp) (by rw[e2];exact(d4.mono ex.kp).mono kp) (λb hb=>⟨(fp b hb).1.mono (by rw[ah (G b hb),ah (M3 (lt b hb))];exact(fp b hb).1.1),?_⟩) ?_ e λo' a8 H' s' I' e6 e5 f1 f0=>q o' a8 H' s' I' e6 (λb u' hb e=>e5 b u' hb (by rw[ah hb,ah (λh=>by rw[h,hf]at e;cases e)];exact e)) f1 f0
     .obtain⟨o',e'⟩:=a7 b hb;exact⟨o',E b o' (G b hb) e'⟩
     .rcases Q with Q|⟨y',Q,e0⟩
      .obtain⟨W,c2,⟨a,b,c3⟩,U,S⟩:=Q;exact .inl ⟨E z _ (G z (by simp)) W,E TI _ (G TI (by simp)) c2,⟨a,b,E TO _ (G TO (by simp)) c3⟩,U.keep (λo=>E C o (G C (by simp))) (λo=>E a1 o (Nj n1)),S.keep (λo=>E B o (G B (by simp))) (λo=>E a2 o (Nj n2))⟩
      .obtain⟨⟨b,W⟩,⟨o',c2⟩,c3,U,S⟩:=Q;by_cases L:y'=n;.exact .inr ⟨y',⟨⟨b,E z _ (G z (by simp)) W⟩,⟨o2,by rw[L];exact eo⟩,E TI _ (G TI (by simp)) c3,U.keep (λo=>E C o (G C (by simp))) (λo=>E a1 o (Nj n1)),S.keep (λo=>E B o (G B (by simp))) (λo=>E a2 o (Nj n2))⟩,by rw[L,aj];intro h;cases h⟩
       .exact .inr ⟨y',⟨⟨b,E z _ (G z (by simp)) W⟩,⟨o',E y' o' L c2⟩,E TI _ (G TI (by simp)) c3,U.keep (λo=>E C o (G C (by simp))) (λo=>E a1 o (Nj n1)),S.keep (λo=>E B o (G B (by simp))) (λo=>E a2 o (Nj n2))⟩,by rw[ah L];exact e0⟩
    have N:∀d,Eh d (upd i s.heap.objs.size (.tup [v,u])) z TI TO C B a1 a2 (k+1) xs.toArray ys.toArray->P4 d s.heap.objs.size x y->d.objs.size=s.heap.objs.size+1->(∀c o,c≠z->c≠TO->c≠C->c≠B->s.heap.get? c=Mq o->d.get? c=Mq o)->(∀b∈[z,TI,TO,C,B],∃o,d.get? b=Mq o)->wpAny (ML X.prog X.w) A1.in1 (QQ [.ref s.heap.objs.size] (do
       let N<-(Sv (.ref s.heap.objs.size)).tryCatch λe=>do
        if !(<-TM e (.type "TypeError"))then throw e
        RS "dict.update.element-no-sequence"raiseError"TypeError"s!"cannot convert dictionary update sequence element #{j} to a sequence"
       match N with
       |[k,v]=>QQ [k,v] (dictSet n k v)|l=>
        RS "dict.update.element-length"raiseError"ValueError"s!"dictionary update sequence element #{j} has length {l.length}; 2 is required")>>=λ_=>UK (.builtin "dict.update.loop" ⟨[.ref n,.ref z,Qo (j+1),.none],[]⟩)) (λM s'=>match M with|.done f=>R (.ok f) s'|.again c'=>c'.quiet=Mv/\codeAny (ML X.prog X.w) A1 c' R s') (λe s'=>R (.error e) s') {s with heap:=d}:=λd Q pr O g a7=>by
     have I2:Inv X pins σ i {s with heap:=d}:=I.w4 (t':=s.toks) (fp:=[z,TI,TO,C,B]) (λb hb=>(fp b hb).1) λc o H e=>by
      simp only[NC,Nt,or_false,not_or]at H;exact g c o H.1 H.2.2.1 H.2.2.2.1 H.2.2.2.2 e
     have I3:Inv X pins σ (upd i s.heap.objs.size (.tup [v,u])) {s with heap:=d}:=I2.BA (a:=s.heap.objs.size) I.sz hf (Oy I.lt) (λx c e q=>by
       obtain⟨w',q'⟩:=I.cell x c e;exact absurd q'.lt (by rw[q];exact Nx _)) (λp hp q=>absurd (MM (I.pin p hp).1) (by rw[q];exact Nx _)) ⟨by show 2<=MA;decide,[x,y],.cons rx (.cons ry .nil),⟨_,pr,rfl,_,rfl⟩⟩;have ex:Ext F.toFb i 0 (upd i s.heap.objs.size (.tup [v,u])) 0:=.new hf;have a5:upd i s.heap.objs.size (.tup [v,u]) n=Mq (lS n o):=by rw[ah nD];exact hD
     refine Ms (Na (Ms (PR ?_)));unfold Sv;refine Ms (Rf (T:="tuple") ⟨_,pr,rfl⟩ ?_);rw[if_pos (by decide)];refine Ms (Np pr rfl (Mx ?_));dsimp only[R1];have e4:d.get? n=Mq o:=(I3.aV n _ a5).1;refine Na (tD (F:=F) (A:=A1.in1) (R:=Is F.toFb (upd i s.heap.objs.size (.tup [v,u]))) (show A1.units+1+1<NB from hu) I3 hK hP hw (dd.mono ex.kp) e4 (ia.mono ex.kp).pr (iv.mono ex.kp) rx (iu.mono ex.kp) ry (bI hk.1) hk.2 λh2 o2 tk a0 eo po=>?_);exact Mx ⟨TV _ (by decide+kernel),go d Q pr O g a7 h2 o2 tk a0 eo po I3⟩
    have b4:upd i s.heap.objs.size (.tup [v,u]) s.heap.objs.size≠Mu:=by rw[aj];intro h;cases h
    rcases Z with Z|⟨y0,Z,L⟩
    .refine Ms (jH Ap Z b3 b2 λd Q pr O g=>?_);obtain⟨W,c2,⟨a,b,c3⟩,U,S⟩:=Q;have o4:∃o,d.get? C=Mq o:=by cases U with|list p _=>obtain⟨o,e,_⟩:=p;exact⟨o,e⟩|tup p _=>obtain⟨o,e,_⟩:=p;exact⟨o,e⟩
     have o5:∃o,d.get? B=Mq o:=by cases S with|list p _=>obtain⟨o,e,_⟩:=p;exact⟨o,e⟩|tup p _=>obtain⟨o,e,_⟩:=p;exact⟨o,e⟩
     refine N d (.inr ⟨_,⟨⟨_,W⟩,⟨_,pr⟩,c2,U,S⟩,b4⟩) pr O g λb hb=>?_;rcases Ei hb with rfl|rfl|rfl|rfl|rfl;.exact⟨_,W⟩
     .exact⟨_,c2⟩
     .exact⟨_,c3⟩
     .exact o4
     .exact o5
    .have G:∀b∈[z,TI,TO,C,B],y0≠b:=λb hb h=>L (by rw[h];exact(fp b hb).1.1);refine Ms (i_ Ap Z (G z (by simp)) (G C (by simp)) (G B (by simp)) b3 b2 λd Q pr O g c0=>?_);obtain⟨⟨b0,W⟩,⟨o',c2⟩,c3,U,S⟩:=Q;have o4:∃o,d.get? C=Mq o:=by cases U with|list p _=>obtain⟨o,e,_⟩:=p;exact⟨o,e⟩|tup p _=>obtain⟨o,e,_⟩:=p;exact⟨o,e⟩
     have o5:∃o,d.get? B=Mq o:=by cases S with|list p _=>obtain⟨o,e,_⟩:=p;exact⟨o,e⟩|tup p _=>obtain⟨o,e,_⟩:=p;exact⟨o,e⟩
     refine N d (.inr ⟨y0,⟨⟨b0,W⟩,⟨o',c2⟩,c3,U,S⟩,by
      by_cases e:y0=s.heap.objs.size;.rw[e];exact b4
      .rw[ah e];exact L⟩) pr O g λb hb=>?_;rcases Ei hb with rfl|rfl|rfl|rfl|rfl;.exact⟨_,W⟩
     .exact⟨_,c3⟩
     .obtain⟨o',e'⟩:=(fp b (by simp)).2;exact⟨o',c0 o' e'⟩
     .exact o4
     .exact o5
   .rw[if_neg hk]at e;cases e
end
end L2
end
section
namespace L2
open PySem PySem.Spec PyProof.Rows ZP
section
variable{X:Cx}{F:Fx}{pins:List (MB×NI)}{σ:St}{H:Hp}{s:Mz}
theorem xB(O:X.calm=Mv)(hu:X.A.units+4<NB)(hK:X.K=F.K)(hP:X.prog=F.P)(hw:X.w=F.w){z TI TO x v a1 Y:MB}{xs ys:List Mt}{vs us:List V}{ps E:List D}{r:List D×List D}{k:Nat}{Q:VK}(I:Inv X pins σ H s)(l:H F.p≠Mu)(Ap:P_ z TI TO x v a1 Y)(r1:au vs xs)(r2:au us ys)(Z:zV s.heap z TI TO x v a1 Y 0 xs.toArray ys.toArray .none)(fp:∀b∈[z,TI,TO,x,v],dY X pins H b)(j1:af F.toFb H vs ps)(j2:af F.toFb H us E)(e:ee (l4 ps E) ([],[])=Mq r)(q:qE F.toFb H k Q (.aW r.1 r.2) k):wpAny (ML X.prog X.w) X.A (Sl (.type "dict") [.ref z]) (EP X pins σ Q) X.xe s:=by
 have N:H s.heap.objs.size=Mu:=I.aV.fresh (MO _);have m:s.heap.objs.size≠F.p:=gF l N;have L:(s.heap.objs.size==NW)=Mw:=beq_eq_false_iff_ne.mpr (Nj (M3 I.I9));refine callType_codes (Q₁:=λobj i=>obj=.ref s.heap.objs.size/\i={s with heap:=s.heap.push {cls:=.type "dict",data:=.dict #[]}}) PySem.F.kt_called_dict (PySem.F.kt_typeCall_dict_1 _) PySem.F.entry_dict_init (kt_code_dict_new _ ⟨rfl,rfl⟩) ?_;rintro obj i⟨rfl,rfl⟩;have B:(s.heap.push {cls:=.type "dict",data:=.dict #[]}).get? s.heap.objs.size=Mq b7:=MK _ rfl;have I1:Inv X pins σ (upd H s.heap.objs.size (lS s.heap.objs.size b7)) {s with heap:=s.heap.push {cls:=.type "dict",data:=.dict #[]}}:=I.laid (a:=s.heap.objs.size) (t':=s.toks) (λ_ _ q=>My _ q) (MO _) (nR B);have ex:Ext F.toFb H k (upd H s.heap.objs.size (lS s.heap.objs.size b7)) k:=.new N;have hT:Shared.TypeIs {s with heap:=s.heap.push {cls:=.type "dict",data:=.dict #[]}} (.ref s.heap.objs.size) "dict":=⟨_,B,rfl⟩;refine⟨hT,PySem.F.args_dict_init_2 _ _,?_⟩;unfold Builtin.«dict.__init__»;refine Ms ?_;unfold Builtin.Dict.selfAndRest;refine Ms (SR hT ?_);show wpAny _ _ (pure (s.heap.objs.size,[M8 z])) _ _ _;refine Mx ?_;show wpAny _ _ (R9 "dict.__init__" s.heap.objs.size (.ref z) [] .none) _ _ _;unfold R9;have j:∀b o,s.heap.get? b=Mq o->(s.heap.push {cls:=.type "dict",data:=.dict #[]}).get? b=Mq o:=λb o e=>My _ e;refine Ms (Rf (T:="zip") ⟨_,j _ _ Z.zp,rfl⟩ ?_);rw[if_pos (by decide)];refine Ms (rJ (j _ _ Z.zp) (show X.A.in1.in1.handled=Mu from I.ok.hd O) λh2 y g2=>?_);rw[if_pos (show(Mu:Option Mt).isNone=Mv from rfl)];refine Ms (OF ?_);have I2:Inv X pins σ (upd H s.heap.objs.size (lS s.heap.objs.size b7)) {s with heap:=h2,toks:=y}:=I1.kept (t':=y) g2;have f:∀b o,s.heap.get? b=Mq o->h2.get? b=Mq o:=λb o e=>g2 b o (j b o e);obtain⟨W,c2,⟨a,b,c3⟩,U,S⟩:=id Z;have J:=U.lt;have G:=S.lt;refine Ms (wpAny_pyIter_zip (f _ _ W) ?_);refine Mx ⟨TV _ (by decide+kernel),?_⟩;have o4:∃o,s.heap.get? x=Mq o:=by cases U with|list p _=>obtain⟨o,e,_⟩:=p;exact⟨o,e⟩|tup p _=>obtain⟨o,e,_⟩:=p;exact⟨o,e⟩
 have o5:∃o,s.heap.get? v=Mq o:=by cases S with|list p _=>obtain⟨o,e,_⟩:=p;exact⟨o,e⟩|tup p _=>obtain⟨o,e,_⟩:=p;exact⟨o,e⟩
 have there:∀b∈[z,TI,TO,x,v],∃o,s.heap.get? b=Mq o:=λb hb=>by
  rcases Ei hb with rfl|rfl|rfl|rfl|rfl;.exact⟨_,W⟩
  .exact⟨_,c2⟩
  .exact⟨_,c3⟩
  .exact o4
  .exact o5
 refine rK O hK hP hw (A1:=X.A.in1) (I.ok.hd O) (show X.A.units+1+2<NB by omega) m Ap r1 r2 (Oy J.2) (Oy G.2) ps E 0 0 _ [] [] [] b7 _ _ I2 (ex.live l) aj iY .nil (by simpa using j1.mono ex.kp) (by simpa using j2.mono ex.kp) (λb hb=>⟨(fp b hb).mono (by
   obtain⟨o,e⟩:=there b hb;rw[ah (M3 (MM e))];exact(fp b hb).1),by
   obtain⟨o,e⟩:=there b hb;exact⟨o,f b o e⟩⟩) (.inl ⟨f _ _ W,f _ _ c2,⟨a,b,f _ _ c3⟩,U.keep (f x) (f a1),S.keep (f v) (f Y)⟩) e λt C H' s' I' n R d1 d2=>⟨rfl,?_⟩;have M:s'.heap.get? s.heap.objs.size=Mq t:=(I'.aV _ _ n).1;have I4:=I'.freeze n M (λ_ z=>nomatch z) (λ_ _ z=>nomatch z) (λ_ z=>nomatch z) (λ_ z=>nomatch z);have kp:Kp F.toFb H' k (upd H' s.heap.objs.size (.cv t (lS s.heap.objs.size t))) k:=Kp.own m n rfl;have sm:oY H (upd H' s.heap.objs.size (.cv t (lS s.heap.objs.size t))):=λb u e=>by
  have hb:b≠s.heap.objs.size:=λh=>by rw[h,N]at e;cases e
  rw[ah hb];exact R b u hb (by rw[ah hb];exact e)
 refine⟨.ref s.heap.objs.size,_,I4,rfl,q _ _ (.of sm) ?_⟩;simp only[Is];exact⟨_,C,rfl,⟨t,⟨m,L,.inl ⟨_,aj⟩⟩,d1.mono kp⟩,d2.mono kp⟩
noncomputable def Jm:List D->M D
 |[.lst b,.lst a]=>do let r<-M.get (ee (l4 b a) ([],[]));pure (.aW r.1 r.2)|_=>M.fail
theorem AH{ds:List D}{k Q E}(h:(Jm ds).run k Q E):∃xs ys r,ds=[.lst xs,.lst ys]/\ee (l4 xs ys) ([],[])=Mq r/\Q (.aW r.1 r.2) k:=by match ds,h with
 |[.lst xs,.lst ys],h=>
  obtain⟨r,e,q⟩:=M.run_get.mp h;exact⟨xs,ys,r,rfl,e,q⟩
variable{a b:MP}{p pos p0 pos0:Oc}{tas:ag->M (List A)}
theorem AI(hc:X.calm=Mv)(hu:X.A.units+4<NB)(hP:X.prog=F.P)(hw:X.w=F.w)(G:X.mg "dict"=Mu)(hm:X.mg "zip"=Mu)(ha:DA X F [a,b] tas)(J:Gl X "dict")(hg:Gl X "zip")(hs:MX [a,b] X.env=(Mw,OB a X.env)::MX [b] X.env)(E:(PF pos (MX [b] X.env)).any (·.1)=Mw):DE X F (.Call (.Name "dict" p0) [.Call (.Name "zip" p) [a,b] [] pos] [] pos0) (λρ=>do Jm (<-hZ (<-tas ρ))):=by
 refine⟨ha.hK,λpins s σ H Q I o=>?_⟩;obtain⟨ρ,k,S,h⟩:=o;refine Oa (fm I J G (show O5 "dict"=Mq (.type "dict")by decide+kernel) ?_);refine NT ?_ rfl rfl;show wpAny _ _ (UL ((Mw,OB (.Call (.Name "zip" p) [a,b] [] pos) X.env)::PF pos0 (MX [] X.env))) _ _ s;refine Qd ?_;refine Oa (fm I hg hm boot_zip ?_);refine NT (a_ (ha.pa pos pins s σ H (λB c=>∃d g f r v u,Ext F.toFb H k c d/\c F.p≠Mu/\B=[v,u]/\Is F.toFb c v (.lst g)/\Is F.toFb c u (.lst f)/\ee (l4 g f) ([],[])=Mq r/\qE F.toFb H k Q (.aW r.1 r.2) d) I (qM.next S h λas d B c L S1 O h1=>?_)) λus s1⟨B,c,l,r,C⟩=>?_) hs E
 .obtain⟨ds,rfl,h2⟩:=b5 h1;obtain⟨g,f,r,rfl,e,q⟩:=AH h2;obtain⟨v,u,rfl,n,m⟩:=(b6 O).two;exact⟨d,g,f,r,v,u,L,S1.live,rfl,n,m,e,q⟩
 .obtain⟨d,g,f,rr,v,u,L,lv,rfl,n,m,e,q⟩:=C;simp only[Is]at n m;obtain⟨a1,y,rfl,l1,c1⟩:=n;obtain⟨a2,x,rfl,l2,c2⟩:=m;obtain⟨u1,u2,rfl,U,T⟩:=vals2 r;cases U;cases T;obtain⟨a0,W,C,z1⟩:=l.Lz (t:=Mw) (show Kh X.K c a1 y Mw by rw[ha.hK];exact l1.2.sq);obtain⟨N,V,Y,z2⟩:=l.Lz (t:=Mw) (show Kh X.K c a2 x Mw by rw[ha.hK];exact l2.2.sq);refine wZ C Y λh' z TI TO O i2 D Z hk j=>?_;have I2:Inv X pins σ c {s1 with heap:=h'}:=l.kept (t':=s1.toks) hk;refine Qp ?_;exact xB (k:=d) hc hu ha.hK hP hw I2 lv D W V Z (λb hb=>l.Cw (j b hb) (l.aV.fresh (j b hb))) c1 c2 e λv H' ex i=>q v H' (L.trans ex) i
end
section
variable{X:Cx}{F:Fx}
noncomputable def AJ:D->Bool
 |.tup _=>Mv|_=>Mw
theorem Hj{a:List (MB×NI)}{b:St}{H:Hp}{s:Mz}{p:MB}(I:Inv X a b H s)(h:H p≠Mu):X.K.lookup p=Mu:=by cases e:X.K.lookup p with
 |none=>rfl|some o=>exact absurd (I.bs p o (I.mod.IX p o e)).2 h
theorem xC{x:MR}{v:V}{u:Mt}{d:D}{pos:Oc}(f:Gl X x)(c:X.mg x=Mq u)(r:RelV v u)(e:∀H,H F.p≠Mu->X.K.lookup F.p=Mu->Is F.toFb H v d)(hd:(x==("__debug__":MR))=Mw)(hK:X.K=F.K):DE X F (.Name x pos) (λ_=>pure d):=⟨hK,λa s b H Q I⟨g,k,S,h⟩=>ze f c r hd a s b H Q I (h _ H .refl (e H S.live (Hj I S.live)))⟩
end
section
variable{X:Cx}{F:Fx}
noncomputable def Ku:D->M D
 |.int i=>pure (.int (if i<0 then-i else i))|_=>M.fail
theorem Ej:bB X F (.builtin "abs") (one Ku)where
 call:=λa s g H k h j p Q I c l hK f e=>by
  obtain⟨d,rfl,q⟩:=dC e;obtain⟨v,rfl,i⟩:=f.one;obtain⟨u,rfl,b⟩:=vals1 c;cases d with
  |int n=>
   simp only[Is]at i;subst i;obtain⟨t,rfl⟩:=(show∃t,u=Th n t from b);exact call_abs_int λo m=>⟨.int _,H,I.tok _,⟨_,rfl⟩,q _ H .refl (by simp only[Is])⟩|_=>exact q.elim
noncomputable def Hk(d:D):M D:=do
 M.need (AJ d=Mv/\pX d=Mv)pure (.str (oM d).shown)
theorem AK(w:X.A.guards=Mq [])(hu:X.A.units+16<NB):bB X F (.builtin "repr") (one Hk)where
 call:=λf s x H k y B D Q I h l hK m j=>by
  obtain⟨d,rfl,q⟩:=dC j;obtain⟨v,rfl,i⟩:=m.one;obtain⟨⟨n,b⟩,q⟩:=q;have q:qE F.toFb H k Q (.str (oM d).shown) k:=q;obtain⟨u,rfl,c⟩:=vals1 h;unfold pX at b;rw[MG,MG,MG,decide_eq_true_eq,decide_eq_true_eq]at b;obtain⟨E,r⟩:=pW b.1 (dO I hK c i);have o:∃a,u=.ref a:=by
   cases d<;>first|cases n|skip
   simp only[Is]at i;obtain⟨a,z,rfl,_⟩:=i;exact⟨a,c⟩
  obtain⟨a,rfl⟩:=o;refine repr_of_reads' r b.2.1 (PyData.noDict_hsm (tR d)) w (by have:=b.2.2.1;omega) (λ_ _ e=>e) (λC t g p=>?_) b.2.2.2;exact⟨.str (oM d).shown,H,I.kept (t':=g) p,⟨t,rfl⟩,q _ H .refl (by simp only[Is])⟩
noncomputable def jI(a b:MR):Bool:=!decide (b.cps.toList<a.cps.toList)
theorem mU(a b c:MR)(e:jI a b=Mv)(d:jI b c=Mv):jI a c=Mv:=by
 simp only[jI,NA,decide_eq_false_iff_not,Ur]at*;exact List.le_trans e d
theorem mV(a b:MR):(jI a b||jI b a)=Mv:=by
 simp only[jI,NO,NA,decide_eq_false_iff_not,Ur];exact List.le_total _ _
theorem Ek{a b:MR}(d:jI a b=Mv)(c:jI b a=Mv):a=b:=by
 simp only[jI,NA,decide_eq_false_iff_not,Ur]at*;have:=List.le_antisymm d c;obtain⟨⟨a⟩⟩:=a;obtain⟨⟨b⟩⟩:=b;simp only at this;rw[this]
noncomputable def gz(l:List MR):List MR:=l.mergeSort jI
theorem gJ(l:List MR):(gz l).Perm l:=List.mergeSort_perm l jI
theorem qc(l:List MR):(gz l).Pairwise (jI · ·=Mv):=List.pairwise_mergeSort mU mV l
theorem xD:∀{l m:List MR},l.Perm m->l.Pairwise (jI · ·=Mv)->m.Pairwise (jI · ·=Mv)->l=m
 |[],m,p,_,_=>(List.perm_nil.mp p.symm).symm|a::l,[],p,_,_=>absurd p.length_eq (by simp)|a::l,b::m,p,g,f=>by
  have d:=List.pairwise_cons.mp g;have c:=List.pairwise_cons.mp f;have e:a=b:=by
   rcases List.mem_cons.mp (p.mem_iff.mp (ME (a:=a)))with e|e;.exact e
   .rcases List.mem_cons.mp (p.mem_iff.mpr (ME (a:=b)))with z|z;.exact z.symm
    .exact Ek (d.1 b z) (c.1 a e)
  subst e;rw[xD (List.Perm.cons_inv p) d.2 c.2]
theorem mW:∀(p:MR)(l:List MR),risingS p l=Mv->(p::l).Pairwise (jI · ·=Mv)
 |p,[],_=>R_ _ _|p,x::r,h=>by
  have h:(!ltCps x.cps.toList p.cps.toList&&risingS x r)=Mv:=h;rw[MG]at h;have i:=mW x r h.2;have e:jI p x=Mv:=by unfold jI;rw[<-ltCps_eq];exact h.1
  refine List.pairwise_cons.mpr ⟨λy a=>?_,i⟩;rcases List.mem_cons.mp a with rfl|a;.exact e
  .exact mU _ _ _ e ((List.pairwise_cons.mp i).1 y a)
theorem rL:∀(l:List MR),sortedS l=Mv->l.Pairwise (jI · ·=Mv)
 |[],_=>.nil|x::r,h=>mW x r h
noncomputable def gA:List D->Option (List MR)
 |[]=>Mq []|.str x::r=>(gA r).map (x::·)|_=>Mu
theorem mX(a:List MR):gA (a.map D.str)=Mq a:=by induction a with
 |nil=>rfl|cons x r b=>simp only[MT,gA,b,N8]
theorem lh:∀{ds:List D}{a:List MR},gA ds=Mq a->ds=a.map D.str
 |[],_,h=>by cases h;rfl|.str x::r,_,h=>by
  simp only[gA,Pm]at h;obtain⟨s,h,rfl⟩:=h;rw[lh h];rfl
theorem gL{B:Fb}{H:Hp}:∀{a:List V}{b:List MR},af B H a (b.map D.str)->a=b.map V.str
 |_,[],h=>by simp only[Oi,af]at h;rw[h];rfl|_,n::ns,h=>by
  simp only[MT,af,Is]at h;obtain⟨x,d,rfl,rfl,c⟩:=h;rw[gL c];rfl
theorem lj{B:Fb}{H:Hp}:∀{a:List MR},af B H (a.map V.str) (a.map D.str)
 |[]=>.nil|n::ns=>.cons (by simp only[Is]) lj
theorem gM:∀{a:List MR}{us:List Mt},au (a.map V.str) us->StrsAre us a
 |[],_,.nil=>.nil|x::a,_,.cons r q=>by
  obtain⟨t,rfl⟩:=(show∃t,_=Uc x t from r);exact .cons x t (gM q)
theorem mY:∀{us:List Mt}{a:List MR},StrsAre us a->au (a.map V.str) us
 |_,_,.nil=>.nil|_,_,.cons x t h=>.cons ⟨t,rfl⟩ (mY h)
noncomputable def xE:D->M D
 |.lst b=>do let a<-M.get (gA b);M.need (a.length<64);pure (.lst ((gz a).map D.str))|_=>M.fail
theorem xF:bB X F (.builtin "sorted") (one xE)where
 call:=λn s S H k T V N Q I w l hK C x=>by
  obtain⟨d,rfl,q⟩:=dC x;obtain⟨v,rfl,i⟩:=C.one;obtain⟨u,rfl,r⟩:=vals1 w;cases d with
  |lst N=>
   obtain⟨b,e,A⟩:=M.run_get.mp q;clear q;obtain⟨J,m⟩:=A;have y:qE F.toFb H k Q (.lst ((gz b).map D.str)) k:=m;clear m;obtain rfl:=lh e;simp only[Is]at i;obtain⟨a,U,rfl,B,iv⟩:=i;cases(show u=M8 a from r);obtain rfl:=gL iv;obtain⟨j,f,pl,W⟩:=I.list (show dI X.K H a _ by rw[hK];exact B.2.sq);have G:=gM f;have E:=f.length;rw[M0]at E;refine sorted_strs pl.isList G (by omega) λh g a1 P O=>?_;have L:g=gz b:=xD (P.trans (gJ b).symm) (rL _ O) (qc b);subst L;obtain⟨c,p⟩:=sortedAll_at s.heap j h;have R:=I.newList (t:=s.toks) (D:=s.heap.objs.size+1) (λ_ _ z=>sortedAll_old z) (Qk _) (mY a1) (by rw[M0,(gJ b).length_eq,PL];omega) p;have o:H (s.heap.objs.size+1)=Mu:=I.aV.fresh (Qk _);refine⟨.ref (s.heap.objs.size+1),_,R.freeze aj p (λ_ z=>nomatch z) (λ_ _ z=>nomatch z) (λ_ z=>nomatch z) (λ_ z=>nomatch z),rfl,?_⟩;rw[bV];exact y _ _ (.new o) (bE (k:=k) l o lj)|_=>exact q.elim
end
section
variable{prog:MQ}{w:M6}{A:Nf}{R:UM->Mz->Prop}{I:MB}{fp wr:List MB}{n:Nat}{P:Nat->Mt->Prop}{St:Nat->M7->Prop}{kw:List (MR×Mt)}
theorem xG(W:Walks prog w A.in1 I fp wr n P St)(F:Nat->Nat->Bool)(B:CmpOf prog w A.in1 .Lt P F)(S:MB)(D:S∉fp):∀(k j:Nat)(s:Mz)(p:Mt)(c:Nat),n-(j+1)=k->j+1<=n->St (j+1) s.heap->P (Rh F j) p->s.heap.get? S=Mq {cls:=.type "list",dict:=Mu,data:=.seq #[p,p] c,slots:=#[]}->(∀v h' G,P (Rh F (n-1)) v->(∀b o,b∉wr->b≠S->s.heap.get? b=Mq o->h'.get? b=Mq o)->R (.ok (.ret v)) {s with heap:=h',toks:=G})->codeAny (ML prog w) A (.builtin "min.loop" ⟨[.ref I,.none,.ref S],kw⟩) R s:=by
 have C:S∉wr:=λh=>D (W.sub _ h);have i:(toString "min"++toString ".loop":String)="min.loop":=by decide
 intro k;induction k with
 |zero=>
  intro j s p c M N t q E H;have z:j+1=n:=by omega
  refine O4 Pq ?_;rw[Od NM _];show wpAny _ A.in1 (Rj (.ref S)>>=_) _ _ s;refine Ms (Np E rfl ?_);show wpAny _ A.in1 (tryCatch (OS (.ref I)) _>>=_) _ _ s;refine Ms (PR (W.done s _ _ (z▸t) λh' G d=>?_));have m:=d S _ C E;show wpAny _ A.in1 (updateSeq S (λ_=>#[])>>=_) _ _ _;refine Ms ?_;refine SK m rfl (Ms (Qm (Mx ?_)));refine H p _ G (by rw[<-z];exact q) λb o a f e=>(N2 _ _ (Nj f)).trans (d b o a e)|succ k L=>
  intro j s p c M N t q E H;have u:j+1<n:=by omega
  refine O4 Pq ?_;rw[Od NM _];show wpAny _ A.in1 (Rj (.ref S)>>=_) _ _ s;refine Ms (Np E rfl ?_);show wpAny _ A.in1 (tryCatch (OS (.ref I)) _>>=_) _ _ s;refine Ms (PR (W.item (j+1) s _ _ u t λv h' G hP r d=>?_));have m:=d S _ C E;show wpAny _ A.in1 (tryCatch (QQ [v,v] (richCompare .Lt v p>>=_)) _>>=_) _ _ _;refine Ms (PR (Na (Ms (B _ _ v p _ _ _ hP q ?_))));refine Ms (Na (NH ?_));refine Ms (Qm (Mx ?_));cases hb:F (j+1) (Rh F j)with
  |true=>
   simp only[if_true];refine Ms ?_;refine SK m rfl (Ms (Qm ?_));rw[i];refine Mx ⟨RQ NM _,L (j+1) _ v _ (by omega) u (W.frame _ _ _ r λb K o e=>?_) (by simp only[Rh,hb,if_true];exact hP) (OV _ m rfl) λJ y g x l=>?_⟩;.exact(N2 _ _ (λh:S=b=>D (by rw[h];exact K))).trans e
   .exact H J y g x λb o a f e=>l b o a f ((N2 _ _ (Nj f)).trans (d b o a e))|false=>
   simp only[MV,if_false];refine Ms (Qm ?_);rw[i];refine Mx ⟨RQ NM _,L (j+1) _ p c (by omega) u r (by simp only[Rh,hb,MV,if_false];exact q) m λJ y g x l=>?_⟩;exact H J y g x λb o a f e=>l b o a f (d b o a e)
theorem xH(W:Walks prog w A.in1 I fp wr 0 P St)(S:MB)(j:S∉fp){s:Mz}{c:Nat}{d:Mt}{x:MR}(f:St 0 s.heap)(m:s.heap.get? S=Mq {cls:=.type "list",dict:=Mu,data:=.seq #[] c,slots:=#[]})(p:∀h' a,(∀b o,b∉wr->b≠S->s.heap.get? b=Mq o->h'.get? b=Mq o)->R (.ok (.ret d)) {s with heap:=h',toks:=a}):codeAny (ML prog w) A (.builtin "min.loop" ⟨[.ref I,.none,.ref S],[(x,d)]⟩) R s:=by
 have l:S∉wr:=λh=>j (W.sub _ h);refine O4 Pq ?_;rw[Od NM _];show wpAny _ A.in1 (Rj (.ref S)>>=_) _ _ s;refine Ms (Np m rfl ?_);show wpAny _ A.in1 (tryCatch (OS (.ref I)) _>>=_) _ _ s;refine Ms (PR (W.done s _ _ f λh' a g=>?_));show wpAny _ A.in1 (RS (toString "min"++toString ".default")>>=λ_=>UW d) _ _ _;exact Ms (OF (Mx (p _ a λb o i k e=>g b o i e)))
theorem vn(W:Walks prog w A.in1 I fp wr n P St)(y:Nat->Nat->Bool)(k:CmpOf prog w A.in1 .Lt P y)(S:MB)(d:S∉fp)(B:0<n){s:Mz}{c:Nat}(q:St 0 s.heap)(C:s.heap.get? S=Mq {cls:=.type "list",dict:=Mu,data:=.seq #[] c,slots:=#[]})(E:∀v h' z,P (Rh y (n-1)) v->(∀b o,b∉wr->b≠S->s.heap.get? b=Mq o->h'.get? b=Mq o)->R (.ok (.ret v)) {s with heap:=h',toks:=z}):codeAny (ML prog w) A (.builtin "min.loop" ⟨[.ref I,.none,.ref S],kw⟩) R s:=by
 have t:S∉wr:=λh=>d (W.sub _ h);have a:(toString "min"++toString ".loop":String)="min.loop":=by decide
 refine O4 Pq ?_;rw[Od NM _];show wpAny _ A.in1 (Rj (.ref S)>>=_) _ _ s;refine Ms (Np C rfl ?_);show wpAny _ A.in1 (tryCatch (OS (.ref I)) _>>=_) _ _ s;refine Ms (PR (W.item 0 s _ _ B q λv h' z hP g j=>?_));have p:=j S _ t C;show wpAny _ A.in1 (updateSeq S (λ_=>#[v,v])>>=_) _ _ _;refine Ms ?_;refine SK p rfl ?_;rw[a];refine Mx ⟨RQ NM _,xG W y k S d _ 0 _ v _ rfl B (W.frame _ _ _ g λb r o e=>?_) hP (OV _ p rfl) λD x f u i=>?_⟩;.exact(N2 _ _ (λh:S=b=>d (by rw[h];exact r))).trans e
 .exact E D x f u λb o l m e=>i b o l m ((N2 _ _ (Nj m)).trans (j b o l e))
theorem xI(a d:Mt):argsOk "min" ⟨[a],[("default",d)]⟩:=by unfold argsOk;kernel_rfl
theorem nW{id:String}{b:Builtin}{a:List Mt}{Q:Mt->Mz->Prop}{E:Mt->Mz->Prop}{s:Mz}(m:builtinKind id=Mu)(l:plainId id=Mv)(hb:entryFor table id=Mq b)(ha:argsOk id ⟨a,kw⟩)(j:wpAny (ML prog w) A.in1 (b ⟨a,kw⟩) (λi c=>match i with
   |.done f=>(match(Except.ok f:UM)with|.ok (.ret v)=>Q v c|.ok _=>False|.error e=>E e c)|.again k=>k.quiet=Mv/\codeAny (ML prog w) A k (λr c=>match r with|.ok (.ret v)=>Q v c|.ok _=>False|.error e=>E e c) c) E s):wpAny (ML prog w) A (call (.builtin id) a kw) Q E s:=by
 refine wpAny_call (codeAny_call_builtin l hb ?_);simp only[checkBuiltinCall,m];cases d:Manifest.signature? id with
 |none=>exact Mx j|some g=>
  have h:Bind.checkArgs id g ⟨a,kw⟩=pure ():=by simpa only[argsOk,d]using ha
  simp only[h];exact Mx j
end
noncomputable def l_:MR->List MR->MR
 |b,[]=>b|b,x::r=>l_ (if decide (x.cps.toList<b.cps.toList)then x else b) r
theorem mZ(x:MR):∀(l:List MR)(b:MR),l_ b (l++[x])=if decide (x.cps.toList<(l_ b l).cps.toList)then x else l_ b l
 |[],_=>rfl|y::l,b=>mZ x l _
noncomputable def Hl(a:List MR)(i j:Nat):Bool:=decide ((a.getD i ⟨#[]⟩).cps.toList<(a.getD j ⟨#[]⟩).cps.toList)
theorem m6{b:MR}{r:List MR}:∀k,k<=r.length->(b::r).getD (Rh (Hl (b::r)) k) ⟨#[]⟩=l_ b (r.take k)
 |0,_=>rfl|k+1,h=>by
  have a:=m6 (b:=b) (r:=r) k (by omega);have c:r.take (k+1)=r.take k++[r.getD k ⟨#[]⟩]:=by
   rw[List.take_succ,Rv,MY (by omega)];rfl
  rw[c,mZ,<-a];have e:Hl (b::r) (k+1) (Rh (Hl (b::r)) k)=decide ((r.getD k ⟨#[]⟩).cps.toList<((b::r).getD (Rh (Hl (b::r)) k) ⟨#[]⟩).cps.toList):=rfl;simp only[Rh,e];split<;>rfl
noncomputable def eS:List MR->D
 |[]=>.bH|x::r=>.str (l_ x r)
noncomputable def xJ:D->M D
 |.lst a=>do let b<-M.get (gA a);pure (eS b)|_=>M.fail
section
variable{X:Cx}{F:Fx}{e:MP}{x:MR}{p pos kp cp:Oc}{kk:Nat}{t:ag->M D}
theorem tV:∀{us:List Mt}{a:List MR}{i:Nat}{v:Mt},StrsAre us a->us[i]?=Mq v->∃t,v=.str (a.getD i ⟨#[]⟩) t
 |_,_,_,_,.nil,h=>by simp at h|_,_,0,_,.cons x t _,h=>by simp at h;exact⟨t,h.symm⟩|_,_,i+1,_,.cons x t r,h=>tV (i:=i) r (by simpa using h)
theorem xK(hc:X.calm=Mv){f:List (MB×NI)}{s:Mz}{L:St}{H:Hp}{k:Nat}{v:V}{u:Mt}{d:D}{Q:VK}(I:Inv X f L H s)(T:RelV v u)(l:H F.p≠Mu)(hK:X.K=F.K)(i:Is F.toFb H v d)(q:(xJ d).run k (qE F.toFb H k Q) F.E):wpAny (ML X.prog X.w) X.A (Sl (.builtin "min") [u] [("default",.none)]) (EP X f L Q) X.xe s:=by
 have Z:X.A.in1.handled=Mu:=I.ok.hd hc;cases d with
 |lst ds=>
  obtain⟨N,e,P⟩:=M.run_get.mp q;clear q;have O:qE F.toFb H k Q (eS N) k:=P;clear P;obtain rfl:=lh e;simp only[Is]at i;obtain⟨a,vs,rfl,Y,iv⟩:=i;cases(show u=M8 a from T);obtain rfl:=gL iv;obtain⟨c,m,pl,hz⟩:=I.list (show dI X.K H a _ by rw[hK];exact Y.2.sq);have hS:=gM m;have C:=m.length;rw[M0]at C;have lt:a<s.heap.objs.size:=pl.lt;have g:(toString "min"++toString ".loop":String)="min.loop":=by decide
  refine nW PySem.F.kind_min PySem.F.plain_min PySem.F.entry_min (xI _ _) ?_;show wpAny _ X.A.in1 (Ri "min" ["key","default"] 0 ⟨[],[("default",NV)]⟩>>=_) _ _ s;refine Ms (Ul (show Ri "min" ["key","default"] 0 ⟨[],[("default",NV)]⟩=pure [Mu,Mq NV]from by kernel_rfl) ?_);refine Ms (Mx ?_);refine Ms (PK pl.isList ?_);refine Ms (Nl ?_);rw[g];have W:=Walks.list (prog:=X.prog) (w:=X.w) (A:=X.A.in1) Z s.heap.objs.size a (M3 lt) c.toArray;have n:(s.heap.push {cls:=.type "list_iterator",data:=.fields #[.ref a,.int 0 0]}).objs.size=s.heap.objs.size+1:=NN ..;have B:(s.heap.push {cls:=.type "list_iterator",data:=.fields #[.ref a,.int 0 0]}).objs.size∉[s.heap.objs.size,a]:=λR=>by
   rw[n]at R;rcases List.mem_cons.mp R with z|z;.exact Nat.succ_ne_self _ z
   .exact absurd (List.mem_singleton.mp z) (Oy (PJ lt))
  have kp:∀{G:M7},(∀b o,b∉[s.heap.objs.size]->b≠(s.heap.push {cls:=.type "list_iterator",data:=.fields #[.ref a,.int 0 0]}).objs.size->((s.heap.push {cls:=.type "list_iterator",data:=.fields #[.ref a,.int 0 0]}).push {cls:=.type "list",data:=.seq #[]}).get? b=Mq o->G.get? b=Mq o)->∀b o,s.heap.get? b=Mq o->G.get? b=Mq o:=λy b o e=>by
   have hb:=MM e;refine y b o (λz=>M3 hb (List.mem_singleton.mp z)) (by rw[n];exact M3 (PJ hb)) (My _ (My _ e))
  have vJ:=W.frame 0 _ ((s.heap.push {cls:=.type "list_iterator",data:=.fields #[.ref a,.int 0 0]}).push {cls:=.type "list",data:=.seq #[]}) (⟨⟨_,MK _ rfl,rfl,rfl⟩,pl.isList.push _⟩:(s.heap.push {cls:=.type "list_iterator",data:=.fields #[.ref a,.int 0 0]}).IsListIter s.heap.objs.size a 0/\_) λb _ o e=>My _ e;refine Mx ⟨RQ NM _,?_⟩;cases N with
  |nil=>cases c with
   |cons _ _=>cases C|nil=>
    refine xH W _ B vJ (MK _ rfl) λG J y=>?_;exact⟨.bH,H,I.kept (t':=J) (kp y),rfl,O _ H .refl (by simp only[eS,Is])⟩
  |cons b r=>
   have at_:∀{i:Nat}{v:Mt},c.toArray[i]?=Mq v->∃t,v=.str ((b::r).getD i ⟨#[]⟩) t:=λ{i v}h=>tV hS (by simpa using h);refine vn W (Hl (b::r)) (λi j vi vj s' Q' E' h1 h2 U=>?_) _ B (by simp only[MJ];rw[<-C];simp) vJ (MK _ rfl) λv G J hP y=>?_
   .obtain⟨S,rfl⟩:=at_ h1;obtain⟨t2,rfl⟩:=at_ h2;exact Ts U
   .obtain⟨S,rfl⟩:=at_ hP;have e2:c.toArray.size-1=r.length:=by simp only[MJ];rw[<-C];simp
    rw[e2,m6 _ (MO _),List.take_length];exact⟨.str (l_ b r),H,I.kept (t':=J) (kp y),⟨_,rfl⟩,O _ H .refl (by simp only[eS,Is])⟩
 |_=>exact q.elim
theorem El(K:X.calm=Mv)(G:X.mg "min"=Mu)(h:DE X F e t)(J:Gl X "min")(l:MX [e] X.env=[(Mw,OB e X.env)]):DE X F (.Call (.Name "min" p) [e] [⟨Mq "default",.Constant .none kk cp,kp⟩] pos) (λρ=>do xJ (<-t ρ)):=⟨h.hK,λb s n H Q I z=>by
 obtain⟨ρ,k,S,z⟩:=z;refine Oa (fm (u:=.builtin "min") I J G (by decide+kernel) ?_ (by decide) (by decide));refine callWith_kw ?_ (by rw[l];rfl) (by rw[l];rfl) rfl rfl;rw[l];have z:(t ρ).run k (λd a=>(xJ d).run a (qE F.toFb H k Q) F.E) F.E:=z;refine Qd (a_ (h.pe b s n H (λv c=>∃d a,Ext F.toFb H k c a/\Is F.toFb c v d/\(xJ d).run a (qE F.toFb c a Q) F.E) I ⟨ρ,k,S,M.wk z λd a q v c g i=>⟨d,a,g,i,M.wk q λ_ _ y=>y.ext g⟩⟩) λu s1 r=>Qp ?_);obtain⟨v,c,N,B,d,a,g,i,q⟩:=r;refine kws_cons (a_ ((wx h.hK).pe b s1 n c (λw m=>Ext F.toFb c a m a/\w=.bH) N ⟨ρ,a,S.mono g,λw m f C=>⟨f,by simpa only[Is]using C⟩⟩) λA s2 o=>kws_nil ?_);obtain⟨w,m,L,j,f,rfl⟩:=o;cases(show A=NV from j);exact xK K L B ((S.mono g).mono f).live h.hK (i.mono f.kp) (M.wk q λ_ _ y=>y.ext f)⟩
end
noncomputable def m9{c:Type}(g:D->ag->M ag)(tc:ag->M Bool)(em:c->ag->M (c×ag)):c->List D->ag->M (c×ag)
 |acc,[],e=>pure (acc,e)|acc,d::f,e=>do
  let a<-g d e;let b<-tc a;if b then do
   let r<-em acc a;m9 g tc em r.1 f r.2;else m9 g tc em acc f a
noncomputable def BM(F:Fx){g e:Type}(So:Hp->g->e->Prop)(em:e->ag->M (e×ag))(rd:RB g):Prop:=∀(j:St)(l:ag)(H:Hp)(k:Nat)(a:g)(f:e)(Q:e×ag->Nat->Prop)(n:g->St->Hp->Prop),b9 F l k j H->So H a f->(em f l).run k Q F.E->(∀m b d c h i,Ext F.toFb H k h i->b9 F d i c h->So h m b->Q (b,d) i->n m c h)->rd j H a n
section
variable{F:Fx}{α β:Type}{So:Hp->α->β->Prop}{g g2:D->ag->M ag}{tc tc2:ag->M Bool}{em:β->ag->M (β×ag)}{rd:RB α}{tI2:ag->M (List D)}
theorem Hm(mono:∀{H H':Hp}{k p:Nat}{a:α}{r:β},So H a r->Kp F.toFb H k H' p->So H' a r)(he:BM F So em rd){O:St}{ρ:ag}{w:Hp}{u:Nat}{J:It}{ds:List D}{a0:α}{t:β}{Q:β×ag->Nat->Prop}{U:α->St->Hp->Prop}(it:rj F.toFb J ds w u)(S:b9 F ρ u O w)(i0:So w a0 t)(h:(m9 g tc em t ds ρ).run u Q F.E)(q:∀a xs ρ' o H' p,Ext F.toFb w u H' p->b9 F ρ' p o H'->So H' a xs->Q (xs,ρ') p->U a o H'):sS J (GH F g) (oK F tc) rd O w a0 U:=by
 refine⟨λi m a n l=>m=ds.length-i/\i<=ds.length/\∃c f v,b9 F c f n l/\Ext F.toFb w u l f/\So l a v/\(m9 g tc em v (ds.drop i) c).run f Q F.E,⟨ds.length,rfl,ND _,ρ,u,t,S,.refl,i0,h⟩,?_⟩;rintro i m a n l⟨rfl,a2,c,f,v,G,A,L,C⟩;by_cases s:i<ds.length
 .obtain⟨d,hd,N⟩:=jQ s;rw[N]at C;obtain⟨go,W⟩:=it.step i d l f hd A.kp G.live;refine .inr ⟨go,λx H3 y=>?_⟩;obtain⟨R,i3⟩:=W x H3 y;refine⟨c,f,d,G.mono R,i3,M.wk C λz k4 Y I H4 e4 S4=>?_⟩;refine oK.next S4 Y λb K V e5 T P=>?_;have j:Ext F.toFb l f V K:=(R.trans e4).trans e5;cases b with
  |false=>exact⟨ds.length-(i+1),by omega,rfl,s,z,K,v,T,A.trans j,mono L j.kp,P⟩|true=>
   rw[if_pos rfl];exact he I z V K a v _ _ T (mono L j.kp) P λa' B ρ' o H' p e6 S6 Z X=>⟨ds.length-(i+1),by omega,rfl,s,ρ',p,B,S6,A.trans (j.trans e6),Z,X⟩
 .have e:i=ds.length:=by omega
  subst e;rw[QN]at C;exact .inl ⟨it.stop l f A.kp G.live,q a v c n l f A G L C⟩
end
noncomputable def jV:NI:={cls:=.type "dict",dict:=Mu,data:=.dict #[]}
noncomputable def GG(a ob:NI):Prop:=a=ob/\∀v,ob.data≠.cell v
noncomputable def rM(F:Fx)(j i:TE):RB NI:=λc H a Q=>j c H λx k=>i c k λy b=>∃d e ks h f,bj F.toFb b a ks f/\af F.toFb b f h/\kinds ks d/\ks.length<MA/\Is F.toFb b x d/\Is F.toFb b y e/\∀g,mO (Is F.toFb b) F b ks h d e g->Q g c b
noncomputable def qd(k v:MP)(D:MB)(env:SD):Rw Unit:=do
 let a<-OB k env;let b<-QQ [a] (OB v env)RA {k.pos with endLine:=v.pos.endLine,endCol:=v.pos.endCol}QQ [a,b] (dictSet D a b)
theorem xM{Y:Cx}{F:Fx}{D:MB}{k v:MP}{f j:TE}(o:Jb Y D)(hu:Y.A.units+2<NB)(hK:Y.K=F.K)(hP:Y.prog=F.P)(hw:Y.w=F.w)(G:PE Y k f)(C:PE Y v j):Body Y GG D (qd k v D Y.env) (rM F f j):=by
 intro l s c H N ob Q I h aV q;unfold qd;refine Ms (a_ (G _ s c H _ I q) λV s1 a=>?_);obtain⟨x,S,O,p,t⟩:=a;refine Ms (Na (a_ (C _ s1 c S _ O t) λT s2 a=>?_));obtain⟨y,R,i,n,d,e,ks,X,U,M,z,kn,B,ix,u,r⟩:=a;refine Ms (Pz (Na ?_));obtain⟨rfl,E⟩:=aV;have L:=(i.pin _ (MW _ ME)).1;refine tD (F:=F) (by omega) i hK hP hw M L z.pr ix p u n kn B λW g f m J po=>?_;exact⟨g,g,c,R,i.BB o.young o.cells h (λb ob hb e=>(m.2 b hb).trans e) J po.2,⟨rfl,po.2⟩,r g po⟩
noncomputable def oD(a:NI):HO:=.cv a (.ext λ_=>True)
theorem AL{P:MQ}{w:M6}(a ob:NI)(H:Hp)(h:M7)(D:MB)(ok:GG a ob)(e:h.get? D=Mq ob)(_:jo P w H h):bW P w (upd H D (oD a)) h D (oD a):=by
 obtain⟨rfl,_⟩:=ok;exact⟨e,trivial,⟨_,e⟩,λ_ _ _ _=>trivial⟩
theorem xN{prog:MQ}{w:M6}{A:Nf}{E:Mt->Mz->Prop}{s:Mz}{Q:Mt->Mz->Prop}(h:Q (.ref s.heap.objs.size) {s with heap:=s.heap.push jV}):wpAny (ML prog w) A newDict Q E s:=Nl h
theorem rN{B:Fb}{H:Hp}:bj B H jV [] []:=⟨ND _,.inl ⟨[],[],.nil,⟨#[],0,⟨rfl,rfl,rfl⟩,rfl,λe a=>by simp at a,.nil,.nil⟩,rfl,rfl⟩⟩
noncomputable def FJ(F:Fx)(H:Hp)(a:NI)(b:List D×List D):Prop:=∃c,bj F.toFb H a b.1 c/\af F.toFb H c b.2
theorem FJ.mono{F:Fx}{H H':Hp}{k c:Nat}{a:NI}{r:List D×List D}(h:FJ F H a r)(e:Kp F.toFb H k H' c):FJ F H' a r:=let⟨b,f,d⟩:=h;⟨b,f.mono e,d.mono e⟩
noncomputable def xO(c b:ag->M D)(a:List D×List D)(ρ:ag):M ((List D×List D)×ag):=do
 let x<-c ρ;let y<-b ρ;M.need (kinds a.1 x/\a.1.length<MA)pure (putD a.1 a.2 x y,ρ)
theorem AM{F:Fx}{g f:ag->M D}:BM F (FJ F) (xO g f) (rM F (cL F g) (cL F f)):=by
 intro j l H k a b Q K S m h q;refine cL.next S h λx J I L i C r u=>?_;refine cL.next C u λy o G E e B p d=>?_;obtain⟨⟨t,s⟩,d⟩:=d;obtain⟨c,A,z⟩:=m.mono (i.trans e).kp;exact⟨x,y,b.1,b.2,c,A,z,t,s,r.mono e.kp,p,λn po=>q n _ l j E o (i.trans e) B (let⟨c,w,v⟩:=po.1;⟨c,w,hX v⟩) d⟩
theorem rO{F:Fx}{H:Hp}{k:Nat}{p:MB}{a:NI}{b:List D×List D}(g:H F.p≠Mu)(c:H p=Mu)(f:(p==NW)=Mw)(e:FJ F H a b):Is F.toFb (upd H p (oD a)) (.ref p) (.aW b.1 b.2):=by
 obtain⟨d,i,h⟩:=e.mono (Ext.new (F:=F.toFb) (o:=oD a) (k:=k) c).kp;simp only[Is];exact⟨p,d,rfl,⟨a,⟨gF g c,f,.inl ⟨_,aj⟩⟩,i⟩,h⟩
section
variable{X:Cx}{F:Fx}{ke ve tg iter tg2 iter2:MP}{ifs ifs2:List MP}{pos:Oc}{scope:Of}{g g2:D->ag->M ag}{tc tc2:ag->M Bool}{tk tv:ag->M D}{tI tI2:ag->M (List D)}
theorem vo(it:Mt)(D:MB)(env:SD):T7 (.DictComp ke ve [⟨tg,iter,ifs,0⟩] scope pos) 0 it (.ref D) env=(do
   RA iter.pos;match<-OS it with
   |none=>pure (.done .next)|some v=>
    Pt tg it v;Rl tg env v;let mut ok:=Mv;for c in ifs do if ok then ok<-S7 c env (OB c env)
    if ok then qd ke ve D env
    UK (.compLoop (.DictComp ke ve [⟨tg,iter,ifs,0⟩] scope pos) 0 it (.ref D) env)):=by
 unfold qd;rfl
theorem xP(own fr:List MR)(js:List Nat)(f:X.calm=Mv)(hu:X.A.units+2<NB)(u:kC X.env.scope scope=Mv)(Y:js.map (λj=>X.N[j]?)=fr.map Mq)(t:∀x∈fr,scope.names.lookup x=Mq .free)(n:js.Nodup)(hw:DI X F tg iter tI)(hg:∀b d C fp s H,DG (dB X b scope (own++fr) d C fp s H) F tg g)(Z:∀b d C fp s H,pk (dB X b scope (own++fr) d C fp s H) F ifs tc)(W:∀b d C fp s H,DE (dB X b scope (own++fr) d C fp s H) F ke tk)(U:∀b d C fp s H,DE (dB X b scope (own++fr) d C fp s H) F ve tv)(V:∀x,OE iter X.env x=pure x)(hP:X.prog=F.P)(l:X.w=F.w):DU X F (.DictComp ke ve [⟨tg,iter,ifs,0⟩] scope pos) (λρ=>do let ds<-tI ρ;let r<-m9 g tc (xO tk tv) ([],[]) ds (dy ρ own.length js);pure (.aW r.1.1 r.1.2)):=by
 refine⟨hw.hK,λb s G H I=>?_⟩;obtain⟨d,c⟩:=rp I.ok u;have P:l7 X (.DictComp ke ve [⟨tg,iter,ifs,0⟩] scope pos) (tj own.length js (Je F tI) (GH F g) (oK F tc) (rM F (cL F tk) (cL F tv)) jV oD) b s G H:=(iW (ok:=GG) (ob0:=jV) (newAcc:=newDict) (own:=own) (fr:=fr) (js:=js) (body:=λD env=>qd ke ve D env) f c Y t hw.pi rfl (iX rfl rfl) (λh=>xN h) (λa ob v ok=>ok.2 v) ⟨rfl,λv z=>nomatch z⟩ (λz=>nomatch z) (λ_ _ _=>rfl) (λ_ _ _=>rfl) (λ_ _ _=>vo _ _ _) (λb cs C fp s H=>(hg b cs C fp s H).pg) (λb cs C fp s H=>(Z b cs C fp s H).pi) (λb cs C fp s H D o=>xM o hu hw.hK hP l (W b cs C fp s H).pe (U b cs C fp s H).pe) AL V).pu rfl (λ_=>rfl) I;refine P.imp λQ i=>?_;obtain⟨ρ,k,S,h⟩:=i;refine⟨ρ,k,S,M.wk h λds k1 q J H1 B T=>?_⟩;have S1:=(S.mono B).dB own.length n;refine Hm (So:=FJ F) (λh e=>h.mono e) AM T S1 ⟨[],rN,.nil⟩ q λa xs K E H' R e2 S2 L O p y m=>?_;exact O _ _ ((B.trans e2).trans (.new y)) (rO (k:=R) S2.live y m L)
end
inductive Tg where|nm(i:Nat)|nil|cons(t r:Tg)|tup(n:Nat)(r:Tg)
inductive BI where|len|tuple|list|all|sorted|abs|min|max|repr deriving DecidableEq
inductive Ex where|var(i:Nat)|cst(d:D)|tW(i:Nat)|op(o:Rn)(a b:Ex)|neg(a:Ex)|cmp(o:P0)(a b:Ex)|Jn(o o':P0)(a b c:Ex)|and(a b:Ex)|or(a b:Ex)|one(a:Ex)|not(a:Ex)|y9(c a b:Ex)|fG(a b:Ex)|xQ(a b:Ex)|c6(a:Ex)|vp(a:Ex)|BN(a:Ex)|aG(o:P0)(a b:Ex)|AN(o o':P0)(a b c:Ex)|nil|cons(a r:Ex)|feed(i:Nat)(r:Ex)|tup(r:Ex)|lst(r:Ex)|idx(a b:Ex)|cut(a lo hi:Ex)|Hn(a:Ex)|xR(r:Ex)|qf(f i h:Nat)(r:Ex)|Hq(a:Ex)(i:Nat)|bi(f:BI)(r:Ex)|call(f:Nat)(r:Ex)|lc(own:List MR)(js:List Nat)(tg:Tg)(it c elt:Ex)|dc(own:List MR)(js:List Nat)(tg:Tg)(it c ke ve:Ex)|ef(r:Ex)|bD(a:Ex)|yes|bad|kQ(i:Nat)(e:Ex)
noncomputable def aZ:D->T Bool
 |.bl b=>.ok b|_=>.stuck
noncomputable def bN:D->T Int
 |.int i=>.ok i|_=>.stuck
noncomputable def fi:List A->T (List D)
 |[]=>.ok []|.d x::r=>do let a<-fi r;.ok (x::a)|.feed::_=>.stuck|.own _::_=>.stuck
noncomputable def dm(i:Int):Bool:=decide (-(2^64)<i)&&decide (i<2^64)
noncomputable def Kv:D->D->T D
 |.int i,.int j=>.ok (.int (i+j))|.str x,.str y=>do T.need (decide (x.length+y.length<=MA));.ok (.str (x++y))|.tup b,.tup a=>do T.need (decide (b.length+a.length<=MA));.ok (.tup (b++a))|.lst b,.lst a=>do T.need (decide (b.length+a.length<=MA));.ok (.lst (b++a))|_,_=>.stuck
noncomputable def Kw:D->D->T D
 |.int i,.int j=>.ok (.int (i-j))|_,_=>.stuck
noncomputable def Kx:D->D->T D
 |.int i,.int j=>do T.need (dm i||dm j);.ok (.int (i*j))|_,_=>.stuck
noncomputable def rP:Rn->D->D->T D
 |.Add,d,e=>Kv d e|.Sub,d,e=>Kw d e|.Mult,d,e=>Kx d e|.Mod,d,e=>do let i<-bN d;let j<-bN e;T.need (decide (0<j));.ok (.int (i%j))|.FloorDiv,d,e=>do let i<-bN d;let j<-bN e;T.need (decide (j=2)||decide (j=7));.ok (.int (i/j))|.Pow,d,e=>do let i<-bN d;let j<-bN e;T.need (decide (i=10)&&decide (0<=j/\j<=30));.ok (.int (i^j.toNat))|_,_,_=>.stuck
noncomputable def Jo(a:Bool)(d e:D):T D:=match e with
 |.aW ks _=>do T.need (aC ks d);.ok (.bl (if a then !bU ks d else bU ks d))|.str y=>(match d with
  |.str x=>.ok (.bl (if a then !(Ss y x)else Ss y x))|_=>.stuck)|_=>do let c<-T.get (items e);let b<-T.get (zO d c);.ok (.bl (if a then !b else b))
noncomputable def bq:P0->D->D->T D
 |.Eq,d,e=>do let b<-T.get (cP bM d e);.ok (.bl b)|.NotEq,d,e=>do let b<-T.get (cP bM d e);.ok (.bl (!b))|.Lt,d,e=>match d with
  |.tup _=>do let ns<-T.get (pZ d);let a<-T.get (pZ e);.ok (.bl (HT.lexLt ns a))|_=>do let i<-bN d;let j<-bN e;.ok (.bl (decide (i<j)))
 |.LtE,d,e=>do let i<-bN d;let j<-bN e;.ok (.bl (decide (i<=j)))|.Gt,d,e=>do let i<-bN d;let j<-bN e;.ok (.bl (decide (j<i)))|.Is,d,e=>do T.need (ky e);.ok (.bl (ky d))|.In,d,e=>Jo Mw d e|.NotIn,d,e=>Jo Mv d e|_,_,_=>.stuck
noncomputable def Hr:D->D->T D:=λd e=>do
 let i<-bN e;match d with
 |.tup a=>T.get (fu a i)|.lst a=>T.get (fu a i)|.str x=>do T.need (decide (x.length<=MA));T.get (Du x i)|_=>.stuck
noncomputable def fj:D->D->T D
 |.aW ks a,e=>do T.need (aC ks e);T.get (aF ks a e)|d,e=>Hr d e
noncomputable def Ht(lo b:Option Int):D->T D
 |.tup a=>.ok (.tup (cutD a lo b))|.lst a=>.ok (.lst (cutD a lo b))|.str x=>do T.need (decide (x.length<=MA));.ok (.str (Txt.slice x lo b))|_=>.stuck
noncomputable def AO(d:D):T Bool:=T.get (D2 d)
noncomputable def ll(ds:List D):T D:=do
 T.need (decide (ds.length<=MA))T.perm ds λl=>.ok (.lst l)
noncomputable def lq(ds:List D):T D:=do
 let a<-T.get (gA ds)T.need (decide (a.length<64));.ok (.lst ((gz a).map D.str))
noncomputable def fg(d:D):T D:=do
 let a<-T.get (kY d)if d_ a then ll a else match d with
  |.lst _=>lq a|_=>.stuck
noncomputable def Em:D->T D
 |.lst a=>do let b<-T.get (gA a);.ok (eS b)|_=>.stuck
noncomputable def Eo(f:Int->Int->Int):List D->T D
 |[d,e]=>do let i<-bN d;let j<-bN e;.ok (.int (f i j))|_=>.stuck
noncomputable def lT:BI->List D->T D
 |.len,[d]=>match d with
  |.tup a=>.ok (.int a.length)|.lst a=>.ok (.int a.length)|.str x=>do T.need (decide (x.length<=MA));.ok (.int x.length)|_=>.stuck
 |.tuple,[d]=>do let a<-T.get (items d);.ok (.tup a)|.list,[d]=>do let a<-T.get (items d);.ok (.lst a)|.all,[d]=>match d with
  |.lst a=>do let bs<-T.get (bools a);.ok (.bl (bs.all id))|_=>.stuck
 |.sorted,[d]=>fg d|.abs,[d]=>do let i<-bN d;.ok (.int (if i<0 then-i else i))|.repr,[d]=>do T.need (AJ d&&pX d);.ok (.str (oM d).shown)|.min,b=>Eo (λi j=>if j<i then j else i) b|.max,b=>Eo (λi j=>if j>i then j else i) b|_,_=>.stuck
mutual
noncomputable def ek:Tg->D->ag->T ag
 |.nm i,d,b=>.ok (b.set i (Mq (.d d)))|.tup n r,d,b=>match d with
  |.tup a=>if a.length=n then jb r a b else .stuck|.lst a=>if a.length=n then jb r a b else .stuck|_=>.stuck
 |_,_,_=>.stuck
noncomputable def jb:Tg->List D->ag->T ag
 |.nil,a,c=>match a with
  |[]=>.ok c|_=>.stuck
 |.cons t r,a,c=>match a with
  |d::a=>do let b<-ek t d c;jb r a b|[]=>.stuck
 |_,_,_=>.stuck
end
noncomputable def dF(g:D->ag->T ag)(tc:ag->T Bool)(te:ag->T D):List D->ag->T (List D)
 |[],_=>.ok []|d::c,e=>do
  let a<-g d e;let b<-tc a;if b then do
   let x<-te a;let r<-dF g tc te c a;.ok (x::r)else dF g tc te c a
noncomputable def gO{c:Type}(g:D->ag->T ag)(tc:ag->T Bool)(em:c->ag->T (c×ag)):c->List D->ag->T (c×ag)
 |acc,[],e=>.ok (acc,e)|acc,d::f,e=>do
  let a<-g d e;let b<-tc a;if b then do
   let r<-em acc a;gO g tc em r.1 f r.2;else gO g tc em acc f a
noncomputable def m_(c b:ag->T D)(a:List D×List D)(ρ:ag):T ((List D×List D)×ag):=do
 let x<-c ρ;let y<-b ρ;T.need (aC a.1 x&&decide (a.1.length<MA));.ok (putD a.1 a.2 x y,ρ)
noncomputable def Ep(d:D):T (List D):=do
 let j<-bN d;T.need (decide (-(2^62)<=j)&&decide (j<=1000000));.ok (av j.toNat)
noncomputable def bF(ρ:ag)(i:Nat):Bool:=match ρ[i]? with
 |some (Mq .feed)=>Mv|_=>Mw
structure Ev where
 aI:Nat->List A->T Rs
 tW:Nat->Option D
noncomputable def toD:Rs->T D
 |.d x=>.ok x|.own _=>.stuck
noncomputable def Hu:Rs->T D
 |.d _=>.stuck|.own x=>.ok x
noncomputable def Ev.call(v:Ev)(f:Nat)(as:List A):T D:=v.aI f as>>=toD
noncomputable def Ev.qg(v:Ev)(f:Nat)(as:List A):T D:=v.aI f as>>=Hu
noncomputable def Hv:List D->T D
 |[.lst b,.lst a]=>do let r<-T.get (ee (l4 b a) ([],[]));.ok (.aW r.1 r.2)|_=>.stuck
mutual
noncomputable def ak(v:Ev):Ex->ag->T D
 |.var i,g=>T.get (fx g i)|.cst d,_=>.ok d|.tW i,_=>T.get (v.tW i)|.op o a b,g=>do let d<-ak v a g;let e<-ak v b g;rP o d e|.neg a,g=>do let i<-bN (<-ak v a g);.ok (.int (-i))|.cmp o a b,g=>do let d<-ak v a g;let e<-ak v b g;bq o d e|.Jn o s a b c,g=>do
  let d<-ak v a g;let e<-ak v b g;let y<-aZ (<-bq o d e)if y then do let f<-ak v c g;bq s e f else .ok (.bl Mw)|.and a b,g=>do let c<-aZ (<-ak v a g);if c then ak v b g else .ok (.bl Mw)|.or a b,g=>do let c<-aZ (<-ak v a g);if c then .ok (.bl Mv)else ak v b g|.y9 c a b,g=>do let x<-aX v c g;if x then ak v a g else ak v b g|.Hn a,g=>do Em (<-ak v a g)|.xR r,g=>do Hv (<-fi (<-c_ v r g))|.qf f i h r,g=>do
  T.need (bF g i)let bs<-c_ v r g;let d<-v.qg h bs;v.call f [.feed,.own d]|.one a,g=>ak v a g|.not a,g=>do let c<-aZ (<-ak v a g);.ok (.bl (!c))|.tup r,g=>do let j<-fi (<-c_ v r g);T.need (decide (j.length<=MA));.ok (.tup j)|.lst r,g=>do let j<-fi (<-c_ v r g);T.need (decide (j.length<=MA));.ok (.lst j)|.idx a b,g=>do let d<-ak v a g;let e<-ak v b g;fj d e|.cut a lo w,g=>do let d<-ak v a g;let l<-Er v lo g;let u<-Er v w g;Ht l u d|.bi f r,g=>do lT f (<-fi (<-c_ v r g))|.call f r,g=>do let z<-c_ v r g;v.call f z|.lc own m k n c p,g=>do
  let j<-nc v n g;let r<-dF (ek k) (λg=>aX v c g) (λg=>ak v p g) j (dy g own.length m);.ok (.lst r)|.dc own m k n c t q,g=>do
  let j<-nc v n g;let r<-gO (ek k) (λg=>aX v c g) (m_ (λg=>ak v t g) (λg=>ak v q g)) ([],[]) j (dy g own.length m);.ok (.aW r.1.1 r.1.2)|.kQ i e,g=>do
  let d<-ak v e (mM i g)T.need (flat (gr g i) d);.ok d|_,_=>.stuck
noncomputable def aX(v:Ev):Ex->ag->T Bool
 |.yes,_=>.ok Mv|.fG a b,g=>do let c<-aX v a g;if c then aX v b g else .ok Mw|.xQ a b,g=>do let c<-aX v a g;if c then .ok Mv else aX v b g|.c6 a,g=>aX v a g|.vp a,g=>do let c<-aX v a g;.ok (!c)|.BN a,g=>do AO (<-ak v a g)|.aG o a b,g=>do let d<-ak v a g;let e<-ak v b g;aZ (<-bq o d e)|.AN o j a b c,g=>do
  let d<-ak v a g;let e<-ak v b g;let y<-aZ (<-bq o d e)if y then do let f<-ak v c g;aZ (<-bq j e f)else .ok Mw|.Hq a i,g=>do
  let d<-ak v a g;let h<-T.get (fF g i)T.need (aC h.1 d);.ok (bU h.1 d)|.kQ i e,g=>aX v e (mM i g)|_,_=>.stuck
noncomputable def c_(v:Ev):Ex->ag->T (List A)
 |.nil,_=>.ok []|.cons a r,b=>do let d<-ak v a b;let c<-c_ v r b;.ok (.d d::c)|.feed i r,b=>do T.need (bF b i);let c<-c_ v r b;.ok (.feed::c)|_,_=>.stuck
noncomputable def Er(v:Ev):Ex->ag->T (Option Int)
 |.nil,_=>.ok Mu|.one a,b=>do let i<-bN (<-ak v a b);.ok (Mq i)|_,_=>.stuck
noncomputable def nc(v:Ev):Ex->ag->T (List D)
 |.ef r,b=>do match<-fi (<-c_ v r b)with
  |[d]=>Ep d|_=>.stuck
 |.bD a,b=>do T.get (d8 (<-ak v a b))|_,_=>.stuck
end
inductive aT where|asg(tg:Tg)(e:Ex)|set(i:Nat)(e:Ex)|par(i j:Nat)(r:Ex)|ret(e:Ex)|nil|cons(s r:aT)|iff(c:Ex)(a b:aT)|dz(tg:Tg)(it:Ex)(b:aT)|Ky(c:Ex)(b:aT)|bad|jc(i:Nat)(r:Ex)|gr(i:Nat)|app(i:Nat)(e:Ex)|put(i:Nat)(k e:Ex)|fz(i:Nat)(s:aT)|ext(i:Nat)(e:Ex)|xS(i:Nat)(r:Ex)|xT(i:Nat)|putN(i:Nat)(k:Ex)|jJ(i:Nat)(k e:Ex)|xU(i:Nat)|xV(i j0:Nat)(js:List Nat)(k:MR)(it e:Ex)
noncomputable def cH:D->T (List D)
 |.lst a=>.ok a|_=>.stuck
noncomputable def nh:D->T (List D×List D)
 |.aW ks a=>.ok (ks,a)|_=>.stuck
noncomputable def c7(g:D->ag->T ag)(body:ag->T Fl):List D->ag->T Fl
 |[],c=>.ok (.nx c)|d::e,c=>do
  let b<-g d c;match<-body b with
  |.nx a=>c7 g body e a|.ct a=>c7 g body e a|.bk a=>.ok (.nx a)|.rt r=>.ok (.rt r)|.ro _=>.stuck
noncomputable def nX(c:ag->T Bool)(body:ag->T Fl):Nat->ag->T Fl
 |0,_=>.stuck|n+1,d=>do
  let b<-c d;if b then do match<-body d with
   |.nx a=>nX c body n a|.ct a=>nX c body n a|.bk a=>.ok (.nx a)|.rt r=>.ok (.rt r)|.ro _=>.stuck;else .ok (.nx d)
noncomputable def jd:Nat:=1000
noncomputable def vq(te:ag->T D)(ρ:ag)(i:Nat)(js:List Nat):List D->List D->T (List D)
 |[],_=>.ok []|d::a,rest=>do
  let n<-bN (<-te ((dy (ρ.set i (Mq (.own (.lst rest)))) 1 js).set 0 (Mq (.d d))))T.need (decide (0<=n)&&(decide (n<(rest.length:Int))&&decide (rest.length<=MA)))let x<-T.get rest[n.toNat]?;let r<-vq te ρ i js a (rest.eraseIdx n.toNat);.ok (x::r)
noncomputable def xW(i:Nat)(ρ:ag):Bool:=(ρ.set i Mu).all λx=>match x with
 |some w=>!w.fw|none=>Mv
noncomputable def aw(v:Ev):aT->ag->T Fl
 |.asg m e,f=>do let d<-ak v e f;let l<-ek m d f;.ok (.nx l)|.set i e,f=>do let d<-ak v e f;.ok (.nx (f.set i (Mq (.d d))))|.par i j r,f=>do match<-fi (<-c_ v r f)with
  |[d,e]=>.ok (.nx ((f.set i (Mq (.d d))).set j (Mq (.d e))))|_=>.stuck
 |.ret e,f=>do let d<-ak v e f;.ok (.rt d)|.nil,f=>.ok (.nx f)|.cons s r,f=>do match<-aw v s f with
  |.nx l=>aw v r l|w=>.ok w
 |.iff c a b,f=>do let x<-aX v c f;if x then aw v a f else aw v b f|.dz m n b,f=>do c7 (ek m) (aw v b) (<-nc v n f) f|.Ky c b,f=>nX (aX v c) (aw v b) jd f|.bad,_=>.stuck|.jc i r,f=>do
  T.need (xl f)let h<-fi (<-c_ v r f)T.need (decide (h.length<=MA));.ok (.nx (f.set i (Mq (.own (.lst h)))))|.gr i,f=>do
  T.need (xl f);.ok (.nx (f.set i (Mq (.own (.aW [] [])))))|.app i e,f=>do
  let h<-cH (<-T.get (d6 f i))let d<-ak v e f;T.need (decide (h.length<MA));.ok (.nx (f.set i (Mq (.own (.lst (h++[d]))))))|.put i k e,f=>do
  let d<-ak v e f;let g<-nh (<-T.get (d6 f i))let q<-ak v k f;T.need (decide (g.1.length<MA)&&aC g.1 q);.ok (.nx (f.set i (Mq (.own (.aW (putD g.1 g.2 q d).1 (putD g.1 g.2 q d).2)))))|.fz i s,f=>aw v s (mM i f)|.ext i e,f=>do
  let h<-cH (<-T.get (d6 f i))let p<-cH (<-ak v e f)T.need (decide (h.length+p.length<=MA));.ok (.nx (f.set i (Mq (.own (.lst (h++p))))))|.xS i r,f=>do
  T.need (xl f)match<-fi (<-c_ v r f)with
  |[d]=>do
   let j<-bN d;T.need (decide (0<=j)&&decide (j<=1000000));.ok (.nx (f.set i (Mq (.own (.lst (av j.toNat))))))|_=>.stuck
 |.xT i,f=>do
  T.need (xW i f);.ok (.nx (f.set i (Mq (.gq [] []))))|.putN i k,f=>do
  let g<-T.get (fF f i)let q<-ak v k f;T.need (decide (g.1.length<MA)&&(aC g.1 q&&!bU g.1 q));.ok (.nx (f.set i (Mq (.gq (g.1++[q]) (g.2++[.lst []])))))|.jJ i k e,f=>do
  let g<-T.get (fF f i)let q<-ak v k f;T.need (aC g.1 q)let o<-cH (<-T.get (aF g.1 g.2 q))let d<-ak v e f;T.need (decide (o.length<MA));.ok (.nx (f.set i (Mq (.gq g.1 (xv (λ_=>.lst (o++[d])) q g.1 g.2)))))|.xU i,f=>do
  let g<-T.get (fF f i);.ok (.ro (.aW g.1 g.2))|.xV i y u k n e,f=>do
  let t<-cH (<-T.get (d6 f i))let h<-nc v n f;let r<-vq (λf=>ak v e f) f i u h t;.ok (.rt (.lst r))
structure Df where
 np:Nat
 nn:Nat
 body:aT
noncomputable def bO(n:Nat)(as:List A):ag:=as.map (λa=>Mq a.w)++NY (n-as.length) Mu
noncomputable def FK:Fl->T Rs
 |.rt d=>.ok (.d d)|.ro d=>.ok (.own d)|.nx _=>.ok (.d .bH)|_=>.stuck
noncomputable def lEq:List Nat->List Nat->Bool
 |[],[]=>Mv|x::b,y::a=>Uu x y&&lEq b a|_,_=>Mw
theorem xX:∀{a b:List Nat},lEq a b=Mv->a=b
 |[],[],_=>rfl|[],_::_,h=>nomatch h|_::_,[],h=>nomatch h|x::d,y::c,h=>by
  simp only[lEq,MG]at h;rw[OX h.1,xX h.2]
theorem qh:∀(a:List Nat),lEq a a=Mv
 |[]=>rfl|x::b=>by simp only[lEq,MG];exact⟨Nat.beq_refl x,qh b⟩
noncomputable def sEq(x y:MR):Bool:=lEq x.cps.toList y.cps.toList
theorem bo{x y:MR}(h:sEq x y=Mv):x=y:=by
 obtain⟨⟨a⟩⟩:=x;obtain⟨⟨b⟩⟩:=y;have:=xX h;simp only at this;rw[this]
theorem qi(x:MR):sEq x x=Mv:=qh _
theorem xY{x y:MR}(h:sEq x y=Mw):x≠y:=λe=>by rw[e,qi]at h;cases h
theorem nY(x y:MR):sEq x y=(x==y):=by cases h:sEq x y with
 |true=>rw[bo h];simp|false=>exact(beq_eq_false_iff_ne.mpr (xY h)).symm
noncomputable def qN(x:MR):List (MR×OU)->Option OU
 |[]=>Mu|(y,k)::r=>if sEq x y then Mq k else qN x r
theorem lr(x:MR):∀(l:List (MR×OU)),qN x l=l.lookup x
 |[]=>rfl|(y,k)::r=>by
  simp only[qN,Ni,nY,lr x r];cases x==y<;>rfl
structure MC where
 N:List MR
 sc:Of
 all:Bool
 own:List (MR×OU)
structure dP where
 dn:List MR
 gn:List MR
noncomputable def isAt(N:List MR)(i:Nat)(x:MR):Bool:=match N[i]? with
 |some y=>sEq y x|none=>Mw
theorem iE{N:List MR}{i:Nat}{x:MR}(h:isAt N i x=Mv):N[i]?=Mq x:=by
 unfold isAt at h;split at h;.rename_i y e;rw[e,bo h]
 .cases h
noncomputable def nZ(x:MR):Bool:=!sEq x "__debug__"&&!sEq x "__classdict__"&&!sEq x "__name__"
theorem je{x:MR}(h:nZ x=Mv):(x==("__debug__":MR))=Mw/\(x==("__classdict__":MR))=Mw/\x≠"__name__":=by
 simp only[nZ,MG,NA]at h;exact⟨by rw[<-nY];exact h.1.1,by rw[<-nY];exact h.1.2,xY h.2⟩
noncomputable def cq(m:MC)(i:Nat)(x:MR):Bool:=isAt m.N i x&&nZ x&&match qN x m.sc.names with
 |some .local=>Mv|some .cell=>Mv|some .free=>Mv|_=>Mw
noncomputable def eT(m:MC)(i:Nat)(x:MR):Bool:=isAt m.N i x&&match qN x m.sc.names with
 |some .local=>Mv|some .cell=>m.all||(match qN x m.own with|some .cell=>Mv|_=>Mw)|_=>Mw
noncomputable def cu(m:MC)(x:MR):Bool:=nZ x&&match qN x m.sc.names with
 |some .globalImplicit=>Mv|_=>Mw
noncomputable def az:MP->Bool
 |.Starred _ _=>Mv|_=>Mw
theorem aP{e:MP}{a:List MP}{env:SD}(h:az e=Mw):MX (e::a) env=(Mw,OB e env)::MX a env:=by cases e<;>first|rfl|(cases h)
theorem gc{env:SD}{pos:Oc}:∀{a:List MP},(a.all λe=>!az e)=Mv->(PF pos (MX a env)).any (·.1)=Mw
 |[],_=>rfl|e::a,h=>by
  rw[PD,MG,NA]at h;rw[aP h.1];show(Mw||(PF pos (MX a env)).any (·.1))=Mw;rw[gc h.2];rfl
noncomputable def AQ:MP->Bool
 |.Call _ [] [] _=>Mv|_=>Mw
noncomputable def bw:MP->Bool
 |.Set _ _ _=>Mv|_=>Mw
noncomputable def iF:MP->Bool
 |.Slice _ _ _ _=>Mv|_=>Mw
noncomputable def n6:MP->Bool
 |.UnaryOp .Not _ _=>Mw|.BoolOp _ _ _=>Mw|.IfExp _ _ _ _=>Mw|.Compare _ _ _ _=>Mw|_=>Mv
noncomputable def xZ(outer sc:Of):Of:={sc with names:=sc.names.map λ(n,k)=>if(k==N0&&outer.kind==.function&&outer.names.lookup n==Mq .cell)then(n,NP)else(n,k)}
noncomputable def b_(m:MC)(own fr:List MR)(sc:Of):MC:=⟨own++fr,xZ m.sc sc,Mw,sc.names⟩
noncomputable def bx(m:MC)(js:List Nat):List MR:=js.map λj=>(m.N[j]?).getD ""
noncomputable def FL:List MR->Bool
 |[]=>Mv|x::r=>(r.all λy=>!sEq x y)&&FL r
noncomputable def vt:List Nat->Bool
 |[]=>Mv|x::r=>(r.all λy=>!Nat.beq x y)&&vt r
noncomputable def ma(m:MC)(own:List MR)(js:List Nat)(sc:Of):Bool:=kC m.sc sc&&(js.all λj=>decide (j<m.N.length))&&((bx m js).all λx=>qN x sc.names==Mq .free)&&vt js&&FL (own++bx m js)
noncomputable def gP:BI->MR|.len=>"len"|.tuple=>"tuple"|.list=>"list"|.all=>"all"|.sorted=>"sorted"|.abs=>"abs"|.min=>"min"|.max=>"max"|.repr=>"repr"
noncomputable def eU:List MR:=["len","tuple","list","all","sorted","dict","range","zip","abs","min","max","repr"]
structure XC(g:dP)(v:Ev)(m:MC)(X:Cx)(F:Fx):Prop where
 hK:X.K=F.K
 hP:X.prog=F.P
 hw:X.w=F.w
 hN:X.N=m.N
 nd:m.N.Nodup
 sc:X.env.scope=m.sc
 calm:X.calm=Mv
 un:X.A.units+64<NB
 fn:m.all=Mv->∀x,X.fn x=Mv
 fo:∀x,qN x m.own=Mq .cell->X.fn x=Mv
 LB:X.A.mark Mu=X.A
 bl:∀x∈eU,X.mg x=Mu
 df:∀f x,g.dn[f]?=Mq x->∃n k,cX k X.A/\nL X.prog X.w X.K X.mg X.base x n k (λas=>(v.aI f as).aM)/\∀as,as.length≠n->v.aI f as=.stuck
 gd:X.A.guards=Mq []co:∀i x d,g.gn[i]?=Mq x->v.tW i=Mq d->∃u w,X.mg x=Mq u/\RelV w u/\∀H,H F.p≠Mu->X.K.lookup F.p=Mu->Is F.toFb H w d
section
variable{g:dP}{v:Ev}{m:MC}{X:Cx}{F:Fx}
theorem XC.at_(h:XC g v m X F){i:Nat}{x:MR}(q:isAt m.N i x=Mv):X.N[i]?=Mq x:=by rw[h.hN];exact iE q
theorem XC.lk(h:XC g v m X F)(x:MR):qN x m.sc.names=X.env.scope.names.lookup x:=by rw[lr,h.sc]
theorem XC.vK(h:XC g v m X F){i:Nat}{x:MR}(q:cq m i x=Mv):X.N[i]?=Mq x/\oI X.env.scope x/\(x==("__debug__":MR))=Mw/\(x==("__classdict__":MR))=Mw:=by
 simp only[cq,MG]at q;obtain⟨⟨c,b⟩,a⟩:=q;have p:=je b;refine⟨h.at_ c,?_,p.1,p.2.1⟩;unfold oI;rw[<-h.lk];split at a;.rename_i e;exact .inl e
 .rename_i e;exact .inr (.inl e)
 .rename_i e;exact .inr (.inr e)
 .cases a
theorem XC.loc(h:XC g v m X F){i:Nat}{x:MR}(q:eT m i x=Mv):X.N[i]?=Mq x/\Loc X.env.scope x/\(X.fn x=Mv\/X.env.scope.names.lookup x=Mq .local):=by
 simp only[eT,MG]at q;obtain⟨b,a⟩:=q;refine⟨h.at_ b,?_⟩;unfold Loc;rw[<-h.lk];split at a;.rename_i e;exact⟨.inl e,.inr e⟩
 .rename_i e;rw[NO]at a;refine⟨.inr e,.inl ?_⟩;rcases a with a|a;.exact h.fn a x
  .split at a;.rename_i c;exact h.fo x c
   .cases a
 .cases a
theorem XC.gl(h:XC g v m X F){x:MR}(q:cu m x=Mv):Gl X x/\(x==("__debug__":MR))=Mw/\x≠"__name__":=by
 simp only[cu,MG]at q;obtain⟨b,a⟩:=q;have p:=je b;refine⟨?_,p.1,p.2.2⟩;show X.env.scope.names.lookup x=_;rw[<-h.lk];split at a;.rename_i e;exact e
 .cases a
end
theorem dq(d:D):Ref (aZ d).aM (dM d):=by cases d<;>first|exact .refl _|exact .fail
theorem bg(d:D):Ref (bN d).aM (e9 d):=by cases d<;>first|exact .refl _|exact .fail
theorem c8:∀(as:List A),(fi as).aM=hZ as
 |[]=>rfl|.d x::r=>by
  show(fi r>>=λa=>T.ok (x::a)).aM=_;rw[T.cF,c8 r];rfl|.feed::_=>rfl|.own _::_=>rfl
theorem aq{a:Type}{b:Bool}{P:Prop}{t:T a}{m:M a}(h:b=Mv->P)(q:Ref t.aM m):Ref (do T.need b;t:T a).aM (do M.need P;m):=by
 rw[T.cF];exact(Ref.need h).bind λ_=>q
theorem aa{c d:Type}{t:T c}{m:M c}{f:c->T d}{h:c->M d}(a:Ref t.aM m)(b:∀x,Ref (f x).aM (h x)):Ref (t>>=f).aM (m>>=h):=by
 rw[T.cF];exact a.bind b
theorem aE{a c:Type}{o:Option a}{f:a->T c}{h:a->M c}(b:∀x,Ref (f x).aM (h x)):Ref (T.get o>>=f).aM (M.get o>>=h):=aa .get b
section
variable{X:Cx}{F:Fx}
theorem Hw(hu:X.A.units+64<NB)(hP:X.prog=F.P)(hw:X.w=F.w)(o:Rn):e_ X F (OL o) (λd e=>(rP o d e).aM):=by
 have two:∀{b:Int->Int->Bool}{C:Int->Int->Prop}{f:Int->Int->D}(d e:D),(∀i j,b i j=Mv->C i j)->Ref (do let i<-bN d;let j<-bN e;T.need (b i j);T.ok (f i j):T D).aM (mI C f d e):=λd e h=>aa (bg d) λi=>aa (bg e) λj=>aq (h i j) (.refl _);refine .ref λd e=>?_;cases o with
 |Add=>
  by_cases g:∃a,d=.str a
  .obtain⟨a,rfl⟩:=g;exact⟨BL,Av,by cases e<;>first|exact aq of_decide_eq_true (.refl _)|exact .fail⟩
  refine⟨GQ,zS,?_⟩;cases d<;>first|exact absurd ⟨_,rfl⟩ g|exact .fail|(cases e<;>first|exact .refl _|exact .fail|exact aq of_decide_eq_true (.refl _))
 |Sub=>
  refine⟨GR,zT,?_⟩;cases d<;>first|exact .fail|(cases e<;>first|exact .refl _|exact .fail)
 |Mult=>
  refine⟨_,C_,?_⟩;cases d with
  |int i=>cases e with
   |int j=>
    refine aq (b:=dm i||dm j) (t:=T.ok (D.int (i*j))) (λh=>?_) (.refl _);simp only[dm,NO,MG,decide_eq_true_eq]at h;exact h|_=>exact .fail
  |_=>exact .fail
 |Mod=>exact⟨_,Dc,two d e λi j h=>of_decide_eq_true h⟩|FloorDiv=>exact⟨_,zB,two d e λi j h=>by
   rw[NO]at h;rcases h with h|h<;>(rw[of_decide_eq_true h];exact⟨by decide,by decide⟩)⟩|Pow=>exact⟨_,Dd,two d e λi j h=>by
   rw[MG]at h;have m:=of_decide_eq_true h.2;exact⟨m.1,by omega,by rw[of_decide_eq_true h.1];decide⟩⟩|_=>exact⟨λ_ _=>M.fail,⟨λc s n H k x y v u d e Q I r p l hK B z q=>q.elim⟩,.fail⟩
theorem x3(a:Bool)(d e:D)(g:∀ks ds,e≠.aW ks ds)(f:∀y,e≠.str y):Ref (Jo a d e).aM (Kf a d e):=by
 have:Jo a d e=(do let c<-T.get (items e);let b<-T.get (zO d c);.ok (.bl (if a then !b else b))):=by cases e<;>first|rfl|exact absurd rfl (g _ _)|exact absurd rfl (f _)
 rw[this];exact aE λ_=>aE λ_=>.refl _
theorem jf(hu:X.A.units+64<NB)(hP:X.prog=F.P)(hw:X.w=F.w)(o:P0):e_ X F (Nd o) (λd e=>(bq o d e).aM):=by
 have f:X.A.units<NB:=by omega
 have b:X.A.units+2<NB:=by omega
 refine .ref λd e=>?_;cases o with
 |Eq=>exact⟨_,GK hu,aE λ_=>.refl _⟩|NotEq=>exact⟨_,GL hu,aE λ_=>.refl _⟩|Lt=>cases d with
  |tup n=>exact⟨_,Ef f,aE λ_=>aE λ_=>.refl _⟩|_=>exact⟨_,Gx,aa (bg _) λi=>aa (bg e) λj=>.refl _⟩
 |Gt=>exact⟨_,Gz,aa (bg d) λi=>aa (bg e) λj=>.refl _⟩|Is=>exact⟨_,De,aq (λh=>h) (.refl _)⟩|LtE=>exact⟨_,Gy,aa (bg d) λi=>aa (bg e) λj=>.refl _⟩|In=>
  by_cases hd:∃ks a,e=.aW ks a
  .obtain⟨ks,a,rfl⟩:=hd;exact⟨_,DW b hP hw,aq bI (.refl _)⟩
  by_cases c:∃y,e=.str y
  .obtain⟨y,rfl⟩:=c;exact⟨_,Aw,by cases d<;>first|exact .refl _|exact .fail⟩
  exact⟨_,GN hu,x3 Mw d e (λks a z=>hd ⟨ks,a,z⟩) λy z=>c ⟨y,z⟩⟩|NotIn=>
  by_cases hd:∃ks a,e=.aW ks a
  .obtain⟨ks,a,rfl⟩:=hd;exact⟨_,u9 b hP hw,aq bI (.refl _)⟩
  by_cases c:∃y,e=.str y
  .obtain⟨y,rfl⟩:=c;exact⟨_,rH,by cases d<;>first|exact .refl _|exact .fail⟩
  exact⟨_,wU hu,x3 Mv d e (λks a z=>hd ⟨ks,a,z⟩) λy z=>c ⟨y,z⟩⟩|_=>exact⟨λ_ _=>M.fail,⟨λg s m H k x y v u d e Q I r p l hK B t q=>q.elim⟩,.fail⟩
theorem Hx(hu:X.A.units+64<NB)(hP:X.prog=F.P)(hw:X.w=F.w):Jc X F (λd e=>(fj d e).aM):=by
 refine⟨λhK a b c s g H x y v u Q I m j h p=>?_⟩;obtain⟨k,d,e,l,o,n,q⟩:=h;by_cases hd:∃ks f,d=.aW ks f
 .obtain⟨ks,f,rfl⟩:=hd;refine(Ae (X:=X) (F:=F) (by omega) hP hw).ix hK a b c s g H x y v u Q I m j ⟨k,_,e,l,o,n,?_⟩ p;have:Ref (fj (.aW ks f) e).aM (G7 (.aW ks f) e):=aq bI .get;exact this _ _ _ q
 .refine(zF (X:=X) (F:=F)).ix hK a b c s g H x y v u Q I m j ⟨k,d,e,l,o,n,?_⟩ p;have r:fj d e=Hr d e:=by cases d<;>first|rfl|exact absurd ⟨_,_,rfl⟩ hd
  have:Ref (fj d e).aM (Lw d e):=by
   rw[r];exact aa (bg e) λi=>by cases d<;>first|exact .fail|exact .get|exact aq of_decide_eq_true .get
  exact this _ _ _ q
end
section
variable{X:Cx}{F:Fx}
theorem bB.stuck{f:Mt}:bB X F f (λ_=>M.fail):=⟨λa s b H k c d g Q I e l hK i q=>q.elim⟩
theorem bB.one{f:Mt}{t:List D->T D}(e:t []=.stuck)(c:∀a b r,t (a::b::r)=.stuck)(h:∀d,∃m,bB X F f m/\Ref (t [d]).aM (m [d])):bB X F f (λds=>(t ds).aM):=.ref λds=>by match ds with
 |[]=>exact⟨_,.stuck,by rw[e];exact .fail⟩|[d]=>exact h d|a::b::r=>exact⟨_,.stuck,by rw[c];exact .fail⟩
noncomputable def x4:BI->Mt|.len=>.builtin "len"|.tuple=>.type "tuple"|.list=>.type "list"|.all=>.builtin "all"|.sorted=>.builtin "sorted"|.abs=>.builtin "abs"|.min=>.builtin "min"|.max=>.builtin "max"|.repr=>.builtin "repr"
theorem Es(f:BI):O5 (gP f)=Mq (x4 f):=by cases f<;>(simp only[gP,x4];decide+kernel)
theorem qj{f:Int->Int->Int}(ds:List D):Ref (Eo f ds).aM (two (C9 λi j=>.int (f i j)) ds):=by match ds with
 |[]=>exact .fail|[_]=>exact .fail|[d,e]=>exact aa (bg d) λi=>aa (bg e) λj=>.refl _|_::_::_::_=>exact .fail
theorem Hy(b:X.calm=Mv)(j:X.A.guards=Mq [])(hu:X.A.units+64<NB)(hP:X.prog=F.P)(hw:X.w=F.w)(f:BI):bB X F (x4 f) (λds=>(lT f ds).aM):=by cases f with
 |len=>
  refine .one rfl (λ_ _ _=>rfl) λd=>?_;cases d with
  |tup _=>exact⟨_,rf,.refl _⟩|lst _=>exact⟨_,rf,.refl _⟩|str _=>exact⟨_,rf,aq of_decide_eq_true (.refl _)⟩|_=>exact⟨_,.stuck,.fail⟩
 |tuple=>exact .one rfl (λ_ _ _=>rfl) λd=>⟨_,wH,aE λ_=>.refl _⟩|list=>exact .one rfl (λ_ _ _=>rfl) λd=>⟨_,zI,aE λ_=>.refl _⟩|all=>
  refine .one rfl (λ_ _ _=>rfl) λd=>⟨_,Dv b,?_⟩;cases d<;>first|exact aE λ_=>.refl _|exact .fail
 |sorted=>
  refine .one rfl (λ_ _ _=>rfl) λd=>?_;by_cases c:∃ds,kY d=Mq ds/\d_ ds=Mv
  .obtain⟨ds,i,h⟩:=c;refine⟨_,xr b (by omega),?_⟩;have a:fg d=ll ds:=by unfold fg;rw[i];show(if d_ ds then _ else _)=_;rw[if_pos h]
   have k:nS d=(do M.need (ds.length<=MA/\d_ ds=Mv);let l<-M.any λl=>l.Perm ds;pure (.lst l)):=by unfold nS;rw[i];rfl
   show Ref (fg d).aM (nS d);rw[a,k];exact aq (λz=>⟨of_decide_eq_true z,h⟩) (.refl _)
  .by_cases g:∃ds,d=.lst ds
   .obtain⟨ds,rfl⟩:=g;have e:d_ ds≠Mv:=λz=>c ⟨ds,rfl,z⟩;have a:fg (.lst ds)=lq ds:=by show(if d_ ds then _ else _)=_;rw[if_neg e]
    refine⟨_,xF,?_⟩;show Ref (fg (.lst ds)).aM (xE (.lst ds));rw[a];exact aE λm=>aq of_decide_eq_true (.refl _)
   .refine⟨_,.stuck,?_⟩;show Ref (fg d).aM _;cases hw:kY d with
    |none=>unfold fg;rw[hw];exact .fail|some ds=>
     have e:d_ ds≠Mv:=λz=>c ⟨ds,hw,z⟩;have a:fg d=.stuck:=by
      unfold fg;rw[hw];show(if d_ ds then _ else _)=_;rw[if_neg e];cases d<;>first|rfl|exact absurd ⟨_,rfl⟩ g
     rw[a];exact .fail
 |abs=>
  refine .one rfl (λ_ _ _=>rfl) λd=>⟨_,Ej,?_⟩;cases d<;>first|exact .refl _|exact .fail
 |repr=>
  refine .one rfl (λ_ _ _=>rfl) λd=>⟨_,AK j (by omega),?_⟩;exact aq (λz=>by rw[MG]at z;exact z) (.refl _)|min=>exact .ref λds=>⟨_,zH b,qj ds⟩|max=>exact .ref λds=>⟨_,zG b,qj ds⟩
end
theorem jP{o:MP}{n:MR}{env:SD}{w:Rw Mt}(h:AQ o=Mw):RK o n env w=w:=by
 unfold RK;split;.cases h
 .rfl
theorem gf{e:MP}(h:bw e=Mw)(env:SD)(x:Mt):OE e env x=pure x:=by cases e<;>first|rfl|cases h
theorem lu{e:MP}(h:bw e=Mw)(o:P0):PB o e=Mw:=by cases e<;>first|rfl|cases h
theorem iG{b c:MP}(h:bw c=Mw)(o o':P0):Ti [o,o'] [b,c]=Mw:=lu h o'
theorem lz{b:MP}(h:iF b=Mw):jO b:=by intro o i;cases b<;>first|rfl|cases h
theorem rQ{e:MP}(h:n6 e=Mv)(env:SD)(whole:Rw Mt):S7 e env whole=(do let v<-whole;RA e.pos;QQ [v] (truthy v)):=by cases e with
 |UnaryOp o a p=>cases o<;>first|rfl|cases h
 |BoolOp _ _ _=>cases h|IfExp _ _ _ _=>cases h|Compare _ _ _ _=>cases h|_=>rfl
theorem gh:∀{l:List MR},FL l=Mv->l.Nodup
 |[],_=>.nil|x::r,h=>by
  simp only[FL,MG,Pg,NA]at h;exact List.nodup_cons.mpr ⟨(λz=>by have:=h.1 x z;rw[qi]at this;exact nomatch this),gh h.2⟩
theorem ni:∀{l:List Nat},vt l=Mv->l.Nodup
 |[],_=>.nil|x::r,h=>by
  simp only[vt,MG,Pg,NA]at h;exact List.nodup_cons.mpr ⟨(λz=>by have:=h.1 x z;rw[Nat.beq_refl]at this;exact nomatch this),ni h.2⟩
section
variable{g:dP}{v:Ev}{m:MC}{X:Cx}{F:Fx}
theorem XC.dB(h:XC g v m X F){own:List MR}{js:List Nat}{sc:Of}(q:ma m own js sc=Mv)(a:List (MB×NI))(b:List (MR×MB))(C:MB)(fp:List MB)(s:Mz)(H:Hp):XC g v (b_ m own (bx m js) sc) (dB X a sc (own++bx m js) b C fp s H) F where
 hK:=h.hK;hP:=h.hP;hw:=h.hw;hN:=rfl;nd:=by
  simp only[ma,MG]at q;exact gh q.2
 sc:=by
  show UP sc X.env=xZ m.sc sc;unfold UP xZ UI;rw[h.sc]
 calm:=h.calm;un:=h.un;fn:=λz=>nomatch z;fo:=λx e=>by
  show(sc.names.lookup x==Mq .cell)=Mv;have e:qN x sc.names=Mq .cell:=e;rw[<-lr,e];rfl
 LB:=h.LB;bl:=h.bl;df:=h.df;gd:=h.gd;co:=h.co
theorem rR(h:XC g v m X F){own:List MR}{js:List Nat}{sc:Of}(q:ma m own js sc=Mv):kC X.env.scope sc=Mv/\js.map (λj=>X.N[j]?)=(bx m js).map Mq/\(∀x∈bx m js,sc.names.lookup x=Mq .free)/\js.Nodup:=by
 simp only[ma,MG,Pg,decide_eq_true_eq]at q;obtain⟨⟨⟨⟨d,c⟩,b⟩,a⟩,i⟩:=q;refine⟨by rw[h.sc];exact d,?_,λx e=>?_,ni a⟩
 .unfold bx;rw[M_];refine NR λj f=>?_;rw[h.hN];have:=c j f;simp[this]
 .have:=b x e;rw[<-lr];exact beq_iff_eq.mp this
inductive Ch(P:Prop)where|y(h:P)|n
noncomputable def Ch.b{P Q:Prop}:Ch P->(P->Ch Q)->Ch Q
 |.y h,f=>f h|.n,_=>.n
noncomputable def Ch.ok{P:Prop}:Ch P->Bool
 |.y _=>Mv|.n=>Mw
theorem Ch.of{P:Prop}:∀{c:Ch P},c.ok=Mv->P
 |.y h,_=>h|.n,q=>nomatch q
noncomputable def cb:(b:Bool)->Ch (b=Mv)
 |true=>.y rfl|false=>.n
noncomputable def cn:(b:Bool)->Ch (b=Mw)
 |false=>.y rfl|true=>.n
noncomputable def cd(p:Prop):[d:Decidable p]->Ch p
 |.isTrue h=>.y h|.isFalse _=>.n
noncomputable abbrev QG(g:dP)(m:MC)(t:Tg)(e:MP):Prop:=∀v X F,XC g v m X F->DG X F e (λd a=>(ek t d a).aM)
noncomputable abbrev Hz(g:dP)(m:MC)(t:Tg)(b:List MP):Prop:=∀v X F,XC g v m X F->zJ X F b (λd a=>(jb t d a).aM)
theorem tX{env:SD}{e:MP}{a:List MP}(h:az e=Mw):NJ (e::a) env=(Mw,Rl e env)::NJ a env:=by cases e<;>first|rfl|(cases h)
theorem as_none{env:SD}:∀{a:List MP},(a.all λe=>!az e)=Mv->(NJ a env).length=a.length/\(NJ a env).findIdx? (·.1)=Mu
 |[],_=>⟨rfl,rfl⟩|e::a,z=>by
  rw[PD,MG,NA]at z;rw[tX z.1];obtain⟨c,b⟩:=as_none (env:=env) z.2;exact⟨by simp[c],by simp[List.findIdx?_cons,b]⟩
end
section
variable{g:dP}{m:MC}
theorem Kz{i:Nat}{x:MR}{p:Oc}(q:eT m i x=Mv):QG g m (.nm i) (.Name x p):=λv X F h=>by
 obtain⟨c,b,a⟩:=h.loc q;exact(zK i (by rw[h.hN];exact h.nd) c b a h.hK).ref λd e=>.refl _
theorem KC{n k:Nat}{r:Tg}{c:List MP}{p:Oc}(i:c.length=n)(f:(c.all λe=>!az e)=Mv)(j:Hz g m r c):QG g m (.tup n r) (.Tuple c k p):=λv X F h=>by
 obtain⟨a1,l⟩:=as_none (env:=X.env) f;refine(Hg (n:=n) h.calm (j v X F h) (a1.trans i) l).ref λd b=>?_;cases d with
 |tup a=>
  show Ref (if a.length=n then jb r a b else .stuck:T ag).aM (do M.need (a.length=n);(jb r a b).aM);by_cases e:a.length=n;.rw[if_pos e];exactλk Q E z=>⟨e,z⟩
  .rw[if_neg e];exact .fail|lst a=>
  show Ref (if a.length=n then jb r a b else .stuck:T ag).aM (do M.need (a.length=n);(jb r a b).aM);by_cases e:a.length=n;.rw[if_pos e];exactλk Q E z=>⟨e,z⟩
  .rw[if_neg e];exact .fail|_=>exact .fail
theorem KD:Hz g m .nil []:=λv X F h=>(zL h.hK).ref λd a=>by cases d<;>first|exact .refl _|exact .fail
theorem KE{t r:Tg}{e:MP}{a:List MP}(b:az e=Mw)(c:QG g m t e)(f:Hz g m r a):Hz g m (.cons t r) (e::a):=λv X F h=>(wJ (c v X F h) (f v X F h) (by rw[tX b];rfl)).ref λd i=>by cases d with
 |nil=>exact .fail|cons d j=>exact aa (.refl _) λ_=>.refl _
variable(g m)
mutual
noncomputable def cG:(t:Tg)->(e:MP)->Ch (QG g m t e)
 |.nm i,e=>match e with
  |.Name x _=>(cb (eT m i x)).b λq=>.y (Kz q)|_=>.n
 |.tup n r,e=>match e with
  |.Tuple a _ _=>(cd (a.length=n)).b λq=>(cb (a.all λe=>!az e)).b λc=>(LC r a).b λh=>.y (KC q c h)|_=>.n
 |.nil,_=>.n|.cons _ _,_=>.n
noncomputable def LC:(t:Tg)->(a:List MP)->Ch (Hz g m t a)
 |.nil,a=>match a with
  |[]=>.y KD|_=>.n
 |.cons t r,a=>match a with
  |e::a=>(cn (az e)).b λq=>(cG t e).b λh=>(LC r a).b λc=>.y (KE q h c)|[]=>.n
 |.nm _,_=>.n|.tup _ _,_=>.n
end
end
section
variable{g:D->ag->T ag}{tc:ag->T Bool}{te:ag->T D}
theorem lA:∀(ds:List D)(ρ:ag),Ref (dF g tc te ds ρ).aM (mE (λd ρ=>(g d ρ).aM) (λρ=>(tc ρ).aM) (λρ=>(te ρ).aM) ds ρ)
 |[],ρ=>.refl _|d::ds,ρ=>aa (.refl _) λa=>aa (.refl _) λb=>by cases b with
  |true=>exact aa (.refl _) λx=>aa (lA ds a) λr=>.refl _|false=>exact lA ds a
theorem jg{e:Type}{em:e->ag->T (e×ag)}{f:e->ag->M (e×ag)}(a:∀acc ρ,Ref (em acc ρ).aM (f acc ρ)):∀(acc:e)(ds:List D)(ρ:ag),Ref (gO g tc em acc ds ρ).aM (m9 (λd ρ=>(g d ρ).aM) (λρ=>(tc ρ).aM) f acc ds ρ)
 |acc,[],ρ=>.refl _|acc,d::ds,ρ=>aa (.refl _) λc=>aa (.refl _) λb=>by cases b with
  |true=>exact aa (a acc c) λr=>jg a r.1 ds r.2|false=>exact jg a acc ds c
theorem tY(ρ:ag)(i:Nat)(js:List Nat):∀(ds rest:List D),Ref (vq te ρ i js ds rest).aM (xx (λρ=>(te ρ).aM) ρ i js ds rest)
 |[],_=>.refl _|d::ds,rest=>aa (.refl _) λx=>aa (bg x) λn=>aq (λz=>by
   simp only[MG,decide_eq_true_eq]at z;exact z) (aE λy=>aa (tY ρ i js ds _) λr=>.refl _)
end
section
variable{g:dP}{v:Ev}{m:MC}{X:Cx}{F:Fx}
theorem DO.ref{o:Option MP}{t m:ag->M (Option Int)}(h:DO X F o m)(r:∀ρ,Ref (t ρ) (m ρ)):DO X F o t:=⟨h.hK,h.po.imp λa H Q⟨ρ,k,S,z⟩=>⟨ρ,k,S,r ρ _ _ _ z⟩⟩
theorem nj{ρ:ag}{i:Nat}(h:bF ρ i=Mv):ρ[i]?=Mq (Mq .feed):=by
 unfold bF at h;split at h;.assumption
 .cases h
theorem BO{x:MR}(h:eU.contains x=Mv):x∈eU:=List.contains_iff_mem.mp h
theorem Et(f:BI):gP f∈eU:=by cases f<;>exact BO rfl
theorem AR(h:XC g v m X F){f:BI}{a:MP}{b:List MP}{p q:Oc}{c:ag->M (List A)}(ha:DA X F (a::b) c)(s:cu m (gP f)=Mv)(r:az a=Mw)(j:(b.all λe=>!az e)=Mv):DE X F (.Call (.Name (gP f) p) (a::b) [] q) (λρ=>do(lT f (<-hZ (<-c ρ))).aM):=by
 obtain⟨o,n,l⟩:=h.gl s;have hb:=Es f;have k:=h.bl _ (Et f);have hd:=Hy (X:=X) (F:=F) h.calm h.gd h.un h.hP h.hw f;have d:MX (a::b) X.env=(Mw,OB a X.env)::MX b X.env:=aP r;have i:(PF q (MX b X.env)).any (·.1)=Mw:=gc j;cases f<;>first|exact wG hd k hb ha o l n d i|exact u3 hd k hb ha o l n d i
end
noncomputable abbrev QE(g:dP)(m:MC)(ex:Ex)(e:MP):Prop:=∀v X F,XC g v m X F->DE X F e (λa=>(ak v ex a).aM)
noncomputable abbrev QU(g:dP)(m:MC)(ex:Ex)(e:MP):Prop:=∀v X F,XC g v m X F->DU X F e (λa=>(ak v ex a).aM)
noncomputable abbrev QT(g:dP)(m:MC)(ex:Ex)(e:MP):Prop:=∀v X F,XC g v m X F->DT X F e (λa=>(aX v ex a).aM)
noncomputable abbrev QW(g:dP)(m:MC)(ex:Ex)(e:MP):Prop:=∀v X F,XC g v m X F->vH X F e (λa=>(aX v ex a).aM)
noncomputable abbrev QC(g:dP)(m:MC)(ex:Ex)(b:List MP):Prop:=∀v X F,XC g v m X F->pk X F b (λa=>(aX v ex a).aM)
noncomputable abbrev QA(g:dP)(m:MC)(ex:Ex)(b:List MP):Prop:=∀v X F,XC g v m X F->DA X F b (λa=>(c_ v ex a).aM)
noncomputable abbrev QO(g:dP)(m:MC)(ex:Ex)(o:Option MP):Prop:=∀v X F,XC g v m X F->DO X F o (λa=>(Er v ex a).aM)
noncomputable abbrev QI(g:dP)(m:MC)(ex:Ex)(t e:MP):Prop:=∀v X F,XC g v m X F->DI X F t e (λa=>(nc v ex a).aM)
noncomputable abbrev QK(d:D)(c:Const):Prop:=∀X F,X.K=F.K->∀k p,DE X F (.Constant c k p) (λ_=>pure d)
noncomputable def cK:(d:D)->(c:Const)->Ch (QK d c)
 |.int i,c=>match c with
  |.int j=>(cd (j=i)).b λq=>.y (by subst q;exactλX F h k p=>C0 h)|_=>.n
 |.bl a,c=>match c with
  |.bool b=>(cd (b=a)).b λq=>.y (by subst q;exactλX F h k p=>Gq h)|_=>.n
 |.bH,c=>match c with
  |.none=>.y λX F h k p=>wx h|_=>.n
 |.str x,c=>match c with
  |.str y=>(cb (sEq x y)).b λq=>.y (by rw[bo q];exactλX F h k p=>C1 h)|_=>.n
 |_,_=>.n
section
variable{g:dP}{m:MC}
theorem HA{i:Nat}{x:MR}{p:Oc}(q:cq m i x=Mv):QE g m (.var i) (.Name x p):=λv X F h=>by
 obtain⟨d,c,b,a⟩:=h.vK q;exact(CZ i d c b a h.hK).ref λe=>.get
theorem KH{o o':Rn}{a b:Ex}{x y:MP}{p:Oc}(q:o'=o)(ha:QE g m a x)(hb:QE g m b y):QE g m (.op o a b) (.BinOp x o' y p):=by
 subst q;exactλv X F h=>(Gw (Hw h.un h.hP h.hw o') (ha v X F h) (hb v X F h)).ref λc=>aa (.refl _) λ_=>aa (.refl _) λ_=>.refl _
theorem HB{a:Ex}{x:MP}{p:Oc}(ha:QE g m a x):QE g m (.neg a) (.UnaryOp .USub x p):=λv X F h=>(DP (ha v X F h)).ref λb=>aa (.refl _) λd=>aa (bg d) λ_=>.refl _
theorem HC{o o':P0}{a b:Ex}{x y:MP}{p:Oc}(q:o'=o)(c:bw y=Mw)(ha:QE g m a x)(hb:QE g m b y):QE g m (.cmp o a b) (.Compare x [o'] [y] p):=by
 subst q;exactλv X F h=>(C4 (jf h.un h.hP h.hw o') (ha v X F h) (hb v X F h) (lu c o')).ref λd=>aa (.refl _) λ_=>aa (.refl _) λ_=>.refl _
theorem HD{a b:Ex}{x y:MP}{r:List MP}{p:Oc}(ha:QE g m a x)(hb:QE g m b (.BoolOp .And (y::r) p)):QE g m (.and a b) (.BoolOp .And (x::y::r) p):=λv X F h=>(Di (ha v X F h) (hb v X F h)).ref λc=>aa (.refl _) λd=>aa (dq d) λb=>by cases b<;>exact .refl _
theorem KI{a b:Ex}{x y:MP}{r:List MP}{p:Oc}(ha:QE g m a x)(hb:QE g m b (.BoolOp .Or (y::r) p)):QE g m (.or a b) (.BoolOp .Or (x::y::r) p):=λv X F h=>(GA (ha v X F h) (hb v X F h)).ref λc=>aa (.refl _) λd=>aa (dq d) λb=>by cases b<;>exact .refl _
theorem HE{c a b:Ex}{z x y:MP}{p:Oc}(d:QT g m c z)(ha:QE g m a x)(hb:QE g m b y):QE g m (.y9 c a b) (.IfExp z x y p):=λv X F h=>(GC (d v X F h) (ha v X F h) (hb v X F h)).ref λe=>aa (.refl _) λb=>by cases b<;>exact .refl _
theorem Eu(ds:List D):Ref (Hv ds).aM (Jm ds):=by
 unfold Hv Jm;split<;>first|exact aE λ_=>.refl _|exact .fail
theorem Ew{r:Ex}{f h:MR}{a b:MP}{p pos l pos0:Oc}(k:sEq f "dict"=Mv)(j:sEq h "zip"=Mv)(i:cu m f=Mv)(e:cu m h=Mv)(d:az a=Mw)(c:az b=Mw)(n:QA g m r [a,b]):QE g m (.xR r) (.Call (.Name f l) [.Call (.Name h p) [a,b] [] pos] [] pos0):=λv X F z=>by
 obtain rfl:=bo k;obtain rfl:=bo j;have hu:=z.un;exact(AI z.calm (by omega) z.hP z.hw (z.bl _ (BO rfl)) (z.bl _ (BO rfl)) (n v X F z) (z.gl i).1 (z.gl e).1 (aP d) (by rw[aP c];rfl)).ref λs=>aa (.refl _) λq=>aa (.of_eq (c8 q)) λo=>Eu o
theorem AS{f i h:Nat}{r:Ex}{x y z:MR}{e:MP}{b:List MP}{J pg np O j:Oc}(I:isAt g.dn f x=Mv)(H:isAt g.dn h y=Mv)(G:cu m x=Mv)(D:cu m y=Mv)(C:cq m i z=Mv)(B:az e=Mw)(A:(b.all λe=>!az e)=Mv)(K:QA g m r (e::b)):QE g m (.qf f i h r) (.Call (.Name x J) [.Name z np,.Call (.Name y pg) (e::b) [] j] [] O):=λv X F c=>by
 obtain⟨n1,V,w,N,l1⟩:=c.df f x (iE I);obtain⟨n2,U,u,L,l2⟩:=c.df h y (iE H);obtain⟨a1,R,Y⟩:=c.gl G;obtain⟨b1,P,W⟩:=c.gl D;obtain⟨t,s,p,o⟩:=c.vK C;refine(xw i N w L u c.hP c.hw t s p o (K v X F c) a1 b1 R P (aP B) (gc A)).ref λS=>aq nj (aa (.refl _) λbs=>?_);intro k Q E z;rw[T.cF]at z;by_cases l:bs.length=n2
 .by_cases n:n1=2
  .refine⟨⟨l,n⟩,?_⟩;have z:((v.aI h bs).aM>>=λr=>(Hu r).aM).run k (λd a=>(v.call f [.feed,.own d]).aM.run a Q E) E:=by rw[<-T.cF];exact z
   refine T.ig (v.aI h bs) _ (M.mono _ z (λr a y=>?_) λ_ _ y=>y);cases r with
   |d x=>exact y.elim|own d=>
    have y:((v.aI f [.feed,.own d]).aM>>=λr=>(toD r).aM).run a Q E:=by rw[<-T.cF];exact y
    refine T.ig (v.aI f [.feed,.own d]) _ (M.mono _ y (λr a y=>?_) λ_ _ y=>y);cases r with
    |d x=>exact y|own x=>exact y.elim
  .exfalso;have e:∀d,v.call f [.feed,.own d]=.stuck:=λd=>by show v.aI f _>>=toD=_;rw[l1 [.feed,.own d] (λq=>n q.symm)];rfl
   have:(v.qg h bs).aM.run k (λd a=>False) E:=M.mono _ z (λd a y=>by dsimp only at y;rw[e d]at y;exact y) λ_ _ y=>y;exact T.rz _ this
 .have e:v.qg h bs=.stuck:=by show v.aI h bs>>=Hu=_;rw[l2 bs l];rfl
  rw[e]at z;exact z.elim
theorem AU(d:D):Ref (Em d).aM (xJ d):=by cases d<;>first|exact aE λ_=>.refl _|exact .fail
theorem HF{a:Ex}{x:MP}{f n:MR}{p kp k pos:Oc}{j:Nat}(i:sEq f "min"=Mv)(e:sEq n "default"=Mv)(c:cu m f=Mv)(b:az x=Mw)(ha:QE g m a x):QE g m (.Hn a) (.Call (.Name f p) [x] [⟨Mq n,.Constant .none j k,kp⟩] pos):=λv X F h=>by
 obtain rfl:=bo i;obtain rfl:=bo e;exact(El h.calm (h.bl _ (BO rfl)) (ha v X F h) (h.gl c).1 (by rw[aP b];rfl)).ref λl=>aa (.refl _) λd=>AU d
theorem HG{a:Ex}{o:BoolOp}{x:MP}{p:Oc}(ha:QE g m a x):QE g m (.one a) (.BoolOp o [x] p):=λv X F h=>(Dh (ha v X F h)).ref λb=>.refl _
theorem HH{a:Ex}{x:MP}{p:Oc}(ha:QE g m a x):QE g m (.not a) (.UnaryOp .Not x p):=λv X F h=>(Dj (ha v X F h)).ref λb=>aa (.refl _) λd=>aa (dq d) λ_=>.refl _
theorem HI{r:Ex}{a:List MP}{k:Nat}{p:Oc}(b:QA g m r a):QE g m (.tup r) (.Tuple a k p):=λv X F h=>(Dq (b v X F h)).ref λd=>aa (.refl _) λc=>aa (.of_eq (c8 c)) λe=>aq of_decide_eq_true (.refl _)
theorem HJ{r:Ex}{a:List MP}{p:Oc}(b:QA g m r a):QE g m (.lst r) (.List a p):=λv X F h=>(Ds (b v X F h)).ref λd=>aa (.refl _) λc=>aa (.of_eq (c8 c)) λe=>aq of_decide_eq_true (.refl _)
theorem HK{a b:Ex}{x y:MP}{p:Oc}(q:iF y=Mw)(ha:QE g m a x)(hb:QE g m b y):QE g m (.idx a b) (.Subscript x y p):=λv X F h=>(GD (Hx h.un h.hP h.hw) (ha v X F h) (hb v X F h) (lz q)).ref λc=>aa (.refl _) λ_=>aa (.refl _) λ_=>.refl _
theorem KJ{f:BI}{r:Ex}{x:MR}{a:MP}{b:List MP}{p k:Oc}(j:sEq x (gP f)=Mv)(i:cu m x=Mv)(d:(b.all λe=>!az e)=Mv)(c:az a=Mw)(l:QA g m r (a::b)):QE g m (.bi f r) (.Call (.Name x p) (a::b) [] k):=λv X F h=>by
 obtain rfl:=bo j;exact(AR h (l v X F h) i c d).ref λo=>aa (.refl _) λn=>aa (.of_eq (c8 n)) λq=>.refl _
theorem Ey{f:Nat}{r:Ex}{x:MR}{a:MP}{i:List MP}{p t:Oc}(s:isAt g.dn f x=Mv)(q:cu m x=Mv)(o:(i.all λe=>!az e)=Mv)(l:az a=Mw)(u:QA g m r (a::i)):QE g m (.call f r) (.Call (.Name x p) (a::i) [] t):=λv X F h=>by
 obtain⟨n,k,c,hd,w⟩:=h.df f x (iE s);obtain⟨B,A,G⟩:=h.gl q;refine(Dw hd c (u v X F h) B h.hP h.hw A (aP l) (gc o)).ref λC=>aa (.refl _) λb=>?_;by_cases j:b.length=n
 .refineλk Q E z=>⟨j,?_⟩;have z:((v.aI f b).aM>>=λr=>(toD r).aM).run k Q E:=by rw[<-T.cF];exact z
  refine T.ig (v.aI f b) _ (M.mono _ z (λr D y=>?_) λ_ _ y=>y);cases r with
  |d x=>exact y|own x=>exact y.elim
 .have e:v.call f b=.stuck:=by show v.aI f b>>=toD=_;rw[w b j];rfl
  rw[e];exact .fail
theorem HL{e:MP}:QE g m .bad e:=λv X F h=>DE.stuck h.hK
theorem HM{i:Nat}{a:Ex}{e:MP}(ha:QE g m a e):QE g m (.kQ i a) e:=λv X F h=>((ha v X F h).kQ i).ref λb=>aa (.refl _) λd=>aq (λz=>z) (.refl _)
theorem HN{i:Nat}{x:MR}{p:Oc}(e:cu m x=Mv)(c:isAt g.gn i x=Mv):QE g m (.tW i) (.Name x p):=λv X F h=>by
 obtain⟨l,k,n⟩:=h.gl e;cases a:v.tW i with
 |none=>
  refine(DE.stuck h.hK).ref λb=>?_;show Ref (T.get (v.tW i)).aM _;rw[a];exact .refl _|some d=>
  obtain⟨u,w,f,r,j⟩:=h.co i x d (iE c) a;refine(xC l f r j k h.hK).ref λb=>?_;show Ref (T.get (v.tW i)).aM _;rw[a];exact .refl _
theorem HP{o o' e d:P0}{a b c:Ex}{x y z:MP}{p:Oc}(q:e=o)(i:d=o')(f:bw z=Mw)(ha:QE g m a x)(hb:QE g m b y)(j:QE g m c z):QE g m (.Jn o o' a b c) (.Compare x [e,d] [y,z] p):=by
 subst q i;refineλv X F h=>(wy (jf h.un h.hP h.hw e) (jf h.un h.hP h.hw d) (ha v X F h) (hb v X F h) (j v X F h) (iG f e d)).ref λk=>aa (.refl _) λ_=>aa (.refl _) λ_=>aa (.refl _) λr=>aa (dq r) λb=>?_;cases b with
 |true=>exact aa (.refl _) λ_=>.refl _|false=>exact .refl _
theorem Ez{o o' k i:P0}{a b c:Ex}{x y z:MP}{p:Oc}(q:k=o)(n:i=o')(l:bw z=Mw)(ha:QE g m a x)(hb:QE g m b y)(s:QE g m c z):QT g m (.AN o o' a b c) (.Compare x [k,i] [y,z] p):=by
 subst q n;refineλv X F h=>(wz (jf h.un h.hP h.hw k) (jf h.un h.hP h.hw i) (ha v X F h) (hb v X F h) (s v X F h) (iG l k i)).ref λj=>?_;show Ref (ak v a j>>=λd=>ak v b j>>=λe=>bq k d e>>=λr=>aZ r>>=λy=>if y then(ak v c j>>=λf=>bq i e f>>=λr=>aZ r)else .ok Mw:T Bool).aM _;unfold ku;rw[M.bind_assoc];refine aa (.refl _) λd=>?_;rw[M.bind_assoc];refine aa (.refl _) λe=>?_;rw[M.bind_assoc];refine aa (.refl _) λr=>?_;rw[M.bind_assoc];refine aa (dq r) λb=>?_;cases b with
 |true=>
  show Ref (ak v c j>>=λf=>bq i e f>>=λr=>aZ r:T Bool).aM (((ak v c j).aM>>=λf=>(bq i e f).aM)>>=λr=>dM r);rw[M.bind_assoc];exact aa (.refl _) λf=>aa (.refl _) λr=>dq r|false=>exact .refl _
theorem KL:QO g m .nil Mu:=λv X F h=>(zP h.hK).ref λa=>.refl _
theorem KN{a:Ex}{e:MP}(ha:QE g m a e):QO g m (.one a) (Mq e):=λv X F h=>(zQ (ha v X F h)).ref λb=>aa (.refl _) λd=>aa (bg d) λ_=>.refl _
theorem HQ{a lo b:Ex}{x:MP}{l u:Option MP}{p c:Oc}(ha:QE g m a x)(e:QO g m lo l)(f:QO g m b u):QE g m (.cut a lo b) (.Subscript x (.Slice l u Mu c) p):=λv X F h=>(wW (ha v X F h) (e v X F h) (f v X F h)).ref λi=>aa (.refl _) λd=>aa (.refl _) λ_=>aa (.refl _) λ_=>by cases d<;>first|exact .refl _|exact .fail|exact aq of_decide_eq_true (.refl _)
variable{own:List MR}{js:List Nat}{sc:Of}{tg tg2:Tg}{it c it2 c2 elt ke ve:Ex}{t i t2 i2 x y:MP}{ifs ifs2:List MP}{p:Oc}
theorem KO(e:ma m own js sc=Mv)(f:bw i=Mw)(j:QI g m it t i)(k:QG g (b_ m own (bx m js) sc) tg t)(n:QC g (b_ m own (bx m js) sc) c ifs)(l:QE g (b_ m own (bx m js) sc) elt x):QU g m (.lc own js tg it c elt) (.ListComp x [⟨t,i,ifs,0⟩] sc p):=λv X F h=>by
 obtain⟨b1,w,u,q⟩:=rR h e;exact(xk own (bx m js) js h.calm b1 w u q (j v X F h) (λa d C b s H=>k _ _ _ (h.dB e a d C b s H)) (λa d C b s H=>n _ _ _ (h.dB e a d C b s H)) (λa d C b s H=>l _ _ _ (h.dB e a d C b s H)) (gf f _)).ref λz=>aa (.refl _) λo=>aa (lA o _) λr=>.refl _
theorem x6{d b:ag->T D}(a:List D×List D)(ρ:ag):Ref (m_ d b a ρ).aM (xO (λρ=>(d ρ).aM) (λρ=>(b ρ).aM) a ρ):=aa (.refl _) λx=>aa (.refl _) λy=>aq (λz=>by
  rw[MG]at z;exact⟨bI z.1,of_decide_eq_true z.2⟩) (.refl _)
theorem KP(e:ma m own js sc=Mv)(k:bw i=Mw)(o:QI g m it t i)(q:QG g (b_ m own (bx m js) sc) tg t)(u:QC g (b_ m own (bx m js) sc) c ifs)(n:QE g (b_ m own (bx m js) sc) ke x)(l:QE g (b_ m own (bx m js) sc) ve y):QU g m (.dc own js tg it c ke ve) (.DictComp x y [⟨t,i,ifs,0⟩] sc p):=λv X F h=>by
 obtain⟨b1,D,B,z⟩:=rR h e;have hu:X.A.units+2<NB:=by have:=h.un;omega
 exact(xP own (bx m js) js h.calm hu b1 D B z (o v X F h) (λa d C b s H=>q _ _ _ (h.dB e a d C b s H)) (λa d C b s H=>u _ _ _ (h.dB e a d C b s H)) (λa d C b s H=>n _ _ _ (h.dB e a d C b s H)) (λa d C b s H=>l _ _ _ (h.dB e a d C b s H)) (gf k _) h.hP h.hw).ref λj=>aa (.refl _) λw=>aa (jg (λf j=>x6 f j) _ w _) λr=>.refl _
theorem x8{a b:Ex}{x y:MP}{r:List MP}{p:Oc}(ha:QT g m a x)(hb:QW g m b (.BoolOp .And (y::r) p)):QW g m (.fG a b) (.BoolOp .And (x::y::r) p):=λv X F h=>(Dm (ha v X F h) (hb v X F h)).ref λd=>aa (.refl _) λb=>by cases b<;>exact .refl _
theorem BP{a b:Ex}{x y:MP}{r:List MP}{p:Oc}(ha:QT g m a x)(hb:QW g m b (.BoolOp .Or (y::r) p)):QW g m (.xQ a b) (.BoolOp .Or (x::y::r) p):=λv X F h=>(GB (ha v X F h) (hb v X F h)).ref λd=>aa (.refl _) λb=>by cases b<;>exact .refl _
theorem x9{a:Ex}{o:BoolOp}{x:MP}{p:Oc}(ha:QT g m a x):QW g m (.c6 a) (.BoolOp o [x] p):=λv X F h=>by cases o with
 |And=>exact zC (ha v X F h)|Or=>exact Dl (ha v X F h)
theorem EA{ex:Ex}{e:MP}(h:QW g m ex e):QT g m ex e:=λv X F z=>(h v X F z).dt
theorem HR{a:Ex}{i:Nat}{x:MR}{e:MP}{p np:Oc}(q:cq m i x=Mv)(ha:QE g m a e):QT g m (.Hq a i) (.Compare e [.In] [.Name x np] p):=λv X F h=>by
 obtain⟨k,j,f,b⟩:=h.vK q;have hu:=h.un;exact(Ee i (by omega) h.hP h.hw (ha v X F h) k j f b).ref λl=>aa (.refl _) λd=>aE λn=>aq bI (.refl _)
theorem EB{i:Nat}{a:Ex}{e:MP}(ha:QT g m a e):QT g m (.kQ i a) e:=λv X F h=>((ha v X F h).kQ i).ref λb=>.refl _
theorem EC{a:Ex}{x:MP}{p:Oc}(ha:QT g m a x):QT g m (.vp a) (.UnaryOp .Not x p):=λv X F h=>(Dn (ha v X F h)).ref λb=>aa (.refl _) λ_=>.refl _
theorem HS{a:Ex}{e:MP}(q:n6 e=Mv)(ha:QE g m a e):QT g m (.BN a) e:=λv X F h=>(D3 (ha v X F h) λw=>rQ q X.env w).ref λb=>aa (.refl _) λd=>.get
theorem ED{o o':P0}{a b:Ex}{x y:MP}{p:Oc}(q:o'=o)(e:bw y=Mw)(ha:QE g m a x)(hb:QE g m b y):QT g m (.aG o a b) (.Compare x [o'] [y] p):=by
 subst q;exactλv X F h=>(C8 (jf h.un h.hP h.hw o') (ha v X F h) (hb v X F h) (lu e o')).ref λf=>by
  rw[M.bind_assoc];refine aa (.refl _) λ_=>?_;rw[M.bind_assoc];exact aa (.refl _) λ_=>aa (.refl _) λd=>dq d
theorem EE{e:MP}:QT g m .bad e:=λv X F h=>DT.stuck h.hK
theorem EF{e:MP}:QW g m .bad e:=λv X F h=>⟨h.hK,λw a s b H Q I⟨d,k,S,z⟩=>z.elim⟩
theorem HU:QC g m .yes []:=λv X F h=>(wO h.hK).ref λa=>.refl _
theorem HV{a:Ex}{e:MP}(ha:QT g m a e):QC g m (.c6 a) [e]:=λv X F h=>wQ (ha v X F h)
theorem KQ:QA g m .nil []:=λv X F h=>(Dp h.hK).ref λa=>.refl _
theorem KR{a r:Ex}{e:MP}{b:List MP}(q:az e=Mw)(ha:QE g m a e)(d:QA g m r b):QA g m (.cons a r) (e::b):=λv X F h=>(zD (ha v X F h) (d v X F h) (aP q)).ref λf=>aa (.refl _) λ_=>aa (.refl _) λ_=>.refl _
theorem KS{i:Nat}{r:Ex}{x:MR}{p:Oc}{a:List MP}(q:cq m i x=Mv)(b:QA g m r a):QA g m (.feed i r) (.Name x p::a):=λv X F h=>by
 obtain⟨j,f,e,d⟩:=h.vK q;exact(zE i (b v X F h) j f e d rfl).ref λk=>aq nj (aa (.refl _) λ_=>.refl _)
theorem HW{r:Ex}{x:MR}{t a:MP}{p k:Oc}(f:sEq x "range"=Mv)(e:cu m x=Mv)(b:az a=Mw)(l:QA g m r [a]):QI g m (.ef r) t (.Call (.Name x p) [a] [] k):=λv X F h=>by
 obtain rfl:=bo f;refine(u6 (h.bl _ (BO rfl)) (l v X F h) (h.gl e).1 (aP b)).ref λq=>aa (.refl _) λo=>aa (.of_eq (c8 o)) λn=>?_;match n with
 |[]=>exact .fail|[d]=>exact aa (bg d) λj=>aq (λz=>by simp only[MG,decide_eq_true_eq]at z;exact z) (.refl _)|_::_::_=>exact .fail
theorem HX{a:Ex}{t e:MP}(ha:QE g m a e):QI g m (.bD a) t e:=λv X F h=>(Aj (ha v X F h)).ref λb=>aa (.refl _) λd=>.get
theorem EG{t e:MP}:QI g m .bad t e:=λv X F h=>DI.stuck h.hK
end
noncomputable def LD{g:dP}{m:MC}{own:List MR}{js:List Nat}{tg:Tg}{it c a:Ex}{gs:List RM}{x:MP}{sc:Of}{p:Oc}(h:∀t i,Ch (QI g m it t i))(k:∀l,Ch (QC g (b_ m own (bx m js) sc) c l))(j:Ch (QE g (b_ m own (bx m js) sc) a x)):Ch (QU g m (.lc own js tg it c a) (.ListComp x gs sc p)):=match gs with
 |[⟨t,i,d,0⟩]=>(cb (ma m own js sc)).b λf=>(cn (bw i)).b λe=>(h t i).b λs=>(cG g (b_ m own (bx m js) sc) tg t).b λr=>(k d).b λq=>j.b λo=>.y (KO f e s r q o)|_=>.n
noncomputable def L_{g:dP}{m:MC}{own:List MR}{js:List Nat}{tg:Tg}{it c e d:Ex}{gs:List RM}{x y:MP}{sc:Of}{p:Oc}(o:∀t i,Ch (QI g m it t i))(q:∀l,Ch (QC g (b_ m own (bx m js) sc) c l))(k:Ch (QE g (b_ m own (bx m js) sc) e x))(j:Ch (QE g (b_ m own (bx m js) sc) d y)):Ch (QU g m (.dc own js tg it c e d) (.DictComp x y gs sc p)):=match gs with
 |[⟨t,i,a,0⟩]=>(cb (ma m own js sc)).b λh=>(cn (bw i)).b λf=>(o t i).b λw=>(cG g (b_ m own (bx m js) sc) tg t).b λv=>(q a).b λu=>k.b λs=>j.b λr=>.y (KP h f w v u s r)|_=>.n
noncomputable def Ch.ue{g:dP}{m:MC}{ex:Ex}{e:MP}(c:Ch (QU g m ex e)):Ch (QE g m ex e):=c.b λh=>.y λv X F z=>(h v X F z).de
mutual
noncomputable def cE(g:dP):(m:MC)->(ex:Ex)->(e:MP)->Ch (QE g m ex e)
 |m,.var i,e=>match e with
  |.Name x _=>(cb (cq m i x)).b λq=>.y (HA q)|_=>.n
 |m,.cst d,e=>match e with
  |.Constant c _ _=>(cK d c).b λh=>.y λv X F z=>(h X F z.hK _ _).ref λS=>.refl _|_=>.n
 |m,.op o a b,e=>match e with
  |.BinOp x D y _=>(cd (D=o)).b λq=>(cE g m a x).b λh=>(cE g m b y).b λj=>.y (KH q h j)|_=>.n
 |m,.neg a,e=>match e with
  |.UnaryOp .USub x _=>(cE g m a x).b λh=>.y (HB h)|_=>.n
 |m,.cmp o a b,e=>match e with
  |.Compare x [D] [y] _=>(cd (D=o)).b λq=>(cn (bw y)).b λk=>(cE g m a x).b λh=>(cE g m b y).b λj=>.y (HC q k h j)|_=>.n
 |m,.and a b,e=>match e with
  |.BoolOp .And (x::y::r) p=>(cE g m a x).b λh=>(cE g m b (.BoolOp .And (y::r) p)).b λj=>.y (HD h j)|_=>.n
 |m,.or a b,e=>match e with
  |.BoolOp .Or (x::y::r) p=>(cE g m a x).b λh=>(cE g m b (.BoolOp .Or (y::r) p)).b λj=>.y (KI h j)|_=>.n
 |m,.y9 c a b,e=>match e with
  |.IfExp z x y _=>(cT g m c z).b λh=>(cE g m a x).b λR=>(cE g m b y).b λj=>.y (HE h R j)|_=>.n
 |m,.xR r,e=>match e with
  |.Call (.Name f _) [.Call (.Name h _) [a,b] [] _] [] _=>(cb (sEq f "dict")).b λk=>(cb (sEq h "zip")).b λw=>(cb (cu m f)).b λB=>(cb (cu m h)).b λA=>(cn (az a)).b λG=>(cn (az b)).b λE=>(cA g m r [a,b]).b λh=>.y (Ew k w B A G E h)|_=>.n
 |m,.qf f i h r,e=>match e with
  |.Call (.Name x _) [.Name z _,.Call (.Name y _) (e::s) [] _] [] _=>(cb (isAt g.dn f x)).b λk=>(cb (isAt g.dn h y)).b λw=>(cb (cu m x)).b λB=>(cb (cu m y)).b λA=>(cb (cq m i z)).b λG=>(cn (az e)).b λE=>(cb (s.all λe=>!az e)).b λL=>(cA g m r (e::s)).b λQ=>.y (AS k w B A G E L Q)|_=>.n
 |m,.Hn a,e=>match e with
  |.Call (.Name f _) [x] [⟨Mq n,.Constant .none _ _,_⟩] _=>(cb (sEq f "min")).b λk=>(cb (sEq n "default")).b λw=>(cb (cu m f)).b λB=>(cn (az x)).b λA=>(cE g m a x).b λh=>.y (HF k w B A h)|_=>.n
 |m,.dc own C tg H c O K,e=>match e with
  |.DictComp x y gs sc p=>(L_ (tg:=tg) (gs:=gs) (p:=p) (λt i=>cI g m H t i) (λl=>cC g (b_ m own (bx m C) sc) c l) (cE g (b_ m own (bx m C) sc) O x) (cE g (b_ m own (bx m C) sc) K y)).ue|_=>.n
 |m,.one a,e=>match e with
  |.BoolOp _ [x] _=>(cE g m a x).b λh=>.y (HG h)|_=>.n
 |m,.not a,e=>match e with
  |.UnaryOp .Not x _=>(cE g m a x).b λh=>.y (HH h)|_=>.n
 |m,.tup r,e=>match e with
  |.Tuple s _ _=>(cA g m r s).b λh=>.y (HI h)|_=>.n
 |m,.lst r,e=>match e with
  |.List s _=>(cA g m r s).b λh=>.y (HJ h)|_=>.n
 |m,.idx a b,e=>match e with
  |.Subscript x y _=>(cn (iF y)).b λq=>(cE g m a x).b λh=>(cE g m b y).b λj=>.y (HK q h j)|_=>.n
 |m,.bi f r,e=>match e with
  |.Call (.Name x _) (a::s) [] _=>(cb (sEq x (gP f))).b λk=>(cb (cu m x)).b λw=>(cb (s.all λe=>!az e)).b λB=>(cn (az a)).b λA=>(cA g m r (a::s)).b λh=>.y (KJ k w B A h)|_=>.n
 |m,.call f r,e=>match e with
  |.Call (.Name x _) (a::s) [] _=>(cb (isAt g.dn f x)).b λk=>(cb (cu m x)).b λw=>(cb (s.all λe=>!az e)).b λB=>(cn (az a)).b λA=>(cA g m r (a::s)).b λh=>.y (Ey k w B A h)|_=>.n
 |m,.lc own C tg H c J,e=>match e with
  |.ListComp x gs sc p=>(LD (tg:=tg) (gs:=gs) (p:=p) (λt i=>cI g m H t i) (λl=>cC g (b_ m own (bx m C) sc) c l) (cE g (b_ m own (bx m C) sc) J x)).ue|_=>.n
 |m,.tW i,e=>match e with
  |.Name x _=>(cb (cu m x)).b λq=>(cb (isAt g.gn i x)).b λw=>.y (HN q w)|_=>.n
 |m,.Jn o D a b c,e=>match e with
  |.Compare x [p,N] [y,z] _=>(cd (p=o)).b λq=>(cd (N=D)).b λM=>(cn (bw z)).b λk=>(cE g m a x).b λh=>(cE g m b y).b λj=>(cE g m c z).b λI=>.y (HP q M k h j I)|_=>.n
 |m,.cut a lo P,e=>match e with
  |.Subscript x (.Slice l u Mu _) _=>(cE g m a x).b λh=>(cO g m lo l).b λj=>(cO g m P u).b λI=>.y (HQ h j I)|_=>.n
 |_,.bad,_=>.y HL|m,.kQ i a,e=>(cE g m a e).b λh=>.y (HM h)|_,_,_=>.n
noncomputable def cW(g:dP):(m:MC)->(ex:Ex)->(e:MP)->Ch (QW g m ex e)
 |m,.fG a b,e=>match e with
  |.BoolOp .And (x::y::r) p=>(cT g m a x).b λh=>(cW g m b (.BoolOp .And (y::r) p)).b λc=>.y (x8 h c)|_=>.n
 |m,.xQ a b,e=>match e with
  |.BoolOp .Or (x::y::r) p=>(cT g m a x).b λh=>(cW g m b (.BoolOp .Or (y::r) p)).b λc=>.y (BP h c)|_=>.n
 |m,.c6 a,e=>match e with
  |.BoolOp _ [x] _=>(cT g m a x).b λh=>.y (x9 h)|_=>.n
 |_,.bad,_=>.y EF|_,_,_=>.n
noncomputable def cT(g:dP):(m:MC)->(ex:Ex)->(e:MP)->Ch (QT g m ex e)
 |m,.fG a b,e=>match e with
  |.BoolOp .And (x::y::r) p=>(cT g m a x).b λh=>(cW g m b (.BoolOp .And (y::r) p)).b λd=>.y (EA (x8 h d))|_=>.n
 |m,.xQ a b,e=>match e with
  |.BoolOp .Or (x::y::r) p=>(cT g m a x).b λh=>(cW g m b (.BoolOp .Or (y::r) p)).b λd=>.y (EA (BP h d))|_=>.n
 |m,.c6 a,e=>match e with
  |.BoolOp _ [x] _=>(cT g m a x).b λh=>.y (EA (x9 h))|_=>.n
 |m,.vp a,e=>match e with
  |.UnaryOp .Not x _=>(cT g m a x).b λh=>.y (EC h)|_=>.n
 |m,.Hq a i,e=>match e with
  |.Compare x [.In] [.Name y _] _=>(cb (cq m i y)).b λq=>(cE g m a x).b λh=>.y (HR q h)|_=>.n
 |m,.kQ _ a,e=>(cT g m a e).b λh=>.y (EB h)|m,.BN a,e=>(cb (n6 e)).b λq=>(cE g m a e).b λh=>.y (HS q h)|m,.aG o a b,e=>match e with
  |.Compare x [j] [y] _=>(cd (j=o)).b λq=>(cn (bw y)).b λf=>(cE g m a x).b λh=>(cE g m b y).b λd=>.y (ED q f h d)|_=>.n
 |m,.AN o j a b c,e=>match e with
  |.Compare x [p,l] [y,z] _=>(cd (p=o)).b λq=>(cd (l=j)).b λk=>(cn (bw z)).b λf=>(cE g m a x).b λh=>(cE g m b y).b λd=>(cE g m c z).b λs=>.y (Ez q k f h d s)|_=>.n
 |_,.bad,_=>.y EE|_,_,_=>.n
noncomputable def cC(g:dP):(m:MC)->(ex:Ex)->(c:List MP)->Ch (QC g m ex c)
 |_,.yes,c=>match c with
  |[]=>.y HU|_=>.n
 |m,.c6 a,c=>match c with
  |[e]=>(cT g m a e).b λh=>.y (HV h)|_=>.n
 |_,_,_=>.n
noncomputable def cA(g:dP):(m:MC)->(ex:Ex)->(c:List MP)->Ch (QA g m ex c)
 |_,.nil,c=>match c with
  |[]=>.y KQ|_=>.n
 |m,.cons a r,c=>match c with
  |e::c=>(cn (az e)).b λq=>(cE g m a e).b λh=>(cA g m r c).b λd=>.y (KR q h d)|[]=>.n
 |m,.feed i r,c=>match c with
  |.Name x _::c=>(cb (cq m i x)).b λq=>(cA g m r c).b λh=>.y (KS q h)|_=>.n
 |_,_,_=>.n
noncomputable def cO(g:dP):(m:MC)->(ex:Ex)->(o:Option MP)->Ch (QO g m ex o)
 |_,.nil,o=>match o with
  |none=>.y KL|_=>.n
 |m,.one a,o=>match o with
  |some e=>(cE g m a e).b λh=>.y (KN h)|_=>.n
 |_,_,_=>.n
noncomputable def cI(g:dP):(m:MC)->(ex:Ex)->(t e:MP)->Ch (QI g m ex t e)
 |m,.ef r,_,e=>match e with
  |.Call (.Name x _) [a] [] _=>(cb (sEq x "range")).b λf=>(cb (cu m x)).b λd=>(cn (az a)).b λc=>(cA g m r [a]).b λh=>.y (HW f d c h)|_=>.n
 |m,.bD a,_,e=>(cE g m a e).b λh=>.y (HX h)|_,.bad,_,_=>.y EG|_,_,_,_=>.n
end
noncomputable def x_(sc:Of):ScopeKind:=if sc.kind.isAnnotationScope then .function else sc.kind
noncomputable def EH:MP->Option Of
 |.ListComp _ _ s _=>Mq s|.SetComp _ _ s _=>Mq s|.DictComp _ _ _ s _=>Mq s|_=>Mu
noncomputable def qk(m:MC)(x:MR)(a:Oc)(e:MP):Bool:=match EH e with
 |none=>Mw|some sc=>x_ m.sc==.function&&m.sc.names.lookup x==Mq .local&&a.line==e.pos.line&&!(sc.names.any λ(n,k)=>n==x&&(k==.local||k==.cell))
theorem swap_eq{m:MC}{env:SD}(h:env.scope=m.sc)(x:MR)(a:Oc)(l:Nat)(e:MP):Py e (Mq (.Name x a)) l env=pure (qk m x a e):=by
 unfold Py qk Env.blockKind UI x_;rw[h];cases e<;>rfl
theorem ql{a:List MP}{k:Nat}{p:Oc}{env:SD}(l:Nat)(e:MP):RJ [.Tuple a k p] e l env=pure Mw:=by
 show Py e (Mq (.Tuple a k p)) l env=pure Mw;unfold Py;cases e<;>rfl
noncomputable def uR(sc:Of):SD:={scope:=sc,locals:=0,globals:=0,cells:=[]}
theorem qm{env c:SD}(h:env.scope=c.scope)(a:List MP)(b:MP):Ox a b env=Ox a b c:=by
 unfold Ox Env.blockKind UI;rw[h]
noncomputable def cN:(t:Rw (Option (List MR)))->Ch (t=pure Mu)
 |.pure Mu=>.y rfl|_=>.n
noncomputable def Ma(x y:MR):(t:Rw (Option (List MR)))->Ch (t=pure (Mq [x,y]))
 |.pure (Mq [a,b])=>(cb (sEq a x)).b λd=>(cb (sEq b y)).b λc=>.y (by rw[bo d,bo c];rfl)|_=>.n
noncomputable def LF(x:MR)(k:OU)(l:List (MR×OU)):Ch (qN x l=Mq k):=match qN x l with
 |some j=>(cd (j=k)).b λq=>.y (by rw[q])|none=>.n
section
variable{g:dP}{v:Ev}{m:MC}{X:Cx}{F:Fx}
theorem n9{b:D->ag->T ag}{body:ag->T Fl}:∀(ds:List D)(ρ:ag),Ref (c7 b body ds ρ).aM (u5 (λd ρ=>(b d ρ).aM) (λρ=>(body ρ).aM) ds ρ)
 |[],ρ=>.refl _|d::ds,ρ=>aa (.refl _) λc=>aa (.refl _) λe=>by cases e with
  |nx a=>exact n9 ds a|ct a=>exact n9 ds a|bk a=>exact .refl _|rt r=>exact .refl _|ro r=>exact .fail
theorem jh{c:ag->T Bool}{body:ag->T Fl}:∀(n:Nat)(ρ:ag),Ref (nX c body n ρ).aM (eP (λρ=>(c ρ).aM) (λρ=>(body ρ).aM) n ρ)
 |0,ρ=>.refl _|n+1,ρ=>aa (.refl _) λb=>by cases b with
  |true=>
   refine aa (.refl _) λd=>?_;cases d with
   |nx a=>exact jh n a|ct a=>exact jh n a|bk a=>exact .refl _|rt r=>exact .refl _|ro r=>exact .fail
  |false=>exact .refl _
theorem el(d:D):Ref (cH d).aM (kT d):=by cases d<;>first|exact .refl _|exact .fail
theorem vw(d:D):Ref (nh d).aM (tE d):=by cases d<;>first|exact .refl _|exact .fail
end
noncomputable abbrev QS(g:dP)(m:MC)(s:aT)(st:Ou):Prop:=∀v X F,RT (ML X.prog X.w) X.A X.env X.xe->XC g v m X F->DS X F st (λa=>(aw v s a).aM)
noncomputable abbrev y_(g:dP)(m:MC)(s:aT)(a:List Ou):Prop:=∀v X F,RT (ML X.prog X.w) X.A X.env X.xe->XC g v m X F->vG X F a (λb=>(aw v s b).aM)
section
variable{g:dP}{m:MC}
theorem XC.vt{v:Ev}{X:Cx}{F:Fx}(h:XC g v m X F):X.N.Nodup:=by rw[h.hN];exact h.nd
theorem HY{tg:Tg}{e:Ex}{a:List MP}{k:Nat}{p b:Oc}{x:MP}(c:QG g m tg (.Tuple a k b))(f:QE g m e x)(q:Ox [.Tuple a k b] x (uR m.sc)=pure Mu):QS g m (.asg tg e) (.Assign [.Tuple a k b] x p):=λv X F _ h=>(DB (f v X F h) (c v X F h) (ql _ _) ((qm (by rw[h.sc];rfl) _ _).trans q) rfl).ref λi=>aa (.refl _) λd=>aa (.refl _) λ_=>.refl _
theorem EI{i:Nat}{e:Ex}{n:MR}{p b:Oc}{x:MP}(c:eT m i n=Mv)(j:QU g m e x)(f:qk m n b x=Mv):QS g m (.set i e) (.Assign [.Name n b] x p):=λv X F _ h=>by
 obtain⟨o,l,k⟩:=h.loc c;have a:=swap_eq (m:=m) h.sc n b p.line x;rw[f]at a;exact(Af i h.vt (j v X F h) o l a k).ref λq=>aa (.refl _) λd=>.refl _
theorem HZ{i:Nat}{e:Ex}{n:MR}{p b:Oc}{x:MP}(c:eT m i n=Mv)(j:QE g m e x)(f:qk m n b x=Mw):QS g m (.set i e) (.Assign [.Name n b] x p):=λv X F _ h=>by
 obtain⟨o,l,k⟩:=h.loc c;have a:=swap_eq (m:=m) h.sc n b p.line x;rw[f]at a;exact(DC i h.vt (j v X F h) o l a k).ref λq=>aa (.refl _) λd=>.refl _
theorem H9{e:Ex}{x:MP}{p:Oc}(a:QE g m e x):QS g m (.ret e) (.Return (Mq x) p):=λv X F _ h=>(DF (a v X F h)).ref λb=>aa (.refl _) λd=>.refl _
theorem H_{c:Ex}{a b:aT}{x:MP}{xs ys:List Ou}{p:Oc}(e:QT g m c x)(ha:y_ g m a xs)(hb:y_ g m b ys):QS g m (.iff c a b) (.If x xs ys p):=λv X F d h=>(GJ (e v X F h) (ha v X F d h) (hb v X F d h)).ref λf=>aa (.refl _) λz=>by cases z<;>exact .refl _
theorem Ia{tg:Tg}{it:Ex}{b:aT}{t i:MP}{xs:List Ou}{p:Oc}(d:bw i=Mw)(e:QI g m it t i)(f:QG g m tg t)(hb:y_ g m b xs):QS g m (.dz tg it b) (.For t i xs [] p):=λv X F a h=>(DH a h.calm (e v X F h) (f v X F h) (hb v X F a h) (gf d _)).ref λc=>aa (.refl _) λj=>n9 j c
theorem Ib{c:Ex}{b:aT}{x:MP}{xs:List Ou}{p:Oc}(e:QT g m c x)(hb:y_ g m b xs):QS g m (.Ky c b) (.While x xs [] p):=λv X F a h=>(wL a (e v X F h) (hb v X F a h)).ref λd k Q E z=>⟨jd,jh jd d k Q E z⟩
theorem Ic{i j:Nat}{r:Ex}{x y:MR}{a b:MP}{l k pt c p:Oc}{n o:Nat}(w:isAt m.N i x=Mv)(u:isAt m.N j y=Mv)(t:qN x m.sc.names=Mq .local)(s:qN y m.sc.names=Mq .local)(f:i≠j)(z:QA g m r [a,b])(q:Ox [.Tuple [.Name x l,.Name y k] n pt] (.Tuple [a,b] o c) (uR m.sc)=pure (Mq [x,y])):QS g m (.par i j r) (.Assign [.Tuple [.Name x l,.Name y k] n pt] (.Tuple [a,b] o c) p):=λv X F _ h=>(DD i j h.calm h.vt (z v X F h) f (λpa=>Cu h.calm h.vt (h.at_ w) (h.at_ u) f (by rw[<-h.lk];exact t) (by rw[<-h.lk];exact s) pa ((qm (by rw[h.sc];rfl) _ _).trans q) (ql _ _))).ref λC=>aa (.refl _) λB=>aa (.of_eq (c8 B)) λA=>by match A with
  |[]=>exact .fail|[_]=>exact .fail|[d,e]=>exact .refl _|_::_::_::_=>exact .fail
theorem Ie{st:Ou}:QS g m .bad st:=λv X F _ h=>(DS.stuck h.hK).ref λa=>.fail
theorem EJ{i:Nat}{r:Ex}{n:MR}{a:List MP}{p b c:Oc}(q:eT m i n=Mv)(d:QA g m r a):QS g m (.jc i r) (.Assign [.Name n b] (.List a c) p):=λv X F _ h=>by
 obtain⟨j,f,e⟩:=h.loc q;exact(Ag i h.vt (d v X F h) j f e).ref λl=>aq (λz=>z)<|aa (.refl _) λk=>aa (.of_eq (c8 k)) λo=>aq of_decide_eq_true (.refl _)
theorem EK{i:Nat}{n:MR}{p a b:Oc}(q:eT m i n=Mv):QS g m (.gr i) (.Assign [.Name n a] (.Dict [] [] b) p):=λv X F _ h=>by
 obtain⟨e,d,c⟩:=h.loc q;exact(Ah i h.vt h.hK e d c).ref λf=>aq (λz=>z) (.refl _)
theorem Ig{i:Nat}{e:Ex}{x f:MR}{a:MP}{np c b p:Oc}(n:sEq f "append"=Mv)(l:cq m i x=Mv)(k:(c.endLine==b.line)=Mv)(j:az a=Mw)(o:QE g m e a):QS g m (.app i e) (.Expr (.Call (.Attribute (.Name x np) f c) [a] [] b) p):=λv X F _ h=>by
 obtain rfl:=bo n;obtain⟨t,s,r,q⟩:=h.vK l;exact(DY i t s r q (o v X F h) k (aP j)).ref λu=>aE λd=>aa (el d) λw=>aa (.refl _) λy=>aq of_decide_eq_true (.refl _)
theorem Ih{i:Nat}{k e:Ex}{x:MR}{b a:MP}{np sp p:Oc}(c:cq m i x=Mv)(f:QE g m k b)(j:QE g m e a):QS g m (.put i k e) (.Assign [.Subscript (.Name x np) b sp] a p):=λv X F _ h=>by
 obtain⟨r,q,n,l⟩:=h.vK c;have hu:X.A.units+2<NB:=by have:=h.un;omega
 exact(DZ i hu h.hP h.hw r q n l (f v X F h) (j v X F h) (by unfold Py;cases a<;>rfl)).ref λs=>aa (.refl _) λd=>aE λo=>aa (vw o) λu=>aa (.refl _) λt=>aq (λz=>by
  rw[MG]at z;exact⟨of_decide_eq_true z.1,bI z.2⟩) (.refl _)
theorem Ii{i:Nat}{e:Ex}{x f:MR}{a:MP}{np c b p:Oc}(n:sEq f "extend"=Mv)(l:cq m i x=Mv)(k:(c.endLine==b.line)=Mv)(j:az a=Mw)(o:QE g m e a):QS g m (.ext i e) (.Expr (.Call (.Attribute (.Name x np) f c) [a] [] b) p):=λv X F _ h=>by
 obtain rfl:=bo n;obtain⟨t,s,r,q⟩:=h.vK l;exact(D1 i t s r q (o v X F h) k (aP j)).ref λw=>aE λd=>aa (el d) λz=>aa (.refl _) λu=>aa (el u) λy=>aq of_decide_eq_true (.refl _)
theorem EL{i:Nat}{r:Ex}{n f b:MR}{a:MP}{p x w u t s:Oc}(o:sEq f "list"=Mv)(l:sEq b "range"=Mv)(k:cu m f=Mv)(e:cu m b=Mv)(c:az a=Mw)(q:eT m i n=Mv)(y:QA g m r [a]):QS g m (.xS i r) (.Assign [.Name n x] (.Call (.Name f w) [.Call (.Name b u) [a] [] t] [] s) p):=λv X F _ h=>by
 obtain rfl:=bo o;obtain rfl:=bo l;obtain⟨C,B,A⟩:=h.loc q;refine(AD i h.calm h.vt (y v X F h) (h.gl k).1 (h.bl _ (BO rfl)) (h.gl e).1 (h.bl _ (BO rfl)) (aP c) C B A).ref λG=>aq (λz=>z) (aa (.refl _) λE=>aa (.of_eq (c8 E)) λD=>?_);match D with
 |[]=>exact .fail|[d]=>exact aa (bg d) λj=>aq (λz=>by simp only[MG,decide_eq_true_eq]at z;exact z) (.refl _)|_::_::_=>exact .fail
theorem ya{ρ:ag}{i:Nat}(h:xW i ρ=Mv)(j:Nat)(w:W)(e:ρ[j]?=Mq (Mq w))(o:w.fw=Mv):j=i:=by
 by_cases a:i=j;.exact a.symm
 .have:=List.all_eq_true.mp h (Mq w) (Nz (i:=j) (by rw[OA a];exact e));simp only[o]at this;cases this
theorem EM{i:Nat}{n:MR}{p a b:Oc}(q:eT m i n=Mv):QS g m (.xT i) (.Assign [.Name n a] (.Dict [] [] b) p):=λv X F _ h=>by
 obtain⟨e,d,c⟩:=h.loc q;exact(Ay i h.vt h.hK e d c).ref λf=>aq (λz j w=>ya z j w) (.refl _)
theorem EN{i:Nat}{k:Ex}{x:MR}{a:MP}{np sp b p:Oc}(q:cq m i x=Mv)(c:QE g m k a):QS g m (.putN i k) (.Assign [.Subscript (.Name x np) a sp] (.List [] b) p):=λv X F _ h=>by
 obtain⟨j,f,e,d⟩:=h.vK q;have hu:=h.un;exact(Az i (by omega) h.hP h.hw j f e d (c v X F h)).ref λl=>aE λn=>aa (.refl _) λq=>aq (λz=>by
  simp only[MG,decide_eq_true_eq,NA]at z;exact⟨z.1,bI z.2.1,z.2.2⟩) (.refl _)
theorem EO{i:Nat}{k e:Ex}{x f:MR}{b a:MP}{np sp j c p:Oc}(s:sEq f "append"=Mv)(r:cq m i x=Mv)(o:(j.endLine==c.line)=Mv)(n:az a=Mw)(l:iF b=Mw)(t:QE g m k b)(u:QE g m e a):QS g m (.jJ i k e) (.Expr (.Call (.Attribute (.Subscript (.Name x np) b sp) f j) [a] [] c) p):=λv X F _ h=>by
 obtain rfl:=bo s;obtain⟨A,z,y,w⟩:=h.vK r;have hu:=h.un;exact(AA i (by omega) h.hP h.hw A z y w (t v X F h) (lz l) (u v X F h) o (aP n) (jP rfl)).ref λB=>aE λD=>aa (.refl _) λq=>aq bI (aE λd=>aa (el d) λC=>aa (.refl _) λE=>aq of_decide_eq_true (.refl _))
theorem ER{i:Nat}{x:MR}{np p:Oc}(q:cq m i x=Mv):QS g m (.xU i) (.Return (Mq (.Name x np)) p):=λv X F _ h=>by
 obtain⟨d,c,b,a⟩:=h.vK q;exact(AE i h.hK d c b a).ref λe=>aE λf=>.refl _
theorem ES{i j:Nat}{js:List Nat}{k x f:MR}{it e:Ex}{iter o:MP}{sc:Of}{np u t kp p G:Oc}(l:ma m [k] js sc=Mv)(E:bw iter=Mw)(D:sEq f "pop"=Mv)(B:eT (b_ m [k] (bx m js) sc) 0 k=Mv)(n:cq (b_ m [k] (bx m js) sc) (1+j) x=Mv)(A:(u.endLine==t.line)=Mv)(z:az o=Mw)(y:js[j]?=Mq i)(K:QI g m it (.Name k kp) iter)(L:QE g (b_ m [k] (bx m js) sc) e o):QS g m (.xV i j js k it e) (.Return (Mq (.ListComp (.Call (.Attribute (.Name x np) f u) [o] [] t) [⟨.Name k kp,iter,[],0⟩] sc G)) p):=λv X F _ h=>by
 obtain rfl:=bo D;obtain⟨b1,Q,P,O⟩:=rR h l;have q:∀a c C b s H,(dB X a sc ([k]++bx m js) c C b s H).N[1+j]?=Mq x/\oI (dB X a sc ([k]++bx m js) c C b s H).env.scope x/\(x==("__debug__":MR))=Mw/\(x==("__classdict__":MR))=Mw:=λa c C b s H=>(h.dB l a c C b s H).vK n;have pn:=je (x:=x) (by simp only[cq,MG]at n;exact n.1.2);refine(AF i j (bx m js) js h.calm b1 Q P O y (K v X F h) (λa c C b s H=>?_) (λa c C b s H=>⟨(q a c C b s H).1,(q a c C b s H).2.1⟩) pn.1 pn.2.1 (λa c C b s H=>L _ _ _ (h.dB l a c C b s H)) A (λenv=>aP z) (gf E _)).ref λw=>aE λd=>aa (el d) λI=>aa (.refl _) λM=>aa (tY w i js M I) λr=>.refl _;have hb:=h.dB l a c C b s H;obtain⟨l1,l2,J⟩:=hb.loc B;exact nE (i:=0) (by rw[hb.hN];exact hb.nd) l1 l2 J
theorem KU{i:Nat}{s:aT}{st:Ou}(a:QS g m s st):QS g m (.fz i s) st:=λv X F b h=>((a v X F b h).fz i).ref λc=>.refl _
theorem Mb:y_ g m .nil []:=λv X F _ h=>(zM h.hK).ref λa=>.refl _
theorem Mc{s r:aT}{x:Ou}{xs:List Ou}(b:QS g m s x)(c:y_ g m r xs):y_ g m (.cons s r) (x::xs):=λv X F a h=>(wK (b v X F a h) (c v X F a h)).ref λe=>aa (.refl _) λd=>by cases d<;>exact .refl _
end
noncomputable def cU(g:dP)(m:MC):(ex:Ex)->(e:MP)->Ch (QU g m ex e)
 |.lc own d l i c a,e=>match e with
  |.ListComp x r sc p=>LD (cI g m i) (cC g (b_ m own (bx m d) sc) c) (cE g (b_ m own (bx m d) sc) a x)|_=>.n
 |.bad,_=>.y λv X F h=>⟨h.hK,λb s j H I=>⟨λQ⟨f,k,S,z⟩=>z.elim,λx q o gt D _ _⟨f,k,S,z⟩=>z.elim⟩⟩|_,_=>.n
noncomputable def KW(g:dP)(m:MC)(i:Nat)(e:Ex)(n:MR)(c p:Oc)(x:MP):Ch (QS g m (.set i e) (.Assign [.Name n c] x p)):=(cb (eT m i n)).b λq=>match h:qk m n c x with
  |true=>(cU g m e x).b λa=>.y (EI q a h)|false=>(cE g m e x).b λa=>.y (HZ q a h)
mutual
noncomputable def cS(g:dP)(m:MC):(s:aT)->(st:Ou)->Ch (QS g m s st)
 |.asg H e,st=>match st with
  |.Assign [.Tuple K k G] x _=>(cG g m H (.Tuple K k G)).b λh=>(cE g m e x).b λu=>(cN (Ox [.Tuple K k G] x (uR m.sc))).b λq=>.y (HY h u q)|_=>.n
 |.set i e,st=>match st with
  |.Assign [.Name n G] x p=>KW g m i e n G p x|_=>.n
 |.ret e,st=>match st with
  |.Return (Mq x) _=>(cE g m e x).b λh=>.y (H9 h)|_=>.n
 |.iff c a b,st=>match st with
  |.If x C P _=>(cT g m c x).b λh=>(ET g m a C).b λF=>(ET g m b P).b λu=>.y (H_ h F u)|_=>.n
 |.dz H J b,st=>match st with
  |.For t i C [] _=>(cn (bw i)).b λq=>(cI g m J t i).b λh=>(cG g m H t).b λF=>(ET g m b C).b λu=>.y (Ia q h F u)|_=>.n
 |.Ky c b,st=>match st with
  |.While x C [] _=>(cT g m c x).b λh=>(ET g m b C).b λF=>.y (Ib h F)|_=>.n
 |.par i j r,st=>match st with
  |.Assign [.Tuple [.Name x W,.Name y V] X pt] (.Tuple [a,b] Y I) _=>(cb (isAt m.N i x)).b λD=>(cb (isAt m.N j y)).b λo=>(LF x .local m.sc.names).b λl=>(LF y .local m.sc.names).b λd=>(cd (i≠j)).b λv=>(cA g m r [a,b]).b λh=>(Ma x y (Ox [.Tuple [.Name x W,.Name y V] X pt] (.Tuple [a,b] Y I) (uR m.sc))).b λq=>.y (Ic D o l d v h q)|_=>.n
 |.bad,_=>.y Ie|.jc i r,st=>match st with
  |.Assign [.Name n _] (.List Z _) _=>(cb (eT m i n)).b λq=>(cA g m r Z).b λh=>.y (EJ q h)|_=>.n
 |.gr i,st=>match st with
  |.Assign [.Name n _] (.Dict [] [] _) _=>(cb (eT m i n)).b λq=>.y (EK q)|_=>.n
 |.app i e,st=>match st with
  |.Expr (.Call (.Attribute (.Name x _) f A) [a] [] z) _=>(cb (sEq f "append")).b λq=>(cb (cq m i x)).b λo=>(cb (A.endLine==z.line)).b λl=>(cn (az a)).b λd=>(cE g m e a).b λh=>.y (Ig q o l d h)|_=>.n
 |.put i k e,st=>match st with
  |.Assign [.Subscript (.Name x _) B _] Q _=>(cb (cq m i x)).b λq=>(cE g m k B).b λh=>(cE g m e Q).b λu=>.y (Ih q h u)|_=>.n
 |.fz _ s,st=>(cS g m s st).b λh=>.y (KU h)|.ext i e,st=>match st with
  |.Expr (.Call (.Attribute (.Name x _) f A) [a] [] z) _=>(cb (sEq f "extend")).b λq=>(cb (cq m i x)).b λo=>(cb (A.endLine==z.line)).b λl=>(cn (az a)).b λd=>(cE g m e a).b λh=>.y (Ii q o l d h)|_=>.n
 |.xS i r,st=>match st with
  |.Assign [.Name n _] (.Call (.Name f _) [.Call (.Name M _) [a] [] _] [] _) _=>(cb (sEq f "list")).b λD=>(cb (sEq M "range")).b λo=>(cb (cu m f)).b λl=>(cb (cu m M)).b λd=>(cn (az a)).b λv=>(cb (eT m i n)).b λq=>(cA g m r [a]).b λh=>.y (EL D o l d v q h)|_=>.n
 |.xT i,st=>match st with
  |.Assign [.Name n _] (.Dict [] [] _) _=>(cb (eT m i n)).b λq=>.y (EM q)|_=>.n
 |.putN i k,st=>match st with
  |.Assign [.Subscript (.Name x _) B _] (.List [] _) _=>(cb (cq m i x)).b λq=>(cE g m k B).b λh=>.y (EN q h)|_=>.n
 |.jJ i k e,st=>match st with
  |.Expr (.Call (.Attribute (.Subscript (.Name x _) B _) f A) [a] [] z) _=>(cb (sEq f "append")).b λq=>(cb (cq m i x)).b λo=>(cb (A.endLine==z.line)).b λl=>(cn (az a)).b λd=>(cn (iF B)).b λv=>(cE g m k B).b λh=>(cE g m e a).b λu=>.y (EO q o l d v h u)|_=>.n
 |.xU i,st=>match st with
  |.Return (Mq (.Name x _)) _=>(cb (cq m i x)).b λq=>.y (ER q)|_=>.n
 |.xV i L E k J e,st=>match st with
  |.Return (Mq (.ListComp (.Call (.Attribute (.Name x _) f A) [O] [] z) [⟨.Name w kp,iter,[],0⟩] sc _)) _=>(cb (sEq w k)).b λU=>(cb (ma m [w] E sc)).b λD=>(cn (bw iter)).b λo=>(cb (sEq f "pop")).b λl=>(cb (eT (b_ m [w] (bx m E) sc) 0 w)).b λd=>(cb (cq (b_ m [w] (bx m E) sc) (1+L) x)).b λv=>(cb (A.endLine==z.line)).b λT=>(cn (az O)).b λS=>(cd (E[L]?=Mq i)).b λR=>(cI g m J (.Name w kp) iter).b λh=>(cE g (b_ m [w] (bx m E) sc) e O).b λu=>.y (by rw[<-bo U];exact ES D o l d v T S R h u)|_=>.n
 |_,_=>.n
noncomputable def ET(g:dP)(m:MC):(s:aT)->(a:List Ou)->Ch (y_ g m s a)
 |.nil,c=>match c with
  |[]=>.y Mb|_=>.n
 |.cons s r,c=>match c with
  |x::d=>(cS g m s x).b λh=>(ET g m r d).b λe=>.y (Mc h e)|[]=>.n
 |_,_=>.n
end
structure EU(P:MQ)(K:MF)(mg:MR->Option Mt)(g:dP)(x:MR)(d:Df):Prop where ex:∃(y qual:MR)(st:Ou)(f:MB)(fd:NX)(N ps:List MR),wg K y qual st f fd/\cw N ps (ar st)/\Binds K fd ps []/\mg x=Mq (.ref f)/\ps.length=d.np/\N.length=d.nn/\y_ g ⟨N,ar st,Mv,[]⟩ d.body (bY st)
structure FO(P:MQ)(w:M6)(K:MF)(mg:MR->Option Mt)(base:M7)(x:MR)(np:Nat)(t:List A->T Rs):Prop where
 ok:nL P w K mg base x np 1 (λas=>(t as).aM)len:∀as,as.length≠np->t as=.stuck
inductive Dk where|df(d:Df)|wit(t:List A->T Rs)
structure Gv where tW:Nat->Option D
noncomputable def Gv.ev(b:Gv)(call:Nat->List A->T Rs):Ev:=⟨call,b.tW⟩
noncomputable def aI(defs:List Dk)(b:Gv):Nat->Nat->List A->T Rs
 |0,_,_=>.stuck|n+1,f,a=>match defs[f]? with
  |none=>.stuck|some (.wit t)=>t a|some (.df d)=>if a.length=d.np then do FK (<-aw (b.ev (aI defs b n)) d.body (bO d.nn a))else .stuck
noncomputable def aL(defs:List Dk)(b:Gv)(n f:Nat)(as:List A):T D:=aI defs b n f as>>=toD
noncomputable def tZ(defs:List Dk)(b:Gv)(n f:Nat)(as:List A):T D:=aI defs b n f as>>=Hu
structure jA(P:MQ)(w:M6)(K:MF)(mg:MR->Option Mt)(base:M7)(g:dP)(defs:List Dk)(b:Gv):Prop where
 bl:∀x∈eU,mg x=Mu
 df:∀(f:Nat)(x:MR),g.dn[f]?=Mq x->(∃d,defs[f]?=Mq (Dk.df d)/\EU P K mg g x d)\/(∃t np,defs[f]?=Mq (Dk.wit t)/\FO P w K mg base x np t)co:∀(i:Nat)(x:MR)(d:D),g.gn[i]?=Mq x->b.tW i=Mq d->∃u v,mg x=Mq u/\RelV v u/\∀(p:MB)(H:Hp),H p≠Mu->K.lookup p=Mu->Is ⟨K,p,P,w⟩ H v d
section
variable{P:MQ}{w:M6}{K:MF}{mg:MR->Option Mt}{base:M7}{g:dP}{defs:List Dk}{b:Gv}
theorem mark_none{A:Nf}(h:A.handled=Mu):A.mark Mu=A:=by
 cases A;simp only[Around.mark]at*;simp_all
theorem jA.all(h:jA P w K mg base g defs b):∀(n f:Nat)(x:MR),g.dn[f]?=Mq x->∃np,nL P w K mg base x np n (λas=>(aI defs b n f as).aM)/\∀as,as.length≠np->aI defs b n f as=.stuck
 |0,f,x,C=>by
  rcases h.df f x C with⟨d,hd,⟨y,a,st,l,fd,N,ps,F,S,B,G,D,Z,Y⟩⟩|⟨t,np,hd,W⟩
  .refine⟨ps.length,⟨ps,rfl,l,fd,⟨λL H Q E z=>?_,λA outer s H J q L Q E c e0 hb r z=>?_⟩,G,F.kp,B⟩,λ_ _=>rfl⟩;.obtain⟨p,k,as,H0,q,bs,_,_,_,_,_,z⟩:=z;exact z.elim
   .obtain⟨p,k,as,H0,q,bs,_,_,_,_,_,z⟩:=z;exact z.elim
  .obtain⟨ps,j,l,fd,FN,G,hk,hb⟩:=W.ok;refine⟨ps.length,⟨ps,rfl,l,fd,⟨λL H Q E z=>?_,λA outer s H J q L Q E c e0 hb r z=>?_⟩,G,hk,hb⟩,λ_ _=>rfl⟩;.obtain⟨p,k,as,H0,q,bs,_,_,_,_,_,z⟩:=z;exact z.elim
   .obtain⟨p,k,as,H0,q,bs,_,_,_,_,_,z⟩:=z;exact z.elim|n+1,f,x,C=>by
  rcases h.df f x C with⟨d,hd,⟨y,a,st,l,fd,N,ps,F,S,B,G,D,Z,Y⟩⟩|⟨t,np,hd,W⟩
  .have I:∀as,aI defs b (n+1) f as=if as.length=d.np then do FK (<-aw (b.ev (aI defs b n)) d.body (bO d.nn as))else .stuck:=λas=>by
    show(match defs[f]? with
     |none=>T.stuck|some (.wit t)=>t as|some (.df d)=>if as.length=d.np then do FK (<-aw (b.ev (aI defs b n)) d.body (bO d.nn as))else .stuck)=_;rw[hd]
   refine⟨d.np,⟨ps,D,l,fd,?_,G,F.kp,B⟩,λas j=>by rw[I,if_neg j]⟩;refine F.GG (k:=n) S D λV A' outer s H H0 p k0 c=>?_;have xc:XC g (b.ev (aI defs b n)) ⟨N,ar st,Mv,[]⟩ (lW qL P w K mg base N a (ar st) l V A' outer s H E0).FA ⟨⟨K,p,P,w⟩,H0,k0,λ_ _=>False,H0,k0⟩:=⟨rfl,rfl,rfl,rfl,S.nd,rfl,rfl,c.units,λ_ _=>rfl,(λ_ z=>nomatch z),mark_none c.hd,h.bl,λf' x' O=>by
     obtain⟨np,U,R⟩:=jA.all h n f' x' O;exact⟨np,n,c,U,R⟩,c.gd,λi x d C hd=>let⟨u,v,U,R,h3⟩:=h.co i x d C hd;⟨u,v,U,R,λH hH D=>h3 p H hH D⟩⟩;refine⟨_,Y _ _ _ PassesOwn.never xc,λas Q j z=>?_⟩;rw[I,if_pos j,T.cF]at z;have e:eO N as=bO d.nn as:=by unfold eO bO;rw[Z]
   rw[e];refine M.wk (m:=(aw (b.ev (aI defs b n)) d.body (bO d.nn as)).aM) z λfl k' o=>?_;cases fl with
   |rt d=>exact o|ro d=>exact o|nx X=>exact o|bk X=>exact o|ct X=>exact o
  .have I:∀as,aI defs b (n+1) f as=t as:=λas=>by
    show(match defs[f]? with
     |none=>T.stuck|some (.wit t)=>t as|some (.df d)=>if as.length=d.np then do FK (<-aw (b.ev (aI defs b n)) d.body (bO d.nn as))else .stuck)=_;rw[hd]
   refine⟨np,?_,λas j=>by rw[I];exact W.len as j⟩;have:(λas=>(aI defs b (n+1) f as).aM)=λas=>(t as).aM:=by funext as;rw[I]
   rw[this];exact W.ok.mono (by omega)
end
end L2
end
section
namespace K41d
open PySem L2
noncomputable def EV(i:Nat):Ou:=PySem.Challenge.pw_wallplan_k41_openings_that_stand.main.body.getD i (.Pass ⟨0,0,0,0⟩)
noncomputable abbrev qo:Ou:=EV 12
noncomputable abbrev yb:Ou:=EV 11
noncomputable abbrev qp:Ou:=EV 26
noncomputable def FP(p:MB)(H H':Hp):Prop:=∀b,b≠p->H' b=H b
theorem FP.upd{p:MB}{H:Hp}{o:HO}:FP p H (upd H p o):=λ_ h=>ah h
noncomputable def EW:Sp:=λb H Q _=>∃(p q:MB)(n:Int)(k:Nat),b=[.ref p,.int n]/\kr H p q k/\k<1000000/\0<n/\n<1073741824/\∀(z:Int)(a:Hp),0<=z->z<n->kr a p q (k+1)->FP p H a->Q (.int z) a
section
variable{P:MQ}{w:M6}{K:MF}{mg:MR->Option Mt}{base:M7}
theorem EX:cw ["_law_script"] ["_law_script"] (ar yb):=⟨rfl,rfl,rfl,by decide+kernel,rfl,by decide+kernel,by decide+kernel⟩
theorem gQ:cw ["_law_feed_here","_law_many","_law_got","_law_at","_law_cell","_law_number"] ["_law_feed_here","_law_many"] (ar qo):=⟨rfl,rfl,rfl,by decide+kernel,rfl,by decide+kernel,by decide+kernel⟩
theorem Jp{a b c:V}:fu [a,b,c] 0=Mq a:=cy (j:=0) rfl
theorem Md{a b c:V}:fu [a,b,c] 1=Mq b:=cy (j:=1) rfl
theorem at2{a b c:V}:fu [a,b,c] 2=Mq c:=cy (j:=2) rfl
theorem bZ.EY{H:Hp}{p q:MB}{ns:List Int}{i r:Int}(F:bZ H p q ns i r){i' a:Int}(d:0<=i')(b:0<=a):bZ (upd H p (.lst [.ref q,.int i',.int a])) p q ns i' a:=let⟨o,c⟩:=F.cs;⟨aj,⟨o,by rw[ah F.ne];exact c⟩,F.ne,d,b,F.ln⟩
theorem bZ.sq{K:MF}{H:Hp}{p q:MB}{ns:List Int}{i r:Int}(F:bZ H p q ns i r):dI K H q (ns.map V.int):=.inl (.inr F.cs)
theorem AV{ns:List Int}{i:Int}(a:(0:Int)<((ns.map V.int).length:Int)):∃c,fu (ns.map V.int) (i%((ns.map V.int).length:Int))=Mq (.int c):=by
 have f:=Pr i a;have d:=Qb i (show((ns.map V.int).length:Int)≠0 by omega);have e:((i%((ns.map V.int).length:Int)).toNat:Int)=i%((ns.map V.int).length:Int):=by omega
 have b:(ns.map V.int).length=ns.length:=M0 ..;have hlt:(i%((ns.map V.int).length:Int)).toNat<ns.length:=by omega
 rw[<-e];refine⟨ns[(i%((ns.map V.int).length:Int)).toNat]'hlt,cy ?_⟩;rw[M9,MY hlt];rfl
theorem AW{f:MB}{fd:NX}(F:wg K "_law_draw" "_law_draw" qo f fd)(e:mg "len"=Mu):dZ P w K mg base qL 1 f fd ["_law_feed_here","_law_many"] EW:=by
 refine F.ok gQ (λC H Q E h=>?_) (λM A outer s H C Q E D h=>?_)
 .obtain⟨p,q,n,k,rfl,_⟩:=h;rfl
 .obtain⟨p,q,n,k,rfl,⟨ns,i,r,G,I⟩,N,d,m,u⟩:=h;have hu:=Gn D;refine⟨_,bh (sG (fZ vU (fv cz (pv 0) aB (λ_ _=>rfl)) aB (iS _)) (bh (cM (i:=2) gQ.nd rfl (Qt rfl) (bA dJ (fv cz (pv 0) aB (λ_ _=>rfl)) (pv 1))) (bh (nF (bA jN (fv cz (pv 0) aB (λ_ _=>rfl)) (pv 1)) (qO (pv 0) aB set_list)) (g_ (gC (pv 2))))) jM) (bh (cM (i:=3) gQ.nd rfl (Qt rfl) (fv cz (pv 0) aB (λ_ _=>rfl))) (bh (nF (bA j6 (pv 3) aB) (qO (pv 0) aB set_list)) (bh (cM (i:=4) gQ.nd rfl (Qt rfl) (pv 3)) (bh (sG (fZ vU (hU eL (by rfl) e Tf (bf (fv cz (pv 0) aB (λ_ _=>rfl)) cf)) aB (iS _)) (g_ (cM (i:=4) gQ.nd rfl (Qt rfl) (fv cz (fv cz (pv 0) aB (λ_ _=>rfl)) (bA dJ (pv 3) (hU eL (by rfl) e Tf (bf (fv cz (pv 0) aB (λ_ _=>rfl)) cf))) (λ_ _=>rfl)))) jM) (bh (sG (vN (fZ Ge (pv 4) (bA vT aB aB) (iS _)) (sF (fZ Bu (pv 3) (hU eL (by rfl) e Tf (bf (fv cz (pv 0) aB (λ_ _=>rfl)) cf)) (iS _)))).pt (bh (nF (bA jN (pv 4) (pv 1)) (qO (pv 0) aB set_list)) (g_ (gC (bA dJ (pv 4) (pv 1))))) jM) (bh (cM (i:=5) gQ.nd rfl (Qt rfl) (bA dJ (bA gD (bA j6 (bA j6 (bA dJ (pv 4) aB) (bA gD (bA gD aB (pv 3)) (pv 3))) aB) aB) aB)) (bh (cM (i:=5) gQ.nd rfl (Qt rfl) (bA dJ (bA j6 (bA gD (pv 5) (pv 5)) (bA gD aB (pv 3))) aB)) (g_ (gC (bA dJ (bA jN (bA dJ (bA gD (pv 5) (bA j6 (bA dJ (pv 5) aB) aB)) aB) aB) (pv 1))))))))))),?_⟩;refine⟨_,rfl,p,_,_,_,rfl,rfl,dI.of G.ob,at2,_,_,rfl,rfl,_,rfl,?_⟩;refine zu (λL=>?_) (λL=>?_)
  .refine⟨_,rfl,p,_,_,_,rfl,rfl,dI.of G.ob,at2,_,rfl,_,_,rfl,rfl,d,?_⟩;refine⟨_,rfl,p,_,_,_,rfl,rfl,dI.of G.ob,at2,_,rfl,_,_,rfl,rfl,⟨d,m⟩,_,rfl,p,_,_,2,rfl,rfl,G.ob,rfl,?_⟩;refine⟨_,rfl,?_⟩;exact u _ _ (Qb _ (by omega)) (Pr _ d) ⟨ns,i,_,bZ.EY G G.i0 (Int.ediv_nonneg G.r0 (by omega)),by omega⟩ FP.upd
  .have i0:=G.i0;refine⟨_,rfl,p,_,_,_,rfl,rfl,dI.of G.ob,Md,?_⟩;refine⟨_,rfl,_,_,rfl,rfl,_,rfl,p,_,_,1,rfl,rfl,G.ob,rfl,?_⟩;have g:bZ (upd H p (.lst [.ref q,.int (i+1),.int r])) p q ns (i+1) r:=bZ.EY G (by omega) G.r0;refine⟨_,rfl,?_⟩;refine⟨_,rfl,p,_,_,_,rfl,rfl,dI.of g.ob,Jp,q,_,rfl,.inl ((bZ.sq g)),_,_,rfl,rfl,_,rfl,?_⟩;refine zu (λB=>?a) (λB=>?b);case' a=>
    have l:(0:Int)<((ns.map V.int).length:Int):=of_decide_eq_true B;obtain⟨c,o⟩:=AV (i:=i) l;refine⟨_,rfl,p,_,_,_,rfl,rfl,dI.of g.ob,Jp,_,rfl,_,rfl,p,_,_,_,rfl,rfl,dI.of g.ob,Jp,q,_,rfl,.inl ((bZ.sq g)),_,_,rfl,rfl,l,q,_,_,_,rfl,rfl,(bZ.sq g),o,?_⟩;clear o
   all_goals
    refine⟨_,rfl,_,_,rfl,rfl,⟨by decide,by decide,by decide⟩,_,_,rfl,rfl,_,rfl,?_⟩;refine(λj=>zu (λz=>?x) (λz=>J3 j)) ?y;case x=>
     refine⟨_,rfl,_,rfl,p,_,_,_,rfl,rfl,dI.of g.ob,Jp,q,_,rfl,.inl ((bZ.sq g)),_,_,rfl,rfl,_,rfl,?_⟩;refine zu (λJ=>?_) (λJ=>j);refine⟨_,rfl,_,rfl,_,_,rfl,rfl,⟨d,m⟩,_,rfl,p,_,_,2,rfl,rfl,g.ob,rfl,?_⟩;refine⟨_,rfl,_,rfl,_,_,rfl,rfl,d,?_⟩;have v:=of_decide_eq_true z;have t:(0:Int)<=10^(Int.toNat 18):=by decide
     refine u _ _ (Qb _ (by omega)) (Pr _ d) ⟨ns,i+1,_,(by rw[bV];exact bZ.EY G (by omega) (Int.ediv_nonneg (Int.le_trans t v) (by omega))),by omega⟩ (by rw[bV];exact FP.upd)
    case y=>
     refine⟨_,rfl,_,_,rfl,rfl,(by show(0:Int)<2147483647;decide),_,rfl,_,_,rfl,rfl,.inl ⟨by decide,by decide⟩,_,rfl,_,_,rfl,rfl,.inr ⟨by omega,by omega⟩,_,_,rfl,rfl,_,_,rfl,rfl,_,_,rfl,rfl,.inr ⟨by decide,by decide⟩,_,_,rfl,rfl,(by show(0:Int)<2147483647;decide),?_⟩;refine⟨_,rfl,_,rfl,_,_,rfl,rfl,.inl ⟨by omega,by omega⟩,_,rfl,_,_,rfl,rfl,.inl ⟨by decide,by decide⟩,_,_,rfl,rfl,_,_,rfl,rfl,(by show(0:Int)<2147483629;decide),?_⟩;refine⟨_,rfl,_,rfl,_,_,rfl,rfl,(by show(0:Int)<65521;decide),_,_,rfl,rfl,_,_,rfl,rfl,.inl ⟨by omega,by omega⟩,_,_,rfl,rfl,(by show(0:Int)<2147483587;decide),_,_,rfl,rfl,⟨by decide,by decide⟩,_,rfl,_,_,rfl,rfl,d,?_⟩;exact u _ _ (Qb _ (by omega)) (Pr _ d) ⟨ns,i+1,r,g,by omega⟩ FP.upd
noncomputable def t6:List A->T Rs
 |[.feed,.d (.int n)]=>.draw n λi=>.ok (.d (.int i))|_=>.stuck
theorem jB{d c:Type}{R:d->c->Prop}{l:List d}{y:c}{ys:List c}(h:Paired R l (y::ys)):∃x xs,l=x::xs/\R x y/\Paired R xs ys:=by cases h with|cons a b=>exact⟨_,_,rfl,a,b⟩
theorem rS{b a:Type}{R:b->a->Prop}{l:List b}(h:Paired R l ([]:List a)):l=[]:=by cases h;rfl
theorem yc{f:MB}{fd:NX}(F:wg K "_law_draw" "_law_draw" qo f fd)(j:mg "len"=Mu)(M:mg "_law_draw"=Mq (.ref f))(Z:Binds K fd ["_law_feed_here","_law_many"] []):FO P w K mg base "_law_draw" 2 t6:=by
 refine⟨⟨["_law_feed_here","_law_many"],rfl,f,fd,(AW F j).imp λvs H Q E z=>?_,M,F.kp,Z⟩,λm c=>?_⟩
 .obtain⟨p,k,m,H0,us,bs,ev,hp,v,I,c,z⟩:=z;rcases I with⟨rfl,rfl,V⟩|⟨a,d,rfl,rfl,_⟩;rotate_left
  .exfalso;match m,z with
   |[],z=>exact absurd c (by simp)|[a1],z=>cases a1<;>exact z.elim|_::_::_,z=>exact absurd c (by simp)
  subst V;rw[M1]at ev c z;rw[<-ev]at v;clear ev;rcases m with _|⟨a1,_|⟨X,_|⟨a3,r⟩⟩⟩;.exact absurd c (by simp)
  .exact absurd c (by simp)
  rotate_left;.exact absurd c (by simp)
  cases a1 with
  |d y=>exact Oh z|own y=>exact Oh z|feed=>cases X with
  |feed=>exact Oh z|own y=>exact Oh z|d y=>cases y with
  |int n=>
   obtain⟨v1,D,rfl,L,s⟩:=jB v;obtain⟨v2,C,rfl,l,J⟩:=jB s;obtain rfl:=rS J;obtain⟨rfl,q,x⟩:=L;have l:Is ⟨K,p,P,w⟩ H0 _ (.int n):=l;simp only[Is]at l;subst l;obtain⟨⟨u,t⟩,hk,z⟩:=z;refine⟨p,q,n,k,rfl,x,by omega,u,t,λi Y O N B W=>?_⟩;refine z (k+1) (by omega) (by omega) i ⟨O,N⟩ (.int i) Y ⟨λb o hb e=>by rw[W b hb];exact e,λ_=>?_,by omega,λG T=>?_⟩ (by simp only[Is])
   .obtain⟨ns,i',r',g,_⟩:=B;exactλe=>by rw[g.ob]at e;cases e
   .have:G=q:=by
     obtain⟨_,_,_,S,_⟩:=T;obtain⟨_,_,_,R,_⟩:=x;have U:=S.ob;have h:=R.ob;rw[U]at h;injection h with h;injection h with h;injection h with h _;injection h
    rw[this];exact B|_=>exact Oh z
 .match m with
  |[]=>rfl|[_]=>cases‹A›<;>rfl|[_,_]=>exact absurd rfl c|.d _::_::_::_=>rfl|.feed::.feed::_::_=>rfl|.feed::.own _::_::_=>rfl|.own _::_::_::_=>rfl|.feed::.d y::_::_=>cases y<;>rfl
end
end K41d
end
section
namespace L2
open PySem PySem.Spec PyProof.Rows
noncomputable def EZ(fd:NX):Option (List Ou):=match fd.body,fd.closure,fd.defaults with
 |.stmts b,[],.none=>if Uu fd.globals Nq&&Uu fd.builtins Sf then Mq b else Mu|_,_,_=>Mu
theorem yd{fd:NX}{b:List Ou}(h:EZ fd=Mq b):fd=Sj fd.name fd.qualname fd.params b fd.scope .none fd.kwdefaults fd.doc fd.pyModule fd.annotations fd.code fd.closureTuple:=by
 obtain⟨a1,v,u,t,s,r,q,p,o,n,m,l,k,j,i⟩:=fd;unfold EZ at h;split at h
 .rename_i e d c;dsimp only at e d c h;split at h
  .rename_i a;rw[MG]at a;cases h;subst e d c;have g:=OX a.1;have f:=OX a.2;subst g f;rfl
  .cases h
 .cases h
noncomputable def ye(fd:NX)(b:List Ou):Ou:=.FunctionDef fd.name fd.params b [] Mu [] fd.scope Mu fd.name ⟨0,0,0,0⟩
theorem yf{K:MF}{f:MB}{c:Mt}{od:Option MB}{fd:NX}{a:Array (Option Mt)}{b:List Ou}(l:K.lookup f=Mq ⟨c,od,.func fd,a⟩)(h:EZ fd=Mq b)(d:Qr K fd.code fd.qualname=Mv):wg K fd.name fd.qualname (ye fd b) f fd:=by
 refine⟨⟨c,od,_,_,_,_,_,_,a,yd h,l,d⟩,?_⟩;unfold PM;dsimp only;rw[l]
noncomputable def yg:List MR->List MR->Bool
 |[],[]=>Mv|x::b,y::a=>sEq x y&&yg b a|_,_=>Mw
theorem n_:∀{xs ys:List MR},yg xs ys=Mv->xs=ys
 |[],[],_=>rfl|[],_::_,h=>by cases h|_::_,[],h=>by cases h|x::xs,y::ys,h=>by
  simp only[yg,MG]at h;rw[bo h.1,n_ h.2]
noncomputable def Ij:ScopeKind->Bool
 |.function=>Mv|_=>Mw
noncomputable def Jq(N ps:List MR)(sc:Of):Bool:=Ij sc.kind&&!sc.isCoroutine&&!sc.isGenerator&&FL N&&yg (N.take ps.length) ps&&(ps.all λx=>match qN x sc.names with|some .local=>Mv|some .cell=>Mv|_=>Mw)&&sc.names.all λy=>match y.2 with|.free=>Mw|_=>Mv
theorem yh{N ps:List MR}{sc:Of}(h:Jq N ps sc=Mv):cw N ps sc:=by
 simp only[Jq,MG,NA,Pg]at h;obtain⟨⟨⟨⟨⟨⟨a,k⟩,j⟩,i⟩,g⟩,f⟩,d⟩:=h;refine⟨?_,k,j,gh i,n_ g,λx c=>?_,λy b z=>?_⟩;.cases e:sc.kind<;>rw[e]at a<;>first|rfl|cases a
 .have:=f x c;rw[lr]at this;split at this;.rename_i e;exact .inl e
  .rename_i e;exact .inr e
  .cases this
 .have:=d y b;rw[z]at this;cases this
noncomputable def qr(p:RV)(ps:List MR):Bool:=p.posonlyargs.isEmpty&&yg (p.args.map (·.arg)) ps&&p.vararg.isNone&&p.kwonlyargs.isEmpty&&p.kwarg.isNone&&FL ps
theorem lB:∀{ps:List MR}{us:List Mt},ps.Nodup->us.length=ps.length->(ps.filterMap λn=>((ps.zip us).lookup n).map (n,·))=ps.zip us
 |[],[],_,_=>rfl|[],_::_,_,h=>by simp at h|_::_,[],_,h=>by simp at h|p::ps,u::us,nd,h=>by
  obtain⟨n1,n2⟩:=List.nodup_cons.mp nd;have d:=lB n2 (us:=us) (by simpa using h);rw[Ob,OK];simp only[List.lookup_cons_self,N8];congr 1;refine Eq.trans ?_ d;have a:∀(l:List MR),(∀n∈l,n≠p)->l.filterMap (λn=>(((p,u)::ps.zip us).lookup n).map (n,·))=l.filterMap λn=>((ps.zip us).lookup n).map (n,·):=by
   intro l;induction l with
   |nil=>intro _;rfl|cons n l b=>
    intro c;have e:((p,u)::ps.zip us).lookup n=(ps.zip us).lookup n:=by
     rw[Ni];have:(n==p)=Mw:=by
      rw[beq_eq_false_iff_ne];exact c n ME
     rw[this]
    rw[OK,OK,e,b λm g=>c m (MH _ g)]
  exact a ps λn f e=>n1 (e▸f)
theorem lookup_some:∀{ps:List MR}{us:List Mt}{n:MR},us.length=ps.length->n∈ps->((ps.zip us).lookup n).isNone=Mw
 |[],_,_,_,h=>nomatch h|_::_,[],_,h,_=>by simp at h|p::ps,u::us,n,h,a=>by
  rw[Ob,Ni];cases e:n==p with
  |true=>rfl|false=>
   have:n∈ps:=by
    rcases List.mem_cons.mp a with rfl|h;.simp at e
    .exact h
   exact lookup_some (by simpa using h) this
theorem bind_eq{fd:NX}{b:List Ou}{ps:List MR}(h:EZ fd=Mq b)(k:qr fd.params ps=Mv)(us:List Mt)(j:us.length=ps.length):T1 fd ⟨us,[]⟩=pure (ps.zip us):=by
 simp only[qr,MG]at k;obtain⟨⟨⟨⟨⟨i,g⟩,f⟩,d⟩,c⟩,q⟩:=k;have e:=yd h;have hd:fd.defaults=.none:=by rw[e]
 obtain⟨⟨x,w,v,u,t,s,r⟩,a⟩:∃p:RV,fd.params=p:=⟨_,rfl⟩;rw[a]at i g f d c;dsimp only at i g f d c;have i:=List.isEmpty_iff.mp i;have f:=Option.isNone_iff_eq_none.mp f;have d:=List.isEmpty_iff.mp d;have c:=Option.isNone_iff_eq_none.mp c;have g:=n_ g;subst i f d c;have nd:=gh q;unfold T1;rw[a,hd];dsimp only;rw[g];simp only[Oi,Ra,M1];have l:Rj NV=pure Mu:=rfl;have o:((ps.take ps.length).filter λn=>((ps.zip us).lookup n).isNone)=[]:=by
  rw[List.take_length];refine List.filter_eq_nil_iff.mpr λn m=>?_;rw[lookup_some j m];exact Nu
 rw[Pf,pure_bind,l,pure_bind];dsimp only;simp only[RY,NZ,Nat.zero_sub,Nat.sub_zero,List.drop_nil,o];rw[if_neg (by rw[j];simp)];simp only[List.isEmpty_nil,Oe,MV,if_false,TF,Pf,pure_bind];rw[lB nd j]
theorem yi{K:MF}{fd:NX}{b:List Ou}{ps:List MR}(h:EZ fd=Mq b)(a:qr fd.params ps=Mv):Binds K fd ps []:=.all (bind_eq h a)
noncomputable def KY(K:MF)(g:dP)(x:MR)(N ps:List MR)(d:Df):Bool:=match PZ K Nq x with
 |some (Mq (.ref f))=>(match K.lookup f with
  |some ⟨_,_,.func fd,_⟩=>(match EZ fd with
   |some b=>Qr K fd.code fd.qualname&&Jq N ps fd.scope&&qr fd.params ps&&Uu ps.length d.np&&Uu N.length d.nn&&(ET g ⟨N,fd.scope,Mv,[]⟩ d.body b).ok|none=>Mw)|_=>Mw)|_=>Mw
theorem E1{P:MQ}{K:MF}{mg:MR->Option Mt}{h:M7}{g:dP}{x:MR}{N ps:List MR}{d:Df}(X:K.In h)(G:h.Ns Nq mg)(q:KY K g x N ps d=Mv):EU P K mg g x d:=by
 unfold KY at q;split at q
 .rename_i f e;split at q
  .rename_i o od fd n lk;split at q
   .rename_i b a;simp only[MG]at q;obtain⟨⟨⟨⟨⟨m,l⟩,k⟩,j⟩,i⟩,c⟩:=q;exact⟨fd.name,fd.qualname,ye fd b,f,fd,N,ps,yf lk a m,yh l,yi a k,QX X G e,OX j,OX i,Ch.of c⟩
   .cases q
  .cases q
 .cases q
structure En where
 x:MR
 N:List MR
 ps:List MR
 k:Dk
noncomputable def E2(K:MF)(g:dP)(a:List En):Bool:=a.all λe=>match e.k with
 |.df d=>KY K g e.x e.N e.ps d|.wit _=>Mv
theorem AX{P:MQ}{w:M6}{K:MF}{mg:MR->Option Mt}{base h:M7}{g:dP}{b:List En}(X:K.In h)(G:h.Ns Nq mg)(q:E2 K g b=Mv)(m:g.dn=b.map (·.x))(hw:∀e∈b,∀t,e.k=.wit t->∃np,FO P w K mg base e.x np t):∀(f:Nat)(x:MR),g.dn[f]?=Mq x->(∃d,(b.map (·.k))[f]?=Mq (Dk.df d)/\EU P K mg g x d)\/(∃t np,(b.map (·.k))[f]?=Mq (Dk.wit t)/\FO P w K mg base x np t):=λf x a=>by
 rw[m,M9]at a;cases i:b[f]? with
 |none=>rw[i]at a;cases a|some e=>
  rw[i]at a;have a:e.x=x:=MD a;subst a;have l:e∈b:=Nz i;have j:=List.all_eq_true.mp q e l;rw[M9,i];cases c:e.k with
  |df d=>
   rw[c]at j;exact .inl ⟨d,by rw[N8,c],E1 X G j⟩|wit t=>
   obtain⟨np,W⟩:=hw e l t c;exact .inr ⟨t,np,by rw[N8,c],W⟩
noncomputable abbrev QD(K:MF)(u:Mt)(d:D):Prop:=∀P w,∃v,RelV v u/\∀(p:MB)(H:Hp),H p≠Mu->K.lookup p=Mu->Is ⟨K,p,P,w⟩ H v d
noncomputable abbrev Jr(K:MF)(us:List Mt)(ds:List D):Prop:=∀P w,∃a,au a us/\∀(p:MB)(H:Hp),H p≠Mu->K.lookup p=Mu->af ⟨K,p,P,w⟩ H a ds
theorem Ik{K:MF}{a:MB}{T:String}{k:Option MB}{b:Array Mt}{n:Nat}{e:Array (Option Mt)}{ds:List D}(lk:K.lookup a=Mq ⟨.type T,k,.seq b n,e⟩)(g:T="tuple")(f:b.size<=MA)(h:Jr K b.toList ds):QD K (.ref a) (.tup ds):=λP w=>by
 subst g;obtain⟨d,r,i⟩:=h P w;refine⟨.ref a,rfl,λp H j c=>?_⟩;simp only[Is];refine⟨a,d,rfl,⟨λz=>?_,.inr ⟨_,b,n,lk,rfl,rfl,f,r⟩⟩,i p H j c⟩;have z:a=p:=z;rw[z,c]at lk;cases lk
theorem E3{K:MF}{u:Mt}{us:List Mt}{d:D}{ds:List D}(h:QD K u d)(f:Jr K us ds):Jr K (u::us) (d::ds):=λP w=>by
 obtain⟨v,r,i⟩:=h P w;obtain⟨c,e,is⟩:=f P w;exact⟨v::c,.cons r e,λp H a b=>.cons (i p H a b) (is p H a b)⟩
mutual
noncomputable def LH(K:MF):(d:D)->(u:Mt)->Ch (QD K u d)
 |.bH,u=>match u with
  |.none=>.y λP w=>⟨.bH,rfl,λp H _ _=>by simp only[Is]⟩|_=>.n
 |.bl b,u=>match u with
  |.bool c=>(cd (c=b)).b λq=>.y (by subst q;exactλP w=>⟨.bl _,rfl,λp H _ _=>by simp only[Is]⟩)|_=>.n
 |.int i,u=>match u with
  |.int j _=>(cd (j=i)).b λq=>.y (by subst q;exactλP w=>⟨.int _,⟨_,rfl⟩,λp H _ _=>by simp only[Is]⟩)|_=>.n
 |.str x,u=>match u with
  |.str y _=>(cb (sEq x y)).b λq=>.y (by rw[bo q];exactλP w=>⟨.str _,⟨_,rfl⟩,λp H _ _=>by simp only[Is]⟩)|_=>.n
 |.tup k,u=>match u with
  |.ref a=>match lk:K.lookup a with
   |some ⟨.type _,_,.seq e _,_⟩=>(cd (_="tuple")).b λg=>(cd (e.size<=MA)).b λf=>(Il K k e.toList).b λh=>.y (Ik lk g f h)|_=>.n
  |_=>.n
 |_,_=>.n
noncomputable def Il(K:MF):(ds:List D)->(us:List Mt)->Ch (Jr K us ds)
 |[],us=>match us with
  |[]=>.y λP w=>⟨[],.nil,λp H _ _=>.nil⟩|_=>.n
 |d::ds,us=>match us with
  |u::us=>(LH K d u).b λh=>(Il K ds us).b λa=>.y (E3 h a)|_=>.n
end
noncomputable def LJ(K:MF)(x:MR)(d:D):Bool:=match PZ K Nq x with
 |some (Mq u)=>(LH K d u).ok|_=>Mw
noncomputable def E4(K:MF)(gn:List MR)(ds:List (Option D)):Bool:=(gn.zip ds).all λe=>match e.2 with
 |some d=>LJ K e.1 d|none=>Mv
theorem AY{K:MF}{gn:List MR}{ds:List (Option D)}(q:E4 K gn ds=Mv){i:Nat}{x:MR}{d:D}(a:gn[i]?=Mq x)(hd:ds[i]?=Mq (Mq d)):∃u,PZ K Nq x=Mq (Mq u)/\QD K u d:=by
 have b:(x,Mq d)∈gn.zip ds:=Nz (i:=i) (by rw[List.getElem?_zip_eq_some];exact⟨a,hd⟩);have:=List.all_eq_true.mp q _ b;dsimp only at this;unfold LJ at this;split at this;.rename_i u e;exact⟨u,e,Ch.of this⟩
 .cases this
noncomputable def LK(K:MF):Bool:=eU.all λx=>match PZ K Nq x with
 |some Mu=>Mv|_=>Mw
noncomputable def Im(ds:List (Option D))(i:Nat):Option D:=(ds[i]?).join
theorem E5{P:MQ}{w:M6}{K:MF}{mg:MR->Option Mt}{base h:M7}{gn:List MR}{a:List En}{ds:List (Option D)}(X:K.In h)(G:h.Ns Nq mg){dn:List MR}(tJ:dn=a.map (·.x))(j:E2 K ⟨dn,gn⟩ a=Mv)(g:E4 K gn ds=Mv)(f:LK K=Mv)(hw:∀e∈a,∀t,e.k=.wit t->∃np,FO P w K mg base e.x np t):jA P w K mg base ⟨dn,gn⟩ (a.map (·.k)) ⟨Im ds⟩where
 bl:=λx c=>by
  have:=List.all_eq_true.mp f x c;split at this;.rename_i e;exact TX X G e
  .cases this
 df:=AX X G j tJ hw;co:=λi x d c hd=>by
  obtain⟨u,e,b⟩:=AY g c (Option.join_eq_some_iff.mp hd);obtain⟨v,r,is⟩:=b P w;exact⟨u,v,QX X G e,r,is⟩
noncomputable def rT(K:MF):Sp:=λc H Q _=>∃(a:MB)(ns:List Int),c=[.ref a]/\dI K H a (ns.map V.int)/\ns.length<=63/\∀(p q:MB)(b:Hp),kr b p q 0->oY H b->H p=Mu->Q (.ref p) b
theorem Io{ns:List Int}(h:ns.length<=63):nH (ns.map V.int) Mu (Mq 63)=ns.map V.int:=by
 unfold nH;have e:HT.bR (ns.map V.int).length (ns.map V.int).length (Mq 63)=ns.length:=by
  have:=HT.zm (ns.map V.int).length (ns.map V.int).length 63;rw[show((63:Nat):Int)=63 from rfl]at this;rw[this,M0];omega
 rw[e,HT.v8,List.drop_zero,Nat.sub_zero,NL (by simp)]
section
variable{P:MQ}{w:M6}{K:MF}{mg:MR->Option Mt}{base:M7}
theorem AZ{x d:MR}{st:Ou}{f:MB}{fd:NX}{O N M:Nat}{J I G D C B z y v l:Oc}(F:wg K x d st f fd)(S:cw ["_law_script"] ["_law_script"] (ar st))(c:mg "list"=Mu)(hb:bY st=[.Return (Mq (.List [.Call (.Name "list" J) [.Subscript (.Name "_law_script" I) (.Slice Mu (Mq (.Constant (.int 63) O G)) Mu D) C] [] B,.Constant (.int 0) N z,.Constant (.int 0) M y] v)) l])(U:(ar st).names.lookup (Mr "list")=Mq NameKind.globalImplicit):dZ P w K mg base qL 1 f fd ["_law_script"] (rT K):=by
 refine F.ok S (λu H Q E h=>?_) (λX A outer s H u Q E Y h=>?_)
 .obtain⟨a,ns,rfl,_⟩:=h;rfl
 .obtain⟨a,ns,rfl,W,t,L⟩:=h;have R:oI (ar st) "_law_script":=by
   rcases S.par _ ME with e|e;.exact .inl e
   .exact .inr (.inl e)
  rw[hb];refine⟨_,g_ (gC (nG (bf (rb (mq hW U c Su (bf (oU sO (bX (i:=0) rfl R) sJ (sL aB)) cf))) (bf aB (bf aB cf))))),?_⟩;refine⟨_,rfl,63,rfl,a,_,rfl,W,λg m=>?_⟩;rw[Io t];refine⟨g,_,rfl,.inl (dI.of aj),λq T=>⟨q,_,rfl,aj,λo=>?_⟩⟩;refine⟨by show 3<=MA;decide,λp k=>?_⟩;rw[bV]at k⊢;have s1:oY H (upd H g (.lst (ns.map V.int))):=λb o e=>by rw[ah (aA e m)];exact e
  have s2:oY (upd H g (.lst (ns.map V.int))) (upd (upd H g (.lst (ns.map V.int))) q (.cv o (.lst (ns.map V.int)))):=λb o e=>by rw[ah (aA e T)];exact e
  have j:q≠p:=aA (aj (H:=upd H g (.lst (ns.map V.int))) (a:=q) (o:=.cv o (.lst (ns.map V.int)))) k;have n:H p=Mu:=by cases e:H p with
   |none=>rfl|some r=>rw[s2 p r (s1 p r e)]at k;cases k
  refine L p q _ ⟨ns,0,0,⟨aj,⟨o,by rw[ah j];exact aj⟩,j,Q3 _,Q3 _,t⟩,Q3 _⟩ (λb o e=>?_) n;rw[ah (aA (s2 b o (s1 b o e)) k)];exact s2 b o (s1 b o e)
end
inductive T.md{α:Type}:Nat->(α->Prop)->T α->Prop where|ok{m:Nat}{P:α->Prop}{a:α}(h:P a):T.md m P (.ok a)|draw{m:Nat}{P:α->Prop}{n:Int}{k:Int->T α}(h1:0<n)(h2:n<1073741824)(h3:∀i,0<=i->i<n->T.md m P (k i)):T.md (m+1) P (.draw n k)|perm{m:Nat}{P:α->Prop}{l:List D}{k:List D->T α}(h:∀l',l'.Perm l->T.md m P (k l')):T.md m P (.perm l k)
theorem T.yj{e:Type}{P:e->Prop}{E:Xc->Nat->Prop}{t:T e}{m:Nat}(h:t.md m P):∀k,k+m<=1000000->t.aM.run k (λa _=>P a) E:=by induction h with
 |ok h=>intro k _;exact h|draw l j n d=>
  intro k f;exact⟨⟨l,j⟩,by omega,λg a b i c=>d i c.1 c.2 g (by omega)⟩|perm h d=>
  intro k f;exactλi c=>d i c k f
noncomputable def yk(K:MF):Sp:=λb H Q _=>∃(a:MB)(ns:List Int),b=[.ref a]/\dI K H a (ns.map V.int)/\ns.length<=63/\∀c,Q (.bl Mv) c
section
variable{P:MQ}{w:M6}{K:MF}{mg:MR->Option Mt}{base:M7}{g:dP}{defs:List Dk}{b:Gv}
theorem E6{x c:MR}{st:Ou}{f:MB}{fd:NX}{N:List MR}{r:aT}{rest:List Ou}{n m:Nat}{xn zn:MR}{p1 p2 p3 p4 p5:Oc}(T:jA P w K mg base g defs b)(F:wg K x c st f fd)(S:cw N ["_law_script"] (ar st))(feed:∃f fd,dZ P w K mg base qL 1 f fd ["_law_script"] (rT K)/\mg "_law_feed"=Mq (.ref f)/\PM K (.ref f)=Mv/\Binds K fd ["_law_script"] [])(hb:bY st=.Assign [.Name xn p1] (.Call (.Name "_law_feed" p2) [.Name zn p3] [] p4) p5::rest)(q1:eT ⟨N,ar st,Mv,[]⟩ 1 xn=Mv)(q2:cq ⟨N,ar st,Mv,[]⟩ 0 zn=Mv)(q3:cu ⟨N,ar st,Mv,[]⟩ "_law_feed"=Mv)(q4:y_ g ⟨N,ar st,Mv,[]⟩ r rest)(hm:m<=1000000)(ev:(aw (b.ev (aI defs b (n+1))) r (Mu::Mq .feed::NY (N.length-2) Mu)).md m (λfl=>fl=.rt (.bl Mv))):dZ P w K mg base qL (n+2) f fd ["_law_script"] (yk K):=by
 obtain⟨oc,od,kV,a6,pm,an,C,ct,a0,rfl,lk,V⟩:=F.ex;refine Bx lk V S (λvs H Q E h=>?_) λA' outer s H vs Q E A h=>?_
 .obtain⟨a,ns,rfl,_⟩:=h;rfl
 .obtain⟨a,ns,rfl,hS,hn,hQ⟩:=h;have J:∀(p:MB)(k:Hp),XC g (b.ev (aI defs b (n+1))) ⟨N,ar st,Mv,[]⟩ (lW qL P w K mg base N c (ar st) f C A' outer s H E) ⟨⟨K,p,P,w⟩,k,0,λ_ _=>False,k,0⟩:=λp k=>⟨rfl,rfl,rfl,rfl,S.nd,rfl,rfl,A.units,λ_ _=>rfl,(λ_ z=>nomatch z),mark_none A.hd,T.bl,λf' x' O=>by
    obtain⟨np,l,B⟩:=jA.all T (n+1) f' x' O;exact⟨np,n+1,A,l,B⟩,A.gd,λi x d hx hd=>let⟨u,v,l,B,Y⟩:=T.co i x d hx hd;⟨u,v,l,B,λH hH hp=>Y p H hH hp⟩⟩;obtain⟨l,B,Y⟩:=(J 0 H).loc q1;obtain⟨v1,v2,v3,v4⟩:=(J 0 H).vK q2;obtain⟨g1,g2,g3⟩:=(J 0 H).gl q3;obtain⟨ff,a5,FF,R,U,X⟩:=feed;rw[hb];have rs:oJ (lW qL P w K mg base N c (ar st) f C A' outer s H E) rest (λZ L t=>∃p k,J5 ⟨⟨K,p,P,w⟩,k,0,λ_ _=>False,k,0⟩ (λρ=>(aw (b.ev (aI defs b (n+1))) r ρ).aM) Z L t):=λy s L t D I⟨p,k,z⟩=>(q4 _ _ _ PassesOwn.leaving (J p k)).ps y s L t D I z;refine⟨_,bh (cM (i:=1) S.nd l B (sH (FF.mono (by omega:1<=n+1)) A g1 R U X .nil Bz (bf (bX (i:=0) v1 v2 v3 v4) cf) g2) rfl Y) rs,?_⟩;refine⟨_,rfl,a,ns,rfl,hS,hn,λp q t fq sm hp=>?_⟩;have lv:t p≠Mu:=by obtain⟨_,_,_,G,_⟩:=fq;rw[G.ob];intro z;cases z
  refine⟨p,t,Mu::Mq .feed::NY (N.length-2) Mu,0,?_,?_⟩
  .have a4:2<=N.length:=by have:=(List.getElem?_eq_some_iff.mp l).1;exact this
   have only:∀(i:Nat)(d:W),(Mu::Mq W.feed::NY (N.length-2) Mu:ag)[i]?=Mq (Mq d)->i=1/\d=.feed:=λi d e=>by match i,e with
    |0,e=>cases e|1,e=>exact⟨rfl,by cases e;rfl⟩|i+2,e=>
     simp only[List.getElem?_cons_succ]at e;have:=Nz e;rw[List.mem_replicate]at this;cases this.2
   refine⟨?_,λi d e=>?_,λi j d e v a3 a1 a2 o1 o2=>?_,λi j ks ds w a1 a2 o=>?_,lv,.refl,.refl⟩
   .simp only[start,Ng,Ov,List.length_set,Nh,M0,NZ];omega
   .obtain⟨rfl,rfl⟩:=only i d e;refine⟨.ref p,?_,rfl,q,fq⟩;rw[OP];simp only[start,Ng,Ov,Nh,M0,NZ];omega
   .obtain⟨_,rfl⟩:=only i d a1;cases o1
   .obtain⟨_,z⟩:=only i _ a1;cases z
  .refine M.wk (L2.T.yj ev 0 (by omega)) λfl k' e=>?_;subst e;intro v H2 e1 i;simp only[Is]at i;subst i;exact hQ H2
end
noncomputable def vx(K:MF)(x:MR):Option (MB×NX×List Ou):=match PZ K Nq x with
 |some (Mq (.ref f))=>(match K.lookup f with
  |some ⟨_,_,.func fd,_⟩=>(match EZ fd with
   |some b=>if Qr K fd.code fd.qualname then Mq (f,fd,b)else Mu|none=>Mu)|_=>Mu)|_=>Mu
noncomputable def iH(t:MB×NX×List Ou):MR×MR×RV×List Ou×Of:=(t.2.1.name,t.2.1.qualname,t.2.1.params,t.2.2,t.2.1.scope)
theorem lC{K:MF}{x y q:MR}{st:Ou}{ps:List MR}(h:(vx K x).map iH=Mq (y,q,cY st,bY st,ar st))(o:qr (cY st) ps=Mv):∃f fd,wg K y q st f fd/\PZ K Nq x=Mq (Mq (.ref f))/\∀us:List Mt,us.length=ps.length->T1 fd ⟨us,[]⟩=pure (ps.zip us):=by cases e:vx K x with
 |none=>rw[e]at h;cases h|some t=>
  obtain⟨f,fd,b⟩:=t;rw[e]at h;simp only[N8,iH,Qu,QV]at h;obtain⟨u,j,i,s,r⟩:=h;unfold vx at e;split at e
  .rename_i A en;split at e
   .rename_i g od v a lk;split at e
    .rename_i B k;split at e
     .rename_i p;cases e;have F:=yf lk k p;refine⟨f,fd,⟨?_,F.kp⟩,en,?_⟩
      .obtain⟨g,od,kV,c,n,z,d,ct,a,m,w,l⟩:=F.ex;rw[u,j,show cY (ye fd b)=cY st from i,show bY (ye fd b)=bY st from s,show ar (ye fd b)=ar st from r]at m;rw[j]at l;exact⟨g,od,kV,c,n,z,d,ct,a,m,w,l⟩
      .exact bind_eq k (by rw[i];exact o)
     .cases e
    .cases e
   .cases e
  .cases e
end L2
end
section
namespace K41
open PySem L2 K41d
noncomputable def qt:aT:=(.cons (.ret (.tup (.cons (.op .Sub (.var 10) (.var 8)) (.cons (.var 10) .nil)))) .nil)
noncomputable def qu:aT:=(.cons (.set 10 (.op .Sub (.call 1 (.cons (.idx (.var 9) (.var 4)) (.cons (.idx (.var 9) (.var 5)) .nil))) (.var 7))) qt)
noncomputable def lD:aT:=(.cons (.iff (.aG .Eq (.idx (.idx (.var 2) (.var 4)) (.cst (.int 0))) (.var 5)) (.cons (.ret (.tup (.cons (.var 5) (.cons (.op .Add (.var 6) (.var 7)) (.cons (.var 5) (.cons (.op .Add (.var 6) (.var 8)) .nil)))))) .nil) .nil) (.cons (.ret (.tup (.cons (.op .Add (.var 5) (.var 7)) (.cons (.var 6) (.cons (.op .Add (.var 5) (.var 8)) (.cons (.var 6) .nil)))))) .nil))
noncomputable def lE:aT:=(.cons (.asg (.tup 2 (.cons (.nm 3) (.cons (.nm 4) .nil))) (.idx (.var 1) (.cst (.int 2)))) (.cons (.asg (.tup 2 (.cons (.nm 5) (.cons (.nm 6) .nil))) (.idx (.var 2) (.var 3))) (.cons (.asg (.tup 2 (.cons (.nm 7) (.cons (.nm 8) .nil))) (.call 2 (.cons (.var 0) (.cons (.var 1) .nil)))) lD)))
noncomputable def fH:aT:=(.cons (.ret (.cmp .LtE (.op .Add (.var 7) (.var 8)) (.call 1 (.cons (.idx (.var 9) (.var 4)) (.cons (.idx (.var 9) (.var 5)) .nil))))) .nil)
noncomputable def iI:aT:=(.cons (.ret (.or (.cmp .LtE (.var 4) (.var 5)) (.one (.cmp .LtE (.var 6) (.var 3))))) .nil)
noncomputable def iJ:aT:=(.cons (.asg (.tup 2 (.cons (.nm 5) (.cons (.nm 6) .nil))) (.call 2 (.cons (.var 0) (.cons (.var 2) .nil)))) iI)
noncomputable def da:Ex:=(.call 5 (.cons (.var 1) (.cons (.var 2) (.cons (.var 0) .nil))))
noncomputable def eA:Ex:=(.c6 (.aG .NotEq (.idx (.var 0) (.cst (.int 0))) (.idx (.var 1) (.cst (.int 0)))))
noncomputable def gi:Ex:=(.var 0)
noncomputable def jK:aT:=(.cons (.ret (.cst (.bH))) .nil)
noncomputable def bC:aT:=(.cons (.iff (.vp (.BN (.call 6 (.cons (.var 0) (.cons (.var 1) (.cons (.var 2) .nil)))))) (.cons (.ret (.idx (.var 2) (.cst (.int 0)))) .nil) .nil) .nil)
noncomputable def jW:aT:=(.cons (.fz 4 (.ret (.var 4))) .nil)
noncomputable def og:Ex:=(.op .Sub (.op .Add (.var 0) (.op .Pow (.cst (.int 10)) (.cst (.int 6)))) (.var 1))
noncomputable def t7:aT:=(.cons (.iff (.fG (.aG .Gt (.var 2) (.cst (.int 1))) (.c6 (.aG .Eq (.call 8 (.feed 0 (.cons (.cst (.int 4)) .nil))) (.cst (.int 0))))) (.cons (.fz 4 (.set 4 (.lc ["_law_number"] [3] (.nm 0) (.bD (.var 4)) .yes og))) .nil) .nil) jW)
noncomputable def t8:aT:=(.cons (.set 3 (.op .Add (.var 3) (.op .Mult (.op .Add (.cst (.int 1)) (.call 8 (.feed 0 (.cons (.cst (.int 6)) .nil)))) (.var 2)))) (.cons (.app 4 (.var 3)) .nil))
noncomputable def qv:aT:=(.cons (.xU 3) .nil)
noncomputable def lF:aT:=(.cons (.set 9 (.or (.and (.cmp .Eq (.var 5) (.idx (.var 8) (.cst (.int 0)))) (.one (.cmp .In (.var 5) (.tup (.cons (.cst (.int 0)) (.cons (.op .Sub (.var 1) (.cst (.int 1))) .nil)))))) (.one (.and (.cmp .Eq (.var 4) (.idx (.var 8) (.cst (.int 1)))) (.one (.cmp .In (.var 4) (.tup (.cons (.cst (.int 0)) (.cons (.op .Sub (.var 2) (.cst (.int 1))) .nil))))))))) (.cons (.iff (.fG (.Hq (.var 8) 3) (.fG (.aG .Lt (.var 7) (.cst (.int 90))) (.c6 (.xQ (.fG (.BN (.var 6)) (.c6 (.BN (.var 9)))) (.c6 (.aG .Gt (.call 8 (.feed 0 (.cons (.cst (.int 7)) .nil))) (.cst (.int 1)))))))) (.cons (.jJ 3 (.tup (.cons (.var 5) (.cons (.var 4) .nil))) (.var 8)) (.cons (.jJ 3 (.var 8) (.tup (.cons (.var 5) (.cons (.var 4) .nil)))) (.cons (.set 7 (.op .Add (.var 7) (.cst (.int 1)))) .nil))) .nil) .nil))
noncomputable def qw:aT:=(.cons (.dz (.nm 8) (.bD (.lst (.cons (.tup (.cons (.op .Add (.var 5) (.cst (.int 1))) (.cons (.var 4) .nil))) (.cons (.tup (.cons (.var 5) (.cons (.op .Add (.var 4) (.cst (.int 1))) .nil))) .nil)))) lF) .nil)
noncomputable def qx:aT:=(.cons (.dz (.nm 5) (.ef (.cons (.var 1) .nil)) qw) .nil)
noncomputable def qy:aT:=(.cons (.set 6 (.cmp .Gt (.call 8 (.feed 0 (.cons (.cst (.int 3)) .nil))) (.cst (.int 0)))) (.cons (.set 7 (.cst (.int 0))) (.cons (.dz (.nm 4) (.ef (.cons (.var 2) .nil)) qx) qv)))
noncomputable def qz:aT:=(.cons (.putN 3 (.tup (.cons (.var 5) (.cons (.var 4) .nil)))) .nil)
noncomputable def lG:aT:=(.cons (.dz (.nm 5) (.ef (.cons (.var 1) .nil)) qz) .nil)
noncomputable def nk:aT:=(.cons (.fz 1 (.ret (.var 1))) .nil)
noncomputable def nq:Ex:=(.y9 (.aG .NotEq (.var 0) (.var 1)) (.var 0) (.var 2))
noncomputable def nr:Ex:=(.y9 (.aG .NotEq (.var 0) (.var 1)) (.var 0) (.var 2))
noncomputable def ji:aT:=(.cons (.set 3 (.kQ 1 (.idx (.var 1) (.var 2)))) (.cons (.iff (.fG (.aG .Eq (.bi .len (.cons (.var 3) .nil)) (.cst (.int 2))) (.c6 (.aG .Gt (.call 8 (.feed 0 (.cons (.cst (.int 3)) .nil))) (.cst (.int 0))))) (.cons (.asg (.tup 2 (.cons (.nm 4) (.cons (.nm 5) .nil))) (.var 3)) (.cons (.iff (.xQ (.aG .Eq (.idx (.var 4) (.cst (.int 0))) (.idx (.var 5) (.cst (.int 0)))) (.c6 (.aG .Eq (.idx (.var 4) (.cst (.int 1))) (.idx (.var 5) (.cst (.int 1)))))) (.cons (.put 1 (.var 4) (.kQ 1 (.lc ["_law_there"] [2,5] (.nm 0) (.bD (.idx (.var 1) (.var 4))) .yes nr))) (.cons (.put 1 (.var 5) (.kQ 1 (.lc ["_law_there"] [2,4] (.nm 0) (.bD (.idx (.var 1) (.var 5))) .yes nq))) (.cons (.put 1 (.var 2) (.lst .nil)) .nil))) .nil) .nil)) .nil) .nil))
noncomputable def gR:Ex:=(.kQ 2 (.call 8 (.feed 1 (.cons (.bi .len (.cons (.var 2) .nil)) .nil))))
noncomputable def lH:aT:=(.cons (.xS 4 (.cons (.var 1) .nil)) (.cons (.xV 4 1 [0,4] "_law_k" (.ef (.cons (.var 1) .nil)) gR) .nil))
noncomputable def gS:Ex:=(.op .Mod (.op .Add (.var 2) (.op .Mult (.var 1) (.var 0))) (.cst (.int 1000)))
noncomputable def rV:aT:=(.cons (.fz 11 (.ret (.tup (.cons (.bi .tuple (.cons (.bi .sorted (.cons (.var 10) .nil)) .nil)) (.cons (.bi .tuple (.cons (.bi .sorted (.cons (.var 11) .nil)) .nil)) .nil))))) .nil)
noncomputable def gU:Ex:=(.c6 (.aG .Lt (.var 2) (.var 0)))
noncomputable def gV:Ex:=(.tup (.cons (.idx (.var 1) (.var 2)) (.cons (.idx (.var 1) (.var 0)) .nil)))
noncomputable def rW:aT:=(.cons (.ext 11 (.lc ["_law_there"] [9,12] (.nm 0) (.bD (.idx (.var 5) (.var 12))) gU gV)) .nil)
noncomputable def lI:Ex:=(.tup (.cons (.idx (.var 4) (.tup (.cons (.var 0) (.cons (.var 1) .nil)))) (.cons (.idx (.var 2) (.var 0)) (.cons (.idx (.var 3) (.var 1)) .nil))))
noncomputable def rX:aT:=(.cons (.set 10 (.lc ["_law_i","_law_j"] [6,7,9] (.tup 2 (.cons (.nm 0) (.cons (.nm 1) .nil))) (.bD (.var 8)) .yes lI)) (.cons (.jc 11 .nil) (.cons (.dz (.nm 12) (.bD (.var 8)) rW) rV)))
noncomputable def rY:aT:=(.cons (.set 9 (.xR (.cons (.var 8) (.cons (.call 12 (.feed 0 (.cons (.bi .len (.cons (.var 8) .nil)) .nil))) .nil)))) rX)
noncomputable def oh:Ex:=(.c6 (.aG .NotEq (.idx (.var 1) (.var 0)) (.lst .nil)))
noncomputable def rZ:Ex:=(.var 0)
noncomputable def r6:aT:=(.cons (.set 8 (.lc ["_law_knot"] [5] (.nm 0) (.bD (.bi .sorted (.cons (.var 5) .nil))) oh rZ)) rY)
noncomputable def t_:aT:=(.cons (.asg (.tup 2 (.cons (.nm 6) (.cons (.nm 7) .nil))) (.tup (.cons (.call 9 (.feed 0 (.cons (.var 3) (.cons (.var 2) .nil)))) (.cons (.call 9 (.feed 0 (.cons (.var 4) (.cons (.var 2) .nil)))) .nil)))) r6)
noncomputable def qB:aT:=(.cons (.fz 1 (.ret (.var 1))) .nil)
noncomputable def fI:aT:=(.cons (.put 1 (.var 2) (.tup (.cons (.var 3) (.cons (.var 4) .nil)))) .nil)
noncomputable def nu:aT:=(.cons (.asg (.tup 2 (.cons (.nm 3) (.cons (.nm 4) .nil))) (.idx (.var 2) (.idx (.var 1) (.cst (.int 0))))) (.cons (.asg (.tup 2 (.cons (.nm 5) (.cons (.nm 6) .nil))) (.idx (.var 2) (.idx (.var 1) (.cst (.int 1))))) (.cons (.ret (.op .Sub (.op .Add (.op .Sub (.var 5) (.var 3)) (.var 6)) (.var 4))) .nil)))
noncomputable def eB:Ex:=(.idx (.var 1) (.op .Mod (.op .Add (.var 2) (.op .Mult (.var 3) (.var 0))) (.cst (.int 41))))
noncomputable def fJ:aT:=(.cons (.fz 3 (.ret (.bi .tuple (.cons (.bi .sorted (.cons (.var 3) .nil)) .nil)))) .nil)
noncomputable def dG:aT:=(.cons (.app 3 (.kQ 3 (.tup (.cons (.idx (.var 4) (.bi .len (.cons (.var 3) .nil))) (.cons (.idx (.lst (.cons (.cst (.str "door")) (.cons (.cst (.str "window")) .nil))) (.op .FloorDiv (.call 8 (.feed 0 (.cons (.cst (.int 3)) .nil))) (.cst (.int 2)))) (.cons (.var 5) (.cons (.var 10) (.cons (.var 11) (.cons (.var 9) .nil))))))))) (.cons (.set 6 (.op .Add (.var 6) (.var 9))) .nil))
noncomputable def fK:aT:=(.cons (.set 9 (.op .Add (.cst (.int 1)) (.call 8 (.feed 0 (.cons (.idx (.lst (.cons (.cst (.int 3)) (.cons (.bi .max (.cons (.cst (.int 1)) (.cons (.op .FloorDiv (.var 7) (.cst (.int 2))) .nil))) .nil))) (.call 8 (.feed 0 (.cons (.cst (.int 2)) .nil)))) .nil))))) (.cons (.set 6 (.op .Add (.var 6) (.call 8 (.feed 0 (.cons (.cst (.int 3)) .nil))))) (.cons (.iff (.fG (.aG .LtE (.op .Add (.var 6) (.var 9)) (.var 7)) (.fG (.kQ 3 (.aG .Lt (.bi .len (.cons (.var 3) .nil)) (.var 2))) (.c6 (.aG .Eq (.call 8 (.feed 0 (.cons (.cst (.int 3)) .nil))) (.cst (.int 0)))))) (.cons (.par 10 11 (.cons (.idx (.var 5) (.cst (.int 0))) (.cons (.var 6) .nil))) (.cons (.iff (.aG .Eq (.call 8 (.feed 0 (.cons (.cst (.int 2)) .nil))) (.cst (.int 0))) (.cons (.par 10 11 (.cons (.idx (.var 5) (.cst (.int 1))) (.cons (.op .Sub (.op .Sub (.var 7) (.var 6)) (.var 9)) .nil))) .nil) .nil) dG)) .nil) .nil)))
noncomputable def fL:aT:=(.cons (.dz (.nm 8) (.ef (.cons (.cst (.int 2)) .nil)) fK) .nil)
noncomputable def fM:aT:=(.cons (.set 6 (.cst (.int 0))) (.cons (.set 7 (.call 15 (.cons (.var 1) (.cons (.var 5) .nil)))) fL))
noncomputable def fN:aT:=(.cons (.dz (.nm 5) (.bD (.idx (.var 1) (.cst (.int 1)))) fM) fJ)
noncomputable def ua:aT:=(.cons (.fz 4 (.ret (.bi .tuple (.cons (.var 4) .nil)))) .nil)
noncomputable def om:aT:=(.cons (.set 8 (.op .Add (.cst (.int 1)) (.call 8 (.feed 0 (.cons (.idx (.lst (.cons (.cst (.int 3)) (.cons (.var 7) .nil))) (.op .FloorDiv (.call 8 (.feed 0 (.cons (.cst (.int 8)) .nil))) (.cst (.int 7)))) .nil))))) (.cons (.set 9 (.call 8 (.feed 0 (.cons (.bi .max (.cons (.cst (.int 1)) (.cons (.op .Sub (.op .Add (.op .Sub (.var 7) (.var 8)) (.cst (.int 2))) (.call 8 (.feed 0 (.cons (.cst (.int 2)) .nil)))) .nil))) .nil)))) (.cons (.app 4 (.tup (.cons (.var 5) (.cons (.idx (.lst (.cons (.cst (.str "door")) (.cons (.cst (.str "window")) .nil))) (.call 8 (.feed 0 (.cons (.cst (.int 2)) .nil)))) (.cons (.var 6) (.cons (.idx (.var 6) (.call 8 (.feed 0 (.cons (.cst (.int 2)) .nil)))) (.cons (.var 9) (.cons (.var 8) .nil)))))))) .nil)))
noncomputable def oo:aT:=(.cons (.set 6 (.idx (.lst (.cons (.var 3) (.cons (.idx (.idx (.var 1) (.cst (.int 1))) (.call 8 (.feed 0 (.cons (.bi .len (.cons (.idx (.var 1) (.cst (.int 1))) .nil)) .nil)))) .nil))) (.call 8 (.feed 0 (.cons (.cst (.int 2)) .nil))))) (.cons (.set 7 (.call 15 (.cons (.var 1) (.cons (.var 6) .nil)))) om))
noncomputable def ot:aT:=(.cons (.set 3 (.idx (.idx (.var 1) (.cst (.int 1))) (.call 8 (.feed 0 (.cons (.bi .len (.cons (.idx (.var 1) (.cst (.int 1))) .nil)) .nil))))) (.cons (.jc 4 .nil) (.cons (.dz (.nm 5) (.bD (.var 2)) oo) ua)))
noncomputable def ub:aT:=(.cons (.ret (.tup (.cons (.op .Sub (.op .Sub (.var 8) (.var 6)) (.var 7)) (.cons (.op .Sub (.var 8) (.var 6)) .nil)))) .nil)
noncomputable def qC:aT:=(.cons (.fz 2 (.ret (.Hn (.var 2)))) .nil)
noncomputable def lJ:aT:=(.cons (.iff (.aG .Lt (.bi .max (.cons (.var 4) (.cons (.var 7) .nil))) (.bi .min (.cons (.var 5) (.cons (.var 8) .nil)))) (.cons (.app 2 (.idx (.var 3) (.cst (.int 0)))) .nil) .nil) .nil)
noncomputable def iK:aT:=(.cons (.iff (.fG (.aG .NotEq (.idx (.var 6) (.cst (.int 0))) (.idx (.var 3) (.cst (.int 0)))) (.c6 (.aG .Eq (.idx (.var 6) (.cst (.int 2))) (.idx (.var 3) (.cst (.int 2)))))) (.cons (.asg (.tup 2 (.cons (.nm 7) (.cons (.nm 8) .nil))) (.call 19 (.cons (.var 0) (.cons (.var 6) .nil)))) lJ) .nil) .nil)
noncomputable def lL:aT:=(.cons (.dz (.nm 6) (.bD (.var 1)) iK) .nil)
noncomputable def qD:aT:=(.cons (.iff (.xQ (.aG .Lt (.var 4) (.cst (.int 0))) (.c6 (.aG .Gt (.var 5) (.call 15 (.cons (.var 0) (.cons (.idx (.var 3) (.cst (.int 2))) .nil)))))) (.cons (.app 2 (.idx (.var 3) (.cst (.int 0)))) .nil) .nil) lL)
noncomputable def iL:aT:=(.cons (.asg (.tup 2 (.cons (.nm 4) (.cons (.nm 5) .nil))) (.call 19 (.cons (.var 0) (.cons (.var 3) .nil)))) qD)
noncomputable def qF:aT:=(.cons (.asg (.tup 2 (.cons (.nm 5) (.cons (.nm 6) .nil))) (.idx (.var 4) (.idx (.idx (.var 1) (.cst (.int 2))) (.cst (.int 0))))) (.cons (.iff (.aG .Eq (.idx (.idx (.var 4) (.idx (.idx (.var 1) (.cst (.int 2))) (.cst (.int 1)))) (.cst (.int 0))) (.var 5)) (.cons (.ret (.tup (.cons (.var 5) (.cons (.op .Add (.var 6) (.var 2)) (.cons (.var 5) (.cons (.op .Add (.var 6) (.var 3)) .nil)))))) .nil) .nil) (.cons (.ret (.tup (.cons (.op .Add (.var 5) (.var 2)) (.cons (.var 6) (.cons (.op .Add (.var 5) (.var 3)) (.cons (.var 6) .nil)))))) .nil)))
noncomputable def qG:aT:=(.cons (.set 4 (.call 14 (.cons (.var 0) .nil))) qF)
noncomputable def r8:aT:=(.cons (.ret (.and (.cmp .Is (.call 7 (.cons (.var 2) (.cons (.var 7) .nil))) (.cst (.bH))) (.one (.cmp .Is (.call 7 (.cons (.var 2) (.cons (.tup .nil) .nil))) (.cst (.bH)))))) .nil)
noncomputable def r9:aT:=(.cons (.set 7 (.call 17 (.feed 1 (.cons (.var 2) (.cons (.cst (.int 40)) .nil))))) r8)
noncomputable def ou:aT:=(.cons (.iff (.fG (.aG .LtE (.op .Add (.idx (.var 6) (.cst (.int 4))) (.idx (.var 6) (.cst (.int 5)))) (.call 15 (.cons (.var 2) (.cons (.idx (.var 6) (.cst (.int 2))) .nil)))) (.c6 (.aG .NotEq (.bi .repr (.cons (.call 3 (.cons (.var 2) (.cons (.var 6) .nil))) .nil)) (.bi .repr (.cons (.call 21 (.cons (.var 2) (.cons (.var 6) .nil))) .nil))))) (.cons (.ret (.cst (.bl Mw))) .nil) .nil) .nil)
noncomputable def ym:aT:=(.cons (.dz (.nm 6) (.bD (.var 4)) ou) .nil)
noncomputable def r_:aT:=(.cons (.iff (.xQ (.aG .NotEq (.call 7 (.cons (.var 2) (.cons (.var 4) .nil))) (.var 5)) (.c6 (.aG .NotEq (.call 7 (.cons (.var 2) (.cons (.var 4) .nil))) (.var 5)))) (.cons (.ret (.cst (.bl Mw))) .nil) .nil) ym)
noncomputable def se:aT:=(.cons (.set 5 (.call 20 (.cons (.var 2) (.cons (.var 4) .nil)))) r_)
noncomputable def ox:aT:=(.cons (.set 4 (.call 18 (.feed 1 (.cons (.var 2) .nil)))) se)
noncomputable def yn:aT:=(.cons (.dz (.nm 3) (.ef (.cons (.cst (.int 3)) .nil)) ox) r9)
noncomputable def sf:aT:=(.cons (.iff (.aG .Eq (.idx (.var 2) (.cst (.int 1))) (.tup .nil)) (.cons (.ret (.cmp .Is (.call 7 (.cons (.var 2) (.cons (.tup .nil) .nil))) (.cst (.bH)))) .nil) .nil) yn)
noncomputable def oy:Df:=⟨1,1,(.cons (.ret (.dc ["c","x","y"] [] (.tup 3 (.cons (.nm 0) (.cons (.nm 1) (.cons (.nm 2) .nil)))) (.bD (.idx (.var 0) (.cst (.int 0)))) .yes (.var 0) (.tup (.cons (.var 1) (.cons (.var 2) .nil))))) .nil)⟩
noncomputable def gW:Df:=⟨2,2,(.cons (.ret (.op .Add (.bi .abs (.cons (.op .Sub (.idx (.var 1) (.cst (.int 0))) (.idx (.var 0) (.cst (.int 0)))) .nil)) (.bi .abs (.cons (.op .Sub (.idx (.var 1) (.cst (.int 1))) (.idx (.var 0) (.cst (.int 1)))) .nil)))) .nil)⟩
noncomputable def oz:Df:=⟨2,11,(.cons (.asg (.tup 6 (.cons (.nm 2) (.cons (.nm 3) (.cons (.tup 2 (.cons (.nm 4) (.cons (.nm 5) .nil))) (.cons (.nm 6) (.cons (.nm 7) (.cons (.nm 8) .nil))))))) (.var 1)) (.cons (.iff (.aG .Eq (.var 6) (.var 4)) (.cons (.ret (.tup (.cons (.var 7) (.cons (.op .Add (.var 7) (.var 8)) .nil)))) .nil) .nil) (.cons (.set 9 (.call 0 (.cons (.var 0) .nil))) qu)))⟩
noncomputable def jj:Df:=⟨2,9,(.cons (.set 2 (.call 0 (.cons (.var 0) .nil))) lE)⟩
noncomputable def dQ:Df:=⟨2,10,(.cons (.asg (.tup 6 (.cons (.nm 2) (.cons (.nm 3) (.cons (.tup 2 (.cons (.nm 4) (.cons (.nm 5) .nil))) (.cons (.nm 6) (.cons (.nm 7) (.cons (.nm 8) .nil))))))) (.var 1)) (.cons (.set 9 (.call 0 (.cons (.var 0) .nil))) fH))⟩
noncomputable def fO:Df:=⟨3,7,(.cons (.iff (.aG .NotEq (.idx (.var 1) (.cst (.int 2))) (.idx (.var 2) (.cst (.int 2)))) (.cons (.ret (.cst (.bl Mv))) .nil) .nil) (.cons (.asg (.tup 2 (.cons (.nm 3) (.cons (.nm 4) .nil))) (.call 2 (.cons (.var 0) (.cons (.var 1) .nil)))) iJ))⟩
noncomputable def lM:Df:=⟨3,4,(.cons (.set 3 (.lc ["other"] [2] (.nm 0) (.bD (.var 1)) eA gi)) (.cons (.ret (.and (.call 4 (.cons (.var 0) (.cons (.var 2) .nil))) (.one (.bi .all (.cons (.lc ["other"] [0,2] (.nm 0) (.bD (.var 3)) .yes da) .nil))))) .nil))⟩
noncomputable def du:Df:=⟨2,3,(.cons (.dz (.nm 2) (.bD (.var 1)) bC) jK)⟩
noncomputable def fP:Df:=⟨3,6,(.cons (.set 3 (.op .Mult (.call 8 (.feed 0 (.cons (.cst (.int 3)) .nil))) (.var 2))) (.cons (.jc 4 (.cons (.var 3) .nil)) (.cons (.dz (.nm 5) (.ef (.cons (.op .Sub (.var 1) (.cst (.int 1))) .nil)) t8) t7)))⟩
noncomputable def eV:Df:=⟨3,10,(.cons (.xT 3) (.cons (.dz (.nm 4) (.ef (.cons (.var 2) .nil)) lG) qy))⟩
noncomputable def dR:Df:=⟨2,6,(.cons (.dz (.nm 2) (.bD (.kQ 1 (.bi .sorted (.cons (.var 1) .nil)))) ji) nk)⟩
noncomputable def dv:Df:=⟨2,5,(.cons (.iff (.aG .Eq (.call 8 (.feed 0 (.cons (.cst (.int 2)) .nil))) (.cst (.int 0))) (.cons (.set 2 (.idx (.lst (.cons (.cst (.int 7)) (.cons (.cst (.int 303)) (.cons (.cst (.int 617)) (.cons (.cst (.int 999)) .nil))))) (.call 8 (.feed 0 (.cons (.cst (.int 4)) .nil))))) (.cons (.set 3 (.call 8 (.feed 0 (.cons (.cst (.int 1000)) .nil)))) (.cons (.ret (.lc ["_law_k"] [2,3] (.nm 0) (.ef (.cons (.var 1) .nil)) .yes gS)) .nil))) .nil) lH)⟩
noncomputable def gX:Df:=⟨3,13,(.cons (.par 3 4 (.cons (.op .Add (.cst (.int 2)) (.call 8 (.feed 0 (.cons (.op .Sub (.var 1) (.cst (.int 1))) .nil)))) (.cons (.op .Add (.cst (.int 2)) (.call 8 (.feed 0 (.cons (.op .Sub (.var 1) (.cst (.int 1))) .nil)))) .nil))) (.cons (.set 5 (.qf 11 0 10 (.feed 0 (.cons (.var 3) (.cons (.var 4) .nil))))) t_))⟩
noncomputable def cQ:Df:=⟨1,5,(.cons (.gr 1) (.cons (.dz (.tup 3 (.cons (.nm 2) (.cons (.nm 3) (.cons (.nm 4) .nil)))) (.bD (.idx (.var 0) (.cst (.int 0)))) fI) qB))⟩
noncomputable def dU:Df:=⟨2,7,(.cons (.set 2 (.call 14 (.cons (.var 0) .nil))) nu)⟩
noncomputable def eW:Df:=⟨2,5,(.cons (.set 2 (.lst (.cons (.cst (.str "a")) (.cons (.cst (.str "b")) (.cons (.cst (.str "zz")) (.cons (.cst (.str "table")) (.cons (.cst (.str "aa")) (.cons (.cst (.str "z")) (.cons (.cst (.str "abcdefgh")) (.cons (.cst (.str "abcdefgi")) (.cons (.cst (.str "door")) (.cons (.cst (.str "x")) (.cons (.cst (.str "wall")) (.cons (.cst (.str "ab")) (.cons (.cst (.str "ba")) (.cons (.cst (.str "hold")) (.cons (.cst (.str "end")) .nil))))))))))))))))) (.cons (.set 2 (.op .Add (.var 2) (.lst (.cons (.cst (.str "q")) (.cons (.cst (.str "left")) (.cons (.cst (.str "m")) (.cons (.cst (.str "is")) (.cons (.cst (.str "go")) (.cons (.cst (.str "one")) (.cons (.cst (.str "xy")) (.cons (.cst (.str "window")) (.cons (.cst (.str "thing")) (.cons (.cst (.str "n")) (.cons (.cst (.str "east")) (.cons (.cst (.str "ax")) (.cons (.cst (.str "bx")) (.cons (.cst (.str "cx")) (.cons (.cst (.str "dx")) .nil)))))))))))))))))) (.cons (.set 2 (.op .Add (.var 2) (.lst (.cons (.cst (.str "ey")) (.cons (.cst (.str "fy")) (.cons (.cst (.str "gy")) (.cons (.cst (.str "hy")) (.cons (.cst (.str "iy")) (.cons (.cst (.str "jy")) (.cons (.cst (.str "ky")) (.cons (.cst (.str "ly")) (.cons (.cst (.str "my")) (.cons (.cst (.str "ny")) (.cons (.cst (.str "oy")) .nil)))))))))))))) (.cons (.set 3 (.call 8 (.feed 0 (.cons (.cst (.int 41)) .nil)))) (.cons (.set 4 (.idx (.lst (.cons (.cst (.int 1)) (.cons (.cst (.int 3)) (.cons (.cst (.int 7)) (.cons (.cst (.int 11)) (.cons (.cst (.int 13)) (.cons (.cst (.int 40)) .nil))))))) (.call 8 (.feed 0 (.cons (.cst (.int 6)) .nil))))) (.cons (.ret (.lc ["_law_k"] [2,3,4] (.nm 0) (.ef (.cons (.var 1) .nil)) .yes eB)) .nil))))))⟩
noncomputable def cR:Df:=⟨3,12,(.cons (.jc 3 .nil) (.cons (.set 4 (.call 16 (.feed 0 (.cons (.cst (.int 41)) .nil)))) fN))⟩
noncomputable def fQ:Df:=⟨2,10,(.cons (.set 2 (.bi .sorted (.cons (.call 16 (.feed 0 (.cons (.op .Add (.cst (.int 1)) (.call 8 (.feed 0 (.cons (.idx (.lst (.cons (.cst (.int 4)) (.cons (.cst (.int 8)) (.cons (.cst (.int 40)) .nil)))) (.call 8 (.feed 0 (.cons (.cst (.int 3)) .nil)))) .nil)))) .nil))) .nil))) ot)⟩
noncomputable def fR:Df:=⟨2,9,(.cons (.asg (.tup 6 (.cons (.nm 2) (.cons (.nm 3) (.cons (.nm 4) (.cons (.nm 5) (.cons (.nm 6) (.cons (.nm 7) .nil))))))) (.var 1)) (.cons (.iff (.aG .Eq (.var 5) (.idx (.var 4) (.cst (.int 0)))) (.cons (.ret (.tup (.cons (.var 6) (.cons (.op .Add (.var 6) (.var 7)) .nil)))) .nil) .nil) (.cons (.set 8 (.call 15 (.cons (.var 0) (.cons (.var 4) .nil)))) ub)))⟩
noncomputable def eX:Df:=⟨2,9,(.cons (.jc 2 .nil) (.cons (.dz (.nm 3) (.bD (.var 1)) iL) qC))⟩
noncomputable def eY:Df:=⟨2,7,(.cons (.asg (.tup 2 (.cons (.nm 2) (.cons (.nm 3) .nil))) (.call 19 (.cons (.var 0) (.cons (.var 1) .nil)))) qG)⟩
noncomputable def dn:List MR:=[Mr "spots",Mr "distance",Mr "reach",Mr "stretch",Mr "ends_within",Mr "are_clear",Mr "stands",Mr "first_fallen",Mr "_law_draw",Mr "_law_line",Mr "_law_links",Mr "_law_merged",Mr "_law_numbers",Mr "_law_net",Mr "_law_spots_of",Mr "_law_length",Mr "_law_names",Mr "_law_openings",Mr "_law_some",Mr "_law_span",Mr "_law_first",Mr "_law_spots"]
noncomputable def gn:List MR:=[]
noncomputable def Js:dP:=⟨dn,gn⟩
noncomputable def KZ:List (Option D):=[]
noncomputable def ents:List En:=[⟨Mr "spots",[Mr "net"],[Mr "net"],.df oy⟩,⟨Mr "distance",[Mr "one",Mr "other"],[Mr "one",Mr "other"],.df gW⟩,⟨Mr "reach",[Mr "net",Mr "opening",Mr "name",Mr "kind",Mr "a",Mr "b",Mr "end",Mr "at",Mr "width",Mr "known",Mr "far"],[Mr "net",Mr "opening"],.df oz⟩,⟨Mr "stretch",[Mr "net",Mr "opening",Mr "known",Mr "a",Mr "b",Mr "x",Mr "y",Mr "low",Mr "high"],[Mr "net",Mr "opening"],.df jj⟩,⟨Mr "ends_within",[Mr "net",Mr "opening",Mr "name",Mr "kind",Mr "a",Mr "b",Mr "end",Mr "at",Mr "width",Mr "known"],[Mr "net",Mr "opening"],.df dQ⟩,⟨Mr "are_clear",[Mr "net",Mr "opening",Mr "other",Mr "low",Mr "high",Mr "least",Mr "most"],[Mr "net",Mr "opening",Mr "other"],.df fO⟩,⟨Mr "stands",[Mr "net",Mr "openings",Mr "opening",Mr "others"],[Mr "net",Mr "openings",Mr "opening"],.df lM⟩,⟨Mr "first_fallen",[Mr "net",Mr "openings",Mr "opening"],[Mr "net",Mr "openings"],.df du⟩,⟨Mr "_law_draw",[Mr "_law_feed_here",Mr "_law_many",Mr "_law_got",Mr "_law_at",Mr "_law_cell",Mr "_law_number"],[Mr "_law_feed_here",Mr "_law_many"],.wit t6⟩,⟨Mr "_law_line",[Mr "_law_feed_here",Mr "_law_many",Mr "_law_scale",Mr "_law_here",Mr "_law_found",Mr "_law_k"],[Mr "_law_feed_here",Mr "_law_many",Mr "_law_scale"],.df fP⟩,⟨Mr "_law_links",[Mr "_law_feed_here",Mr "_law_columns",Mr "_law_rows",Mr "_law_links_here",Mr "_law_j",Mr "_law_i",Mr "_law_framed",Mr "_law_many",Mr "_law_there",Mr "_law_rim"],[Mr "_law_feed_here",Mr "_law_columns",Mr "_law_rows"],.df eV⟩,⟨Mr "_law_merged",[Mr "_law_feed_here",Mr "_law_links_here",Mr "_law_knot",Mr "_law_beside_it",Mr "_law_one",Mr "_law_other"],[Mr "_law_feed_here",Mr "_law_links_here"],.df dR⟩,⟨Mr "_law_numbers",[Mr "_law_feed_here",Mr "_law_many",Mr "_law_step",Mr "_law_first_here",Mr "_law_left"],[Mr "_law_feed_here",Mr "_law_many"],.df dv⟩,⟨Mr "_law_net",[Mr "_law_feed_here",Mr "_law_most",Mr "_law_scale",Mr "_law_columns",Mr "_law_rows",Mr "_law_links_here",Mr "_law_xs",Mr "_law_ys",Mr "_law_knots",Mr "_law_numbers_here",Mr "_law_corners",Mr "_law_shuts",Mr "_law_knot"],[Mr "_law_feed_here",Mr "_law_most",Mr "_law_scale"],.df gX⟩,⟨Mr "_law_spots_of",[Mr "_law_net_here",Mr "_law_found",Mr "_law_c",Mr "_law_x",Mr "_law_y"],[Mr "_law_net_here"],.df cQ⟩,⟨Mr "_law_length",[Mr "_law_net_here",Mr "_law_shut",Mr "_law_spots_here",Mr "_law_x",Mr "_law_y",Mr "_law_u",Mr "_law_v"],[Mr "_law_net_here",Mr "_law_shut"],.df dU⟩,⟨Mr "_law_names",[Mr "_law_feed_here",Mr "_law_many",Mr "_law_some_here",Mr "_law_first_here",Mr "_law_step"],[Mr "_law_feed_here",Mr "_law_many"],.df eW⟩,⟨Mr "_law_openings",[Mr "_law_feed_here",Mr "_law_net_here",Mr "_law_most",Mr "_law_found",Mr "_law_names_here",Mr "_law_shut",Mr "_law_here",Mr "_law_length_here",Mr "_law_turn",Mr "_law_size",Mr "_law_end",Mr "_law_at"],[Mr "_law_feed_here",Mr "_law_net_here",Mr "_law_most"],.df cR⟩,⟨Mr "_law_some",[Mr "_law_feed_here",Mr "_law_net_here",Mr "_law_names_here",Mr "_law_one",Mr "_law_found",Mr "_law_name",Mr "_law_shut",Mr "_law_length_here",Mr "_law_width",Mr "_law_at"],[Mr "_law_feed_here",Mr "_law_net_here"],.df fQ⟩,⟨Mr "_law_span",[Mr "_law_net_here",Mr "_law_opening",Mr "_law_name",Mr "_law_kind",Mr "_law_shut",Mr "_law_end",Mr "_law_at",Mr "_law_width",Mr "_law_length_here"],[Mr "_law_net_here",Mr "_law_opening"],.df fR⟩,⟨Mr "_law_first",[Mr "_law_net_here",Mr "_law_openings_here",Mr "_law_fallen",Mr "_law_one",Mr "_law_low",Mr "_law_high",Mr "_law_other",Mr "_law_least",Mr "_law_greatest"],[Mr "_law_net_here",Mr "_law_openings_here"],.df eX⟩,⟨Mr "_law_spots",[Mr "_law_net_here",Mr "_law_opening",Mr "_law_low",Mr "_law_high",Mr "_law_spots_here",Mr "_law_x",Mr "_law_y"],[Mr "_law_net_here",Mr "_law_opening"],.df eY⟩]
noncomputable def sh:List MR:=[Mr "_law_script",Mr "_law_feed_here",Mr "_law_net_here",Mr "_law_turn",Mr "_law_openings_here",Mr "_law_due",Mr "_law_one",Mr "_law_standing"]
noncomputable def rest:aT:=(.cons (.set 2 (.call 13 (.feed 1 (.cons (.cst (.int 5)) (.cons (.idx (.lst (.cons (.cst (.int 1)) (.cons (.cst (.int 1)) (.cons (.cst (.int 1000)) .nil)))) (.call 8 (.feed 1 (.cons (.cst (.int 3)) .nil)))) .nil))))) sf)
noncomputable def defs:List Dk:=ents.map (·.k)
noncomputable def gv:Gv:=⟨Im KZ⟩
end K41
end
section
namespace K41
open PySem L2
theorem LM(p:RL):LK (head.heap_39 p)=Mv:=by kernel_rfl
theorem Me(p:RL):E4 (head.heap_39 p) gn KZ=Mv:=by kernel_rfl
theorem Mf(p:RL):E2 (head.heap_39 p) Js ents=Mv:=by kernel_rfl
end K41
end
section
namespace K41
open PySem L2
noncomputable abbrev parts(s:MR)(st:Ou):Option (MR×MR×RV×List Ou×Of):=Mq (s,s,cY st,bY st,ar st)
theorem Mg(p:RL):(vx (head.heap_39 p) "_law_feed").map iH=parts "_law_feed" K41d.yb:=by kernel_rfl
theorem K0:qr (cY K41d.yb) ["_law_script"]=Mv:=by kernel_rfl
theorem Mh(p:RL):(vx (head.heap_39 p) "law").map iH=parts "law" K41d.qp:=by kernel_rfl
theorem K1:qr (cY K41d.qp) ["_law_script"]=Mv:=by kernel_rfl
theorem K2:(ET Js ⟨sh,ar K41d.qp,Mv,[]⟩ rest (bY K41d.qp).tail).ok=Mv:=by kernel_rfl
theorem K3:Jq sh ["_law_script"] (ar K41d.qp)=Mv:=by kernel_rfl
theorem K4:eT ⟨sh,ar K41d.qp,Mv,[]⟩ 1 "_law_feed_here"=Mv:=by kernel_rfl
theorem K5:cq ⟨sh,ar K41d.qp,Mv,[]⟩ 0 "_law_script"=Mv:=by kernel_rfl
theorem K6:cu ⟨sh,ar K41d.qp,Mv,[]⟩ "_law_feed"=Mv:=by kernel_rfl
theorem Mi:dn=ents.map (·.x):=by kernel_rfl
theorem Mj(p:RL):(vx (head.heap_39 p) "_law_draw").map iH=parts "_law_draw" K41d.qo:=by kernel_rfl
theorem K7:qr (cY K41d.qo) ["_law_feed_here","_law_many"]=Mv:=by kernel_rfl
section
variable{P:MQ}{w:M6}{mg:MR->Option Mt}{base h:M7}{p:RL}
theorem yo(X:Rb (head.heap_39 p) h)(G:h.Ns Nq mg)(a:mg "len"=Mu):FO P w (head.heap_39 p) mg base "_law_draw" 2 K41d.t6:=by
 obtain⟨f,fd,F,e,B⟩:=lC (Mj p) K7;exact K41d.yc F a (QX X G e) (.all B)
theorem A0(X:Rb (head.heap_39 p) h)(G:h.Ns Nq mg)(a:mg "list"=Mu):∃f fd,dZ P w (head.heap_39 p) mg base qL 1 f fd ["_law_script"] (rT (head.heap_39 p))/\mg "_law_feed"=Mq (.ref f)/\PM (head.heap_39 p) (.ref f)=Mv/\Binds (head.heap_39 p) fd ["_law_script"] []:=by
 obtain⟨f,fd,F,e,B⟩:=lC (Mg p) K0;exact⟨f,fd,AZ F K41d.EX a rfl rfl,QX X G e,F.kp,.all B⟩
end
end K41
end
section
namespace K41
open PySem L2
noncomputable def uc(e:En):Bool:=match e.k with
 |.wit _=>Mv|.df _=>Mw
theorem K8:(ents.filter uc).map (λe=>(e.x,e.k))=[(Mr "_law_draw",.wit K41d.t6)]:=by kernel_rfl
theorem txt{P:MQ}{w:M6}{mg:MR->Option Mt}{base h:M7}(X:Rb (head.heap_39 w.params) h)(G:h.Ns Nq mg):jA P w (head.heap_39 w.params) mg base Js defs gv:=by
 have b:mg "len"=Mu:=by
  have:=List.all_eq_true.mp (LM w.params) (Mr "len") (by simp[eU]);split at this;.rename_i e;exact TX X G e
  .cases this
 refine E5 (ds:=KZ) X G Mi (Mf w.params) (Me w.params) (LM w.params) λe j t g=>?_;have i:e∈ents.filter uc:=List.mem_filter.mpr ⟨j,by unfold uc;rw[g]⟩;have a:(e.x,e.k)∈(ents.filter uc).map λe=>(e.x,e.k):=Tt (f:=λe:En=>(e.x,e.k)) i;rw[K8]at a;have d:=List.mem_singleton.mp a;injection d with l c;rw[g]at c;injection c with c;subst c;rw[l];exact⟨2,yo X G b⟩
theorem Ip(whole:(aw (gv.ev (aI defs gv 39)) rest (Mu::Mq .feed::NY (sh.length-2) Mu)).md 1000000 (λd=>d=.rt (.bl Mv)))(p:RL):∃f fd,PZ (head.heap_39 p) Nq "law"=Mq (Mq (.ref f))/\(∀us:List Mt,us.length=1->T1 fd ⟨us,[]⟩=pure ([Mr "_law_script"].zip us))/\∀{P:MQ}{w:M6}{mg:MR->Option Mt}{base:M7},w.params=p->Rb (head.heap_39 p) base->base.Ns Nq mg->dZ P w (head.heap_39 p) mg base qL 40 f fd ["_law_script"] (yk (head.heap_39 p)):=by
 obtain⟨f,fd,F,c,b⟩:=lC (Mh p) K1;refine⟨f,fd,c,b,λ{P w mg base}a X G=>?_⟩;subst a;have T:jA P w (head.heap_39 w.params) mg base Js defs gv:=txt X G;exact E6 (n:=38) (m:=1000000) T F (yh K3) (A0 X G (T.bl _ (BO rfl))) rfl K4 K5 K6 (Ch.of K2) (by decide) whole
end K41
end
section
namespace L2
namespace T
variable{α β:Type}
noncomputable def Jt:T α->Nat->(α->Nat->Prop)->Prop
 |.ok a,m,Q=>Q a m|.stuck,_,_=>False|.draw n k,m,Q=>0<n/\n<1073741824/\0<m/\∀i,0<=i->i<n->(k i).Jt (m-1) Q|.perm l k,m,Q=>∀b,b.Perm l->(k b).Jt m Q
@[irreducible]def wp(t:T α)(m:Nat)(Q:α->Nat->Prop):Prop:=Jt t m Q
theorem ud(t:T α)(m:Nat)(Q:α->Nat->Prop):t.wp m Q=t.Jt m Q:=by unfold wp;rfl
theorem ao(a:α)(m:Nat)(Q:α->Nat->Prop):(T.ok a).wp m Q=Q a m:=by rw[ud];rfl
theorem fS(m:Nat)(Q:α->Nat->Prop):(T.stuck:T α).wp m Q=False:=by rw[ud];rfl
theorem eZ(n:Int)(k:Int->T α)(m:Nat)(Q:α->Nat->Prop):(T.draw n k).wp m Q=(0<n/\n<1073741824/\0<m/\∀i,0<=i->i<n->(k i).wp (m-1) Q):=by simp only[ud];rfl
theorem gj(l:List D)(k:List D->T α)(m:Nat)(Q:α->Nat->Prop):(T.perm l k).wp m Q=∀l',l'.Perm l->(k l').wp m Q:=by simp only[ud];rfl
theorem wp_pure(a:α)(m:Nat)(Q:α->Nat->Prop):(pure a:T α).wp m Q=Q a m:=ao a m Q
theorem oA{P:α->Prop}:∀{t:T α}{m:Nat},t.wp m (λa _=>P a)->t.md m P
 |.ok a,m,h=>.ok (by rw[ao]at h;exact h)|.stuck,_,h=>by rw[fS]at h;exact h.elim|.draw n k,m,h=>by
  rw[eZ]at h;obtain⟨f,e,g,d⟩:=h;cases m with
  |zero=>omega|succ m=>exact .draw f e λi a b=>oA (d i a b)
 |.perm l k,m,h=>by
  rw[gj]at h;exact .perm λc p=>oA (h c p)
theorem wp_mono{Q Q':α->Nat->Prop}(q:∀a m,Q a m->Q' a m):∀{t:T α}{m:Nat},t.wp m Q->t.wp m Q'
 |.ok a,m,h=>by rw[ao]at h⊢;exact q _ _ h|.stuck,_,h=>by rw[fS]at h;exact h.elim|.draw n k,m,h=>by
  rw[eZ]at h⊢;exact⟨h.1,h.2.1,h.2.2.1,λi a b=>wp_mono q (h.2.2.2 i a b)⟩|.perm l k,m,h=>by
  rw[gj]at h⊢;exactλc p=>wp_mono q (h c p)
theorem wp_bind(f:α->T β):∀(t:T α)(m:Nat)(Q:β->Nat->Prop),(t>>=f).wp m Q=t.wp m (λa b=>(f a).wp b Q)
 |.ok a,m,Q=>by rw[ao];rfl|.stuck,_,_=>by rw[fS];exact fS _ _|.draw n k,m,Q=>by
  rw[eZ];show(T.draw n λi=>k i>>=f).wp m Q=_;rw[eZ];simp only[wp_bind f]|.perm l k,m,Q=>by
  rw[gj];show(T.perm l λi=>k i>>=f).wp m Q=_;rw[gj];simp only[wp_bind f]
theorem jX(b:Bool)(m:Nat)(Q:Unit->Nat->Prop):(T.need b).wp m Q=(b=Mv/\Q () m):=by
 unfold T.need;cases b with
 |true=>simp[ao]|false=>simp[fS]
theorem iM(a:α)(m:Nat)(Q:α->Nat->Prop):(T.get (Mq a)).wp m Q=Q a m:=ao a m Q
theorem A2(b:Bool)(x y:T α)(m:Nat)(Q:α->Nat->Prop):(if b=Mv then x else y).wp m Q=if b=Mv then x.wp m Q else y.wp m Q:=by split<;>rfl
end T
theorem e7{g:D->ag->T ag}{body:ag->T Fl}{Q:Fl->Nat->Prop}(I:List D->ag->Nat->Prop)(step:∀d ds ρ m,I (d::ds) ρ m->(g d ρ).wp m λρ1 m1=>(body ρ1).wp m1 λe m2=>match e with
   |.nx a=>I ds a m2|.ct a=>I ds a m2|.bk a=>Q (.nx a) m2|.rt r=>Q (.rt r) m2|.ro _=>False)(b:∀ρ m,I [] ρ m->Q (.nx ρ) m):∀{ds:List D}{ρ:ag}{m:Nat},I ds ρ m->(c7 g body ds ρ).wp m Q
 |[],ρ,m,h=>by
  show(T.ok (Fl.nx ρ)).wp m Q;rw[T.ao];exact b ρ m h|d::ds,ρ,m,h=>by
  unfold c7;rw[T.wp_bind];refine T.wp_mono (λρ1 m1 f=>?_) (step d ds ρ m h);rw[T.wp_bind];refine T.wp_mono (λe m2 c=>?_) f;cases e with
  |nx a=>exact e7 I step b c|ct a=>exact e7 I step b c|bk a=>exact(T.ao _ _ _).mpr c|rt r=>exact(T.ao _ _ _).mpr c|ro r=>exact c.elim
theorem ai{b c:Type}(a:b)(f:b->T c):(T.ok a>>=f)=f a:=rfl
theorem K9(v:Ev):(∀i ρ,ak v (.var i) ρ=T.get (fx ρ i))/\(∀d ρ,ak v (.cst d) ρ=.ok d)/\(∀i ρ,ak v (.tW i) ρ=T.get (v.tW i))/\(∀o a b ρ,ak v (.op o a b) ρ=do let d<-ak v a ρ;let e<-ak v b ρ;rP o d e)/\(∀a ρ,ak v (.neg a) ρ=do let i<-bN (<-ak v a ρ);.ok (.int (-i)))/\(∀o a b ρ,ak v (.cmp o a b) ρ=do let d<-ak v a ρ;let e<-ak v b ρ;bq o d e)/\(∀a b ρ,ak v (.and a b) ρ=do let c<-aZ (<-ak v a ρ);if c then ak v b ρ else .ok (.bl Mw))/\(∀a b ρ,ak v (.or a b) ρ=do let c<-aZ (<-ak v a ρ);if c then .ok (.bl Mv)else ak v b ρ)/\(∀c a b ρ,ak v (.y9 c a b) ρ=do let x<-aX v c ρ;if x then ak v a ρ else ak v b ρ)/\(∀a ρ,ak v (.one a) ρ=ak v a ρ)/\(∀a ρ,ak v (.not a) ρ=do let c<-aZ (<-ak v a ρ);.ok (.bl (!c)))/\(∀o o' a b c ρ,ak v (.Jn o o' a b c) ρ=do let d<-ak v a ρ;let e<-ak v b ρ;let y<-aZ (<-bq o d e);if y then do let f<-ak v c ρ;bq o' e f else .ok (.bl Mw))/\(∀r ρ,ak v (.tup r) ρ=do let ds<-fi (<-c_ v r ρ);T.need (decide (ds.length<=OD));.ok (.tup ds))/\(∀r ρ,ak v (.lst r) ρ=do let ds<-fi (<-c_ v r ρ);T.need (decide (ds.length<=OD));.ok (.lst ds))/\(∀a b ρ,ak v (.idx a b) ρ=do let d<-ak v a ρ;let e<-ak v b ρ;fj d e)/\(∀a lo j ρ,ak v (.cut a lo j) ρ=do let d<-ak v a ρ;let l<-Er v lo ρ;let u<-Er v j ρ;Ht l u d)/\(∀f r ρ,ak v (.bi f r) ρ=do lT f (<-fi (<-c_ v r ρ)))/\(∀f r ρ,ak v (.call f r) ρ=do let as<-c_ v r ρ;v.call f as)/\(∀own js tg it c g ρ,ak v (.lc own js tg it c g) ρ=do let ds<-nc v it ρ;let r<-dF (ek tg) (λρ=>aX v c ρ) (λρ=>ak v g ρ) ds (dy ρ own.length js);.ok (.lst r))/\(∀i e ρ,ak v (.kQ i e) ρ=do let d<-ak v e (mM i ρ);T.need (flat (gr ρ i) d);.ok d)/\(∀a ρ,ak v (.Hn a) ρ=do Em (<-ak v a ρ))/\(∀r ρ,ak v (.xR r) ρ=do Hv (<-fi (<-c_ v r ρ)))/\(∀f i h r ρ,ak v (.qf f i h r) ρ=do T.need (bF ρ i);let bs<-c_ v r ρ;let d<-v.qg h bs;v.call f [.feed,.own d]):=⟨λ_ _=>rfl,λ_ _=>rfl,λ_ _=>rfl,λ_ _ _ _=>rfl,λ_ _=>rfl,λ_ _ _ _=>rfl,λ_ _ _=>rfl,λ_ _ _=>rfl,λ_ _ _ _=>rfl,λ_ _=>rfl,λ_ _=>rfl,λ_ _ _ _ _ _=>rfl,λ_ _=>rfl,λ_ _=>rfl,λ_ _ _=>rfl,λ_ _ _ _=>rfl,λ_ _ _=>rfl,λ_ _ _=>rfl,λ_ _ _ _ _ _ _=>rfl,λ_ _ _=>rfl,λ_ _=>rfl,λ_ _=>rfl,λ_ _ _ _ _=>rfl⟩
theorem K_(v:Ev):(∀ρ,aX v .yes ρ=.ok Mv)/\(∀a b ρ,aX v (.fG a b) ρ=do let c<-aX v a ρ;if c then aX v b ρ else .ok Mw)/\(∀a b ρ,aX v (.xQ a b) ρ=do let c<-aX v a ρ;if c then .ok Mv else aX v b ρ)/\(∀a ρ,aX v (.c6 a) ρ=aX v a ρ)/\(∀a ρ,aX v (.vp a) ρ=do let c<-aX v a ρ;.ok (!c))/\(∀a ρ,aX v (.BN a) ρ=do AO (<-ak v a ρ))/\(∀o a b ρ,aX v (.aG o a b) ρ=do let d<-ak v a ρ;let e<-ak v b ρ;aZ (<-bq o d e))/\(∀o o' a b c ρ,aX v (.AN o o' a b c) ρ=do let d<-ak v a ρ;let e<-ak v b ρ;let y<-aZ (<-bq o d e);if y then do let f<-ak v c ρ;aZ (<-bq o' e f)else .ok Mw)/\(∀a i ρ,aX v (.Hq a i) ρ=do let d<-ak v a ρ;let g<-T.get (fF ρ i);T.need (aC g.1 d);.ok (bU g.1 d))/\(∀i e ρ,aX v (.kQ i e) ρ=aX v e (mM i ρ)):=⟨λ_=>rfl,λ_ _ _=>rfl,λ_ _ _=>rfl,λ_ _=>rfl,λ_ _=>rfl,λ_ _=>rfl,λ_ _ _ _=>rfl,λ_ _ _ _ _ _=>rfl,λ_ _ _=>rfl,λ_ _ _=>rfl⟩
theorem La(v:Ev):(∀ρ,c_ v .nil ρ=.ok [])/\(∀a r ρ,c_ v (.cons a r) ρ=do let d<-ak v a ρ;let xs<-c_ v r ρ;.ok (.d d::xs))/\(∀i r ρ,c_ v (.feed i r) ρ=do T.need (bF ρ i);let xs<-c_ v r ρ;.ok (.feed::xs))/\(∀ρ,Er v .nil ρ=.ok Mu)/\(∀a ρ,Er v (.one a) ρ=do let i<-bN (<-ak v a ρ);.ok (Mq i)):=⟨λ_=>rfl,λ_ _ _=>rfl,λ_ _ _=>rfl,λ_=>rfl,λ_ _=>rfl⟩
theorem LN(v:Ev):(∀r ρ,nc v (.ef r) ρ=do match<-fi (<-c_ v r ρ)with|[d]=>Ep d|_=>.stuck)/\(∀a ρ,nc v (.bD a) ρ=do T.get (d8 (<-ak v a ρ))):=⟨λ_ _=>rfl,λ_ _=>rfl⟩
theorem si:(∀i d ρ,ek (.nm i) d ρ=.ok (ρ.set i (Mq (.d d))))/\(∀n r ds ρ,ek (.tup n r) (.tup ds) ρ=if ds.length=n then jb r ds ρ else .stuck)/\(∀n r ds ρ,ek (.tup n r) (.lst ds) ρ=if ds.length=n then jb r ds ρ else .stuck)/\(∀ρ,jb .nil [] ρ=.ok ρ)/\(∀t r d ds ρ,jb (.cons t r) (d::ds) ρ=do let ρ'<-ek t d ρ;jb r ds ρ'):=⟨λ_ _ _=>rfl,λ_ _ _ _=>rfl,λ_ _ _ _=>rfl,λ_=>rfl,λ_ _ _ _ _=>rfl⟩
theorem cJ(v:Ev)(s r:aT)(ρ:ag):aw v (.cons s r) ρ=(do match<-aw v s ρ with|.nx ρ'=>aw v r ρ'|a=>.ok a):=rfl
theorem uf(v:Ev)(i:Nat)(e:Ex)(ρ:ag):aw v (.set i e) ρ=(do let d<-ak v e ρ;.ok (.nx (ρ.set i (Mq (.d d))))):=rfl
theorem Ju(v:Ev):(∀tg e ρ,aw v (.asg tg e) ρ=do let d<-ak v e ρ;let ρ'<-ek tg d ρ;.ok (.nx ρ'))/\(∀i e ρ,aw v (.set i e) ρ=do let d<-ak v e ρ;.ok (.nx (ρ.set i (Mq (.d d)))))/\(∀i j r ρ,aw v (.par i j r) ρ=do match<-fi (<-c_ v r ρ)with|[d,e]=>.ok (.nx ((ρ.set i (Mq (.d d))).set j (Mq (.d e))))|_=>.stuck)/\(∀e ρ,aw v (.ret e) ρ=do let d<-ak v e ρ;.ok (.rt d))/\(∀ρ,aw v .nil ρ=.ok (.nx ρ))/\(∀s r ρ,aw v (.cons s r) ρ=do match<-aw v s ρ with|.nx ρ'=>aw v r ρ'|m=>.ok m)/\(∀c a b ρ,aw v (.iff c a b) ρ=do let x<-aX v c ρ;if x then aw v a ρ else aw v b ρ)/\(∀tg it b ρ,aw v (.dz tg it b) ρ=do c7 (ek tg) (aw v b) (<-nc v it ρ) ρ)/\(∀i r ρ,aw v (.jc i r) ρ=do T.need (xl ρ);let ds<-fi (<-c_ v r ρ);T.need (decide (ds.length<=OD));.ok (.nx (ρ.set i (Mq (.own (.lst ds))))))/\(∀i ρ,aw v (.gr i) ρ=do T.need (xl ρ);.ok (.nx (ρ.set i (Mq (.own (.aW [] []))))))/\(∀i e ρ,aw v (.app i e) ρ=do let ds<-cH (<-T.get (d6 ρ i));let d<-ak v e ρ;T.need (decide (ds.length<OD));.ok (.nx (ρ.set i (Mq (.own (.lst (ds++[d])))))))/\(∀i k e ρ,aw v (.put i k e) ρ=do let d<-ak v e ρ;let f<-nh (<-T.get (d6 ρ i));let q<-ak v k ρ;T.need (decide (f.1.length<OD)&&aC f.1 q);.ok (.nx (ρ.set i (Mq (.own (.aW (putD f.1 f.2 q d).1 (putD f.1 f.2 q d).2))))))/\(∀i s ρ,aw v (.fz i s) ρ=aw v s (mM i ρ))/\(∀i e ρ,aw v (.ext i e) ρ=do let ds<-cH (<-T.get (d6 ρ i));let g<-cH (<-ak v e ρ);T.need (decide (ds.length+g.length<=OD));.ok (.nx (ρ.set i (Mq (.own (.lst (ds++g)))))))/\(∀i r ρ,aw v (.xS i r) ρ=do T.need (xl ρ);match<-fi (<-c_ v r ρ)with|[d]=>(do let j<-bN d;T.need (decide (0<=j)&&decide (j<=1000000));.ok (.nx (ρ.set i (Mq (.own (.lst (av j.toNat)))))))|_=>.stuck)/\(∀i ρ,aw v (.xT i) ρ=do T.need (xW i ρ);.ok (.nx (ρ.set i (Mq (.gq [] [])))))/\(∀i k ρ,aw v (.putN i k) ρ=do let f<-T.get (fF ρ i);let q<-ak v k ρ;T.need (decide (f.1.length<OD)&&(aC f.1 q&&!bU f.1 q));.ok (.nx (ρ.set i (Mq (.gq (f.1++[q]) (f.2++[.lst []]))))))/\(∀i k e ρ,aw v (.jJ i k e) ρ=do let f<-T.get (fF ρ i);let q<-ak v k ρ;T.need (aC f.1 q);let ys<-cH (<-T.get (aF f.1 f.2 q));let d<-ak v e ρ;T.need (decide (ys.length<OD));.ok (.nx (ρ.set i (Mq (.gq f.1 (xv (λ_=>.lst (ys++[d])) q f.1 f.2))))))/\(∀i ρ,aw v (.xU i) ρ=do let f<-T.get (fF ρ i);.ok (.ro (.aW f.1 f.2)))/\(∀i l js k it e ρ,aw v (.xV i l js k it e) ρ=do let h<-cH (<-T.get (d6 ρ i));let ds<-nc v it ρ;let r<-vq (λρ=>ak v e ρ) ρ i js ds h;.ok (.rt (.lst r))):=⟨λ_ _ _=>rfl,λ_ _ _=>rfl,λ_ _ _ _=>rfl,λ_ _=>rfl,λ_=>rfl,λ_ _ _=>rfl,λ_ _ _ _=>rfl,λ_ _ _ _=>rfl,λ_ _ _=>rfl,λ_ _=>rfl,λ_ _ _=>rfl,λ_ _ _ _=>rfl,λ_ _ _=>rfl,λ_ _ _=>rfl,λ_ _ _=>rfl,λ_ _=>rfl,λ_ _ _=>rfl,λ_ _ _ _=>rfl,λ_ _=>rfl,λ_ _ _ _ _ _ _=>rfl⟩
theorem bK{g:D->ag->T ag}{tc:ag->T Bool}{te:ag->T D}{c:D->Bool}{e:D->D}(S:ag->Prop):∀{ds:List D}{ρ:ag},(∀ρ,S ρ->∀d∈ds,∃ρ1,g d ρ=.ok ρ1/\S ρ1/\tc ρ1=.ok (c d)/\(c d=Mv->te ρ1=.ok (e d)))->S ρ->dF g tc te ds ρ=.ok ((ds.filter c).map e)
 |[],ρ,_,_=>rfl|d::ds,ρ,h,n=>by
  obtain⟨ρ1,m,l,k,j⟩:=h ρ n d ME;have f:=bK S (ds:=ds) (ρ:=ρ1) (λρ a x i=>h ρ a x (MH _ i)) l;unfold dF;rw[m,ai,k,ai];cases b:c d with
  |true=>rw[if_pos rfl,j b,ai,f,ai,List.filter_cons_of_pos b];rfl|false=>rw[if_neg (by simp),f,List.filter_cons_of_neg (by simp[b])]
end L2
namespace K41
open PySem L2 K41d
noncomputable abbrev V(n:Nat):Ev:=gv.ev (aI defs gv n)
theorem yp(n f:Nat)(as:List A):(V n).call f as=aL defs gv n f as:=rfl
theorem E7(n f:Nat)(as:List A):(V n).qg f as=tZ defs gv n f as:=rfl
noncomputable def FQ:Fl->T D
 |.rt d=>.ok d|.nx _=>.ok .bH|_=>.stuck
noncomputable def LO:Fl->T D
 |.ro d=>.ok d|_=>.stuck
theorem T.jY{d c e:Type}(f:d->T c)(b:c->T e):∀(t:T d),((t>>=f)>>=b)=(t>>=λa=>f a>>=b)
 |.ok a=>rfl|.stuck=>rfl|.draw n k=>by
  show T.draw n (λi=>((k i>>=f)>>=b))=T.draw n (λi=>(k i>>=λa=>f a>>=b));congr 1;funext i;exact T.jY f b (k i)|.perm l k=>by
  show T.perm l (λi=>((k i>>=f)>>=b))=T.perm l (λi=>(k i>>=λa=>f a>>=b));congr 1;funext i;exact T.jY f b (k i)
theorem yq{n f:Nat}{as:List A}{d:Df}(h:defs[f]?=Mq (.df d))(a:as.length=d.np):aI defs gv (n+1) f as=(aw (V n) d.body (bO d.nn as)>>=FK):=by
 show(match defs[f]? with
  |none=>T.stuck|some (.wit t)=>t as|some (.df d)=>if as.length=d.np then do FK (<-aw (V n) d.body (bO d.nn as))else .stuck)=_;rw[h];show(if as.length=d.np then _ else _)=_;rw[if_pos a]
theorem dH{n f:Nat}{as:List A}{d:Df}(h:defs[f]?=Mq (.df d))(a:as.length=d.np):aL defs gv (n+1) f as=(aw (V n) d.body (bO d.nn as)>>=FQ):=by
 show aI defs gv (n+1) f as>>=toD=_;rw[yq h a,T.jY];congr 1;funext b;cases b<;>rfl
theorem A3{n f:Nat}{as:List A}{d:Df}(h:defs[f]?=Mq (.df d))(a:as.length=d.np):tZ defs gv (n+1) f as=(aw (V n) d.body (bO d.nn as)>>=LO):=by
 show aI defs gv (n+1) f as>>=Hu=_;rw[yq h a,T.jY];congr 1;funext b;cases b<;>rfl
theorem nv(n:Nat)(k:Int):aL defs gv (n+1) 8 [.feed,.d (.int k)]=.draw k λi=>.ok (.int i):=rfl
theorem lU:1000000<=MA:=by decide
theorem sd{k:Nat}(h:k<=1000000):decide (k<=MA)=Mv:=decide_eq_true (Nv h lU)
theorem Lb{a:D}{r:List D}:fu (a::r) 0=Mq a:=cy (j:=0) rfl
theorem Lc{a b:D}{r:List D}:fu (a::b::r) 1=Mq b:=cy (j:=1) rfl
theorem E8{xs:List D}{i:Int}{d:D}(a:0<=i)(h:xs[i.toNat]?=Mq d):fu xs i=Mq d:=by
 have:=cy h;rwa[show((i.toNat:Nat):Int)=i by omega]at this
theorem Wp{c:Type}:(∀(a:c)(m:Nat)(Q:c->Nat->Prop),(T.ok a).wp m Q=Q a m)/\(∀(a:c)(m:Nat)(Q:c->Nat->Prop),(pure a:T c).wp m Q=Q a m)/\(∀(a:c)(m:Nat)(Q:c->Nat->Prop),(T.get (Mq a)).wp m Q=Q a m)/\(∀(n:Int)(k:Int->T c)(m:Nat)(Q:c->Nat->Prop),(T.draw n k).wp m Q=(0<n/\n<1073741824/\0<m/\∀i,0<=i->i<n->(k i).wp (m-1) Q))/\(∀(l:List D)(k:List D->T c)(m:Nat)(Q:c->Nat->Prop),(T.perm l k).wp m Q=∀l',l'.Perm l->(k l').wp m Q)/\∀(b:Bool)(x y:T c)(m:Nat)(Q:c->Nat->Prop),(if b=Mv then x else y).wp m Q=if b=Mv then x.wp m Q else y.wp m Q:=⟨T.ao,T.wp_pure,T.iM,T.eZ,T.gj,T.A2⟩
theorem Lm{b c:Type}(f:b->c):(∀(a:b)(l:List b),(a::l).map f=f a::l.map f)/\([]:List b).map f=[]:=⟨λ_ _=>rfl,rfl⟩
theorem Ls{c:Type}:(∀(a:c)(l r:List c),(a::l)++r=a::(l++r))/\(∀l:List c,[]++l=l)/\(∀(a:c)(l:List c),(a::l).length=l.length+1)/\([]:List c).length=0/\(∀(a b:c)(l:List c),(a::l).set 0 b=b::l)/\(∀(a b:c)(l:List c)(n:Nat),(a::l).set (n+1) b=a::l.set n b)/\(∀(a:c)(l:List c),(a::l)[0]?=Mq a)/\∀(a:c)(l:List c)(n:Nat),(a::l)[n+1]?=l[n]?:=⟨λ_ _ _=>rfl,λ_=>rfl,λ_ _=>rfl,rfl,λ_ _ _=>rfl,λ_ _ _ _=>rfl,λ_ _=>rfl,λ_ _ _=>rfl⟩
theorem Ix:(∀(xs:List D)(i:Int),fj (.lst xs) (.int i)=T.get (fu xs i))/\(∀(xs:List D)(i:Int),fj (.tup xs) (.int i)=T.get (fu xs i))/\(∀(a:D)(r:List D),fu (a::r) 0=Mq a)/\(∀(a b:D)(r:List D),fu (a::b::r) 1=Mq b)/\(∀i j:Int,bq .Lt (.int i) (.int j)=.ok (.bl (decide (i<j))))/\(∀i j:Int,bq .Gt (.int i) (.int j)=.ok (.bl (decide (j<i))))/\(∀i j:Int,bq .LtE (.int i) (.int j)=.ok (.bl (decide (i<=j))))/\(∀i j:Int,bq .Eq (.int i) (.int j)=.ok (.bl (i==j)))/\(∀i j:Int,rP .Add (.int i) (.int j)=.ok (.int (i+j)))/\(∀i j:Int,rP .Sub (.int i) (.int j)=.ok (.int (i-j)))/\(rP .Pow (.int 10) (.int 6)=.ok (.int 1000000))/\(rP .Pow (.int 10) (.int 30)=.ok (.int 1000000000000000000000000000000))/\(∀i j:Int,rP .Mult (.int i) (.int j)=(do T.need (dm i||dm j);.ok (.int (i*j))))/\(∀b,AO (.bl b)=.ok b):=⟨λ_ _=>rfl,λ_ _=>rfl,λ_ _=>Lb,λ_ _ _=>Lc,λ_ _=>rfl,λ_ _=>rfl,λ_ _=>rfl,λ_ _=>rfl,λ_ _=>rfl,λ_ _=>rfl,rfl,rfl,λ_ _=>rfl,λ_=>rfl⟩
local macro_rules|`(tactic|subst_eqs)=>`(tactic|simp only[Ju,K9,K_,La,LN,si,fi,bN,aZ,Wp,T.wp_bind,T.jX,ai,yp,E7,nv,fx,d6,fF,mM,bF,cH,nh,bO,A.w,Ep,Lm,Ls,NY,Tx,Nat.reduceSub,true_and,and_true,FQ,LO,Ix,if_true])
theorem E9:decide (0<=MA)=Mv:=sd (by decide)
theorem Mk:decide (1<=MA)=Mv:=sd (by decide)
theorem Jv:decide (2<=MA)=Mv:=sd (by decide)
theorem Ml:decide (3<=MA)=Mv:=sd (by decide)
theorem Cl{b:Type}(a:b):T.get (Mq a)=.ok a/\(pure a:T b)=.ok a:=⟨rfl,rfl⟩
theorem Sd:T.need Mv=.ok ()/\decide (0<=MA)=Mv/\decide (1<=MA)=Mv/\decide (2<=MA)=Mv/\decide (3<=MA)=Mv:=⟨rfl,E9,Mk,Jv,Ml⟩
local macro_rules|`(tactic|bv_omega)=>`(tactic|simp only[K9,K_,La,si,fi,bN,aZ,ai,fx,Cl,Sd,Ix,Lm,Ls,Tx,if_true])
theorem A4{g:T ag}{body:ag->T Fl}{m:Nat}{a:Fl->Nat->Prop}(h:∀Q:Fl->Nat->Prop,(∀b m,a b m->Q b m)->g.wp m λρ1 m1=>(body ρ1).wp m1 Q):g.wp m λρ1 m1=>(body ρ1).wp m1 a:=h a λ_ _ z=>z
theorem dW{b:Type}{t:T b}{m:Nat}{c:b->Nat->Prop}(h:∀Q:b->Nat->Prop,(∀a m,c a m->Q a m)->t.wp m Q):t.wp m c:=h c λ_ _ z=>z
theorem aQ{v:Ev}{s r:aT}{ρ ρ':ag}(h:aw v s ρ=.ok (.nx ρ')):aw v (.cons s r) ρ=aw v r ρ':=by rw[cJ,h];rfl
theorem bz{v:Ev}{i:Nat}{e:Ex}{r:aT}{d:D}{ρ:ag}(h:ak v e ρ=.ok d):aw v (.cons (.set i e) r) ρ=aw v r (ρ.set i (Mq (.d d))):=aQ (by rw[uf,h];rfl)
theorem bP{v:Ev}{i:Nat}{e:Ex}{r:aT}{ρ:ag}{m:Nat}{Q:Fl->Nat->Prop}(h:(ak v e ρ).wp m λd a=>(aw v r (ρ.set i (Mq (.d d)))).wp a Q):(aw v (.cons (.set i e) r) ρ).wp m Q:=by
 rw[cJ,uf,T.wp_bind,T.wp_bind];simp only[T.ao];exact h
theorem iN{i j:Int}(h:0<=i/\i<1000):(dm i||dm j)=Mv:=by
 have:dm i=Mv:=by simp[dm];omega
 rw[this];rfl
inductive LI(k s:Int)(m:Nat)(ds:List D)(ρ:ag)(m':Nat):Prop|mk(xs:List Int)(x:Int)(o:Option W)(eρ:ρ=[Mq .feed,Mq (.d (.int k)),Mq (.d (.int s)),Mq (.d (.int x)),Mq (.own (.lst ((xs++[x]).map D.int))),o])(g1:m<=m'+xs.length+1)(g3:xs.length+1+ds.length=k)(g4:∀y∈xs++[x],0<=y/\y<=260000)(g6:x<=60000*xs.length+20000)(g7:(xs++[x]).Pairwise (·<·))
theorem A5{n:Nat}{k s:Int}{m:Nat}(X:2<=k/\k<=5)(B:s=1\/s=1000)(U:10<=m):(aL defs gv (n+2) 9 [.feed,.d (.int k),.d (.int s)]).wp m (λd t=>m<=t+7/\∃xs:List Int,d=.lst (xs.map D.int)/\(xs.length:Int)=k/\(∀x∈xs,0<=x/\x<=1000000)/\xs.Pairwise (·<·)):=by
 have z:=lU;rw[dH (d:=fP) rfl rfl];unfold fP;refine dW λQ C=>?_;rw[T.wp_bind];have R:1<=s/\s<=10000:=by omega
 subst_eqs;refine⟨by omega,by omega,by omega,λi L Y=>⟨iN ⟨L,by omega⟩,rfl,sd (by decide),by simp;omega,?_⟩⟩;refine e7 (LI k s m) ?_ ?_ ⟨[],i*s,Mu,by simp,by simp;omega,by simp[av];omega,?_,?_,by simp⟩
 .rintro d ds ρ m1⟨xs,x,o,rfl,E,r,j,H,q⟩;simp only[Ng]at r;refine A4 λQ C=>?_;unfold t8;subst_eqs;refine⟨by omega,by omega,by omega,λw P O=>⟨iN ⟨by omega,by omega⟩,by simp;omega,C _ _ ?_⟩⟩;have I:=j x (by simp);have hw:1<=(1+w)*s/\(1+w)*s<=60000:=by rcases B with rfl|rfl<;>omega
  refine LI.mk (xs++[x]) (x+(1+w)*s) (Mq (.d d)) (by simp) (by simp;omega) (by simp;omega) (λy f=>?_) (by simp;omega) ?_
  .rcases List.mem_append.mp f with h|h;.exact j y h
   .rw[List.mem_singleton.mp h];constructor;.omega
    .simp at H r⊢;omega
  .rw[List.pairwise_append];refine⟨q,by simp,λa ha b hb=>?_⟩;rw[List.mem_singleton.mp hb];rcases List.mem_append.mp ha with z|z
   .have:=(List.pairwise_append.mp q).2.2 a z x (by simp);omega
   .rw[List.mem_singleton.mp z];omega
 .rintro ρ m1⟨xs,x,o,rfl,E,r,j,H,q⟩;simp only[NZ]at r;unfold t7;have A:∀(p:List Int)(w:W)(m2:Nat),w=.own (.lst (p.map D.int))\/w=.d (.lst (p.map D.int))->m<=m2+7->(p.length:Int)=k->(∀x∈p,0<=x/\x<=1000000)->p.Pairwise (·<·)->(aw (V (n+1)) jW [Mq .feed,Mq (.d (.int k)),Mq (.d (.int s)),Mq (.d (.int x)),Mq w,o]).wp m2 (λF t=>(FQ F).wp t Q):=λp w m2 hw E M r j=>by
   unfold jW;rcases hw with rfl|rfl<;>(subst_eqs;exact C _ _ ⟨E,p,rfl,M,r,j⟩)
  have l:∀m2,m<=m2+7->(aw (V (n+1)) jW [Mq .feed,Mq (.d (.int k)),Mq (.d (.int s)),Mq (.d (.int x)),Mq (.own (.lst ((xs++[x]).map D.int))),o]).wp m2 (λF t=>(FQ F).wp t Q):=λm2 K=>A (xs++[x]) _ m2 (.inl rfl) K (by simp;omega) (λy f=>⟨(j y f).1,by have:=(j y f).2;omega⟩) q;subst_eqs;by_cases v:1<s
  .rw[decide_eq_true v,if_pos rfl];refine⟨by omega,by omega,by omega,λi i0 S=>?_⟩;by_cases G:i=0
   .subst G;rw[if_pos (by simp)];have N:=bK (g:=ek (.nm 0)) (tc:=λρ=>T.ok Mv) (te:=λρ=>ak (V (n+1)) og ρ) (c:=λ_=>Mv) (e:=λd=>match d with|.int y=>.int (y+1000000-x)|d=>d) (λρ=>∃o,ρ=[o,Mq (.d (.int x))]) (ds:=(xs++[x]).map D.int) (ρ:=dy [Mq .feed,Mq (.d (.int k)),Mq (.d (.int s)),Mq (.d (.int x)),Mq (.d (.lst ((xs++[x]).map D.int))),o] 1 [3]) (by
     rintro ρ⟨o,rfl⟩d hd;obtain⟨y,f,rfl⟩:=List.mem_map.mp hd;refine⟨_,rfl,⟨_,rfl⟩,rfl,λ_=>?_⟩;unfold og;bv_omega) ⟨Mu,rfl⟩;simp only[d8,T.iM];rw[N,T.ao];have em:(List.filter (λ_=>Mv) ((xs++[x]).map D.int)).map (λd=>match d with|.int y=>.int (y+1000000-x)|d=>d)=((xs++[x]).map λy=>y+1000000-x).map D.int:=by rw[List.filter_eq_self.mpr (λ_ _=>rfl),M_,M_];rfl
    rw[em];have I:=j x (by simp);refine A _ _ _ (.inr rfl) (by omega) (by simp;omega) (λy f=>?_) ?_
    .obtain⟨u,hu,rfl⟩:=List.mem_map.mp f;have J:=j u hu;have:u<=x:=by
      rcases List.mem_append.mp hu with z|z;.have:=(List.pairwise_append.mp q).2.2 u z x (by simp);omega
      .rw[List.mem_singleton.mp z];exact Q3 _
     omega
    .rw[QB];exact q.imp λ{a b}h=>by omega
   .rw[if_neg (by simpa using G)];exact l _ (by omega)
  .rw[decide_eq_false v,if_neg (by simp)];exact l _ (by omega)
 .intro y f;have:y=i*s:=by simpa using f
  rw[this];rcases B with rfl|rfl<;>omega
 .rcases B with rfl|rfl<;>simp<;>omega
abbrev Kt:=Int×Int
noncomputable def kn(p:Kt):D:=.tup [.int p.1,.int p.2]
abbrev Gr:=List (Kt×List Kt)
noncomputable def bG(G:Gr):List D:=G.map λp=>kn p.1
noncomputable def dw(G:Gr):List D:=G.map λp=>.lst (p.2.map kn)
noncomputable def gt:Gr->Kt->Option (List Kt)
 |[],_=>Mu|(k,l)::r,q=>if k=q then Mq l else gt r q
theorem E_{p q:Kt}(h:kn p=kn q):p=q:=by
 unfold kn at h;injection h with h;injection h with b a;injection b with b;injection a with a _;injection a with a;exact UB b a
theorem gm(p q:Kt):fc (kn p) (kn q)=decide (p=q):=by
 show(decide (p.1=q.1)&&(decide (p.2=q.2)&&Mv))=_;rw[O1];simp[Sw]
theorem gY(q:Kt):∀(G:Gr),aF (bG G) (dw G) (kn q)=(gt G q).map λl=>.lst (l.map kn)
 |[]=>rfl|(k,l)::r=>by
  have a:=gY q r;unfold bG dw at a⊢;simp only[MT,aF,gm,gt,a,decide_eq_true_eq];split<;>rfl
theorem ug(q:Kt):∀(G:Gr),bU (bG G) (kn q)=(gt G q).isSome
 |[]=>rfl|(k,l)::r=>by
  have a:=ug q r;unfold bU bG at a⊢;simp only[MT,Pa,gm,gt,a];by_cases h:k=q<;>simp[h]
theorem b8(G:Gr)(q:Kt):aC (bG G) (kn q)=Mv:=by
 unfold aC;rw[NO];right;rw[MG];refine⟨List.all_eq_true.mpr λx a=>?_,rfl⟩;obtain⟨p,_,rfl⟩:=List.mem_map.mp a;rfl
noncomputable def sg(G:Gr)(q:Kt)(l:List Kt):Gr:=G.map λp=>if p.1=q then(p.1,l)else p
theorem lN{G:Gr}{q:Kt}{l:List Kt}(k:Kt):gt (sg G q l) k=if k=q then(gt G k).map λ_=>l else gt G k:=by induction G with
 |nil=>simp[sg,gt]|cons p r d=>
  obtain⟨a,b⟩:=p;unfold sg at d⊢;simp only[MT];by_cases e:a=q
  .subst e;rw[if_pos rfl];simp only[gt];by_cases c:a=k;.subst c;simp
   .rw[if_neg c,if_neg c,d]
  .rw[if_neg e];simp only[gt];by_cases c:a=k;.subst c;simp[e]
   .rw[if_neg c,if_neg c,d]
theorem fT(G:Gr)(q:Kt)(l:List Kt):(sg G q l).map (·.1)=G.map (·.1):=by
 unfold sg;rw[M_];refine NR λp _=>?_;simp only[P6];split<;>rfl
theorem sj(G:Gr)(q:Kt)(l:List Kt):bG (sg G q l)=bG G:=by
 have:=congrArg (List.map kn) (fT G q l);simpa[bG,M_,Function.comp_def]using this
theorem yr(q:Kt)(l:List Kt):∀(G:Gr),ip (bG G) (dw G) (kn q) (.lst (l.map kn))=dw (sg G q l)
 |[]=>rfl|(a,b)::r=>by
  have c:=yr q l r;unfold bG dw sg at c⊢;simp only[MT,ip,gm,c,decide_eq_true_eq];by_cases h:a=q<;>simp[h]
theorem BQ{G:Gr}{q:Kt}(l:List Kt)(h:(gt G q).isSome=Mv):putD (bG G) (dw G) (kn q) (.lst (l.map kn))=(bG (sg G q l),dw (sg G q l)):=by
 unfold putD;rw[ug,if_pos h,yr,sj]
theorem fU{G:Gr}{k:Kt}:(gt G k).isSome=Mv↔k∈G.map (·.1):=by induction G with
 |nil=>simp[gt]|cons p r c=>
  obtain⟨a,b⟩:=p;simp only[gt,MT,NC];by_cases h:a=k;.simp[h]
  .rw[if_neg h,c];constructor;.exact .inr
   .rintro(rfl|z);.exact absurd rfl h
    .exact z
theorem Fc{f:D->D}{q:Kt}{l l':List Kt}(g:f (.lst (l.map kn))=.lst (l'.map kn)):∀{G:Gr},(G.map (·.1)).Nodup->gt G q=Mq l->xv f (kn q) (bG G) (dw G)=dw (sg G q l')
 |[],_,h=>by simp[gt]at h|(a,b)::r,nd,h=>by
  simp only[MT,O3]at nd;have d:=Fc (q:=q) g (G:=r) nd.2;unfold bG dw sg at d⊢;simp only[MT,xv,gm,decide_eq_true_eq];simp only[gt]at h;by_cases e:a=q
  .subst e;rw[if_pos rfl]at h;cases h;rw[if_pos rfl,if_pos rfl,g];have:∀p∈r,(if p.1=a then(p.1,l')else p)=p:=λp c=>if_neg λ(z:p.1=a)=>nd.1 (by rw[<-z];exact Tt (f:=λx:Kt×List Kt=>x.1) c);congr 1;rw[M_];refine NR λp c=>?_;simp only[P6,this p c]
  .rw[if_neg e]at h;rw[if_neg e,if_neg e,d h]
noncomputable def jk(k t:Kt):Prop:=(t.1=k.1/\t.2≠k.2)\/(t.2=k.2/\t.1≠k.1)
noncomputable def dX(k t u:Kt):Prop:=(t.1=k.1/\u.1=k.1/\(k.2<t.2↔k.2<u.2))\/(t.2=k.2/\u.2=k.2/\(k.1<t.1↔k.1<u.1))
structure Ld(G:Gr)(k:Kt)(l:List Kt):Prop where
 nd:l.Nodup
 ln:∀t∈l,jk k t
 sy:∀t∈l,∃l',gt G t=Mq l'/\k∈l'
 on:∀t∈l,∀u∈l,t≠u->¬dX k t u
noncomputable def Joins(G:Gr):Prop:=∀k l,gt G k=Mq l->Ld G k l
noncomputable def to(k b t:Kt):Kt:=if t≠k then t else b
theorem Joins.merge{G:Gr}{k a b:Kt}{d m:List Kt}(J:Joins G)(X:gt G k=Mq [a,b])(ha:gt G a=Mq d)(hb:gt G b=Mq m)(hl:a.1=b.1\/a.2=b.2):a≠b/\Joins (sg (sg (sg G a (d.map (to k b))) b (m.map (to k a))) k []):=by
 have ok:=J k _ X;have f:a≠b:=λz=>by have:=ok.nd;simp[z]at this
 refine⟨f,?_⟩;have L:=ok.ln a (by simp);have K:=ok.ln b (by simp);have ns:=ok.on a (by simp) b (by simp) f;have c:=J a _ ha;have H:=J b _ hb;have p:k∈d:=by obtain⟨M,e,h⟩:=ok.sy a (by simp);rw[ha]at e;cases e;exact h
 have v:k∈m:=by obtain⟨M,e,h⟩:=ok.sy b (by simp);rw[hb]at e;cases e;exact h
 have a0:a.1≠b.1\/a.2≠b.2:=by
  by_cases h:a.1=b.1;.right;intro z;exact f (UB h z)
  .exact .inl h
 unfold jk at L K;unfold dX at ns;have a4:(a.1=k.1/\b.1=k.1/\(a.2<k.2/\k.2<b.2\/b.2<k.2/\k.2<a.2))\/(a.2=k.2/\b.2=k.2/\(a.1<k.1/\k.1<b.1\/b.1<k.1/\k.1<a.1)):=by omega
 have o:k≠a:=λz=>by rw[z]at L;omega
 have n:k≠b:=λz=>by rw[z]at K;omega
 have D:∀u:Kt,dX a b u↔dX a k u:=λu=>by unfold dX;omega
 have Q:∀u:Kt,dX b a u↔dX b k u:=λu=>by unfold dX;omega
 have C:∀u:Kt,dX a u b↔dX a u k:=λu=>by unfold dX;omega
 have P:∀u:Kt,dX b u a↔dX b u k:=λu=>by unfold dX;omega
 have w:b∉d:=λh=>by
  have:=c.on k p b h n;apply this;unfold dX;omega
 have Z:a∉m:=λh=>by
  have:=H.on k v a h o;apply this;unfold dX;omega
 have E:jk a b:=by unfold jk;omega
 have U:jk b a:=by unfold jk;omega
 have g:∀x,gt (sg (sg (sg G a (d.map (to k b))) b (m.map (to k a))) k []) x=if x=k then Mq []else if x=b then Mq (m.map (to k a))else if x=a then Mq (d.map (to k b))else gt G x:=λx=>by
  rw[lN,lN,lN];by_cases i:x=k;.subst i;simp[o,n,X]
  .rw[if_neg i,if_neg i];by_cases q:x=b;.subst q;simp[Nj f,hb]
   .rw[if_neg q,if_neg q];by_cases j:x=a;.subst j;simp[ha]
    .rw[if_neg j,if_neg j]
 have one:∀(a b:Kt)(d m:List Kt)(r:Gr),gt r k=Mq []->gt r a=Mq (d.map (to k b))->gt r b=Mq (m.map (to k a))->(∀x,x≠k->x≠a->x≠b->gt r x=gt G x)->Ld G a d->k∈d->k∈m->b∉d->jk a b->(∀u,dX a b u↔dX a k u)->(∀u,dX a u b↔dX a u k)->k≠a->a≠b->k≠b->Ld r a (d.map (to k b)):=by
  intro a b d m r g1 g2 g3 g4 c p v w E D C o f n;have mem:∀t∈d.map (to k b),t=b\/t∈d/\t≠k:=λt B=>by
   obtain⟨u,hu,rfl⟩:=List.mem_map.mp B;unfold to;by_cases h:u=k;.left;simp[h]
   .right;rw[if_pos h];exact⟨hu,h⟩
  refine⟨?_,λt B=>?_,λt B=>?_,λt B u hu I=>?_⟩
  .refine RG (R:=λx y=>x≠y/\x∈d/\y∈d) _ (λx y h=>?_) (Pc (λ{x y}s V h=>⟨h,s,V⟩) c.nd);unfold to;obtain⟨i,q,j⟩:=h;split
   .split;.exact i
    .intro z;exact w (z▸q)
   .rename_i s;split;.intro z;exact w (z▸j)
    .rename_i V;exact absurd ((Decidable.not_not.mp s).trans (Decidable.not_not.mp V).symm) i
  .rcases mem t B with rfl|⟨h,_⟩;.exact E
   .exact c.ln t h
  .rcases mem t B with rfl|⟨h,W⟩;.exact⟨_,g3,List.mem_map.mpr ⟨k,v,by unfold to;rw[if_neg (by simp)]⟩⟩
   .obtain⟨M,e,F⟩:=c.sy t h;have T:t≠a:=λz=>by have:=c.ln t h;rw[z]at this;unfold jk at this;omega
    have S:t≠b:=λz=>w (z▸h);exact⟨M,by rw[g4 t W T S];exact e,F⟩
  .rcases mem t B with rfl|⟨i,q⟩
   .rcases mem u hu with rfl|⟨j,h4⟩;.exact absurd rfl I
    .rw[D];exact c.on k p u j (Nj h4)
   .rcases mem u hu with rfl|⟨j,h4⟩;.rw[C];exact c.on t i k p q
    .exact c.on t i u j I
 generalize sg (sg (sg G a (d.map (to k b))) b (m.map (to k a))) k []=r at g⊢;have Y:gt r k=Mq []:=by rw[g,if_pos rfl]
 have N:gt r b=Mq (m.map (to k a)):=by rw[g,if_neg (Nj n),if_pos rfl]
 have O:gt r a=Mq (d.map (to k b)):=by rw[g,if_neg (Nj o),if_neg f,if_pos rfl]
 have go:∀x,x≠k->x≠a->x≠b->gt r x=gt G x:=λx i q j=>by rw[g,if_neg i,if_neg j,if_neg q]
 intro x l s;by_cases i:x=k
 .subst i;rw[Y]at s;cases s;exact⟨by simp,by simp,by simp,by simp⟩
 by_cases q:x=a
 .subst q;rw[O]at s;cases s;exact one x b d m r Y O N go c p v w E D C o f n
 by_cases j:x=b
 .subst j;rw[N]at s;cases s;exact one x a m d r Y N O (λy a1 a2 a3=>go y a1 a3 a2) H v p Z U Q P n (Nj f) o
 rw[go x i q j]at s;have A:=J x l s;refine⟨A.nd,A.ln,λt B=>?_,A.on⟩;obtain⟨M,e,F⟩:=A.sy t B;by_cases t1:t=k
 .subst t1;rw[X]at e;cases e;simp at F;rcases F with z|z;.exact absurd z q
  .exact absurd z j
 by_cases t2:t=a
 .subst t2;rw[ha]at e;cases e;exact⟨_,O,List.mem_map.mpr ⟨x,F,by unfold to;rw[if_pos i]⟩⟩
 by_cases t3:t=b
 .subst t3;rw[hb]at e;cases e;exact⟨_,N,List.mem_map.mpr ⟨x,F,by unfold to;rw[if_pos i]⟩⟩
 exact⟨M,by rw[go t t1 t2 t3];exact e,F⟩
theorem yt{n j:Nat}(h:j<n):(av n).drop j=.int (j:Int)::(av n).drop (j+1):=by
 have a:j<(av n).length:=by simpa[av]using h
 rw[OZ a];congr 1;simp[av]
theorem lO{g:D->ag->T ag}{body:ag->T Fl}{Q:Fl->Nat->Prop}{n:Nat}(I:Nat->ag->Nat->Prop)(step:∀j ρ m,j<n->I j ρ m->(g (.int (j:Int)) ρ).wp m λρ1 m1=>(body ρ1).wp m1 λi m2=>match i with
   |.nx b=>I (j+1) b m2|.rt r=>Q (.rt r) m2|_=>False)(k:∀ρ m,I n ρ m->Q (.nx ρ) m){ρ:ag}{m:Nat}(h:I 0 ρ m):(c7 g body (av n) ρ).wp m Q:=by
 refine e7 (λl ρ m=>∃j,j<=n/\l=(av n).drop j/\I j ρ m) (λd l ρ m f=>?_) (λρ m f=>?_) ⟨0,ND _,by simp,h⟩
 .obtain⟨j,o,e,h⟩:=f;have a:j<n:=by
   by_cases a:j<n;.exact a
   .rw[List.drop_of_length_le (by simp[av];omega)]at e;cases e
  rw[yt a]at e;cases e;refine T.wp_mono (λρ1 m1 p=>T.wp_mono (λi m2 c=>?_) p) (step j ρ m a h);cases i with
  |nx b=>exact⟨j+1,a,rfl,c⟩|rt r=>exact c|bk _=>exact c.elim|ct _=>exact c.elim|ro _=>exact c
 .obtain⟨j,o,e,h⟩:=f;have:j=n:=by
   have:=congrArg Qh e;simp[av]at this;omega
  subst this;exact k ρ m h
structure KG(c:Int)(G:Gr)(j i:Int):Prop where
 nd:(G.map (·.1)).Nodup
 km:∀k:Kt,k∈G.map (·.1)↔(0<=k.1/\k.1<c/\0<=k.2/\(k.2<j\/k.2=j/\k.1<i))em:∀k l,gt G k=Mq l->l=[]ln:G.length<=j*c+i
noncomputable abbrev vJ(c r:Int)(G:Gr)(o4 o5:Option W):ag:=[Mq .feed,Mq (.d (.int c)),Mq (.d (.int r)),Mq (.gq (bG G) (dw G)),o4,o5,Mu,Mu,Mu,Mu]
theorem Fd{G:Gr}{q:Kt}{l:List Kt}(k:Kt)(h:gt G q=Mu):gt (G++[(q,l)]) k=if k=q then Mq l else gt G k:=by induction G with
 |nil=>
  by_cases e:k=q;.simp[gt,e]
  .have g:¬q=k:=λz=>e z.symm;simp[gt,e,g]|cons p r f=>
  obtain⟨a,b⟩:=p;simp only[gt]at h;by_cases c:a=q;.rw[if_pos c]at h;cases h
  .rw[if_neg c]at h;simp only[List.cons_append,gt];rw[f h];by_cases d:a=k;.subst d;simp[c]
   .simp[d]
theorem Fe{n:Nat}{c r:Int}{m:Nat}(B:2<=c/\c<=5)(w:2<=r/\r<=5){Q:Fl->Nat->Prop}(u:∀G o4 o5,KG c G r 0->Q (.nx (vJ c r G o4 o5)) m):(c7 (ek (.nm 4)) (aw (V n) lG) (av r.toNat) (vJ c r [] Mu Mu)).wp m Q:=by
 have z:=lU;refine lO (λj f o=>o=m/\∃G o4 o5,f=vJ c r G o4 o5/\KG c G j 0) ?_ ?_ ⟨rfl,[],Mu,Mu,rfl,⟨by simp,λk=>⟨λh=>(by simp at h),λh=>by omega⟩,λk l h=>(by simp[gt]at h),by simp⟩⟩
 .rintro j f m1 y⟨rfl,G,o4,o5,rfl,K⟩;rw[si.1,T.ao];refine dW λE q=>?_;unfold lG;subst_eqs;refine⟨by simp;omega,?_⟩;refine lO (λi f o=>o=m1/\∃G o5,f=vJ c r G (Mq (.d (.int j))) o5/\KG c G j i) ?_ ?_ ⟨rfl,G,o5,rfl,K⟩
  .rintro i f m2 A⟨rfl,G,o5,rfl,K⟩;rw[si.1,T.ao];refine dW λD p=>?_;unfold qz;have g:gt G ((i:Int),(j:Int))=Mu:=by
    have:¬(gt G ((i:Int),(j:Int))).isSome=Mv:=λh=>by
     have:=(K.km _).mp (fU.mp h);simp at this
    simpa using this
   have x:=K.ln;have s:aC (bG G) (.tup [.int (i:Int),.int (j:Int)])=Mv:=b8 G ((i:Int),(j:Int));have t:bU (bG G) (.tup [.int (i:Int),.int (j:Int)])=Mw:=by
    have:=ug ((i:Int),(j:Int)) G;rw[g]at this;exact this
   subst_eqs;refine⟨sd (by decide),?_,p _ _ ⟨rfl,G++[(((i:Int),(j:Int)),[])],Mq (.d (.int i)),?_,?_⟩⟩
   .rw[s,t];have:(bG G).length<MA:=by
     have e:(bG G).length=G.length:=by simp[bG]
     have:(j:Int)*c<=4*5:=by
      have a1:(j:Int)<=4:=by omega
      have C:0<=(j:Int):=by omega
      rcases(by omega:(j:Int)=0\/(j:Int)=1\/(j:Int)=2\/(j:Int)=3\/(j:Int)=4)with h|h|h|h|h<;>rw[h]<;>omega
     omega
    simp[this]
   .show _=vJ c r (G++[(((i:Int),(j:Int)),[])]) _ _;unfold vJ bG dw;simp[kn]
   .refine⟨?_,λk=>?_,λk l h=>?_,by simp;omega⟩
    .rw[NG,RH];refine⟨K.nd,by simp,λa ha b hb e=>?_⟩;simp at hb;subst hb;rw[<-fU,e,g]at ha;cases ha
    .rw[NG,List.mem_append,K.km];simp only[MT,Oi,List.mem_singleton,Sw];omega
    .rw[Fd _ g]at h;split at h;.cases h;rfl
     .exact K.em k l h
  .rintro f m2⟨rfl,G,o5,rfl,K⟩;subst_eqs;refine q _ _ ⟨rfl,G,_,_,rfl,⟨K.nd,λk=>?_,K.em,?_⟩⟩
   .rw[K.km];omega
   .have:=K.ln;have e:((c.toNat:Nat):Int)=c:=by omega
    rw[e]at this;have v:(((j+1:Nat):Int))*c+0=(j:Int)*c+c:=by rw[Int.natCast_add];simp[Int.add_mul]
    rw[v];exact this
 .rintro f m1⟨rfl,G,o4,o5,rfl,K⟩;refine u G o4 o5 ?_;have e:((r.toNat:Nat):Int)=r:=by omega
  rw[e]at K;exact K
noncomputable def Bf(j i d:Int)(p:Kt)(e:Int):Prop:=p.2<j\/p.2=j/\(p.1<i\/p.1=i/\e<d)
noncomputable def Nb(j i d:Int)(k t:Kt):Prop:=(t.1=k.1+1/\t.2=k.2/\Bf j i d k 0)\/(t.1=k.1/\t.2=k.2+1/\Bf j i d k 1)\/(k.1=t.1+1/\k.2=t.2/\Bf j i d t 0)\/(k.1=t.1/\k.2=t.2+1/\Bf j i d t 1)
structure LG(c r:Int)(G:Gr)(j i d many:Int):Prop where
 nd:(G.map (·.1)).Nodup
 km:∀k:Kt,k∈G.map (·.1)↔(0<=k.1/\k.1<c/\0<=k.2/\k.2<r)ok:∀k l,gt G k=Mq l->l.Nodup/\(l.length:Int)<=many/\∀t∈l,Nb j i d k t/\∃l',gt G t=Mq l'/\k∈l'
 mn:0<=many/\many<=90
 sz:G.length<=25
theorem LG.go{c r:Int}{G:Gr}{j i d j' i' d' many:Int}(h:LG c r G j i d many)(q:∀p e,(e=0\/e=1)->Bf j i d p e->Bf j' i' d' p e):LG c r G j' i' d' many:=⟨h.nd,h.km,λk l e=>by
  obtain⟨n,m,g⟩:=h.ok k l e;refine⟨n,m,λt f=>⟨?_,(g t f).2⟩⟩;rcases(g t f).1 with⟨a,b,c⟩|⟨a,b,c⟩|⟨a,b,c⟩|⟨a,b,c⟩;.exact .inl ⟨a,b,q _ _ (.inl rfl) c⟩
  .exact .inr (.inl ⟨a,b,q _ _ (.inr rfl) c⟩)
  .exact .inr (.inr (.inl ⟨a,b,q _ _ (.inl rfl) c⟩))
  .exact .inr (.inr (.inr ⟨a,b,q _ _ (.inr rfl) c⟩)),h.mn,h.sz⟩
theorem LG.join{c r:Int}{G:Gr}{j i d many:Int}{t:Kt}{n m:List Kt}(h:LG c r G j i d many)(hd:d=0/\t=(i+1,j)\/d=1/\t=(i,j+1))(ha:gt G (i,j)=Mq n)(hb:gt G t=Mq m)(O:many<90):(i,j)≠t/\LG c r (sg (sg G (i,j) (n++[t])) t (m++[(i,j)])) j i (d+1) (many+1):=by
 have nt:(i,j)≠t:=by rcases hd with⟨_,rfl⟩|⟨_,rfl⟩<;>(intro z;simp[Sw]at z;omega)
 refine⟨nt,?_⟩;have M:=h.go (j':=j) (i':=i) (d':=d+1) λp e _ b=>by unfold Bf at*;omega
 have K:¬Nb j i d (i,j) t:=by
  unfold Nb Bf;rcases hd with⟨rfl,rfl⟩|⟨rfl,rfl⟩<;>simp<;>omega
 have C:¬Nb j i d t (i,j):=by
  unfold Nb Bf;rcases hd with⟨rfl,rfl⟩|⟨rfl,rfl⟩<;>simp<;>omega
 have yes:Nb j i (d+1) (i,j) t:=by
  unfold Nb Bf;rcases hd with⟨rfl,rfl⟩|⟨rfl,rfl⟩<;>simp
 have A:Nb j i (d+1) t (i,j):=by
  unfold Nb Bf;rcases hd with⟨rfl,rfl⟩|⟨rfl,rfl⟩<;>simp
 have J:t∉n:=λz=>K ((h.ok _ _ ha).2.2 t z).1;have D:(i,j)∉m:=λz=>C ((h.ok _ _ hb).2.2 _ z).1;have g:∀x,gt (sg (sg G (i,j) (n++[t])) t (m++[(i,j)])) x=if x=t then Mq (m++[(i,j)])else if x=(i,j)then Mq (n++[t])else gt G x:=λx=>by
  rw[lN,lN];by_cases q:x=t;.subst q;simp[Nj nt,hb]
  .rw[if_neg q,if_neg q];by_cases o:x=(i,j);.subst o;simp[ha]
   .rw[if_neg o,if_neg o]
 have E:gt (sg (sg G (i,j) (n++[t])) t (m++[(i,j)])) t=Mq (m++[(i,j)]):=by rw[g,if_pos rfl]
 have F:gt (sg (sg G (i,j) (n++[t])) t (m++[(i,j)])) (i,j)=Mq (n++[t]):=by rw[g,if_neg nt,if_pos rfl]
 have keep:∀x l y,gt G x=Mq l->y∈l->∃v,gt (sg (sg G (i,j) (n++[t])) t (m++[(i,j)])) x=Mq v/\y∈v:=λx l y e L=>by
  by_cases q:x=t;.subst q;rw[hb]at e;cases e;exact⟨_,E,Oz _ L⟩
  .by_cases o:x=(i,j);.subst o;rw[ha]at e;cases e;exact⟨_,F,Oz _ L⟩
   .exact⟨l,by rw[g,if_neg q,if_neg o];exact e,L⟩
 refine⟨by rw[fT,fT];exact h.nd,λk=>by rw[fT,fT];exact h.km k,λk l e=>?_,by have:=h.mn;omega,by unfold sg;rw[M0,M0];exact h.sz⟩;rw[g]at e;by_cases q:k=t
 .subst q;rw[if_pos rfl]at e;cases e;obtain⟨B,N,s⟩:=M.ok _ _ hb;refine⟨?_,by simp;omega,λu hu=>?_⟩
  .rw[RH];exact⟨B,by simp,λa w b f z=>by simp at f;subst f;exact D (z▸w)⟩
  .rcases List.mem_append.mp hu with hu|hu
   .obtain⟨v,I,H⟩:=(s u hu).2;exact⟨(s u hu).1,keep u v _ I H⟩
   .rw[List.mem_singleton.mp hu];exact⟨A,_,F,by simp⟩
 .rw[if_neg q]at e;by_cases o:k=(i,j)
  .subst o;rw[if_pos rfl]at e;cases e;obtain⟨B,N,s⟩:=M.ok _ _ ha;refine⟨?_,by simp;omega,λu hu=>?_⟩
   .rw[RH];exact⟨B,by simp,λa w b f z=>by simp at f;subst f;exact J (z▸w)⟩
   .rcases List.mem_append.mp hu with hu|hu
    .obtain⟨v,I,H⟩:=(s u hu).2;exact⟨(s u hu).1,keep u v _ I H⟩
    .rw[List.mem_singleton.mp hu];exact⟨yes,_,E,by simp⟩
  .rw[if_neg o]at e;obtain⟨B,N,s⟩:=M.ok _ _ e;refine⟨B,by omega,λu hu=>?_⟩;obtain⟨v,I,H⟩:=(s u hu).2;exact⟨(s u hu).1,keep u v _ I H⟩
noncomputable abbrev eQ(c r:Int)(G:Gr)(j i:Int)(f:Bool)(many:Int)(o8 o9:Option W):ag:=[Mq .feed,Mq (.d (.int c)),Mq (.d (.int r)),Mq (.gq (bG G) (dw G)),Mq (.d (.int j)),Mq (.d (.int i)),Mq (.d (.bl f)),Mq (.d (.int many)),o8,o9]
theorem Mm(a b c:Int):bq .In (.int a) (.tup [.int b,.int c])=.ok (.bl (b==a||(c==a||Mw))):=rfl
theorem Ff{n:Nat}{c r j i many:Int}{G:Gr}{f:Bool}{t:Kt}{o9:Option W}:∃b,ak (V n) (.or (.and (.cmp .Eq (.var 5) (.idx (.var 8) (.cst (.int 0)))) (.one (.cmp .In (.var 5) (.tup (.cons (.cst (.int 0)) (.cons (.op .Sub (.var 1) (.cst (.int 1))) .nil)))))) (.one (.and (.cmp .Eq (.var 4) (.idx (.var 8) (.cst (.int 1)))) (.one (.cmp .In (.var 4) (.tup (.cons (.cst (.int 0)) (.cons (.op .Sub (.var 2) (.cst (.int 1))) .nil)))))))) (eQ c r G j i f many (Mq (.d (kn t))) o9)=.ok (.bl b):=by
 unfold kn;bv_omega;simp only[Mm,ai];cases(i==t.1)<;>cases(0==i||(c-1==i||Mw))<;>cases(j==t.2)<;>exact⟨_,rfl⟩
theorem uh{n:Nat}{c r j i d many:Int}{G:Gr}{f:Bool}{t:Kt}{o9:Option W}{m:Nat}(L:LG c r G j i d many)(F:0<=i/\i<c/\0<=j/\j<r)(hd:d=0/\t=(i+1,j)\/d=1/\t=(i,j+1))(hm:1<=m){Q:Fl->Nat->Prop}(K:∀O o C g,m<=g+1->LG c r O j i (d+1) o->Q (.nx (eQ c r O j i f o (Mq (.d (kn t))) C)) g):(aw (V (n+1)) lF (eQ c r G j i f many (Mq (.d (kn t))) o9)).wp m Q:=by
 have z:=lU;unfold lF;obtain⟨b,hb⟩:=Ff (n:=n+1) (c:=c) (r:=r) (j:=j) (i:=i) (many:=many) (G:=G) (f:=f) (t:=t) (o9:=o9);rw[bz hb];have es:(eQ c r G j i f many (Mq (.d (kn t))) o9).set 9 (Mq (.d (.bl b)))=eQ c r G j i f many (Mq (.d (kn t))) (Mq (.d (.bl b))):=rfl;rw[es];have dg:∀g,m<=g+1->Q (.nx (eQ c r G j i f many (Mq (.d (kn t))) (Mq (.d (.bl b))))) g:=λg h=>K G many _ g h (L.go λp e _ q=>by unfold Bf at*;omega);have P:=b8 G t;have E:aC (bG G) (.tup [.int i,.int j])=Mv:=b8 G (i,j);obtain⟨k,ha⟩:∃k,gt G (i,j)=Mq k:=Option.isSome_iff_exists.mp (fU.mpr ((L.km (i,j)).mpr F));have D:aF (bG G) (dw G) (.tup [.int i,.int j])=Mq (.lst (k.map kn)):=by
  have:=gY (i,j) G;rw[ha]at this;exact this
 have U:=(L.ok _ _ ha).2.1;have mn:=L.mn;have yes:∀g,m<=g+1->(gt G t).isSome=Mv->many<90->(aw (V (n+1)) (.cons (.jJ 3 (.tup (.cons (.var 5) (.cons (.var 4) .nil))) (.var 8)) (.cons (.jJ 3 (.var 8) (.tup (.cons (.var 5) (.cons (.var 4) .nil)))) (.cons (.set 7 (.op .Add (.var 7) (.cst (.int 1)))) .nil))) (eQ c r G j i f many (Mq (.d (kn t))) (Mq (.d (.bl b))))).wp g Q:=λg h R H=>by
  obtain⟨s,hb⟩:=Option.isSome_iff_exists.mp R;obtain⟨nt,L'⟩:=L.join hd ha hb H;have S:=(L.ok _ _ hb).2.1;have e1:aw (V (n+1)) (.jJ 3 (.tup (.cons (.var 5) (.cons (.var 4) .nil))) (.var 8)) (eQ c r G j i f many (Mq (.d (kn t))) (Mq (.d (.bl b))))=.ok (.nx (eQ c r (sg G (i,j) (k++[t])) j i f many (Mq (.d (kn t))) (Mq (.d (.bl b))))):=by
   have v:xv (λ_=>.lst (k.map kn++[kn t])) (.tup [.int i,.int j]) (bG G) (dw G)=dw (sg G (i,j) (k++[t])):=Fc (q:=(i,j)) (l:=k) (l':=k++[t]) (by simp) L.nd ha;simp only[Ju,fF,Ls,Cl,ai];try bv_omega
   rw[E];simp only[Sd,ai,D,Cl,cH];try bv_omega
   rw[show(decide ((k.map kn).length<MA))=Mv from by simp;omega];simp only[Sd,ai,v];rw[<-sj G (i,j) (k++[t])]
  have x:gt (sg G (i,j) (k++[t])) t=Mq s:=by rw[lN,if_neg (Nj nt)];exact hb
  have e2:aw (V (n+1)) (.jJ 3 (.var 8) (.tup (.cons (.var 5) (.cons (.var 4) .nil)))) (eQ c r (sg G (i,j) (k++[t])) j i f many (Mq (.d (kn t))) (Mq (.d (.bl b))))=.ok (.nx (eQ c r (sg (sg G (i,j) (k++[t])) t (s++[(i,j)])) j i f many (Mq (.d (kn t))) (Mq (.d (.bl b))))):=by
   have v:xv (λ_=>.lst (s.map kn++[.tup [.int i,.int j]])) (kn t) (bG (sg G (i,j) (k++[t]))) (dw (sg G (i,j) (k++[t])))=dw (sg (sg G (i,j) (k++[t])) t (s++[(i,j)])):=Fc (q:=t) (l:=s) (l':=s++[(i,j)]) (by simp[kn]) (by rw[fT];exact L.nd) x;simp only[Ju,fF,Ls,Cl,ai];try bv_omega
   rw[b8];simp only[Sd,ai,gY,x,N8,Cl,cH];try bv_omega
   rw[show(decide ((s.map kn).length<MA))=Mv from by simp;omega];simp only[Sd,ai,v];rw[<-sj (sg G (i,j) (k++[t])) t (s++[(i,j)])]
  rw[aQ e1,aQ e2];subst_eqs;exact K _ _ _ g h L'
 have X:bU (bG G) (kn t)=(gt G t).isSome:=ug t G;generalize Z:(aT.cons (.jJ 3 (.tup (.cons (.var 5) (.cons (.var 4) .nil))) (.var 8)) (.cons (.jJ 3 (.var 8) (.tup (.cons (.var 5) (.cons (.var 4) .nil)))) (.cons (.set 7 (.op .Add (.var 7) (.cst (.int 1)))) .nil)))=B at yes⊢;clear Z;subst_eqs;refine⟨P,?_⟩;rw[X];by_cases J:(gt G t).isSome=Mv
 .rw[if_pos J];by_cases I:many<90
  .rw[decide_eq_true I,if_pos rfl];have y:=λg h=>T.wp_mono (Q':=λa g=>(match a with|Fl.nx u=>T.ok (Fl.nx u)|A=>T.ok A:T Fl).wp g Q) (λA m2 Y=>by cases A<;>exact(T.ao _ _ _).mpr Y) (yes g h J I);have N:0<(7:Int)/\(7:Int)<1073741824/\0<m/\∀w:Int,0<=w->w<7->if decide (1<w)=Mv then(aw (V (n+1)) B (eQ c r G j i f many (Mq (.d (kn t))) (Mq (.d (.bl b))))).wp (m-1) (λa g=>(match a with|Fl.nx u=>T.ok (Fl.nx u)|A=>T.ok A:T Fl).wp g Q)else Q (.nx (eQ c r G j i f many (Mq (.d (kn t))) (Mq (.d (.bl b))))) (m-1):=by
    refine⟨by omega,by omega,by omega,λw w0 w1=>?_⟩;by_cases M:1<w;.rw[decide_eq_true M,if_pos rfl];exact y _ (by omega)
    .rw[decide_eq_false M,if_neg (by simp)];exact dg _ (by omega)
   cases f with
   |true=>cases b with
    |true=>exact y m (by omega)|false=>exact N
   |false=>exact N
  .rw[decide_eq_false I];simp only[MV,if_false];exact dg m (by omega)
 .rw[if_neg J];exact dg m (by omega)
theorem yu{n:Nat}{c r:Int}{m:Nat}(V:2<=c/\c<=5)(R:2<=r/\r<=5)(hm:200<=m):(tZ defs gv (n+2) 10 [.feed,.d (.int c),.d (.int r)]).wp m (λd x=>m<=x+100/\∃G:Gr,d=.aW (bG G) (dw G)/\(G.map (·.1)).Nodup/\(∀k∈G.map (·.1),0<=k.1/\k.1<c/\0<=k.2/\k.2<r)/\G.length<=25/\Joins G):=by
 have z:=lU;rw[A3 (d:=eV) rfl rfl];unfold eV;refine dW λQ W=>?_;rw[T.wp_bind];subst_eqs;refine⟨rfl,by simp;omega,?_⟩;refine Fe V R λG O b K=>?_;unfold qy;subst_eqs;refine⟨by omega,by omega,by omega,λw w0 w1=>⟨by simp;omega,?_⟩⟩;have M:=K.ln;have o:G.length<=25:=by
  have:r*c<=25:=by rcases(by omega:r=2\/r=3\/r=4\/r=5)with h|h|h|h<;>rw[h]<;>omega
  omega
 have Z:LG c r G 0 0 0 0:=⟨K.nd,λk=>by rw[K.km];omega,λk l e=>by rw[K.em k l e];exact⟨by simp,by simp,by simp⟩,by omega,o⟩;refine lO (λj s x=>m<=x+1+10*j/\∃G a b g f,s=[Mq .feed,Mq (.d (.int c)),Mq (.d (.int r)),Mq (.gq (bG G) (dw G)),(if j=0 then O else Mq (.d (.int ((j:Int)-1)))),b,Mq (.d (.bl (decide (0<w)))),Mq (.d (.int a)),g,f]/\G.length<=25/\LG c r G j 0 0 a) ?_ ?_ ⟨by omega,G,0,b,Mu,Mu,rfl,o,Z⟩
 .rintro j s m1 hj⟨X,G,a,b,g,f,rfl,I,L⟩;rw[si.1,T.ao];refine dW λQ' F=>?_;unfold qx;subst_eqs;refine⟨by simp;omega,?_⟩;refine lO (λi s x=>m1<=x+2*i/\∃G a b g f,s=[Mq .feed,Mq (.d (.int c)),Mq (.d (.int r)),Mq (.gq (bG G) (dw G)),Mq (.d (.int j)),b,Mq (.d (.bl (decide (0<w)))),Mq (.d (.int a)),g,f]/\G.length<=25/\LG c r G j i 0 a) ?_ ?_ ⟨by omega,G,a,b,g,f,rfl,I,L⟩
  .rintro i s m2 hi⟨H,G,a,b,g,f,rfl,B,L⟩;rw[si.1,T.ao];refine dW λQ2 E=>?_;unfold qw;subst_eqs;refine⟨sd (by decide),sd (by decide),sd (by decide),?_⟩;simp only[d8,Wp];unfold c7;rw[T.wp_bind,si.1,T.ao,T.wp_bind];have b1:0<=(i:Int)/\(i:Int)<c/\0<=(j:Int)/\(j:Int)<r:=by omega
   refine uh (t:=((i:Int)+1,(j:Int))) (d:=0) L b1 (.inl ⟨rfl,rfl⟩) (by omega) λG1 D N m3 q1 Y=>?_;dsimp only;unfold c7;rw[T.wp_bind,si.1,T.ao,T.wp_bind];refine uh (t:=((i:Int),(j:Int)+1)) (d:=1) Y b1 (.inr ⟨rfl,rfl⟩) (by omega) λG2 v J m4 q2 L2=>?_;dsimp only;unfold c7;rw[T.ao];dsimp only;rw[T.ao];refine E _ _ ⟨by omega,G2,v,_,_,_,rfl,?_,L2.go λp e U q=>?_⟩;.exact L2.sz
   .unfold Bf at*;omega
  .rintro s m2⟨H,G,a,b,g,f,rfl,B,L⟩;subst_eqs;refine F _ _ ⟨by omega,G,a,b,g,f,by simp,B,L.go λp e U q=>?_⟩;unfold Bf at*;omega
 .rintro s m1⟨X,G,a,b,g,f,rfl,I,L⟩;unfold qv;subst_eqs;refine W _ _ ⟨by omega,G,rfl,L.nd,λk S=>(L.km k).mp S,I,λk l e=>?_⟩;obtain⟨P,o2,A⟩:=L.ok k l e;refine⟨P,λt y=>?_,λt y=>(A t y).2,λt y u hu C=>?_⟩
  .have:=(A t y).1;unfold Nb at this;unfold jk;omega
  .have H:=(A t y).1;have B:=(A u hu).1;have h3:t.1≠u.1\/t.2≠u.2:=by
    by_cases h:t.1=u.1;.right;intro z;exact C (UB h z)
    .exact .inl h
   unfold Nb at H B;unfold dX;omega
theorem yv(p q:Kt):cP bM (kn p) (kn q)=Mq (decide (p=q)):=by
 have h:cP bM (kn p) (kn q)=Mq (((p.1==q.1)&&((p.2==q.2)&&Mv))&&Mv):=by
  unfold bM kn;simp only[cP,br,N8,Ng,NZ,BEq.rfl]
 rw[h];congr 1;rw[O1];simp[Sw]
theorem Iq(p q:Kt):bq .NotEq (kn p) (kn q)=.ok (.bl (!decide (p=q))):=by
 simp only[bq,yv];rfl
theorem yw(l:List Kt):kP Mv (l.map kn)=Mv:=by induction l with
 |nil=>rfl|cons a l b=>
  simp only[MT,kP,b,Bool.and_true];rfl
theorem oB(l:List Kt):flat Mv (.lst (l.map kn))=Mv:=by
 simp only[flat,Bool.true_and];exact yw l
theorem A6{l:List D}{ks:List Kt}(h:l.Perm (ks.map kn)):∃l':List Kt,l=l'.map kn/\l'.Perm ks:=by
 refine⟨l.map λd=>match d with|.tup [.int a,.int b]=>(a,b)|_=>(0,0),?_,?_⟩
 .rw[M_];refine(Sx l).symm.trans (NR λd hd=>?_);obtain⟨p,_,rfl⟩:=List.mem_map.mp (h.subset hd);rfl
 .have:=h.map λd=>match d with|.tup [.int a,.int b]=>(a,b)|_=>((0:Int),(0:Int));rw[M_]at this;refine this.trans (O2 ?_);refine(NR λp _=>?_).trans (Sx ks);rfl
theorem Fg(l:List Kt):d_ (l.map kn)=Mv:=by
 unfold d_;have:(l.map kn).all xq=Mv:=List.all_eq_true.mpr λx a=>by
  obtain⟨p,_,rfl⟩:=List.mem_map.mp a;rfl
 rw[this];simp
noncomputable abbrev ba(G:Gr)(o2 o3 o4 o5:Option W):ag:=[Mq .feed,Mq (.own (.aW (bG G) (dw G))),o2,o3,o4,o5]
theorem ui(G:Gr):(bG G).length=G.length:=by simp[bG]
theorem sk(G:Gr):bG G=(G.map (·.1)).map kn:=by simp[bG]
theorem A7(v:Ev)(i:Nat)(k e:Ex)(ρ:ag):aw v (.put i k e) ρ=(do let d<-ak v e ρ;let a<-nh (<-T.get (d6 ρ i));let q<-ak v k ρ;T.need (decide (a.1.length<OD)&&aC a.1 q);.ok (.nx (ρ.set i (Mq (.own (.aW (putD a.1 a.2 q d).1 (putD a.1 a.2 q d).2)))))):=rfl
theorem uj{n:Nat}{G:Gr}{e:Ex}{i j:Nat}{q k b:Kt}{l:List Kt}{o2 o3 o4 o5:Option W}(f:gt G q=Mq l)(A:G.length<=25)(m:(ba G o2 o3 o4 o5)[i]?=Mq (Mq (.d (kn q))))(vI:i≠1)(s:dy ((ba G o2 o3 o4 o5).set 1 (Mq (.d (.aW (bG G) (dw G))))) 1 [2,j]=[Mu,Mq (.d (kn k)),Mq (.d (kn b))])(u:e=(.y9 (.aG .NotEq (.var 0) (.var 1)) (.var 0) (.var 2))):aw (V n) (.put 1 (.var i) (.kQ 1 (.lc ["_law_there"] [2,j] (.nm 0) (.bD (.idx (.var 1) (.var i))) .yes e))) (ba G o2 o3 o4 o5)=.ok (.nx (ba (sg G q (l.map (to k b))) o2 o3 o4 o5)):=by
 subst u;have z:=lU;have t:ak (V n) (.var i) (ba G o2 o3 o4 o5)=.ok (kn q):=by
  show T.get (fx (ba G o2 o3 o4 o5) i)=_;unfold fx;rw[m];rfl
 have a:ak (V n) (.var i) ((ba G o2 o3 o4 o5).set 1 (Mq (.d (.aW (bG G) (dw G)))))=.ok (kn q):=by
  show T.get (fx _ i)=_;unfold fx;rw[OA (Nj vI),m];rfl
 have hit:nc (V n) (.bD (.idx (.var 1) (.var i))) ((ba G o2 o3 o4 o5).set 1 (Mq (.d (.aW (bG G) (dw G)))))=.ok (l.map kn):=by
  show(T.get (fx ((ba G o2 o3 o4 o5).set 1 (Mq (.d (.aW (bG G) (dw G))))) 1)>>=λd=>ak (V n) (.var i) _>>=λe=>fj d e)>>=(λx=>T.get (d8 x))=_;rw[a];show(T.need (aC (bG G) (kn q))>>=λ_=>T.get (aF (bG G) (dw G) (kn q)))>>=(λx=>T.get (d8 x))=_;rw[b8,gY,f];rfl
 have v:=bK (g:=ek (.nm 0)) (tc:=λρ=>aX (V n) .yes ρ) (te:=λρ=>ak (V n) (.y9 (.aG .NotEq (.var 0) (.var 1)) (.var 0) (.var 2)) ρ) (c:=λ_=>Mv) (e:=λd=>match d with|.tup [.int x,.int y]=>kn (to k b (x,y))|d=>d) (λρ=>∃o,ρ=[o,Mq (.d (kn k)),Mq (.d (kn b))]) (ds:=l.map kn) (ρ:=dy ((ba G o2 o3 o4 o5).set 1 (Mq (.d (.aW (bG G) (dw G))))) 1 [2,j]) (by
  rintro ρ⟨o,rfl⟩d hd;obtain⟨y,w,rfl⟩:=List.mem_map.mp hd;refine⟨_,rfl,⟨_,rfl⟩,rfl,λ_=>?_⟩;bv_omega;rw[Iq];simp only[ai];show(if(!decide (y=k))=Mv then T.ok (kn y)else T.ok (kn b))=.ok (kn (to k b (y.1,y.2)));unfold to;by_cases h:y=k;.simp[h]
  .simp[h]) ⟨Mu,s⟩;have em:((l.map kn).filter (λ_=>Mv)).map (λd=>match d with|.tup [.int x,.int y]=>kn (to k b (x,y))|d=>d)=(l.map (to k b)).map kn:=by rw[List.filter_eq_self.mpr (λ_ _=>rfl),M_,M_];rfl
 have p:ak (V n) (.kQ 1 (.lc ["_law_there"] [2,j] (.nm 0) (.bD (.idx (.var 1) (.var i))) .yes (.y9 (.aG .NotEq (.var 0) (.var 1)) (.var 0) (.var 2)))) (ba G o2 o3 o4 o5)=.ok (.lst ((l.map (to k b)).map kn)):=by
  show((nc (V n) (.bD (.idx (.var 1) (.var i))) ((ba G o2 o3 o4 o5).set 1 (Mq (.d (.aW (bG G) (dw G)))))>>=λds=>dF (ek (.nm 0)) (λρ=>aX (V n) .yes ρ) (λρ=>ak (V n) (.y9 (.aG .NotEq (.var 0) (.var 1)) (.var 0) (.var 2)) ρ) ds (dy ((ba G o2 o3 o4 o5).set 1 (Mq (.d (.aW (bG G) (dw G))))) 1 [2,j])>>=λr=>T.ok (.lst r))>>=λd=>T.need (flat Mv d)>>=λ_=>T.ok d)=_;rw[hit,ai,v,ai,ai,em,oB];rfl
 rw[A7,p,t];show(T.need (decide ((bG G).length<MA)&&aC (bG G) (kn q))>>=λ_=>T.ok (Fl.nx ((ba G o2 o3 o4 o5).set 1 (Mq (.own (.aW (putD (bG G) (dw G) (kn q) (.lst ((l.map (to k b)).map kn))).1 (putD (bG G) (dw G) (kn q) (.lst ((l.map (to k b)).map kn))).2))))))=_;rw[b8,BQ _ (by rw[f];rfl),show decide ((bG G).length<MA)=Mv from decide_eq_true (by rw[ui];omega)];rfl
theorem vy{n:Nat}{G:Gr}{m:Nat}(nd:(G.map (·.1)).Nodup)(hG:G.length<=25)(J:Joins G)(hm:60<=m):(aL defs gv (n+2) 11 [.feed,.own (.aW (bG G) (dw G))]).wp m (λd f=>m<=f+30/\∃c:Gr,d=.aW (bG c) (dw c)/\c.map (·.1)=G.map (·.1)/\Joins c):=by
 have z:=lU;rw[dH (d:=dR) rfl rfl];unfold dR;refine dW λQ hQ=>?_;rw[T.wp_bind];subst_eqs;simp only[lT,fg,ll,kY,T.wp_bind,Wp,T.jX,sk,Fg,if_true];refine⟨by simp;omega,λl v=>?_⟩;obtain⟨l',rfl,pl⟩:=A6 v;refine⟨oB l',?_⟩;rw[<-sk];simp only[d8,T.iM];refine e7 (λy M f=>m<=f+25-y.length/\y.length<=25/\(∀d∈y,∃k∈G.map (·.1),d=kn k)/\∃c u r p o,M=ba c u r p o/\c.map (·.1)=G.map (·.1)/\Joins c) ?_ ?_ ⟨by have:=pl.length_eq;simp at this⊢;omega,by have:=pl.length_eq;simp at this⊢;omega,λd hd=>?_,G,Mu,Mu,Mu,Mu,rfl,rfl,J⟩
 .rintro d y M m1⟨Z,g2,Y,c,u,r,p,o,rfl,t,A⟩;simp only[Ng]at Z g2;obtain⟨k,L,rfl⟩:=Y _ ME;have dg:∀f c u r p o,m1<=f+1->c.map (·.1)=G.map (·.1)->Joins c->(m<=f+25-y.length/\y.length<=25/\(∀d∈y,∃k∈G.map (·.1),d=kn k)/\∃G1 p2 p3 p4 p5,ba c u r p o=ba G1 p2 p3 p4 p5/\G1.map (·.1)=G.map (·.1)/\Joins G1):=λf c u r p o h e j=>⟨by omega,by omega,λd hd=>Y d (MH _ hd),c,u,r,p,o,rfl,e,j⟩;rw[si.1,T.ao];refine dW λH x=>?_;obtain⟨l,v⟩:∃l,gt c k=Mq l:=Option.isSome_iff_exists.mp (fU.mpr (by rw[t];exact L));have W:c.length<=25:=by
   have:=congrArg Qh t;simp at this;omega
  show(aw (V (n+1)) ji (ba c (Mq (.d (kn k))) r p o)).wp m1 H;unfold ji;have e1:ak (V (n+1)) (.kQ 1 (.idx (.var 1) (.var 2))) (ba c (Mq (.d (kn k))) r p o)=.ok (.lst (l.map kn)):=by
   show((T.need (aC (bG c) (kn k))>>=λ_=>T.get (aF (bG c) (dw c) (kn k)))>>=λd=>T.need (flat Mv d)>>=λ_=>T.ok d)=_;rw[b8,gY,v];show(T.need (flat Mv (D.lst (l.map kn)))>>=λ_=>T.ok (D.lst (l.map kn)))=_;rw[oB];rfl
  rw[bz e1];show(aw (V (n+1)) _ (ba c (Mq (.d (kn k))) (Mq (.d (.lst (l.map kn)))) p o)).wp m1 H;generalize hB:(aT.cons (.asg (.tup 2 (.cons (.nm 4) (.cons (.nm 5) .nil))) (.var 3)) _)=B;have nx:∀f,m1<=f+1->H (.nx (ba c (Mq (.d (kn k))) (Mq (.d (.lst (l.map kn)))) p o)) f:=λf h=>x _ _ (dg f _ _ _ _ _ h t A);have yes:∀f,m1<=f+1->l.length=2->(aw (V (n+1)) B (ba c (Mq (.d (kn k))) (Mq (.d (.lst (l.map kn)))) p o)).wp f H:=λf h X=>by match l,X,v with
   |[a,b],_,v=>
    subst hB;have C:=A k _ v;obtain⟨K,ha,_⟩:=C.sy a (by simp);obtain⟨I,hb,_⟩:=C.sy b (by simp);have e2:aw (V (n+1)) (.asg (.tup 2 (.cons (.nm 4) (.cons (.nm 5) .nil))) (.var 3)) (ba c (Mq (.d (kn k))) (Mq (.d (.lst ([a,b].map kn)))) p o)=.ok (.nx (ba c (Mq (.d (kn k))) (Mq (.d (.lst ([a,b].map kn)))) (Mq (.d (kn a))) (Mq (.d (kn b))))):=rfl;rw[aQ e2];generalize hP:(aT.cons (.put 1 (.var 4) _) _)=P;have go:(a.1=b.1\/a.2=b.2)->(aw (V (n+1)) P (ba c (Mq (.d (kn k))) (Mq (.d (.lst ([a,b].map kn)))) (Mq (.d (kn a))) (Mq (.d (kn b))))).wp f H:=λS=>by
     subst hP;obtain⟨N,J2⟩:=A.merge v ha hb S;rw[aQ (uj (e:=nr) (i:=4) (j:=5) (q:=a) (k:=k) (b:=b) ha W rfl (by decide) rfl rfl)];have R:gt (sg c a (K.map (to k b))) b=Mq I:=by rw[lN,if_neg (Nj N)];exact hb
     rw[aQ (uj (e:=nq) (i:=5) (j:=4) (q:=b) (k:=k) (b:=a) R (by simp[sg];omega) rfl (by decide) rfl rfl)];have O:((sg (sg c a (K.map (to k b))) b (I.map (to k a)))).length<=25:=by simp[sg];omega
     have E:(gt (sg (sg c a (K.map (to k b))) b (I.map (to k a))) k).isSome=Mv:=by rw[fU,fT,fT,t];exact L
     generalize U:sg (sg c a (K.map (to k b))) b (I.map (to k a))=g at O E J2;have e3:aw (V (n+1)) (.put 1 (.var 2) (.lst .nil)) (ba g (Mq (.d (kn k))) (Mq (.d (.lst ([a,b].map kn)))) (Mq (.d (kn a))) (Mq (.d (kn b))))=.ok (.nx (ba (sg g k []) (Mq (.d (kn k))) (Mq (.d (.lst ([a,b].map kn)))) (Mq (.d (kn a))) (Mq (.d (kn b))))):=by
      show(T.need (decide (0<=MA))>>=λ_=>T.ok (D.lst []))>>=(λd=>T.need (decide ((bG g).length<MA)&&aC (bG g) (kn k))>>=λ_=>T.ok (Fl.nx ((ba g (Mq (.d (kn k))) (Mq (.d (.lst ([a,b].map kn)))) (Mq (.d (kn a))) (Mq (.d (kn b)))).set 1 (Mq (.own (.aW (putD (bG g) (dw g) (kn k) d).1 (putD (bG g) (dw g) (kn k) d).2))))))=_;rw[E9];show(T.need (decide ((bG g).length<MA)&&aC (bG g) (kn k))>>=λ_=>T.ok (Fl.nx ((ba g (Mq (.d (kn k))) (Mq (.d (.lst ([a,b].map kn)))) (Mq (.d (kn a))) (Mq (.d (kn b)))).set 1 (Mq (.own (.aW (putD (bG g) (dw g) (kn k) (.lst (([]:List Kt).map kn))).1 (putD (bG g) (dw g) (kn k) (.lst (([]:List Kt).map kn))).2))))))=_;rw[b8,BQ _ E,show decide ((bG g).length<MA)=Mv from decide_eq_true (by rw[ui];omega)];rfl
     rw[aQ e3];refine(T.ao _ _ _).mpr (x _ _ (dg f _ _ _ _ _ h ?_ J2));rw[<-U,fT,fT,fT,t]
    clear hP;unfold kn at go⊢;subst_eqs;cases h4:(a.1==b.1)with
    |true=>
     simp only[if_true];exact T.wp_mono (λF m2 s=>by cases F<;>first|exact(T.ao _ _ _).mpr s|exact s) (go (.inl (by simpa using h4)))|false=>
     simp only[MV,if_false];cases h5:(a.2==b.2)with
     |true=>
      simp only[if_true];exact T.wp_mono (λF m2 s=>by cases F<;>first|exact(T.ao _ _ _).mpr s|exact s) (go (.inr (by simpa using h5)))|false=>
      simp only[MV,if_false];exact x _ _ (dg f _ _ _ _ _ h t A)
  clear hB;subst_eqs;simp only[lT,Wp,T.wp_bind,M0];subst_eqs;by_cases X:l.length=2
  .rw[show(((l.length:Nat):Int)==2)=Mv by simp;omega];simp only[if_true];refine⟨by omega,by omega,by omega,λw w0 w1=>?_⟩;by_cases h3:0<w
   .rw[decide_eq_true h3,if_pos rfl];exact T.wp_mono (λF m2 s=>by cases F<;>first|exact(T.ao _ _ _).mpr s|exact s) (yes _ (by omega) X)
   .rw[decide_eq_false h3];simp only[MV,if_false];exact nx _ (by omega)
  .rw[show(((l.length:Nat):Int)==2)=Mw by simp;omega];simp only[MV,if_false];exact nx _ (by omega)
 .rintro M m1⟨Z,g2,Y,c,u,r,p,o,rfl,t,A⟩;unfold nk;subst_eqs;exact hQ _ _ ⟨by simp at Z;omega,c,rfl,t,A⟩
 .obtain⟨k,L,rfl⟩:=List.mem_map.mp hd;exact⟨k,pl.subset L,rfl⟩
theorem qH{a b:Type}{f:a->b}(g:b->a)(c:∀x,g (f x)=x){l:List b}{ks:List a}(h:l.Perm (ks.map f)):∃l':List a,l=l'.map f/\l'.Perm ks:=by
 refine⟨l.map g,?_,?_⟩
 .rw[M_];refine(Sx l).symm.trans (NR λd hd=>?_);obtain⟨p,_,rfl⟩:=List.mem_map.mp (h.subset hd);show f p=f (g (f p));rw[c]
 .have:=h.map g;rw[M_]at this;refine this.trans (O2 ?_);refine(NR λp _=>?_).trans (Sx ks);exact c p
theorem uk(ks:List Kt)(q:Kt):aC (ks.map kn) (kn q)=Mv:=by
 have:=b8 (ks.map λk=>(k,[])) q;unfold bG at this;rwa[M_]at this
theorem Ir(ks:List Kt)(q:Kt):bU (ks.map kn) (kn q)=decide (q∈ks):=by induction ks with
 |nil=>rfl|cons k ks a=>
  unfold bU at a⊢;simp only[MT,Pa,gm,a];by_cases h:k=q;.simp[h]
  .have:¬q=k:=λe=>h e.symm;simp[h,this]
theorem yx:∀(ks:List Kt)(xs:List Int)(as:List Kt)(bs:List Int),ks.length=xs.length->(as++ks).Nodup->as.length+ks.length<=1000->ee (l4 (ks.map kn) (xs.map D.int)) (as.map kn,bs.map D.int)=Mq ((as++ks).map kn,(bs++xs).map D.int)
 |[],[],as,bs,_,_,_=>by simp[l4,ee]|k::ks,x::xs,as,bs,c,nd,a=>by
  have z:=lU;have d:k∉as:=λh=>by
   have:=(List.nodup_append.mp nd).2.2 k h k ME;exact this rfl
  have b:=yx ks xs (as++[k]) (bs++[x]) (by simpa using c) (by simpa using nd) (by simp at a⊢;omega);show ee (D.tup [kn k,D.int x]::l4 (ks.map kn) (xs.map D.int)) _=_;unfold ee;rw[if_pos (by rw[uk];simp at a⊢;omega)];have:putD (as.map kn) (bs.map D.int) (kn k) (D.int x)=((as++[k]).map kn,(bs++[x]).map D.int):=by
   unfold putD;rw[Ir,decide_eq_false d];simp
  show ee _ (putD (as.map kn) (bs.map D.int) (kn k) (D.int x))=_;rw[this,b];simp
theorem yy:∀{ks:List Kt}{xs:List Int},ks.length=xs.length->ks.Nodup->xs.Nodup->∃N:Kt->Int,(∀q∈ks,aF (ks.map kn) (xs.map D.int) (kn q)=Mq (.int (N q))/\N q∈xs)/\∀p∈ks,∀q∈ks,N p=N q->p=q
 |[],[],_,_,_=>⟨λ_=>0,by simp,by simp⟩|k::ks,x::xs,g,nd,nx=>by
  rw[O3]at nd nx;obtain⟨N,d,i⟩:=yy (ks:=ks) (xs:=xs) (by simpa using g) nd.2 nx.2;refine⟨λq=>if q=k then x else N q,λq c=>?_,λp f q c e=>?_⟩
  .simp only[MT,aF,gm];by_cases h:q=k;.simp[h]
   .have j:¬k=q:=λe=>h e.symm;have:=d q (by simpa[h]using c);simp[h,j,this.1,this.2]
  .simp only at e;by_cases b:p=k<;>by_cases a:q=k;.rw[b,a]
   .rw[if_pos b,if_neg a]at e;have:=(d q (by simpa[a]using c)).2;rw[<-e]at this;exact absurd this nx.1
   .rw[if_neg b,if_pos a]at e;have:=(d p (by simpa[b]using f)).2;rw[e]at this;exact absurd this nx.1
   .rw[if_neg b,if_neg a]at e;exact i p (by simpa[b]using f) q (by simpa[a]using c) e
theorem Iu(p q:Kt):bq .Lt (kn p) (kn q)=.ok (.bl (decide (p.1<q.1\/p.1=q.1/\p.2<q.2))):=by
 show T.ok (D.bl (HT.lexLt [p.1,p.2] [q.1,q.2]))=_;congr 2;rw[HT.eK,HT.eK,HT.gu];rw[O1];split
 .rename_i h;split;.rename_i a;simp;omega
  .simp;omega
 .simp;omega
noncomputable def c3(p:Int×Int×Int):D:=.tup [.int p.1,.int p.2.1,.int p.2.2]
structure aR(cs:List (Int×Int×Int))(ws:List Kt):Prop where
 nd:(cs.map (·.1)).Nodup
 lc:cs.length<=25
 lw:ws.length<=625
 rg:∀w∈ws,0<=w.1/\w.1<=999/\0<=w.2/\w.2<=999
 ln:∀w∈ws,∃p∈cs,∃q∈cs,p.1=w.1/\q.1=w.2/\1<=q.2.1-p.2.1+q.2.2-p.2.2/\q.2.1-p.2.1+q.2.2-p.2.2<=2000000
 up:∀w∈ws,∀p∈cs,∀q∈cs,p.1=w.1->q.1=w.2->p.2.1<=q.2.1/\p.2.2<=q.2.2
 pt:∀p∈cs,0<=p.2.1/\p.2.1<=1000000/\0<=p.2.2/\p.2.2<=1000000
 wn:ws.Nodup
theorem Iv(l:List D):bq .NotEq (.lst l) (.lst [])=.ok (.bl (!l.isEmpty)):=by
 unfold bq bM;simp only[cP];cases l<;>rfl
theorem A8{s a b:Int}(c:s=7\/s=303\/s=617\/s=999)(f:Int)(ha:0<=a/\a<25)(hb:0<=b/\b<25)(h:(f+s*a)%1000=(f+s*b)%1000):a=b:=by rcases c with rfl|rfl|rfl|rfl<;>omega
theorem fV{b:Type}:∀{l:List b}(n:Nat),l.Nodup->(l.eraseIdx n).Nodup
 |[],_,_=>by simp|a::l,0,h=>(List.nodup_cons.mp h).2|a::l,n+1,h=>by
  rw[O3]at h;rw[Sa,O3];exact⟨λz=>h.1 (Qa z),fV n h.2⟩
theorem eC{b:Type}{x:b}:∀{l:List b}(n:Nat),l.Nodup->l[n]?=Mq x->x∉l.eraseIdx n
 |[],_,_,h=>by simp at h|a::l,0,h,e=>by simp at e;subst e;exact(List.nodup_cons.mp h).1|a::l,n+1,h,e=>by
  rw[O3]at h;rw[Sa];intro z;rcases List.mem_cons.mp z with rfl|z;.exact h.1 (Nz (by simpa using e))
  .exact eC n h.2 (by simpa using e) z
theorem iO{b c:Type}(f:b->c):∀(l:List b)(n:Nat),(l.map f).eraseIdx n=(l.eraseIdx n).map f
 |[],_=>rfl|a::l,0=>rfl|a::l,n+1=>by simp[iO f l n]
theorem yz{n:Nat}{Q:List D->Nat->Prop}{k:Int}{o2 o3:Option W}:∀(ds:List D)(rest:List Int)(m:Nat),ds.length=rest.length->rest.length<=25->rest.length<=m->rest.Nodup->(∀x∈rest,0<=x/\x<=999)->(∀xs:List Int,∀a,m<=a+rest.length->xs.length=rest.length->xs.Nodup->(∀x∈xs,x∈rest)->Q (xs.map D.int) a)->(vq (λρ=>ak (V (n+1)) gR ρ) [Mq .feed,Mq (.d (.int k)),o2,o3,Mq (.own (.lst ((av k.toNat))))] 4 [0,4] ds (rest.map D.int)).wp m Q
 |[],rest,m,b,_,_,_,_,q=>by
  have e:rest=[]:=List.length_eq_zero_iff.mp b.symm;subst e;exact(T.ao _ _ _).mpr (q [] m (by simp) rfl (by simp) (by simp))|d::ds,rest,m,b,o,r,nd,hb,q=>by
  have z:=lU;simp only[Ng]at b;have l:ak (V (n+1)) gR ((dy ((([Mq .feed,Mq (.d (.int k)),o2,o3,Mq (.own (.lst ((av k.toNat))))]:ag)).set 4 (Mq (.own (.lst (rest.map D.int))))) 1 [0,4]).set 0 (Mq (.d d)))=.draw ((rest.map D.int).length:Int) λi=>.ok (.int i):=rfl;unfold vq;rw[l,M0];simp only[T.wp_bind,Wp,bN,T.jX];refine⟨by omega,by omega,by omega,λi i0 j=>⟨?_,?_⟩⟩
  .simp only[MG,decide_eq_true_eq];exact⟨i0,j,by omega⟩
  have c:i.toNat<rest.length:=by omega
  have f:rest[i.toNat]?=Mq rest[i.toNat]:=MY c;rw[M9,f];simp only[N8,Wp];have le:(rest.eraseIdx i.toNat).length=rest.length-1:=by rw[List.length_eraseIdx,if_pos c]
  rw[iO];refine yz ds (rest.eraseIdx i.toNat) (m-1) (by omega) (by omega) (by omega) (fV _ nd) (λx h=>hb x (Qa h)) λxs a t s p g=>?_;rw[show D.int rest[i.toNat]::xs.map D.int=(rest[i.toNat]::xs).map D.int from rfl];refine q _ a (by omega) (by simp;omega) (List.nodup_cons.mpr ⟨λz=>eC _ nd f (g _ z),p⟩) λx h=>?_;rcases List.mem_cons.mp h with rfl|h;.exact Sb c
  .exact Qa (g x h)
theorem sr{n:Nat}{k:Int}{m:Nat}(K:0<=k/\k<=25)(J:40<=m):(aL defs gv (n+2) 12 [.feed,.d (.int k)]).wp m (λd p=>m<=p+30/\∃xs:List Int,d=.lst (xs.map D.int)/\(xs.length:Int)=k/\xs.Nodup/\∀x∈xs,0<=x/\x<=999):=by
 have z:=lU;rw[dH (d:=dv) rfl rfl];unfold dv;refine dW λQ u=>?_;rw[T.wp_bind];subst_eqs;refine⟨by omega,by omega,by omega,λi i0 I=>?_⟩;by_cases t:i=0
 .subst t;rw[if_pos (by simp)];refine⟨sd (by decide),by omega,by omega,by omega,λj H G=>?_⟩;have r:∃s:Int,fu [D.int 7,D.int 303,D.int 617,D.int 999] j=Mq (.int s)/\(s=7\/s=303\/s=617\/s=999):=by
   rcases(by omega:j=0\/j=1\/j=2\/j=3)with rfl|rfl|rfl|rfl;.exact⟨7,rfl,by omega⟩
   .exact⟨303,rfl,by omega⟩
   .exact⟨617,rfl,by omega⟩
   .exact⟨999,rfl,by omega⟩
  obtain⟨s,C,r⟩:=r;rw[C];subst_eqs;refine⟨by omega,by omega,by omega,λf M L=>⟨by simp;omega,?_⟩⟩;have F:=bK (g:=ek (.nm 0)) (tc:=λρ=>T.ok Mv) (te:=λρ=>ak (V (n+1)) gS ρ) (c:=λ_=>Mv) (e:=λd=>match d with|.int y=>.int ((f+s*y)%1000)|d=>d) (λρ=>∃o,ρ=[o,Mq (.d (.int s)),Mq (.d (.int f))]) (ds:=av k.toNat) (ρ:=dy [Mq .feed,Mq (.d (.int k)),Mq (.d (.int s)),Mq (.d (.int f)),Mu] 1 [2,3]) (by
   rintro ρ⟨o,rfl⟩d hd;obtain⟨y,q,rfl⟩:=List.mem_map.mp hd;refine⟨_,rfl,⟨_,rfl⟩,rfl,λ_=>?_⟩;unfold gS;bv_omega;rw[iN (i:=s) ⟨by omega,by omega⟩];rfl) ⟨Mu,rfl⟩;rw[F,T.ao];have em:(List.filter (λ_=>Mv) (av k.toNat)).map (λd=>match d with|.int y=>.int ((f+s*y)%1000)|d=>d)=((N_ k.toNat).map λ(i:Nat)=>(f+s*(i:Int))%1000).map D.int:=by
   rw[List.filter_eq_self.mpr (λ_ _=>rfl)];unfold av;rw[M_,M_];rfl
  rw[em];refine u _ _ ⟨by omega,_,rfl,by simp;omega,?_,λx l=>?_⟩
  .refine RG (R:=λa b=>a<b/\b<k.toNat) _ (λa b h=>λe=>?_) ?_
   .have:=A8 r f (a:=a) (b:=b) (by omega) (by omega) e;omega
   .have:(N_ k.toNat).Pairwise (λa b=>a<b):=Sy;exact Pc (λ{a b}ha hb h=>⟨h,List.mem_range.mp hb⟩) this
  .obtain⟨y,_,rfl⟩:=List.mem_map.mp l;omega
 .rw[if_neg (by simpa using t)];unfold lH;subst_eqs;refine⟨rfl,by simp;omega,by simp;omega,?_⟩;have E:av k.toNat=((N_ k.toNat).map λ(i:Nat)=>(i:Int)).map D.int:=by unfold av;rw[M_];rfl
  have key:=yz (n:=n) (k:=k) (o2:=Mu) (o3:=Mu) (Q:=λa p=>Q (.lst a) p) (av k.toNat) ((N_ k.toNat).map λ(i:Nat)=>(i:Int)) (m-1) (by simp[av]) (by simp;omega) (by simp;omega) ?_ (λx l=>?_) λxs p B A w v=>u _ _ ⟨by simp at B;omega,xs,rfl,by simp at A;omega,w,λx l=>?_⟩
  .rw[<-E]at key;exact key
  .refine RG (R:=λa b=>a<b) _ (λa b h=>λe=>?_) Sy;omega
  .obtain⟨y,q,rfl⟩:=List.mem_map.mp l;have:=List.mem_range.mp q;omega
  .obtain⟨y,q,rfl⟩:=List.mem_map.mp (v x l);have:=List.mem_range.mp q;omega
theorem A9{n:Nat}{c r:Int}{m:Nat}{Q:D->Nat->Prop}(p:2<=c/\c<=5)(j:2<=r/\r<=5)(s:300<=m)(h:∀(G:Gr)b,m<=b+130->(G.map (·.1)).Nodup->(∀k∈G.map (·.1),0<=k.1/\k.1<c/\0<=k.2/\k.2<r)->G.length<=25->Joins G->Q (.aW (bG G) (dw G)) b):(tZ defs gv (n+2) 10 [.feed,.d (.int c),.d (.int r)]).wp m (λd b=>(aL defs gv (n+2) 11 [.feed,.own d]).wp b Q):=by
 have H:=yu (n:=n) p j (m:=m) (by omega);have N:∀(d:D)(b:Nat),(m<=b+100/\∃G:Gr,d=.aW (bG G) (dw G)/\(G.map (·.1)).Nodup/\(∀k∈G.map (·.1),0<=k.1/\k.1<c/\0<=k.2/\k.2<r)/\G.length<=25/\Joins G)->∃G:Gr,d=.aW (bG G) (dw G)/\60<=b/\(G.map (·.1)).Nodup/\G.length<=25/\Joins G/\∀(a:D)(g:Nat),(b<=g+30/\∃f:Gr,a=.aW (bG f) (dw f)/\f.map (·.1)=G.map (·.1)/\Joins f)->Q a g:=by
  rintro d m1⟨o,G,rfl,nd,i,e,J⟩;refine⟨G,rfl,by omega,nd,e,J,?_⟩;rintro a m2⟨l,f,rfl,ks,q⟩;rw[<-ks]at nd i;exact h f m2 (by omega) nd i (by have:=congrArg Qh ks;simp at this;omega) q
 refine T.wp_mono (λd m1 hd=>?_) H;refine(N d m1 hd).elim λG e=>?_;rw[e.1];exact T.wp_mono e.2.2.2.2.2 (vy e.2.2.1 e.2.2.2.1 e.2.2.2.2.1 e.2.1)
theorem yA{n:Nat}{k s:Int}{m:Nat}{Q:D->Nat->Prop}(e:2<=k/\k<=5)(b:s=1\/s=1000)(c:10<=m)(h:∀(xs:List Int)a,m<=a+7->(xs.length:Int)=k->(∀x∈xs,0<=x/\x<=1000000)->xs.Pairwise (·<·)->Q (.lst (xs.map D.int)) a):(aL defs gv (n+2) 9 [.feed,.d (.int k),.d (.int s)]).wp m Q:=T.wp_mono (by rintro d m1⟨j,xs,rfl,i,g,f⟩;exact h xs m1 j i g f) (A5 e b c)
theorem vz{n:Nat}{k:Int}{m:Nat}{Q:D->Nat->Prop}(c:0<=k/\k<=25)(b:40<=m)(h:∀(xs:List Int)a,m<=a+30->(xs.length:Int)=k->xs.Nodup->(∀x∈xs,0<=x/\x<=999)->Q (.lst (xs.map D.int)) a):(aL defs gv (n+2) 12 [.feed,.d (.int k)]).wp m Q:=T.wp_mono (by rintro d m1⟨i,xs,rfl,g,f,e⟩;exact h xs m1 i g f e) (sr c b)
theorem sort_k{a:Type}{f:a->D}(g:D->a)(i:∀x,g (f x)=x)(j:∀x,xq (f x)=Mv){d:D}{ks:List a}{m:Nat}{Q:D->Nat->Prop}(hd:kY d=Mq (ks.map f))(b:ks.length<=1000)(h:∀l:List a,l.Perm ks->Q (.lst (l.map f)) m):(lT .sorted [d]).wp m Q:=by
 have z:=lU;have:d_ (ks.map f)=Mv:=by
  unfold d_;have:(ks.map f).all xq=Mv:=List.all_eq_true.mpr λx e=>by
   obtain⟨p,_,rfl⟩:=List.mem_map.mp e;exact j p
  rw[this];simp
 simp only[lT,fg,ll,hd,T.wp_bind,Wp,T.jX,this,if_true];refine⟨by simp;omega,λl b=>?_⟩;obtain⟨c,rfl,pl⟩:=qH g i b;exact h c pl
noncomputable def um:D->Kt
 |.tup [.int a,.int b]=>(a,b)|_=>(0,0)
noncomputable def Mn:D->Int×Int×Int
 |.tup [.int a,.int b,.int c]=>(a,b,c)|_=>(0,0,0)
structure Net(c r:Int)(G:Gr)(K:List Kt):Prop where
 nd:K.Nodup
 lK:K.length<=25
 gK:∀q∈K,(0<=q.1/\q.1<c/\0<=q.2/\q.2<r)/\∃t,gt G q=Mq t/\t.length<=25/\t.Nodup/\∀u∈t,u∈K/\jk q u
theorem Net.of{c r:Int}{G:Gr}{l':List Kt}(nd:(G.map (·.1)).Nodup)(i:∀k∈G.map (·.1),0<=k.1/\k.1<c/\0<=k.2/\k.2<r)(l:G.length<=25)(J:Joins G)(pl:l'.Perm (G.map (·.1))):Net c r G (l'.filter λq=>!(((gt G q).getD []).isEmpty)):=by
 have e:l'.Nodup:=pl.symm.nodup nd;have d:l'.length<=25:=by have:=pl.length_eq;simp at this;omega
 have lK:(l'.filter λq=>!(((gt G q).getD []).isEmpty)).length<=25:=Nv (QJ _ _) d;refine⟨e.filter _,lK,λq j=>?_⟩;have b:=pl.subset (List.mem_filter.mp j).1;refine⟨i q b,?_⟩;obtain⟨t,g⟩:=Option.isSome_iff_exists.mp (fU.mpr b);have ok:=J q t g;have sub:∀u∈t,u∈l'.filter λq=>!(((gt G q).getD []).isEmpty):=λu hu=>by
  obtain⟨h,a,f⟩:=ok.sy u hu;rw[List.mem_filter];refine⟨pl.symm.subset (fU.mp (by rw[a];rfl)),?_⟩;rw[a];cases h with
  |nil=>cases f|cons _ _=>rfl
 exact⟨t,g,Nv (List.Nodup.length_le_of_subset ok.nd (λu hu=>sub u hu)) lK,ok.nd,λu hu=>⟨sub u hu,ok.ln u hu⟩⟩
noncomputable abbrev jL(c r s:Int)(G:Gr)(xs ys:List Int)(o8 o9 o10 o11 a:Option W):ag:=[Mq .feed,Mq (.d (.int 5)),Mq (.d (.int s)),Mq (.d (.int c)),Mq (.d (.int r)),Mq (.d (.aW (bG G) (dw G))),Mq (.d (.lst (xs.map D.int))),Mq (.d (.lst (ys.map D.int))),o8,o9,o10,o11,a]
theorem A_{n:Nat}{c r s:Int}{G:Gr}{xs ys:List Int}{m:Nat}{Q:D->Nat->Prop}(nd:(G.map (·.1)).Nodup)(f:∀k∈G.map (·.1),0<=k.1/\k.1<c/\0<=k.2/\k.2<r)(l:G.length<=25)(J:Joins G)(h:∀K,Net c r G K->Q (.lst (K.map kn)) m):(ak (V (n+3)) (.lc ["_law_knot"] [5] (.nm 0) (.bD (.bi .sorted (.cons (.var 5) .nil))) oh rZ) (jL c r s G xs ys Mu Mu Mu Mu Mu)).wp m Q:=by
 subst_eqs;refine sort_k um (λ_=>rfl) (λ_=>rfl) (ks:=G.map (·.1)) (by rw[<-sk];rfl) (by simp;omega) λa pl=>?_;simp only[d8,T.iM];have b:=bK (g:=ek (.nm 0)) (tc:=λρ=>aX (V (n+3)) oh ρ) (te:=λρ=>ak (V (n+3)) rZ ρ) (c:=λd=>!(((gt G (um d)).getD []).isEmpty)) (e:=id) (λρ=>∃o,ρ=[o,Mq (.d (.aW (bG G) (dw G)))]) (ds:=a.map kn) (ρ:=dy (jL c r s G xs ys Mu Mu Mu Mu Mu) 1 [5]) (by
  rintro ρ⟨o,rfl⟩d hd;obtain⟨q,j,rfl⟩:=List.mem_map.mp hd;refine⟨_,rfl,⟨_,rfl⟩,?_,λ_=>rfl⟩;obtain⟨t,i⟩:=Option.isSome_iff_exists.mp (fU.mpr (pl.subset j));show _=T.ok (!((gt G (q.1,q.2)).getD []).isEmpty);unfold oh;bv_omega;simp only[fj,b8,gY,i,Sd,ai,N8,Cl,Iv,aZ,R1];cases t<;>rfl) ⟨Mu,rfl⟩;have em:((a.map kn).filter (λd=>!(((gt G (um d)).getD []).isEmpty))).map id=(a.filter λq=>!(((gt G q).getD []).isEmpty)).map kn:=by rw[Up,SN];rfl
 rw[em]at b;refine(congrArg (λt=>T.wp t m _) b).mpr ?_;exact(T.ao _ _ _).mpr (h _ (Net.of nd f l J pl))
noncomputable def pl(xs:List Int)(i:Int):Int:=(xs[i.toNat]?).getD 0
theorem BR{xs:List Int}{i:Int}(a:0<=i)(h:i<xs.length):fu (xs.map D.int) i=Mq (.int (pl xs i)):=by
 refine E8 a ?_;rw[M9];unfold pl;rw[MY (by omega)];rfl
theorem uq{xs:List Int}{i j:Int}(a:xs.Pairwise (·<·))(c:0<=i)(h:i<j)(b:j<xs.length):pl xs i<pl xs j:=by
 unfold pl;rw[MY (by omega),MY (by omega)];exact List.pairwise_iff_getElem.mp a _ _ _ _ (by omega)
theorem ny{xs:List Int}{i:Int}(a:∀x∈xs,0<=x/\x<=1000000)(b:0<=i)(h:i<xs.length):0<=pl xs i/\pl xs i<=1000000:=by
 unfold pl;rw[MY (by omega)];exact a _ (Sb _)
structure Nums(K:List Kt)(ns:List Int)(N:Kt->Int):Prop where
 lk:∀q∈K,aF (K.map kn) (ns.map D.int) (kn q)=Mq (.int (N q))rg:∀q∈K,0<=N q/\N q<=999
 inj:∀p∈K,∀q∈K,N p=N q->p=q
noncomputable abbrev dN(K:List Kt)(ns:List Int):D:=.aW (K.map kn) (ns.map D.int)
theorem yB{K:List Kt}{ns:List Int}{N:Kt->Int}(h:Nums K ns N){q:Kt}(a:q∈K):fj (dN K ns) (kn q)=.ok (.int (N q)):=by simp only[fj,uk,h.lk q a,Sd,ai,Cl]
theorem vA{n:Nat}{c r s:Int}{G:Gr}{K:List Kt}{ns xs ys:List Int}{N:Kt->Int}(H:Net c r G K)(hN:Nums K ns N)(m:(xs.length:Int)=c)(l:(ys.length:Int)=r):ak (V (n+3)) (.lc ["_law_i","_law_j"] [6,7,9] (.tup 2 (.cons (.nm 0) (.cons (.nm 1) .nil))) (.bD (.var 8)) .yes lI) (jL c r s G xs ys (Mq (.d (.lst (K.map kn)))) (Mq (.d (dN K ns))) Mu Mu Mu)=.ok (.lst ((K.map λq=>(N q,pl xs q.1,pl ys q.2)).map c3)):=by
 have z:=lU;have f:=bK (g:=ek (.tup 2 (.cons (.nm 0) (.cons (.nm 1) .nil)))) (tc:=λρ=>aX (V (n+3)) .yes ρ) (te:=λρ=>ak (V (n+3)) lI ρ) (c:=λ_=>Mv) (e:=λd=>c3 (N (um d),pl xs (um d).1,pl ys (um d).2)) (λρ=>∃o a,ρ=[o,a,Mq (.d (.lst (xs.map D.int))),Mq (.d (.lst (ys.map D.int))),Mq (.d (dN K ns))]) (ds:=K.map kn) (ρ:=dy (jL c r s G xs ys (Mq (.d (.lst (K.map kn)))) (Mq (.d (dN K ns))) Mu Mu Mu) 2 [6,7,9]) (by
  rintro ρ⟨o,a,rfl⟩d hd;obtain⟨q,b,rfl⟩:=List.mem_map.mp hd;refine⟨[Mq (.d (.int q.1)),Mq (.d (.int q.2)),Mq (.d (.lst (xs.map D.int))),Mq (.d (.lst (ys.map D.int))),Mq (.d (dN K ns))],rfl,⟨_,_,rfl⟩,rfl,λ_=>?_⟩;obtain⟨p,_⟩:=H.gK q b;have k:=BR (xs:=xs) (i:=q.1) (by omega) (by omega);have j:=BR (xs:=ys) (i:=q.2) (by omega) (by omega);have h:=yB hN b;unfold kn at h;unfold lI;bv_omega;simp only[k,j,h,Sd,ai,Cl,fi];rfl) ⟨Mu,Mu,rfl⟩;have em:((K.map kn).filter (λ_=>Mv)).map (λd=>c3 (N (um d),pl xs (um d).1,pl ys (um d).2))=(K.map λq=>(N q,pl xs q.1,pl ys q.2)).map c3:=by rw[List.filter_eq_self.mpr (λ_ _=>rfl),M_,M_];rfl
 rw[em]at f;show(T.get (d8 (.lst (K.map kn)))>>=λds=>dF _ _ _ ds _>>=λr=>T.ok (D.lst r))=_;show(dF (ek (.tup 2 (.cons (.nm 0) (.cons (.nm 1) .nil)))) (λρ=>aX (V (n+3)) .yes ρ) (λρ=>ak (V (n+3)) lI ρ) (K.map kn) (dy (jL c r s G xs ys (Mq (.d (.lst (K.map kn)))) (Mq (.d (dN K ns))) Mu Mu Mu) 2 [6,7,9])>>=λr=>T.ok (D.lst r))=_;rw[f];rfl
noncomputable def below(q u:Kt):Bool:=decide (q.1<u.1\/q.1=u.1/\q.2<u.2)
theorem Ba{n:Nat}{c r s:Int}{G:Gr}{K t:List Kt}{q:Kt}{ns xs ys:List Int}{N:Kt->Int}{o10 o11:Option W}(hN:Nums K ns N)(h:q∈K)(f:gt G q=Mq t)(hu:∀u∈t,u∈K):ak (V (n+3)) (.lc ["_law_there"] [9,12] (.nm 0) (.bD (.idx (.var 5) (.var 12))) gU gV) (jL c r s G xs ys (Mq (.d (.lst (K.map kn)))) (Mq (.d (dN K ns))) o10 o11 (Mq (.d (kn q))))=.ok (.lst (((t.filter (below q)).map λu=>(N q,N u)).map kn)):=by
 have z:=lU;have b:=bK (g:=ek (.nm 0)) (tc:=λρ=>aX (V (n+3)) gU ρ) (te:=λρ=>ak (V (n+3)) gV ρ) (c:=λd=>below q (um d)) (e:=λd=>kn (N q,N (um d))) (λρ=>∃o,ρ=[o,Mq (.d (dN K ns)),Mq (.d (kn q))]) (ds:=t.map kn) (ρ:=dy (jL c r s G xs ys (Mq (.d (.lst (K.map kn)))) (Mq (.d (dN K ns))) o10 o11 (Mq (.d (kn q)))) 1 [9,12]) (by
  rintro ρ⟨o,rfl⟩d hd;obtain⟨u,a,rfl⟩:=List.mem_map.mp hd;refine⟨_,rfl,⟨_,rfl⟩,?_,λ_=>?_⟩
  .unfold gU;bv_omega;rw[Iu];rfl
  .unfold gV;bv_omega;simp only[yB hN h,yB hN (hu u a),ai,Sd,Cl,fi];rfl) ⟨Mu,rfl⟩;have em:((t.map kn).filter (λd=>below q (um d))).map (λd=>kn (N q,N (um d)))=((t.filter (below q)).map λu=>(N q,N u)).map kn:=by rw[SN,M_,M_];rfl
 rw[em]at b;have i:nc (V (n+3)) (.bD (.idx (.var 5) (.var 12))) (jL c r s G xs ys (Mq (.d (.lst (K.map kn)))) (Mq (.d (dN K ns))) o10 o11 (Mq (.d (kn q))))=.ok (t.map kn):=by
  show((T.need (aC (bG G) (kn q))>>=λ_=>T.get (aF (bG G) (dw G) (kn q)))>>=λd=>T.get (d8 d))=_;rw[b8,gY,f];rfl
 show(nc (V (n+3)) (.bD (.idx (.var 5) (.var 12))) (jL c r s G xs ys (Mq (.d (.lst (K.map kn)))) (Mq (.d (dN K ns))) o10 o11 (Mq (.d (kn q))))>>=λds=>dF (ek (.nm 0)) (λρ=>aX (V (n+3)) gU ρ) (λρ=>ak (V (n+3)) gV ρ) ds (dy (jL c r s G xs ys (Mq (.d (.lst (K.map kn)))) (Mq (.d (dN K ns))) o10 o11 (Mq (.d (kn q)))) 1 [9,12])>>=λr=>T.ok (D.lst r))=_;rw[i,ai,b];rfl
noncomputable def Le(K:List Kt)(N:Kt->Int)(w:Kt):Prop:=∃q∈K,∃u∈K,w=(N q,N u)/\jk q u/\below q u=Mv
inductive WI(c r s:Int)(G:Gr)(K:List Kt)(ns xs ys:List Int)(N:Kt->Int)(cs:D)(m:Nat)(ds:List D)(ρ:ag)(m':Nat):Prop|mk(ws:List Kt)(o12:Option W)(eρ:ρ=jL c r s G xs ys (Mq (.d (.lst (K.map kn)))) (Mq (.d (dN K ns))) (Mq (.d cs)) (Mq (.own (.lst (ws.map kn)))) o12)(g1:m'=m)(g2:∀d∈ds,∃q∈K,d=kn q)(g3:ws.length+25*ds.length<=625)(g4:∀w∈ws,Le K N w)(g5:ws.Nodup)(g6:ds.Nodup)(g7:∀w∈ws,∀q∈K,kn q∈ds->N q≠w.1)
theorem Bb{n:Nat}{c r s:Int}{G:Gr}{K:List Kt}{ns xs ys:List Int}{N:Kt->Int}{cs:D}{m:Nat}{Q:Fl->Nat->Prop}(H:Net c r G K)(hN:Nums K ns N)(h:∀(f:List Kt)(g:Option W),f.length<=625->(∀w∈f,Le K N w)->f.Nodup->Q (.nx (jL c r s G xs ys (Mq (.d (.lst (K.map kn)))) (Mq (.d (dN K ns))) (Mq (.d cs)) (Mq (.own (.lst (f.map kn)))) g)) m):(c7 (ek (.nm 12)) (aw (V (n+3)) rW) (K.map kn) (jL c r s G xs ys (Mq (.d (.lst (K.map kn)))) (Mq (.d (dN K ns))) (Mq (.d cs)) (Mq (.own (.lst (([]:List Kt).map kn)))) Mu)).wp m Q:=by
 have z:=lU;refine e7 (WI c r s G K ns xs ys N cs m) ?_ ?_ ⟨[],Mu,rfl,rfl,λd hd=>?_,?_,by simp,.nil,?_,by simp⟩
 .rintro d P J m1⟨f,g,rfl,rfl,E,C,B,A,y,x⟩;simp only[Ng]at C;obtain⟨q,i,rfl⟩:=E _ ME;obtain⟨_,t,L,lt,nt,hu⟩:=H.gK q i;rw[si.1,T.ao];refine dW λO v=>?_;have e:=Ba (n:=n) (c:=c) (r:=r) (s:=s) (xs:=xs) (ys:=ys) (o10:=Mq (.d cs)) (o11:=Mq (.own (.lst (f.map kn)))) hN i L (λu h=>(hu u h).1);unfold rW;have M:aw (V (n+3)) (.ext 11 (.lc ["_law_there"] [9,12] (.nm 0) (.bD (.idx (.var 5) (.var 12))) gU gV)) (jL c r s G xs ys (Mq (.d (.lst (K.map kn)))) (Mq (.d (dN K ns))) (Mq (.d cs)) (Mq (.own (.lst (f.map kn)))) (Mq (.d (kn q))))=.ok (.nx (jL c r s G xs ys (Mq (.d (.lst (K.map kn)))) (Mq (.d (dN K ns))) (Mq (.d cs)) (Mq (.own (.lst ((f++(t.filter (below q)).map λu=>(N q,N u)).map kn)))) (Mq (.d (kn q))))):=by
   show(ak (V (n+3)) (.lc ["_law_there"] [9,12] (.nm 0) (.bD (.idx (.var 5) (.var 12))) gU gV) (jL c r s G xs ys (Mq (.d (.lst (K.map kn)))) (Mq (.d (dN K ns))) (Mq (.d cs)) (Mq (.own (.lst (f.map kn)))) (Mq (.d (kn q))))>>=λd=>cH d>>=λI=>T.need (decide ((f.map kn).length+I.length<=MA))>>=λ_=>T.ok (Fl.nx ((jL c r s G xs ys (Mq (.d (.lst (K.map kn)))) (Mq (.d (dN K ns))) (Mq (.d cs)) (Mq (.own (.lst (f.map kn)))) (Mq (.d (kn q)))).set 11 (Mq (.own (.lst (f.map kn++I)))))))=_;rw[e];have:=QJ (below q) t;show(T.need (decide ((f.map kn).length+(((t.filter (below q)).map λu=>(N q,N u)).map kn).length<=MA))>>=λ_=>_)=_;rw[decide_eq_true (by simp;omega),NG];rfl
  show(aw (V (n+3)) (.cons _ .nil) (jL c r s G xs ys (Mq (.d (.lst (K.map kn)))) (Mq (.d (dN K ns))) (Mq (.d cs)) (Mq (.own (.lst (f.map kn)))) (Mq (.d (kn q))))).wp m1 O;rw[aQ M];have:=QJ (below q) t;refine(T.ao _ _ _).mpr (v _ _ (WI.mk (f++(t.filter (below q)).map λu=>(N q,N u)) (Mq (.d (kn q))) rfl rfl (λd hd=>E d (MH _ hd)) (by simp;omega) (λw hw=>?_) ?_ (List.nodup_cons.mp y).2 (λw hw F l hd=>?_)))
  .rcases List.mem_append.mp hw with hw|hw;.exact B w hw
   .obtain⟨u,k,rfl⟩:=List.mem_map.mp hw;obtain⟨j,o⟩:=List.mem_filter.mp k;exact⟨q,i,u,(hu u j).1,rfl,(hu u j).2,o⟩
  .refine List.nodup_append.mpr ⟨A,?_,λa ha b hb e=>?_⟩
   .rw[PU,QB];refine Pc (λ{a b}ha hb p e=>?_) (List.nodup_iff_pairwise_ne.mp (nt.filter _));exact p (hN.inj a (hu a (List.mem_filter.mp ha).1).1 b (hu b (List.mem_filter.mp hb).1).1 (Prod.ext_iff.mp e).2)
   .obtain⟨u,_,rfl⟩:=List.mem_map.mp hb;exact x a ha q i ME (by rw[e])
  .rcases List.mem_append.mp hw with hw|hw;.exact x w hw F l (MH _ hd)
   .obtain⟨u,k,rfl⟩:=List.mem_map.mp hw;intro e;have:=hN.inj F l q i e;subst this;exact(List.nodup_cons.mp y).1 hd
 .rintro J m1⟨f,g,rfl,rfl,E,C,B,A,y,x⟩;exact h f g (by simpa using C) B A
 .obtain⟨q,i,rfl⟩:=List.mem_map.mp hd;exact⟨q,i,rfl⟩
 .have:=H.lK;simp;omega
 .rw[PU,QB];exact List.Pairwise.imp (λ{a b}h e=>h (E_ e)) (List.nodup_iff_pairwise_ne.mp H.nd)
theorem aR.of{c r:Int}{G:Gr}{K:List Kt}{ns xs ys:List Int}{N:Kt->Int}{cs:List (Int×Int×Int)}{A g:List Kt}(H:Net c r G K)(hN:Nums K ns N)(O:(xs.length:Int)=c)(M:(ys.length:Int)=r)(v:∀x∈xs,0<=x/\x<=1000000)(t:∀x∈ys,0<=x/\x<=1000000)(C:xs.Pairwise (·<·))(B:ys.Pairwise (·<·))(s:cs.Perm (K.map λq=>(N q,pl xs q.1,pl ys q.2)))(hw:∀w∈g,Le K N w)(lw:g.length<=625)(pw:A.Perm g)(wn:g.Nodup):aR cs A:=by
 have l:∀q∈K,(N q,pl xs q.1,pl ys q.2)∈cs:=λq f=>s.symm.subset (List.mem_map.mpr ⟨q,f,rfl⟩);have d:∀p∈cs,∃q∈K,p=(N q,pl xs q.1,pl ys q.2):=λp m=>by
  obtain⟨q,f,e⟩:=List.mem_map.mp (s.subset m);exact⟨q,f,e.symm⟩
 refine⟨?_,?_,by rw[pw.length_eq];exact lw,λw h=>?_,λw h=>?_,λw h p m E y L J=>?_,λp m=>?_,pw.symm.nodup wn⟩
 .have p:(cs.map (·.1)).Perm (K.map N):=by
   have:=s.map (·.1);rw[M_]at this;exact this
  refine p.symm.nodup ?_;rw[PU,QB];refine Pc (λ{a b}ha hb z e=>?_) (List.nodup_iff_pairwise_ne.mp H.nd);exact z (hN.inj a ha b hb e)
 .have:=s.length_eq;have:=H.lK;simp at*;omega
 .obtain⟨q,f,u,hu,rfl,_⟩:=hw w (pw.subset h);have:=hN.rg q f;have:=hN.rg u hu;simp only;omega
 .obtain⟨q,f,u,hu,rfl,n,hb⟩:=hw w (pw.subset h);refine⟨_,l q f,_,l u hu,rfl,rfl,?_⟩;obtain⟨D,_⟩:=H.gK q f;obtain⟨I,_⟩:=H.gK u hu;simp only;have o:q.1<u.1\/q.1=u.1/\q.2<u.2:=by simpa[below]using hb
  have a1:=ny (xs:=xs) v (i:=q.1) (by omega) (by omega);have Q:=ny (xs:=xs) v (i:=u.1) (by omega) (by omega);have b1:=ny (xs:=ys) t (i:=q.2) (by omega) (by omega);have P:=ny (xs:=ys) t (i:=u.2) (by omega) (by omega);unfold jk at n;rcases n with⟨e,k⟩|⟨e,k⟩
  .have:=uq (xs:=ys) B (i:=q.2) (j:=u.2) (by omega) (by omega) (by omega);rw[e];omega
  .have:=uq (xs:=xs) C (i:=q.1) (j:=u.1) (by omega) (by omega) (by omega);rw[e];omega
 .obtain⟨q,f,u,hu,rfl,n,hb⟩:=hw w (pw.subset h);obtain⟨a,ha,rfl⟩:=d p m;obtain⟨b,o,rfl⟩:=d E y;obtain rfl:=hN.inj a ha q f L;obtain rfl:=hN.inj b o u hu J;obtain⟨D,_⟩:=H.gK a f;obtain⟨I,_⟩:=H.gK b hu;simp only;have F:a.1<b.1\/a.1=b.1/\a.2<b.2:=by simpa[below]using hb
  unfold jk at n;rcases n with⟨e,k⟩|⟨e,k⟩
  .have:=uq (xs:=ys) B (i:=a.2) (j:=b.2) (by omega) (by omega) (by omega);rw[e];omega
  .have:=uq (xs:=xs) C (i:=a.1) (j:=b.1) (by omega) (by omega) (by omega);rw[e];omega
 .obtain⟨a,ha,rfl⟩:=d p m;obtain⟨D,_⟩:=H.gK a ha;have a1:=ny (xs:=xs) v (i:=a.1) (by omega) (by omega);have b1:=ny (xs:=ys) t (i:=a.2) (by omega) (by omega);simp only;omega
theorem Fh{n:Nat}{c r s:Int}{G:Gr}{xs ys:List Int}{m:Nat}{Q:Fl->Nat->Prop}(nd:(G.map (·.1)).Nodup)(B:∀k∈G.map (·.1),0<=k.1/\k.1<c/\0<=k.2/\k.2<r)(E:G.length<=25)(J:Joins G)(j:(xs.length:Int)=c)(i:(ys.length:Int)=r)(t:∀x∈xs,0<=x/\x<=1000000)(p:∀x∈ys,0<=x/\x<=1000000)(w:xs.Pairwise (·<·))(v:ys.Pairwise (·<·))(L:100<=m)(h:∀(cs:List (Int×Int×Int))(b:List Kt)(g:Nat),m<=g+30->aR cs b->Q (.rt (.tup [.tup (cs.map c3),.tup (b.map kn)])) g):(aw (V (n+3)) r6 (jL c r s G xs ys Mu Mu Mu Mu Mu)).wp m Q:=by
 have z:=lU;unfold r6;refine bP ?_;refine A_ nd B E J λK H=>?_;show(aw (V (n+3)) rY (jL c r s G xs ys (Mq (.d (.lst (K.map kn)))) Mu Mu Mu Mu)).wp m Q;unfold rY;refine bP ?_;have hK:=H.lK;subst_eqs;simp only[lT,T.wp_bind,Wp];refine vz (k:=((K.map kn).length:Int)) (by simp;omega) (by omega) λns m1 C ln nn u=>?_;have a:K.length=ns.length:=by simp at ln;omega
 have o:=yx K ns [] [] a (by simpa using H.nd) (by simp;omega);simp only[Ra,Oi]at o;simp only[Hv,o,T.wp_bind,Wp,ai,Cl];have hN:∃N,Nums K ns N:=by
  obtain⟨N,l,F⟩:=yy a H.nd nn;exact⟨N,λq f=>(l q f).1,λq f=>u _ (l q f).2,F⟩
 refine hN.elim λN hN=>?_;show(aw (V (n+3)) rX (jL c r s G xs ys (Mq (.d (.lst (K.map kn)))) (Mq (.d (dN K ns))) Mu Mu Mu)).wp m1 Q;unfold rX;rw[bz (vA H hN j i)];show(aw (V (n+3)) _ (jL c r s G xs ys (Mq (.d (.lst (K.map kn)))) (Mq (.d (dN K ns))) (Mq (.d (.lst ((K.map λq=>(N q,pl xs q.1,pl ys q.2)).map c3)))) Mu Mu)).wp m1 Q;have I:∀cs:D,aw (V (n+3)) (.jc 11 .nil) (jL c r s G xs ys (Mq (.d (.lst (K.map kn)))) (Mq (.d (dN K ns))) (Mq (.d cs)) Mu Mu)=.ok (.nx (jL c r s G xs ys (Mq (.d (.lst (K.map kn)))) (Mq (.d (dN K ns))) (Mq (.d cs)) (Mq (.own (.lst (([]:List Kt).map kn)))) Mu)):=λcs=>by
  show(T.need (decide (0<=MA))>>=λ_=>T.ok (Fl.nx (jL c r s G xs ys (Mq (.d (.lst (K.map kn)))) (Mq (.d (dN K ns))) (Mq (.d cs)) (Mq (.own (.lst (([]:List Kt).map kn)))) Mu)))=_;rw[E9];rfl
 rw[aQ (I _),cJ,T.wp_bind];refine Bb H hN λb A lw hw wn=>?_;show(aw (V (n+3)) rV _).wp m1 Q;unfold rV;subst_eqs;refine sort_k Mn (λ_=>rfl) (λ_=>rfl) (ks:=K.map λq=>(N q,pl xs q.1,pl ys q.2)) rfl (by simp;omega) λcs y=>?_;simp only[lT,items,T.wp_bind,Wp];refine sort_k um (λ_=>rfl) (λ_=>rfl) (ks:=b) rfl (by omega) λe pw=>?_;simp only[lT,items,T.wp_bind,Wp];exact⟨Jv,h cs e m1 (by omega) (aR.of H hN j i t p w v y hw lw pw wn)⟩
theorem Iw{n:Nat}{s:Int}{m:Nat}{Q:D->Nat->Prop}(e:s=1\/s=1000)(F:1000<=m)(h:∀(cs:List (Int×Int×Int))(a:List Kt)(b:Nat),m<=b+300->aR cs a->Q (.tup [.tup (cs.map c3),.tup (a.map kn)]) b):(aL defs gv (n+4) 13 [.feed,.d (.int 5),.d (.int s)]).wp m Q:=by
 have z:=lU;rw[dH (d:=gX) rfl rfl];unfold gX;rw[T.wp_bind];subst_eqs;refine⟨by omega,by omega,by omega,λc I H=>⟨by omega,by omega,by omega,λr r0 B=>?_⟩⟩;refine A9 (n:=n+1) (c:=2+c) (r:=2+r) (by omega) (by omega) (by omega) λG m1 w nd q x J=>?_;unfold t_;subst_eqs;refine yA (n:=n+1) (k:=2+c) (by omega) e (by omega) λA E v p g j=>?_;refine yA (n:=n+1) (k:=2+r) (by omega) e (by omega) λy C u o f i=>?_;refine⟨Jv,?_⟩;refine Fh nd q x J p o g f j i (by omega) λcs a l t ok=>?_;exact(T.ao _ _ _).mpr (h cs a l (by omega) ok)
open PyProof.Rows
local macro_rules|`(tactic|symm_saturate)=>`(tactic|simp only[Ju,K9,K_,La,LN,si,fi,bN,aZ,ai,fx,d6,mM,nh,cH,bO,A.w,Cl,Sd,Ix,Lm,Ls,NY,Tx,Nat.reduceSub,if_true,yp,FQ])
abbrev C3:=Int×Int×Int
noncomputable abbrev nt(cs:List C3)(a:List Kt):D:=.tup [.tup (cs.map c3),.tup (a.map kn)]
noncomputable def ik(p:C3):D:=.int p.1
noncomputable def iv(p:C3):D:=.tup [.int p.2.1,.int p.2.2]
noncomputable abbrev dS(cs:List C3):D:=.aW (cs.map ik) (cs.map iv)
theorem oE(cs:List C3)(c:Int):aC (cs.map ik) (.int c)=Mv:=by
 unfold aC;rw[NO];left;rw[MG];refine⟨List.all_eq_true.mpr λx a=>?_,rfl⟩;obtain⟨p,_,rfl⟩:=List.mem_map.mp a;rfl
theorem yC(a b:Int):fc (.int a) (.int b)=decide (a=b):=by
 unfold fc;simp[jv]
theorem Iy(cs:List C3)(c:Int):bU (cs.map ik) (.int c)=decide (c∈cs.map (·.1)):=by induction cs with
 |nil=>rfl|cons k ks a=>
  unfold bU at a⊢;simp only[MT,Pa,a];rw[show fc (ik k) (.int c)=decide (k.1=c)from yC _ _,O1,NO,decide_eq_true_eq,decide_eq_true_eq,decide_eq_true_eq,NC];exact or_congr_left eq_comm
noncomputable def sp:List C3->Int->Int×Int
 |[],_=>(0,0)|p::r,c=>if p.1=c then p.2 else sp r c
theorem yD{c:Int}:∀{cs:List C3},c∈cs.map (·.1)->aF (cs.map ik) (cs.map iv) (.int c)=Mq (.tup [.int (sp cs c).1,.int (sp cs c).2])
 |k::ks,h=>by
  simp only[MT,aF];rw[show fc (ik k) (.int c)=decide (k.1=c)from yC _ _];by_cases e:k.1=c;.simp only[e,decide_true,if_true,sp];rfl
  .rw[decide_eq_false e,if_neg (by simp)];rcases List.mem_cons.mp h with z|z;.exact absurd z.symm e
   .rw[yD z];simp only[sp,if_neg e]
theorem gB{cs:List C3}{c:Int}(h:c∈cs.map (·.1)):fj (dS cs) (.int c)=.ok (.tup [.int (sp cs c).1,.int (sp cs c).2]):=by simp only[fj,oE,yD h,Sd,ai,Cl]
theorem yE{c:Int}:∀{cs:List C3},c∈cs.map (·.1)->(c,sp cs c)∈cs
 |k::ks,h=>by
  by_cases e:k.1=c
  .have:(c,sp (k::ks) c)=k:=by simp only[sp,if_pos e];rw[<-e]
   rw[this];exact ME
  .rcases List.mem_cons.mp h with z|z;.exact absurd z.symm e
   .have:=yE (cs:=ks) z;simp only[sp,if_neg e];exact MH _ this
theorem BS{as:List C3}{b:C3}(h:¬b.1∈as.map (·.1)):putD (as.map ik) (as.map iv) (.int b.1) (.tup [.int b.2.1,.int b.2.2])=((as++[b]).map ik,(as++[b]).map iv):=by
 unfold putD;rw[Iy,decide_eq_false h];simp only[MV,if_false,NG,MT,Oi,ik,iv]
theorem oF{g:D->ag->T ag}{body:ag->T Fl}(S:List D->ag->Prop)(step:∀d ds ρ,S (d::ds) ρ->∃ρ1 a,g d ρ=.ok ρ1/\body ρ1=.ok (.nx a)/\S ds a):∀{ds:List D}{ρ:ag},S ds ρ->∃ρ',c7 g body ds ρ=.ok (.nx ρ')/\S [] ρ'
 |[],ρ,h=>⟨ρ,rfl,h⟩|d::ds,ρ,h=>by
  obtain⟨ρ1,a,i,f,e⟩:=step d ds ρ h;obtain⟨ρ',c,b⟩:=oF S step e;refine⟨ρ',?_,b⟩;unfold c7;rw[i,ai,f,ai];exact c
theorem iP{v:Ev}{tg:Tg}{it:Ex}{b:aT}{ρ:ag}{ds:List D}(h:nc v it ρ=.ok ds):aw v (.dz tg it b) ρ=c7 (ek tg) (aw v b) ds ρ:=by
 show(nc v it ρ>>=λds=>c7 (ek tg) (aw v b) ds ρ)=_;rw[h,ai]
theorem jm{n f:Nat}{as:List A}{d:Df}{x:D}(h:defs[f]?=Mq (.df d))(a:as.length=d.np)(hb:aw (V n) d.body (bO d.nn as)=.ok (.rt x)):aL defs gv (n+1) f as=.ok x:=by rw[dH h a,hb];rfl
theorem nz{as bs:List C3}{b:C3}(nd:((as++b::bs).map (·.1)).Nodup):¬b.1∈as.map (·.1):=λhb=>by
 rw[NG]at nd;exact(List.nodup_append.mp nd).2.2 _ hb b.1 (by simp) rfl
theorem uu{as bs:List C3}{b:C3}(lc:(as++b::bs).length<=25):as.length<=25:=by simp at lc;omega
theorem uv{n:Nat}{cs:List C3}{c:D}(nd:(cs.map (·.1)).Nodup)(lc:cs.length<=25):aL defs gv (n+1) 14 [.d (.tup [.tup (cs.map c3),c])]=.ok (dS cs):=by
 have z:=lU;obtain⟨ρ',m,a,bs,i,f,e,rfl,l,rfl⟩:=oF (g:=ek (.tup 3 (.cons (.nm 2) (.cons (.nm 3) (.cons (.nm 4) .nil))))) (body:=aw (V n) fI) (λds ρ=>∃a bs i f e,ρ=[Mq (.d (.tup [.tup (cs.map c3),c])),Mq (.own (.aW (a.map ik) (a.map iv))),i,f,e]/\ds=bs.map c3/\a++bs=cs) (λd ds ρ h=>by
  obtain⟨a,bs,i,f,e,rfl,j,rfl⟩:=h;cases bs with
  |nil=>cases j|cons b bs=>
   cases j;refine⟨_,[Mq (.d (.tup [.tup ((a++b::bs).map c3),c])),Mq (.own (.aW ((a++[b]).map ik) ((a++[b]).map iv))),Mq (.d (.int b.1)),Mq (.d (.int b.2.1)),Mq (.d (.int b.2.2))],rfl,?_,a++[b],bs,_,_,_,rfl,rfl,by simp⟩;unfold fI;have o:=uu lc;have k:decide ((a.map ik).length<MA)=Mv:=decide_eq_true (by simp;omega);symm_saturate;rw[k,oE,BS (nz nd)];rfl) (ds:=cs.map c3) (ρ:=[Mq (.d (.tup [.tup (cs.map c3),c])),Mq (.own (.aW [] [])),Mu,Mu,Mu]) ⟨[],cs,Mu,Mu,Mu,rfl,rfl,rfl⟩;cases bs with
 |cons _ _=>cases l|nil=>
  refine jm (d:=cQ) rfl rfl ?_;unfold cQ;rw[aQ (s:=.gr 1) (ρ':=[Mq (.d (.tup [.tup ((a++[]).map c3),c])),Mq (.own (.aW [] [])),Mu,Mu,Mu]) rfl,aQ ((iP (ds:=(a++[]).map c3) rfl).trans m)];simp only[M1];rfl
theorem aH{n f:Nat}{r:Ex}{ρ:ag}{as:List A}{d:D}(ha:c_ (V n) r ρ=.ok as)(h:aL defs gv n f as=.ok d):ak (V n) (.call f r) ρ=.ok d:=by
 show(c_ (V n) r ρ>>=λas=>aL defs gv n f as)=_;rw[ha,ai,h]
theorem Iz{v:Ev}{cs:List C3}(nd:(cs.map (·.1)).Nodup)(lc:cs.length<=25):∀(bs as:List C3)(c a o2:Option W),as++bs=cs->∃ρ',gO (ek (.tup 3 (.cons (.nm 0) (.cons (.nm 1) (.cons (.nm 2) .nil))))) (λρ=>aX v .yes ρ) (m_ (λρ=>ak v (.var 0) ρ) (λρ=>ak v (.tup (.cons (.var 1) (.cons (.var 2) .nil))) ρ)) (as.map ik,as.map iv) (bs.map c3) [c,a,o2]=.ok ((cs.map ik,cs.map iv),ρ')
 |[],as,c,a,o2,e=>⟨[c,a,o2],by rw[<-e,M1];rfl⟩|b::bs,as,c,a,o2,e=>by
  have z:=lU;subst e;obtain⟨ρ',h⟩:=Iz (v:=v) nd lc bs (as++[b]) (Mq (.d (.int b.1))) (Mq (.d (.int b.2.1))) (Mq (.d (.int b.2.2))) (by simp);refine⟨ρ',?_⟩;rw[<-h];have i:=uu lc;have g:decide ((as.map ik).length<MA)=Mv:=decide_eq_true (by simp;omega);have f:m_ (λρ=>ak v (.var 0) ρ) (λρ=>ak v (.tup (.cons (.var 1) (.cons (.var 2) .nil))) ρ) (as.map ik,as.map iv) [Mq (.d (.int b.1)),Mq (.d (.int b.2.1)),Mq (.d (.int b.2.2))]=.ok (((as++[b]).map ik,(as++[b]).map iv),[Mq (.d (.int b.1)),Mq (.d (.int b.2.1)),Mq (.d (.int b.2.2))]):=by
   unfold m_;symm_saturate;rw[g,oE,BS (nz nd)];rfl
  show(m_ (λρ=>ak v (.var 0) ρ) (λρ=>ak v (.tup (.cons (.var 1) (.cons (.var 2) .nil))) ρ) (as.map ik,as.map iv) [Mq (.d (.int b.1)),Mq (.d (.int b.2.1)),Mq (.d (.int b.2.2))]>>=λr=>gO _ _ _ r.1 (bs.map c3) r.2)=_;rw[f];rfl
theorem lP{n:Nat}{cs:List C3}{c:D}(nd:(cs.map (·.1)).Nodup)(lc:cs.length<=25):aL defs gv (n+1) 0 [.d (.tup [.tup (cs.map c3),c])]=.ok (dS cs):=by
 refine jm (d:=oy) rfl rfl ?_;obtain⟨a,h⟩:=Iz (v:=V n) nd lc cs [] Mu Mu Mu rfl;unfold oy;show(((gO _ _ _ ([],[]) (cs.map c3) [Mu,Mu,Mu]>>=λr=>T.ok (D.aW r.1.1 r.1.2))>>=λd=>T.ok (Fl.rt d))>>=λb=>match b with|.nx a=>_|b=>T.ok b)=_;simp only[Oi]at h;rw[h];rfl
noncomputable def ln(cs:List C3)(w:Kt):Int:=(sp cs w.2).1-(sp cs w.1).1+(sp cs w.2).2-(sp cs w.1).2
structure Fj(cs:List C3)(w:Kt):Prop where
 m1:w.1∈cs.map (·.1)m2:w.2∈cs.map (·.1)x:(sp cs w.1).1<=(sp cs w.2).1
 y:(sp cs w.1).2<=(sp cs w.2).2
 l1:1<=ln cs w
 l2:ln cs w<=2000000
 b1:0<=(sp cs w.1).1/\(sp cs w.1).1<=1000000/\0<=(sp cs w.1).2/\(sp cs w.1).2<=1000000
theorem BU{cs:List C3}(nd:(cs.map (·.1)).Nodup){p:C3}(e:p∈cs):sp cs p.1=p.2:=by
 have h:=yE (c:=p.1) (List.mem_map.mpr ⟨p,e,rfl⟩);have:(p.1,sp cs p.1)=p:=by
  refine Classical.byContradiction λa=>?_;have:=List.pairwise_map.mp (List.nodup_iff_pairwise_ne.mp nd);rcases List.pairwise_iff_getElem.mp this with k;obtain⟨i,g,d⟩:=P7 h;obtain⟨j,f,b⟩:=P7 e;rcases Ub i j with z|z|z;.exact k i j g f z (by rw[d,b])
  .subst z;exact a (d.symm.trans b)
  .exact k j i f g z (by rw[d,b])
 exact congrArg (·.2) this
theorem aR.wl{cs:List C3}{f:List Kt}(H:aR cs f){w:Kt}(hw:w∈f):Fj cs w:=by
 obtain⟨p,a,q,c,e,d,l1,l2⟩:=H.ln w hw;have u:=H.up w hw p a q c e d;have b:=H.pt p a;have s1:=BU H.nd a;have s2:=BU H.nd c;rw[e]at s1;rw[d]at s2;refine⟨List.mem_map.mpr ⟨p,a,e⟩,List.mem_map.mpr ⟨q,c,d⟩,?_,?_,?_,?_,?_⟩;.rw[s1,s2];exact u.1
 .rw[s1,s2];exact u.2
 .unfold K41.ln;rw[s1,s2];exact l1
 .unfold K41.ln;rw[s1,s2];exact l2
 .rw[s1];exact b
theorem fW{n:Nat}{cs:List C3}{a:List Kt}{w:Kt}(H:aR cs a)(h:Fj cs w):aL defs gv (n+2) 15 [.d (nt cs a),.d (kn w)]=.ok (.int (ln cs w)):=by
 refine jm (d:=dU) rfl rfl ?_;unfold dU;rw[bz (aH rfl (uv H.nd H.lc))];have b1:=gB h.m1;have b:=gB h.m2;unfold nu kn;symm_saturate;simp only[b1,b,ai];symm_saturate;simp only[b1,b,ai];symm_saturate;rfl
noncomputable def ab(i:Int):Int:=if i<0 then-i else i
theorem su{n:Nat}{p q:Kt}:aL defs gv (n+1) 1 [.d (kn p),.d (kn q)]=.ok (.int (ab (q.1-p.1)+ab (q.2-p.2))):=by
 refine jm (d:=gW) rfl rfl ?_;unfold gW kn;symm_saturate;rfl
theorem yF{n:Nat}{cs:List C3}{w:Kt}(h:Fj cs w):aL defs gv (n+1) 1 [.d (kn (sp cs w.1)),.d (kn (sp cs w.2))]=.ok (.int (ln cs w)):=by
 rw[su];have:=h.x;have:=h.y;unfold ab ln;rw[if_neg (by omega),if_neg (by omega)];congr 2;omega
structure Op where
 x:MR
 k:MR
 w:Kt
 e:Int
 a:Int
 b:Int
noncomputable abbrev od(o:Op):D:=.tup [.str o.x,.str o.k,kn o.w,.int o.e,.int o.a,.int o.b]
structure fk(ws:List Kt)(o:Op):Prop where
 w:o.w∈ws
 e:o.e=o.w.1\/o.e=o.w.2
 a:0<=o.a/\o.a<=4000000
 b:1<=o.b/\o.b<=4000000
noncomputable def rc(cs:List C3)(o:Op):Kt:=if o.e=o.w.1 then(o.a,o.a+o.b)else(ln cs o.w-o.a-o.b,ln cs o.w-o.a)
theorem cV{v:Ev}{tg:Tg}{e:Ex}{r:aT}{d:D}{ρ ρ':ag}(h:ak v e ρ=.ok d)(a:ek tg d ρ=.ok ρ'):aw v (.cons (.asg tg e) r) ρ=aw v r ρ':=aQ (by
 show(ak v e ρ>>=λd=>ek tg d ρ>>=λρ'=>T.ok (Fl.nx ρ'))=_;rw[h,ai,a,ai])
theorem lQ{v:Ev}{c:Ex}{s:aT}{r:aT}{ρ:ag}{x:D}(h:aX v c ρ=.ok Mv)(a:aw v s ρ=.ok (.rt x)):aw v (.cons (.iff c s .nil) r) ρ=.ok (.rt x):=by
 rw[cJ];show((aX v c ρ>>=λx=>if x then aw v s ρ else T.ok (Fl.nx ρ))>>=_)=_;rw[h,ai,if_pos rfl,a,ai]
theorem fh{v:Ev}{c:Ex}{s:aT}{r:aT}{ρ:ag}(h:aX v c ρ=.ok Mw):aw v (.cons (.iff c s .nil) r) ρ=aw v r ρ:=aQ (by
 show(aX v c ρ>>=λx=>if x then aw v s ρ else T.ok (Fl.nx ρ))=_;rw[h,ai,if_neg (by simp)])
theorem eE{v:Ev}{e:Ex}{ρ:ag}{d:D}(h:ak v e ρ=.ok d):aw v (.cons (.ret e) .nil) ρ=.ok (.rt d):=by
 rw[cJ];show((ak v e ρ>>=λd=>T.ok (Fl.rt d))>>=_)=_;rw[h,ai,ai]
theorem oG{n:Nat}{cs:List C3}{c:List Kt}{o:Op}(H:aR cs c)(h:fk c o):aL defs gv (n+2) 2 [.d (nt cs c),.d (od o)]=.ok (kn (rc cs o)):=by
 have W:=H.wl h.w;refine jm (d:=oz) rfl rfl ?_;unfold oz;rw[cV (d:=od o) (ρ':=[Mq (.d (nt cs c)),Mq (.d (od o)),Mq (.d (.str o.x)),Mq (.d (.str o.k)),Mq (.d (.int o.w.1)),Mq (.d (.int o.w.2)),Mq (.d (.int o.e)),Mq (.d (.int o.a)),Mq (.d (.int o.b)),Mu,Mu]) rfl rfl];have g:aX (V (n+1)) (.aG .Eq (.var 6) (.var 4)) [Mq (.d (nt cs c)),Mq (.d (od o)),Mq (.d (.str o.x)),Mq (.d (.str o.k)),Mq (.d (.int o.w.1)),Mq (.d (.int o.w.2)),Mq (.d (.int o.e)),Mq (.d (.int o.a)),Mq (.d (.int o.b)),Mu,Mu]=.ok (o.e==o.w.1):=rfl;by_cases f:o.e=o.w.1
 .rw[lQ (x:=kn (rc cs o)) (by rw[g,f];simp)];refine eE ?_;symm_saturate;unfold rc kn;rw[if_pos f]
 .rw[fh (by rw[g];simp[f]),bz (aH rfl (lP H.nd H.lc))];unfold qu;have i:ak (V (n+1)) (.call 1 (.cons (.idx (.var 9) (.var 4)) (.cons (.idx (.var 9) (.var 5)) .nil))) [Mq (.d (nt cs c)),Mq (.d (od o)),Mq (.d (.str o.x)),Mq (.d (.str o.k)),Mq (.d (.int o.w.1)),Mq (.d (.int o.w.2)),Mq (.d (.int o.e)),Mq (.d (.int o.a)),Mq (.d (.int o.b)),Mq (.d (dS cs)),Mu]=.ok (.int (ln cs o.w)):=by
   refine aH (as:=[.d (kn (sp cs o.w.1)),.d (kn (sp cs o.w.2))]) ?_ (yF W);symm_saturate;rw[gB W.m1,ai,gB W.m2];rfl
  rw[bz (d:=.int (ln cs o.w-o.a)) (by
   show(ak (V (n+1)) (.call 1 (.cons (.idx (.var 9) (.var 4)) (.cons (.idx (.var 9) (.var 5)) .nil))) [Mq (.d (nt cs c)),Mq (.d (od o)),Mq (.d (.str o.x)),Mq (.d (.str o.k)),Mq (.d (.int o.w.1)),Mq (.d (.int o.w.2)),Mq (.d (.int o.e)),Mq (.d (.int o.a)),Mq (.d (.int o.b)),Mq (.d (dS cs)),Mu]>>=λd=>T.ok (D.int o.a)>>=λe=>rP .Sub d e)=_;rw[i];rfl)];unfold qt;refine eE ?_;symm_saturate;unfold rc kn;rw[if_neg f]
theorem sv{n:Nat}{cs:List C3}{c:List Kt}{o:Op}(H:aR cs c)(h:fk c o):aL defs gv (n+3) 19 [.d (nt cs c),.d (od o)]=.ok (kn (rc cs o)):=by
 have W:=H.wl h.w;refine jm (d:=fR) rfl rfl ?_;unfold fR;rw[cV (d:=od o) (ρ':=[Mq (.d (nt cs c)),Mq (.d (od o)),Mq (.d (.str o.x)),Mq (.d (.str o.k)),Mq (.d (kn o.w)),Mq (.d (.int o.e)),Mq (.d (.int o.a)),Mq (.d (.int o.b)),Mu]) rfl rfl];have g:aX (V (n+2)) (.aG .Eq (.var 5) (.idx (.var 4) (.cst (.int 0)))) [Mq (.d (nt cs c)),Mq (.d (od o)),Mq (.d (.str o.x)),Mq (.d (.str o.k)),Mq (.d (kn o.w)),Mq (.d (.int o.e)),Mq (.d (.int o.a)),Mq (.d (.int o.b)),Mu]=.ok (o.e==o.w.1):=by
  unfold kn;symm_saturate
 by_cases f:o.e=o.w.1
 .rw[lQ (x:=kn (rc cs o)) (by rw[g,f];simp)];refine eE ?_;symm_saturate;unfold rc kn;rw[if_pos f]
 .rw[fh (by rw[g];simp[f]),bz (aH rfl (fW H W))];unfold ub;refine eE ?_;symm_saturate;unfold rc kn;rw[if_neg f]
theorem yG{n:Nat}{cs:List C3}{c:List Kt}{o:Op}(H:aR cs c)(h:fk c o):aL defs gv (n+2) 4 [.d (nt cs c),.d (od o)]=.ok (.bl (decide (o.a+o.b<=ln cs o.w))):=by
 have W:=H.wl h.w;refine jm (d:=dQ) rfl rfl ?_;unfold dQ;rw[cV (d:=od o) (ρ':=[Mq (.d (nt cs c)),Mq (.d (od o)),Mq (.d (.str o.x)),Mq (.d (.str o.k)),Mq (.d (.int o.w.1)),Mq (.d (.int o.w.2)),Mq (.d (.int o.e)),Mq (.d (.int o.a)),Mq (.d (.int o.b)),Mu]) rfl rfl];rw[bz (aH rfl (lP H.nd H.lc))];unfold fH;refine eE ?_;have f:ak (V (n+1)) (.call 1 (.cons (.idx (.var 9) (.var 4)) (.cons (.idx (.var 9) (.var 5)) .nil))) [Mq (.d (nt cs c)),Mq (.d (od o)),Mq (.d (.str o.x)),Mq (.d (.str o.k)),Mq (.d (.int o.w.1)),Mq (.d (.int o.w.2)),Mq (.d (.int o.e)),Mq (.d (.int o.a)),Mq (.d (.int o.b)),Mq (.d (dS cs))]=.ok (.int (ln cs o.w)):=by
  refine aH (as:=[.d (kn (sp cs o.w.1)),.d (kn (sp cs o.w.2))]) ?_ (yF W);symm_saturate;rw[gB W.m1,ai,gB W.m2];rfl
 show(T.ok (D.int (o.a+o.b))>>=λd=>ak (V (n+1)) (.call 1 (.cons (.idx (.var 9) (.var 4)) (.cons (.idx (.var 9) (.var 5)) .nil))) [Mq (.d (nt cs c)),Mq (.d (od o)),Mq (.d (.str o.x)),Mq (.d (.str o.k)),Mq (.d (.int o.w.1)),Mq (.d (.int o.w.2)),Mq (.d (.int o.e)),Mq (.d (.int o.a)),Mq (.d (.int o.b)),Mq (.d (dS cs))]>>=λe=>bq .LtE d e)=_;rw[f];rfl
theorem At:(∀(a b c:D)(r:List D),fu (a::b::c::r) 2=Mq c)/\(∀(a b c d e:D)(r:List D),fu (a::b::c::d::e::r) 4=Mq e)/\(∀(a b c d e f:D)(r:List D),fu (a::b::c::d::e::f::r) 5=Mq f):=⟨λ_ _ _ _=>cy (j:=2) rfl,λ_ _ _ _ _ _=>cy (j:=4) rfl,λ_ _ _ _ _ _ _=>cy (j:=5) rfl⟩
noncomputable def FR(cs:List C3)(o:Op):D:=if(sp cs o.w.2).1=(sp cs o.w.1).1 then .tup [.int (sp cs o.w.1).1,.int ((sp cs o.w.1).2+(rc cs o).1),.int (sp cs o.w.1).1,.int ((sp cs o.w.1).2+(rc cs o).2)]else .tup [.int ((sp cs o.w.1).1+(rc cs o).1),.int (sp cs o.w.1).2,.int ((sp cs o.w.1).1+(rc cs o).2),.int (sp cs o.w.1).2]
theorem n4{a b c d:D}{v:Ev}{ρ:ag}{h g f e:Ex}(l:ak v h ρ=.ok a)(k:ak v g ρ=.ok b)(j:ak v f ρ=.ok c)(i:ak v e ρ=.ok d):ak v (.tup (.cons h (.cons g (.cons f (.cons e .nil))))) ρ=.ok (.tup [a,b,c,d]):=by
 symm_saturate;rw[l,k,j,i];show(T.need (decide (4<=MA))>>=λ_=>T.ok (D.tup [a,b,c,d]))=_;rw[sd (by decide)];rfl
theorem vB{n:Nat}{cs:List C3}{a:List Kt}{o:Op}(H:aR cs a)(h:fk a o):aL defs gv (n+3) 3 [.d (nt cs a),.d (od o)]=.ok (FR cs o):=by
 have W:=H.wl h.w;refine jm (d:=jj) rfl rfl ?_;unfold jj;rw[bz (aH rfl (lP H.nd H.lc))];unfold lE;rw[cV (d:=kn o.w) (ρ':=[Mq (.d (nt cs a)),Mq (.d (od o)),Mq (.d (dS cs)),Mq (.d (.int o.w.1)),Mq (.d (.int o.w.2)),Mu,Mu,Mu,Mu]) (by symm_saturate;simp only[At,Cl]) rfl];rw[cV (d:=kn (sp cs o.w.1)) (ρ':=[Mq (.d (nt cs a)),Mq (.d (od o)),Mq (.d (dS cs)),Mq (.d (.int o.w.1)),Mq (.d (.int o.w.2)),Mq (.d (.int (sp cs o.w.1).1)),Mq (.d (.int (sp cs o.w.1).2)),Mu,Mu]) (by symm_saturate;exact gB W.m1) rfl];rw[cV (d:=kn (rc cs o)) (ρ':=[Mq (.d (nt cs a)),Mq (.d (od o)),Mq (.d (dS cs)),Mq (.d (.int o.w.1)),Mq (.d (.int o.w.2)),Mq (.d (.int (sp cs o.w.1).1)),Mq (.d (.int (sp cs o.w.1).2)),Mq (.d (.int (rc cs o).1)),Mq (.d (.int (rc cs o).2))]) (aH rfl (oG H h)) rfl];unfold lD;have c:aX (V (n+2)) (.aG .Eq (.idx (.idx (.var 2) (.var 4)) (.cst (.int 0))) (.var 5)) [Mq (.d (nt cs a)),Mq (.d (od o)),Mq (.d (dS cs)),Mq (.d (.int o.w.1)),Mq (.d (.int o.w.2)),Mq (.d (.int (sp cs o.w.1).1)),Mq (.d (.int (sp cs o.w.1).2)),Mq (.d (.int (rc cs o).1)),Mq (.d (.int (rc cs o).2))]=.ok ((sp cs o.w.2).1==(sp cs o.w.1).1):=by
  symm_saturate;rw[gB W.m2];symm_saturate
 unfold FR;by_cases b:(sp cs o.w.2).1=(sp cs o.w.1).1
 .rw[if_pos b];exact lQ (by rw[c,b];simp) (eE (n4 rfl rfl rfl rfl))
 .rw[if_neg b,fh (by rw[c];simp[b])];exact eE (n4 rfl rfl rfl rfl)
theorem yH{n:Nat}{cs:List C3}{a:List Kt}{o:Op}(H:aR cs a)(h:fk a o):aL defs gv (n+4) 21 [.d (nt cs a),.d (od o)]=.ok (FR cs o):=by
 have W:=H.wl h.w;refine jm (d:=eY) rfl rfl ?_;unfold eY;rw[cV (d:=kn (rc cs o)) (ρ':=[Mq (.d (nt cs a)),Mq (.d (od o)),Mq (.d (.int (rc cs o).1)),Mq (.d (.int (rc cs o).2)),Mu,Mu,Mu]) (aH rfl (sv H h)) rfl];unfold qG;rw[bz (aH rfl (uv H.nd H.lc))];unfold qF;rw[cV (d:=kn (sp cs o.w.1)) (ρ':=[Mq (.d (nt cs a)),Mq (.d (od o)),Mq (.d (.int (rc cs o).1)),Mq (.d (.int (rc cs o).2)),Mq (.d (dS cs)),Mq (.d (.int (sp cs o.w.1).1)),Mq (.d (.int (sp cs o.w.1).2))]) (by symm_saturate;simp only[At,Cl,ai,kn];symm_saturate;exact gB W.m1) rfl];have c:aX (V (n+3)) (.aG .Eq (.idx (.idx (.var 4) (.idx (.idx (.var 1) (.cst (.int 2))) (.cst (.int 1)))) (.cst (.int 0))) (.var 5)) [Mq (.d (nt cs a)),Mq (.d (od o)),Mq (.d (.int (rc cs o).1)),Mq (.d (.int (rc cs o).2)),Mq (.d (dS cs)),Mq (.d (.int (sp cs o.w.1).1)),Mq (.d (.int (sp cs o.w.1).2))]=.ok ((sp cs o.w.2).1==(sp cs o.w.1).1):=by
  symm_saturate;simp only[At,Cl,ai,kn];symm_saturate;rw[gB W.m2];symm_saturate
 unfold FR;by_cases b:(sp cs o.w.2).1=(sp cs o.w.1).1
 .rw[if_pos b];exact lQ (by rw[c,b];simp) (eE (n4 rfl rfl rfl rfl))
 .rw[if_neg b,fh (by rw[c];simp[b])];exact eE (n4 rfl rfl rfl rfl)
noncomputable def qI(cs:List C3)(o p:Op):Bool:=!decide (o.w=p.w)||(decide ((rc cs o).2<=(rc cs p).1)||decide ((rc cs p).2<=(rc cs o).1))
theorem IA(p q:Kt):bq .NotEq (kn p) (kn q)=.ok (.bl (!decide (p=q))):=by
 show(T.get (cP bM (kn p) (kn q))>>=λb=>T.ok (D.bl (!b)))=_;rw[yv];rfl
theorem IB(p q:Kt):bq .Eq (kn p) (kn q)=.ok (.bl (decide (p=q))):=by
 show(T.get (cP bM (kn p) (kn q))>>=λb=>T.ok (D.bl b))=_;rw[yv];rfl
theorem IC(x y:MR):bq .NotEq (.str x) (.str y)=.ok (.bl (!(x==y))):=rfl
theorem Bc{n:Nat}{cs:List C3}{a:List Kt}{o p:Op}(H:aR cs a)(h:fk a o)(e:fk a p):aL defs gv (n+3) 5 [.d (nt cs a),.d (od o),.d (od p)]=.ok (.bl (qI cs o p)):=by
 refine jm (d:=fO) rfl rfl ?_;unfold fO;have c:aX (V (n+2)) (.aG .NotEq (.idx (.var 1) (.cst (.int 2))) (.idx (.var 2) (.cst (.int 2)))) (bO 7 [.d (nt cs a),.d (od o),.d (od p)])=.ok (!decide (o.w=p.w)):=by
  symm_saturate;simp only[At,Cl,ai,IA,aZ]
 unfold qI;by_cases b:o.w=p.w
 .rw[fh (by rw[c,b];simp)];rw[cV (d:=kn (rc cs o)) (ρ':=[Mq (.d (nt cs a)),Mq (.d (od o)),Mq (.d (od p)),Mq (.d (.int (rc cs o).1)),Mq (.d (.int (rc cs o).2)),Mu,Mu]) (aH rfl (oG H h)) rfl];unfold iJ;rw[cV (d:=kn (rc cs p)) (ρ':=[Mq (.d (nt cs a)),Mq (.d (od o)),Mq (.d (od p)),Mq (.d (.int (rc cs o).1)),Mq (.d (.int (rc cs o).2)),Mq (.d (.int (rc cs p).1)),Mq (.d (.int (rc cs p).2))]) (aH rfl (oG H e)) rfl];unfold iI;refine eE ?_;symm_saturate;rw[decide_eq_true b];cases decide ((rc cs o).2<=(rc cs p).1)<;>rfl
 .rw[lQ (x:=.bl Mv) (by rw[c];simp[b]) rfl,decide_eq_false b];rfl
noncomputable def uo:D->Op
 |.tup [.str x,.str k,.tup [.int p,.int q],.int e,.int a,.int b]=>⟨x,k,(p,q),e,a,b⟩|_=>⟨⟨#[]⟩,⟨#[]⟩,(0,0),0,0,0⟩
theorem ID(o:Op):uo (od o)=o:=rfl
noncomputable abbrev fX(os:List Op):D:=.tup (os.map od)
noncomputable def Bd(os:List Op)(o:Op):List Op:=os.filter λp=>!(p.x==o.x)
noncomputable def st(cs:List C3)(os:List Op)(o:Op):Bool:=decide (o.a+o.b<=ln cs o.w)&&(Bd os o).all (qI cs o)
theorem IE{n:Nat}{net:D}{os:List Op}{o:Op}{o3:Option W}:ak (V n) (.lc ["other"] [2] (.nm 0) (.bD (.var 1)) eA gi) [Mq (.d net),Mq (.d (fX os)),Mq (.d (od o)),o3]=.ok (.lst ((Bd os o).map od)):=by
 have b:=bK (g:=ek (.nm 0)) (tc:=λρ=>aX (V n) eA ρ) (te:=λρ=>ak (V n) gi ρ) (c:=λd=>!((uo d).x==o.x)) (e:=id) (λρ=>∃a,ρ=[a,Mq (.d (od o))]) (ds:=os.map od) (ρ:=[Mu,Mq (.d (od o))]) (by
  rintro ρ⟨a,rfl⟩d hd;obtain⟨p,f,rfl⟩:=List.mem_map.mp hd;exact⟨_,rfl,⟨_,rfl⟩,by unfold eA;symm_saturate;rfl,λ_=>rfl⟩) ⟨Mu,rfl⟩;have em:((os.map od).filter (λd=>!((uo d).x==o.x))).map id=(Bd os o).map od:=by rw[Up,SN];rfl
 rw[em]at b;show(dF (ek (.nm 0)) (λρ=>aX (V n) eA ρ) (λρ=>ak (V n) gi ρ) (os.map od) [Mu,Mq (.d (od o))]>>=λr=>T.ok (D.lst r))=_;rw[b];rfl
theorem Fk{n:Nat}{cs:List C3}{a:List Kt}{os ps:List Op}{o:Op}(H:aR cs a)(h:fk a o)(j:∀p∈ps,fk a p):ak (V (n+3)) (.lc ["other"] [0,2] (.nm 0) (.bD (.var 3)) .yes da) [Mq (.d (nt cs a)),Mq (.d (fX os)),Mq (.d (od o)),Mq (.d (.lst (ps.map od)))]=.ok (.lst ((ps.map (qI cs o)).map D.bl)):=by
 have i:=bK (g:=ek (.nm 0)) (tc:=λρ=>aX (V (n+3)) .yes ρ) (te:=λρ=>ak (V (n+3)) da ρ) (c:=λ_=>Mv) (e:=λd=>.bl (qI cs o (uo d))) (λρ=>∃f,ρ=[f,Mq (.d (nt cs a)),Mq (.d (od o))]) (ds:=ps.map od) (ρ:=[Mu,Mq (.d (nt cs a)),Mq (.d (od o))]) (by
  rintro ρ⟨f,rfl⟩d hd;obtain⟨p,b,rfl⟩:=List.mem_map.mp hd;exact⟨_,rfl,⟨_,rfl⟩,rfl,λ_=>by unfold da;exact aH rfl (Bc H h (j p b))⟩) ⟨Mu,rfl⟩;have em:((ps.map od).filter (λ_=>Mv)).map (λd=>D.bl (qI cs o (uo d)))=(ps.map (qI cs o)).map D.bl:=by rw[List.filter_eq_self.mpr (λ_ _=>rfl),M_,M_];rfl
 rw[em]at i;show(dF (ek (.nm 0)) (λρ=>aX (V (n+3)) .yes ρ) (λρ=>ak (V (n+3)) da ρ) (ps.map od) [Mu,Mq (.d (nt cs a)),Mq (.d (od o))]>>=λr=>T.ok (D.lst r))=_;rw[i];rfl
theorem vC(l:List Bool):bools (l.map D.bl)=Mq l:=by induction l with
 |nil=>rfl|cons b l a=>simp only[MT,bools,a];rfl
theorem yI{n:Nat}{cs:List C3}{e:List Kt}{os:List Op}{o:Op}(H:aR cs e)(h:fk e o)(g:∀p∈os,fk e p):aL defs gv (n+4) 6 [.d (nt cs e),.d (fX os),.d (od o)]=.ok (.bl (st cs os o)):=by
 refine jm (d:=lM) rfl rfl ?_;unfold lM;refine(bz (IE (net:=nt cs e) (os:=os) (o:=o) (o3:=Mu))).trans ?_;refine eE ?_;have j:ak (V (n+3)) (.call 4 (.cons (.var 0) (.cons (.var 2) .nil))) [Mq (.d (nt cs e)),Mq (.d (fX os)),Mq (.d (od o)),Mq (.d (.lst ((Bd os o).map od)))]=.ok (.bl (decide (o.a+o.b<=ln cs o.w))):=aH rfl (yG H h);have i:=Fk (n:=n) (os:=os) (ps:=Bd os o) H h λp f=>g p (List.mem_filter.mp f).1;show(ak (V (n+3)) (.call 4 (.cons (.var 0) (.cons (.var 2) .nil))) [Mq (.d (nt cs e)),Mq (.d (fX os)),Mq (.d (od o)),Mq (.d (.lst ((Bd os o).map od)))]>>=λd=>aZ d>>=λc=>if c then((ak (V (n+3)) (.lc ["other"] [0,2] (.nm 0) (.bD (.var 3)) .yes da) [Mq (.d (nt cs e)),Mq (.d (fX os)),Mq (.d (od o)),Mq (.d (.lst ((Bd os o).map od)))]>>=λd=>T.ok [A.d d])>>=λl=>fi l>>=λk=>lT .all k)else T.ok (D.bl Mw))=_;rw[j,i];unfold st;cases decide (o.a+o.b<=ln cs o.w)with
 |false=>rfl|true=>
  show(T.get (bools (((Bd os o).map (qI cs o)).map D.bl))>>=λbs=>T.ok (D.bl (bs.all id)))=_;rw[vC];show T.ok (D.bl (((Bd os o).map (qI cs o)).all id))=_;rw[List.all_map];rfl
noncomputable def ff(cs:List C3)(os:List Op):D:=match os.find? λo=>!st cs os o with
 |some o=>.str o.x|none=>.bH
theorem yJ{n:Nat}{cs:List C3}{a:List Kt}{os:List Op}(H:aR cs a)(g:∀p∈os,fk a p):∀(e:List Op)(o2:Option W),(∀p∈e,fk a p)->∃b,c7 (ek (.nm 2)) (aw (V (n+4)) bC) (e.map od) [Mq (.d (nt cs a)),Mq (.d (fX os)),o2]=match e.find? λo=>!st cs os o with
  |some o=>.ok (.rt (.str o.x))|none=>.ok (.nx [Mq (.d (nt cs a)),Mq (.d (fX os)),b])
 |[],o2,_=>⟨o2,rfl⟩|q::e,o2,h=>by
  obtain⟨b,j⟩:=yJ (n:=n) H g e (Mq (.d (od q))) λp k=>h p (MH _ k);refine⟨b,?_⟩;have i:aX (V (n+4)) (.vp (.BN (.call 6 (.cons (.var 0) (.cons (.var 1) (.cons (.var 2) .nil)))))) [Mq (.d (nt cs a)),Mq (.d (fX os)),Mq (.d (od q))]=.ok (!st cs os q):=by
   show((ak (V (n+4)) (.call 6 (.cons (.var 0) (.cons (.var 1) (.cons (.var 2) .nil)))) [Mq (.d (nt cs a)),Mq (.d (fX os)),Mq (.d (od q))]>>=λd=>AO d)>>=λc=>T.ok (!c))=_;rw[aH rfl (yI H (h q ME) g)];rfl
  show(aw (V (n+4)) bC [Mq (.d (nt cs a)),Mq (.d (fX os)),Mq (.d (od q))]>>=λl=>_)=_;unfold bC;cases f:st cs os q with
  |false=>
   rw[lQ (x:=.str q.x) (by rw[i,f];rfl) rfl,Sz (by simp[f])];rfl|true=>
   rw[fh (by rw[i,f];rfl),SA (by simp[f]),<-j];rfl
theorem lR{n:Nat}{cs:List C3}{a:List Kt}{os:List Op}(H:aR cs a)(b:∀p∈os,fk a p):aL defs gv (n+5) 7 [.d (nt cs a),.d (fX os)]=.ok (ff cs os):=by
 refine jm (d:=du) rfl rfl ?_;unfold du ff;obtain⟨c,e⟩:=yJ (n:=n) H b os Mu b;rw[cJ,iP (ds:=os.map od) rfl];show(c7 (ek (.nm 2)) (aw (V (n+4)) bC) (os.map od) [Mq (.d (nt cs a)),Mq (.d (fX os)),Mu]>>=_)=_;rw[e];cases os.find? λo=>!st cs os o<;>rfl
theorem yK{g:D->ag->T ag}{body:ag->T Fl}{d:D}{ds:List D}{ρ ρ1 a:ag}(c:g d ρ=.ok ρ1)(b:body ρ1=.ok (.nx a)):c7 g body (d::ds) ρ=c7 g body ds a:=by
 conv=>lhs;unfold c7
 rw[c,ai,b,ai]
noncomputable def mx(i j:Int):Int:=if j>i then j else i
noncomputable def mn(i j:Int):Int:=if j<i then j else i
noncomputable def hit(cs:List C3)(o p:Op):Bool:=!(p.x==o.x)&&(decide (p.w=o.w)&&decide (mx (rc cs o).1 (rc cs p).1<mn (rc cs o).2 (rc cs p).2))
noncomputable def bad(cs:List C3)(o:Op):Bool:=decide ((rc cs o).1<0)||decide (ln cs o.w<(rc cs o).2)
noncomputable abbrev s9(net:D)(os:List Op)(l:List MR)(o:Op)(r:Kt)(o6 o7 o8:Option W):ag:=[Mq (.d net),Mq (.d (fX os)),Mq (.own (.lst (l.map D.str))),Mq (.d (od o)),Mq (.d (.int r.1)),Mq (.d (.int r.2)),o6,o7,o8]
theorem BV{v:Ev}{net:D}{os:List Op}{l:List MR}{o:Op}{r:Kt}{o6 o7 o8:Option W}(a:l.length<1000000):aw v (.app 2 (.idx (.var 3) (.cst (.int 0)))) (s9 net os l o r o6 o7 o8)=.ok (.nx (s9 net os (l++[o.x]) o r o6 o7 o8)):=by
 have z:=lU;have e:(l++[o.x]).map D.str=l.map D.str++[.str o.x]:=by rw[NG];rfl
 show(T.need (decide ((l.map D.str).length<MA))>>=λ_=>T.ok (Fl.nx (s9 net os l o r o6 o7 o8|>.set 2 (Mq (.own (.lst (l.map D.str++[.str o.x])))))))=_;unfold s9;rw[decide_eq_true (by simp;omega),e];rfl
theorem yL{v:Ev}{c:Ex}{s:aT}{r:aT}{ρ ρ':ag}(h:aX v c ρ=.ok Mv)(a:aw v s ρ=.ok (.nx ρ')):aw v (.cons (.iff c s .nil) r) ρ=aw v r ρ':=aQ (by
 show(aX v c ρ>>=λx=>if x then aw v s ρ else T.ok (Fl.nx ρ))=_;rw[h,ai,if_pos rfl,a])
theorem uw{v:Ev}{s:aT}{ρ ρ':ag}(h:aw v s ρ=.ok (.nx ρ')):aw v (.cons s .nil) ρ=.ok (.nx ρ'):=by rw[aQ h];rfl
theorem Lf{n:Nat}{cs:List C3}{a:List Kt}{os:List Op}{l:List MR}{o p:Op}{o7 o8:Option W}(H:aR cs a)(i:fk a p)(j:l.length<1000000):∃h g,aw (V (n+3)) iK (s9 (nt cs a) os l o (rc cs o) (Mq (.d (od p))) o7 o8)=.ok (.nx (s9 (nt cs a) os (l++if hit cs o p then[o.x]else[]) o (rc cs o) (Mq (.d (od p))) h g)):=by
 unfold iK;have f:aX (V (n+3)) (.fG (.aG .NotEq (.idx (.var 6) (.cst (.int 0))) (.idx (.var 3) (.cst (.int 0)))) (.c6 (.aG .Eq (.idx (.var 6) (.cst (.int 2))) (.idx (.var 3) (.cst (.int 2)))))) (s9 (nt cs a) os l o (rc cs o) (Mq (.d (od p))) o7 o8)=.ok (!(p.x==o.x)&&decide (p.w=o.w)):=by
  symm_saturate;rw[IC];simp only[At,Cl,ai,IB,aZ];cases(p.x==o.x)<;>rfl
 unfold hit;by_cases hb:(!(p.x==o.x)&&decide (p.w=o.w))=Mv
 .rw[MG]at hb;have k:(!(p.x==o.x)&&(decide (p.w=o.w)&&decide (mx (rc cs o).1 (rc cs p).1<mn (rc cs o).2 (rc cs p).2)))=decide (mx (rc cs o).1 (rc cs p).1<mn (rc cs o).2 (rc cs p).2):=by rw[hb.1,hb.2];rfl
  rw[k];have m:aw (V (n+3)) (.cons (.asg (.tup 2 (.cons (.nm 7) (.cons (.nm 8) .nil))) (.call 19 (.cons (.var 0) (.cons (.var 6) .nil)))) lJ) (s9 (nt cs a) os l o (rc cs o) (Mq (.d (od p))) o7 o8)=.ok (.nx (s9 (nt cs a) os (l++if decide (mx (rc cs o).1 (rc cs p).1<mn (rc cs o).2 (rc cs p).2)=Mv then[o.x]else[]) o (rc cs o) (Mq (.d (od p))) (Mq (.d (.int (rc cs p).1))) (Mq (.d (.int (rc cs p).2))))):=by
   rw[cV (d:=kn (rc cs p)) (ρ':=s9 (nt cs a) os l o (rc cs o) (Mq (.d (od p))) (Mq (.d (.int (rc cs p).1))) (Mq (.d (.int (rc cs p).2)))) (aH rfl (sv H i)) rfl];unfold lJ;have b:aX (V (n+3)) (.aG .Lt (.bi .max (.cons (.var 4) (.cons (.var 7) .nil))) (.bi .min (.cons (.var 5) (.cons (.var 8) .nil)))) (s9 (nt cs a) os l o (rc cs o) (Mq (.d (od p))) (Mq (.d (.int (rc cs p).1))) (Mq (.d (.int (rc cs p).2))))=.ok (decide (mx (rc cs o).1 (rc cs p).1<mn (rc cs o).2 (rc cs p).2)):=rfl;by_cases c:mx (rc cs o).1 (rc cs p).1<mn (rc cs o).2 (rc cs p).2
   .rw[decide_eq_true c]at b⊢;rw[yL b (uw (BV j)),if_pos rfl];rfl
   .rw[decide_eq_false c]at b⊢;rw[fh b,if_neg (by simp),M1];rfl
  exact⟨_,_,by rw[yL (by rw[f,hb.1,hb.2];rfl) m];rfl⟩
 .have e:(!(p.x==o.x)&&decide (p.w=o.w))=Mw:=by simpa using hb
  refine⟨o7,o8,?_⟩;rw[fh (by rw[f,e])];have:(!(p.x==o.x)&&(decide (p.w=o.w)&&decide (mx (rc cs o).1 (rc cs p).1<mn (rc cs o).2 (rc cs p).2)))=Mw:=by rw[<-Bool.and_assoc,e];rfl
  rw[this,if_neg (by simp),M1];rfl
noncomputable def hits(cs:List C3)(o:Op)(a:List Op):List MR:=a.flatMap λp=>if hit cs o p then[o.x]else[]
theorem qJ(cs:List C3)(o:Op):∀a:List Op,(hits cs o a).length<=a.length
 |[]=>MO _|q::a=>by
  have:=qJ cs o a;unfold hits at this⊢;rw[QF,Nh,Ng];split<;>simp only[Ng,NZ]<;>omega
theorem BW{n:Nat}{cs:List C3}{b:List Kt}{os:List Op}{o:Op}(H:aR cs b):∀(a:List Op)(l:List MR)(o6 o7 o8:Option W),(∀p∈a,fk b p)->l.length+a.length<1000000->∃m f c,c7 (ek (.nm 6)) (aw (V (n+3)) iK) (a.map od) (s9 (nt cs b) os l o (rc cs o) o6 o7 o8)=.ok (.nx (s9 (nt cs b) os (l++hits cs o a) o (rc cs o) m f c))
 |[],l,o6,o7,o8,_,_=>⟨o6,o7,o8,by unfold hits;rw[List.flatMap_nil,M1];rfl⟩|q::a,l,o6,o7,o8,h,s=>by
  simp only[Ng]at s;obtain⟨f,c,e⟩:=Lf (n:=n) (os:=os) (o:=o) (o7:=o7) (o8:=o8) H (h q ME) (show l.length<1000000 by omega);have u:(l++if hit cs o q then[o.x]else[]).length<=l.length+1:=by rw[Nh];split<;>simp
  obtain⟨k,j,i,g⟩:=BW (n:=n) (os:=os) (o:=o) H a (l++if hit cs o q then[o.x]else[]) (Mq (.d (od q))) f c (λp r=>h p (MH _ r)) (by omega);refine⟨k,j,i,?_⟩;rw[M5]at g;have t:hits cs o (q::a)=(if hit cs o q then[o.x]else[])++hits cs o a:=by unfold hits;rw[QF]
  rw[t,<-g,MT];exact yK (ρ1:=s9 (nt cs b) os l o (rc cs o) (Mq (.d (od q))) o7 o8) rfl e
noncomputable def con(cs:List C3)(os:List Op)(o:Op):List MR:=(if bad cs o then[o.x]else[])++hits cs o os
theorem Be(cs:List C3)(os:List Op)(o:Op):(con cs os o).length<=os.length+1:=by
 have:=qJ cs o os;unfold con;rw[Nh];split<;>simp only[Ng,NZ]<;>omega
noncomputable abbrev t9(net:D)(os:List Op)(l:List MR)(o3 o4 o5 o6 o7 o8:Option W):ag:=[Mq (.d net),Mq (.d (fX os)),Mq (.own (.lst (l.map D.str))),o3,o4,o5,o6,o7,o8]
theorem IF{n:Nat}{cs:List C3}{a:List Kt}{os:List Op}{l:List MR}{o:Op}{o4 o5 o6 o7 o8:Option W}(H:aR cs a)(k:fk a o)(s:∀p∈os,fk a p)(u:l.length+os.length+1<1000000):∃r q g f b,aw (V (n+3)) iL (t9 (nt cs a) os l (Mq (.d (od o))) o4 o5 o6 o7 o8)=.ok (.nx (t9 (nt cs a) os (l++con cs os o) (Mq (.d (od o))) r q g f b)):=by
 unfold iL;rw[cV (d:=kn (rc cs o)) (ρ':=s9 (nt cs a) os l o (rc cs o) o6 o7 o8) (aH rfl (sv H k)) rfl];unfold qD;have m:aX (V (n+3)) (.xQ (.aG .Lt (.var 4) (.cst (.int 0))) (.c6 (.aG .Gt (.var 5) (.call 15 (.cons (.var 0) (.cons (.idx (.var 3) (.cst (.int 2))) .nil)))))) (s9 (nt cs a) os l o (rc cs o) o6 o7 o8)=.ok (bad cs o):=by
  have t:ak (V (n+3)) (.call 15 (.cons (.var 0) (.cons (.idx (.var 3) (.cst (.int 2))) .nil))) (s9 (nt cs a) os l o (rc cs o) o6 o7 o8)=.ok (.int (ln cs o.w)):=aH (as:=[.d (nt cs a),.d (kn o.w)]) (by symm_saturate;simp only[At,Cl,ai]) (fW H (H.wl k.w));show((T.ok (decide ((rc cs o).1<0)):T Bool)>>=λc=>if c then T.ok Mv else(ak (V (n+3)) (.call 15 (.cons (.var 0) (.cons (.idx (.var 3) (.cst (.int 2))) .nil))) (s9 (nt cs a) os l o (rc cs o) o6 o7 o8)>>=λe=>bq .Gt (.int (rc cs o).2) e>>=λd=>aZ d))=_;rw[t];unfold bad;cases decide ((rc cs o).1<0)<;>rfl
 have i:∀h:List MR,h.length+os.length<1000000->∃g f b,aw (V (n+3)) lL (s9 (nt cs a) os h o (rc cs o) o6 o7 o8)=.ok (.nx (s9 (nt cs a) os (h++hits cs o os) o (rc cs o) g f b)):=λh j=>by
  obtain⟨g,f,b,e⟩:=BW (n:=n) (os:=os) (o:=o) H os h o6 o7 o8 s j;refine⟨g,f,b,?_⟩;unfold lL;exact uw ((iP (ds:=os.map od) rfl).trans e)
 unfold con;cases hb:bad cs o with
 |true=>
  obtain⟨g,f,b,e⟩:=i (l++[o.x]) (by simp;omega);refine⟨Mq (.d (.int (rc cs o).1)),Mq (.d (.int (rc cs o).2)),g,f,b,?_⟩;rw[yL (by rw[m,hb]) (uw (BV (by omega))),e,if_pos rfl,M5]|false=>
  obtain⟨g,f,b,e⟩:=i l (by omega);refine⟨Mq (.d (.int (rc cs o).1)),Mq (.d (.int (rc cs o).2)),g,f,b,?_⟩;rw[fh (by rw[m,hb]),e,if_neg (by simp),Ra]
theorem yM{n:Nat}{cs:List C3}{a:List Kt}{os:List Op}(H:aR cs a)(m:∀p∈os,fk a p)(x:os.length<=100):∀(b:List Op)(l:List MR)(o3 o4 o5 o6 o7 o8:Option W),(∀p∈b,fk a p)->l.length+101*b.length<900000->∃w j i g f c,c7 (ek (.nm 3)) (aw (V (n+3)) iL) (b.map od) (t9 (nt cs a) os l o3 o4 o5 o6 o7 o8)=.ok (.nx (t9 (nt cs a) os (l++b.flatMap (con cs os)) w j i g f c))
 |[],l,o3,o4,o5,o6,o7,o8,_,_=>⟨o3,o4,o5,o6,o7,o8,by rw[List.flatMap_nil,M1];rfl⟩|q::b,l,o3,o4,o5,o6,o7,o8,h,z=>by
  simp only[Ng]at z;obtain⟨j,i,g,f,c,e⟩:=IF (n:=n) (os:=os) (o4:=o4) (o5:=o5) (o6:=o6) (o7:=o7) (o8:=o8) H (h q ME) m (show l.length+os.length+1<1000000 by omega);have:=Be cs os q;obtain⟨v,u,t,s,r,o,k⟩:=yM (n:=n) H m x b (l++con cs os q) (Mq (.d (od q))) j i g f c (λp y=>h p (MH _ y)) (by rw[Nh];omega);refine⟨v,u,t,s,r,o,?_⟩;rw[M5]at k;rw[QF,<-k,MT];exact yK (ρ1:=t9 (nt cs a) os l (Mq (.d (od q))) o4 o5 o6 o7 o8) rfl e
theorem Bg{n:Nat}{cs:List C3}{a:List Kt}{os:List Op}(H:aR cs a)(b:∀p∈os,fk a p)(f:os.length<=100):aL defs gv (n+4) 20 [.d (nt cs a),.d (fX os)]=.ok (eS (os.flatMap (con cs os))):=by
 refine jm (d:=eX) rfl rfl ?_;unfold eX;obtain⟨m,l,k,j,i,h,e⟩:=yM (n:=n) H b f os [] Mu Mu Mu Mu Mu Mu b (by simp;omega);have g:aw (V (n+3)) (.jc 2 .nil) [Mq (.d (nt cs a)),Mq (.d (fX os)),Mu,Mu,Mu,Mu,Mu,Mu,Mu]=.ok (.nx (t9 (nt cs a) os [] Mu Mu Mu Mu Mu Mu)):=by
  show(T.need (decide (0<=MA))>>=λ_=>T.ok _)=_;rw[E9];rfl
 refine(aQ g).trans ?_;rw[aQ ((iP (ds:=os.map od) rfl).trans e)];unfold qC;show(((T.get (gA ((os.flatMap (con cs os)).map D.str))>>=λc=>T.ok (eS c))>>=λd=>T.ok (Fl.rt d))>>=λo=>_)=_;rw[mX];rfl
theorem BX{cs:List C3}{a:List Kt}{o:Op}(h:fk a o):(rc cs o).1<(rc cs o).2:=by
 have:=h.b;unfold rc;split<;>simp only<;>omega
theorem Bh{cs:List C3}{d:List Kt}{o:Op}(h:fk d o):bad cs o=!decide (o.a+o.b<=ln cs o.w):=by
 have g:=h.a;have f:=h.b;have e:bad cs o=Mv↔¬o.a+o.b<=ln cs o.w:=by
  unfold bad rc;rw[NO,decide_eq_true_eq,decide_eq_true_eq];split<;>simp only<;>omega
 by_cases c:o.a+o.b<=ln cs o.w
 .rw[decide_eq_true c,Oe,Bool.eq_false_iff];exactλz=>e.mp z c
 .rw[decide_eq_false c];exact e.mpr c
theorem Bi{a b c d:Int}(f:a<b)(e:c<d):mx a c<mn b d↔¬(b<=c\/d<=a):=by
 unfold mx mn;split<;>split<;>omega
theorem ux{cs:List C3}{a:List Kt}{o p:Op}(h:fk a o)(b:fk a p):hit cs o p=(!(p.x==o.x)&&!qI cs o p):=by
 have e:=Bi (BX (cs:=cs) h) (BX (cs:=cs) b);unfold hit qI;congr 1;by_cases hw:o.w=p.w
 .rw[decide_eq_true hw,decide_eq_true hw.symm,Bool.true_and,Oe,Bool.false_or,O1,decide_eq_true_eq,e,NA,Bool.or_eq_false_iff,decide_eq_false_iff_not,decide_eq_false_iff_not];omega
 .rw[decide_eq_false hw,decide_eq_false (Nj hw)];rfl
theorem uy{cs:List C3}{d:List Kt}{os:List Op}{o:Op}(h:fk d o)(e:∀p∈os,fk d p):con cs os o=[]↔st cs os o=Mv:=by
 unfold con st hits;rw[List.append_eq_nil_iff,List.flatMap_eq_nil_iff,MG,Bh h,Pg];refine and_congr ?_ ⟨λg p c=>?_,λg p c=>?_⟩;.cases decide (o.a+o.b<=ln cs o.w)<;>simp
 .obtain⟨f,k⟩:=List.mem_filter.mp c;have:=g p f;rw[ux h (e p f),k]at this;cases j:qI cs o p with
  |true=>rfl|false=>rw[j]at this;simp at this
 .rw[ux h (e p c)];cases i:(p.x==o.x)with
  |true=>simp|false=>
   have:=g p (List.mem_filter.mpr ⟨c,by simp[i]⟩);rw[this];simp
theorem uz{cs:List C3}{os:List Op}{o:Op}{y:MR}(h:y∈con cs os o):y=o.x:=by
 unfold con hits at h;rcases List.mem_append.mp h with h|h
 .split at h;.exact List.mem_singleton.mp h
  .cases h
 .obtain⟨p,_,h⟩:=List.mem_flatMap.mp h;split at h;.exact List.mem_singleton.mp h
  .cases h
theorem uA{b:MR}:∀{r:List MR},(∀y∈r,jI b y=Mv)->l_ b r=b
 |[],_=>rfl|y::r,h=>by
  have a:=h y ME;unfold jI at a;unfold l_;rw[NA]at a;rw[a,if_neg (by simp)];exact uA λz c=>h z (MH _ c)
theorem yN(a:MR):jI a a=Mv:=by
 have:=mV a a;rwa[Bool.or_self]at this
theorem uB{cs:List C3}{i:List Kt}{os:List Op}(g:∀p∈os,fk i p):∀{b:List Op},(∀p∈b,fk i p)->(b.map (·.x)).Pairwise (jI · ·=Mv)->eS (b.flatMap (con cs os))=match b.find? λo=>!st cs os o with
  |some o=>.str o.x|none=>.bH
 |[],_,_=>rfl|q::b,h,d=>by
  rw[MT,List.pairwise_cons]at d;rw[QF];cases c:st cs os q with
  |true=>
   rw[(uy (h q ME) g).mpr c,Ra,SA (by simp[c])];exact uB g (λp d=>h p (MH _ d)) d.2|false=>
   rw[Sz (by simp[c])];cases j:con cs os q with
   |nil=>rw[(uy (h q ME) g).mp j]at c;cases c|cons y r=>
    have e:∀z∈y::r,z=q.x:=λz a=>uz (by rw[j];exact a);have k:=e y ME;subst k;show D.str (l_ q.x (r++b.flatMap (con cs os)))=_;rw[uA λz a=>?_];rcases List.mem_append.mp a with a|a;.rw[e z (MH _ a)];exact yN _
    .obtain⟨p,f,a⟩:=List.mem_flatMap.mp a;rw[uz a];exact d.1 p.x (List.mem_map.mpr ⟨p,f,rfl⟩)
theorem same{cs:List C3}{b:List Kt}{os:List Op}(a:∀p∈os,fk b p)(c:(os.map (·.x)).Pairwise (jI · ·=Mv)):eS (os.flatMap (con cs os))=ff cs os:=uB a a c
theorem yO{cs:List C3}{os:List Op}(h:∀o∈os,st cs os o=Mv):ff cs os=.bH:=by
 unfold ff;rw[List.find?_eq_none.mpr λo a=>by rw[h o a];simp]
noncomputable def vD:List MR:=["a","b","zz","table","aa","z","abcdefgh","abcdefgi","door","x","wall","ab","ba","hold","end"]
noncomputable def yP:List MR:=["q","left","m","is","go","one","xy","window","thing","n","east","ax","bx","cx","dx"]
noncomputable def Bj:List MR:=["ey","fy","gy","hy","iy","jy","ky","ly","my","ny","oy"]
noncomputable def tab:List MR:=vD++yP++Bj
noncomputable def Bk(f s:Int)(d:D):MR:=match d with
 |.int k=>tab.getD ((f+s*k)%41).toNat ⟨#[]⟩|_=>⟨#[]⟩
theorem Fm{i:Int}(b:0<=i)(c:i<41):fu (tab.map D.str) i=Mq (.str (tab.getD i.toNat ⟨#[]⟩)):=by
 refine E8 b ?_;have a:i.toNat<tab.length:=by show i.toNat<41;omega
 rw[M9,MY a,Rv,MY a];rfl
theorem yQ{xs ys:List D}(h:xs.length+ys.length<=1000000):rP .Add (.lst xs) (.lst ys)=.ok (.lst (xs++ys)):=by
 show(T.need (decide (xs.length+ys.length<=MA))>>=λ_=>T.ok (D.lst (xs++ys)))=_;rw[sd h];rfl
noncomputable abbrev n5(k:Int)(o2 o3 o4:Option W):ag:=[Mq .feed,Mq (.d (.int k)),o2,o3,o4]
theorem Bl{n:Nat}{k f s:Int}(m:0<=k/\k<=41)(h:0<=s/\s<1000):ak (V n) (.lc ["_law_k"] [2,3,4] (.nm 0) (.ef (.cons (.var 1) .nil)) .yes eB) (n5 k (Mq (.d (.lst (tab.map D.str)))) (Mq (.d (.int f))) (Mq (.d (.int s))))=.ok (.lst (((av k.toNat).map (Bk f s)).map D.str)):=by
 have b:=bK (g:=ek (.nm 0)) (tc:=λρ=>aX (V n) .yes ρ) (te:=λρ=>ak (V n) eB ρ) (c:=λ_=>Mv) (e:=λd=>.str (Bk f s d)) (λρ=>∃a,ρ=[a,Mq (.d (.lst (tab.map D.str))),Mq (.d (.int f)),Mq (.d (.int s))]) (ds:=av k.toNat) (ρ:=[Mu,Mq (.d (.lst (tab.map D.str))),Mq (.d (.int f)),Mq (.d (.int s))]) (by
  rintro ρ⟨a,rfl⟩d hd;obtain⟨j,rfl⟩:∃j:Int,d=.int j:=by
   unfold av at hd;obtain⟨i,_,rfl⟩:=List.mem_map.mp hd;exact⟨_,rfl⟩
  refine⟨_,rfl,⟨_,rfl⟩,rfl,λ_=>?_⟩;unfold eB;symm_saturate;rw[iN h];show(T.get (fu (tab.map D.str) ((f+s*j)%41)))=_;rw[Fm (Qb _ (by decide)) (Pr _ (by decide))];rfl) ⟨Mu,rfl⟩;have em:((av k.toNat).filter (λ_=>Mv)).map (λd=>D.str (Bk f s d))=((av k.toNat).map (Bk f s)).map D.str:=by rw[List.filter_eq_self.mpr (λ_ _=>rfl),M_];rfl
 rw[em]at b;have l:nc (V n) (.ef (.cons (.var 1) .nil)) (n5 k (Mq (.d (.lst (tab.map D.str)))) (Mq (.d (.int f))) (Mq (.d (.int s))))=.ok (av k.toNat):=by
  show(T.need (decide (-(2^62)<=k)&&decide (k<=1000000))>>=λ_=>T.ok (av k.toNat))=_;rw[decide_eq_true (by omega),decide_eq_true (by omega)];rfl
 show(nc (V n) (.ef (.cons (.var 1) .nil)) (n5 k (Mq (.d (.lst (tab.map D.str)))) (Mq (.d (.int f))) (Mq (.d (.int s))))>>=λds=>dF (ek (.nm 0)) (λρ=>aX (V n) .yes ρ) (λρ=>ak (V n) eB ρ) ds [Mu,Mq (.d (.lst (tab.map D.str))),Mq (.d (.int f)),Mq (.d (.int s))]>>=λr=>T.ok (D.lst r))=_;rw[l,ai,b];rfl
noncomputable def aS:List MR->Ex
 |[]=>.nil|x::r=>.cons (.cst (.str x)) (aS r)
theorem IG{v:Ev}{ρ:ag}:∀a:List MR,c_ v (aS a) ρ=.ok (a.map λx=>A.d (.str x))
 |[]=>rfl|x::r=>by
  show(c_ v (aS r) ρ>>=λb=>T.ok (A.d (.str x)::b))=_;rw[IG r];rfl
theorem BY:∀a:List MR,fi (a.map λx=>A.d (.str x))=.ok (a.map D.str)
 |[]=>rfl|x::r=>by
  show(fi (r.map λx=>A.d (.str x))>>=λb=>T.ok (D.str x::b))=_;rw[BY r];rfl
theorem yR{v:Ev}{ρ:ag}(a:List MR)(h:a.length<=1000000):ak v (.lst (aS a)) ρ=.ok (.lst (a.map D.str)):=by
 show(c_ v (aS a) ρ>>=λc=>fi c>>=λb=>T.need (decide (b.length<=MA))>>=λ_=>T.ok (D.lst b))=_;rw[IG,ai,BY,ai,M0,sd h];rfl
noncomputable def Lg:aT:=(.cons (.set 3 (.call 8 (.feed 0 (.cons (.cst (.int 41)) .nil)))) (.cons (.set 4 (.idx (.lst (.cons (.cst (.int 1)) (.cons (.cst (.int 3)) (.cons (.cst (.int 7)) (.cons (.cst (.int 11)) (.cons (.cst (.int 13)) (.cons (.cst (.int 40)) .nil))))))) (.call 8 (.feed 0 (.cons (.cst (.int 6)) .nil))))) (.cons (.ret (.lc ["_law_k"] [2,3,4] (.nm 0) (.ef (.cons (.var 1) .nil)) .yes eB)) .nil)))
theorem Bm:eW=⟨2,5,.cons (.set 2 (.lst (aS vD))) (.cons (.set 2 (.op .Add (.var 2) (.lst (aS yP)))) (.cons (.set 2 (.op .Add (.var 2) (.lst (aS Bj)))) Lg))⟩:=rfl
theorem Fo{v:Ev}{o:Rn}{a b:Ex}{ρ:ag}{d e x:D}(g:ak v a ρ=.ok d)(f:ak v b ρ=.ok e)(c:rP o d e=.ok x):ak v (.op o a b) ρ=.ok x:=by
 show(ak v a ρ>>=λd=>ak v b ρ>>=λe=>rP o d e)=_;rw[g,ai,f,ai,c]
theorem yS{v:Ev}{e:Ex}{ρ:ag}{m:Nat}{Q:D->Nat->Prop}(h:(ak v e ρ).wp m Q):(aw v (.cons (.ret e) .nil) ρ).wp m (λb a=>(FQ b).wp a Q):=by
 rw[cJ];show(((ak v e ρ>>=λd=>T.ok (Fl.rt d))>>=_).wp m _);rw[T.wp_bind,T.wp_bind];refine T.wp_mono (λd a hd=>?_) h;rw[T.ao];show(T.ok (Fl.rt d)).wp a _;rw[T.ao];show(T.ok d).wp a Q;rw[T.ao];exact hd
theorem oH{n m:Nat}{i:Nat}{e:Ex}{j:Int}{ρ:ag}{Q:D->Nat->Prop}(f:bF ρ i=Mv)(g:ak (V (n+1)) e ρ=.ok (.int j))(c:0<j)(a:j<1073741824)(q:1<=m)(h:∀x:Int,0<=x->x<j->Q (.int x) (m-1)):(ak (V (n+1)) (.call 8 (.feed i (.cons e .nil))) ρ).wp m Q:=by
 have o:ak (V (n+1)) (.call 8 (.feed i (.cons e .nil))) ρ=.draw j λx=>.ok (.int x):=by
  show((T.need (bF ρ i)>>=λ_=>(ak (V (n+1)) e ρ>>=λd=>T.ok [A.d d])>>=λb=>T.ok (A.feed::b))>>=λp=>aL defs gv (n+1) 8 p)=_;rw[f,g];rfl
 rw[o,T.eZ];exact⟨c,a,by omega,λx l k=>(T.ao _ _ _).mpr (h x l k)⟩
theorem pick{xs:List D}{i:Int}{m:Nat}{Q:D->Nat->Prop}(a:0<=i)(b:i<xs.length)(h:∀x∈xs,Q x m):(T.get (fu xs i)).wp m Q:=by
 have e:xs[i.toNat]?=Mq (xs[i.toNat]'(by omega)):=MY (by omega);rw[E8 a e,T.iM];exact h _ (Sb _)
theorem sx{n m:Nat}{i:Nat}{a e:Ex}{xs:List D}{ρ:ag}{Q:D->Nat->Prop}(b:ak (V (n+1)) a ρ=.ok (.lst xs)\/ak (V (n+1)) a ρ=.ok (.tup xs))(j:bF ρ i=Mv)(k:ak (V (n+1)) e ρ=.ok (.int xs.length))(g:xs≠[])(f:xs.length<1000000)(c:1<=m)(h:∀x∈xs,Q x (m-1)):(ak (V (n+1)) (.idx a (.call 8 (.feed i (.cons e .nil)))) ρ).wp m Q:=by
 have p:0<xs.length:=List.length_pos_iff.mpr g;show(ak (V (n+1)) a ρ>>=λd=>ak (V (n+1)) (.call 8 (.feed i (.cons e .nil))) ρ>>=λe=>fj d e).wp m Q;rcases b with b|b<;>rw[b,ai,T.wp_bind]<;>exact oH j k (by omega) (by omega) c λx o l=>pick o l h
theorem uC{n:Nat}{k:Int}{m:Nat}{Q:D->Nat->Prop}(l:0<=k/\k<=41)(p:10<=m)(h:∀(b:List MR)c,m<=c+2->(b.length:Int)=k->Q (.lst (b.map D.str)) c):(aL defs gv (n+2) 16 [.feed,.d (.int k)]).wp m Q:=by
 rw[dH (d:=eW) rfl rfl,Bm,T.wp_bind];refine(congrArg (λt=>T.wp t m _) (bz (v:=V (n+1)) (i:=2) (ρ:=n5 k Mu Mu Mu) (yR vD (by decide)))).mpr ?_;refine(congrArg (λt=>T.wp t m _) (bz (v:=V (n+1)) (i:=2) (ρ:=n5 k (Mq (.d (.lst (vD.map D.str)))) Mu Mu) (Fo (a:=.var 2) rfl (yR yP (by decide)) (yQ (by decide))))).mpr ?_;refine(congrArg (λt=>T.wp t m _) (bz (v:=V (n+1)) (i:=2) (ρ:=n5 k (Mq (.d (.lst (vD.map D.str++yP.map D.str)))) Mu Mu) (Fo (a:=.var 2) rfl (yR Bj (by decide)) (yQ (by decide))))).mpr ?_;have o:vD.map D.str++yP.map D.str++Bj.map D.str=tab.map D.str:=by unfold tab;rw[NG,NG]
 rw[o];show(aw (V (n+1)) Lg (n5 k (Mq (.d (.lst (tab.map D.str)))) Mu Mu)).wp m _;unfold Lg;refine bP (oH (j:=41) rfl rfl (by omega) (by omega) (by omega) λf r q=>?_);refine bP (sx (xs:=[.int 1,.int 3,.int 7,.int 11,.int 13,.int 40]) (.inl ?_) rfl rfl (by simp) (by decide) (by omega) λx e=>?_)
 .show(T.need (decide (6<=MA))>>=λ_=>T.ok (D.lst [.int 1,.int 3,.int 7,.int 11,.int 13,.int 40]))=_;rw[sd (by decide)];rfl
 .obtain⟨s,rfl,g⟩:∃s:Int,x=.int s/\0<=s/\s<1000:=by
   simp only[NC,Nt,or_false]at e;rcases e with rfl|rfl|rfl|rfl|rfl|rfl<;>exact⟨_,rfl,by decide,by decide⟩
  refine yS ?_;show(ak (V (n+1)) _ (n5 k (Mq (.d (.lst (tab.map D.str)))) (Mq (.d (.int f))) (Mq (.d (.int s))))).wp _ _;rw[Bl l g,T.ao];refine h _ _ (by omega) ?_;rw[M0];simp[av];omega
section
variable{v:Ev}{a b c:Ex}{r:Ex}{ρ:ag}{m:Nat}{Q:D->Nat->Prop}
theorem bQ{d:D}(h:ak v a ρ=.ok d)(q:Q d m):(ak v a ρ).wp m Q:=by rw[h,T.ao];exact q
theorem sA{o:Rn}(h:(ak v a ρ).wp m λd m1=>(ak v b ρ).wp m1 λe m2=>(rP o d e).wp m2 Q):(ak v (.op o a b) ρ).wp m Q:=by
 show(ak v a ρ>>=λd=>ak v b ρ>>=λe=>rP o d e).wp m Q;rw[T.wp_bind];exact T.wp_mono (λd m1 f=>by rw[T.wp_bind];exact f) h
theorem Bo(h:(ak v a ρ).wp m λd m1=>(ak v b ρ).wp m1 λe m2=>(fj d e).wp m2 Q):(ak v (.idx a b) ρ).wp m Q:=by
 show(ak v a ρ>>=λd=>ak v b ρ>>=λe=>fj d e).wp m Q;rw[T.wp_bind];exact T.wp_mono (λd m1 f=>by rw[T.wp_bind];exact f) h
theorem yT{f:BI}(h:(ak v a ρ).wp m λd m1=>(lT f [d]).wp m1 Q):(ak v (.bi f (.cons a .nil)) ρ).wp m Q:=by
 show((ak v a ρ>>=λd=>T.ok [A.d d])>>=λi=>fi i>>=λg=>lT f g).wp m Q;rw[T.wp_bind,T.wp_bind];refine T.wp_mono (λd m1 e=>?_) h;rw[T.ao];exact e
theorem qK{Q:List A->Nat->Prop}(q:Q [] m):(c_ v .nil ρ).wp m Q:=(T.ao _ _ _).mpr q
theorem c9{Q:List A->Nat->Prop}(h:(ak v a ρ).wp m λd m1=>(c_ v r ρ).wp m1 λxs m2=>Q (.d d::xs) m2):(c_ v (.cons a r) ρ).wp m Q:=by
 show(ak v a ρ>>=λd=>c_ v r ρ>>=λxs=>T.ok (A.d d::xs)).wp m Q;rw[T.wp_bind];refine T.wp_mono (λd m1 f=>?_) h;rw[T.wp_bind];exact T.wp_mono (λxs m2 e=>by rw[T.ao];exact e) f
theorem BZ(h:(c_ v r ρ).wp m λas d=>∃ds,fi as=.ok ds/\ds.length<=1000000/\Q (.tup ds) d):(ak v (.tup r) ρ).wp m Q:=by
 show(c_ v r ρ>>=λas=>fi as>>=λds=>T.need (decide (ds.length<=MA))>>=λ_=>T.ok (D.tup ds)).wp m Q;rw[T.wp_bind];refine T.wp_mono (λas m1 g=>?_) h;obtain⟨ds,e,f,q⟩:=g;rw[e,ai,sd f];exact(T.ao _ _ _).mpr q
theorem yU(h:(c_ v r ρ).wp m λas d=>∃ds,fi as=.ok ds/\ds.length<=1000000/\Q (.lst ds) d):(ak v (.lst r) ρ).wp m Q:=by
 show(c_ v r ρ>>=λas=>fi as>>=λds=>T.need (decide (ds.length<=MA))>>=λ_=>T.ok (D.lst ds)).wp m Q;rw[T.wp_bind];refine T.wp_mono (λas m1 g=>?_) h;obtain⟨ds,e,f,q⟩:=g;rw[e,ai,sd f];exact(T.ao _ _ _).mpr q
theorem IH{i:Nat}(h:(ak v a (mM i ρ)).wp m λd f=>flat (gr ρ i) d=Mv/\Q d f):(ak v (.kQ i a) ρ).wp m Q:=by
 show(ak v a (mM i ρ)>>=λd=>T.need (flat (gr ρ i) d)>>=λ_=>T.ok d).wp m Q;rw[T.wp_bind];refine T.wp_mono (λd m1 e=>?_) h;rw[e.1];exact(T.ao _ _ _).mpr e.2
end
section
variable{v:Ev}{a b c:Ex}{s r:aT}{ρ:ag}{m:Nat}{Q:Fl->Nat->Prop}
theorem gp(h:(aw v s ρ).wp m λd e=>match d with|.nx ρ'=>(aw v r ρ').wp e Q|d=>Q d e):(aw v (.cons s r) ρ).wp m Q:=by
 rw[cJ,T.wp_bind];exact T.wp_mono (λd e f=>by cases d<;>first|exact f|exact(T.ao _ _ _).mpr f) h
theorem fY(h:Q (.nx ρ) m):(aw v .nil ρ).wp m Q:=(T.ao _ _ _).mpr h
theorem B0{i:Nat}{l:List D}(g:d6 ρ i=Mq (.lst l))(k:l.length<1000000)(h:(ak v a ρ).wp m λd e=>(aw v r (ρ.set i (Mq (.own (.lst (l++[d])))))).wp e Q):(aw v (.cons (.app i a) r) ρ).wp m Q:=by
 have z:=lU;refine gp ?_;show(T.get (d6 ρ i)>>=λx=>cH x>>=λf=>ak v a ρ>>=λd=>T.need (decide (f.length<MA))>>=λ_=>T.ok (Fl.nx (ρ.set i (Mq (.own (.lst (f++[d]))))))).wp m _;rw[g];show(ak v a ρ>>=λd=>T.need (decide (l.length<MA))>>=λ_=>T.ok (Fl.nx (ρ.set i (Mq (.own (.lst (l++[d]))))))).wp m _;rw[decide_eq_true (show l.length<MA by omega),T.wp_bind];refine T.wp_mono (λd e j=>?_) h;show(T.ok (Fl.nx (ρ.set i (Mq (.own (.lst (l++[d]))))))).wp e _;rw[T.ao];exact j
theorem B1{s1:aT}(h:(aX v c ρ).wp m λx m1=>if x=Mv then(aw v s1 ρ).wp m1 (λd e=>match d with|.nx ρ'=>(aw v r ρ').wp e Q|d=>Q d e)else(aw v r ρ).wp m1 Q):(aw v (.cons (.iff c s1 .nil) r) ρ).wp m Q:=by
 refine gp ?_;show(aX v c ρ>>=λx=>if x then aw v s1 ρ else T.ok (Fl.nx ρ)).wp m _;rw[T.wp_bind];refine T.wp_mono (λx m1 f=>?_) h;cases x with
 |true=>exact f|false=>exact(T.ao _ _ _).mpr f
end
section
variable{v:Ev}{a b:Ex}{ρ:ag}{m:Nat}{Q:Bool->Nat->Prop}
theorem yV(h:(aX v a ρ).wp m λx m1=>if x=Mv then(aX v b ρ).wp m1 Q else Q Mw m1):(aX v (.fG a b) ρ).wp m Q:=by
 show(aX v a ρ>>=λc=>if c then aX v b ρ else T.ok Mw).wp m Q;rw[T.wp_bind];refine T.wp_mono (λx m1 d=>?_) h;cases x with
 |true=>exact d|false=>exact(T.ao _ _ _).mpr d
theorem B2{o:P0}(h:(ak v a ρ).wp m λd m1=>(ak v b ρ).wp m1 λe m2=>∃x,bq o d e=.ok (.bl x)/\Q x m2):(aX v (.aG o a b) ρ).wp m Q:=by
 show(ak v a ρ>>=λd=>ak v b ρ>>=λe=>bq o d e>>=λd=>aZ d).wp m Q;rw[T.wp_bind];refine T.wp_mono (λd m1 f=>?_) h;rw[T.wp_bind];refine T.wp_mono (λe m2 c=>?_) f;obtain⟨x,g,q⟩:=c;rw[g];exact(T.ao _ _ _).mpr q
theorem B5{x:Bool}(h:aX v a ρ=.ok x)(q:Q x m):(aX v a ρ).wp m Q:=by rw[h,T.ao];exact q
end
theorem II{i j:Int}(h:j=2\/j=7):rP .FloorDiv (.int i) (.int j)=.ok (.int (i/j)):=by
 show(T.need (decide (j=2)||decide (j=7))>>=λ_=>T.ok (D.int (i/j)))=_;have:(decide (j=2)||decide (j=7))=Mv:=by simpa using h
 rw[this];rfl
theorem jZ{n f i:Nat}{a:Ex}{ρ:ag}{m:Nat}{Q:D->Nat->Prop}(c:bF ρ i=Mv)(h:(ak (V n) a ρ).wp m λd m1=>(aL defs gv n f [.feed,.d d]).wp m1 Q):(ak (V n) (.call f (.feed i (.cons a .nil))) ρ).wp m Q:=by
 show((T.need (bF ρ i)>>=λ_=>(ak (V n) a ρ>>=λd=>T.ok [A.d d])>>=λb=>T.ok (A.feed::b))>>=λg=>aL defs gv n f g).wp m Q;rw[c,T.wp_bind];show((ak (V n) a ρ>>=λd=>T.ok [A.d d])>>=λb=>T.ok (A.feed::b)).wp m _;rw[T.wp_bind,T.wp_bind];refine T.wp_mono (λd m1 e=>?_) h;rw[T.ao,T.ao];exact e
theorem Bp{n m:Nat}{i:Nat}{e:Ex}{ρ:ag}{Q:D->Nat->Prop}(f:bF ρ i=Mv)(h:(ak (V (n+1)) e ρ).wp m λd m1=>∃j:Int,d=.int j/\0<j/\j<1073741824/\1<=m1/\∀x:Int,0<=x->x<j->Q (.int x) (m1-1)):(ak (V (n+1)) (.call 8 (.feed i (.cons e .nil))) ρ).wp m Q:=by
 refine jZ f (T.wp_mono (λd m1 c=>?_) h);obtain⟨j,rfl,c,k,l,g⟩:=c;rw[nv,T.eZ];exact⟨c,k,by omega,λx a b=>(T.ao _ _ _).mpr (g x a b)⟩
theorem Lh{n m:Nat}{i:Nat}{e:Ex}{ρ:ag}{Q:D->Nat->Prop}(c:bF ρ i=Mv)(d:ak (V (n+1)) e ρ=.ok (.int 2))(b:1<=m)(h:∀x:MR,Q (.str x) (m-1)):(ak (V (n+1)) (.idx (.lst (.cons (.cst (.str "door")) (.cons (.cst (.str "window")) .nil))) (.call 8 (.feed i (.cons e .nil)))) ρ).wp m Q:=by
 refine sx (xs:=[.str "door",.str "window"]) (.inl ?_) c d (by simp) (by decide) b λx a=>?_
 .show(T.need (decide (2<=MA))>>=λ_=>T.ok (D.lst [.str "door",.str "window"]))=_;rw[Jv];rfl
 .simp only[NC,Nt,or_false]at a;rcases a with rfl|rfl<;>exact h _
theorem IJ{n m:Nat}{cs:List C3}{a:List Kt}{ρ:ag}{Q:D->Nat->Prop}(g:bF ρ 0=Mv)(e:fx ρ 1=Mq (nt cs a))(hw:a≠[])(k:a.length<=625)(f:1<=m)(h:∀w∈a,Q (kn w) (m-1)):(ak (V (n+1)) (.idx (.idx (.var 1) (.cst (.int 1))) (.call 8 (.feed 0 (.cons (.bi .len (.cons (.idx (.var 1) (.cst (.int 1))) .nil)) .nil)))) ρ).wp m Q:=by
 have b:ak (V (n+1)) (.idx (.var 1) (.cst (.int 1))) ρ=.ok (.tup (a.map kn)):=by
  show(T.get (fx ρ 1)>>=λd=>fj d (.int 1))=_;rw[e];rfl
 refine sx (xs:=a.map kn) (.inr b) g ?_ (by simpa using hw) (by simp;omega) f λx c=>?_
 .show((ak (V (n+1)) (.idx (.var 1) (.cst (.int 1))) ρ>>=λd=>T.ok [A.d d])>>=λj=>fi j>>=λi=>lT .len i)=_;rw[b];rfl
 .obtain⟨w,hw,rfl⟩:=List.mem_map.mp c;exact h w hw
noncomputable abbrev za(net:D)(ns:List MR)(one:Kt)(os:List Op)(o5 o6 o7 o8 o9:Option W):ag:=[Mq .feed,Mq (.d net),Mq (.d (.lst (ns.map D.str))),Mq (.d (kn one)),Mq (.own (.lst (os.map od))),o5,o6,o7,o8,o9]
theorem Li{v:Ev}{a b:Ex}{ρ:ag}{m:Nat}{Q:D->Nat->Prop}(h:(ak v a ρ).wp m λd m1=>(ak v b ρ).wp m1 λe m2=>∃i j:Int,d=.int i/\e=.int j/\Q (.int (mx i j)) m2):(ak v (.bi .max (.cons a (.cons b .nil))) ρ).wp m Q:=by
 show(c_ v (.cons a (.cons b .nil)) ρ>>=λk=>fi k>>=λg=>lT .max g).wp m Q;rw[T.wp_bind];refine c9 (T.wp_mono (λd m1 f=>c9 (T.wp_mono (λe m2 c=>qK ?_) f)) h);obtain⟨i,j,rfl,rfl,q⟩:=c;exact(T.ao _ _ _).mpr q
theorem IK{n m:Nat}{cs:List C3}{f:List Kt}{ns:List MR}{one:Kt}{os:List Op}{x:MR}{o6 o7 o8 o9:Option W}{Q:Fl->Nat->Prop}(H:aR cs f)(r:one∈f)(I:os.length<1000)(G:20<=m)(h:∀(o:Op)(o6 o7 o8 o9:Option W)s,m<=s+10->o.x=x->fk f o->Q (.nx (za (nt cs f) ns one (os++[o]) (Mq (.d (.str x))) o6 o7 o8 o9)) s):(aw (V (n+2)) oo (za (nt cs f) ns one os (Mq (.d (.str x))) o6 o7 o8 o9)).wp m Q:=by
 have q:f≠[]:=λz=>by rw[z]at r;cases r
 unfold oo;refine bP (Bo (yU (c9 (bQ (d:=kn one) rfl (c9 (IJ (n:=n+1) rfl rfl q H.lw (by omega) λu p=>qK ⟨[kn one,kn u],rfl,by simp,?_⟩))))));refine oH (n:=n+1) (j:=2) rfl rfl (by omega) (by omega) (by omega) λi i0 y=>pick i0 y λd hd=>?_;obtain⟨w,hw,rfl⟩:∃w∈f,d=kn w:=by
  simp only[NC,Nt,or_false]at hd;rcases hd with rfl|rfl;.exact⟨_,r,rfl⟩
  .exact⟨_,p,rfl⟩
 have W:=H.wl hw;have J:=W.l1;have B:=W.l2;refine(congrArg (λt=>T.wp t _ _) (bz (v:=V (n+2)) (i:=7) (ρ:=za (nt cs f) ns one os (Mq (.d (.str x))) (Mq (.d (kn w))) o7 o8 o9) (aH rfl (fW H W)))).mpr ?_;show(aw (V (n+2)) om (za (nt cs f) ns one os (Mq (.d (.str x))) (Mq (.d (kn w))) (Mq (.d (.int (ln cs w)))) o8 o9)).wp _ Q;unfold om;refine bP (sA (bQ (d:=.int 1) rfl (Bp (n:=n+1) rfl (Bo (yU (c9 (bQ (d:=.int 3) rfl (c9 (bQ (d:=.int (ln cs w)) rfl (qK ⟨[.int 3,.int (ln cs w)],rfl,by simp,?_⟩))))))))));refine sA (oH (n:=n+1) (j:=8) rfl rfl (by omega) (by omega) (by omega) λj F E=>bQ (d:=.int 7) rfl ?_);rw[II (.inr rfl),T.ao];refine pick (by omega) (by simp;omega) λd hd=>?_;obtain⟨k,rfl,k0,D⟩:∃k:Int,d=.int k/\0<k/\k<=2000000:=by
  simp only[NC,Nt,or_false]at hd;rcases hd with rfl|rfl;.exact⟨_,rfl,by decide,by decide⟩
  .exact⟨_,rfl,by omega,B⟩
 refine⟨k,rfl,k0,by omega,by omega,λb M b1=>?_⟩;refine(T.ao _ _ _).mpr ?_;show(aw (V (n+2)) _ (za (nt cs f) ns one os (Mq (.d (.str x))) (Mq (.d (kn w))) (Mq (.d (.int (ln cs w)))) (Mq (.d (.int (1+b)))) o9)).wp _ Q;refine bP (Bp (n:=n+1) rfl (Li (bQ (d:=.int 1) rfl (sA (bQ (d:=.int (ln cs w-(1+b)+2)) rfl (oH (n:=n+1) (j:=2) rfl rfl (by omega) (by omega) (by omega) λc L K=>(T.ao _ _ _).mpr ⟨1,ln cs w-(1+b)+2-c,rfl,rfl,_,rfl,?_,?_,by omega,λa C a1=>?_⟩))))));.unfold mx;split<;>omega
 .unfold mx;split<;>omega
 show(aw (V (n+2)) _ (za (nt cs f) ns one os (Mq (.d (.str x))) (Mq (.d (kn w))) (Mq (.d (.int (ln cs w)))) (Mq (.d (.int (1+b)))) (Mq (.d (.int a))))).wp _ Q;refine B0 (l:=os.map od) rfl (by simp;omega) (BZ (c9 (bQ (d:=.str x) rfl (c9 (Lh (n:=n+1) rfl rfl (by omega) λg=>c9 (bQ (d:=kn w) rfl (c9 (sx (n:=n+1) (xs:=[.int w.1,.int w.2]) (.inr rfl) rfl rfl (by simp) (by simp) (by omega) λd hd=>c9 (bQ (d:=.int a) rfl (c9 (bQ (d:=.int (1+b)) rfl (qK ⟨[.str x,.str g,kn w,d,.int a,.int (1+b)],rfl,by simp,?_⟩))))))))))));obtain⟨e,rfl,A⟩:∃e:Int,d=.int e/\(e=w.1\/e=w.2):=by
  simp only[NC,Nt,or_false]at hd;rcases hd with rfl|rfl;.exact⟨_,rfl,.inl rfl⟩
  .exact⟨_,rfl,.inr rfl⟩
 have N:a<2000010:=by
  have:mx 1 (ln cs w-(1+b)+2-c)<=2000010:=by unfold mx;split<;>omega
  omega
 have em:os.map od++[.tup [.str x,.str g,kn w,.int e,.int a,.int (1+b)]]=(os++[(⟨x,g,w,e,a,1+b⟩:Op)]).map od:=by rw[NG];rfl
 rw[em];exact fY (h ⟨x,g,w,e,a,1+b⟩ _ _ _ _ _ (by omega) rfl ⟨hw,A,⟨C,by simp only;omega⟩,by simp only;omega⟩)
theorem Fp{a:List MR}(h:a≠[])(b:a.length<64):lT .sorted [.lst (a.map D.str)]=.ok (.lst ((gz a).map D.str)):=by
 have e:d_ (a.map D.str)=Mw:=by cases a with
  |nil=>exact absurd rfl h|cons x r=>rfl
 show(if d_ (a.map D.str)=Mv then ll (a.map D.str)else lq (a.map D.str))=_;rw[e,if_neg (by simp)];unfold lq;rw[mX];show(T.need (decide (a.length<64))>>=λ_=>T.ok (D.lst ((gz a).map D.str)))=_;rw[decide_eq_true b];rfl
inductive Mo(cs:List C3)(ws:List Kt)(ns:List MR)(one:Kt)(m:Nat)(ds:List D)(ρ:ag)(m':Nat):Prop|mk(os:List Op)(xs:List MR)(o5 o6 o7 o8 o9:Option W)(eρ:ρ=za (nt cs ws) ns one os o5 o6 o7 o8 o9)(g1:m<=m'+10*os.length)(g2:ds=xs.map D.str)(g3:os.map (·.x)++xs=ns)(g4:∀o∈os,fk ws o)
theorem Fq{n m:Nat}{cs:List C3}{a:List Kt}{Q:D->Nat->Prop}(H:aR cs a)(hw:a≠[])(U:1000<=m)(h:∀(os:List Op)A,m<=A+500->(∀o∈os,fk a o)->os.length<=40->(os.map (·.x)).Pairwise (jI · ·=Mv)->Q (fX os) A):(aL defs gv (n+3) 18 [.feed,.d (nt cs a)]).wp m Q:=by
 rw[dH (d:=fQ) rfl rfl];unfold fQ;rw[T.wp_bind];refine bP (yT (jZ rfl (sA (bQ (d:=.int 1) rfl (Bp (n:=n+1) rfl (sx (n:=n+1) (xs:=[.int 4,.int 8,.int 40]) (.inl rfl) rfl rfl (by simp) (by simp) (by omega) λd hd=>?_))))));obtain⟨k,rfl,k0,R⟩:∃k:Int,d=.int k/\0<k/\k<=40:=by
  simp only[NC,Nt,or_false]at hd;rcases hd with rfl|rfl|rfl<;>exact⟨_,rfl,by decide,by decide⟩
 refine⟨k,rfl,k0,by omega,by omega,λi i0 S=>(T.ao _ _ _).mpr ?_⟩;refine uC (n:=n) (by omega) (by omega) λe m1 F B=>?_;rw[Fp (λz=>by rw[z]at B;simp at B;omega) (by omega),T.ao];have j:(gz e).length=e.length:=(gJ e).length_eq;have b:=qc e;revert j b;generalize gz e=ns;intro j b;show(aw (V (n+2)) ot [Mq .feed,Mq (.d (nt cs a)),Mq (.d (.lst (ns.map D.str))),Mu,Mu,Mu,Mu,Mu,Mu,Mu]).wp m1 _;unfold ot;refine bP (IJ (n:=n+1) rfl rfl hw H.lw (by omega) λone G=>?_);have K:aw (V (n+2)) (.jc 4 .nil) [Mq .feed,Mq (.d (nt cs a)),Mq (.d (.lst (ns.map D.str))),Mq (.d (kn one)),Mu,Mu,Mu,Mu,Mu,Mu]=.ok (.nx (za (nt cs a) ns one [] Mu Mu Mu Mu Mu)):=by
  show(T.need (decide (0<=MA))>>=λ_=>T.ok _)=_;rw[E9];rfl
 refine(congrArg (λt=>T.wp t _ _) (aQ (r:=.cons _ _) K)).mpr ?_;refine gp ?_;rw[iP (ds:=ns.map D.str) rfl];refine e7 (Mo cs a ns one (m1-1)) ?_ ?_ ⟨[],ns,Mu,Mu,Mu,Mu,Mu,rfl,by simp,rfl,rfl,by simp⟩
 .rintro d ds C m2⟨os,xs,w,v,u,s,q,rfl,I,l,c,y⟩;cases xs with
  |nil=>cases l|cons x xs=>
   cases l;have g:os.length+(xs.length+1)=ns.length:=by
    have:=congrArg Qh c;simpa using this
   rw[si.1,T.ao];refine IK (n:=n) H G (by omega) (by omega) λo O N M L P E ex ok=>?_;refine⟨os++[o],xs,_,_,_,_,_,rfl,by simp;omega,rfl,by rw[<-c];simp[ex],λp f=>?_⟩;rcases List.mem_append.mp f with f|f;.exact y p f
   .rw[List.mem_singleton.mp f];exact ok
 .rintro C m2⟨os,xs,w,v,u,s,q,rfl,I,l,c,y⟩;cases xs with
  |cons _ _=>cases l|nil=>
   rw[M1]at c;have g:os.length=ns.length:=by rw[<-c,M0]
   unfold ua;have J:aw (V (n+2)) (.cons (.fz 4 (.ret (.bi .tuple (.cons (.var 4) .nil)))) .nil) (za (nt cs a) ns one os w v u s q)=.ok (.rt (fX os)):=rfl;show(aw (V (n+2)) (.cons (.fz 4 (.ret (.bi .tuple (.cons (.var 4) .nil)))) .nil) (za (nt cs a) ns one os w v u s q)).wp m2 _;rw[J,T.ao];show(T.ok (fX os)).wp m2 Q;rw[T.ao];exact h os m2 (by omega) y (by omega) (by rw[c];exact b)
structure Sn(cs:List C3)(ws:List Kt)(os:List Op):Prop where
 ok:∀o∈os,fk ws o
 wi:∀o∈os,o.a+o.b<=ln cs o.w
 pw:os.Pairwise (λo p=>qI cs o p=Mv)
theorem yW(cs:List C3)(o p:Op):qI cs o p=qI cs p o:=by
 unfold qI;rw[Bool.or_comm (decide ((rc cs o).2<=(rc cs p).1))];congr 2;exact decide_eq_decide.mpr ⟨Eq.symm,Eq.symm⟩
theorem Sn.st{cs:List C3}{m:List Kt}{os a:List Op}(S:Sn cs m os)(p:a.Perm os):∀o∈a,st cs a o=Mv:=λo r=>by
 have b:=p.subset r;unfold K41.st;rw[MG];refine⟨decide_eq_true (S.wi o b),List.all_eq_true.mpr λq n=>?_⟩;obtain⟨s,l⟩:=List.mem_filter.mp n;have c:=p.subset s;have d:o≠q:=λz=>by rw[z]at l;simp at l
 obtain⟨i,h,f⟩:=P7 b;obtain⟨j,g,e⟩:=P7 c;have k:=List.pairwise_iff_getElem.mp S.pw;rcases Ub i j with z|z|z;.rw[<-f,<-e];exact k i j h g z
 .subst z;exact absurd (f.symm.trans e) d
 .rw[yW,<-f,<-e];exact k j i g h z
noncomputable abbrev oO(net:D)(os:List Op)(a:List MR)(w:Kt)(o6 o7 o8 o9 o10 o11:Option W):ag:=[Mq .feed,Mq (.d net),Mq (.d (.int 40)),Mq (.own (.lst (os.map od))),Mq (.d (.lst (a.map D.str))),Mq (.d (kn w)),o6,o7,o8,o9,o10,o11]
noncomputable abbrev Mp(net:D)(os:List Op)(a:List MR)(w:Kt)(o6 o7 o8 o9 o10 o11:Option W):ag:=[Mq .feed,Mq (.d net),Mq (.d (.int 40)),Mq (.d (.lst (os.map od))),Mq (.d (.lst (a.map D.str))),Mq (.d (kn w)),o6,o7,o8,o9,o10,o11]
theorem Fj.ne{cs:List C3}{w:Kt}(h:Fj cs w):w.1≠w.2:=λz=>by
 have:=h.l1;unfold ln at this;rw[z]at this;omega
theorem yX{v:Ev}{i j:Nat}{a r:Ex}{s:aT}{d e:D}{ρ:ag}(f:ak v a ρ=.ok d)(c:ak v r ρ=.ok e):aw v (.cons (.par i j (.cons a (.cons r .nil))) s) ρ=aw v s ((ρ.set i (Mq (.d d))).set j (Mq (.d e))):=aQ (by
 show((ak v a ρ>>=λd=>(ak v r ρ>>=λe=>T.ok [A.d e])>>=λb=>T.ok (A.d d::b))>>=λh=>fi h>>=λg=>match g with|[d,e]=>T.ok (Fl.nx ((ρ.set i (Mq (.d d))).set j (Mq (.d e))))|_=>.stuck)=_;rw[f,c];rfl)
theorem Lj{n m:Nat}{cs:List C3}{p:List Kt}{f:List MR}{os:List Op}{w:Kt}{c L e a b:Int}{o8:Option W}{Q:Fl->Nat->Prop}(z:os.length<40)(u:f.length=41)(y:5<=m)(h:∀(x k:MR)q,m<=q+2->Q (.nx (oO (nt cs p) (os++[⟨x,k,w,e,a,b⟩]) f w (Mq (.d (.int (c+b)))) (Mq (.d (.int L))) o8 (Mq (.d (.int b))) (Mq (.d (.int e))) (Mq (.d (.int a))))) q):(aw (V (n+2)) dG (oO (nt cs p) os f w (Mq (.d (.int c))) (Mq (.d (.int L))) o8 (Mq (.d (.int b))) (Mq (.d (.int e))) (Mq (.d (.int a))))).wp m Q:=by
 unfold dG;refine B0 (l:=os.map od) rfl (by simp;omega) (IH ?_);show(ak (V (n+2)) _ (Mp (nt cs p) os f w (Mq (.d (.int c))) (Mq (.d (.int L))) o8 (Mq (.d (.int b))) (Mq (.d (.int e))) (Mq (.d (.int a))))).wp m _;refine BZ (c9 (Bo (bQ (d:=.lst (f.map D.str)) rfl (bQ (d:=.int ((os.map od).length:Int)) rfl (pick (by omega) (by simp;omega) λd hd=>?_)))));obtain⟨x,_,rfl⟩:=List.mem_map.mp hd;refine c9 (Bo (yU (c9 (bQ (d:=.str "door") rfl (c9 (bQ (d:=.str "window") rfl (qK ⟨[.str "door",.str "window"],rfl,by simp,?_⟩)))))));refine sA (oH (n:=n+1) (j:=3) rfl rfl (by omega) (by omega) (by omega) λi i0 s=>bQ (d:=.int 2) rfl ?_);rw[II (.inl rfl),T.ao];refine pick (by omega) (by simp;omega) λr g=>?_;obtain⟨k,rfl⟩:∃k:MR,r=.str k:=by
  simp only[NC,Nt,or_false]at g;rcases g with rfl|rfl<;>exact⟨_,rfl⟩
 refine c9 (bQ (d:=kn w) rfl (c9 (bQ (d:=.int e) rfl (c9 (bQ (d:=.int a) rfl (c9 (bQ (d:=.int b) rfl (qK ⟨[.str x,.str k,kn w,.int e,.int a,.int b],rfl,by simp,rfl,?_⟩))))))));have em:os.map od++[.tup [.str x,.str k,kn w,.int e,.int a,.int b]]=(os++[(⟨x,k,w,e,a,b⟩:Op)]).map od:=by rw[NG];rfl
 rw[em];refine(congrArg (λt=>T.wp t _ _) (bz (v:=V (n+2)) (i:=6) (ρ:=oO (nt cs p) (os++[⟨x,k,w,e,a,b⟩]) f w (Mq (.d (.int c))) (Mq (.d (.int L))) o8 (Mq (.d (.int b))) (Mq (.d (.int e))) (Mq (.d (.int a)))) (Fo (o:=.Add) (a:=.var 6) (b:=.var 9) (d:=.int c) (e:=.int b) (x:=.int (c+b)) rfl rfl rfl))).mpr ?_;exact fY (h x k _ (by omega))
theorem yY{cs:List C3}{w:Kt}{x k:MR}{e a b c:Int}(W:Fj cs w)(d:e=w.1/\a=c\/e=w.2/\a=ln cs w-c-b):rc cs ⟨x,k,w,e,a,b⟩=(c,c+b):=by
 have:=W.ne;unfold rc;rcases d with⟨rfl,rfl⟩|⟨rfl,rfl⟩;.simp
 .rw[if_neg (λz=>this z.symm)];simp only;congr 1<;>omega
theorem Sn.put{cs:List C3}{i:List Kt}{os:List Op}{w:Kt}{x k:MR}{e a b c:Int}(S:Sn cs i os)(W:Fj cs w)(hw:w∈i)(s:0<=c)(hb:1<=b)(r:c+b<=ln cs w)(m:∀p∈os,p.w=w->(rc cs p).2<=c)(g:e=w.1/\a=c\/e=w.2/\a=ln cs w-c-b):Sn cs i (os++[⟨x,k,w,e,a,b⟩]):=by
 have t:=W.l2;have n:=yY (x:=x) (k:=k) W g;refine⟨λo d=>?_,λo d=>?_,?_⟩
 .rcases List.mem_append.mp d with d|d;.exact S.ok o d
  .rw[List.mem_singleton.mp d];refine⟨hw,?_,?_,?_⟩
   .simp only;rcases g with⟨h,_⟩|⟨h,_⟩;.exact .inl h
    .exact .inr h
   .simp only;rcases g with⟨_,h⟩|⟨_,h⟩<;>omega
   .simp only;omega
 .rcases List.mem_append.mp d with d|d;.exact S.wi o d
  .rw[List.mem_singleton.mp d];simp only;rcases g with⟨_,h⟩|⟨_,h⟩<;>omega
 .refine List.pairwise_append.mpr ⟨S.pw,R_ _ _,λp l q j=>?_⟩;rw[List.mem_singleton.mp j];unfold qI;rw[n];by_cases f:p.w=w
  .have:=m p l f;simp[this]
  .simp[f]
theorem Lk{n m:Nat}{cs:List C3}{r:List Kt}{u:List MR}{os:List Op}{w:Kt}{c:Int}{o8 o9 o10 o11:Option W}{Q:Fl->Nat->Prop}(H:aR cs r)(hw:w∈r)(S:Sn cs r os)(Z:0<=c)(B:∀p∈os,p.w=w->(rc cs p).2<=c)(L:os.length<=40)(I:u.length=41)(X:20<=m)(h:∀(s:List Op)(o:Int)(o9 o10 o11:Option W)q,m<=q+10->Sn cs r s->0<=o->(∀p∈s,p.w=w->(rc cs p).2<=o)->s.length<=40->(∀p∈s,p∈os\/p.w=w)->Q (.nx (oO (nt cs r) s u w (Mq (.d (.int o))) (Mq (.d (.int (ln cs w)))) o8 o9 o10 o11)) q):(aw (V (n+2)) fK (oO (nt cs r) os u w (Mq (.d (.int c))) (Mq (.d (.int (ln cs w)))) o8 o9 o10 o11)).wp m Q:=by
 have W:=H.wl hw;have g1:=W.l1;have g2:=W.l2;unfold fK;refine bP (sA (bQ (d:=.int 1) rfl (Bp (n:=n+1) rfl (sx (n:=n+1) (xs:=[.int 3,.int (mx 1 (ln cs w/2))]) (.inl rfl) rfl rfl (by simp) (by simp) (by omega) λd hd=>?_))));obtain⟨k,rfl,k0,R⟩:∃k:Int,d=.int k/\0<k/\k<=2000000:=by
  simp only[NC,Nt,or_false]at hd;rcases hd with rfl|rfl;.exact⟨_,rfl,by decide,by decide⟩
  .refine⟨_,rfl,?_,?_⟩<;>unfold mx<;>split<;>omega
 refine⟨k,rfl,k0,by omega,by omega,λb b0 b1=>(T.ao _ _ _).mpr ?_⟩;refine bP (sA (bQ (d:=.int c) rfl (oH (n:=n+1) (j:=3) rfl rfl (by omega) (by omega) (by omega) λf f0 f1=>(T.ao _ _ _).mpr ?_)));show(aw (V (n+2)) _ (oO (nt cs r) os u w (Mq (.d (.int (c+f)))) (Mq (.d (.int (ln cs w)))) o8 (Mq (.d (.int (1+b)))) o10 o11)).wp _ Q;have dg:∀q,m<=q+10->Q (.nx (oO (nt cs r) os u w (Mq (.d (.int (c+f)))) (Mq (.d (.int (ln cs w)))) o8 (Mq (.d (.int (1+b)))) o10 o11)) q:=λq M=>h os (c+f) _ _ _ q M S (by omega) (λp l e=>by have:=B p l e;omega) L λp l=>.inl l;refine B1 (yV (B5 (x:=decide (c+f+(1+b)<=ln cs w)) rfl ?_));by_cases E:c+f+(1+b)<=ln cs w
 .rw[decide_eq_true E,if_pos rfl];refine yV (B5 (x:=decide (((os.map od).length:Int)<40)) rfl ?_);by_cases D:((os.map od).length:Int)<40
  .have c3:os.length<40:=by simp at D;omega
   rw[decide_eq_true D,if_pos rfl];show(aX (V (n+2)) (.aG .Eq (.call 8 (.feed 0 (.cons (.cst (.int 3)) .nil))) (.cst (.int 0))) (oO (nt cs r) os u w (Mq (.d (.int (c+f)))) (Mq (.d (.int (ln cs w)))) o8 (Mq (.d (.int (1+b)))) o10 o11)).wp _ _;refine B2 (oH (n:=n+1) (j:=3) rfl rfl (by omega) (by omega) (by omega) λg g0 g3=>bQ (d:=.int 0) rfl ⟨g==0,rfl,?_⟩);cases Y:(g==0)with
   |false=>rw[if_neg (by simp)];exact fY (dg _ (by omega))|true=>
    rw[if_pos rfl];refine(congrArg (λt=>T.wp t _ _) (yX (v:=V (n+2)) (i:=10) (j:=11) (d:=.int w.1) (e:=.int (c+f)) (ρ:=oO (nt cs r) os u w (Mq (.d (.int (c+f)))) (Mq (.d (.int (ln cs w)))) o8 (Mq (.d (.int (1+b)))) o10 o11) rfl rfl)).mpr ?_;show(aw (V (n+2)) _ (oO (nt cs r) os u w (Mq (.d (.int (c+f)))) (Mq (.d (.int (ln cs w)))) o8 (Mq (.d (.int (1+b)))) (Mq (.d (.int w.1))) (Mq (.d (.int (c+f)))))).wp _ _;have y:∀(e a:Int)q,m<=q+8->(e=w.1/\a=c+f\/e=w.2/\a=ln cs w-(c+f)-(1+b))->(aw (V (n+2)) dG (oO (nt cs r) os u w (Mq (.d (.int (c+f)))) (Mq (.d (.int (ln cs w)))) o8 (Mq (.d (.int (1+b)))) (Mq (.d (.int e))) (Mq (.d (.int a))))).wp q (λC q=>match C with|.nx A=>(aw (V (n+2)) .nil A).wp q Q|C=>Q C q):=λe a q K F=>by
     refine Lj c3 I (by omega) λx G m2 J=>fY ?_;have N:=yY (x:=x) (k:=G) W F;refine h _ _ _ _ _ m2 (by omega) (S.put W hw (by omega) (by omega) E (λp l e=>by have:=B p l e;omega) F) (by omega) (λp l e=>?_) (by simp;omega) λp l=>?_
     .rcases List.mem_append.mp l with l|l;.have:=B p l e;omega
      .rw[List.mem_singleton.mp l,N];exact Q3 _
     .rcases List.mem_append.mp l with l|l;.exact .inl l
      .rw[List.mem_singleton.mp l];exact .inr rfl
    refine B1 (B2 (oH (n:=n+1) (j:=2) rfl rfl (by omega) (by omega) (by omega) λz P O=>bQ (d:=.int 0) rfl ⟨z==0,rfl,?_⟩));cases U:(z==0)with
    |false=>rw[if_neg (by simp)];exact y _ _ _ (by omega) (.inl ⟨rfl,rfl⟩)|true=>
     rw[if_pos rfl];refine(congrArg (λt=>T.wp t _ _) (yX (v:=V (n+2)) (i:=10) (j:=11) (d:=.int w.2) (e:=.int (ln cs w-(c+f)-(1+b))) (ρ:=oO (nt cs r) os u w (Mq (.d (.int (c+f)))) (Mq (.d (.int (ln cs w)))) o8 (Mq (.d (.int (1+b)))) (Mq (.d (.int w.1))) (Mq (.d (.int (c+f))))) rfl rfl)).mpr ?_;exact fY (y _ _ _ (by omega) (.inr ⟨rfl,rfl⟩))
  .rw[decide_eq_false D,if_neg (by simp),if_neg (by simp)];exact fY (dg _ (by omega))
 .rw[decide_eq_false E,if_neg (by simp),if_neg (by simp)];exact fY (dg _ (by omega))
theorem Fs{os:List Op}{m:Nat}{Q:D->Nat->Prop}(a:os.length<=1000)(h:∀l:List Op,l.Perm os->Q (.lst (l.map od)) m):(lT .sorted [.lst (os.map od)]).wp m Q:=by
 have z:=lU;have e:d_ (os.map od)=Mv:=by
  unfold d_;have:(os.map od).all Ec=Mv:=List.all_eq_true.mpr λx c=>by
   obtain⟨p,_,rfl⟩:=List.mem_map.mp c;rfl
  rw[this,Bool.or_true]
 show(if d_ (os.map od)=Mv then ll (os.map od)else lq (os.map od)).wp m Q;rw[e,if_pos rfl];unfold ll;rw[sd (by simp;omega)];show(T.perm (os.map od) λl=>T.ok (D.lst l)).wp m Q;rw[T.gj];intro l a;obtain⟨b,rfl,pl⟩:=qH uo ID a;exact(T.ao _ _ _).mpr (h b pl)
noncomputable abbrev IL(net:D)(os:List Op)(a:List MR)(o5 o6 o7 o8 o9 o10 o11:Option W):ag:=[Mq .feed,Mq (.d net),Mq (.d (.int 40)),Mq (.own (.lst (os.map od))),Mq (.d (.lst (a.map D.str))),o5,o6,o7,o8,o9,o10,o11]
inductive OI(cs:List C3)(ws:List Kt)(ss:List MR)(m:Nat)(ds:List D)(ρ:ag)(m':Nat):Prop|mk(os:List Op)(wd wr:List Kt)(o5 o6 o7 o8 o9 o10 o11:Option W)(eρ:ρ=IL (nt cs ws) os ss o5 o6 o7 o8 o9 o10 o11)(g1:m<=m'+20*wd.length)(g2:ds=wr.map kn)(g3:wd++wr=ws)(g4:Sn cs ws os)(g5:os.length<=40)(g6:∀p∈os,p.w∉wr)
theorem IM{v:Ev}{ρ:ag}:nc v (.ef (.cons (.cst (.int 2)) .nil)) ρ=.ok (av 2):=by
 show(T.need (decide (-(2^62)<=(2:Int))&&decide ((2:Int)<=1000000))>>=λ_=>T.ok (av 2))=_;rw[decide_eq_true (by decide),decide_eq_true (by decide)];rfl
theorem Ft{n m:Nat}{cs:List C3}{c:List Kt}{f:List MR}{os:List Op}{w:Kt}{o6 o7 o8 o9 o10 o11:Option W}{Q:Fl->Nat->Prop}(H:aR cs c)(hw:w∈c)(S:Sn cs c os)(I:∀p∈os,p.w≠w)(G:os.length<=40)(F:f.length=41)(R:50<=m)(h:∀(a:List Op)(o6 o7 o8 o9 o10 o11:Option W)q,m<=q+20->Sn cs c a->a.length<=40->(∀p∈a,p∈os\/p.w=w)->Q (.nx (oO (nt cs c) a f w o6 o7 o8 o9 o10 o11)) q):(aw (V (n+2)) fM (oO (nt cs c) os f w o6 o7 o8 o9 o10 o11)).wp m Q:=by
 have W:=H.wl hw;unfold fM;refine(congrArg (λt=>T.wp t _ _) (bz (v:=V (n+2)) (i:=6) (d:=.int 0) (ρ:=oO (nt cs c) os f w o6 o7 o8 o9 o10 o11) rfl)).mpr ?_;refine(congrArg (λt=>T.wp t _ _) (bz (v:=V (n+2)) (i:=7) (ρ:=oO (nt cs c) os f w (Mq (.d (.int 0))) o7 o8 o9 o10 o11) (aH rfl (fW H W)))).mpr ?_;show(aw (V (n+2)) fL (oO (nt cs c) os f w (Mq (.d (.int 0))) (Mq (.d (.int (ln cs w)))) o8 o9 o10 o11)).wp m Q;unfold fL;refine gp ?_;rw[iP IM];refine lO (λj ρ q=>∃(a:List Op)(b:Int)(s r k g:Option L2.W),ρ=oO (nt cs c) a f w (Mq (.d (.int b))) (Mq (.d (.int (ln cs w)))) s r k g/\m<=q+10*j/\Sn cs c a/\0<=b/\(∀p∈a,p.w=w->(rc cs p).2<=b)/\a.length<=40/\∀p∈a,p∈os\/p.w=w) ?_ ?_ ⟨os,0,_,_,_,_,rfl,by omega,S,by omega,λp o e=>absurd e (I p o),G,λp o=>.inl o⟩
 .rintro j ρ m1 U⟨a,b,s,r,k,g,rfl,J,A,C,B,y,x⟩;rw[si.1,T.ao];refine Lk H hw A C B y F (by omega) λu l P E D m2 X O N M L K=>?_;refine⟨u,l,_,_,_,_,rfl,by omega,O,N,M,L,λp o=>?_⟩;rcases K p o with z|z;.exact x p z
  .exact .inr z
 .rintro ρ m1⟨a,b,s,r,k,g,rfl,J,A,C,B,y,x⟩;exact fY (h a _ _ _ _ _ _ m1 (by omega) A y x)
theorem sC{n m:Nat}{cs:List C3}{a:List Kt}{Q:D->Nat->Prop}(H:aR cs a)(hm:20000<=m)(h:∀(os i:List Op)N,Sn cs a os->i.Perm os->os.length<=40->Q (fX i) N):(aL defs gv (n+3) 17 [.feed,.d (nt cs a),.d (.int 40)]).wp m Q:=by
 have P:=H.lw;rw[dH (d:=cR) rfl rfl];unfold cR;rw[T.wp_bind];have W:aw (V (n+2)) (.jc 3 .nil) [Mq .feed,Mq (.d (nt cs a)),Mq (.d (.int 40)),Mu,Mu,Mu,Mu,Mu,Mu,Mu,Mu,Mu]=.ok (.nx [Mq .feed,Mq (.d (nt cs a)),Mq (.d (.int 40)),Mq (.own (.lst [])),Mu,Mu,Mu,Mu,Mu,Mu,Mu,Mu]):=by
  show(T.need (decide (0<=MA))>>=λ_=>T.ok _)=_;rw[E9];rfl
 refine(congrArg (λt=>T.wp t _ _) (aQ (r:=.cons _ _) W)).mpr ?_;refine bP (jZ rfl (bQ (d:=.int 41) rfl (uC (n:=n) (by omega) (by omega) λg m1 O hl=>?_)));show(aw (V (n+2)) fN (IL (nt cs a) [] g Mu Mu Mu Mu Mu Mu Mu)).wp m1 _;unfold fN;refine gp ?_;rw[iP (ds:=a.map kn) rfl];refine e7 (OI cs a g m1) ?_ ?_ ⟨[],[],a,_,_,_,_,_,_,_,rfl,by simp,rfl,rfl,⟨by simp,by simp,.nil⟩,by simp,by simp⟩
 .rintro d ds J m2⟨os,v,f,u,s,q,o,k,c,b,rfl,R,F,j,E,C,B⟩;cases f with
  |nil=>cases F|cons w f=>
   cases F;have hw:w∈a:=by rw[<-j];simp
   have G:v.length+(f.length+1)=a.length:=by rw[<-j];simp
   have M:w∉f:=by
    have:=H.wn;rw[<-j]at this;exact(List.nodup_cons.mp (List.nodup_append.mp this).2.1).1
   rw[si.1,T.ao];refine Ft (n:=n) H hw E (λp A e=>B p A (by rw[e];exact ME)) C (by omega) (by omega) λx q6 q7 Z Y L K m3 I X U S=>?_;refine⟨x,v++[w],f,_,_,_,_,_,_,_,rfl,by simp;omega,rfl,by rw[<-j];simp,X,U,λp A=>?_⟩;rcases S p A with z|z;.exactλy=>B p z (MH _ y)
   .rw[z];exact M
 .rintro J m2⟨os,v,f,u,s,q,o,k,c,b,rfl,R,F,j,E,C,B⟩;show(aw (V (n+2)) fJ (IL (nt cs a) os g u s q o k c b)).wp m2 _;unfold fJ;have I:aw (V (n+2)) (.cons (.fz 3 (.ret (.bi .tuple (.cons (.bi .sorted (.cons (.var 3) .nil)) .nil)))) .nil) (IL (nt cs a) os g u s q o k c b)=aw (V (n+2)) (.cons (.ret (.bi .tuple (.cons (.bi .sorted (.cons (.var 3) .nil)) .nil))) .nil) (mM 3 (IL (nt cs a) os g u s q o k c b)):=rfl;rw[I];refine yS (yT (yT (bQ (d:=.lst (os.map od)) rfl (Fs (by omega) λl pl=>?_))));exact(T.ao _ _ _).mpr (h os l m2 E pl C)
structure B6(k wt:Nat)(d:D):Prop where
 FT:rG d=Mv
 FU:(oM d).showable=Mv
 FV:(oM d).depth<=k
 lv:(oM d).leavesShort 13=Mv
 wt:(oM d).weight<=wt
structure Ll(k wt:Nat)(ds:List D):Prop where
 FT:k8 ds=Mv
 FU:TY (gI ds)=Mv
 FV:PyData.depthAll (gI ds)<=k
 lv:SX 13 (gI ds)=Mv
 wt:Se (gI ds)<=ds.length*(wt+1)
theorem IP{k wt:Nat}:∀{ds:List D},(∀d∈ds,B6 k wt d)->Ll k wt ds
 |[],_=>⟨rfl,rfl,ND _,rfl,by simp[gI,Se]⟩|d::ds,h=>by
  have a:=h d ME;have b:=IP (ds:=ds) λx c=>h x (MH _ c);refine⟨?_,?_,?_,?_,?_⟩;.simp[k8,a.FT,b.FT]
  .simp[gI,TY,a.FU,b.FU]
  .simp only[gI,PyData.depthAll];exact Nat.max_le.mpr ⟨a.FV,b.FV⟩
  .simp[gI,SX,a.lv,b.lv]
  .simp only[gI,Se,Ng,Nat.succ_mul];have:=a.wt;have:=b.wt;omega
theorem Bq{k wt:Nat}{ds:List D}(h:∀d∈ds,B6 k wt d):B6 (k+1) (ds.length*(wt+1)) (.tup ds):=by
 have s:=IP h;exact⟨s.FT,s.FU,Nat.succ_le_succ s.FV,s.lv,s.wt⟩
theorem Fu{i:Int}(h:i.natAbs<10^12):i.natAbs.log2<40:=by
 by_cases e:i.natAbs=0;.rw[e];decide
 .exact(Nat.log2_lt e).mpr (by omega)
theorem j4{i:Int}(h:i.natAbs<10^12):B6 0 40 (.int i):=by
 have l:=Fu h;refine⟨rfl,?_,MO _,?_,?_⟩
 .show decide (i.natAbs.log2<1920)=Mv;exact decide_eq_true (by omega)
 .show decide ((PyData.shown (.int i)).length<=13)=Mv;exact decide_eq_true (PyData.shown_int_le h)
 .show(if i==0 then 0 else i.natAbs.log2+1)<=40;split<;>omega
theorem B6.mono{k b wt a:Nat}{d:D}(h:B6 k wt d)(c:k<=b)(hw:wt<=a):B6 b a d:=⟨h.FT,h.FU,Nv h.FV c,h.lv,Nv h.wt hw⟩
theorem Fv{d:D}(h:B6 8 1000000 d):pX d=Mv:=by
 unfold pX;rw[h.FT,h.FU,decide_eq_true h.FV,decide_eq_true (PyData.shown_fits (by decide) (by decide) h.lv (Nv h.wt (by decide)))];rfl
theorem IQ{a b c d:Int}(ha:a.natAbs<10^12)(hb:b.natAbs<10^12)(f:c.natAbs<10^12)(hd:d.natAbs<10^12):pX (.tup [.int a,.int b,.int c,.int d])=Mv:=by
 refine Fv ((Bq (k:=0) (wt:=40) λx e=>?_).mono (by decide) (by simp));simp only[NC,Nt,or_false]at e;rcases e with rfl|rfl|rfl|rfl;.exact j4 ha
 .exact j4 hb
 .exact j4 f
 .exact j4 hd
theorem uD{d:D}(b:AJ d=Mv)(a:pX d=Mv):lT .repr [d]=.ok (.str (oM d).shown):=by
 show(T.need (AJ d&&pX d)>>=λ_=>T.ok (D.str (oM d).shown))=_;rw[b,a];rfl
theorem uE(s:MR):bq .NotEq (.str s) (.str s)=.ok (.bl Mw):=by
 show(T.get (Mq (s==s))>>=λb=>T.ok (D.bl (!b)))=_;rw[beq_self_eq_true];rfl
theorem Ln{cs:List C3}{c:List Kt}{o:Op}(H:aR cs c)(h:fk c o):∃s,lT .repr [FR cs o]=.ok (.str s):=by
 have W:=H.wl h.w;have b:=W.b1;have l1:=W.l1;have l2:=W.l2;have a1:=h.a;have d:=h.b;have r:-8000000<=(rc cs o).1/\(rc cs o).1<=10000000/\-8000000<=(rc cs o).2/\(rc cs o).2<=10000000:=by
  unfold rc;split<;>simp only<;>omega
 unfold FR;split;.exact⟨_,uD rfl (IQ (by omega) (by omega) (by omega) (by omega))⟩
 .exact⟨_,uD rfl (IQ (by omega) (by omega) (by omega) (by omega))⟩
noncomputable abbrev l8(net:D)(o3 o4 o5 o6 o7:Option W):ag:=[Mu,Mq .feed,Mq (.d net),o3,o4,o5,o6,o7]
theorem B7{v:Ev}{f:BI}{a:Ex}{ρ:ag}{d e:D}(h:ak v a ρ=.ok d)(b:lT f [d]=.ok e):ak v (.bi f (.cons a .nil)) ρ=.ok e:=by
 show((ak v a ρ>>=λd=>T.ok [A.d d])>>=λg=>fi g>>=λc=>lT f c)=_;rw[h];exact b
theorem Fw{v:Ev}{a b:Ex}{ρ:ag}{x y:Bool}(e:aX v a ρ=.ok x)(d:aX v b ρ=.ok y):aX v (.fG a b) ρ=.ok (x&&y):=by
 show(aX v a ρ>>=λc=>if c then aX v b ρ else T.ok Mw)=_;rw[e,ai,d];cases x<;>rfl
theorem IS{v:Ev}{a b:Ex}{ρ:ag}{x y:Bool}(e:aX v a ρ=.ok x)(d:aX v b ρ=.ok y):aX v (.xQ a b) ρ=.ok (x||y):=by
 show(aX v a ρ>>=λc=>if c then T.ok Mv else aX v b ρ)=_;rw[e,ai,d];cases x<;>rfl
theorem uF{v:Ev}{a b:Ex}{o:P0}{ρ:ag}{d e:D}{x:Bool}(g:ak v a ρ=.ok d)(f:ak v b ρ=.ok e)(c:bq o d e=.ok (.bl x)):aX v (.aG o a b) ρ=.ok x:=by
 show(ak v a ρ>>=λd=>ak v b ρ>>=λe=>bq o d e>>=λd=>aZ d)=_;rw[g,ai,f,ai,c];rfl
theorem yZ{v:Ev}{a:Ex}{ρ:ag}{x:Bool}(h:aX v a ρ=.ok x):aX v (.c6 a) ρ=.ok x:=h
theorem Lp{n:Nat}{cs:List C3}{c:List Kt}{o:Op}{o3 o4 o5 o7:Option W}(H:aR cs c)(h:fk c o):aw (V (n+5)) ou (l8 (nt cs c) o3 o4 o5 (Mq (.d (od o))) o7)=.ok (.nx (l8 (nt cs c) o3 o4 o5 (Mq (.d (od o))) o7)):=by
 have W:=H.wl h.w;obtain⟨s,e⟩:=Ln H h;unfold ou;have j:ak (V (n+5)) (.call 15 (.cons (.var 2) (.cons (.idx (.var 6) (.cst (.int 2))) .nil))) (l8 (nt cs c) o3 o4 o5 (Mq (.d (od o))) o7)=.ok (.int (ln cs o.w)):=aH (as:=[.d (nt cs c),.d (kn o.w)]) (by symm_saturate;simp only[At,Cl,ai]) (fW (n:=n+3) H W);have i:ak (V (n+5)) (.op .Add (.idx (.var 6) (.cst (.int 4))) (.idx (.var 6) (.cst (.int 5)))) (l8 (nt cs c) o3 o4 o5 (Mq (.d (od o))) o7)=.ok (.int (o.a+o.b)):=by
  symm_saturate;simp only[At,Cl,ai];symm_saturate
 have g:ak (V (n+5)) (.bi .repr (.cons (.call 3 (.cons (.var 2) (.cons (.var 6) .nil))) .nil)) (l8 (nt cs c) o3 o4 o5 (Mq (.d (od o))) o7)=.ok (.str s):=B7 (aH rfl (vB (n:=n+2) H h)) e;have f:ak (V (n+5)) (.bi .repr (.cons (.call 21 (.cons (.var 2) (.cons (.var 6) .nil))) .nil)) (l8 (nt cs c) o3 o4 o5 (Mq (.d (od o))) o7)=.ok (.str s):=B7 (aH rfl (yH (n:=n+1) H h)) e;rw[fh ((Fw (uF (x:=decide (o.a+o.b<=ln cs o.w)) i j rfl) (yZ (uF g f (uE s)))).trans (by rw[Bool.and_false]))];rfl
theorem y4(cs:List C3)(os:List Op):bq .NotEq (ff cs os) (ff cs os)=.ok (.bl Mw):=by
 unfold ff;cases os.find? λo=>!st cs os o with
 |none=>rfl|some o=>exact uE _
theorem Fy{n m:Nat}{cs:List C3}{a:List Kt}{o3 o4 o5 o6 o7:Option W}{Q:Fl->Nat->Prop}(H:aR cs a)(hw:a≠[])(p:1000<=m)(h:∀o4 o5 o6 o7 f,m<=f+500->Q (.nx (l8 (nt cs a) o3 o4 o5 o6 o7)) f):(aw (V (n+5)) ox (l8 (nt cs a) o3 o4 o5 o6 o7)).wp m Q:=by
 unfold ox;refine bP (jZ rfl (bQ (d:=nt cs a) rfl (Fq (n:=n+2) H hw p λos m1 e b v l=>?_)));have u:ak (V (n+5)) (.call 20 (.cons (.var 2) (.cons (.var 4) .nil))) (l8 (nt cs a) o3 (Mq (.d (fX os))) o5 o6 o7)=.ok (ff cs os):=aH (as:=[.d (nt cs a),.d (fX os)]) rfl ((Bg (n:=n+1) H b (by omega)).trans (by rw[same b l]));show(aw (V (n+5)) se (l8 (nt cs a) o3 (Mq (.d (fX os))) o5 o6 o7)).wp m1 Q;unfold se;refine(congrArg (λt=>T.wp t _ _) (bz u)).mpr ?_;show(aw (V (n+5)) r_ (l8 (nt cs a) o3 (Mq (.d (fX os))) (Mq (.d (ff cs os))) o6 o7)).wp m1 Q;unfold r_;have s:ak (V (n+5)) (.call 7 (.cons (.var 2) (.cons (.var 4) .nil))) (l8 (nt cs a) o3 (Mq (.d (fX os))) (Mq (.d (ff cs os))) o6 o7)=.ok (ff cs os):=aH (as:=[.d (nt cs a),.d (fX os)]) rfl (lR H b);have i:aX (V (n+5)) (.aG .NotEq (.call 7 (.cons (.var 2) (.cons (.var 4) .nil))) (.var 5)) (l8 (nt cs a) o3 (Mq (.d (fX os))) (Mq (.d (ff cs os))) o6 o7)=.ok Mw:=uF s rfl (y4 cs os);rw[fh (IS i (yZ i))];unfold ym;obtain⟨j,r,k,rfl,_⟩:=oF (g:=ek (.nm 6)) (body:=aw (V (n+5)) ou) (λds ρ=>∃o6,ρ=l8 (nt cs a) o3 (Mq (.d (fX os))) (Mq (.d (ff cs os))) o6 o7/\∀d∈ds,∃o,d=od o/\fk a o) (λd ds ρ q=>by
  obtain⟨o6,rfl,g⟩:=q;obtain⟨o,rfl,ok⟩:=g d ME;exact⟨_,_,rfl,Lp H ok,_,rfl,λd hd=>g d (MH _ hd)⟩) (ds:=os.map od) (ρ:=l8 (nt cs a) o3 (Mq (.d (fX os))) (Mq (.d (ff cs os))) o6 o7) ⟨o6,rfl,λd hd=>by
   obtain⟨o,c,rfl⟩:=List.mem_map.mp hd;exact⟨o,rfl,b o c⟩⟩;rw[uw ((iP (ds:=os.map od) rfl).trans r),T.ao];exact h _ _ _ _ m1 e
theorem IT{v:Ev}{i:Nat}{r:Ex}{ρ:ag}{m:Nat}{Q:List A->Nat->Prop}(b:bF ρ i=Mv)(h:(c_ v r ρ).wp m λxs a=>Q (.feed::xs) a):(c_ v (.feed i r) ρ).wp m Q:=by
 show(T.need (bF ρ i)>>=λ_=>c_ v r ρ>>=λxs=>T.ok (A.feed::xs)).wp m Q;rw[b];show(c_ v r ρ>>=λxs=>T.ok (A.feed::xs)).wp m Q;rw[T.wp_bind];exact T.wp_mono (λxs a c=>by rw[T.ao];exact c) h
theorem call_k{n f:Nat}{r:Ex}{ρ:ag}{m:Nat}{Q:D->Nat->Prop}(h:(c_ (V n) r ρ).wp m λas m1=>(aL defs gv n f as).wp m1 Q):(ak (V n) (.call f r) ρ).wp m Q:=by
 show(c_ (V n) r ρ>>=λas=>aL defs gv n f as).wp m Q;rw[T.wp_bind];exact h
theorem B8{v:Ev}{a:Ex}{ρ:ag}(h:ak v a ρ=.ok .bH):ak v (.cmp .Is a (.cst .bH)) ρ=.ok (.bl Mv):=by
 show(ak v a ρ>>=λd=>T.ok D.bH>>=λe=>bq .Is d e)=_;rw[h];rfl
theorem y6{n:Nat}{cs:List C3}{a:List Kt}{i:Nat}{ρ:ag}(H:aR cs a)(c:fx ρ i=Mq (nt cs a)):ak (V (n+5)) (.cmp .Is (.call 7 (.cons (.var i) (.cons (.tup .nil) .nil))) (.cst .bH)) ρ=.ok (.bl Mv):=by
 refine B8 (aH (as:=[.d (nt cs a),.d (fX [])]) ?_ ((lR (n:=n) H (by simp)).trans (by rw[yO (by simp)])));show(T.get (fx ρ i)>>=λd=>((T.need (decide (0<=MA))>>=λ_=>T.ok (D.tup []))>>=λe=>T.ok [A.d e])>>=λb=>T.ok (A.d d::b))=_;rw[c,E9];rfl
inductive LL(net:D)(m:Nat)(ds:List D)(ρ:ag)(m':Nat):Prop|mk(o3 o4 o5 o6 o7:Option W)(eρ:ρ=l8 net o3 o4 o5 o6 o7)(g1:m<=m'+500*(3-ds.length))(g2:ds.length<=3)
theorem IU{n m:Nat}{Q:D->Nat->Prop}(f:2000<=m)(h:∀(cs:List C3)(a:List Kt)b,m<=b+400->aR cs a->Q (nt cs a) b):(ak (V (n+5)) (.call 13 (.feed 1 (.cons (.cst (.int 5)) (.cons (.idx (.lst (.cons (.cst (.int 1)) (.cons (.cst (.int 1)) (.cons (.cst (.int 1000)) .nil)))) (.call 8 (.feed 1 (.cons (.cst (.int 3)) .nil)))) .nil)))) [Mu,Mq .feed,Mu,Mu,Mu,Mu,Mu,Mu]).wp m Q:=by
 refine call_k (IT rfl (c9 (bQ (d:=.int 5) rfl (c9 (sx (n:=n+4) (xs:=[.int 1,.int 1,.int 1000]) (.inl rfl) rfl rfl (by simp) (by simp) (by omega) λd hd=>qK ?_)))));obtain⟨s,rfl,c⟩:∃s:Int,d=.int s/\(s=1\/s=1000):=by
  simp only[NC,Nt,or_false]at hd;rcases hd with rfl|rfl|rfl;.exact⟨_,rfl,.inl rfl⟩
  .exact⟨_,rfl,.inl rfl⟩
  .exact⟨_,rfl,.inr rfl⟩
 exact Iw (n:=n+1) c (by omega) λcs a b g e=>h cs a b (by omega) e
theorem y7{n m:Nat}(C:30000<=m):(aw (V (n+5)) rest [Mu,Mq .feed,Mu,Mu,Mu,Mu,Mu,Mu]).wp m (λw _=>w=.rt (.bl Mv)):=by
 have z:=lU;unfold rest;refine bP (IU (by omega) λcs a m1 v H=>?_);show(aw (V (n+5)) sf (l8 (nt cs a) Mu Mu Mu Mu Mu)).wp m1 _;unfold sf;have c:aX (V (n+5)) (.aG .Eq (.idx (.var 2) (.cst (.int 1))) (.tup .nil)) (l8 (nt cs a) Mu Mu Mu Mu Mu)=.ok (a.isEmpty):=by
  refine uF (d:=.tup (a.map kn)) (e:=.tup []) (by symm_saturate) (by symm_saturate) ?_;unfold bq bM;simp only[cP];cases a<;>rfl
 by_cases hw:a=[];.rw[lQ (by rw[c,hw];rfl) (eE (y6 H rfl)),T.ao]
 .rw[fh (by rw[c];cases a with|nil=>exact absurd rfl hw|cons _ _=>rfl)];unfold yn;refine gp ?_;have x:nc (V (n+5)) (.ef (.cons (.cst (.int 3)) .nil)) (l8 (nt cs a) Mu Mu Mu Mu Mu)=.ok (av 3):=by
   show(T.need (decide (-(2^62)<=(3:Int))&&decide ((3:Int)<=1000000))>>=λ_=>T.ok (av 3))=_;rw[decide_eq_true (by decide),decide_eq_true (by decide)];rfl
  rw[iP x];refine e7 (LL (nt cs a) m1) ?_ ?_ ⟨Mu,Mu,Mu,Mu,Mu,rfl,by simp[av],by simp[av]⟩
  .rintro y F s k⟨i,h,g,f,j,rfl,l,r⟩;simp only[Ng]at l r;rw[si.1,T.ao];show(aw (V (n+5)) ox (l8 (nt cs a) (Mq (.d y)) h g f j)).wp k _;exact Fy H hw (by omega) λh g f j q u=>⟨_,_,_,_,_,rfl,by omega,by omega⟩
  .rintro s k⟨i,h,g,f,j,rfl,l,r⟩;show(aw (V (n+5)) r9 (l8 (nt cs a) i h g f j)).wp k _;unfold r9;refine bP (call_k (IT rfl (c9 (bQ (d:=nt cs a) rfl (c9 (bQ (d:=.int 40) rfl (qK ?_)))))));refine sC (n:=n+2) H (by simp at l;omega) λos b q S p E=>?_;show(aw (V (n+5)) r8 (l8 (nt cs a) i h g f (Mq (.d (fX b))))).wp q _;unfold r8;have B:ak (V (n+5)) (.cmp .Is (.call 7 (.cons (.var 2) (.cons (.var 7) .nil))) (.cst .bH)) (l8 (nt cs a) i h g f (Mq (.d (fX b))))=.ok (.bl Mv):=B8 (aH (as:=[.d (nt cs a),.d (fX b)]) rfl ((lR (n:=n) H λo t=>S.ok o (p.subset t)).trans (by rw[yO (S.st p)])));have A:ak (V (n+5)) (.and (.cmp .Is (.call 7 (.cons (.var 2) (.cons (.var 7) .nil))) (.cst .bH)) (.one (.cmp .Is (.call 7 (.cons (.var 2) (.cons (.tup .nil) .nil))) (.cst .bH)))) (l8 (nt cs a) i h g f (Mq (.d (fX b))))=.ok (.bl Mv):=by
    show(ak (V (n+5)) (.cmp .Is (.call 7 (.cons (.var 2) (.cons (.var 7) .nil))) (.cst .bH)) _>>=λd=>aZ d>>=λc=>if c then ak (V (n+5)) (.cmp .Is (.call 7 (.cons (.var 2) (.cons (.tup .nil) .nil))) (.cst .bH)) _ else T.ok (D.bl Mw))=_;rw[B,y6 H rfl];rfl
   rw[eE A,T.ao]
theorem whole:(aw (gv.ev (aI defs gv 39)) rest (Mu::Mq .feed::NY (sh.length-2) Mu)).md 1000000 (λa=>a=.rt (.bl Mv)):=T.oA (y7 (n:=34) (m:=1000000) (by decide))
end K41
end
open PySem PySem.W PyProof.Rows
theorem PySem.Challenge.cw_wallplan_k41_openings_that_stand_holds : PySem.Challenge.rw_wallplan_k41_openings_that_stand.Holds := by
 refine head (L2.zt (l:=OQ) (n:=63) (k:=40) (x:=Mr "_law_script") (K:=head.heap_39) (CX:=λ_=>L2.qL) (sp:=λw=>L2.yk (head.heap_39 w.params)) rfl (by decide) rfl ⟨rfl,by decide,by decide,rfl⟩ (λw h Y=>PySem.W.kIn_of Y) ?F ?S ?C)
 case F=>
  intro w mg m h p G b
  obtain ⟨f,fd,j,i,g⟩:=K41.Ip K41.whole w.params
  have e:mg (Mr "law")=Mq (.ref f):=QX p G j
  have o:(Mq (M8 f):Option Mt)=Mq (.ref m):=e.symm.trans b
  cases o
  exact ⟨fd,λs u=>.of_eq (i [u] rfl),λbase X G=>g rfl X G⟩
 case S=>exact λw H a ns c _ d=>⟨a,ns,rfl,d,c,λ_=>rfl⟩
 case C=>exact λ_ _ _ _ _ z=>z
