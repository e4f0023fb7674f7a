import PyProof.Rows.All
import Wide.All
import OpenK.AllK
import Wide.FinOn
import Lean
import PyProof.EqAt
import PyProof.EqKinds
import PyProof.TupleCall
import PyProof.NeKinds
import PyProof.ZipIter
import PyProof.EnumMake
import PyProof.InstStoreFacts
import Open.Row
import KE.KDictOf
import PyProof.AttrMissHeap
import PyProof.ListRange
import PyProof.Rows.IntBool
import PyProof.Rows.ListMul
import PyProof.SliceStr2
import PyProof.StrBlockI
import PyProof.StrWalks
import PySem.Challenge.RW_wallplan_k40_openings_made
set_option Elab.async false
set_option linter.all false
set_option maxRecDepth 100000
set_option maxHeartbeats 0
local macro_rules | `(tactic| omega) => `(tactic| lia)

open Option renaming some->KJ,none->KP,map_some->Mt,map_eq_some_iff->OQ,getD_none->P_,getD_some->Qd,isSome_some->RO
open PySem renaming wpAny_bind->KL,Value->KO,wpAny_pure->KS,Shared->KW,Addr->KY,sizeLine->KZ,model->K7,Expr->K_,Program->Le,starEach->Lg,Str->Li,Heap->Lx,World->Ly,compareOp->LA,Around->LC,wpAny_newObj_type->LH,wpAny_holding->LK,wpAny_callSpecial?_slot->LM,wpAny_field->LO,wpAny_call_entry->LQ,mainGlobals->LU,cLine->L9,assignEach->Ma,Obj->Mc,wpAny_seqItems->Me,wpAny_truthy_bool->Ml,FuncData->Mo,sysModules->Mx,mem_of_lookup->My,Pos->MB,bootBuiltins->MD,wpAny_mono->ML,Scope->MT,Stmt->MU,eval->MW,wpAny_Call_Name_kw->MX,wpAny_setField_rec->MY,swappedStores->MZ,wpAny_typeNameOfWhole_keyiter->M2,sizeLine->M3,cellsFrom->Ni,wpAny_rule->Nj,binaryOp->Nk,NameKind->Nn,wpAny_passesOwn->Nv,foldedSetIterable->Nx,wpAny_typeNameOf_keyiter->NF,wpAny_isInstance->NM,backTo->NQ,wpAny_specialOf->NY,swapsWith->N0,behindInMarks->N1,wpAny_attempt->N3,pyNext->N4,sizeLine_eq->N8,wpAny_forIn_list->Ob,wpAny_typeOf->Oc,pushCells->Oe,IsPair->Oj,wpAny_standAt->Om,CmpOp->Oo,attributeBase->Ot,ZipApart->Ov,letOwnedTupleGo->Oy,sliceBounds->OF,DictEntry->OG,rawInt->OJ,getItem->ON,wpAny_pyIter_list->OP,isSubtype_tuple_tuple->OV,wpAny_updateSeq_pair->O7,wpAny_execs_nil->O_,IsPart->Pa,wpAny_tupleItemsOf->Pr,wpAny_setField->Pu,firstArgMember->Pw,Sem->Py,wpAny_sequenceKey->PJ,wpAny_dictEntries->PM,unsupported->PR,assign->PX,assignInOrder->PY,swapsWithSole->PZ,Params->P0,wpAny_onRaise->P1,PassesOwn->P5,Arguments->P7,noFill_tuple_add->P8,builtinsNs->Ql,holding->Qm,rule->Qn,wpAny_pyNext_list_item->Qo,codeAny_mono->Qp,call->Qu,wpAny_Assign_Subscript->Qx,wpAny_loadPart'->QM,pushCells_keeps->QN,wpAny_dictEpoch->QP,field->QQ,codeAny_builtin->QV,wpAny_pyNext_list_end->QY,wpAny_notOrdered_dict->Q1,wpAny_isOneOf_keyiter->Q4,builtinLookup_eq_fast->Q6,Env->Q8,Operator->Ra,isSubtype_stop->Ri,wpAny_pyIter_keyiter->Rj,wpAny_newTuple->Rk,boot_len->Rn,standAt->Rp,lastMarks->Rr,seqIndex?->Rt,valueAt->Ru,callerA->Rv,seq_tuple_add->Rz,evalPart_none->RC,Comprehension->RE,isTrue->RI,call_meets->RN,wpAny_eqBool_tuple->RP,isInstance->RQ,wpAny_pyIter_tuple->RR,getattributeRaised->RU,bindArgs->R0,concat_meets->R1,seqIndex_neg->R3,eqIsQuiet_byValue->R5,pyIter->Sg,eqIsQuiet->Sh,Model->Si,seqIndex_of->Sj,subscripted->Sk,IsZip->Sm,wpAny_letGo->Sn,loadIfAlive->Sr,storedH->Ss,entryOfKey->Sv,wpAny_Name->Sw,bindName->Sx,bindL->Sy,bindC->Sz,typeLookup->SA,typeIs_str->SF,closureFor->SG,compTurn->SH,Tok->SN,spliced->SO,BindsTo->SQ,typeOf->SR,relabel->SS,collect->SU,again->SV,atKey->SW,fresh->SX
open PySem.Str renaming ofString->KN,length->SE
open Bool renaming true->KQ,false->KR,and_eq_true->K0,false_eq_true->Lc,false_ne_true->Ld,not_true->LW,or_eq_true->Mf,eq_iff_iff->MF,not_eq_true'->M4,true_and->NH,or_false->N2,not_false->Pt,false_and->Q_
open PySem.Heap renaming get?_push_of_some->KU,lt_size->K8,get?_push_size->Lb,size_push->Mq,SameBut->Mu,get?_update_self->OU,ExtBut->O6,get?_update_other->Qt
open Option.some renaming inj->K1,injEq->N6
open PySem.W renaming Frag->K2,kia_one->L8,kitOne->Nl,keepIn->N9,nsIn->Og,cellsFrom_some->OK,codeIn->OL,mg_of->O3,methodObj->PC,kitx_list->PF,fnOf->Qr,instObj->QJ,lookIn->Rb,kitx_tuple->RJ,mg_none_of->RW,kitx_dict->RZ
open PyProof.Rows renaming wpS_bind->K3,wpS_pure->K9,pendingOf->Lf,Keyed->Lk,SortSt->Lr,slot_tuple_getitem->L7,callWith_type1->Mm,elem'->MO,SortKind->Nc,arrOf->Nd,IntsAre->Ny,wpS_modify->NV,seqObj->Oi,wpS_get->OR,wpS_mono->O8,assignInOrder_cons->Pl,slicePart_none->Po,args_tuple_getitem->Pp,AllBare->PD,envOfC->Qq,subscriptTail_builtinR->Qs,boot_list->Qy,IsTup->QH,get?_update_seq->QR,wpS->Q9,failedOf->Rl,tupleItemsOf_->RA,subscriptTail->RD,listUpdate_at->RF,assignInOrder_nil->RY,seqEpoch_at->So,Subscript_->SD,gallopOf->SJ
open List renaming mem_cons_of_mem->K4,mem_cons_self->K5,size_toArray->K6,mem_append_right->Lj,map_cons->Ll,getElem?_eq_getElem->Lp,length_map->Lv,getElem?_map->Lw,append_assoc->LB,map_map->LD,append_nil->LF,lookup_cons->LJ,getElem?_append_right->LN,length_cons->LP,mem_of_getElem?->LV,map_congr_left->LY,getElem?_append_left->L3,range->L4,length_append->L5,take_of_length_le->Mb,length_nil->Md,all_eq_true->Mh,getElem?_set->Mn,replicate->Mp,mem_cons->MA,zip_cons_cons->MI,not_mem_nil->MK,extract_eq_drop_take->MS,length_replicate->MV,mem_append_left->M0,getElem?_set_ne->M1,map_append->M7,nodup_cons->M9,filterMap_cons->M_,getElem?_set_self->Nf,map_nil->Nh,perm_append_comm->Nr,drop_eq_getElem_cons->Nu,any_cons->ND,all_cons->NG,getElem?_replicate->NL,forIn_nil->NN,find?_cons->NX,forIn_cons->NZ,take_append_drop->N5,mem_of_mem_eraseIdx->Ox,length->OD,reverse_perm->OT,length_filter_le->OW,length_take->OX,getElem_mem->OZ,length_range->PN,nodup_append->PV,length_drop->P9,drop_length->Qe,zipIdx_cons->Qf,eraseIdx_cons_succ->Qk,map_id'->QB,pairwise_lt_range->QF,of_mem_zip->QL,map_id->Rm,mem_map_of_mem->Ry,zip_nil_right->RL,ext_getElem?->R8,getElem?_inj->R9,pairwise_map->Sb,lookup->Sl
open Nat renaming le_refl->La,lt_of_lt_of_le->Lh,ne_of_lt->Lu,lt_irrefl->LX,le_trans->L_,zero_le->Mr,ne_of_gt->Ng,eq_of_beq_eq_true->Nt,le_of_eq->Od,lt_of_le_of_lt->Oz,add_assoc->O1,reduceAdd->O4,le_of_lt->Pf,le_succ->PK,lt_succ_of_lt->PL,lt_succ_self->Qb,le_add_right->Qg,add_sub_cancel_left->Qh,lt_trans->R4,beq->Su
open PySem.Value renaming ref->Ln,none->MH,bool->N7,int->Ro,str->Sf
open PySem.Builtin.SmallTypes renaming nextOf->Lq,ownedTupleIsFree->Lz,ownedTupleHandOut->Ol
open List.Perm renaming append_left->LR,trans->MG,of_eq->Nw,append_right->NW
open Ne renaming symm->LS
open Array renaming toList_append->LZ,length_toList->Mi,getElem?_toList->Mj,getElem?_eq_getElem->Mw,perm_iff_toList_perm->MP,toList_push->MQ,size_push->M8,toList_extract->NA,size_append->NB,forIn_toList->NR,getElem?_eq_none->NS,mem_toList_iff->N_,toList_reverse->Oa,toList_setIfInBounds->Px,toList_map->Qi,toList_modify->Rx,size_extract->RT,toList->RX
open PySem.Builtin.Tuple renaming tupleExact->L6,tupleHashOf->Mv,tupleItemsOf->Nq
open PySem.NameKind renaming cell->Mg,free->Ms
open PySem.F renaming slot_zip_next->Mk,slot_tuple_iterator_next->MN,slot_dict_keyiterator_next->M6,args_zip_next_1->NO,plainAttrs_list->NP,entry_zip_next->NU,args_tuple_add_2->Oq,args_tuple_iterator_next_1->OB,entry_tuple_add->OE,entry_tuple_iterator_next->OI,slot_tuple_add->OM,args_dict_keyiterator_next_1->OY,entry_dict_keyiterator_next->O5,slot_list_append->P2,slot_list_extend->P4,slot_tuple_hash->Qa,slot_tuple_eq->QZ
open PySem.Txt renaming lower->Mz,slice->MJ,contains->Of,isalpha->OH,slice_le->Ph
open ForInStep renaming yield->ME,done->OS
open False renaming elim->MM
open PySem.Builtin.Slice renaming slicePlaces->MR,sliceApplied->Np,sliceAdjust->Oh,sliceFields->Pz
open PySem.Obj renaming mapSeq->M5,data_mapFields->OA,isFreed_of_fields->Q5,cls_mapFields->R6
open PySem.Heap.SameBut renaming update->Na,refl->Sa
open Int renaming toNat_natCast->Nz,emod_lt_of_pos->OC,emod_nonneg->Pd,le_refl->PQ
open PySem.SeqAt renaming EqAt->NC,RcNeAt->Pg,RcAt->Qw
open PySem.Challenge renaming rw_wallplan_k40_openings_made->NI
open Function renaming comp_apply->NJ,comp_def->Se
open PySem.Builtin.List renaming listTooLong->Ou
open List.Pairwise renaming imp_of_mem->Ow,map->PU
open Or renaming inl->OO,inr->Pq
open Sum renaming inl->O0,inr->PB
open Prod.mk renaming injEq->O2
open PySem.Around renaming under_plainId->O9
open List.cons renaming injEq->Pb
open PySem.Builtin.Dict_items renaming ownsTuple->Pc
open PySem.W.Frag renaming In->Pe
open Prod renaming ext_iff->Pj
open PySem.Calls renaming Name_function_global->Pk,spliced_cons->Pn,spliced_nil->PH,call_len_list->Rw
open True renaming intro->Pm
open PySem.Builtin.Range renaming rangeSize->P6
open PySem.Builtin.Dict renaming updateFrom->Qj,pairItems->Qz,showsAll->Q3
open PySem.Unicode renaming isAlpha->QX
open PySem.SeqAt.EqAt renaming int_tuple->Rc,str_tuple->Rf,tuple_int->Rg,tuple_str->Rh,int_str->RG,str_int->RH,int_int->RK
open PyProof.Rows.IsTup renaming new->Rq
open PySem.Heap.IsSliceOf renaming new->RM
open PyProof.Rows.SortSt renaming mk'->RS
open PySem.Code renaming quiet_builtin->RV
open PySem.PyData renaming hasDictAll->R_
open PySem.Env renaming kindOf->SK
section
namespace PySem.W.Fast
noncomputable def te13052408679150730464:=0
noncomputable def te16555476440528808052:=0
noncomputable def te5452508617037859911:=0
noncomputable def te4868988410673395695:=0
end PySem.W.Fast
open PySem PySem.W PyProof.Rows
open_top head for PySem.Challenge.rw_wallplan_k40_openings_made
end
section
namespace L2
open PySem PySem.Spec PyProof.Rows
abbrev Key:=Sum Int Li
noncomputable def kY:Key->KO->Bool
 |.inl k,v=>Value.isInt k v|.inr x,v=>Value.isStrOf x v
noncomputable def Hj(w:Ly):Key->Int
 |.inl k=>hashInt k|.inr x=>hashStr w x
theorem aI:∀{k:Key}{v:KO},kY k v=KQ->(∃i t,k=O0 i/\v=Ro i t)\/(∃x t,k=PB x/\v=Sf x t)
 |.inl i,v,h=>by
  obtain⟨t,e⟩:=Value.isInt_shape (k:=i) (v:=v) h;exact .inl ⟨i,t,rfl,e⟩|.inr x,v,h=>by
  obtain⟨t,e⟩:=Value.isStrOf_shape (x:=x) (v:=v) h;exact .inr ⟨x,t,rfl,e⟩
theorem sC(i:Int)(t:SN):kY (.inl i) (.int i t)=KQ:=by simp[kY,Value.isInt]
theorem sD(x:Li)(t:SN):kY (.inr x) (.str x t)=KQ:=by simp[kY,Value.isStrOf]
theorem Ag(a b:Int):decide ((O0 a:Key)=O0 b)=(a==b):=by
 by_cases e:a=b;.subst e;simp
 .have h:¬(O0 a:Key)=O0 b:=λq=>e (Sum.inl.inj q);rw[decide_eq_false h];exact(beq_eq_false_iff_ne.mpr e).symm
theorem Ah(a b:Li):decide ((PB a:Key)=PB b)=decide (a=b):=by
 by_cases e:a=b;.subst e;simp
 .have h:¬(PB a:Key)=PB b:=λq=>e (Sum.inr.inj q);rw[decide_eq_false h,decide_eq_false e]
theorem Ai(a:Int)(b:Li):decide ((O0 a:Key)=PB b)=KR:=decide_eq_false (λq=>nomatch q)
theorem Aj(a:Li)(b:Int):decide ((PB a:Key)=O0 b)=KR:=decide_eq_false (λq=>nomatch q)
noncomputable def ar(prog:Le)(w:Ly):PySem.KeyKind prog w Key where
 is:=kY;hash:=Hj w;inj:=λv a b ha hb=>by
  rcases aI ha with⟨i,t,rfl,rfl⟩|⟨x,t,rfl,rfl⟩
  .rcases aI hb with⟨j,u,rfl,e⟩|⟨y,u,rfl,e⟩;.injection e with c _;rw[c]
   .exact nomatch e
  .rcases aI hb with⟨j,u,rfl,e⟩|⟨y,u,rfl,e⟩;.exact nomatch e
   .injection e with c _;rw[c]
 byValue:=λk v h=>by rcases aI h with⟨i,t,rfl,rfl⟩|⟨x,t,rfl,rfl⟩<;>rfl
 pyHash:=λd h=>by
  rcases aI d with⟨i,t,rfl,rfl⟩|⟨x,t,rfl,rfl⟩;.exact wpAny_pyHash_int h
  .exact wpAny_pyHash_str h
 eqBool:=λhu d h=>by
  rcases aI hu with⟨i,t,rfl,rfl⟩|⟨x,t,rfl,rfl⟩
  .rcases aI d with⟨j,u,rfl,rfl⟩|⟨y,u,rfl,rfl⟩;.rw[Ag]at h;exact wpAny_eqBool_int h
   .rw[Ai]at h;exact RG i t y u _ _ _ _ h
  .rcases aI d with⟨j,u,rfl,rfl⟩|⟨y,u,rfl,rfl⟩;.rw[Aj]at h;exact RH x t j u _ _ _ _ h
   .rw[Ah]at h;exact wpAny_eqBool_str h
 «strs»:=λk x t v h=>by
  rcases aI h with⟨i,u,rfl,e⟩|⟨y,u,rfl,e⟩;.exact nomatch e
  .injection e with c _;subst c;cases v<;>rfl
theorem iJ(prog:Le)(w:Ly)(i:Int)(t:SN):(ar prog w).is (.inl i) (.int i t)=KQ:=sC i t
theorem nr(prog:Le)(w:Ly)(x:Li)(t:SN):(ar prog w).is (.inr x) (.str x t)=KQ:=sD x t
end L2
namespace L2
open PySem PySem.Spec PyProof.Rows
inductive V where|bx|bl(b:Bool)|int(i:Int)|str(x:Li)|Ak(b:Array UInt8)|Dw(b:UInt64)|ref(a:KY)|ty(n:String)deriving DecidableEq
noncomputable def RelV:V->KO->Prop
 |.bx,u=>u=MH|.bl b,u=>u=N7 b|.int i,u=>∃t,u=Ro i t|.str x,u=>∃t,u=Sf x t|.Ak b,u=>∃t,u=Value.bytes b t|.Dw b,u=>∃t,u=Value.float b t|.ref a,u=>u=Ln a|.ty n,u=>u=Value.type n
noncomputable abbrev aq:List V->List KO->Prop:=Paired RelV
theorem aq.length{xs:List V}{us:List KO}(r:aq xs us):xs.length=us.length:=Paired.length r
theorem aq.get:∀{xs:List V}{us:List KO}{i:Nat}{x:V},aq xs us->xs[i]?=KJ x->∃u,us[i]?=KJ u/\RelV x u
 |_,_,_,_,.nil,e=>by simp at e|_,_,0,_,.cons r _,e=>by simp at e;subst e;exact⟨_,rfl,r⟩|_,_,i+1,x,.cons _ t,e=>by
  obtain⟨u,b,a⟩:=aq.get (i:=i) (x:=x) t (by simpa using e);exact⟨u,by simpa using b,a⟩
theorem aq.set{x:V}{u:KO}(r:RelV x u):∀{xs:List V}{us:List KO}(i:Nat),aq xs us->aq (xs.set i x) (us.set i u)
 |_,_,_,.nil=>.nil|_,_,0,.cons _ t=>.cons r t|_,_,i+1,.cons q t=>.cons q (aq.set r i t)
theorem aq.append:∀{xs ys:List V}{us ws:List KO},aq xs us->aq ys ws->aq (xs++ys) (us++ws)
 |_,_,_,_,.nil,s=>s|_,_,_,_,.cons r t,s=>.cons r (aq.append t s)
theorem aq.take:∀{xs:List V}{us:List KO}(n:Nat),aq xs us->aq (xs.take n) (us.take n)
 |_,_,0,_=>.nil|_,_,_+1,.nil=>.nil|_,_,n+1,.cons r t=>.cons r (aq.take n t)
theorem aq.drop:∀{xs:List V}{us:List KO}(n:Nat),aq xs us->aq (xs.drop n) (us.drop n)
 |_,_,0,r=>r|_,_,_+1,.nil=>.nil|_,_,n+1,.cons _ t=>aq.drop n t
noncomputable def ma:Option V->Option KO->Prop
 |some v,KJ u=>RelV v u|none,KP=>True|_,_=>False
noncomputable def KV{a:Type}:List (a×V)->List (a×KO)->Prop:=Paired λ(p:a×V)(q:a×KO)=>p.1=q.1/\RelV p.2 q.2
noncomputable def kV:Key->V
 |.inl i=>.int i|.inr x=>.str x
inductive HO where|lst(xs:List V)|tup(xs:List V)|dK(kvs:List (Key×V))|dT(kvs:List (List Key×V))|set(S:Int->Bool)(n:Nat)|ins(C dx:KY)(fs:List (Li×V))|own(x:KY)|xd(fs:List (Li×V))|met(f x:KY)|Hk(lo hi:Int)|b6(o:Mc)(u:HO)|tW(ps:Array KO)|ext(φ:Lx->Prop)
abbrev Hp:=KY->Option HO
noncomputable def upd(H:Hp)(a:KY)(o:HO):Hp:=λb=>if b=a then KJ o else H b
theorem ai{H:Hp}{a:KY}{o:HO}:upd H a o a=KJ o:=by unfold upd;rw[if_pos rfl]
theorem af{H:Hp}{a b:KY}{o:HO}(h:b≠a):upd H a o b=H b:=by unfold upd;rw[if_neg h]
theorem cf{H:Hp}{a:KY}{o u:HO}:upd (upd H a o) a u=upd H a u:=by funext b;unfold upd;split<;>rfl
theorem aA{H:Hp}{a b:KY}{o:HO}(h:H a=KJ o)(h':H b=KP):a≠b:=by intro e;subst e;rw[h]at h';cases h'
section
variable(P:Le)(w:Ly)
noncomputable def bo(H:Hp)(h:Lx)(a:KY):HO->Prop
 |.lst d=>d.length<=KZ/\∃(c:List KO)(n:Nat),aq d c/\h.get? a=KJ {cls:=.type "list",data:=.seq c.toArray n}|.tup d=>d.length<=KZ/\∃c:List KO,aq d c/\QH h a c.toArray|.dK b=>b.length<=KZ/\(a==Mx)=KR/\∃j,KV b j/\h.DictOf (ar P w) a j|.dT b=>b.length<=KZ/\(a==Mx)=KR/\∃d:List (List Key×KY×KO),Paired (λ(p:List Key×V)(q:List Key×KY×KO)=>p.1=q.1/\H q.2.1=KJ (.tup (p.1.map kV))/\RelV p.2 q.2.2) b d/\∃o m s,h.get? a=KJ o/\o.ExactDict/\o.data=.dict m s/\m.toList=d.map (Sv (tupleKind (ar P w)))/\(d.map (·.1)).Nodup|.set S n=>h.SetOf (intKind P w) a S n|.ins C g fs=>H g=KJ (.own a)/\fs.length<=1000/\g≠a/\h.get? a=KJ (QJ C g)/\∃e,h.Ns1 g e/\(∀f,ma (fs.lookup f) (e f))/\PySem.Within e (fs.map (·.1))|.own _=>∃o,h.get? a=KJ o|.xd fs=>∃e,h.Ns1 a e/\∀f,ma (fs.lookup f) (e f)|.Hk lo r=>∃t u v,h.get? a=KJ {cls:=.type "range",data:=.fields #[.int lo t,.int r u,.int 1 v]}|.b6 o u=>h.get? a=KJ o/\bo H h a u|.tW ps=>h.get? a=KJ {cls:=.none,data:=.fields ps}|.met f x=>h.get? a=KJ (PC (.ref f) (.ref x))|.ext i=>i h/\(∃o,h.get? a=KJ o)/\∀l k:Lx,i l->(∀o,l.get? a=KJ o->k.get? a=KJ o)->i k
noncomputable def iK(H:Hp)(h:Lx):Prop:=∀a o,H a=KJ o->bo P w H h a o
end
section
variable{P:Le}{w:Ly}{H H':Hp}{h h':Lx}{a:KY}{o:HO}
theorem bo.lt(x:bo P w H h a o):a<h.objs.size:=by cases o with
 |lst c=>obtain⟨_,_,_,_,e⟩:=x;exact K8 e|tup c=>obtain⟨_,_,_,p⟩:=x;exact p.lt|dK b=>obtain⟨_,_,_,_,o,_,_,e,_⟩:=x;exact K8 e|dT b=>obtain⟨_,_,_,_,o,_,_,e,_⟩:=x;exact K8 e|set S n=>obtain⟨o,_,_,_,e,_⟩:=x;exact K8 e|ins C i fs=>obtain⟨_,_,_,e,_⟩:=x;exact K8 e|own y=>obtain⟨_,e⟩:=x;exact K8 e|xd fs=>obtain⟨_,⟨_,_,_,e,_⟩,_⟩:=x;exact K8 e|Hk lo g=>obtain⟨_,_,_,e⟩:=x;exact K8 e|b6 ob u=>obtain⟨e,_⟩:=x;exact K8 e|tW ps=>exact K8 (show h.get? a=KJ _ from x)|met f y=>exact K8 (show h.get? a=KJ _ from x)|ext d=>obtain⟨_,⟨_,e⟩,_⟩:=x;exact K8 e
theorem Paired.Al{g e:Type}{F G:g->e->Prop}:∀{d:List g}{c:List e},Paired F d c->(∀a b,F a b->G a b)->Paired G d c
 |_,_,.nil,_=>.nil|_,_,.cons r t,f=>.cons (f _ _ r) (Paired.Al t f)
theorem bo.dW(x:bo P w H h a o)(k:∀b u,(b=a\/H b=KJ (.own a))->h.get? b=KJ u->h'.get? b=KJ u)(E:∀b,H b=KJ (.own a)->H' b=KJ (.own a))(D:∀b xs,H b=KJ (.tup xs)->H' b=KJ (.tup xs)):bo P w H' h' a o:=by induction o with
 |lst xs=>obtain⟨z,j,n,r,e⟩:=x;exact⟨z,j,n,r,k _ _ (.inl rfl) e⟩|tup xs=>obtain⟨z,j,r,ob,e,c⟩:=x;exact⟨z,j,r,ob,k _ _ (.inl rfl) e,c⟩|dK s=>obtain⟨z,y,A,r,ob,g,i,e,c⟩:=x;exact⟨z,y,A,r,ob,g,i,k _ _ (.inl rfl) e,c⟩|dT s=>
  obtain⟨z,y,xs,r,ob,g,i,e,c⟩:=x;exact⟨z,y,xs,Paired.Al r λp q z=>⟨z.1,D _ _ z.2.1,z.2.2⟩,ob,g,i,k _ _ (.inl rfl) e,c⟩|set S n=>obtain⟨ob,g,i,t,e,c⟩:=x;exact⟨ob,g,i,t,k _ _ (.inl rfl) e,c⟩|ins C J fs=>
  obtain⟨d,z,ne,e,m,⟨l,g,i,F,c⟩,r⟩:=x;exact⟨E _ d,z,ne,k _ _ (.inl rfl) e,m,⟨l,g,i,k _ _ (.inr d) F,c⟩,r⟩|own y=>obtain⟨ob,e⟩:=x;exact⟨ob,k _ _ (.inl rfl) e⟩|xd fs=>obtain⟨m,⟨l,g,i,e,c⟩,r⟩:=x;exact⟨m,⟨l,g,i,k _ _ (.inl rfl) e,c⟩,r⟩|Hk lo I=>obtain⟨t,u,v,e⟩:=x;exact⟨t,u,v,k _ _ (.inl rfl) e⟩|b6 ob u B=>obtain⟨e,q⟩:=x;exact⟨k _ _ (.inl rfl) e,B q⟩|tW ps=>
  have e:h.get? a=KJ {cls:=.none,data:=.fields ps}:=x;show h'.get? a=KJ {cls:=.none,data:=.fields ps};exact k a _ (.inl rfl) e|met f y=>
  have e:h.get? a=KJ (PC (.ref f) (.ref y)):=x;show h'.get? a=KJ (PC (.ref f) (.ref y));exact k a _ (.inl rfl) e|ext G=>obtain⟨p,⟨o,e⟩,st⟩:=x;exact⟨st _ _ p λo q=>k _ _ (.inl rfl) q,⟨o,k _ _ (.inl rfl) e⟩,st⟩
theorem iK.lt(x:iK P w H h)(e:H a=KJ o):a<h.objs.size:=(x a o e).lt
theorem iK.fresh(x:iK P w H h)(e:h.objs.size<=a):H a=KP:=by cases q:H a with
 |none=>rfl|some u=>exact absurd (Lh (x.lt q) e) (LX _)
theorem iK.kept(x:iK P w H h)(k:∀b u,h.get? b=KJ u->h'.get? b=KJ u):iK P w H h':=λa o e=>(x a o e).dW (λb u _ q=>k b u q) (λ_ q=>q) λ_ _ q=>q
theorem iK.laid(x:iK P w H h)(k:∀b u,h.get? b=KJ u->h'.get? b=KJ u)(f:h.objs.size<=a)(new:bo P w (upd H a o) h' a o):iK P w (upd H a o) h':=λb u e=>by
 have d:=x.fresh f;by_cases hb:b=a;.subst hb;rw[ai]at e;cases e;exact new
 .rw[af hb]at e;exact(x b u e).dW (λc v _ q=>k c v q) (λc q=>by rw[af (aA q d)];exact q) λc g q=>by rw[af (aA q d)];exact q
end
noncomputable def Rd(H:Hp)(a:KY)(u:HO):Prop:=H a=KJ u\/∃o,H a=KJ (.b6 o u)
theorem Rd.ok{P:Le}{w:Ly}{H:Hp}{h:Lx}{a:KY}{u:HO}(r:Rd H a u)(x:iK P w H h):bo P w H h a u:=by
 rcases r with r|⟨o,r⟩;.exact x a u r
 .obtain⟨_,q⟩:=x a _ r;exact q
noncomputable def GC:Option HO->Prop
 |some (.lst _)=>True|some (.dK _)=>True|some (.dT _)=>True|some (.set _ _)=>True|some (.ins _ _ _)=>True|some (.ext _)=>True|_=>False
section
variable{P:Le}{w:Ly}{H:Hp}{h h':Lx}{x e:KY}{o':HO}
theorem iK.write(ok:iK P w H h)(i:GC (H x))(n:e=x\/H e=KJ (.own x))(k:∀b u,b≠e->h.get? b=KJ u->h'.get? b=KJ u)(l:∃u,h'.get? e=KJ u)(new:bo P w (upd H x o') h' x o'):iK P w (upd H x o') h':=λb u q=>by
 have d:∀c y,H c=KJ (.own y)->c≠x:=λc y r z=>by subst z;rw[r]at i;exact i
 have f:∀c g,H c=KJ (.tup g)->c≠x:=λc g r z=>by subst z;rw[r]at i;exact i
 by_cases hb:b=x;.subst hb;rw[ai]at q;cases q;exact new
 .rw[af hb]at q;by_cases a:b=e
  .have m:H b=KJ (.own x):=by
    rcases n with z|z;.exact absurd (a.trans z) hb
    .rw[a];exact z
   rw[q]at m;cases m;obtain⟨v,o⟩:=l;exact⟨v,by rw[a];exact o⟩
  .refine(ok b u q).dW (λc v j r=>k c v ?_ r) (λc r=>by rw[af (d c b r)];exact r) λc g r=>by rw[af (f c g r)];exact r
   rcases j with rfl|j;.exact a
   .rintro rfl;rcases n with z|z;.exact d c b j z
    .rw[j]at z;cases z;exact hb rfl
end
structure Un(fs ex:List KY)(H H':Hp)(h h':Lx):Prop where
 keep:∀b o,h.get? b=KJ o->H b=KP->b∉fs->b∉ex->h'.get? b=KJ o
 slot:∀b o,h.get? b=KJ o->H b=KP->b∈fs->b∉ex->∃sl,h'.get? b=KJ {o with slots:=sl}free:∀b o,h.get? b=KJ o->H b=KP->b∉ex->H' b=KP
 there:∀b o,h.get? b=KJ o->b∉ex->∃o',h'.get? b=KJ o'
 iZ:∀b xs,H b=KJ (.tup xs)->H' b=KJ (.tup xs)gY:∀b o u,H b=KJ (.b6 o u)->H' b=KJ (.b6 o u)i5:∀b ps,H b=KJ (.tW ps)->∃more,H' b=KJ (.tW (ps++more))
section
variable{fs fs' ex ex':List KY}{H H1 H2:Hp}{h h1 h2 h':Lx}{a x e:KY}{o:HO}
theorem Un.any(u:Un fs ex H H1 h h1){b:KY}{ob:Mc}(q:h.get? b=KJ ob)(n:H b=KP)(c:b∉ex):∃d,h1.get? b=KJ {ob with slots:=d}:=by
 by_cases hb:b∈fs;.exact u.slot b ob q n hb c
 .exact⟨ob.slots,u.keep b ob q n hb c⟩
theorem Un.kept(k:∀b u,h.get? b=KJ u->h'.get? b=KJ u):Un fs ex H H h h':=⟨λb ob q _ _ _=>k b ob q,λb ob q _ _ _=>⟨ob.slots,k b ob q⟩,λ_ _ _ n _=>n,λb ob q _=>⟨ob,k b ob q⟩,λ_ _ q=>q,λ_ _ _ q=>q,λ_ ps q=>⟨#[],by rw[q];simp⟩⟩
theorem Un.refl:Un fs ex H H h h:=Un.kept λ_ _ q=>q
theorem Un.laid(k:∀b u,h.get? b=KJ u->h'.get? b=KJ u)(f:h.objs.size<=a)(c:H a=KP):Un fs ex H (upd H a o) h h' where
 keep:=λb u q _ _ _=>k b u q;slot:=λb u q _ _ _=>⟨u.slots,k b u q⟩;free:=λb u q n _=>by rw[af (Lu (Lh (K8 q) f))];exact n
 there:=λb u q _=>⟨u,k b u q⟩;iZ:=λb d q=>by rw[af (aA q c)];exact q
 gY:=λb u d q=>by rw[af (aA q c)];exact q
 i5:=λb ps q=>⟨#[],by rw[af (aA q c),q];simp⟩
theorem Un.write(d:GC (H x))(l:e=x\/H e=KJ (.own x))(k:∀b u,b≠e->h.get? b=KJ u->h'.get? b=KJ u)(g:∃u,h'.get? e=KJ u):Un fs ex H (upd H x o) h h':=by
 have i:∀b,H b=KP->b≠x:=λb n z=>by subst z;rw[n]at d;exact d
 have hb:∀b,H b=KP->b≠e:=λb n z=>by
  subst z;rcases l with r|r;.exact i b n r
  .rw[n]at r;cases r
 have f:∀b u,H b=KJ u->¬GC (KJ u)->b≠x:=λb u q nm z=>by subst z;rw[q]at d;exact nm d
 refine⟨λb u q n _ _=>k b u (hb b n) q,λb u q n _ _=>⟨u.slots,k b u (hb b n) q⟩,λb u q n _=>by rw[af (i b n)];exact n,λb u q _=>?_,λb j q=>by rw[af (f b _ q λz=>z)];exact q,λb u j q=>by rw[af (f b _ q λz=>z)];exact q,λb ps q=>⟨#[],by rw[af (f b _ q λz=>z),q];simp⟩⟩;by_cases c:b=e;.subst c;exact g
 .exact⟨u,k b u c q⟩
end
noncomputable def GD(h:Lx)(H:Hp):List KY:=(L4 h.objs.size).filter λa=>(H a).isSome
noncomputable def md(h:Lx)(H:Hp):Lx:=PySem.W.hideAll h (GD h H)
theorem sE(h:Lx)(H:Hp):(md h H).objs.size=h.objs.size:=PySem.W.hideAll_size _ _
theorem t_{h:Lx}{H:Hp}{b:KY}{o:Mc}(e:h.get? b=KJ o)(n:H b=KP):(md h H).get? b=KJ o:=PySem.W.hideAll_get _ e λa=>by
  have q:(H b).isSome=KQ:=(List.mem_filter.mp a).2;rw[n]at q;simp at q
theorem xr{h:Lx}{H:Hp}{b:KY}{o:Mc}(e:(md h H).get? b=KJ o):h.get? b=KJ o/\H b=KP:=by
 have a:h.get? b=KJ o:=PySem.W.of_hideAll (GD h H) e;refine⟨a,?_⟩;cases q:H b with
 |none=>rfl|some x=>
  have c:b∈GD h H:=List.mem_filter.mpr ⟨List.mem_range.mpr (K8 a),by simp[q]⟩;have z:(md h H).get? b=KP:=PySem.W.hideAll_none (GD h H) c;rw[z]at e;cases e
end L2
namespace L2
open PySem PySem.Spec PyProof.Rows
structure Mod(K:K2)(mg:Li->Option KO)(base:Lx):Prop where
 GF:K.In base
 glob:base.Ns LU mg
 blt:∃mb,base.Ns Ql mb/\∀x:Li,x≠"__name__"->mb x=MD x
 nolimit:base.NoLimit
structure Cx where
 prog:Le
 w:Ly
 K:K2
 mg:Li->Option KO
 base:Lx
 A:LC
 N:List Li
 b7:KW
 gj:Hp
 env:Q8
 outer:List Q8
 stack:List Q8
 ex:List KY
 fn:Li->Bool
 calm:Bool
 pn:List (KY×Mc)xe:KO->KW->Prop
noncomputable def sF(l:List Q8):List KY:=l.filterMap (·.frame)
noncomputable abbrev Cx.fs(X:Cx):List KY:=sF X.outer
noncomputable def ni(sc:MT)(x:Li):Prop:=sc.names.lookup x=KJ .local\/sc.names.lookup x=KJ .cell\/sc.names.lookup x=KJ .free
noncomputable def Loc(sc:MT)(x:Li):Prop:=sc.names.lookup x=KJ .local\/sc.names.lookup x=KJ .cell
noncomputable def Look(env:Q8)(h:Lx)(m:Li->Option KO)(x:Li)(u:KO):Prop:=(env.kindOf x=KJ .local/\m x=KJ u)\/((env.kindOf x=KJ .cell\/env.kindOf x=KJ .free)/\∃c,env.cells.lookup x=KJ c/\h.IsCell c (KJ u))
structure Cx.Ok(X:Cx):Prop where
 mod:Mod X.K X.mg X.base
 kind:X.env.scope.kind=.function
 glob:X.env.globals=LU
 blt:X.env.builtins=Ql
 above:X.b7.heap.objs.size<=X.env.locals
 inj:∀x y c,X.env.cells.lookup x=KJ c->X.env.cells.lookup y=KJ c->x=y
 has:∀x,(X.env.kindOf x=KJ .cell\/X.env.kindOf x=KJ .free)->∃c,X.env.cells.lookup x=KJ c
 Dx:∀x c,X.fn x=KQ->X.env.cells.lookup x=KJ c->X.b7.heap.objs.size<=c
 hd:X.calm=KQ->X.A.handled=KP
 frames:X.A.frames=KJ X.stack
 DR:X.stack=X.outer\/(X.stack=X.env::X.outer/\X.env.frame=KJ X.env.locals)Hl:∀b∈X.ex,b≠X.env.locals/\∀x c,X.env.cells.lookup x=KJ c->c≠b
 bs:∀b o,X.base.get? b=KJ o->X.b7.heap.get? b=KJ o/\X.gj b=KP
 xt:X.base.objs.size<=X.b7.heap.objs.size
 sG:∀b o,X.base.get? b=KJ o->b∉X.ex
 ua:∀b∈X.ex,b∉X.fs
 i7:X.b7.heap.FunFrames X.base X.outer
 Am:∀b∈X.fs,X.gj b=KP
structure Inv(X:Cx)(pins:List (KY×Mc))(σ:List (Option V))(H:Hp)(s:KW):Prop where
 ok:X.Ok
 os:s.os=X.b7.os
 bare:PD s.gens
 base:Un X.fs X.ex X.gj H X.b7.heap s.heap
 loc:∃m,s.heap.Ns X.env.locals m/\∀(i:Nat)(x:Li)(v:V),X.N[i]?=KJ x->σ[i]?=KJ (KJ v)->ni X.env.scope x->∃u,RelV v u/\Look X.env s.heap m x u
 cell:∀x c,X.env.cells.lookup x=KJ c->∃v,s.heap.IsCell c v
 free:H X.env.locals=KP
 cY:∀x c,X.env.cells.lookup x=KJ c->H c=KP
 pin:∀p∈X.pn++pins,s.heap.get? p.1=KJ p.2/\H p.1=KP/\p.1≠X.env.locals/\p.1∉X.fs/\∀v,p.2.data≠.cell v
 aN:iK X.prog X.w H s.heap
 len:σ.length=X.N.length
section
variable{X:Cx}{pins:List (KY×Mc)}{σ:List (Option V)}{H H':Hp}{s:KW}{h':Lx}
theorem Cx.Ok.Hm(ok:X.Ok){b:KY}{o:Mc}(e:X.base.get? b=KJ o):b∉X.fs:=λhb=>by
 have:=(ok.i7.mem hb).1;rw[e]at this;cases this
theorem Inv.bs(I:Inv X pins σ H s):∀b o,X.base.get? b=KJ o->s.heap.get? b=KJ o/\H b=KP:=λb o e=>⟨I.base.keep b o (I.ok.bs b o e).1 (I.ok.bs b o e).2 (I.ok.Hm e) (I.ok.sG b o e),I.base.free b o (I.ok.bs b o e).1 (I.ok.bs b o e).2 (I.ok.sG b o e)⟩
theorem Inv.bk(I:Inv X pins σ H s):∀b o,X.base.get? b=KJ o->s.heap.get? b=KJ o:=λb o e=>(I.bs b o e).1
theorem Inv.mod(I:Inv X pins σ H s):Mod X.K X.mg X.base:=I.ok.mod
theorem Inv.kK(I:Inv X pins σ H s):X.K.In s.heap:=I.ok.mod.GF.keeps I.bk
theorem Inv.lt(I:Inv X pins σ H s):X.env.locals<s.heap.objs.size:=let⟨_,a,_⟩:=I.loc;a.lt
theorem Inv.sz(I:Inv X pins σ H s):X.b7.heap.objs.size<=s.heap.objs.size:=L_ I.ok.above (Pf I.lt)
theorem Inv.An(I:Inv X pins σ H s){a:KY}(h:s.heap.objs.size<=a):a∉X.fs:=λhb=>by
 obtain⟨_,o,b,_⟩:=I.ok.i7.mem hb;exact absurd (Lh (K8 b) (L_ I.sz h)) (LX _)
theorem Inv.Ao(I:Inv X pins σ H s):∀x c,X.env.cells.lookup x=KJ c->c≠X.env.locals:=λx c e z=>by
 obtain⟨v,o,d,hd⟩:=I.cell x c e;obtain⟨m,⟨f,g,h,a,b,_⟩,_⟩:=I.loc;rw[z,a]at d;cases d;rw[b]at hd;cases hd
theorem Inv.i7(I:Inv X pins σ H s):s.heap.FunFrames X.base X.outer:=by
 have all:∀(l:List Q8),(∀b∈sF l,b∈X.fs)->X.b7.heap.FunFrames X.base l->s.heap.FunFrames X.base l:=by
  intro l;induction l with
  |nil=>intro _ _;trivial|cons env r f=>
   intro d j;obtain⟨k,⟨L,o,a,i,h,hd⟩,g⟩:=j;have c:L∈X.fs:=d L (by unfold sF;rw[M_,a];exact K5);obtain⟨m,e⟩:=I.base.slot L o h (I.ok.Am L c) c λz=>I.ok.ua L z c;exact⟨k,⟨L,_,a,i,e,hd⟩,f (λb hb=>d b (by unfold sF;rw[M_,a];exact K4 _ hb)) g⟩
 exact all X.outer (λ_ hb=>hb) I.ok.i7
theorem Inv.stack(I:Inv X pins σ H s):s.heap.FunFrames X.base X.stack:=by
 rcases I.ok.DR with e|⟨e,b⟩;.rw[e];exact I.i7
 .rw[e];obtain⟨m,a,_⟩:=I.loc;refine .cons (by rw[I.ok.kind];decide) b a ?_ I.i7;exact Heap.get?_none_of_le (L_ I.ok.xt I.ok.above)
theorem Inv.jr(I:Inv X pins σ H s):∀b∈sF X.stack,b∈X.env.locals::X.fs:=λb hb=>by
 rcases I.ok.DR with e|⟨e,a⟩;.rw[e]at hb;exact K4 _ hb
 .rw[e]at hb;unfold sF at hb;rw[M_,a]at hb;exact hb
theorem Inv.qP(I:Inv X pins σ H s):∀b∈sF X.stack,H b=KP:=λb hb=>by
 rcases List.mem_cons.mp (I.jr b hb)with e|hb;.rw[e];exact I.free
 .obtain⟨_,o,a,_⟩:=I.ok.i7.mem hb;exact I.base.free b o a (I.ok.Am b hb) λz=>I.ok.ua b z hb
theorem Inv.step{g':Array GenState}{t':Nat}{d':Drawn}{ch:List KY}(I:Inv X pins σ H s)(g:∀b∈ch,(b∈X.ex\/X.b7.heap.objs.size<=b)/\b≠X.env.locals/\(∀x c,X.env.cells.lookup x=KJ c->c≠b)/\∀p∈X.pn++pins,p.1≠b)(keep:∀b o,b≠X.env.locals->b∉X.fs->b∉ch->s.heap.get? b=KJ o->H b=KP->h'.get? b=KJ o)(slot:∀b o,b≠X.env.locals->b∈X.fs->b∉ch->s.heap.get? b=KJ o->H b=KP->∃F,h'.get? b=KJ {o with slots:=F})(free:∀b o,b∉ch->s.heap.get? b=KJ o->H b=KP->H' b=KP)(there:∀b o,b∉ch->s.heap.get? b=KJ o->∃o',h'.get? b=KJ o')(iZ:∀b xs,H b=KJ (.tup xs)->H' b=KJ (.tup xs))(gY:∀b o u,H b=KJ (.b6 o u)->H' b=KJ (.b6 o u))(i5:∀b ps,H b=KJ (.tW ps)->∃B,H' b=KJ (.tW (ps++B)))(ns:∀m,s.heap.Ns X.env.locals m->h'.Ns X.env.locals m)(aN:iK X.prog X.w H' h')(P:PD g'):Inv X pins σ H' {s with heap:=h',gens:=g',drawn:=d',toks:=t'}:=by
 have A:∀b o,X.b7.heap.get? b=KJ o->b≠X.env.locals:=λb o e=>Lu (Lh (K8 e) I.ok.above);have j:∀b o,X.b7.heap.get? b=KJ o->b∉X.ex->b∉ch:=λb o e a hb=>by
  rcases(g b hb).1 with z|z;.exact a z
  .exact absurd (Lh (K8 e) z) (LX _)
 have h:∀x c,X.env.cells.lookup x=KJ c->∀v,s.heap.IsCell c v->h'.IsCell c v:=λx c e v D=>by
  obtain⟨o,y,hd⟩:=D;have f:c∉ch:=λz=>(g c z).2.2.1 x c e rfl;by_cases K:c∈X.fs
  .obtain⟨F,q⟩:=slot c o (I.Ao x c e) K f y (I.cY x c e);exact⟨_,q,hd⟩
  .exact⟨o,keep c o (I.Ao x c e) K f y (I.cY x c e),hd⟩
 refine⟨I.ok,I.os,P,⟨λb o e n hb a=>?_,λb o e n hb a=>?_,λb o e n a=>?_,λb o e a=>?_,λb xs e=>iZ b xs (I.base.iZ b xs e),λb o xs e=>gY b o xs (I.base.gY b o xs e),λb ps e=>?_⟩,?_,λx c e=>?_,?_,λx c e=>?_,λp J=>?_,aN,I.len⟩;.exact keep b o (A b o e) hb (j b o e a) (I.base.keep b o e n hb a) (I.base.free b o e n a)
 .obtain⟨F,t⟩:=I.base.slot b o e n hb a;obtain⟨E,C⟩:=slot b _ (A b o e) hb (j b o e a) t (I.base.free b o e n a);exact⟨E,C⟩
 .obtain⟨o',t⟩:=I.base.there b o e a;exact free b o' (j b o e a) t (I.base.free b o e n a)
 .obtain⟨o',t⟩:=I.base.there b o e a;exact there b o' (j b o e a) t
 .obtain⟨M,t⟩:=I.base.i5 b ps e;obtain⟨L,C⟩:=i5 b _ t;exact⟨M++L,by rw[C,Array.append_assoc]⟩
 .obtain⟨m,N,O⟩:=I.loc;refine⟨m,ns m N,λi x v t C Q=>?_⟩;obtain⟨u,r,l⟩:=O i x v t C Q;refine⟨u,r,?_⟩;rcases l with l|⟨k,c,e,z⟩;.exact .inl l
  .exact .inr ⟨k,c,e,h x c e _ z⟩
 .obtain⟨v,z⟩:=I.cell x c e;exact⟨v,h x c e v z⟩
 .obtain⟨m,⟨o,_,_,y,_⟩,_⟩:=I.loc;exact free _ o (λz=>(g _ z).2.1 rfl) y I.free
 .obtain⟨v,o,y,hd⟩:=I.cell x c e;exact free c o (λz=>(g c z).2.2.1 x c e rfl) y (I.cY x c e)
 .obtain⟨e,n,ne,G,d⟩:=I.pin p J;have f:p.1∉ch:=λz=>(g p.1 z).2.2.2 p J rfl;exact⟨keep p.1 p.2 ne G f e n,free p.1 p.2 f e n,ne,G,d⟩
theorem Inv.un{t':Nat}(I:Inv X pins σ H s)(u:Un X.fs [] H H' s.heap h')(aN:iK X.prog X.w H' h'):Inv X pins σ H' {s with heap:=h',toks:=t'}:=by
 obtain⟨m,⟨o,p,q,f,r⟩,_⟩:=id I.loc;obtain⟨j,i⟩:=u.any f I.free (by simp);exact I.step (g':=s.gens) (d':=s.drawn) (ch:=[]) (λ_ z=>nomatch z) (λb o _ hb _ e n=>u.keep b o e n hb (by simp)) (λb o _ hb _ e n=>u.slot b o e n hb (by simp)) (λb o _ e n=>u.free b o e n (by simp)) (λb o _ e=>u.there b o e (by simp)) u.iZ u.gY u.i5 (λl h=>by
  obtain⟨k,c,d,a,g⟩:=h;rw[f]at a;cases a;exact⟨_,c,d,i,g⟩) aN I.bare
theorem Inv.call{g':Array GenState}{t':Nat}{d':Drawn}{ch:List KY}(I:Inv X pins σ H s)(u:Un (sF X.stack) ch H H' s.heap h')(aN:iK X.prog X.w H' h')(q:PD g')(f:∀b∈ch,(b∈X.ex\/X.b7.heap.objs.size<=b)/\b≠X.env.locals/\(∀x c,X.env.cells.lookup x=KJ c->c≠b)/\∀p∈X.pn++pins,p.1≠b):Inv X pins σ H' {s with heap:=h',gens:=g',drawn:=d',toks:=t'}:=by
 obtain⟨m,⟨o,A,B,j,r⟩,_⟩:=id I.loc;obtain⟨t,g⟩:=u.any j I.free λz=>(f _ z).2.1 rfl;exact I.step (ch:=ch) f (λb o g hb a e n=>u.keep b o e n (λz=>(List.mem_cons.mp (I.jr b z)).elim g hb) a) (λb o _ _ a e n=>u.any e n a) (λb o a e n=>u.free b o e n a) (λb o a e=>u.there b o e a) u.iZ u.gY u.i5 (λy l=>by
  obtain⟨v,h,i,d,k⟩:=l;rw[j]at d;cases d;exact⟨_,h,i,g,k⟩) aN q
theorem Inv.turned{t':Nat}{it:KY}(I:Inv X pins σ H s)(k:∀b o,b≠it->s.heap.get? b=KJ o->h'.get? b=KJ o)(h:H it=KP)(f:it≠X.env.locals)(t:it∈X.ex\/X.b7.heap.objs.size<=it)(l:∀x c,X.env.cells.lookup x=KJ c->c≠it)(j:∀p∈X.pn++pins,p.1≠it):Inv X pins σ H {s with heap:=h',toks:=t'}:=by
 have d:∀b u,H b=KJ u->b≠it:=λb u e z=>by rw[z,h]at e;cases e
 refine I.step (g':=s.gens) (d':=s.drawn) (ch:=[it]) (λb hb=>?_) (λb o _ _ a e _=>k b o (λz=>a (by simp[z])) e) (λb o _ _ a e _=>⟨o.slots,k b o (λz=>a (by simp[z])) e⟩) (λ_ _ _ _ n=>n) (λb o a e=>⟨o,k b o (λz=>a (by simp[z])) e⟩) (λ_ _ e=>e) (λ_ _ _ e=>e) (λb ps e=>⟨#[],by rw[e];simp⟩) (λm i=>?_) (λb u e=>?_) I.bare
 .have e:b=it:=by simpa using hb
  subst e;exact⟨t,f,l,j⟩
 .obtain⟨o,w,y,g,r⟩:=i;exact⟨o,w,y,k _ o (LS f) g,r⟩
 .refine(I.aN b u e).dW (λc v a q=>k c v ?_ q) (λ_ q=>q) λ_ _ q=>q;rcases a with z|z;.rw[z];exact d b u e
  .exact d c _ z
theorem Inv.tok(I:Inv X pins σ H s)(t:Nat):Inv X pins σ H {s with toks:=t}:=I.un (h':=s.heap) (t':=t) Un.refl I.aN
theorem Inv.kept{t':Nat}(I:Inv X pins σ H s)(k:∀b u,s.heap.get? b=KJ u->h'.get? b=KJ u):Inv X pins σ H {s with heap:=h',toks:=t'}:=I.un (Un.kept k) (I.aN.kept k)
theorem Inv.laid{a:KY}{o:HO}{t':Nat}(I:Inv X pins σ H s)(k:∀b u,s.heap.get? b=KJ u->h'.get? b=KJ u)(c:s.heap.objs.size<=a)(new:bo X.prog X.w (upd H a o) h' a o):Inv X pins σ (upd H a o) {s with heap:=h',toks:=t'}:=I.un (Un.laid k c (I.aN.fresh c)) (I.aN.laid k c new)
theorem Inv.write{x e:KY}{o:HO}{t':Nat}(I:Inv X pins σ H s)(c:GC (H x))(d:e=x\/H e=KJ (.own x))(k:∀b u,b≠e->s.heap.get? b=KJ u->h'.get? b=KJ u)(a:∃u,h'.get? e=KJ u)(new:bo X.prog X.w (upd H x o) h' x o):Inv X pins σ (upd H x o) {s with heap:=h',toks:=t'}:=I.un (Un.write c d k a) (I.aN.write c d k a new)
theorem Inv.dX{a:List (KY×Mc)}(I:Inv X pins σ H s)(h:∀p∈a,s.heap.get? p.1=KJ p.2/\H p.1=KP/\p.1≠X.env.locals/\p.1∉X.fs/\∀v,p.2.data≠.cell v):Inv X a σ H s:=⟨I.ok,I.os,I.bare,I.base,I.loc,I.cell,I.free,I.cY,λp b=>(List.mem_append.mp b).elim (λz=>I.pin p (M0 _ z)) (h p),I.aN,I.len⟩
theorem nu{N:List Li}(hN:N.Nodup){i j:Nat}{x:Li}(a:N[i]?=KJ x)(b:N[j]?=KJ x):i=j:=by
 obtain⟨f,d⟩:=List.getElem?_eq_some_iff.mp a;obtain⟨e,c⟩:=List.getElem?_eq_some_iff.mp b;exact(List.getElem_inj hN).mp (d.trans c.symm)
theorem sH{M:Si}{A:LC}{E:KO->KW->Prop}{i:Nat}{x:Li}{v:V}{u:KO}{Q:Unit->KW->Prop}(I:Inv X pins σ H s)(hN:X.N.Nodup)(P:X.N[i]?=KJ x)(B:Loc X.env.scope x)(r:RelV v u)(h:∀s',Inv X pins (σ.set i (KJ v)) H s'->(∃a,Mu a s.heap s'.heap/\(a=X.env.locals\/X.env.cells.lookup x=KJ a))->Q () s')(hf:X.fn x=KQ\/X.env.scope.names.lookup x=KJ .local:=by first|exact .inl rfl|exact .inr rfl|assumption):wpAny M A (storeName X.env x u) Q E s:=by
 obtain⟨m,hn,hl⟩:=id I.loc;have R:(X.env.scope.kind==.class||(X.env.scope.kind==.module&&X.env.locals !=X.env.globals))=KR:=by rw[I.ok.kind];rfl
 have G:i<σ.length:=by rw[I.len];exact(List.getElem?_eq_some_iff.mp P).1
 have Ao:=I.Ao;have g:∀{a:KY}{h':Lx},(∃o,s.heap.get? a=KJ o/\H a=KP)->Mu a s.heap h'->iK X.prog X.w H h':=λ{a h'}ha f b ob e=>by
  obtain⟨_,_,C⟩:=ha;refine(I.aN b ob e).dW (λc U t q=>(f.2 c ?_).trans q) (λ_ q=>q) λ_ _ q=>q;rintro rfl;rcases t with rfl|t;.rw[C]at e;cases e
  .rw[C]at t;cases t
 rcases B with F|F
 .refine wpAny_storeName_local F hn (λh' a2 f=>?_) R;obtain⟨oL,_,_,a0,_⟩:=id hn;refine h _ ⟨I.ok,I.os,I.bare,⟨λb o e n hb B=>?_,λb o e n hb B=>?_,I.base.free,λb o e B=>?_,I.base.iZ,I.base.gY,I.base.i5⟩,⟨_,a2,λj y Y l D e3=>?_⟩,λy c e=>?_,I.free,I.cY,λp hp=>?_,g ⟨oL,a0,I.free⟩ f,by simpa using I.len⟩ ⟨_,f,.inl rfl⟩;.exact(f.2 b (Lu (Lh (K8 e) I.ok.above))).trans (I.base.keep b o e n hb B)
  .obtain⟨sl,l⟩:=I.base.slot b o e n hb B;exact⟨sl,(f.2 b (Lu (Lh (K8 e) I.ok.above))).trans l⟩
  .obtain⟨o',l⟩:=I.base.there b o e B;exact⟨o',(f.2 b (Lu (Lh (K8 e) I.ok.above))).trans l⟩
  .by_cases J:j=i
   .subst J;rw[P]at l;cases l;rw[Nf G]at D;cases D;exact⟨u,r,.inl ⟨F,by simp⟩⟩
   .rw[M1 (LS J)]at D;obtain⟨Z,r',q⟩:=hl j y Y l D e3;refine⟨Z,r',?_⟩;rcases q with⟨k,e⟩|⟨k,c,e,z⟩
    .refine .inl ⟨k,?_⟩;have:y≠x:=λe=>J (nu hN l (e▸P));simp[this,e]
    .exact .inr ⟨k,c,e,z.sameBut f (Ao y c e)⟩
  .obtain⟨U,z⟩:=I.cell y c e;exact⟨U,z.sameBut f (Ao y c e)⟩
  .obtain⟨e,n,ne,nf,d⟩:=I.pin p hp;exact⟨(f.2 p.1 ne).trans e,n,ne,nf,d⟩
 .have K:X.fn x=KQ:=by
   rcases hf with z|z;.exact z
   .rw[z]at F;cases F
  obtain⟨c,t⟩:=I.ok.has x (.inl F);obtain⟨U,z⟩:=I.cell x c t;refine wpAny_storeName_cell I.ok.kind F t z (λh' T f=>?_);obtain⟨oc,O,L⟩:=id z;refine h {s with heap:=h'} ⟨I.ok,I.os,I.bare,⟨λb o e n hb B=>?_,λb o e n hb B=>?_,I.base.free,λb o e B=>?_,I.base.iZ,I.base.gY,I.base.i5⟩,⟨m,hn.sameBut f (LS (Ao x c t)),λj y Y l D e3=>?_⟩,λy W e=>?_,I.free,I.cY,λp hp=>?_,g ⟨oc,O,I.cY x c t⟩ f,by simpa using I.len⟩ ⟨c,f,.inr t⟩;.exact(f.2 b (Lu (Lh (K8 e) (I.ok.Dx x c K t)))).trans (I.base.keep b o e n hb B)
  .obtain⟨sl,l⟩:=I.base.slot b o e n hb B;exact⟨sl,(f.2 b (Lu (Lh (K8 e) (I.ok.Dx x c K t)))).trans l⟩
  .obtain⟨o',l⟩:=I.base.there b o e B;exact⟨o',(f.2 b (Lu (Lh (K8 e) (I.ok.Dx x c K t)))).trans l⟩
  .by_cases J:j=i
   .subst J;rw[P]at l;cases l;rw[Nf G]at D;cases D;exact⟨u,r,.inr ⟨.inl F,c,t,T⟩⟩
   .rw[M1 (LS J)]at D;obtain⟨Z,r',q⟩:=hl j y Y l D e3;refine⟨Z,r',?_⟩;rcases q with q|⟨k,W,e,z'⟩;.exact .inl q
    .refine .inr ⟨k,W,e,z'.sameBut f ?_⟩;rintro rfl;exact J (nu hN l (I.ok.inj _ _ _ e t▸P))
  .by_cases S:W=c;.subst S;exact⟨_,T⟩
   .obtain⟨w2,z2⟩:=I.cell y W e;exact⟨w2,z2.sameBut f S⟩
  .obtain⟨e,n,ne,nf,d⟩:=I.pin p hp;refine⟨(f.2 p.1 ?_).trans e,n,ne,nf,d⟩;intro q;rw[q,O]at e;have q':oc=p.2:=K1 e;exact d U (by rw[<-q'];exact L)
theorem gm{M:Si}{A:LC}{E:KO->KW->Prop}{i:Nat}{x:Li}{v:V}{u:KO}{Q:Unit->KW->Prop}(I:Inv X pins σ H s)(hN:X.N.Nodup)(c:X.N[i]?=KJ x)(b:Loc X.env.scope x)(r:RelV v u)(h:∀a,Inv X pins (σ.set i (KJ v)) H a->Q () a)(d:X.fn x=KQ\/X.env.scope.names.lookup x=KJ .local:=by first|exact .inl rfl|exact .inr rfl|assumption):wpAny M A (storeName X.env x u) Q E s:=sH I hN c b r (λa e _=>h a e) d
theorem Inv.DV{a:KW}{ch:List KY}(I:Inv X pins σ H s)(g:a.os=s.os)(u:Un (sF X.stack) ch H H' s.heap a.heap)(aN:iK X.prog X.w H' a.heap)(h:PD a.gens)(d:∀b∈ch,(b∈X.ex\/X.b7.heap.objs.size<=b)/\b≠X.env.locals/\(∀x c,X.env.cells.lookup x=KJ c->c≠b)/\∀p∈X.pn++pins,p.1≠b):Inv X pins σ H' a:=by
 obtain⟨h',g',d',t',f⟩:=a;have e:f=s.os:=g;subst e;exact I.call (g':=g') (t':=t') (d':=d') u aN h d
end
abbrev XK:=KO->Option KY->Hp->Prop
abbrev St:=List (Option V)
abbrev VK:=V->Hp->Prop
abbrev TE:=St->Hp->VK->Prop
abbrev TT:=St->Hp->(Bool->Hp->Prop)->Prop
abbrev TA:=St->Hp->(List V->Hp->Prop)->Prop
structure Ends where
 nx:St->Hp->Prop
 rt:VK
 bk:St->Hp->Prop:=λ_ _=>False
 ct:St->Hp->Prop:=λ_ _=>False
abbrev TS:=Ends->St->Hp->Prop
inductive EP(X:Cx)(pins:List (KY×Mc))(σ:St)(Q:VK)(u:KO)(s':KW):Prop where|mk(v:V)(H':Hp)(I:Inv X pins σ H' s')(r:RelV v u)(q:Q v H')
inductive TP(X:Cx)(pins:List (KY×Mc))(σ:St)(Q:Bool->Hp->Prop)(b:Bool)(s':KW):Prop where|mk(H':Hp)(I:Inv X pins σ H' s')(q:Q b H')
inductive AP(X:Cx)(pins:List (KY×Mc))(σ:St)(Q:List V->Hp->Prop)(us:List KO)(s':KW):Prop where|mk(vs:List V)(H':Hp)(I:Inv X pins σ H' s')(r:aq vs us)(q:Q vs H')
noncomputable def SP(X:Cx)(b:List (KY×Mc))(D:Ends)(f:Flow)(d:KW):Prop:=match f with
 |.next=>∃a c,Inv X b a c d/\D.nx a c|.brk=>∃a c,Inv X b a c d/\D.bk a c|.cont=>∃a c,Inv X b a c d/\D.ct a c|.ret u=>∃v a c,Inv X b a c d/\RelV v u/\D.rt v c
noncomputable def PE(X:Cx)(e:K_)(t:TE):Prop:=∀(a:List (KY×Mc))(s:KW)(b:St)(H:Hp)(Q:VK),Inv X a b H s->t b H Q->wpAny (K7 X.prog X.w) X.A (MW e X.env) (EP X a b Q) X.xe s
noncomputable def PT(X:Cx)(e:K_)(t:TT):Prop:=∀(a:List (KY×Mc))(s:KW)(b:St)(H:Hp)(Q:Bool->Hp->Prop),Inv X a b H s->t b H Q->wpAny (K7 X.prog X.w) X.A (RI e X.env (MW e X.env)) (TP X a b Q) X.xe s
noncomputable def PW(X:Cx)(e:K_)(t:TT):Prop:=∀(whole:Py KO)(a:List (KY×Mc))(s:KW)(b:St)(H:Hp)(Q:Bool->Hp->Prop),Inv X a b H s->t b H Q->wpAny (K7 X.prog X.w) X.A (RI e X.env whole) (TP X a b Q) X.xe s
theorem PW.pt{X:Cx}{e:K_}{t:TT}(h:PW X e t):PT X e t:=h _
noncomputable def PA(X:Cx)(d:List K_)(t:TA):Prop:=∀(c:MB)(a:List (KY×Mc))(s:KW)(b:St)(H:Hp)(Q:List V->Hp->Prop),Inv X a b H s->t b H Q->wpAny (K7 X.prog X.w) X.A (SO (NQ c (Lg d X.env))) (AP X a b Q) X.xe s
noncomputable def PS(X:Cx)(st:MU)(t:TS):Prop:=∀(a:List (KY×Mc))(s:KW)(b:St)(H:Hp)(D:Ends),Inv X a b H s->t D b H->wpAny (K7 X.prog X.w) X.A (exec st X.env) (SP X a D) X.xe s
noncomputable def nj(X:Cx)(st:List MU)(t:TS):Prop:=∀(a:List (KY×Mc))(s:KW)(b:St)(H:Hp)(D:Ends),Inv X a b H s->t D b H->wpAny (K7 X.prog X.w) X.A (execs st X.env) (SP X a D) X.xe s
theorem aV{b:Type}{t:Py b}{Q Q':b->KW->Prop}{M:Si}{A:LC}{E:KO->KW->Prop}{s:KW}(h:wpAny M A t Q E s)(c:∀a s,Q a s->Q' a s):wpAny M A t Q' E s:=ML h c λ_ _ x=>x
end L2
namespace L2
open PySem PySem.Spec PyProof.Rows
section
variable{X:Cx}
noncomputable def DW(i:Nat):TE:=λa H Q=>∃v,a[i]?=KJ (KJ v)/\Q v H
noncomputable def tC(v:V):TE:=λ_ H Q=>Q v H
theorem bP{i:Nat}{x:Li}{pos:MB}(hN:X.N[i]?=KJ x)(n:ni X.env.scope x)(hd:(x==("__debug__":Li))=KR:=by decide)(g:(x==("__classdict__":Li))=KR:=by decide):PE X (.Name x pos) (DW i):=by
 intro f s k H Q I h;obtain⟨v,e,h⟩:=h;obtain⟨m,o,q⟩:=I.loc;obtain⟨u,r,l⟩:=q i x v hN e n;have d:EP X f k Q u s:=⟨v,H,I,r,h⟩;rcases l with⟨b,p⟩|⟨b,c,j,a⟩;.exact Sw (wpAny_loadName_local I.ok.kind b o p d) hd
 .rcases b with b|b;.exact Sw (wpAny_loadName_cell I.ok.kind b j a d) hd
  .exact Sw (wpAny_loadName_free I.ok.kind b j a d g) hd
theorem aB{i j pos}:PE X (.Constant (.int i) j pos) (tC (.int i)):=λ_ _ _ H _ I h=>wpAny_Constant_int ⟨.int i,H,I.tok _,⟨_,rfl⟩,h⟩
theorem DX{b j pos}:PE X (.Constant (.bool b) j pos) (tC (.bl b)):=λ_ _ _ H _ I h=>Constant_bool ⟨.bl b,H,I,rfl,h⟩
theorem Aq{j pos}:PE X (.Constant .none j pos) (tC .bx):=λ_ _ _ H _ I h=>Constant_none ⟨.bx,H,I,rfl,h⟩
theorem Ar{x j pos}:PE X (.Constant (.str x) j pos) (tC (.str x)):=λ_ _ _ H _ I h=>Calls.Constant_str ⟨.str x,H,I.tok _,⟨_,rfl⟩,h⟩
noncomputable def Gl(X:Cx)(x:Li):Prop:=X.env.kindOf x=KJ .globalImplicit
theorem qQ{E:KO->KW->Prop}{a:List (KY×Mc)}{s:KW}{b:St}{H:Hp}{x:Li}{u:KO}{pos:MB}{Q:KO->KW->Prop}(I:Inv X a b H s)(d:Gl X x)(c:X.mg x=KJ u)(h:Q u s)(hd:(x==("__debug__":Li))=KR:=by decide):wpAny (K7 X.prog X.w) X.A (MW (.Name x pos) X.env) Q E s:=Pk I.ok.kind d (Calls.loadGlobal_global (by rw[I.ok.glob];exact I.mod.glob.keeps I.bk) c h) hd
theorem eM{E:KO->KW->Prop}{a:List (KY×Mc)}{s:KW}{b:St}{H:Hp}{x:Li}{u:KO}{pos:MB}{Q:KO->KW->Prop}(I:Inv X a b H s)(f:Gl X x)(e:X.mg x=KP)(c:MD x=KJ u)(h:Q u s)(d:x≠"__name__":=by decide)(hd:(x==("__debug__":Li))=KR:=by decide):wpAny (K7 X.prog X.w) X.A (MW (.Name x pos) X.env) Q E s:=by
 obtain⟨j,i,g⟩:=I.mod.blt;exact Pk I.ok.kind f (Calls.loadGlobal_builtin (by rw[I.ok.glob];exact I.mod.glob.keeps I.bk) e (by rw[I.ok.blt];exact i.keeps I.bk) ((g x d).trans c) h) hd
theorem xu{x:Li}{v:V}{u:KO}{pos:MB}(b:Gl X x)(a:X.mg x=KJ u)(r:RelV v u)(hd:(x==("__debug__":Li))=KR:=by decide):PE X (.Name x pos) (tC v):=λ_ _ _ H _ I h=>qQ I b a ⟨v,H,I,r,h⟩ hd
theorem xv{x:Li}{v:V}{u:KO}{pos:MB}(d:Gl X x)(c:X.mg x=KP)(a:MD x=KJ u)(r:RelV v u)(b:x≠"__name__":=by decide)(hd:(x==("__debug__":Li))=KR:=by decide):PE X (.Name x pos) (tC v):=λ_ _ _ H _ I h=>eM I d c a ⟨v,H,I,r,h⟩ b hd
variable{a b:K_}{ta tb:TE}{pos:MB}
variable{tA tB':TT}{rest:List K_}
noncomputable def Hn(t u:TT):TT:=λd H Q=>t d H λc e=>if c=KQ then u d e Q else Q KR e
noncomputable def J9(t u:TT):TT:=λd H Q=>t d H λc e=>if c=KQ then Q KQ e else u d e Q
noncomputable def Hq(t:TT):TT:=λd H Q=>t d H λc e=>Q (!c) e
theorem qS(ha:PT X a tA):PW X (.BoolOp .And [a] pos) tA:=by
 intro g d s f H Q I h;refine isTrue_and (aV (ha d s f H Q I h) λc s1 e=>?_);cases c with
 |true=>exact isTrue_and_nil e|false=>exact e
theorem As(ha:PT X a tA):PW X (.BoolOp .Or [a] pos) tA:=by
 intro g d s f H Q I h;refine isTrue_or (aV (ha d s f H Q I h) λc s1 e=>?_);cases c with
 |false=>exact isTrue_or_nil e|true=>exact e
theorem ub(ha:PT X a tA)(hb:PW X (.BoolOp .And (b::rest) pos) tB'):PW X (.BoolOp .And (a::b::rest) pos) (Hn tA tB'):=by
 intro k d s f H Q I h;refine isTrue_and (aV (ha d s f H _ I h) λc s1 e=>?_);obtain⟨j,i,g⟩:=e;cases c with
 |true=>exact hb k d s1 f j Q i g|false=>exact⟨j,i,g⟩
theorem DY(ha:PT X a tA)(hb:PW X (.BoolOp .Or (b::rest) pos) tB'):PW X (.BoolOp .Or (a::b::rest) pos) (J9 tA tB'):=by
 intro k d s f H Q I h;refine isTrue_or (aV (ha d s f H _ I h) λc s1 e=>?_);obtain⟨j,i,g⟩:=e;cases c with
 |true=>exact⟨j,i,g⟩|false=>exact hb k d s1 f j Q i g
theorem Au(ha:PT X a tA):PT X (.UnaryOp .Not a pos) (Hq tA):=by
 intro d s e H Q I h;exact isTrue_not (aV (ha d s e H (λc g=>Q (!c) g) I h) λc j z=>by obtain⟨i,f,q⟩:=z;exact⟨i,f,q⟩)
noncomputable def DZ(ta tb:TE):TE:=λd H Q=>ta d H λx e=>∃c,x=.bl c/\if c=KQ then tb d e Q else Q (.bl KR) e
noncomputable def Hr(ta tb:TE):TE:=λd H Q=>ta d H λx e=>∃c,x=.bl c/\if c=KQ then Q (.bl KQ) e else tb d e Q
noncomputable def D1(ta:TE):TE:=λd H Q=>ta d H λx e=>∃c,x=.bl c/\Q (.bl (!c)) e
theorem Av{op}{t:TE}(h:PE X a t):PE X (.BoolOp op [a] pos) t:=λc s d H Q I hw=>BoolOp_one (h c s d H Q I hw)
theorem Aw(ha:PE X a ta)(hb:PE X (.BoolOp .And (b::rest) pos) tb):PE X (.BoolOp .And (a::b::rest) pos) (DZ ta tb):=by
 intro d s g H Q I h;refine BoolOp_and (aV (ha d s g H _ I h) λv s1 f=>?_);obtain⟨x,j,i,k,e⟩:=f;obtain⟨c,rfl,e⟩:=e;cases k;refine Ml ?_;cases c with
 |true=>exact hb d s1 g j Q i e|false=>exact⟨.bl KR,j,i,rfl,e⟩
theorem D2(ha:PE X a ta)(hb:PE X (.BoolOp .Or (b::rest) pos) tb):PE X (.BoolOp .Or (a::b::rest) pos) (Hr ta tb):=by
 intro d s g H Q I h;refine BoolOp_or (aV (ha d s g H _ I h) λv s1 f=>?_);obtain⟨x,j,i,k,e⟩:=f;obtain⟨c,rfl,e⟩:=e;cases k;refine Ml ?_;cases c with
 |false=>exact hb d s1 g j Q i e|true=>exact⟨.bl KQ,j,i,rfl,e⟩
theorem Ax(ha:PE X a ta):PE X (.UnaryOp .Not a pos) (D1 ta):=by
 intro d s g H Q I h;refine UnaryOp_ (aV (ha d s g H _ I h) λv s1 e=>?_);obtain⟨x,k,j,i,f⟩:=e;obtain⟨c,rfl,f⟩:=f;cases i;exact not_of (Ml ⟨.bl (!c),k,j,rfl,f⟩)
noncomputable def J_(t:TT)(ta tb:TE):TE:=λd H Q=>t d H λc e=>if c=KQ then ta d e Q else tb d e Q
theorem uc{c:K_}(l:PT X c tA)(ha:PE X a ta)(hb:PE X b tb):PE X (.IfExp c a b pos) (J_ tA ta tb):=by
 intro e s f H Q I h;refine wpAny_IfExp (aV (l e s f H _ I h) λd s1 g=>?_);obtain⟨k,j,i⟩:=g;cases d with
 |true=>exact ha e s1 f k Q j i|false=>exact hb e s1 f k Q j i
end
end L2
namespace L2
open PySem PySem.Spec PyProof.Rows
noncomputable def dF(K:K2)(H:Hp)(a:KY)(xs:List V):Prop:=Rd H a (.lst xs)\/∃(o:Mc)(b:Array KO)(n:Nat),K.lookup a=KJ o/\o.cls=.type "list"/\o.dict=KP/\o.data=.seq b n/\b.size<=KZ/\aq xs b.toList
noncomputable def gp(K:K2)(H:Hp)(a:KY)(xs:List V):Prop:=Rd H a (.tup xs)\/∃(o:Mc)(b:Array KO)(n:Nat),K.lookup a=KJ o/\o.cls=.type "tuple"/\o.data=.seq b n/\b.size<=KZ/\aq xs b.toList
noncomputable def Ht:KO->Option V
 |.none=>KJ .bx|.bool b=>KJ (.bl b)|.int i _=>KJ (.int i)|.str x _=>KJ (.str x)|.bytes b _=>KJ (.Ak b)|.float b _=>KJ (.Dw b)|.ref a=>KJ (.ref a)|.type n=>KJ (.ty n)|_=>KP
theorem RelV.abs{x:V}{u:KO}(r:RelV x u):Ht u=KJ x:=by cases x with
 |bx=>cases r;rfl|bl _=>cases r;rfl|int _=>obtain⟨t,rfl⟩:=r;rfl|str _=>obtain⟨t,rfl⟩:=r;rfl|Ak _=>obtain⟨t,rfl⟩:=r;rfl|Dw _=>obtain⟨t,rfl⟩:=r;rfl|ref _=>cases r;rfl|ty _=>cases r;rfl
theorem RelV.inj{x y:V}{u:KO}(r:RelV x u)(q:RelV y u):x=y:=K1 (r.abs.symm.trans q.abs)
theorem aq.inj:∀{xs ys:List V}{us:List KO},aq xs us->aq ys us->xs=ys
 |_,_,_,.nil,.nil=>rfl|_,_,_,.cons r t,.cons b a=>by rw[r.inj b,aq.inj t a]
section
variable{X:Cx}{pins:List (KY×Mc)}{σ:St}{H:Hp}{s:KW}{a:KY}{xs ys:List V}
theorem dF.of{K:K2}(h:H a=KJ (.lst xs)):dF K H a xs:=.inl (.inl h)
theorem gp.of{K:K2}(h:H a=KJ (.tup xs)):gp K H a xs:=.inl (.inl h)
theorem Inv.list(I:Inv X pins σ H s)(h:dF X.K H a xs):∃b:List KO,aq xs b/\PlainL s.heap a b.toArray/\xs.length<=KZ:=by
 rcases h with h|⟨o,b,n,d,f,hd,c,g,r⟩
 .obtain⟨z,b,n,r,e⟩:=h.ok I.aN;exact⟨b,r,⟨_,n,e,rfl,rfl,rfl⟩,z⟩
 .refine⟨b.toList,r,⟨o,n,I.kK a o d,f,hd,by simpa using c⟩,?_⟩;have e:=r.length;simp only[Mi]at e;omega
theorem Inv.tuple(I:Inv X pins σ H s)(h:gp X.K H a xs):∃b:List KO,aq xs b/\QH s.heap a b.toArray/\xs.length<=KZ:=by
 rcases h with h|⟨o,b,n,d,f,c,g,r⟩
 .obtain⟨z,b,r,p⟩:=h.ok I.aN;exact⟨b,r,p,z⟩
 .refine⟨b.toList,r,⟨o,I.kK a o d,f,n,by simpa using c⟩,?_⟩;have e:=r.length;simp only[Mi]at e;omega
theorem Inv.ud(I:Inv X pins σ H s)(h:dF X.K H a xs)(h':dF X.K H a ys):xs=ys:=by
 obtain⟨c,r,⟨o,n,e,_,_,d⟩,_⟩:=I.list h;obtain⟨b,i,⟨k,l,f,_,_,g⟩,_⟩:=I.list h';rw[e]at f;cases f;rw[d]at g;injection g with j _;have:c=b:=by simpa using congrArg RX j
 subst this;exact r.inj i
theorem Inv.sI(I:Inv X pins σ H s)(h:gp X.K H a xs)(h':gp X.K H a ys):xs=ys:=by
 obtain⟨c,r,⟨o,e,_,n,d⟩,_⟩:=I.tuple h;obtain⟨b,i,⟨k,f,_,l,g⟩,_⟩:=I.tuple h';rw[e]at f;cases f;rw[d]at g;injection g with j _;have:c=b:=by simpa using congrArg RX j
 subst this;exact r.inj i
end
noncomputable abbrev Cx.kO(X:Cx)(E:KO->KW->Prop):Cx:={X with xe:=E}
noncomputable abbrev Cx.Dy(X:Cx):Cx:=X.kO λ_ _=>False
theorem Cx.Ok.kO{X:Cx}(ok:X.Ok)(E:KO->KW->Prop):(X.kO E).Ok:=⟨ok.mod,ok.kind,ok.glob,ok.blt,ok.above,ok.inj,ok.has,ok.Dx,ok.hd,ok.frames,ok.DR,ok.Hl,ok.bs,ok.xt,ok.sG,ok.ua,ok.i7,ok.Am⟩
theorem Cx.Ok.eN{X:Cx}{E:KO->KW->Prop}(ok:(X.kO E).Ok):X.Ok:=⟨ok.mod,ok.kind,ok.glob,ok.blt,ok.above,ok.inj,ok.has,ok.Dx,ok.hd,ok.frames,ok.DR,ok.Hl,ok.bs,ok.xt,ok.sG,ok.ua,ok.i7,ok.Am⟩
section
variable{X:Cx}{pins:List (KY×Mc)}{σ:St}{H:Hp}{s:KW}{E:KO->KW->Prop}
theorem Inv.kO(I:Inv X pins σ H s)(E:KO->KW->Prop):Inv (X.kO E) pins σ H s:=⟨I.ok.kO E,I.os,I.bare,I.base,I.loc,I.cell,I.free,I.cY,I.pin,I.aN,I.len⟩
theorem Inv.eN(I:Inv (X.kO E) pins σ H s):Inv X pins σ H s:=⟨I.ok.eN,I.os,I.bare,I.base,I.loc,I.cell,I.free,I.cY,I.pin,I.aN,I.len⟩
theorem SP.eN{D:Ends}{f:Flow}{c:KW}(h:SP (X.kO E) pins D f c):SP X pins D f c:=by cases f with
 |next=>obtain⟨a,b,I,q⟩:=h;exact⟨a,b,I.eN,q⟩|brk=>obtain⟨a,b,I,q⟩:=h;exact⟨a,b,I.eN,q⟩|cont=>obtain⟨a,b,I,q⟩:=h;exact⟨a,b,I.eN,q⟩|ret u=>obtain⟨v,a,b,I,r,q⟩:=h;exact⟨v,a,b,I.eN,r,q⟩
theorem nj.Dy{st:List MU}{t:TS}(h:nj X.Dy st t):nj X st t:=λpins s σ H D I hw=>ML (h pins s σ H D (I.kO _) hw) (λ_ _ q=>q.eN) λ_ _ z=>MM z
end
section
variable{X:Cx}{st:MU}{rest:List MU}{t u:TS}{e:K_}{te:TE}{pos:MB}
noncomputable def D3:TS:=λD a H=>D.nx a H
noncomputable def Hu(t u:TS):TS:=λD a H=>t {D with nx:=u D} a H
theorem jg:nj X [] D3:=λ_ _ a H _ I h=>O_ ⟨a,H,I,h⟩
theorem a_(g:PS X st t)(d:nj X rest u):nj X (st::rest) (Hu t u):=by
 intro a s c H D I h;refine wpAny_execs_cons (aV (g a s c H {D with nx:=u D} I h) λf s1 q=>?_);cases f with
 |next=>
  obtain⟨b,j,i,q⟩:=q;exact d a s1 b j D i q|ret v=>exact q|brk=>exact q|cont=>exact q
theorem gq(c:PS X st t):nj X [st] t:=by
 intro a s b H D I h;refine wpAny_execs_cons (aV (c a s b H D I h) λf s1 q=>?_);cases f with
 |next=>exact O_ q|ret v=>exact q|brk=>exact q|cont=>exact q
theorem Inv.quiet{a:List (KY×Mc)}{b:St}{H:Hp}{s:KW}(I:Inv X a b H s):interactive X.env=KR:=by simp[interactive,I.ok.kind]
noncomputable def D4(te:TE):TS:=λD a H=>te a H λ_ b=>D.nx a b
theorem me(f:PE X e te)(d:N0 e KP pos.line X.env=pure KR:=by rfl):PS X (.Expr e pos) (D4 te):=by
 intro a s b H D I h;exact wpAny_Expr_any (aV (f a s b H _ I h) λv s1⟨x,i,g,j,c⟩=>⟨b,i,g,c⟩) I.quiet d
noncomputable def Hv(te:TE):TS:=λD a H=>te a H D.rt
theorem fQ(f:PE X e te):PS X (.Return (KJ e) pos) (Hv te):=by
 intro a s b H D I h;exact wpAny_Return_some (aV (f a s b H _ I h) λv s1⟨x,i,g,c,d⟩=>⟨x,b,i,g,c,d⟩)
noncomputable def Hw(c:TT)(t u:TS):TS:=λD a H=>c a H λb d=>if b=KQ then t D a d else u D a d
theorem qU{c:K_}{a b:List MU}{tc:TT}(m:PT X c tc)(ha:nj X a t)(hb:nj X b u):PS X (.If c a b pos) (Hw tc t u):=by
 intro f s g H D I h;refine wpAny_If (aV (m f s g H _ I h) λd s1 i=>?_);obtain⟨l,k,j⟩:=i;cases d with
 |true=>exact ha f s1 g l D k j|false=>exact hb f s1 g l D k j
end
abbrev TG:=V->St->Hp->(St->Hp->Prop)->Prop
abbrev xw:=List V->St->Hp->(St->Hp->Prop)->Prop
noncomputable def PG(X:Cx)(a:K_)(t:TG):Prop:=∀(b:List (KY×Mc))(s:KW)(d:St)(H:Hp)(v:V)(u:KO)(Q:St->Hp->Prop),Inv X b d H s->RelV v u->t v d H Q->wpAny (K7 X.prog X.w) X.A (PX a X.env u) (λ_ f=>∃c e,Inv X b c e f/\Q c e) X.xe s
noncomputable def zF(X:Cx)(g:List K_)(t:xw):Prop:=∀(a:List (KY×Mc))(s:KW)(c:St)(H:Hp)(d:List V)(e:List KO)(Q:St->Hp->Prop),Inv X a c H s->aq d e->t d c H Q->wpAny (K7 X.prog X.w) X.A (PY ((Ma g X.env).map (·.2)) e) (λ_ h=>∃b f,Inv X a b f h/\Q b f) X.xe s
abbrev Ay:=V->V->V->Hp->(Hp->Prop)->Prop
noncomputable def D8(X:Cx)(t:Ay):Prop:=∀(a:List (KY×Mc))(s:KW)(b:St)(H:Hp)(o i v:V)(c iv u:KO)(Q:Hp->Prop),Inv X a b H s->RelV o c->RelV i iv->RelV v u->t o i v H Q->wpAny (K7 X.prog X.w) X.A (setItem c iv u) (λ_ e=>∃d,Inv X a b d e/\Q d) X.xe s
section
variable{X:Cx}{pos:MB}
noncomputable def kZ(i:Nat):TG:=λv a H Q=>Q (a.set i (KJ v)) H
theorem mh{i:Nat}{x:Li}(hN:X.N.Nodup)(c:X.N[i]?=KJ x)(b:Loc X.env.scope x)(d:X.fn x=KQ\/X.env.scope.names.lookup x=KJ .local:=by first|exact .inl rfl|exact .inr rfl|assumption):PG X (.Name x pos) (kZ i):=by
 intro a s f H v u Q I r h;exact wpAny_assign_Name (gm I hN c b r (λg e=>⟨_,H,e,h⟩) d)
noncomputable def Hx:xw:=λb a H Q=>b=[]/\Q a H
noncomputable def D9(t:TG)(u:xw):xw:=λc b H Q=>∃v r,c=v::r/\t v b H λa d=>u r a d Q
theorem xx:zF X [] Hx:=by
 intro a s b H c d Q I r h;obtain⟨e,h⟩:=h;subst e;cases r;exact RY ⟨b,H,I,h⟩
theorem uf{e:K_}{b:List K_}{t:TG}{u:xw}(l:PG X e t)(k:zF X b u)(j:(Ma (e::b) X.env).map (·.2)=PX e X.env::(Ma b X.env).map (·.2):=by rfl):zF X (e::b) (D9 t u):=by
 intro a s f H p w Q I r h;obtain⟨v,q,m,h⟩:=h;subst m;cases r with|cons r g=>
  rw[j];refine Pl (aV (l a s f H _ _ _ I r h) λ_ s1 d=>?_);obtain⟨c,o,n,i⟩:=d;exact k a s1 c o _ _ Q n g i
noncomputable def Hy(K:K2)(n:Nat)(t:xw):TG:=λv c H Q=>∃a b,v=.ref a/\gp K H a b/\b.length=n/\t b c H Q
theorem Az{d:List K_}{k:Nat}{t:xw}{n:Nat}(z:X.calm=KQ)(h:zF X d t)(x:(Ma d X.env).length=n:=by rfl)(f:(Ma d X.env).findIdx? (·.1)=KP:=by rfl):PG X (.Tuple d k pos) (Hy X.K n t):=by
 intro c s g H v u Q I r hw;obtain⟨a,l,B,w,y,hw⟩:=hw;subst B;cases r;obtain⟨m,i,q,D⟩:=I.tuple w;refine assign_Tuple_tuple (I.ok.hd z) q (by simp[x,<-y,i.length]) f λA p=>?_;have C:Inv X c g H {s with heap:=A}:=I.kept (t':=s.toks) λb o e=>p b o (Lu (K8 e)) e;exact h c _ g H l _ Q C (by simpa using i) hw
noncomputable def Hz(to ti:TE)(t:Ay):TG:=λv a H Q=>to a H λo d=>ti a d λi c=>t o i v c λb=>Q a b
theorem pF{o i:K_}{to ti:TE}{t:Ay}(m:PE X o to)(n:PE X i ti)(l:D8 X t)(ha:∀v,PX (.Subscript o i pos) X.env v=(do
   let c<-Qm [v] (MW o X.env)let iv<-Qm [v,c] (MW i X.env)Rp pos;Qm [v,c,iv] (setItem c iv v)release [v,c,iv] []):=by intro _;rfl):PG X (.Subscript o i pos) (Hz to ti t):=by
 intro b s d H v u Q I r h;rw[ha];refine KL (LK (aV (m b s d H _ I h) λc s1 a=>?_));obtain⟨x,B,w,f,k⟩:=a;refine KL (LK (aV (n b s1 d B _ w k) λiv s2 a=>?_));obtain⟨y,A,q,e,j⟩:=a;refine KL (Om (KL (LK (aV (l b s2 d A x y v c iv u _ q f e r j) λ_ C a=>?_))));obtain⟨z,p,g⟩:=a;exact wpAny_release ⟨d,z,p,g⟩
noncomputable def AA(te:TE)(g:TG):TS:=λD a H=>te a H λx b=>g x a b D.nx
theorem mi{tg e:K_}{te:TE}{g:TG}(j:PE X e te)(i:PG X tg g)(f:PZ [tg] e pos.line X.env=pure KR:=by rfl)(hw:MZ [tg] e X.env=pure KP:=by rfl)(k:(Ma [tg] X.env).map (·.2)=[PX tg X.env]:=by rfl):PS X (.Assign [tg] e pos) (AA te g):=by
 intro a s b H D I h;refine wpAny_Assign_stores (aV (j a s b H _ I h) λv s1⟨x,m,l,c,d⟩=>?_) f hw;rw[k];exact aV (i a s1 b m x v _ l c d) λ_ s2 q=>q
theorem cD{i:Nat}{x:Li}{e:K_}{te:TE}{a:MB}(hN:X.N.Nodup)(k:X.N[i]?=KJ x)(g:Loc X.env.scope x)(m:PE X e te)(j:N0 e (KJ (.Name x a)) pos.line X.env=pure KR:=by rfl)(l:X.fn x=KQ\/X.env.scope.names.lookup x=KJ .local:=by first|exact .inl rfl|exact .inr rfl|assumption):PS X (.Assign [.Name x a] e pos) (AA te (kZ i)):=by
 intro b s c H D I h;refine wpAny_Assign_Name (aV (m b s c H _ I h) λv s1⟨y,p,o,d,f⟩=>?_) j;exact gm o hN k g d (λs2 n=>⟨_,p,n,f⟩) l
noncomputable def D_(i j:Nat)(c:TA):TS:=λD a H=>c a H λb d=>∃v w,b=[v,w]/\D.nx ((a.set i (KJ v)).set j (KJ w)) d
theorem AB{i j:Nat}{x y:Li}{a b:K_}{z:TA}{n m pt:MB}{kt k2 pt2}(T:X.calm=KQ)(hN:X.N.Nodup)(S:X.N[i]?=KJ x)(R:X.N[j]?=KJ y)(t:i≠j)(C:X.env.scope.names.lookup x=KJ .local)(B:X.env.scope.names.lookup y=KJ .local)(ha:PA X [a,b] z)(hw:MZ [.Tuple [.Name x n,.Name y m] kt pt] (.Tuple [a,b] k2 pt2) X.env=pure (KJ [x,y]))(Q:PZ [.Tuple [.Name x n,.Name y m] kt pt] (.Tuple [a,b] k2 pt2) pos.line X.env=pure KR:=by rfl):PS X (.Assign [.Tuple [.Name x n,.Name y m] kt pt] (.Tuple [a,b] k2 pt2) pos) (D_ i j z):=by
 intro c s u H D I h;rw[exec_Assign_arm];refine KL (Om ?_);rw[Q];refine KL (KS ?_);rw[if_neg (by decide)];refine KL (Tuple_ (aV (ha _ c s u H _ I h) λK s1 g=>?_));obtain⟨vs,J,I1,M,l⟩:=g;obtain⟨v,w,U,l⟩:=l;subst U;obtain⟨f,d,rfl,L,k⟩:∃f d,K=[f,d]/\RelV v f/\RelV w d:=by cases M with|cons p q=>cases q with|cons P O=>
    cases O;exact⟨_,_,rfl,p,P⟩
 refine LH ?_ (by show 2<=KZ;decide);have Z:Inv X c u J {s1 with heap:=s1.heap.push {cls:=.type "tuple",data:=.seq [f,d].toArray}}:=I1.kept (t':=s1.toks) λb o e=>KU _ e;rw[hw];refine KL (KS ?_);show wpAny (K7 X.prog X.w) X.A (do Qn "assign.swapped-stores";let items<-unpackItems (.ref s1.heap.objs.size) 2 KP;PY [λv=>Sx X.env y v,λv=>Sx X.env x v] items.reverse;pure Flow.next) _ _ _;refine KL (Nj (KL (unpackItems_tuple (items:=#[f,d]) (I.ok.hd T) (Rq s1.heap _) λh' r=>?_)));have Y:=Z.kept (h':=h') (t':=s1.toks) λb o e=>r b o (Lu (K8 e)) e;show wpAny _ _ (PY [λv=>Sx X.env y v,λv=>Sx X.env x v] [d,f]>>=λ_=>pure Flow.next) _ _ _;refine KL (Pl (wpAny_bindName (gm Y hN R (.inl B) k (λs2 W=>?_) (.inr B))));refine Pl (wpAny_bindName (gm W hN S (.inl C) L (λs3 G=>RY (KS ?_)) (.inr C)));rw[List.set_comm _ _ (LS t)]at G;exact⟨_,J,G,l⟩
end
section
variable{X:Cx}{pos:MB}
noncomputable def AD(c:TT)(h:TS):TS:=λD a H=>∃W:Nat->St->Hp->Prop,(∃m,W m a H)/\∀m a H,W m a H->c a H λb f=>if b=KQ then∃N:St->Hp->Prop,(∀d g,N d g->∃e,e<m/\W e d g)/\h {D with nx:=N,ct:=N,bk:=D.nx} a f else D.nx a f
theorem ug{c:K_}{body:List MU}{tc:TT}{t:TS}(u:P5 (K7 X.prog X.w) X.A X.env X.xe)(K:PT X c tc)(hb:nj X body t):PS X (.While c body [] pos) (AD tc t):=by
 intro d s C H D I h;obtain⟨W,⟨J,F⟩,i⟩:=h;refine wpAny_While (codeAny_whileLoop (λn G=>∃g B,Inv X d g B G/\W n g B) ?_ J ⟨C,H,I,F⟩);rintro n s1⟨e,z,L,E⟩;refine Nv u (aV (K d s1 e z _ L (i n e z E)) λb s2 m=>?_);obtain⟨y,x,l⟩:=m;cases b with
 |true=>
  obtain⟨N,hN,l⟩:=l;rw[if_pos rfl];refine Nv u (aV (hb d s2 e y _ x l) λf M k=>?_);cases f with
  |next=>
   obtain⟨a,j,r,n3⟩:=k;obtain⟨p,q,o⟩:=hN a j n3;exact⟨p,q,a,j,r,o⟩|cont=>
   obtain⟨a,j,r,n3⟩:=k;obtain⟨p,q,o⟩:=hN a j n3;exact⟨p,q,a,j,r,o⟩|brk=>exact k|ret v=>exact k
 |false=>
  rw[if_neg Ld];exact O_ ⟨e,y,x,l⟩
end
structure It where
 go:Nat->Hp->Prop
 GG:Nat->Hp->V->Hp->Prop
 stop:Nat->Hp->Prop
noncomputable def dG(X:Cx)(a:List (KY×Mc))(H:Hp)(b:KY):Prop:=H b=KP/\b≠X.env.locals/\b∉X.fs/\(b∈X.ex\/X.b7.heap.objs.size<=b)/\(∀x c,X.env.cells.lookup x=KJ c->c≠b)/\∀p∈X.pn++a,p.1≠b
theorem Inv.AE{X:Cx}{a:List (KY×Mc)}{d:St}{H H':Hp}{s:KW}{b:KY}(I:Inv X a d H s)(hb:s.heap.objs.size<=b)(g:H' b=KP):dG X a H' b:=by
 refine⟨g,Ng (Lh I.lt hb),I.An hb,.inr (L_ I.sz hb),λx c e z=>?_,λp f z=>?_⟩
 .obtain⟨v,q⟩:=I.cell x c e;exact absurd (Lh q.lt (by rw[z];exact hb)) (LX _)
 .exact absurd (Lh (K8 (I.pin p f).1) (by rw[z];exact hb)) (LX _)
structure Turn(P:Le)(w:Ly)(K:K2)(tg:K_)(J:It)(fp:List KY)(it:KY)(tn:Nat->Lx->Prop):Prop where
 mem:it∈fp
 obj:∀i h,tn i h->∀b∈fp,∃o,h.get? b=KJ o/\∀v,o.data≠.cell v
 keep:∀i h h',tn i h->(∀b∈fp,∀o,h.get? b=KJ o->h'.get? b=KJ o)->tn i h'
 item:∀(X:Cx),X.prog=P->X.w=w->X.K=K->X.calm=KQ->∀(i:Nat)(pins:List (KY×Mc))(s:KW)(σ:St)(H:Hp)(E:KO->KW->Prop),Inv X pins σ H s->(∀b∈fp,dG X pins H b)->tn i s.heap->J.go i H->wpAny (K7 P w) X.A (N4 (.ref it)) (λr s1=>∃u,r=KJ u/\wpAny (K7 P w) X.A (Oy tg (.ref it) u) (λ_ s2=>∃x H',Inv X pins σ H' s2/\RelV x u/\J.GG i H x H'/\tn (i+1) s2.heap/\∀b∈fp,H' b=KP) E s1) E s
 done:∀(X:Cx),X.prog=P->X.w=w->X.K=K->X.calm=KQ->∀(i:Nat)(pins:List (KY×Mc))(s:KW)(σ:St)(H:Hp)(E:KO->KW->Prop),Inv X pins σ H s->(∀b∈fp,dG X pins H b)->tn i s.heap->J.stop i H->wpAny (K7 P w) X.A (N4 (.ref it)) (λr s1=>r=KP/\Inv X pins σ H s1) E s
 self:∀(A:LC)(i:Nat)(s:KW)(Q:KO->KW->Prop)(E:KO->KW->Prop),tn i s.heap->Q (.ref it) s->wpAny (K7 P w) A (Sg (.ref it)) Q E s
abbrev TI:=St->Hp->(It->Hp->Prop)->Prop
noncomputable def JI(X:Cx)(a:List (KY×Mc))(h:St)(tg:K_)(R:It->Hp->Prop)(c:KO)(s2:KW):Prop:=∃(f:KY)(g:List KY)(e:Nat->Lx->Prop)(J:It)(d:Hp),c=.ref f/\Inv X a h d s2/\Turn X.prog X.w X.K tg J g f e/\e 0 s2.heap/\(∀b∈g,dG X a d b)/\R J d
noncomputable def PI(X:Cx)(tg iter:K_)(c:TI):Prop:=∀(a:List (KY×Mc))(s:KW)(b:St)(H:Hp)(R:It->Hp->Prop),Inv X a b H s->c b H R->wpAny (K7 X.prog X.w) X.A (MW iter X.env) (λv s1=>wpAny (K7 X.prog X.w) X.A (Sg v) (JI X a b tg R) X.xe s1) X.xe s
theorem nv{M:Si}{A:LC}{E:KO->KW->Prop}{s:KW}{tg:K_}{it:KY}{u:KO}{o:Mc}{n:String}{b:Array KO}{Q:Unit->KW->Prop}(c:s.heap.get? it=KJ o)(e:o.cls=.type n)(hd:o.data=.fields b)(d:["enumerate","zip","dict_itemiterator","dict_reverseitemiterator","odict_iterator","itertools.zip_longest","itertools.pairwise"].contains n=KR)(a:Q () s):wpAny M A (Oy tg (.ref it) u) Q E s:=by
  unfold Oy;cases tg<;>first
    |exact KS a|(cases u<;>first
        |exact KS a
        | (refine KL (wpAny_load c ?_);rw[e,hd];show wpAny M A (if(["enumerate","zip","dict_itemiterator","dict_reverseitemiterator","odict_iterator","itertools.zip_longest","itertools.pairwise"].contains n&&b[0]?==KJ (OJ _))=KQ then _ else _) Q E s;rw[if_neg (by intro h;rw[d,Q_]at h;cases h)];exact KS a))
noncomputable def JJ(K:K2)(a:KY):It:=⟨λi H=>∃b x,dF K H a b/\b[i]?=KJ x,λi H x c=>c=H/\∀b,dF K H a b->b[i]?=KJ x,λi H=>∃b,dF K H a b/\b.length<=i⟩
noncomputable def JK(K:K2)(a:KY):It:=⟨λi H=>∃b x,gp K H a b/\b[i]?=KJ x,λi H x c=>c=H/\∀b,gp K H a b->b[i]?=KJ x,λi H=>∃b,gp K H a b/\b.length<=i⟩
noncomputable def HA(lo:Int)(n:Nat):It:=⟨λi _=>i<n,λi H x a=>a=H/\x=.int (lo+i),λi _=>n<=i⟩
theorem sJ{P:Le}{w:Ly}{K:K2}{tg:K_}(a it:KY):Turn P w K tg (JJ K a) [it] it (λi h=>h.IsListIter it a i)where
 mem:=by simp
 obj:=λi h st b hb=>by
  have e:b=it:=by simpa using hb
  subst e;obtain⟨o,e,c,d⟩:=st;exact⟨o,e,λv z=>by rw[d]at z;cases z⟩
 keep:=λi h n st k=>st.at λo e=>k it (by simp) o e;item:=by
  intro X hP hw hK J i f s G H E I m st y;subst hP hw hK;obtain⟨L,x,l,t⟩:=y;obtain⟨r,q,p,O⟩:=I.list l;obtain⟨u,hu,N⟩:=q.get t;obtain⟨F,D,R,C,B,A⟩:=m it (by simp);refine Qo st p.isList (x:=u) (by simpa using hu) λn g M=>?_;have T:Inv X f G H {s with heap:=n}:=I.turned (t':=s.toks) (λb o hb e=>(M.2 b hb).trans e) F D C B A;obtain⟨o,e,c,d⟩:=id g;exact⟨u,rfl,nv (s:={s with heap:=n}) e c d (by decide) ⟨x,H,T,N,⟨rfl,λU Q=>by rw[I.ud Q l];exact t⟩,g,λb hb=>(m b hb).1⟩⟩
 done:=by
  intro X hP hw hK J i f s G H E I m st y;subst hP hw hK;obtain⟨L,l,t⟩:=y;obtain⟨r,q,p,O⟩:=I.list l;obtain⟨F,D,R,C,B,A⟩:=m it (by simp);have V:=q.length;exact QY (I.ok.hd J) st p.isList (by simp;omega) λn S=>⟨rfl,I.turned (t':=s.toks) (λb o hb e=>S b o hb e) F D C B A⟩
 self:=λ_ _ _ _ _ st h=>wpAny_pyIter_listiter st h
theorem pG{P:Le}{w:Ly}{K:K2}{tg:K_}(a it:KY):Turn P w K tg (JK K a) [it] it (λi h=>h.IsTupleIter it a i)where
 mem:=by simp
 obj:=λi h st b hb=>by
  have e:b=it:=by simpa using hb
  subst e;obtain⟨o,e,c,d⟩:=st;exact⟨o,e,λv z=>by rw[d]at z;cases z⟩
 keep:=λi h q st k=>st.at λo e=>k it (by simp) o e;item:=by
  intro X hP hw hK J i f s G H E I n st y;subst hP hw hK;obtain⟨L,x,m,t⟩:=y;obtain⟨g,r,p,O⟩:=I.tuple m;obtain⟨u,hu,N⟩:=r.get t;obtain⟨F,D,R,C,B,A⟩:=n it (by simp);refine wpAny_pyNext_tuple_item st (show s.heap.IsTuple a g.toArray from p) (x:=u) (by simpa using hu) λq j M=>?_;have T:Inv X f G H {s with heap:=q}:=I.turned (t':=s.toks) (λb o hb e=>(M.2 b hb).trans e) F D C B A;obtain⟨o,e,c,d⟩:=id j;exact⟨u,rfl,nv (s:={s with heap:=q}) e c d (by decide) ⟨x,H,T,N,⟨rfl,λU Q=>by rw[I.sI Q m];exact t⟩,j,λb hb=>(n b hb).1⟩⟩
 done:=by
  intro X hP hw hK J i f s G H E I n st y;subst hP hw hK;obtain⟨L,m,t⟩:=y;obtain⟨g,r,p,O⟩:=I.tuple m;obtain⟨F,D,R,C,B,A⟩:=n it (by simp);have V:=r.length;exact wpAny_pyNext_tuple_end (I.ok.hd J) st (show s.heap.IsTuple a g.toArray from p) (by simp;omega) λq S=>⟨rfl,I.turned (t':=s.toks) (λb o hb e=>S b o hb e) F D C B A⟩
 self:=λ_ _ _ _ _ st h=>wpAny_pyIter_tupleiter st h
theorem pH{P:Le}{w:Ly}{K:K2}{tg:K_}(it:KY)(lo:Int)(n:Nat):Turn P w K tg (HA lo n) [it] it (λi h=>IsRangeIter h it (lo+(i:Nat)*1) ((n:Int)-(i:Nat)) 1)where
 mem:=by simp
 obj:=λi h st b hb=>by
  have e:b=it:=by simpa using hb
  subst e;exact⟨_,st,λv z=>by
   have B:Data.fields _=Data.cell v:=z;cases B⟩
 keep:=λi h j st k=>k it (by simp) _ st;item:=by
  intro X hP hw hK m i a s y H E I g st l;subst hP hw hK;obtain⟨x,u,F,r,q,p⟩:=g it (by simp);have W:=Walks.range (prog:=X.prog) (w:=X.w) (I.ok.hd m) it lo 1 n;refine W.item i s _ _ l st λv j A D d C=>?_;obtain⟨t,rfl⟩:=D;have J:Inv X a y H {s with heap:=j,toks:=A}:=I.turned (λb o hb e=>C b o (by simpa using hb) e) x u r q p;refine⟨_,rfl,nv (s:={s with heap:=j,toks:=A}) (n:="range_iterator") d rfl rfl (by decide) ⟨.int (lo+i),H,J,⟨t,?_⟩,⟨rfl,rfl⟩,d,λb hb=>(g b hb).1⟩⟩;rw[Int.mul_one]
 done:=by
  intro X hP hw hK m i a s y H E I g st l;subst hP hw hK;obtain⟨x,u,F,r,q,p⟩:=g it (by simp);exact wpAny_pyNext_range_end (I.ok.hd m) st (by have:n<=i:=l;omega) λj G=>⟨rfl,I.turned (t':=s.toks) (λb o hb e=>G b o hb e) x u r q p⟩
 self:=λ_ _ _ _ _ st h=>wpAny_pyIter_rangeiter st h
end L2
namespace L2
open PySem PySem.Spec PyProof.Rows
section
variable{X:Cx}{tg:K_}
theorem uh{d:List (KY×Mc)}{i:St}{H:Hp}{s:KW}{R:It->Hp->Prop}{E:KO->KW->Prop}{lo c:Int}{t u v:SN}{j:Nat}(I:Inv X d i H s)(p:-(2^62)<=lo)(n:lo<2^62)(m:-(2^62)<=c)(l:c<2^62)(q:R (HA lo (c-lo).toNat) H):wpAny (K7 X.prog X.w) X.A (Sg (.ref s.heap.objs.size)) (JI X d i tg R) E {s with heap:=s.heap.push {cls:=.type "range",data:=.fields #[.int lo t,.int c u,.int 1 v]},toks:=j}:=by
 refine wpAny_pyIter_range (IsRange.new ..) (small_one p n m l) ?_;have k:Inv X d i H {s with heap:=s.heap.push {cls:=.type "range",data:=.fields #[.int lo t,.int c u,.int 1 v]},toks:=j}:=I.kept λb o e=>KU _ e;refine⟨(s.heap.push {cls:=.type "range",data:=.fields #[.int lo t,.int c u,.int 1 v]}).objs.size,[(s.heap.push {cls:=.type "range",data:=.fields #[.int lo t,.int c u,.int 1 v]}).objs.size],_,_,H,rfl,k.kept (t':=j) λb o e=>KU _ e,pH _ lo (c-lo).toNat,?_,λb hb=>?_,q⟩
 .have x:lo+((0:Nat):Int)*1=lo:=by simp
  have r:(((c-lo).toNat:Nat):Int)-((0:Nat):Int)=P6 lo c 1:=by rw[rangeSize_one];split<;>omega
  show IsRangeIter _ _ (lo+((0:Nat):Int)*1) ((((c-lo).toNat:Nat):Int)-((0:Nat):Int)) 1;rw[x,r];exact Lb _ rfl
 .have e:b=(s.heap.push {cls:=.type "range",data:=.fields #[.int lo t,.int c u,.int 1 v]}).objs.size:=by simpa using hb
  subst e;exact k.AE (La _) (k.aN.fresh (La _))
noncomputable def Ea(c:TA):TI:=λa H R=>c a H λb d=>∃j:Int,b=[.int j]/\-(2^62)<=j/\j<2^62/\R (HA 0 j.toNat) d
theorem sL{a:K_}{d:TA}{p pos:MB}(n:Gl X "range")(m:X.mg "range"=KP)(ha:PA X [a] d)(l:Lg [a] X.env=[(KR,MW a X.env)]:=by rfl):PI X tg (.Call (.Name "range" p) [a] [] pos) (Ea d):=by
 intro b s f H R I h;refine Call_ (eM I n m boot_range (Mm (aV (ha pos b s f H _ I h) λv s1⟨u,w,o,i,c⟩=>?_) l rfl));obtain⟨j,e,c,k,q⟩:=c;subst e;cases i with|cons r g=>
  cases g;obtain⟨t,rfl⟩:=r;exact call_range_1 (uh o (by omega) (by omega) c k (by simpa using q))
noncomputable def HB(f:TI)(g:TG)(h:TS):TS:=λD a H=>f a H λJ k=>∃W:Nat->Nat->St->Hp->Prop,(∃m,W 0 m a k)/\∀i m a H,W i m a H->(J.stop i H/\D.nx a H)\/(J.go i H/\∃N:St->Hp->Prop,(∀b c,N b c->∃e,e<m/\W (i+1) e b c)/\∀x c,J.GG i H x c->g x a c λd j=>h {D with nx:=N,ct:=N,bk:=D.nx} d j)
noncomputable def dY(fp:List KY)(h:Lx):List (KY×Mc):=fp.filterMap λb=>(h.get? b).map λo=>(b,o)
theorem dZ{fp:List KY}{h:Lx}{b:KY}{o:Mc}(hb:b∈fp)(e:h.get? b=KJ o):(b,o)∈dY fp h:=List.mem_filterMap.mpr ⟨b,hb,by rw[e];rfl⟩
theorem k8{fp:List KY}{h:Lx}{p:KY×Mc}(a:p∈dY fp h):p.1∈fp/\h.get? p.1=KJ p.2:=by
 obtain⟨b,hb,e⟩:=List.mem_filterMap.mp a;cases q:h.get? b with
 |none=>rw[q]at e;cases e|some o=>
  rw[q]at e;have c:(b,o)=p:=K1 e;subst c;exact⟨hb,q⟩
theorem Inv.pinned{a:List (KY×Mc)}{c:St}{H:Hp}{s:KW}{fp:List KY}(I:Inv X a c H s)(i:∀b∈fp,dG X a H b)(h:∀b∈fp,∃o,s.heap.get? b=KJ o/\∀v,o.data≠.cell v):Inv X (a++dY fp s.heap) c H s:=I.dX λp g=>(List.mem_append.mp g).elim (λz=>I.pin p (Lj _ z)) λz=>by
  obtain⟨hb,e⟩:=k8 z;obtain⟨l,k,j,_⟩:=i p.1 hb;obtain⟨o,f,d⟩:=h p.1 hb;rw[e]at f;cases f;exact⟨e,l,k,j,d⟩
theorem Inv.gr{a pl:List (KY×Mc)}{b:St}{H:Hp}{s:KW}(I:Inv X (a++pl) b H s):Inv X a b H s:=I.dX λp c=>I.pin p (Lj _ (M0 _ c))
theorem AF{iter:K_}{body:List MU}{V:TI}{g:TG}{Z:TS}{pos:MB}(G:P5 (K7 X.prog X.w) X.A X.env X.xe)(hc:X.calm=KQ)(hi:PI X tg iter V)(hg:PG X tg g)(hb:nj X body Z)(hs:∀x,Nx iter X.env x=pure x:=by intro _;rfl):PS X (.For tg iter body [] pos) (HB V g Z):=by
 intro c s U H D I h;refine wpAny_For (aV (hi c s U H _ I h) λv s1 h1=>aV h1 λa0 s2 h2=>?_) hs;obtain⟨it,L,Y,J,H2,e,I2,T,aX,f2,W,⟨m0,w0⟩,C⟩:=h2;subst e;have p:∀{y:Hp},(∀b∈L,y b=KP)->∀b∈L,dG X c y b:=λhn b hb=>⟨hn b hb,(f2 b hb).2⟩;refine codeAny_forLoop_any (λn s'=>∃i l y,Inv X c l y s'/\Y i s'.heap/\(∀b∈L,y b=KP)/\W i n l y) ?_ m0 ⟨0,U,H2,I2,aX,λb hb=>(f2 b hb).1,w0⟩;rintro n s3⟨i,k,M,I3,E,K,w3⟩;rcases C i n k M w3 with⟨stop,qn⟩|⟨go,N,hN,step⟩
 .refine Nv G (aV (T.done X rfl rfl rfl hc i c s3 k M X.xe I3 (p K) E stop) λr s4 j=>?_);obtain⟨Q,I4⟩:=j;subst Q;exact O_ ⟨k,M,I4,qn⟩
 .refine Nv G (aV (T.item X rfl rfl rfl hc i c s3 k M X.xe I3 (p K) E go) λr s4 j=>?_);obtain⟨u,Q,h4⟩:=j;subst Q;refine Nv G (aV h4 λ_ s5 j=>?_);obtain⟨x,H5,I5,r5,y5,B,R⟩:=j;have S:=I5.pinned (p R) (T.obj _ _ B);refine Nv G (aV (hg _ s5 k H5 x u _ S r5 (step x H5 y5)) λ_ s6 j=>?_);obtain⟨O,H6,I6,q6⟩:=j;refine Nv G (aV (hb _ s6 O H6 _ I6 q6) λf P z=>?_);have SV:∀{a:St}{t:Hp},Inv X (c++dY L s5.heap) a t P->N a t->∃m,m<n/\∃i l y,Inv X c l y P/\Y i P.heap/\(∀b∈L,y b=KP)/\W i m l y:=λ{a t}q F=>by
   obtain⟨m',hm,w7⟩:=hN a t F;refine⟨m',hm,i+1,a,t,q.gr,T.keep _ _ _ B λb hb o e=>(q.pin (b,o) (Lj _ (Lj _ (dZ hb e)))).1,λb hb=>?_,w7⟩;obtain⟨o,e,d⟩:=T.obj _ _ B b hb;exact(q.pin (b,o) (Lj _ (Lj _ (dZ hb e)))).2.1
  cases f with
  |next=>obtain⟨a,t,q,F⟩:=z;exact SV q F|cont=>obtain⟨a,t,q,F⟩:=z;exact SV q F|brk=>obtain⟨a,t,q,z⟩:=z;exact⟨a,t,q.gr,z⟩|ret v=>obtain⟨x7,a,t,q,r7,z⟩:=z;exact⟨x7,a,t,q.gr,r7,z⟩
end
end L2
namespace L2
open PySem PySem.Spec PyProof.Rows
abbrev R2:=V->V->Hp->VK->Prop
noncomputable def i8(X:Cx)(f:KO->KO->Py KO)(r:R2):Prop:=∀(a:List (KY×Mc))(s:KW)(b:St)(H:Hp)(x y:V)(v u:KO)(Q:VK),Inv X a b H s->RelV x v->RelV y u->r x y H Q->wpAny (K7 X.prog X.w) X.A (f v u) (EP X a b Q) X.xe s
noncomputable def HC(X:Cx)(f:KO->Py KO)(r:V->Hp->VK->Prop):Prop:=∀(a:List (KY×Mc))(s:KW)(b:St)(H:Hp)(x:V)(v:KO)(Q:VK),Inv X a b H s->RelV x v->r x H Q->wpAny (K7 X.prog X.w) X.A (f v) (EP X a b Q) X.xe s
noncomputable def dH(X:Cx)(f:KO)(r:List V->Hp->VK->Prop):Prop:=∀(a:List (KY×Mc))(s:KW)(b:St)(H:Hp)(c:List V)(d:List KO)(Q:VK),Inv X a b H s->aq c d->r c H Q->wpAny (K7 X.prog X.w) X.A (call f d) (EP X a b Q) X.xe s
noncomputable def HD(X:Cx)(r:V->Hp->(Bool->Hp->Prop)->Prop):Prop:=∀(a:List (KY×Mc))(s:KW)(b:St)(H:Hp)(x:V)(v:KO)(Q:Bool->Hp->Prop),Inv X a b H s->RelV x v->r x H Q->wpAny (K7 X.prog X.w) X.A (truthy v) (TP X a b Q) X.xe s
noncomputable def Eb(r:R2)(c b:TE):TE:=λa H Q=>c a H λx e=>b a e λy d=>r x y d Q
noncomputable def Ka(r:V->Hp->VK->Prop)(b:TE):TE:=λa H Q=>b a H λx c=>r x c Q
noncomputable def rI(C:Int->Int->Prop)(g:Int->Int->V):R2:=λx y H Q=>∃i j,x=.int i/\y=.int j/\C i j/\Q (g i j) H
noncomputable def zG(g:Int->Int->V):R2:=λx y H Q=>∃i j,x=.int i/\y=.int j/\Q (g i j) H
noncomputable def rU(g:Int->V):V->Hp->VK->Prop:=λx H Q=>∃i,x=.int i/\Q (g i) H
section
variable{X:Cx}{a b c:K_}{ta tb tc:TE}{pos:MB}
theorem AG(ha:PE X a ta)(hb:PE X b tb){d:List (KY×Mc)}{s:KW}{g:St}{H:Hp}{R:V->V->Hp->Prop}(I:Inv X d g H s)(h:ta g H λx l=>tb g l λy i=>R x y i){Q:KO->KW->Prop}{f:KO->KO->Py KO}(q:∀v u s2 x y i,Inv X d g i s2->RelV x v->RelV y u->R x y i->wpAny (K7 X.prog X.w) X.A (f v u) Q X.xe s2):wpAny (K7 X.prog X.w) X.A (MW a X.env) (λv k=>wpAny (K7 X.prog X.w) X.A (MW b X.env) (λu j=>wpAny (K7 X.prog X.w) X.A (f v u) Q X.xe j) X.xe k) X.xe s:=by
 refine aV (ha d s g H _ I h) λv s1 e=>?_;obtain⟨x,l,t,n,p⟩:=e;refine aV (hb d s1 g l _ t p) λu s2 e=>?_;obtain⟨y,i,r,m,o⟩:=e;exact q v u s2 x y i r n m o
theorem bg{op:Ra}{r:R2}(i:i8 X (Nk op) r)(ha:PE X a ta)(hb:PE X b tb):PE X (.BinOp a op b pos) (Eb r ta tb):=by
 intro d s e H Q I h;exact wpAny_BinOp (AG ha hb I h λv u s2 x y k j g f q=>i d s2 e k x y v u Q j g f q)
theorem Ec{op:UnaryOp}{r:V->Hp->VK->Prop}(i:HC X (unaryOp op) r)(ha:PE X a ta):PE X (.UnaryOp op a pos) (Ka r ta):=by
 intro d s e H Q I h;exact UnaryOp_ (aV (ha d s e H _ I h) λv s1⟨x,k,j,f,g⟩=>i d s1 e k x v Q j f g)
theorem GH{f:KO->KO->Py KO}{C:Int->Int->Prop}{g:Int->Int->Int}(Qn:∀(i j:Int)(t u:SN)(s:KW)(Q:KO->KW->Prop)(E:KO->KW->Prop),C i j->Q (.int (g i j) s.toks) {s with toks:=s.toks+1}->wpAny (K7 X.prog X.w) X.A (f (.int i t) (.int j u)) Q E s):i8 X f (rI C λi j=>.int (g i j)):=by
 intro d s n H x y v u Q I l k h;obtain⟨i,j,rfl,rfl,m,q⟩:=h;obtain⟨t,rfl⟩:=l;obtain⟨e,rfl⟩:=k;exact Qn i j t e s _ _ m ⟨.int (g i j),H,I.tok _,⟨_,rfl⟩,q⟩
theorem HE{f:KO->KO->Py KO}{g:Int->Int->Int}(Qn:∀(i j:Int)(t u:SN)(s:KW)(Q:KO->KW->Prop)(E:KO->KW->Prop),Q (.int (g i j) s.toks) {s with toks:=s.toks+1}->wpAny (K7 X.prog X.w) X.A (f (.int i t) (.int j u)) Q E s):i8 X f (zG λi j=>.int (g i j)):=by
 intro d s m H x y v u Q I l k h;obtain⟨i,j,rfl,rfl,q⟩:=h;obtain⟨t,rfl⟩:=l;obtain⟨e,rfl⟩:=k;exact Qn i j t e s _ _ ⟨.int (g i j),H,I.tok _,⟨_,rfl⟩,q⟩
theorem xy{f:KO->KO->Py KO}{g:Int->Int->Bool}(Qn:∀(i j:Int)(t u:SN)(s:KW)(Q:KO->KW->Prop)(E:KO->KW->Prop),Q (.bool (g i j)) s->wpAny (K7 X.prog X.w) X.A (f (.int i t) (.int j u)) Q E s):i8 X f (zG λi j=>.bl (g i j)):=by
 intro d s m H x y v u Q I l k h;obtain⟨i,j,rfl,rfl,q⟩:=h;obtain⟨t,rfl⟩:=l;obtain⟨e,rfl⟩:=k;exact Qn i j t e s _ _ ⟨.bl (g i j),H,I,rfl,q⟩
noncomputable def HF(i j:Int):Prop:=0<j/\j<1073741824
noncomputable def Ed(i j:Int):Prop:=0<=j/\j<=1000000/\i.natAbs<2^64
noncomputable def xA(i j:Int):Prop:=(-(2^64)<i/\i<2^64)\/(-(2^64)<j/\j<2^64)
theorem xA.ok{i j:Int}(h:xA i j):IntMulOk i j:=by
 rcases h with⟨e,d⟩|⟨e,d⟩;.exact .of_left (intBits_le_64 e d)
 .exact .of_right (intBits_le_64 e d)
theorem jt:i8 X (Nk .Add) (zG λi j=>.int (i+j)):=HE λ_ _ _ _ _ _ _ q=>add_int q
theorem fR:i8 X (Nk .Mult) (rI xA λi j=>.int (i*j)):=GH λ_ _ _ _ _ _ _ d q=>mul_int q d.ok
theorem mj:i8 X (Nk .FloorDiv) (rI HF λi j=>.int (i/j)):=GH λi j _ _ _ _ _ d q=>by
 have f:(0:Int)<j:=d.1;have e:j<1073741824:=d.2;exact floordiv_int (by omega) (by rw[Int.fdiv_eq_ediv_of_nonneg i (by omega)];exact q) (.inl (PyProof.noPylong_small (by omega)))
theorem dw:i8 X (Nk .Mod) (rI (λ_ j=>0<j) λi j=>.int (i%j)):=GH λi j _ _ _ _ _ d q=>by
 have e:(0:Int)<j:=d;exact mod_int' (by omega) (by rw[Int.fmod_eq_emod_of_nonneg i (by omega)];exact q)
theorem ui:i8 X (Nk .Pow) (rI Ed λi j=>.int (i^j.toNat)):=GH λ_ _ _ _ _ _ _ d q=>pow_int_small d.1 d.2.1 d.2.2 q
theorem Kb{f:KO->Py KO}{g:Int->Int}(Qn:∀(i:Int)(t:SN)(s:KW)(Q:KO->KW->Prop)(E:KO->KW->Prop),Q (.int (g i) s.toks) {s with toks:=s.toks+1}->wpAny (K7 X.prog X.w) X.A (f (.int i t)) Q E s):HC X f (rU λi=>.int (g i)):=by
 intro d s j H x v Q I e h;obtain⟨i,rfl,q⟩:=h;obtain⟨t,rfl⟩:=e;exact Qn i t s _ _ ⟨.int (g i),H,I.tok _,⟨_,rfl⟩,q⟩
theorem AH:HC X (unaryOp .USub) (rU λi=>.int (-i)):=Kb λ_ _ _ _ _ q=>neg_int q
end
section
variable{X:Cx}{a b c:K_}{ta tb tc:TE}{pos:MB}
theorem zH:i8 X (LA .Lt) (zG λi j=>.bl (decide (i<j))):=xy λ_ _ _ _ _ _ _ q=>lt_int q
theorem Ee:i8 X (LA .LtE) (zG λi j=>.bl (decide (i<=j))):=xy λ_ _ _ _ _ _ _ q=>le_int q
theorem uj:i8 X (LA .Gt) (zG λi j=>.bl (decide (j<i))):=xy λ_ _ _ _ _ _ _ q=>gt_int q
theorem Ef:i8 X (LA .GtE) (zG λi j=>.bl (decide (j<=i))):=xy λ_ _ _ _ _ _ _ q=>ge_int q
theorem gZ(b:K_){op:Oo}(h:op≠.In:=by decide)(d:op≠.NotIn:=by decide):N1 op b=KR:=by
 have f:(op==CmpOp.In)=KR:=by cases op<;>first|rfl|exact absurd rfl h
 have e:(op==CmpOp.NotIn)=KR:=by cases op<;>first|rfl|exact absurd rfl d
 cases b<;>simp[N1,f,e]
theorem xB{op:Oo}{r:R2}(i:i8 X (LA op) r)(ha:PE X a ta)(hb:PE X b tb)(j:N1 op b=KR):PE X (.Compare a [op] [b] pos) (Eb r ta tb):=by
 intro d s e H Q I h;exact wpAny_Compare1 (AG ha hb I h λv u s2 x y l k g f q=>i d s2 e l x y v u Q k g f q) j
noncomputable def uk(t:TE):TT:=λd H Q=>t d H λx e=>∃k,x=.bl k/\Q k e
theorem fw{op:Oo}{r:R2}(o:i8 X (LA op) r)(ha:PE X a ta)(hb:PE X b tb)(p:N1 op b=KR):PT X (.Compare a [op] [b] pos) (uk (Eb r ta tb)):=by
 intro d s f H Q I h;refine wpAny_isTrue_Compare1 (aV (ha d s f H _ I h) λv s1⟨x,C,w,j,n⟩=>aV (hb d s1 f C _ w n) λu s2⟨y,B,t,i,m⟩=>aV (o d s2 f B x y v u _ t j i m) λc D⟨z,A,q,g,k,e,l⟩=>?_) p;subst e;cases g;exact Ml ⟨A,q,l⟩
noncomputable def pI(r g:R2)(ta tb tc:TE):TE:=λd H Q=>ta d H λx j=>tb d j λy i=>r x y i λz e=>∃k,z=.bl k/\(if k=KQ then tc d e λf h=>g y f h Q else Q (.bl KR) e)
theorem um{op g:Oo}{r m:R2}(J:i8 X (LA op) r)(j:i8 X (LA g) m)(ha:PE X a ta)(hb:PE X b tb)(L:PE X c tc)(K:Rr [op,g] [b,c]=KR:=by with_unfolding_all rfl):PE X (.Compare a [op,g] [b,c] pos) (pI r m ta tb tc):=by
 intro f s i H Q I h;refine Compare_chain (aV (ha f s i H _ I h) λv s1⟨x,S,O,D,G⟩=>chain_link (aV (hb f s1 i S _ O G) λu s2⟨y,R,N,l,F⟩=>aV (J f s2 i R x y v u _ N D l F) λd A⟨z,p,o,C,k,e,n⟩=>?_)) K;subst e;cases C;refine Ml ?_;cases k with
 |false=>exact ite_ff ⟨.bl KR,p,o,rfl,n⟩|true=>exact ite_tt (chain_last (aV (L f A i p _ o n) λt w⟨q,P,M,B,E⟩=>j f w i P y q u t Q M l B E))
theorem uo{op g:Oo}{r n:R2}(N:i8 X (LA op) r)(l:i8 X (LA g) n)(ha:PE X a ta)(hb:PE X b tb)(P:PE X c tc)(O:Rr [op,g] [b,c]=KR:=by with_unfolding_all rfl):PT X (.Compare a [op,g] [b,c] pos) (uk (pI r n ta tb tc)):=by
 intro f s i H Q I h;refine isTrue_chain (aV (ha f s i H _ I h) λv s1⟨x,H1,W,F,L⟩=>test_link (aV (hb f s1 i H1 _ W L) λu s2⟨y,H2,V,m,K⟩=>aV (N f s2 i H2 x y v u _ V F m K) λd B⟨z,q,p,E,k,e,o⟩=>?_)) O;subst e;cases E;refine Ml ?_;cases k with
 |false=>
  obtain⟨k',S,M⟩:=o;cases S;exact ite_ff ⟨q,p,M⟩|true=>
  refine ite_tt (test_last (aV (P f B i q _ p o) λw A⟨t,Z,U,D,J⟩=>aV (l f A i Z y t u w _ U m D J) λd' s5 j=>?_));obtain⟨z2,Y,T,C,k2,R,G⟩:=j;subst R;cases C;exact Ml ⟨Y,T,G⟩
noncomputable def Eg(K:K2)(x:V)(H:Hp)(k:Bool):Prop:=match x with
 |.bx=>k=KR|.bl b=>k=b|.int i=>k=(i !=0)|.str y=>y.length<=KZ/\k=((y.length:Int)!=0)|.Ak y=>y.size<=KZ/\k=((y.size:Int)!=0)|.ref p=>(∃d,dF K H p d/\k=!d.isEmpty)\/(∃d,gp K H p d/\k=!d.isEmpty)\/∃e,H p=KJ (.dK e)/\k=!e.isEmpty|_=>False
theorem pJ{e:Type}{d:List (e×V)}{f:List (e×KO)}(r:KV d f):(!f.isEmpty)=!d.isEmpty:=by cases r<;>rfl
theorem ju{xs:List V}{d:List KO}(r:aq xs d):(!d.toArray.isEmpty)=!xs.isEmpty:=by cases r<;>simp
theorem fS:(KZ:Nat)<2^63:=by rw[N8];decide
theorem AI:HD X (λx H Q=>∃k,Eg X.K x H k/\Q k H):=by
 intro z s D H x v Q I l h;obtain⟨k,e,q⟩:=h;have F:=fS;have E:KZ=16777216:=N8;cases x with
 |bx=>
  cases l;have d:k=KR:=e;subst d;exact truthy_none ⟨H,I,q⟩|bl b=>
  cases l;have d:k=b:=e;subst d;exact Ml ⟨H,I,q⟩|int i=>
  obtain⟨t,rfl⟩:=l;have d:k=(i !=0):=e;subst d;exact PySem.P.truthy_int ⟨H,I,q⟩|str y=>
  obtain⟨t,rfl⟩:=l;obtain⟨B,d⟩:y.length<=KZ/\k=((y.length:Int)!=0):=e;subst d;exact PySem.P.truthy_str (by omega) ⟨H,I.tok _,q⟩|Ak y=>
  obtain⟨t,rfl⟩:=l;obtain⟨B,d⟩:y.size<=KZ/\k=((y.size:Int)!=0):=e;subst d;exact PySem.W.truthy_bytes (by omega) ⟨H,I.tok _,q⟩|ref p=>
  cases l;have d:(∃j,dF X.K H p j/\k=!j.isEmpty)\/(∃j,gp X.K H p j/\k=!j.isEmpty)\/∃f,H p=KJ (.dK f)/\k=!f.isEmpty:=e;rcases d with⟨j,n,d⟩|⟨j,n,d⟩|⟨f,n,d⟩
  .subst d;obtain⟨u,r,pl,A⟩:=I.list n;have g:=r.length;exact wpAny_truthy_list pl.isList (by simp only[K6];omega) ⟨H,I.tok _,by rw[ju r];exact q⟩
  .subst d;obtain⟨u,r,pl,A⟩:=I.tuple n;have g:=r.length;exact truthy_tuple pl (by simp only[K6];omega) ⟨H,I.tok _,by rw[ju r];exact q⟩
  .subst d;obtain⟨A,C,o,r,m⟩:f.length<=KZ/\(p==Mx)=KR/\∃o,KV f o/\s.heap.DictOf (ar X.prog X.w) p o:=I.aN p _ n;have g:f.length=o.length:=Paired.length r;exact wpAny_truthy_dict C m (by omega) ⟨H,I.tok _,by rw[pJ r];exact q⟩|_=>exact(show False from e).elim
theorem uq(ha:PE X a ta)(i:∀whole,RI a X.env whole=(do let v<-whole;Rp a.pos;Qm [v] (truthy v))):PT X a (λe H Q=>ta e H λx H'=>∃k,Eg X.K x H' k/\Q k H'):=by
 intro d s e H Q I h;exact isTrue_plain (aV (ha d s e H _ I h) λv s1⟨x,l,j,f,g⟩=>AI d s1 e l x v Q j f g) (i _)
theorem vals1{x:V}{us:List KO}(r:aq [x] us):∃u,us=[u]/\RelV x u:=by cases r with|cons e d=>cases d;exact⟨_,rfl,e⟩
theorem vals2{x y:V}{us:List KO}(r:aq [x,y] us):∃u w',us=[u,w']/\RelV x u/\RelV y w':=by cases r with|cons g f=>cases f with|cons e d=>cases d;exact⟨_,_,rfl,g,e⟩
noncomputable def HG(K:K2)(x:V)(H:Hp)(n:Nat):Prop:=match x with
 |.str y=>y.length<=KZ/\n=y.length|.Ak y=>y.size<=KZ/\n=y.size|.ref p=>(∃d,dF K H p d/\n=d.length)\/∃d,gp K H p d/\n=d.length|_=>False
theorem uu:dH X (.builtin "len") (λxs H Q=>∃x n,xs=[x]/\HG X.K x H n/\Q (.int n) H):=by
 intro l s v H xs w Q I r h;obtain⟨x,n,rfl,e,q⟩:=h;obtain⟨u,rfl,g⟩:=vals1 r;have A:=fS;have z:KZ=16777216:=N8;cases x with
 |str y=>
  obtain⟨t,rfl⟩:=g;obtain⟨o,f⟩:y.length<=KZ/\n=y.length:=e;subst f;exact len_str (by omega) ⟨.int _,H,I.tok _,⟨_,rfl⟩,q⟩|Ak y=>
  obtain⟨t,rfl⟩:=g;obtain⟨o,f⟩:y.size<=KZ/\n=y.size:=e;subst f;exact PySem.W.len_bytes (by omega) ⟨.int _,H,I.tok _,⟨_,rfl⟩,q⟩|ref p=>
  cases g;have f:(∃xs,dF X.K H p xs/\n=xs.length)\/∃xs,gp X.K H p xs/\n=xs.length:=e;rcases f with⟨xs,k,f⟩|⟨xs,k,f⟩
  .subst f;obtain⟨j,i,pl,m⟩:=I.list k;have d:=i.length;exact Rw pl.isList (by simp only[K6];omega) ⟨.int xs.length,H,I.tok _,⟨_,by simp only[K6];rw[d]⟩,q⟩
  .subst f;obtain⟨j,i,pl,m⟩:=I.tuple k;have d:=i.length;exact len_tuple pl (by simp only[K6];omega) ⟨.int xs.length,H,I.tok _,⟨_,by simp only[K6];rw[d]⟩,q⟩|_=>exact(show False from e).elim
end
end L2
namespace L2
open PySem PySem.Spec PyProof.Rows
structure AJ(h:Lx)(x dx C:KY)(mA:Li->Option KO):Prop where
 obj:h.get? x=KJ (QJ C dx)ns:h.Ns1 dx mA
 ne:dx≠x
theorem sM{h:Lx}{g:KY}{d:Li->Option KO}(n:h.Ns1 g d):∃c,h.get? g=KJ c/\∀name,Rb name c=KJ (d name):=by
 obtain⟨o,f,p,j,hd,l,_,k⟩:=n;refine⟨o,j,λname=>?_⟩;have e:=k name;unfold nsFind findBy at e;rw[<-Array.find?_toList]at e;unfold Rb;rw[hd];dsimp only;split
 .rename_i y q;rw[q]at e;exact congrArg KJ e
 .rename_i q;rw[q]at e;have a:f.toList.any (·.refKey)=KR:=by
   rw[List.any_eq_false];intro y i;obtain⟨z,t,b⟩:=l y (Array.mem_toList_iff.mp i);simp[DictEntry.refKey,b]
  have m:¬f.toList.any (·.refKey)=KQ:=by rw[a];exact Ld
  rw[if_neg m];exact congrArg KJ e
theorem AJ.look{h:Lx}{x c C:KY}{b:Li->Option KO}(I:AJ h x c C b):∃a,PySem.W.InstAt h x (QJ C c) C (KJ a)/\∀name,Rb name a=KJ (b name):=let⟨a,d,e⟩:=sM I.ns;⟨a,⟨I.obj,rfl,rfl,d⟩,e⟩
theorem ma.some_of{v:V}{o:Option KO}(r:ma (KJ v) o):∃u,o=KJ u/\RelV v u:=by cases o with
 |none=>exact(show False from r).elim|some u=>exact⟨u,rfl,r⟩
section
variable{P:Le}{w:Ly}{H H':Hp}{h h':Lx}{a C dx:KY}{fs fs':List (Li×V)}
theorem xC(aN:iK P w H h)(e:H a=KJ (.ins C dx fs)):∃b,AJ h a dx C b/\(∀f,ma (fs.lookup f) (b f))/\PySem.Within b (fs.map (·.1))/\fs.length<=1000/\H dx=KJ (.own a):=by
 obtain⟨d,z,ne,ob,b,n,r,q⟩:=(show bo P w H h a (.ins C dx fs)from aN a _ e);exact⟨b,⟨ob,n,ne⟩,r,q,z,d⟩
end
structure HH(K:K2)(C:KY):Prop where
 pg:PySem.W.plainGet K C Str.empty=KQ
 hd:PySem.W.hasDictIn K C=KQ
 po:PySem.W.plainOver K C=KQ
 sa:PySem.W.findIn K (.ref C) "__setattr__"=KJ (KJ (.builtin "object.__setattr__"))
theorem HH.get{K:K2}{C:KY}(c:HH K C)(f:Li):PySem.W.plainGet K C f=KQ:=c.pg
section
variable{X:Cx}{pins:List (KY×Mc)}{σ:St}{H:Hp}{s:KW}{A:LC}{E:KO->KW->Prop}{Q:KO->KW->Prop}{c:KO}{b:Bool}
inductive i9(K:K2)(H:Hp):V->KO->Prop where|bx:i9 K H .bx (.type "NoneType")|bl(x:Bool):i9 K H (.bl x) (.type "bool")|int(i:Int):i9 K H (.int i) (.type "int")|str(x:Li):i9 K H (.str x) (.type "str")|Dw(x:UInt64):i9 K H (.Dw x) (.type "float")|lst{a:KY}{xs:List V}(e:H a=KJ (.lst xs)):i9 K H (.ref a) (.type "list")|b6{a:KY}{o:Mc}{xs:List V}(e:H a=KJ (.b6 o (.lst xs))):i9 K H (.ref a) (.type "list")|tup{a:KY}{xs:List V}(e:H a=KJ (.tup xs)):i9 K H (.ref a) (.type "tuple")|dK{a:KY}{kvs:List (Key×V)}(e:H a=KJ (.dK kvs)):i9 K H (.ref a) (.type "dict")|dT{a:KY}{kvs:List (List Key×V)}(e:H a=KJ (.dT kvs)):i9 K H (.ref a) (.type "dict")|ins{a C dx:KY}{fs:List (Li×V)}(e:H a=KJ (.ins C dx fs))(cl:HH K C)(ha:PySem.W.findIn K (.ref C) "__class__"=KJ (KJ (.builtin "object.__class__")))(hn:PySem.W.specialIn K (.builtin "object.__class__") "__get__"=KJ (KJ (.builtin "getset_descriptor.__get__")))(htk:PySem.W.takesIn K (.builtin "object.__class__")=KJ KQ)(hm:PySem.W.mroIn K C (.type "object")=KJ KQ):i9 K H (.ref a) (.ref C)
theorem fx{x:V}{u t:KO}(I:Inv X pins σ H s)(d:RelV x u)(ty:i9 X.K H x t)(e:Nl X.K t c=KJ b)(h:∀v,Q (.bool b) {s with toks:=v}):wpAny (K7 X.prog X.w) A (call (.builtin "isinstance") [u,c]) Q E s:=by cases ty with
 |bx=>cases(show u=MH from d);exact L8 PySem.W.kitx_none I.kK Pm e (λz=>nomatch z) h|bl y=>cases(show u=N7 y from d);exact L8 PySem.W.kitx_bool I.kK Pm e (λz=>nomatch z) h|int i=>obtain⟨t,q⟩:=(show∃t,u=Ro i t from d);cases q;exact L8 PySem.W.kitx_int I.kK Pm e (λz=>nomatch z) h|str y=>obtain⟨t,q⟩:=(show∃t,u=Sf y t from d);cases q;exact L8 PySem.W.kitx_str I.kK Pm e (λz=>nomatch z) h|Dw y=>obtain⟨t,q⟩:=(show∃t,u=Value.float y t from d);cases q;exact L8 PySem.W.kitx_float I.kK Pm e (λz=>nomatch z) h|@lst a k f=>
  cases(show u=Ln a from d);obtain⟨_,_,n,_,g⟩:=(show bo X.prog X.w H s.heap a (.lst k)from I.aN a _ f);exact L8 PF I.kK ⟨_,g,rfl⟩ e (λz=>nomatch z) h|@b6 a ob k f=>
  cases(show u=Ln a from d);obtain⟨_,_,_,n,_,g⟩:=(show bo X.prog X.w H s.heap a (.b6 ob (.lst k))from I.aN a _ f);exact L8 PF I.kK ⟨_,g,rfl⟩ e (λz=>nomatch z) h|@tup a k f=>
  cases(show u=Ln a from d);obtain⟨_,_,_,p⟩:=(show bo X.prog X.w H s.heap a (.tup k)from I.aN a _ f);obtain⟨o,g,l,_⟩:=p;exact L8 RJ I.kK ⟨o,g,l⟩ e (λz=>nomatch z) h|@dK a j f=>
  cases(show u=Ln a from d);obtain⟨_,_,L,_,p⟩:=(show bo X.prog X.w H s.heap a (.dK j)from I.aN a _ f);obtain⟨o,F,G,g,l,_⟩:=p;exact L8 RZ I.kK ⟨o,g,l.1⟩ e (λz=>nomatch z) h|@dT a j f=>
  cases(show u=Ln a from d);obtain⟨_,_,k,_,o,F,G,g,l,_⟩:=(show bo X.prog X.w H s.heap a (.dT j)from I.aN a _ f);exact L8 RZ I.kK ⟨o,g,l.1⟩ e (λz=>nomatch z) h|@ins a C P fs f r ha B m D=>
  cases(show u=Ln a from d);obtain⟨N,O,_⟩:=xC I.aN f;obtain⟨M,J,_⟩:=O.look;exact L8 (PySem.W.kitx_own (r.get _) r.hd ha B m D) I.kK J e (λz=>nomatch z) h
end
end L2
namespace L2
open PySem PySem.Spec PyProof.Rows
structure cM(k:Nat)(A:LC):Prop where
 hd:A.handled=KP
 dp:A.depth+3*k+5<recursionLimit
 un:A.units+16*k+200<L9
 gd:A.guards=KJ []
theorem cM.mono{j k:Nat}{A:LC}(r:cM k A)(h:j<=k):cM j A:=⟨r.hd,by have:=r.dp;omega,by have:=r.un;omega,r.gd⟩
theorem cM.deeper{k:Nat}{A:LC}(r:cM (k+1) A)(env:Q8):cM k (A.deeper env):=⟨r.hd,by have:=r.dp;show A.depth+1+3*k+5<_;omega,by have:=r.un;show A.units+3+16*k+200<_;omega,r.gd⟩
theorem cM.depth{k:Nat}{A:LC}(r:cM k A):A.depth<recursionLimit:=by have:=r.dp;omega
theorem cM.units{k:Nat}{A:LC}(r:cM k A):A.units+64<L9:=by have:=r.un;omega
noncomputable def Eh:TA:=λ_ H Q=>Q [] H
noncomputable def zI(d:TE)(c:TA):TA:=λa H Q=>d a H λx f=>c a f λb e=>Q (x::b) e
section
variable{X:Cx}{e:K_}{es:List K_}{te:TE}{t:TA}{pos:MB}
theorem bQ:PA X [] Eh:=λ_ _ _ _ H Q I h=>PH ⟨[],H,I,.nil,h⟩
theorem aQ(ha:PE X e te)(l:PA X es t)(k:Lg (e::es) X.env=(KR,MW e X.env)::Lg es X.env:=by rfl):PA X (e::es) (zI te t):=by
 intro pos a s c H Q I h;rw[k];show wpAny _ _ (SO ((KR,MW e X.env)::NQ pos (Lg es X.env))) _ _ s;refine Pn (aV (ha a s c H _ I h) λu s1 b=>?_);obtain⟨x,p,n,g,j⟩:=b;exact aV (l pos a s1 c p _ n j) λq s2⟨d,o,m,f,i⟩=>⟨x::d,o,m,.cons g f,i⟩
noncomputable def HI(t:TA):TE:=λc H Q=>t c H λa b=>a.length<=KZ/\∀p,b p=KP->Q (.ref p) (upd b p (.tup a))
noncomputable def HJ(t:TA):TE:=λc H Q=>t c H λa b=>a.length<=KZ/\∀p,b p=KP->Q (.ref p) (upd b p (.lst a))
theorem AK{x1}(h:PA X es t):PE X (.Tuple es x1 pos) (HI t):=by
 intro a s f H Q I j;refine wpAny_Tuple_spliced (aV (h pos a s f H _ I j) λi s1⟨g,d,c,r,z,q⟩=>⟨by rw[<-r.length];exact z,?_⟩);have k:d s1.heap.objs.size=KP:=c.aN.fresh (La _);refine⟨.ref s1.heap.objs.size,upd d s1.heap.objs.size (.tup g),c.laid (t':=s1.toks) (λb u e=>KU _ e) (La _) ?_,rfl,q _ k⟩;exact⟨z,i,r,⟨_,Lb _ rfl,rfl,_,rfl⟩⟩
theorem ml(h:PA X es t):PE X (.List es pos) (HJ t):=by
 intro a s f H Q I j;refine wpAny_List_spliced (aV (h pos a s f H _ I j) λi s1⟨g,d,c,r,z,q⟩=>⟨by rw[<-r.length];exact z,?_⟩);have k:d s1.heap.objs.size=KP:=c.aN.fresh (La _);refine⟨.ref s1.heap.objs.size,upd d s1.heap.objs.size (.lst g),c.laid (t':=s1.toks) (λb u e=>KU _ e) (La _) ?_,rfl,q _ k⟩;exact⟨z,i,0,r,Lb _ rfl⟩
end
abbrev Sp:=List V->Hp->VK->XK->Prop
abbrev tX:=List Q8->Hp->KW->XK->KO->KW->Prop
structure xD(P:Le)(w:Ly)(K:K2)(mg:Li->Option KO)(base:Lx)(A:LC)(outer:List Q8)(s:KW)(H:Hp):Prop where
 frames:A.frames=KJ outer
 mod:Mod K mg base
 bs:∀b o,base.get? b=KJ o->s.heap.get? b=KJ o/\H b=KP
 xt:base.objs.size<=s.heap.objs.size
 i7:s.heap.FunFrames base outer
 Am:∀b∈sF outer,H b=KP
 aN:iK P w H s.heap
 bare:PD s.gens
noncomputable def CE(outer:List Q8)(P:Le)(w:Ly)(H:Hp)(s:KW)(Q:VK)(u:KO)(a:KW):Prop:=∃v b,a.os=s.os/\PD a.gens/\Un (sF outer) [] H b s.heap a.heap/\iK P w b a.heap/\RelV v u/\Q v b
noncomputable def CR(CX:tX)(outer:List Q8)(P:Le)(w:Ly)(H:Hp)(s:KW)(Q:VK)(E:XK)(r:Result)(a:KW):Prop:=match r with
 |.ok (.ret u)=>CE outer P w H s Q u a|.ok _=>False|.error e=>CX outer H s E e a
structure dI(P:Le)(w:Ly)(K:K2)(mg:Li->Option KO)(base:Lx)(CX:tX)(k:Nat)(f:KY)(fd:Mo)(ps:List Li)(sp:Sp):Prop where
 len:∀vs H Q E,sp vs H Q E->vs.length=ps.length
 run:∀(A:LC)(outer:List Q8)(s:KW)(H:Hp)(args:Args)(us:List KO)(vs:List V)(Q:VK)(E:XK),cM k A->xD P w K mg base A outer s H->SQ s fd args (ps.zip us)->aq vs us->sp vs H Q E->codeAny (K7 P w) A (.call (.ref f) args) (CR CX outer P w H s Q E) s
theorem dI.mono{P:Le}{w:Ly}{K:K2}{mg:Li->Option KO}{base:Lx}{CX:tX}{j k:Nat}{f:KY}{fd:Mo}{ps:List Li}{sp:Sp}(F:dI P w K mg base CX j f fd ps sp)(h:j<=k):dI P w K mg base CX k f fd ps sp:=⟨F.len,λA outer s H a c b Q E d=>F.run A outer s H a c b Q E (d.mono h)⟩
theorem dI.imp{P:Le}{w:Ly}{K:K2}{mg:Li->Option KO}{base:Lx}{CX:tX}{k:Nat}{f:KY}{fd:Mo}{ps:List Li}{sp b:Sp}(F:dI P w K mg base CX k f fd ps sp)(h:∀a H Q E,b a H Q E->sp a H Q E):dI P w K mg base CX k f fd ps b:=⟨λa H Q E q=>F.len a H Q E (h _ _ _ _ q),λA outer s H c d a Q E i j hb e g=>F.run A outer s H c d a Q E i j hb e (h _ _ _ _ g)⟩
section
variable{X:Cx}{pins:List (KY×Mc)}{σ:St}{H:Hp}{s s':KW}
theorem Inv.sN(I:Inv X pins σ H s):xD X.prog X.w X.K X.mg X.base X.A X.stack s H:=⟨I.ok.frames,I.ok.mod,I.bs,L_ I.ok.xt I.sz,I.stack,I.qP,I.aN,I.bare⟩
theorem Inv.after{Q:VK}{u:KO}(I:Inv X pins σ H s)(h:CE X.stack X.prog X.w H s Q u s'):EP X pins σ Q u s':=by
 obtain⟨v,e,os,bare,un,aN,r,q⟩:=h;obtain⟨c,g,d,t,a⟩:=s';obtain rfl:a=s.os:=os;exact⟨v,e,I.call (h':=c) (g':=g) (d':=d) (t':=t) (ch:=[]) un aN bare (λb z=>absurd z (by simp)),r,q⟩
end
noncomputable def zJ(sp:Sp)(a:List V)(E:XK)(t:TA):TE:=λb H Q=>t b H λc d=>sp (c++a) d Q E
noncomputable def Binds(K:K2)(fd:Mo)(ps:List Li)(ds:List KO):Prop:=∀(s:KW)(a:List KO),K.In s.heap->(a++ds).length=ps.length->SQ s fd ⟨a,[]⟩ (ps.zip (a++ds))
theorem Binds.all{K:K2}{fd:Mo}{ps:List Li}(h:∀us:List KO,us.length=ps.length->R0 fd ⟨us,[]⟩=pure (ps.zip us)):Binds K fd ps []:=λs us _ a=>by
 rw[LF]at a⊢;exact .of_eq (h us a)
noncomputable def pK(CX:tX)(X:Cx)(E:XK):Prop:=∀(a:List (KY×Mc))(c:St)(H:Hp)(s:KW)(e:KO)(b:KW),Inv X a c H s->CX X.stack H s E e b->X.xe e b
section
variable{X:Cx}{CX:tX}{k:Nat}{f C:KY}{fd:Mo}{ps:List Li}{sp:Sp}{dvs:List V}{ds:List KO}{E:XK}{x m:Li}{p pos apos:MB}{e o:K_}{es:List K_}{ta:TE}{t:TA}
theorem AL{a:List (KY×Mc)}{d:St}{H:Hp}{s:KW}{Q:VK}{us:List KO}{c:List V}(F:dI X.prog X.w X.K X.mg X.base CX k f fd ps sp)(l:cM k X.A)(hb:Binds X.K fd ps ds)(hd:aq dvs ds)(j:pK CX X E)(I:Inv X a d H s)(r:aq c us)(h:sp (c++dvs) H Q E):wpAny (K7 X.prog X.w) X.A (call (.ref f) us) (EP X a d Q) X.xe s:=by
 have g:aq (c++dvs) (us++ds):=r.append hd;have n:(us++ds).length=ps.length:=by rw[<-g.length];exact F.len _ _ _ _ h
 refine wpAny_call (Qp (F.run X.A X.stack s H ⟨us,[]⟩ (us++ds) (c++dvs) Q E l I.sN (hb s us I.kK n) g h) λr i b=>?_);cases r with
 |error e=>exact j a d H s e i I b|ok q=>cases q with
  |ret u=>exact I.after b|next=>exact MM b|brk=>exact MM b|cont=>exact MM b
theorem qV(F:dI X.prog X.w X.K X.mg X.base CX k f fd ps sp)(j:cM k X.A)(u:Gl X x)(l:X.mg x=KJ (.ref f))(n:N9 X.K (.ref f)=KQ)(hb:Binds X.K fd ps ds)(hd:aq dvs ds)(i:pK CX X E)(ha:PA X (e::es) t)(c:(x==("__debug__":Li))=KR:=by decide)(v:Lg (e::es) X.env=(KR,MW e X.env)::Lg es X.env:=by rfl)(b:(NQ pos (Lg es X.env)).any (·.1)=KR:=by rfl):PE X (.Call (.Name x p) (e::es) [] pos) (zJ sp dvs E t):=by
 intro a s g H Q I h;refine MX (qQ I u l ?_ c);refine PySem.W.callWith_K (h₀:=X.base) I.ok.mod.GF n (aV (ha pos a s g H _ I h) λz s1⟨y,B,d,r,q⟩=>⟨d.kK,?_⟩) v b;exact AL F j hb hd i d r q
end
structure cg(N P:List Li)(sc:MT):Prop where
 kind:sc.kind=.function
 co:sc.isCoroutine=KR
 gen:sc.isGenerator=KR
 nd:N.Nodup
 pre:N.take P.length=P
 par:∀x∈P,sc.names.lookup x=KJ .local\/sc.names.lookup x=KJ .cell
 AM:∀y∈sc.names,y.2≠.free
theorem k_{kindOf:Li->Option Nn}{x:Li}:∀{a:List (Li×KO)}{m:Li->Option KO},(∀v,(x,v)∉a)->Sy kindOf a m x=m x
 |[],_,_=>rfl|(n,v)::r,m,h=>by
  unfold Sy;rw[k_ λw hw=>h w (K4 _ hw)];split
  .have:x≠n:=by rintro rfl;exact h v K5
   simp[this]
  .rfl
theorem lg{kindOf:Li->Option Nn}{x:Li}:∀{a:List (Li×KO)}{m:Li->Option KO},(∀v,(x,v)∉a)->Sz kindOf a m x=m x
 |[],_,_=>rfl|(n,v)::r,m,h=>by
  unfold Sz;rw[lg λw hw=>h w (K4 _ hw)];split;.rfl
  .have:x≠n:=by rintro rfl;exact h v K5
   simp[this]
theorem lh{kindOf:Li->Option Nn}{x:Li}{v:KO}:∀{P:List Li}{a:List KO}{i:Nat}{m:Li->Option KO},P.Nodup->P[i]?=KJ x->a[i]?=KJ v->kindOf x=KJ .local->Sy kindOf (P.zip a) m x=KJ v
 |[],_,_,_,_,h,_,_=>by simp at h|_::_,[],_,_,_,_,h,_=>by simp at h|p::P,w::a,0,m,nd,c,b,d=>by
  simp at c b;subst c;subst b;show Sy kindOf ((p,w)::P.zip a) m p=_;unfold Sy;rw[k_ λv e=>(List.nodup_cons.mp nd).1 (QL e).1,if_pos d];simp|p::P,w::a,i+1,m,nd,c,b,d=>by
  show Sy kindOf ((p,w)::P.zip a) m x=_;unfold Sy;exact lh (i:=i) (List.nodup_cons.mp nd).2 (by simpa using c) (by simpa using b) d
theorem lj{kindOf:Li->Option Nn}{x:Li}{v:KO}:∀{P:List Li}{a:List KO}{i:Nat}{m:Li->Option KO},P.Nodup->P[i]?=KJ x->a[i]?=KJ v->kindOf x≠KJ .local->Sz kindOf (P.zip a) m x=KJ v
 |[],_,_,_,_,h,_,_=>by simp at h|_::_,[],_,_,_,_,h,_=>by simp at h|p::P,w::a,0,m,nd,c,b,d=>by
  simp at c b;subst c;subst b;show Sz kindOf ((p,w)::P.zip a) m p=_;unfold Sz;rw[lg λv e=>(List.nodup_cons.mp nd).1 (QL e).1,if_neg d];simp|p::P,w::a,i+1,m,nd,c,b,d=>by
  show Sz kindOf ((p,w)::P.zip a) m x=_;unfold Sz;exact lj (i:=i) (List.nodup_cons.mp nd).2 (by simpa using c) (by simpa using b) d
noncomputable def start(N:List Li)(a:List V):St:=a.map KJ++Mp (N.length-a.length) KP
noncomputable def kP(CX:tX)(P:Le)(w:Ly)(K:K2)(mg:Li->Option KO)(base:Lx)(N:List Li)(b:Li)(a:MT)(f:KY)(cd:KO)(A:LC)(outer:List Q8)(s:KW)(H:Hp)(E:XK):Cx where
 prog:=P;w:=w;K:=K;mg:=mg;base:=base;A:=A.deeper (Qq b a s.heap.objs.size f cd);N:=N;b7:=s;gj:=H;env:=Qq b a s.heap.objs.size f cd;outer:=outer;stack:=Qq b a s.heap.objs.size f cd::outer;ex:=[];calm:=KQ;fn:=λ_=>KQ;pn:=[];xe:=λe d=>wpAny (K7 P w) (A.deeper (Qq b a s.heap.objs.size f cd)) (leaving (Qq b a s.heap.objs.size f cd) e) (λ_ c=>CX outer H s E e c) (λg c=>CX outer H s E g c) d
theorem ny{sc:MT}{n:Nat}{x:Li}(h:sc.names.lookup x=KJ .cell):∃c,(Ni n sc.names []).lookup x=KJ c:=by
 have q:=OK sc.names n [] (.inl h);exact Option.isSome_iff_exists.mp q
theorem sO{CX:tX}{P:Le}{w:Ly}{K:K2}{mg:Li->Option KO}{base:Lx}{N ps:List Li}{g:Li}{d:MT}{f:KY}{cd:KO}{A:LC}{outer:List Q8}{s s1:KW}{H:Hp}{E:XK}{us:List KO}{m:List V}(S:cg N ps d)(hd:A.handled=KP)(l:xD P w K mg base A outer s H)(M:m.length=ps.length)(r:aq m us)(x:InCallC s s.heap.objs.size (Sy (Qq g d s.heap.objs.size f cd).kindOf (ps.zip us) λ_=>KP) (Ni (s.heap.objs.size+1) d.names []) (Sz (Qq g d s.heap.objs.size f cd).kindOf (ps.zip us) λ_=>KP) s1):Inv (kP CX P w K mg base N g d f cd A outer s H E) [] (start N m) H s1:=by
 have J:ps.length<=N.length:=by have:=congrArg OD S.pre;rw[OX]at this;omega
 obtain⟨F,L,rfl,G⟩:=x.done;have o:∀b:KY,b∉(kP CX P w K mg base N g d f cd A outer s H E).ex:=λb z=>absurd (show b∈([]:List KY)from z) (by simp);refine⟨⟨l.mod,S.kind,rfl,rfl,La _,λy z c F j=>?_,λy t=>?_,λy c _ h=>?_,λ_=>hd,Around.frames_deeper l.frames,.inr ⟨rfl,rfl⟩,λb z=>absurd z (o b),l.bs,l.xt,λb _ _=>o b,λb z=>absurd z (o b),l.i7,l.Am⟩,rfl,l.bare,Un.kept G,⟨_,x.toInCall.ns,λi y v F j O=>?_⟩,λy c h=>⟨_,x.cell y c h⟩,l.aN.fresh (La _),λy c h=>?_,λp C=>absurd (show p∈([]:List (KY×Mc))from C) (by simp),l.aN.kept G,?_⟩;.exact name_of_addr x.apart (My F) (My j)
 .have t:d.names.lookup y=KJ .cell\/d.names.lookup y=KJ .free:=t;rcases t with t|t;.exact ny t
  .exact absurd rfl (S.AM _ (My t))
 .exact Pf (x.above y c (My h))
 .have D:i<m.length:=by
   unfold start at j;by_cases D:i<m.length;.exact D
   .rw[LN (by simpa using D)]at j;rw[NL]at j;split at j<;>cases j
  have ha:m[i]?=KJ v:=by
   unfold start at j;rw[L3 (by simpa using D),Lw]at j;cases e:m[i]? with
   |none=>rw[e]at j;cases j|some a=>rw[e]at j;cases j;rfl
  obtain⟨u,hu,I⟩:=r.get ha;have C:ps[i]?=KJ y:=by rw[<-S.pre,List.getElem?_take_of_lt (by omega)];exact F
  have B:ps.Nodup:=by rw[<-S.pre];exact S.nd.sublist (List.take_sublist _ _)
  refine⟨u,I,?_⟩;rcases S.par y (LV C)with k|k;.exact .inl ⟨k,lh B C hu k⟩
  .obtain⟨c,e⟩:=ny (n:=s.heap.objs.size+1) k;refine .inr ⟨.inl k,c,e,?_⟩;have q:=x.cell y c e;rw[lj B C hu (by show d.names.lookup y≠_;rw[k];decide)]at q;exact q
 .exact l.aN.fresh (Pf (x.above y c (My h)))
 .unfold start;show _=N.length;rw[L5,Lv,MV];omega
theorem zK{CX:tX}{P:Le}{w:Ly}{K:K2}{mg:Li->Option KO}{base:Lx}{k:Nat}{f:KY}{name c:Li}{g:P7}{body:List MU}{a:MT}{U kV C T d ct oc:KO}{Y od:Option KY}{L:Array (Option KO)}{N ps:List Li}{sp:Sp}(lk:K.lookup f=KJ ⟨oc,od,.func (Qr name c g body a U kV C T Y d ct),L⟩)(R:OL K d c=KQ)(S:cg N ps a)(len:∀i H Q E,sp i H Q E->i.length=ps.length)(l:∀(A:LC)(outer:List Q8)(s:KW)(H:Hp)(i:List V)(Q:VK)(E:XK),cM k (A.deeper (Qq c a s.heap.objs.size f d))->sp i H Q E->∃t,nj (kP CX P w K mg base N c a f d A outer s H E) body t/\t {nx:=λ_ H'=>Q .bx H',rt:=Q} (start N i) H):dI P w K mg base CX (k+1) f (Qr name c g body a U kV C T Y d ct) ps sp:=by
 refine⟨len,λA outer s H X us i Q E O B hb r p=>?_⟩;have hl:=len _ _ _ _ p;have Z:K.In s.heap:=B.mod.GF.keeps λb o e=>(B.bs b o e).1;have M:s.heap.NoLimit:=B.mod.nolimit.keeps λb o e=>(B.bs b o e).1;have j:∀y∈ps.zip us,a.names.lookup y.1=KJ .local\/(a.names.lookup y.1=KJ .cell/\((Ni (s.heap.objs.size+1) a.names []).lookup y.1).isSome=KQ):=λD hy=>by
  obtain⟨n,v⟩:=D;rcases S.par n (QL hy).1 with q|q;.exact .inl q
  .exact .inr ⟨q,OK _ _ _ (.inl q)⟩
 refine codeAny_call_function O.depth (Z _ _ lk) rfl S.co S.gen rfl (PySem.W.codeRec_of Z R) (hb _ _ _ _ ?_);refine wpAny_newFunctionEnv_cells S.kind j λenv he s1 x=>?_;subst he;refine⟨M.keeps x.toInCall.keep,codeAny_func ?_⟩;obtain⟨t,ht,hq⟩:=l A outer s H i Q E (O.deeper _) p;have I:Inv (kP CX P w K mg base N c a f d A outer s H E) [] (start N i) H s1:=sO S O.hd B hl r x;refine ML (ht [] s1 (start N i) H _ I hq) (λfl F m=>?_) λe F m=>m;have z:∀{h:St}{H':Hp}{v:V}{u:KO},Inv (kP CX P w K mg base N c a f d A outer s H E) [] h H' F->RelV v u->Q v H'->CE outer P w H s Q u F:=λ{h H' v u}J G q=>⟨v,H',J.os,J.bare,J.base,J.aN,G,q⟩;cases fl with
 |ret u=>
  obtain⟨v,h,H',J,G,q⟩:=m;exact z J G q|next=>
  obtain⟨h,H',J,q⟩:=m;exact z (v:=V.bx) (u:=MH) J rfl q|brk=>
  obtain⟨_,_,_,q⟩:=m;exact MM q|cont=>
  obtain⟨_,_,_,q⟩:=m;exact MM q
end L2
namespace L2
open PySem PySem.Spec PyProof.Rows
section
variable{X:Cx}{x:Li}{p pos:MB}{e:K_}{es:List K_}{t:TA}{id T:String}{r:List V->Hp->VK->Prop}
noncomputable def HK(r:List V->Hp->VK->Prop)(t:TA):TE:=λa H Q=>t a H λb c=>r b c Q
theorem eO(q:dH X (.builtin id) r)(n:Gl X x)(m:X.mg x=KP)(k:MD x=KJ (.builtin id))(ha:PA X (e::es) t)(l:x≠"__name__":=by decide)(c:(x==("__debug__":Li))=KR:=by decide)(o:Lg (e::es) X.env=(KR,MW e X.env)::Lg es X.env:=by rfl)(b:(NQ pos (Lg es X.env)).any (·.1)=KR:=by rfl):PE X (.Call (.Name x p) (e::es) [] pos) (HK r t):=by
 intro a s d H Q I h;refine MX (eM I n m k ?_ l c);exact PyProof.Rows.callWith_builtin1 (aV (ha pos a s d H _ I h) λg s1⟨f,v,u,i,j⟩=>q a s1 d v f g Q u i j) o b
theorem ll(q:dH X (.type T) r)(n:Gl X x)(m:X.mg x=KP)(k:MD x=KJ (.type T))(ha:PA X (e::es) t)(l:x≠"__name__":=by decide)(c:(x==("__debug__":Li))=KR:=by decide)(o:Lg (e::es) X.env=(KR,MW e X.env)::Lg es X.env:=by rfl)(b:(NQ pos (Lg es X.env)).any (·.1)=KR:=by rfl):PE X (.Call (.Name x p) (e::es) [] pos) (HK r t):=by
 intro a s d H Q I h;refine MX (eM I n m k ?_ l c);exact Mm (aV (ha pos a s d H _ I h) λg s1⟨f,v,u,i,j⟩=>q a s1 d v f g Q u i j) o b
end
end L2
namespace HT
open PySem PyProof.Rows
noncomputable def lexLt:List Int->List Int->Bool
 |[],[]=>KR|[],_::_=>KQ|_::_,[]=>KR|x::b,y::a=>if x=y then lexLt b a else decide (x<y)
theorem d3(x y:Int)(xs ys:List Int):lexLt (x::xs) (y::ys)=if x=y then lexLt xs ys else decide (x<y):=rfl
theorem fL:lexLt [] []=KR:=rfl
theorem jv(y:Int)(ys:List Int):lexLt [] (y::ys)=KQ:=rfl
theorem jw(x:Int)(xs:List Int):lexLt (x::xs) []=KR:=rfl
theorem uv(A:LC)(s:KW)(a:Int)(t:SN)(c:Int)(u:SN):∃e,NC A s (.int a t) (.int c u) e/\(e=KQ↔a=c):=⟨(a==c),RK a t c u,by simp⟩
theorem uw(A:LC)(s:KW)(a:Int)(t:SN)(c:Int)(u:SN)(prog:Le)(w:Ly)(E:KO->KW->Prop)(Q:KO->KW->Prop)(h:Q (.bool (decide (a<c))) s):wpAny (K7 prog w) A (richCompare .Lt (.int a t) (.int c u)) Q E s:=(PyProof.Rows.lt_int h:wpAny (K7 prog w) A (LA .Lt (.int a t) (.int c u)) Q E s)
section
open PySem.SeqAt
open PySem.AutoSeq1 (wpAny_loadPart')
open PySem.MeetsSeq PySem.MeetsSeq2 PySem.MeetsSeq3
theorem kQ(l b:KY)(items f:Array KO)(n n2:Nat)(X N:Option KY)(S J:Array (Option KO))(ns H:List Int)(Q:Ny items.toList ns)(P:Ny f.toList H):Meets (Builtin.«tuple.__lt__» ⟨[.ref l,.ref b],[]⟩) (λ_ R s=>s.heap.get? l=KJ {cls:=.type "tuple",dict:=X,data:=.seq items n,slots:=S}/\s.heap.get? b=KJ {cls:=.type "tuple",dict:=N,data:=.seq f n2,slots:=J}/\R (.ok (.ret (.bool (lexLt ns H)))) s):=.of_wp λprog w A R s h=>by
  obtain⟨I,g,d,G,os⟩:=s;obtain⟨V,hb,h⟩:=h;have f2:=AutoSeq1.sub_tuple_tuple;have Z:items.size=ns.length:=by rw[<-Q.length];simp
  have Y:f.size=H.length:=by rw[<-P.length];simp
  wp_walk using QM V,QM hb,Ob _ (λrest b K=>b.1=KP/\K=⟨I,g,d,G,os⟩/\∃(F E:List KO)(j k:List Int),rest=F.zip E/\Ny F j/\Ny E k/\j.length+f.size=k.length+items.size/\R (.ok (.ret (.bool (lexLt j k)))) ⟨I,g,d,G,os⟩) _;case turn=>
   rintro⟨y,x⟩rest b K⟨B,rfl,F,E,j,k,m,v,o,i,r⟩;cases v with
   |nil=>rw[List.zip_nil_left]at m;cases m|cons a t D=>cases o with
    |nil=>rw[RL]at m;cases m|cons c u C=>
     rw[MI]at m;injection m with L z;injection L with T U;subst T U;rw[d3]at r;simp only[LP]at i;obtain⟨e,W,p⟩:=uv A.in1 ⟨I,g,d,G,os⟩ a t c u;refine KL (W prog w _ _ ?_);cases e with
     |true=>
      rw[if_pos (p.mp rfl)]at r;wp_walk;exact⟨rfl,rfl,_,_,_,_,z,D,C,by omega,r⟩|false=>
      rw[if_neg (λq=>absurd (p.mpr q) Ld)]at r;have M:=uw A.in1 ⟨I,g,d,G,os⟩ a t c u prog w;wp_walk using M;exact⟨_,rfl,by simpa using r⟩
  case fin=>
   rintro⟨b1,b2⟩K⟨B,rfl,F,E,j,k,m,v,o,i,r⟩;simp only at B;subst B;have O:lexLt j k=decide (items.size<f.size):=by cases v with
    |nil=>cases o with
     |nil=>
      simp only[Md]at i;rw[fL];exact(decide_eq_false (by omega)).symm|cons c u hw=>
      simp only[Md,LP]at i;rw[jv];exact(decide_eq_true (by omega)).symm
    |cons a t O=>cases o with
     |nil=>
      simp only[Md,LP]at i;rw[jw];exact(decide_eq_false (by omega)).symm|cons c u hw=>
      rw[MI]at m;cases m
   rw[O]at r;wp_walk;exact⟨_,rfl,by simpa[Builtin.Tuple.tupleCompareSizes]using r⟩
  case h=>exact⟨rfl,rfl,items.toList,f.toList,ns,H,rfl,Q,P,by omega,h⟩
end
section
variable{prog:Le}{w:Ly}{A:LC}{E:KO->KW->Prop}{s:KW}
theorem jx{l b:KY}{items a:Array KO}{ns c:List Int}{Q:KO->KW->Prop}(q:QH s.heap l items)(hb:QH s.heap b a)(t:Ny items.toList ns)(r:Ny a.toList c)(hu:A.units<L9)(h:Q (.bool (lexLt ns c)) s):wpAny (K7 prog w) A (LA .Lt (.ref l) (.ref b)) Q E s:=by
 obtain⟨⟨v,u,m,p⟩,j,k,n,hd⟩:=id q;obtain⟨⟨o,i,data2,g⟩,d,f,n2,e⟩:=id hb;simp only at k hd f e;subst k hd f e;exact richCompare_meets_room (op:=.Lt) ⟨_,j,rfl⟩ ⟨_,d,rfl⟩ PySem.F.slot_tuple_lt PySem.F.entry_tuple_lt (PySem.F.args_tuple_lt_2 _ _) (kQ l b items a n n2 u i p g ns c t r) ⟨j,d,show N7 (lexLt ns c)≠Value.notImplemented/\Q (.bool (lexLt ns c)) s from⟨(λx=>nomatch x),h⟩⟩ hu
theorem xE{t b:KY}{c ws:List KO}{Q:KO->KW->Prop}(r:QH s.heap t c.toArray)(hb:QH s.heap b ws.toArray)(m:c≠[])(v:ws=[]->Q (.ref t) s)(u:ws≠[]->Q (.ref s.heap.objs.size) {s with heap:=s.heap.push {cls:=.type "tuple",data:=.seq (c++ws).toArray}})(hsz:c.length+ws.length<=KZ):wpAny (K7 prog w) A (Nk .Add (.ref t) (.ref b)) Q E s:=by
 obtain⟨⟨k,p,i,l⟩,j,o,n,hd⟩:=id r;obtain⟨⟨q,h,data2,d⟩,a,g,n2,f⟩:=id hb;simp only at o hd g f;subst o hd g f;have e:c.toArray++ws.toArray=(c++ws).toArray:=by simp
 by_cases hw:ws=[]
 .exact R1 ⟨_,j,rfl⟩ ⟨_,a,rfl⟩ P8 Rz OM OE (Oq _ _) (tuple_addW1 t b c.toArray ws.toArray n n2 p h l d (by simpa using m) (by simp[hw])) ⟨j,a,v hw⟩
 .refine R1 ⟨_,j,rfl⟩ ⟨_,a,rfl⟩ P8 Rz OM OE (Oq _ _) (tuple_addW2 t b c.toArray ws.toArray n n2 p h l d (by simpa using m) (by simpa using hw) (by rw[K6,K6];exact hsz)) ⟨j,a,?_⟩;rw[e];exact u hw
noncomputable def bI(n d:Nat):Option Int->Nat
 |none=>d|some v=>if v<0 then(v+(n:Int)).toNat else min v.toNat n
theorem ux(n d:Nat):bI n d KP=d:=rfl
theorem xF(n d k:Nat):bI n d (KJ (k:Int))=min k n:=by
 show(if(k:Int)<0 then((k:Int)+(n:Int)).toNat else min (k:Int).toNat n)=min k n;rw[if_neg (by omega),Nz]
theorem AN(n d:Nat)(hd:d<=n)(o:Option Int):bI n d o<=n:=by cases o with
 |none=>exact hd|some v=>
  show(if v<0 then(v+(n:Int)).toNat else min v.toNat n)<=n;by_cases a:v<0;.rw[if_pos a];omega
  .rw[if_neg a];exact Nat.min_le_right _ _
theorem qW(v:Int)(n d:Nat):(if v<0 then max (v+(n:Int)) 0 else min v (n:Int))=((bI n d (KJ v):Nat):Int):=by
 show(if v<0 then max (v+(n:Int)) 0 else min v (n:Int))=(((if v<0 then(v+(n:Int)).toNat else min v.toNat n):Nat):Int);by_cases a:v<0;.simp only[if_pos a];omega
 .simp only[if_neg a];omega
theorem pL(lo a:Option Int)(n:Nat):Oh lo a 1 (n:Int)=(((bI n 0 lo:Nat):Int),((bI n n a:Nat):Int)):=by
 have b:¬((1:Int)<0):=by omega
 unfold Oh;simp only[b,if_false];refine Prod.ext ?_ ?_;.cases lo with
  |none=>rfl|some v=>exact qW v n 0
 .cases a with
  |none=>rfl|some v=>exact qW v n n
theorem pM(i j:Nat):MR (i:Int) (j:Int) 1=j-i:=by
 unfold MR;have a:(1:Int)>0:=by omega
 simp only[a,if_true,Int.ediv_one];split<;>omega
theorem jy{v:KO}{o:Option Int}{Q:Option Int->KW->Prop}(p:Pa v o)(h:Q o s):wpAny (K7 prog w) A (Builtin.Slice.slicePartIndex v) Q E s:=by cases p with
 |none=>exact Po h|int i t=>exact slicePart_int h
theorem dJ{f:KY}{e d:KO}{lo b:Option Int}{n:Nat}{Q:Int×Int×Nat->KW->Prop}(g:s.heap.IsSliceOf f e d .none)(pl:Pa e lo)(pu:Pa d b)(h:Q (((bI n 0 lo:Nat):Int),1,bI n n b-bI n 0 lo) s):wpAny (K7 prog w) A (Np (.ref f) (pure (n:Int))) Q E s:=by
 obtain⟨os,a,i,c⟩:=id g;unfold Np Pz;refine KL (KL (LO a c (x:=e) rfl (KL (LO a c (x:=d) rfl (KL (LO a c (x:=.none) rfl (KS ?_)))))));refine KL (Po ?_);show wpAny _ _ (if((1:Int)==0)=KQ then _ else _) _ _ s;rw[if_neg (by decide)];refine KL (jy pl (KL (jy pu (KL (KS ?_)))));show wpAny _ _ (match Oh lo b 1 (n:Int)with|(lo,b)=>pure (lo,(1:Int),MR lo b 1)) _ _ s;rw[pL lo b n];show wpAny _ _ (pure (((bI n 0 lo:Nat):Int),(1:Int),MR ((bI n 0 lo:Nat):Int) ((bI n n b:Nat):Int) 1)) _ _ s;rw[pM];exact KS h
theorem uy(xs:Array KO)(i k:Nat):((L4 k).filterMap λ(m:Nat)=>xs[((i:Int)+(m:Int)*1).toNat]?).toArray=((xs.toList.drop i).take k).toArray:=by
 have e:(λ(m:Nat)=>xs[((i:Int)+(m:Int)*1).toNat]?)=λm=>xs[i+m]?:=by
  funext m;have:((i:Int)+(m:Int)*1).toNat=i+m:=by omega
  rw[this]
 rw[e];have:=pick_run xs i k;rw[List.filterMap_map]at this;have a:((λx=>xs[x]?)∘λx=>i+x)=λm=>xs[i+m]?:=rfl;rw[a]at this;rw[this]
theorem gu{t d:KY}{items:Array KO}{k j:KO}{lo b:Option Int}{Q:KO->KW->Prop}(c:QH s.heap t items)(l:s.heap.IsSliceOf d k j .none)(pl:Pa k lo)(pu:Pa j b)(hw:¬(bI items.size 0 lo=0/\bI items.size items.size b=items.size))(h:Q (.ref s.heap.objs.size) {s with heap:=s.heap.push {cls:=.type "tuple",data:=.seq ((items.toList.drop (bI items.size 0 lo)).take (bI items.size items.size b-bI items.size 0 lo)).toArray}})(hsz:items.size<=KZ):wpAny (K7 prog w) A (ON (.ref t) (.ref d)) Q E s:=by
 have a:sizeOk (.seq ((items.toList.drop (bI items.size 0 lo)).take (bI items.size items.size b-bI items.size 0 lo)).toArray):=by
  show((items.toList.drop (bI items.size 0 lo)).take (bI items.size items.size b-bI items.size 0 lo)).toArray.size<=KZ;rw[K6,OX,P9,Mi];omega
 have r:bI items.size items.size b<=items.size:=AN _ _ (La _) b;obtain⟨os,e,g,n⟩:=id l;have i:s.TypeIs (.ref d) "slice":=⟨os,e,g⟩;unfold ON;try with_reducible refine LK ?_
 first|refine KL (KS ?_)|skip
 refine KL (PJ c.typeIs (by decide) ?_);refine KL (LM (name:=KN "__getitem__") c.typeIs L7 (LQ L7 c.typeIs entry_tuple_getitem ?_ (Pp _ _)));show wpAny _ _ (Nq (.ref t)>>=_) _ _ s;refine KL (RA c ?_);refine KL (Oc i ?_);rw[if_pos (by decide)];refine KL (dJ l pl pu ?_);have f:¬((((bI items.size 0 lo:Nat):Int)==0&&(1:Int)==1&&(bI items.size items.size b-bI items.size 0 lo)==items.size)=KQ):=by
  intro q;rw[K0,K0]at q;have p:((bI items.size 0 lo:Nat):Int)=0:=eq_of_beq q.1.1;have o:bI items.size items.size b-bI items.size 0 lo=items.size:=eq_of_beq q.2;exact hw ⟨by omega,by omega⟩
 show wpAny _ _ (if(((bI items.size 0 lo:Nat):Int)==0&&(1:Int)==1&&(bI items.size items.size b-bI items.size 0 lo)==items.size)=KQ then _ else _) _ _ s;rw[if_neg f,uy];first
  |exact KL (m:=L6 _) (LH (KS ⟨_,rfl,KS h⟩) a)|exact KL (m:=L6 _) (LH (KL (KS (KS ⟨_,rfl,KS h⟩))) a)|exact KL (KL (m:=L6 _) (LH (KS (KS ⟨_,rfl,KS h⟩)) a))|exact KL (KL (m:=L6 _) (LH (KS ⟨_,rfl,KS h⟩) a))
end
end HT
namespace L2
open PySem PySem.Spec PyProof.Rows
abbrev TO:=St->Hp->(Option Int->Hp->Prop)->Prop
noncomputable def PO(X:Cx)(e:Option K_)(t:TO):Prop:=∀(a:List (KY×Mc))(s:KW)(b:St)(H:Hp)(Q:Option Int->Hp->Prop),Inv X a b H s->t b H Q->wpAny (K7 X.prog X.w) X.A (evalPart e X.env) (λu d=>∃o c,Inv X a b c d/\Pa u o/\Q o c) X.xe s
noncomputable def xG:TO:=λ_ H Q=>Q KP H
noncomputable def Ei(t:TE):TO:=λa H Q=>t a H λx b=>∃i,x=.int i/\Q (KJ i) b
theorem intsAre_of{ns:List Int}:∀{us:List KO},aq (ns.map V.int) us->Ny us ns:=by induction ns with
 |nil=>intro us r;rw[Nh]at r;cases r;exact .nil|cons n ns c=>
  intro us r;rw[Ll]at r;cases r with|cons b a=>
   obtain⟨t,e⟩:=b;subst e;exact .cons n t (c a)
section
variable{X:Cx}{e:K_}{te:TE}{lo hi:Option K_}{tl th:TO}{pos p2:MB}
theorem qX:PO X KP xG:=by
 intro a s b H Q I h;rw[RC];exact KS ⟨KP,H,I,.none,h⟩
theorem qY(h:PE X e te):PO X (KJ e) (Ei te):=by
 intro a s c H Q I hw;rw[evalPart_some];refine aV (h a s c H _ I hw) λu s1 b=>?_;obtain⟨x,j,g,d,f⟩:=b;obtain⟨i,rfl,q⟩:=f;obtain⟨t,rfl⟩:=d;exact⟨KJ i,j,g,.int i t,q⟩
noncomputable def HL(X:Cx)(r:V->Option Int->Option Int->Hp->VK->Prop):Prop:=∀(a:List (KY×Mc))(s:KW)(b:St)(H:Hp)(x:V)(v d c:KO)(lo hi:Option Int)(f:KY)(Q:VK),Inv X a b H s->RelV x v->s.heap.IsSliceOf f d c .none->Pa d lo->Pa c hi->r x lo hi H Q->∃T id,SA (.type T) "__getitem__"=pure (KJ (.builtin id))/\s.TypeIs v T/\wpAny (K7 X.prog X.w) X.A (ON v (.ref f)) (EP X a b Q) X.xe s
noncomputable def Kc(r:V->Option Int->Option Int->Hp->VK->Prop)(te:TE)(tl th:TO):TE:=λa H Q=>te a H λx d=>tl a d λl c=>th a c λu b=>r x l u b Q
theorem nz{r:V->Option Int->Option Int->Hp->VK->Prop}(B:HL X r)(E:PE X e te)(C:PO X lo tl)(hu:PO X hi th):PE X (.Subscript e (.Slice lo hi KP p2) pos) (Kc r te tl th):=by
 intro a s i H Q I h;refine SD (aV (E a s i H _ I h) λv s1 g=>?_);obtain⟨x,N,L,o,y⟩:=g;refine wpAny_Slice (aV (C a s1 i N _ L y) λm s2⟨l,M,K,pl,t⟩=>aV (hu a s2 i M _ K t) λk c g=>?_);obtain⟨u,n,J,pu,p⟩:=g;rw[RC];refine KS ?_;have G:Inv X a i n {c with heap:=c.heap.push {cls:=.type "slice",data:=.fields #[m,k,.none]}}:=J.kept (t':=c.toks) λb ob q=>KU _ q;obtain⟨T,id,F,z,D⟩:=B a {c with heap:=c.heap.push {cls:=.type "slice",data:=.fields #[m,k,.none]}} i n x v m k l u c.heap.objs.size Q G o (RM ..) pl pu p;show wpAny (K7 X.prog X.w) X.A (RD e (.Slice lo hi KP p2) v (.ref c.heap.objs.size)) (EP X a i Q) X.xe {c with heap:=c.heap.push {cls:=.type "slice",data:=.fields #[m,k,.none]}};exact tail_any (ops:=[.ref c.heap.objs.size,v]) z F D (by with_unfolding_all rfl)
noncomputable def mm(xs:List V)(lo hi:Option Int):List V:=(xs.drop (HT.bI xs.length 0 lo)).take (HT.bI xs.length xs.length hi-HT.bI xs.length 0 lo)
theorem iL(xs:List V)(lo hi:Option Int):(mm xs lo hi).length<=xs.length:=by
 unfold mm;rw[OX,P9];omega
noncomputable def HM(K:K2):R2:=λx y H Q=>∃a b ns c,x=.ref a/\y=.ref b/\gp K H a (ns.map V.int)/\gp K H b (c.map V.int)/\Q (.bl (HT.lexLt ns c)) H
theorem AO(hu:X.A.units<L9):i8 X (LA .Lt) (HM X.K):=by
 intro f s p H x y v u Q I j i h;obtain⟨a,b,ns,g,rfl,rfl,ha,hb,q⟩:=h;cases j;cases i;obtain⟨d,l,m,_⟩:=I.tuple ha;obtain⟨c,k,p2,_⟩:=I.tuple hb;have o:Ny d.toArray.toList ns:=intsAre_of l;have n:Ny c.toArray.toList g:=intsAre_of k;exact HT.jx m p2 o n hu ⟨.bl (HT.lexLt ns g),H,I,rfl,q⟩
theorem aq.qZ{xs:List V}{us:List KO}(r:aq xs us):us=[]↔xs=[]:=by cases r with
 |nil=>simp|cons _ _=>simp
end
end L2
namespace L2
open PySem PySem.Spec PyProof.Rows
noncomputable def zL(n:Nat)(i:Int):Option Nat:=if 0<=i then(if i<n then KJ i.toNat else KP)else if-(n:Int)<=i then KJ (i+n).toNat else KP
noncomputable def fy{a:Type}(xs:List a)(i:Int):Option a:=(zL xs.length i).bind λj=>xs[j]?
theorem q9{n:Nat}{i:Int}{j:Nat}(h:zL n i=KJ j):Rt i n=KJ j/\j<n/\-(n:Int)<=i/\i<n:=by
 unfold zL at h;by_cases b:0<=i
 .rw[if_pos b]at h;by_cases a:i<n
  .rw[if_pos a]at h;have e:i.toNat=j:=K1 h;exact⟨by rw[Sj b a,e],by omega,by omega,a⟩
  .rw[if_neg a]at h;cases h
 .rw[if_neg b]at h;by_cases a:-(n:Int)<=i
  .rw[if_pos a]at h;have e:(i+n).toNat=j:=K1 h;exact⟨by rw[R3 (by omega) a,e],by omega,a,by omega⟩
  .rw[if_neg a]at h;cases h
theorem mo{a:Type}{xs:List a}{i:Int}{v:a}(h:fy xs i=KJ v):∃j,Rt i xs.length=KJ j/\xs[j]?=KJ v/\j<xs.length/\-(xs.length:Int)<=i/\i<xs.length:=by
 unfold fy at h;cases e:zL xs.length i with
 |none=>rw[e]at h;cases h|some j=>
  rw[e]at h;obtain⟨f,d,c,b⟩:=q9 e;exact⟨j,f,h,d,c,b⟩
theorem dk{a:Type}{xs:List a}{j:Nat}{v:a}(h:xs[j]?=KJ v):fy xs (j:Int)=KJ v:=by
 have b:j<xs.length:=(List.getElem?_eq_some_iff.mp h).1;have e:zL xs.length (j:Int)=KJ j:=by
  unfold zL;rw[if_pos (by omega),if_pos (by omega)];simp
 unfold fy;rw[e];exact h
noncomputable def jh(b:K_):Prop:=∀o i,Sk b KR o i=operate [o,i] (ON o i)
noncomputable def uz(X:Cx)(r:R2):Prop:=∀(c a:K_)(b:List (KY×Mc))(s:KW)(d:St)(H:Hp)(x y:V)(v u:KO)(Q:VK),Inv X b d H s->RelV x v->RelV y u->r x y H Q->Sk a KR v u=operate [v,u] (ON v u)->wpAny (K7 X.prog X.w) X.A (RD c a v u) (EP X b d Q) X.xe s
noncomputable def Kd(X:Cx)(id:String)(r:V->List V->Hp->VK->Prop):Prop:=∀(a:List (KY×Mc))(s:KW)(b:St)(H:Hp)(x:V)(c:List V)(v:KO)(d:List KO)(Q:VK),Inv X a b H s->RelV x v->aq c d->r x c H Q->wpAny (K7 X.prog X.w) X.A (call (.builtin id) (v::d)) (EP X a b Q) X.xe s
section
variable{X:Cx}{a b:K_}{ta tb:TE}{pos:MB}
theorem uz.or{r j:R2}(h:uz X r)(h':uz X j):uz X (λx y H Q=>r x y H Q\/j x y H Q):=by
 intro c d e s f H x y v u Q I i g q k;rcases q with q|q;.exact h c d e s f H x y v u Q I i g q k
 .exact h' c d e s f H x y v u Q I i g q k
theorem eP{r:R2}(i:uz X r)(ha:PE X a ta)(hb:PE X b tb)(g:jh b):PE X (.Subscript a b pos) (Eb r ta tb):=by
 intro c s d H Q I h;exact SD (AG ha hb I h λv u s2 x y k j f e q=>i a b c s2 d k x y v u Q j f e q (g _ _))
noncomputable def Ej(K:K2):R2:=λx y H Q=>∃p c i v,x=.ref p/\y=.int i/\dF K H p c/\fy c i=KJ v/\Q v H
noncomputable def Ek(K:K2):R2:=λx y H Q=>∃p c i v,x=.ref p/\y=.int i/\gp K H p c/\fy c i=KJ v/\Q v H
noncomputable def El:R2:=λx y H Q=>∃z i c,x=.str z/\y=.int i/\z.length<=KZ/\fy z.cps.toList i=KJ c/\Q (.str ⟨#[c]⟩) H
theorem cq:uz X (Ej X.K):=by
 intro f g c s n H x y v u Q I E D h o;obtain⟨p,O,i,z,rfl,rfl,F,J,q⟩:=h;cases E;obtain⟨t,rfl⟩:=D;obtain⟨l,r,pl,P⟩:=I.list F;obtain⟨j,e,N,S,M,L⟩:=mo J;obtain⟨w,B,k⟩:=r.get N;have G:=r.length;have R:=fS;have d:EP X c n Q w s:=⟨z,H,I,k,q⟩;by_cases A:0<=i
 .have m:i.toNat=j:=by
   rw[Sj A L]at e;exact K1 e
  exact item_listR pl.isList A (by omega) (by rw[m];simpa using B) d o
 .have m:(i+(l.toArray.size:Int)).toNat=j:=by
   rw[R3 (by omega) M]at e;rw[K6,<-G];exact K1 e
  exact Qs (x:=w) pl.isList.typeIs slot_list_getitem.lookup (wpAny_getItem_list_neg (Q:=λr C=>r=w/\EP X c n Q r C) pl.isList (by omega) (by rw[K6]<;>omega) (by omega) (by rw[m];simpa using B) ⟨rfl,d⟩) o
theorem AQ:uz X (Ek X.K):=by
 intro d e c s k H x y v u Q I n m h A;obtain⟨p,J,i,z,rfl,rfl,B,D,q⟩:=h;cases n;obtain⟨t,rfl⟩:=m;obtain⟨o,r,pl,L⟩:=I.tuple B;obtain⟨j,F,E,P,O,N⟩:=mo D;obtain⟨w,G,f⟩:=r.get E;have C:=r.length;have M:=fS;have g:EP X c k Q w s:=⟨z,H,I,f,q⟩;exact Qs (x:=w) pl.typeIs slot_tuple_getitem.lookup (getItem_tuple (j:=j) (Q:=λr l=>r=w/\EP X c k Q r l) pl (by omega) (by omega) (by rw[K6,<-C];exact F) (by simpa using G) ⟨rfl,g⟩) A
theorem AR:uz X El:=by
 intro d e f s C H x y v u Q I l k h m;obtain⟨z,i,c,rfl,rfl,E,o,q⟩:=h;obtain⟨t,rfl⟩:=l;obtain⟨D,rfl⟩:=k;obtain⟨j,g,w,G,r,p⟩:=mo o;have n:z.cps.toList.length=z.length:=by simp[SE]
 rw[n]at g r p;have F:=fS;exact tail_any (SF s z t) slot_str_getitem.lookup (getItem_str (c:=c) (by
  have B:decide (i< -(2^63:Int))=KR:=decide_eq_false (by omega);have A:decide (i>=2^63)=KR:=decide_eq_false (by omega);rw[B,A,N2]) (by rw[g];simpa using w) ⟨.str ⟨#[c]⟩,H,I.tok _,⟨_,rfl⟩,q⟩) m
noncomputable def Ke(K:K2):R2:=λx y H Q=>Ej K x y H Q\/Ek K x y H Q\/El x y H Q
theorem AS:uz X (Ke X.K):=cq.or (AQ.or AR)
theorem pN(c:List KO)(n j:Nat)(u:KO):M5 (·.setIfInBounds j u) {cls:=.type "list",data:=.seq c.toArray n}={cls:=.type "list",data:=.seq (c.set j u).toArray n}:=by simp[M5]
theorem Inv.lst{d:List (KY×Mc)}{f:St}{H:Hp}{s:KW}{p:KY}{xs:List V}(I:Inv X d f H s)(h:H p=KJ (.lst xs)):∃(c:List KO)(n:Nat),aq xs c/\s.heap.get? p=KJ {cls:=.type "list",data:=.seq c.toArray n}/\xs.length<=KZ:=by
 obtain⟨z,c,n,r,e⟩:=I.aN p _ h;exact⟨c,n,r,e,z⟩
theorem Inv.AU{c:List (KY×Mc)}{i:St}{H:Hp}{s:KW}{p:KY}{xs ys:List V}{d its':List KO}{n g:Nat}{f:Mc->Mc}(I:Inv X c i H s)(h:H p=KJ (.lst xs))(l:s.heap.get? p=KJ {cls:=.type "list",data:=.seq d.toArray n})(j:f {cls:=.type "list",data:=.seq d.toArray n}={cls:=.type "list",data:=.seq its'.toArray g})(r:aq ys its')(k:ys.length<=KZ)(t:Nat):Inv X c i (upd H p (.lst ys)) {s with heap:=s.heap.update p f,toks:=t}:=by
 have e:(s.heap.update p f).get? p=KJ {cls:=.type "list",data:=.seq its'.toArray g}:=by rw[OU f l (by rw[j]<;>rfl),j]
 refine I.write (x:=p) (e:=p) (by rw[h];trivial) (.inl rfl) (λb u hb q=>(Qt _ _ (LS hb)).trans q) ⟨_,e⟩ ?_;exact⟨k,its',g,r,e⟩
noncomputable def Em:V->V->V->Hp->(Hp->Prop)->Prop:=λo i v H Q=>∃p c k j,o=.ref p/\i=.int k/\H p=KJ (.lst c)/\zL c.length k=KJ j/\Q (upd H p (.lst (c.set j v)))
theorem set_list:D8 X Em:=by
 intro c s B H o i v J iv u Q I ro E D h;obtain⟨p,C,k,j,rfl,rfl,m,G,q⟩:=h;cases ro;obtain⟨t,rfl⟩:=E;obtain⟨d,n,r,f,F⟩:=I.lst m;obtain⟨e,L,y,x⟩:=q9 G;have g:=r.length;have K:=fS;have A:Inv X c B (upd H p (.lst (C.set j v))) {s with heap:=s.heap.update p (M5 (·.setIfInBounds j u))}:=I.AU m f (pN d n j u) (r.set D j) (by rw[List.length_set];exact F) s.toks;by_cases z:0<=k
 .have l:k.toNat=j:=by
   rw[Sj z x]at e;exact K1 e
  exact PySem.W.ki_setAt f z (by omega) (by rw[K6,<-g];exact x) (by rw[l];exact⟨_,A,q⟩)
 .have l:(k+(d.toArray.size:Int)).toNat=j:=by
   rw[R3 (by omega) y]at e;rw[K6,<-g];exact K1 e
  exact PySem.W.ki_setBack f (by omega) (by rw[K6,<-g];exact y) (by omega) (by rw[l];exact⟨_,A,q⟩)
theorem mq(lo c:Option Int)(n:Nat):(OF lo c KP n).1=((HT.bI n 0 lo:Nat):Int)/\(OF lo c KP n).2.1=((HT.bI n n c:Nat):Int)/\(OF lo c KP n).2.2=1:=by
 refine⟨?_,?_,rfl⟩;.cases lo with
  |none=>simp[OF,HT.bI]|some i=>
   simp only[OF,HT.bI,P_,show(1:Int)>0 by decide,if_true];by_cases h:i<0;.simp only[h,if_true]<;>omega
   .simp only[h,if_false]<;>omega
 .cases c with
  |none=>simp[OF,HT.bI]|some i=>
   simp only[OF,HT.bI,P_,show(1:Int)>0 by decide,if_true];by_cases h:i<0;.simp only[h,if_true]<;>omega
   .simp only[h,if_false]<;>omega
theorem kR(c:List KO)(lo d:Option Int):slicePick c.toArray lo d KP=((c.drop (HT.bI c.length 0 lo)).take (HT.bI c.length c.length d-HT.bI c.length 0 lo)).toArray:=by
 obtain⟨g,f,e⟩:=mq lo d c.toArray.size;unfold slicePick;rw[g,f,e];simp only[sliceRange_one,pick_run,K6]<;>rfl
noncomputable def HN(K:K2):V->Option Int->Option Int->Hp->VK->Prop:=λx lo d H Q=>∃a c,x=.ref a/\dF K H a c/\∀p,H p=KP->Q (.ref p) (upd H p (.lst (mm c lo d)))
theorem q_:HL X (HN X.K):=by
 intro f s n H x v t p lo e u Q I i m pl pu h;obtain⟨a,c,rfl,l,q⟩:=h;cases i;obtain⟨j,r,g,k⟩:=I.list l;have d:=r.length;refine⟨"list",_,slot_list_getitem.lookup,g.isList.typeIs,?_⟩;refine wpAny_getItem_list_slice g.isList m pl pu .none (by simp) ?_ (by rw[K6]<;>omega);rw[kR,<-d];refine⟨.ref s.heap.objs.size,_,I.laid (t':=s.toks) (o:=.lst (mm c lo e)) (λb ob q=>KU _ q) (La _) ?_,rfl,q _ (I.aN.fresh (La _))⟩;exact⟨L_ (iL c lo e) k,_,0,(r.drop (HT.bI c.length 0 lo)).take (HT.bI c.length c.length e-HT.bI c.length 0 lo),Lb _ rfl⟩
theorem d5:dH X (.builtin "len") (λxs H Q=>∃p ys,xs=[.ref p]/\(dF X.K H p ys\/gp X.K H p ys)/\Q (.int ys.length) H):=by
 intro g s k H xs l Q I r h;obtain⟨p,ys,rfl,d,q⟩:=h;obtain⟨u,rfl,i⟩:=vals1 r;cases i;have m:=fS;rcases d with d|d
 .obtain⟨f,e,pl,j⟩:=I.list d;have c:=e.length;exact Rw pl.isList (by simp only[K6]<;>omega) ⟨.int ys.length,H,I.tok _,⟨s.toks+1,by rw[K6,c]⟩,q⟩
 .obtain⟨f,e,pl,j⟩:=I.tuple d;have c:=e.length;exact len_tuple pl (by simp only[K6]<;>omega) ⟨.int ys.length,H,I.tok _,⟨s.toks+1,by rw[K6,c]⟩,q⟩
theorem gw:dH X (.type "list") (λxs H Q=>∃p ys,xs=[.ref p]/\(dF X.K H p ys\/gp X.K H p ys)/\∀l,H l=KP->Q (.ref l) (upd H l (.lst ys))):=by
 intro i s z H xs B Q I r h;obtain⟨p,ys,rfl,k,q⟩:=h;obtain⟨u,rfl,A⟩:=vals1 r;cases A;have t:∀(c:List KO),aq ys c->ys.length<=KZ->∀(d:Lx)(g:Nat),(∀b y,s.heap.get? b=KJ y->d.get? b=KJ y)->d.get? s.heap.objs.size=KJ {cls:=.type "list",dict:=KP,data:=.seq c.toArray g,slots:=#[]}->EP X i z Q (.ref s.heap.objs.size) {s with heap:=d}:=λc f j d g kp e=>⟨.ref s.heap.objs.size,_,I.laid (t':=s.toks) kp (La _) (show bo X.prog X.w _ d _ (.lst ys)from⟨j,c,g,f,e⟩),rfl,q _ (I.aN.fresh (La _))⟩;rcases k with k|k
 .obtain⟨c,f,pl,j⟩:=I.list k;have m:=f.length;obtain⟨o,v,x,n,hd⟩:=pl.isList;exact call_list_seq p (.inl rfl) v x hd (λd g kp e=>t c f j d g kp e) (by simp only[K6]<;>omega)
 .obtain⟨c,f,pl,j⟩:=I.tuple k;have m:=f.length;obtain⟨o,v,x,n,hd⟩:=pl;exact call_list_seq p (.inr rfl) v x hd (λd g kp e=>t c f j d g kp e) (by simp only[K6]<;>omega)
theorem kS:dH X (.type "tuple") (λxs H Q=>∃p ys,xs=[.ref p]/\((dF X.K H p ys/\∀l,H l=KP->Q (.ref l) (upd H l (.tup ys)))\/(gp X.K H p ys/\Q (.ref p) H))):=by
 intro c s k H xs A Q I r h;obtain⟨p,ys,rfl,h⟩:=h;obtain⟨u,rfl,x⟩:=vals1 r;cases x;rcases h with⟨j,q⟩|⟨j,q⟩
 .obtain⟨d,i,pl,m⟩:=I.list j;have n:=i.length;refine call_tuple_list pl.isList (λg kp=>?_) (by simp only[K6]<;>omega);have v:Inv X c k H {s with heap:=g}:=I.kept (t':=s.toks) kp;have z:Inv X c k (upd H g.objs.size (.tup ys)) {s with heap:=g.push {cls:=.type "tuple",data:=.seq d.toArray}}:=v.laid (t':=s.toks) (λb o e=>KU _ e) (La _) (show bo X.prog X.w _ _ _ (.tup ys)from⟨m,d,i,Rq _ _⟩);exact⟨.ref g.objs.size,_,z,rfl,q _ (v.aN.fresh (La _))⟩
 .obtain⟨d,i,pl,m⟩:=I.tuple j;exact call_tuple_same pl ⟨.ref p,H,I,rfl,q⟩
noncomputable def JL(K:K2)(T:String)(x:V)(H:Hp):Prop:=match x with
 |.str _=>T="str"|.int _=>T="int"|.ref p=>(T="list"/\∃d,dF K H p d)\/(T="tuple"/\∃o,K.lookup p=KJ o/\o.cls=.type "tuple"/\o.dict=KP)\/(T="dict"/\((∃c,H p=KJ (.dK c))\/∃c,H p=KJ (.dT c)))\/(T="set"/\∃S n,H p=KJ (.set S n))|_=>False
theorem AV{f:List (KY×Mc)}{j:St}{H:Hp}{s:KW}{T:String}{x:V}{v:KO}(I:Inv X f j H s)(r:RelV x v)(ty:JL X.K T x H):s.TypeIs v T/\∀a,v=.ref a->∃ob,s.heap.get? a=KJ ob/\ob.dict=KP:=by cases x with
 |str z=>
  obtain⟨t,rfl⟩:=r;cases(show T="str"from ty);exact⟨SF s z t,λ_ e=>nomatch e⟩|int i=>
  obtain⟨t,rfl⟩:=r;cases(show T="int"from ty);exact⟨typeIs_int s i t,λ_ e=>nomatch e⟩|ref p=>
  cases r;rcases ty with⟨rfl,q,l⟩|⟨rfl,o,d,m,hd⟩|⟨rfl,d⟩|⟨rfl,S,n,d⟩
  .obtain⟨k,_,pl,_⟩:=I.list l;refine⟨pl.isList.typeIs,λa e=>?_⟩;cases e;obtain⟨o,n,e,c,hd,_⟩:=pl;exact⟨o,e,hd⟩
  .refine⟨⟨o,I.kK p o d,m⟩,λa e=>?_⟩;cases e;exact⟨o,I.kK _ o d,hd⟩
  .have z:∃o,s.heap.get? p=KJ o/\o.ExactDict:=by
    rcases d with⟨g,d⟩|⟨g,d⟩
    .obtain⟨_,_,_,_,o,_,_,e,ex,_⟩:=I.aN p _ d;exact⟨o,e,ex⟩
    .obtain⟨_,_,_,_,o,_,_,e,ex,_⟩:=I.aN p _ d;exact⟨o,e,ex⟩
   obtain⟨o,e,ex⟩:=z;refine⟨⟨o,e,ex.1⟩,λa h=>?_⟩;cases h;exact⟨o,e,ex.2.1⟩
  .obtain⟨o,_,_,_,e,ex,_⟩:=I.aN p _ d;refine⟨⟨o,e,ex.1⟩,λa h=>?_⟩;cases h;exact⟨o,e,ex.2.1⟩|_=>exact MM ty
noncomputable def HP(K:K2)(T:String)(r:V->List V->Hp->VK->Prop)(to:TE)(t:TA):TE:=λc H Q=>to c H λx d=>JL K T x d/\t c d λe f=>r x e f Q
variable{o e:K_}{es:List K_}{to:TE}{t:TA}{name:Li}{apos cpos:MB}{T id:String}{r:V->List V->Hp->VK->Prop}
theorem ra(pa:PlainAttrs T)(slot:Slot T name id)(l:SR (.builtin id)=pure (.type "method_descriptor"))(C:Kd X id r)(B:PE X o to)(ha:PA X (e::es) t)(g:Ot o name X.env (MW o X.env)=MW o X.env:=by rfl)(i:((NQ cpos (Lg (e::es) X.env)).all (λx=>!x.1)&&(backToKw cpos (keywordEach [] X.env)).all (λx=>x.1.isSome)&&decide ((e::es).length+([]:List Keyword).length+(if([]:List Keyword).isEmpty then 0 else 1)<30))=KQ:=by rfl)(f:(apos.endLine==cpos.line)=KQ:=by rfl)(A:Lg (e::es) X.env=(KR,MW e X.env)::Lg es X.env:=by rfl)(d:(NQ cpos (Lg es X.env)).any (·.1)=KR:=by rfl):PE X (.Call (.Attribute o name apos) (e::es) [] cpos) (HP X.K T r to t):=by
 intro c s j H Q I h;refine wpAny_Call_method_late g i f rfl (aV (B c s j H _ I h) λv s1 k=>?_);obtain⟨x,J,p,m,ty,z⟩:=k;obtain⟨E,D⟩:=AV p m ty;refine⟨T,id,pa,slot,l,E,D,?_⟩;have n:=ha cpos c s1 j J _ p z;rw[A]at n⊢;refine Calls.callWith_builtin (by show(KR||(NQ cpos (Lg es X.env)).any (·.1))=KR;rw[d]<;>rfl) (Calls.evalArgs_plain ?_);exact aV n λu s2⟨q,G,F,w,y⟩=>C c s2 j G x q v u Q F m w y
end
end L2
namespace L2
open PySem PySem.Spec PyProof.Rows
noncomputable def HQ(X:Cx)(id:String)(r:V->List V->Hp->VK->Prop):Prop:=∀(a:List (KY×Mc))(s:KW)(b:St)(H:Hp)(x:V)(c:List V)(v:KO)(d:List KO)(Q:VK),Inv X a b H s->RelV x v->aq c d->r x c H Q->wpAny (K7 X.prog X.w) X.A (call (.builtin id) (v::d)) (EP X a b Q) X.xe s
theorem aq.one:∀{x:V}{us:List KO},aq [x] us->∃u,us=[u]/\RelV x u|_,_,.cons r .nil=>⟨_,rfl,r⟩
theorem aq.eraseIdx:∀{xs:List V}{us:List KO}(i:Nat),aq xs us->aq (xs.eraseIdx i) (us.eraseIdx i)
 |_,_,_,.nil=>.nil|_,_,0,.cons _ t=>t|_,_,i+1,.cons r t=>.cons r (aq.eraseIdx i t)
theorem lq{a:Type}:∀(l:List a)(i:Nat),(l.eraseIdx i).length<=l.length
 |[],_=>La _|_::_,0=>PK _|_::r,i+1=>Nat.succ_le_succ (lq r i)
section
variable{X:Cx}{pins:List (KY×Mc)}{σ:St}{H:Hp}{s:KW}{l b:KY}{xs ys zs:List V}
theorem Inv.AW{a its':List KO}{n:Nat}{f:Array KO->Array KO}{t':Nat}(I:Inv X pins σ H s)(h:H l=KJ (.lst xs))(e:s.heap.get? l=KJ {cls:=.type "list",data:=.seq a.toArray n})(g:f a.toArray=its'.toArray)(d:aq ys its')(c:ys.length<=KZ):Inv X pins σ (upd H l (.lst ys)) {s with heap:=s.heap.update l (M5 f),toks:=t'}:=by
 have q:=PySem.IsL.update e f;rw[g]at q;refine I.write (x:=l) (e:=l) (by rw[h];exact trivial) (.inl rfl) (λi u hb hu=>(Qt s.heap (M5 f) (LS hb)).trans hu) ⟨_,q⟩ ?_;exact⟨c,its',_,d,q⟩
theorem Inv.HR{a:List KO}{t':Nat}(I:Inv X pins σ H s)(d:aq ys a)(c:ys.length<=KZ):Inv X pins σ (upd H s.heap.objs.size (.lst ys)) {s with heap:=s.heap.push {cls:=.type "list",data:=.seq a.toArray},toks:=t'}:=I.laid (λ_ _ q=>KU _ q) (La _) ⟨c,a,0,d,Lb _ rfl⟩
theorem Inv.fresh(I:Inv X pins σ H s):H s.heap.objs.size=KP:=I.aN.fresh (La _)
theorem Inv.AX(I:Inv X pins σ H s)(c:H l=KJ (.lst xs)):xs.length<=KZ/\∃(a:List KO)(n:Nat),aq xs a/\xs.length=a.length/\s.heap.get? l=KJ {cls:=.type "list",data:=.seq a.toArray n}:=by
 obtain⟨z,a,n,r,e⟩:=I.aN l _ c;exact⟨z,a,n,r,r.length,e⟩
theorem uA{n:Nat}(h:n<=KZ):Ou n=KR:=by
 unfold Ou;exact decide_eq_false (by omega)
end
section
variable{X:Cx}
noncomputable def xH:V->List V->Hp->VK->Prop:=λx b H Q=>∃l a y,x=.ref l/\b=[y]/\H l=KJ (.lst a)/\a.length<KZ/\Q .bx (upd H l (.lst (a++[y])))
theorem lr:HQ X "list.append" xH:=by
 intro b s i H x k v m Q I d f h;obtain⟨l,j,y,rfl,rfl,c,o,q⟩:=h;cases d;obtain⟨u,rfl,g⟩:=f.one;obtain⟨z,a,n,r,p,e⟩:=I.AX c;refine RN F.slot_list_append ⟨_,e,rfl⟩ F.entry_list_append (F.args_list_append_2 _ _) (PySem.list_append l a.toArray n u (by rw[K6];omega)) ⟨e,?_⟩;refine⟨.bx,_,I.AW (its':=a++[u]) c e (by simp) (r.append (.cons g .nil)) ?_,rfl,q⟩;rw[L5,List.length_singleton];omega
noncomputable def uB:V->List V->Hp->VK->Prop:=λx b H Q=>∃l a i k y,x=.ref l/\b=[.int i]/\H l=KJ (.lst a)/\-(2^63)<=i/\i<2^63/\Rt i a.length=KJ k/\a[k]?=KJ y/\Q y (upd H l (.lst (a.eraseIdx k)))
theorem uC:HQ X "list.pop" uB:=by
 intro c s D H x E v G Q I g j h;obtain⟨l,f,i,k,y,rfl,rfl,d,C,B,A,o,q⟩:=h;cases g;obtain⟨u,rfl,m⟩:=j.one;obtain⟨t,rfl⟩:=m;obtain⟨z,a,n,r,p,e⟩:=I.AX d;obtain⟨w,hw,b⟩:=r.get o;refine RN F.slot_list_pop ⟨_,e,rfl⟩ F.entry_list_pop (F.args_list_pop_2 _ _) (MeetsSeq.list_pop_at l a.toArray n i t k w (fitsIndex_both C B) (by rw[K6,<-p];exact A) (by rw[<-Mj];exact hw) (by rw[K6];omega)) ⟨e,?_⟩;refine⟨y,_,I.AW (its':=a.eraseIdx k) d e ?_ (r.eraseIdx k) ?_,b,q⟩
 .show a.toArray.eraseIdxIfInBounds k=(a.eraseIdx k).toArray;rw[List.eraseIdxIfInBounds_toArray]
 .have:=lq f k;omega
end
end L2
namespace L2
open PySem PySem.Spec PyProof.Rows
section
variable{κ:Type}[DecidableEq κ]
noncomputable def i_(a:List (κ×V))(k:κ):Option V:=(a.find? λb=>decide (b.1=k)).map (·.2)
noncomputable def putK(a:List (κ×V))(k:κ)(v:V):List (κ×V):=if(a.any λb=>decide (b.1=k))=KQ then a.map (λb=>if b.1=k then(b.1,v)else b)else a++[(k,v)]
theorem nA{p:κ×V}{r:List (κ×V)}{k:κ}(e:p.1=k):i_ (p::r) k=KJ p.2:=by simp[i_,NX,e]
theorem nB{p:κ×V}{r:List (κ×V)}{k:κ}(e:¬p.1=k):i_ (p::r) k=i_ r k:=by simp[i_,NX,e]
theorem jz(k:κ):∀a:List (κ×V),(a.any λb=>decide (b.1=k))=(i_ a k).isSome
 |[]=>rfl|p::r=>by
  rw[ND];by_cases e:p.1=k;.simp only[nA e,decide_eq_true e,Bool.true_or,RO]
  .rw[nB e,decide_eq_false e,Bool.false_or];exact jz k r
theorem ma.lu{o:Option V}{u:Option KO}(r:ma o u):o.isSome=u.isSome:=by cases o with
 |none=>cases u with
  |none=>rfl|some _=>exact(show False from r).elim
 |some _=>cases u with
  |none=>exact(show False from r).elim|some _=>rfl
theorem KV.val{a:List (κ×V)}{f:List (κ×KO)}(r:KV a f)(k:κ):ma (i_ a k) (Ru f k):=by
 unfold KV at r;induction r with
 |nil=>exact Pm|@cons p q ps c h t i=>
  obtain⟨g,j⟩:=h;by_cases e:p.1=k
  .have d:q.1=k:=g.symm.trans e;have b:Ru (q::c) k=KJ q.2:=by simp[Ru,NX,d]
   rw[nA e,b];exact j
  .have d:¬q.1=k:=λz=>e (g.trans z);have b:Ru (q::c) k=Ru c k:=by simp[Ru,NX,d]
   rw[nB e,b];exact i
theorem KV.any{a:List (κ×V)}{c:List (κ×KO)}(r:KV a c)(k:κ):(a.any λb=>decide (b.1=k))=c.any λb=>decide (b.1=k):=by
 unfold KV at r;induction r with
 |nil=>rfl|cons h t d=>rw[ND,ND,d,h.1]
theorem KV.xI{b:List (κ×V)}{d:List (κ×KO)}(r:KV b d)(k:κ){y:V}{u:KO}(f:RelV y u):KV (b.map λa=>if a.1=k then(a.1,y)else a) (d.map λa=>if a.1=k then(a.1,u)else a):=by
 unfold KV at r⊢;induction r with
 |nil=>exact .nil|@cons p q ps j h t g=>
  rw[Ll,Ll];refine .cons ?_ g;obtain⟨c,i⟩:=h;by_cases e:p.1=k;.rw[if_pos e,if_pos (c.symm.trans e)];exact⟨c,f⟩
  .rw[if_neg e,if_neg (λz=>e (c.trans z))];exact⟨c,i⟩
theorem KV.put{a:List (κ×V)}{b:List (κ×KO)}(r:KV a b)(k:κ){y:V}{u:KO}(c:RelV y u):KV (putK a k y) (stored b k u):=by
 unfold putK stored;rw[r.any k];by_cases e:(b.any λd=>decide (d.1=k))=KQ;.rw[if_pos e,if_pos e];exact r.xI k c
 .rw[if_neg e,if_neg e];exact Paired.snoc r ⟨rfl,c⟩
end
theorem jA{P:Le}{w:Ly}{k:Key}{u:KO}(r:RelV (kV k) u):(ar P w).is k u=KQ:=by cases k with
 |inl i=>obtain⟨t,e⟩:=(show∃t,u=Ro i t from r);subst e;exact iJ P w i t|inr x=>obtain⟨t,e⟩:=(show∃t,u=Sf x t from r);subst e;exact nr P w x t
theorem lz{P:Le}{w:Ly}:∀{ks:List Key}{us:List KO},aq (ks.map kV) us->ItemsAre (ar P w) ks us
 |[],_,r=>by rw[Nh]at r;cases r;exact .nil|k::ks,_,r=>by
  rw[Ll]at r;cases r with|cons h t=>exact .cons (jA h) (lz t)
section
variable{X:Cx}{pins:List (KY×Mc)}{σ:St}{H:Hp}{s:KW}{a:KY}{y v:V}{u r:KO}{o:Option V}{A:LC}{E:KO->KW->Prop}
theorem Inv.GI(I:Inv X pins σ H s):Mx<s.heap.objs.size:=by
 have h:LU<s.heap.objs.size:=(I.mod.glob.keeps I.bk).lt;exact R4 (by decide) h
end
end L2
namespace Att
open PySem PySem.W PySem.Calls PyProof.Rows
theorem ja{P:P0}{h:Lx}:∀(ns:List Int)(c:List KO),WellAll P h c (ns.map WData.int)->Ny c ns:=by
 intro ns;induction ns with
 |nil=>
  intro c w;rw[Nh]at w;cases w;exact .nil|cons n ns d=>
  intro c w;rw[Ll]at w;cases w with|cons a b=>
   cases a;exact .cons _ _ (d _ b)
theorem sP{l:OpenLaw}{n:Nat}(v:l.most=KJ n){P:P0}{h:Lx}{b:List WData}{vals:List KO}(c:l.row.toRowW.claim.pre b=KQ)(j:WellAll P h vals b):∃a m ns,vals=[Ln a]/\b=[WData.list (ns.map WData.int)]/\h.get? a=KJ {cls:=.type "list",data:=.seq m.toArray}/\Ny m ns/\ns.length<=n:=by
 have k:WShape.hasAll [] b [.list .int]=KQ:=(pre_splitW c).1;have o:l.pre.holds [] {args:=b}=KQ:=(pre_splitW c).2;obtain⟨d,r,rfl,y,x⟩:=hasAllW_cons k;obtain rfl:=hasAllW_nil x;obtain⟨z,rfl,w⟩:=hasW_list y;obtain⟨ns,rfl⟩:=items_int w;have e:ns.length<=n:=by
  unfold OpenLaw.pre at o;have i:(WTm.not (.lt (.lit (.int (n:Int))) (.len (.arg 0)))).holds [] {args:=[.list (ns.map .int)]}=KQ:=by
   have i:=(holds_andW o).1;rw[v]at i;exact i
  have g:=condW_of i (w_not (w_lt w_lit (w_len_list (w_arg rfl))));rw[Lv]at g;refine Nat.le_of_not_lt λq=>?_;have t:(n:Int)<((ns.length:Nat):Int):=by omega
  first
   |(rw[decide_eq_true t]at g;exact absurd g (by decide))|(simp at g;omega)
 cases j with|cons s p=>
  cases p;cases s with|list u f=>exact⟨_,_,ns,rfl,rfl,u,ja ns _ f,e⟩
theorem sQ(l:OpenLaw)(a:List WData):l.row.toRowW.claim.post a (.bool KQ) a=KQ:=postW_of (r:=l.row.toRowW) (X:=(KQ==KQ)) (show WShape.has [] (.bool KQ) .bool=KQ by first|rfl|decide|simp[WShape.has,WShape.arms,WShape.armsAll]) (show(WTm.eq .res (.lit (.bool KQ))).value [] {args:=a,res:=KJ (.bool KQ),after:=a}=KJ (.bool (KQ==KQ))from w_eq_bool (w_res rfl) w_lit) rfl
theorem nE{l:OpenLaw}{n:Nat}{q:Le}{c:List Li}{E:(Li->Option KO)->Lx->Prop}{D:Ly->Lx->Prop}{d:DefRec}(J:l.most=KJ n)(x:d.params.defaults=[])(call:∀(w:Ly)(b7 b:KW)(mg t:Li->Option KO)(m:KY)(o:Mc)(s cd g:KO)(a:KY)(h:List KO)(ns:List Int),Ground q c [] E w b7 mg t b.heap->D w b.heap->b.heap.get? m=KJ o->o.data=.func (docDef d.name d.params d.body d.scope s cd g)->b.heap.CodeRec cd d.name->mg d.name=KJ (.ref m)->b.heap.get? a=KJ {cls:=.type "list",data:=.seq h.toArray}->Ny h ns->ns.length<=n->b.gens=#[]->codeAny (K7 l.prog w) Rv (.call (.ref m) ⟨[.ref a],[]⟩) (λr p=>r=.ok (.ret (.bool KQ))/\OldK b.heap p.heap/\p.os=b.os/\PD p.gens) b):WalkO q c E D l.row.toRowW d [] (λf h=>Qu f h):=by
 intro w b7 b mg t G Y m o s cd g Q kV I hd y B v M C z R i A F u L;obtain rfl:Q=.none:=Dflts.none B x;obtain rfl:kV=.none:=Dflts.noKw B;obtain⟨a,h,ns,rfl,rfl,j,e,k⟩:=sP J i u;refine enter_call (Qp (call w b7 b mg t m o s cd g a h ns G Y I (fd_plain hd) y v j e k M) λr p H=>?_);obtain⟨rfl,P,O,N⟩:=H;exact⟨.inl ⟨.bool KQ,.bool KQ,[],rfl,λ_=>rfl,.bool KQ,sQ l _,λ_=>⟨List.Pairwise.nil,λ_ K=>(nomatch K)⟩⟩,P,O,N⟩
end Att
namespace L2
open PySem PySem.Spec PyProof.Rows
theorem lA:∀{a:List KO}{ns:List Int},Ny a ns->aq (ns.map V.int) a
 |_,_,.nil=>.nil|_,_,.cons n t h=>.cons ⟨t,rfl⟩ (lA h)
noncomputable def AY(H:Hp):Prop:=∀b,H b=KP\/∃o a,H b=KJ (.b6 o (.lst a))
theorem uD{P:Le}{w:Ly}{K:K2}{mg I:Li->Option KO}{CX:tX}{k:Nat}{O a:KY}{fd:Mo}{x:Li}{sp:Sp}{c:KW}{j:List KO}{ns:List Int}(Y:K.In c.heap)(A:c.heap.Ns LU mg)(hb:c.heap.Ns Ql I)(M:∀x:Li,x≠"__name__"->I x=MD x)(B:c.heap.NoLimit)(hg:c.gens=#[])(ha:c.heap.get? a=KJ {cls:=.type "list",data:=.seq j.toArray})(T:Ny j ns)(S:ns.length<=KZ)(hr:cM k Rv)(F:∀base:Lx,K.In base->base.Ns LU mg->dI P w K mg base CX k O fd [x] sp)(l:∀(s:KW)(u:KO),SQ s fd ⟨[u],[]⟩ [(x,u)])(J:∀H:Hp,AY H->dF K H a (ns.map V.int)->sp [.ref a] H (λv _=>v=.bl KQ) λ_ _ _=>False)(N:∀H e f,CX [] H c (λ_ _ _=>False) e f->False):codeAny (K7 P w) Rv (.call (.ref O) ⟨[.ref a],[]⟩) (λr f=>r=.ok (.ret (.bool KQ))/\OldK c.heap f.heap/\f.os=c.os/\PD f.gens) c:=by
 have R:=lA T;have t:=T.length;have i:∀H:Hp,AY H->dF K H a (ns.map V.int)->iK P w H c.heap->(∀b,H b≠KP->b=a)->(H a≠KP->K.lookup a=KP)->codeAny (K7 P w) Rv (.call (.ref O) ⟨[.ref a],[]⟩) (λr f=>r=.ok (.ret (.bool KQ))/\OldK c.heap f.heap/\f.os=c.os/\PD f.gens) c:=by
  intro H U hS aN W hK;have fA:∀{b:KY}{o:Mc},c.heap.get? b=KJ o->H b=KP->(md c.heap H).get? b=KJ o:=λe n=>t_ e n;have G:∀{b:KY}{o:Mc}{D:Array OG}{E:Nat},c.heap.get? b=KJ o->o.data=.dict D E->H b=KP:=λ{b o D E}e d=>by cases q:H b with
   |none=>rfl|some u=>
    have Q:b=a:=W b (by rw[q];simp);subst Q;rw[ha]at e;cases e;have d':Data.seq j.toArray _=Data.dict D E:=d;cases d'
  have g:∀{b:KY}{m:Li->Option KO},c.heap.Ns b m->(md c.heap H).Ns b m:=λ{b m}⟨o,D,E,e,d,r⟩=>⟨o,D,E,fA e (G e d),d,r⟩;have C:K.In (md c.heap H):=λb o e=>fA (Y b o e) (by cases q:H b with
   |none=>rfl|some u=>
    have Q:b=a:=W b (by rw[q];simp);subst Q;rw[hK (by rw[q];simp)]at e;cases e);have hM:Mod K mg (md c.heap H):=⟨C,g A,⟨I,g hb,M⟩,let⟨mc,h1,h2⟩:=B;⟨mc,g h1,h2⟩⟩;have e0:xD P w K mg (md c.heap H) Rv [] c H:=⟨rfl,hM,λb o e=>xr e,Od (sE _ _),trivial,λb hb=>absurd (show b∈([]:List KY)from hb) (by simp),aN,.of_eq hg⟩;refine Qp ((F _ C (g A)).run Rv [] c H ⟨[.ref a],[]⟩ [.ref a] [.ref a] _ _ hr e0 (l c (.ref a)) (.cons rfl .nil) (J H U hS)) λr f h=>?_;cases r with
  |error e=>exact(N H e f h).elim|ok fl=>cases fl with
   |next=>exact MM h|brk=>exact MM h|cont=>exact MM h|ret u=>
    obtain⟨v,H',os,bare,un,y,r',q⟩:=h;have q':v=.bl KQ:=q;subst q';obtain rfl:u=N7 KQ:=r';refine⟨rfl,OldK.of_keep λb o e=>?_,os,bare⟩;cases q:H b with
    |none=>exact un.keep b o e q (by intro z;exact absurd (show b∈([]:List KY)from z) (by simp)) (by simp)|some u=>
     rcases U b with z|⟨ob,xs,z⟩;.rw[q]at z;cases z
     .have Z:=un.gY b ob _ z;obtain⟨X,_⟩:=aN b _ z;obtain⟨e2,_⟩:=y b _ Z;rw[e]at X;cases X;exact e2
 cases L:K.lookup a with
 |some o=>
  have e:=Y a o L;rw[ha]at e;cases e;refine i (λ_=>KP) (λ_=>.inl rfl) (.inr ⟨_,j.toArray,_,L,rfl,rfl,rfl,by rw[K6,t];exact S,by simpa using R⟩) (λb u z=>by have p:(KP:Option HO)=KJ u:=z;cases p) (λb z=>absurd rfl z) λz=>absurd rfl z|none=>
  refine i (λb=>if b=a then KJ (.b6 {cls:=.type "list",data:=.seq j.toArray} (.lst (ns.map V.int)))else KP) (λb=>?_) (.inl (.inr ⟨{cls:=.type "list",data:=.seq j.toArray},if_pos rfl⟩)) (λb u z=>?_) (λb z=>?_) λ_=>L
  .by_cases hb:b=a;.exact .inr ⟨_,_,if_pos hb⟩
   .exact .inl (if_neg hb)
  .by_cases hb:b=a
   .have p:=(if_pos hb).symm.trans z;cases p;subst hb;exact⟨ha,by rw[Lv];exact S,j,_,R,ha⟩
   .have p:=(if_neg hb).symm.trans z;cases p
  .by_cases hb:b=a;.exact hb
   .exact absurd (if_neg hb) z
end L2
namespace L2
open PySem PySem.Spec PyProof.Rows
theorem xJ{l:PySem.W.OpenLaw}{n k:Nat}{q:Le}{i:List Li}{U:(Li->Option KO)->Lx->Prop}{E:Ly->Lx->Prop}{d:DefRec}{K:P0->K2}{CX:Ly->tX}{sp:Ly->Sp}{x:Li}(L:l.most=KJ n)(z:n<=KZ)(B:d.params.defaults=[])(J:cM k Rv)(O:∀(w:Ly)(h:Lx),E w h->(K w.params).In h)(F:∀(w:Ly)(mg:Li->Option KO)(r:KY)(h:Lx),(K w.params).In h->h.Ns LU mg->mg d.name=KJ (.ref r)->∃fd:Mo,(∀(s:KW)(u:KO),SQ s fd ⟨[u],[]⟩ [(x,u)])/\∀base:Lx,(K w.params).In base->base.Ns LU mg->dI l.prog w (K w.params) mg base (CX w) k r fd [x] (sp w))(y:∀(w:Ly)(H:Hp)(a:KY)(ns:List Int),ns.length<=n->AY H->dF (K w.params) H a (ns.map V.int)->sp w [.ref a] H (λv _=>v=.bl KQ) λ_ _ _=>False)(C:∀(w:Ly)(H:Hp)(s:KW)(e:KO)(t:KW),CX w [] H s (λ_ _ _=>False) e t->False):PySem.W.WalkO q i U E l.row.toRowW d [] (λf D=>Qu f D):=by
 refine Att.nE L B λw b7 m mg Z r o X cd S a D ns G Y ho hd N A p j c M=>?_;have I:=O w _ Y;obtain⟨fd,hb,R⟩:=F w mg r _ I G.T.g A;exact uD I G.T.g G.T.b G.T.builtins G.T.nolimit M p j (L_ c z) J R hb (λH Q P=>y w H a ns c Q P) λH e t=>C w H m e t
end L2
namespace L2
open PySem PySem.Spec PyProof.Rows
noncomputable def cP(s:MU):P7:=match s with
 |.FunctionDef _ a _ _ _ _ _ _ _ _=>a|_=>{posonlyargs:=[],args:=[],vararg:=KP,kwonlyargs:=[],kw_defaults:=[],kwarg:=KP,defaults:=[]}
noncomputable def bR(s:MU):List MU:=match s with
 |.FunctionDef _ _ b _ _ _ _ _ _ _=>b|_=>[]
noncomputable def ak(s:MU):MT:=match s with
 |.FunctionDef _ _ _ _ _ _ sc _ _ _=>sc|_=>{kind:=.function,names:=[],isGenerator:=KR,isCoroutine:=KR}
noncomputable abbrev pA:tX:=λ_ _ _ _ _ _=>False
noncomputable abbrev E0:XK:=λ_ _ _=>False
theorem zM{X:Cx}:pK pA X E0:=λ_ _ _ _ _ _ _ h=>h.elim
structure uE(K:K2)(x qual:Li)(st:MU)(f:KY)(fd:Mo):Prop where
 ex:∃(oc:KO)(od:Option KY)(kV doc pm:KO)(an:Option KY)(cdv ct:KO)(osl:Array (Option KO)),fd=Qr x qual (cP st) (bR st) (ak st) .none kV doc pm an cdv ct/\K.lookup f=KJ ⟨oc,od,.func fd,osl⟩/\OL K cdv qual=KQ
 kp:N9 K (.ref f)=KQ
section
variable{P:Le}{w:Ly}{K:K2}{mg:Li->Option KO}{base:Lx}
theorem uE.ok{x a:Li}{st:MU}{f:KY}{fd:Mo}{N ps:List Li}{k:Nat}{sp:Sp}(F:uE K x a st f fd)(S:cg N ps (ak st))(len:∀c H Q E,sp c H Q E->c.length=ps.length)(d:∀(b:KO)(A:LC)(outer:List Q8)(s:KW)(H:Hp)(c:List V)(Q:VK)(E:XK),cM k (A.deeper (Qq a (ak st) s.heap.objs.size f b))->sp c H Q E->∃t,nj (kP pA P w K mg base N a (ak st) f b A outer s H E).Dy (bR st) t/\t {nx:=λ_ H'=>Q .bx H',rt:=Q} (start N c) H):dI P w K mg base pA (k+1) f fd ps sp:=by
 obtain⟨o,n,kV,l,m,p,b,ct,i,rfl,lk,g⟩:=F.ex;refine zK lk g S len λA outer s H c Q E j e=>?_;obtain⟨t,h,q⟩:=d b A outer s H c Q E j e;exact⟨t,h.Dy,q⟩
end
theorem Eo{A:LC}{k:Nat}(a:cM k A):A.units+1<L9:=Oz (Nat.add_le_add_left (by decide:1<=64) _) a.units
section
variable{X:Cx}
theorem pv(i:Nat){x:Li}{pos:MB}(hN:X.N[i]?=KJ x:=by rfl)(b:ni X.env.scope x:=by first|exact OO rfl|exact Pq (OO rfl)|exact Pq (Pq rfl))(hd:(x==("__debug__":Li))=KR:=by decide)(a:(x==("__classdict__":Li))=KR:=by decide):PE X (.Name x pos) (DW i):=bP hN b hd a
end
theorem HS{A B:Prop}(h:B):if KR=KQ then A else B:=by
 rw[if_neg Ld];exact h
theorem xK{c A B:Prop}[Decidable c](b:c->A)(a:¬c->B):if c then A else B:=by
 by_cases h:c
 .rw[if_pos h];exact b h
 .rw[if_neg h];exact a h
noncomputable def nF(H H':Hp):Prop:=∀b o,H b=KJ o->H' b=KJ o
end L2
namespace L2
open PySem PySem.Spec PyProof.Rows
abbrev NK:=Key⊕List Key
section
variable{prog:Le}{w:Ly}
inductive aJ(prog:Le)(w:Ly)(h:Lx):List NK->List KO->Prop|nil:aJ prog w h [] []|sc{k:Key}{v:KO}{ks:List NK}{vs:List KO}:(ar prog w).is k v=KQ->aJ prog w h ks vs->aJ prog w h (.inl k::ks) (v::vs)|tp{k:List Key}{b:KY}{ks:List NK}{vs:List KO}:IsTupleKey (ar prog w) h k b->aJ prog w h ks vs->aJ prog w h (.inr k::ks) (.ref b::vs)
noncomputable def bB(prog:Le)(w:Ly)(h:Lx)(ks:List NK)(a:KY):Prop:=∃o items n,h.get? a=KJ o/\o.cls=.type "tuple"/\o.data=.seq items n/\aJ prog w h ks items.toList
theorem aJ.inj{h:Lx}{x y:List NK}{f:List KO}(g:aJ prog w h x f)(e:aJ prog w h y f):x=y:=by induction g generalizing y with
 |nil=>cases e;rfl|sc c _ d=>cases e with
  |sc a b=>rw[(ar prog w).inj _ _ _ c a,d b]|tp a b=>have:=(ar prog w).byValue _ _ c;cases this
 |tp c _ d=>cases e with
  |sc a b=>have:=(ar prog w).byValue _ _ a;cases this|tp a b=>rw[c.inj a,d b]
theorem bB.typeIs{s:KW}{ks:List NK}{a:KY}(x:bB prog w s.heap ks a):s.TypeIs (.ref a) "tuple":=let⟨o,_,_,b,c,_⟩:=x;⟨o,b,c⟩
theorem bB.inj{h:Lx}{a:KY}{x y:List NK}(i:bB prog w h x a)(g:bB prog w h y a):x=y:=by
 obtain⟨o,items,n,j,_,hd,k⟩:=i;obtain⟨f,c,m,d,_,b,e⟩:=g;obtain rfl:o=f:=K1 (j.symm.trans d);rw[hd]at b;injection b with l _;subst l;exact k.inj e
theorem aJ.keeps{h h':Lx}{d:KY}{o:Mc}{es ep}{x:List NK}{c:List KO}(e:aJ prog w h x c)(g:h.get? d=KJ o)(hd:o.data=.dict es ep)(f:Mu d h h'):aJ prog w h' x c:=by induction e with
 |nil=>exact .nil|sc b _ a=>exact .sc b a|tp b _ a=>exact .tp (b.keeps g hd f) a
theorem bB.keeps{h h':Lx}{ks:List NK}{a d:KY}{o:Mc}{es ep}(x:bB prog w h ks a)(i:h.get? d=KJ o)(hd:o.data=.dict es ep)(g:Mu d h h'):bB prog w h' ks a:=by
 obtain⟨f,items,n,c,k,b,j⟩:=x;have e:a≠d:=by
  rintro rfl;obtain rfl:f=o:=K1 (c.symm.trans i);rw[hd]at b;exact nomatch b
 exact⟨f,items,n,(g.2 a e).trans c,k,b,j.keeps i hd g⟩
noncomputable def fM(prog:Le)(w:Ly):NK->Int
 |.inl k=>(ar prog w).hash k|.inr ks=>tupleKeyHash (ar prog w) ks
noncomputable def jB(prog:Le)(w:Ly)(ks:List NK):Int:=reduceHash (Mv (ks.map (fM prog w)))
noncomputable def Ep:NK->Nat
 |.inl _=>1|.inr ks=>ks.length+1
noncomputable def eE:List NK->Nat
 |[]=>0|k::ks=>Ep k+eE ks
theorem jC(a:List NK)(k:NK):eE (a++[k])=eE a+Ep k:=by induction a with
 |nil=>simp[eE]|cons x r b=>simp[eE,b,O1]
variable{A:LC}{E:KO->KW->Prop}{s:KW}
theorem in1_units{A:LC}(h:A.units+1<L9):A.in1.units<L9:=h
theorem sR{ks:List NK}{a:KY}{Q:Int->KW->Prop}(hu:A.units+1<L9)(t:bB prog w s.heap ks a)(h:Q (jB prog w ks) {s with toks:=s.toks+(eE ks+1)}):wpAny (K7 prog w) A (pyHash (.ref a)) Q E s:=by
 have m:=t.typeIs;obtain⟨o,items,n,u,_,hd,v⟩:=t;unfold pyHash;first|unfold pyHashByItsType|skip
 first|refine KL (wpAny_cRoomFor_or (.inr (by omega)) ?_)|skip
 refine KL (NY m PySem.F.slot_tuple_hash.lookup ?_);show wpAny _ _ (if(KJ (Value.builtin "tuple.__hash__")==KJ MH)=KQ then _ else _) Q E s;rw[if_neg (by rw[beq_builtin_none];exact Ld)];refine KL (NY m PySem.F.slot_tuple_hash.lookup ?_);show wpAny _ _ (callSpecialIfBoundUnlessNone? (.ref a) "__hash__" _>>=_) Q E s;refine KL (wpAny_callSpecialIfBoundUnlessNone?_slot m Qa (LQ Qa m PySem.F.entry_tuple_hash ?_ (PySem.F.args_tuple_hash_1 _)));show wpAny _ _ (Nq (.ref a)>>=_) _ _ s;refine KL (Pr u hd ?_);refine KL ?_;rw[<-NR];refine Ob _ (λrest(b:Array Int)p=>∃done left,ks=done++left/\aJ prog w s.heap left rest/\b.toList=done.map (fM prog w)/\p={s with toks:=s.toks+eE done}) _ ?_ ?_ _ _ ⟨[],ks,rfl,v,rfl,rfl⟩
 .rintro x rest b p⟨done,left,rfl,q,hb,rfl⟩;cases q with
  |@sc k _ g _ r j=>
   refine KL ((ar prog w).pyHash r ?_);have i:∃d e,done++.inl k::g=d++e/\aJ prog w s.heap e rest/\(b.push ((ar prog w).hash k)).toList=d.map (fM prog w)/\({s with toks:=s.toks+eE done+1}:KW)={s with toks:=s.toks+eE d}:=⟨done++[.inl k],g,by simp,j,by simp[hb,fM],by rw[jC];rfl⟩;first
    |exact KS i|exact KL (KS (KS i))
  |@tp k c g _ r j=>
   refine KL (wpAny_pyHash_tuple (in1_units hu) r ?_);have i:∃d e,done++.inr k::g=d++e/\aJ prog w s.heap e rest/\(b.push (tupleKeyHash (ar prog w) k)).toList=d.map (fM prog w)/\({s with toks:=s.toks+eE done+(k.length+1)}:KW)={s with toks:=s.toks+eE d}:=⟨done++[.inr k],g,by simp,j,by simp[hb,fM],by rw[jC,O1];rfl⟩;first
    |exact KS i|exact KL (KS (KS i))
 .rintro b p⟨done,left,rfl,q,hb,rfl⟩;cases q;rw[LF]at h;show wpAny _ _ (retInt (Mv b.toList)) _ _ _;rw[hb];refine wpAny_ret_mkInt ?_;show wpAny _ _ (if(decide (-(2:Int)^63<=Mv (done.map (fM prog w)))&&decide (Mv (done.map (fM prog w))<2^63))=KQ then _ else _) Q E _;unfold jB reduceHash at h;by_cases l:(decide (-(2:Int)^63<=Mv (done.map (fM prog w)))&&decide (Mv (done.map (fM prog w))<2^63))=KQ
  .rw[if_pos l];rw[if_pos l]at h;exact KS (by simpa[O1]using h)
  .rw[if_neg l];rw[if_neg l]at h;exact KL (Nj (KS (by simpa[O1]using h)))
theorem rb{k:Key}{v:KO}(h:(ar prog w).is k v=KQ):(∃i t,v=.int i t/\k=.inl i)\/∃x t,v=.str x t/\k=.inr x:=by
 rcases aI (k:=k) (v:=v) h with⟨i,t,b,a⟩|⟨i,t,b,a⟩;.exact .inl ⟨i,t,a,b⟩
 .exact .inr ⟨i,t,a,b⟩
theorem IsTupleKey.tup{h:Lx}{k:List Key}{b:KY}(x:IsTupleKey (ar prog w) h k b):∃items,h.IsTuple b items:=let⟨o,items,n,a,c,hd,_⟩:=x;⟨items,o,a,c,n,hd⟩
theorem aJ.two{x y:List NK}{xs ys:List KO}{u v:KO}{rest:List (KO×KO)}(hu:A.units<L9)(I:aJ prog w s.heap x xs)(F:aJ prog w s.heap y ys)(c:(u,v)::rest=List.zip xs ys):∃n m D C g f,x=n::D/\y=m::C/\xs=u::g/\ys=v::f/\rest=List.zip g f/\aJ prog w s.heap D g/\aJ prog w s.heap C f/\∀(Q:Bool->KW->Prop),Q (decide (n=m)) s->wpAny (K7 prog w) A (eqBool u v) Q E s:=by cases I with
 |nil=>simp at c|@sc k J G z p l=>cases F with
  |nil=>simp at c|@sc d H r e j h=>
   simp only[MI,Pb,O2]at c;obtain⟨⟨rfl,rfl⟩,rfl⟩:=c;refine⟨_,_,_,_,_,_,rfl,rfl,rfl,rfl,rfl,l,h,λQ q=>(ar prog w).eqBool (a:=k) (b:=d) p j ?_⟩;rw[show decide (k=d)=decide ((O0 k:NK)=O0 d)by simp];exact q|@tp d b r e j h=>
   simp only[MI,Pb,O2]at c;obtain⟨⟨rfl,rfl⟩,rfl⟩:=c;refine⟨_,_,_,_,_,_,rfl,rfl,rfl,rfl,rfl,l,h,λQ q=>?_⟩;rw[decide_eq_false (by simp)]at q;obtain⟨B,o⟩:=IsTupleKey.tup j;rcases rb p with⟨i,t,rfl,_⟩|⟨i,t,rfl,_⟩;.exact Rc i t o hu prog w E Q q
   .exact Rf i t o hu prog w E Q q
 |@tp k b1 G z p l=>cases F with
  |nil=>simp at c|@sc d H r e j h=>
   simp only[MI,Pb,O2]at c;obtain⟨⟨rfl,rfl⟩,rfl⟩:=c;refine⟨_,_,_,_,_,_,rfl,rfl,rfl,rfl,rfl,l,h,λQ q=>?_⟩;rw[decide_eq_false (by simp)]at q;obtain⟨B,o⟩:=IsTupleKey.tup p;rcases rb j with⟨i,t,rfl,_⟩|⟨i,t,rfl,_⟩;.exact Rg i t o hu prog w E Q q
   .exact Rh i t o hu prog w E Q q|@tp d b r e j h=>
   simp only[MI,Pb,O2]at c;obtain⟨⟨rfl,rfl⟩,rfl⟩:=c;refine⟨_,_,_,_,_,_,rfl,rfl,rfl,rfl,rfl,l,h,λQ q=>RP hu p j ?_⟩;rw[show decide (k=d)=decide ((PB k:NK)=PB d)by simp];exact q
theorem aJ.length{h:Lx}{x:List NK}{xs:List KO}(b:aJ prog w h x xs):x.length=xs.length:=by induction b with
 |nil=>rfl|sc _ _ a=>simp[a]|tp _ _ a=>simp[a]
theorem xM{x y:List NK}{a b:KY}{P:PySem.Fin->KW->Prop}(hu:A.units<L9)(U:bB prog w s.heap x a)(T:bB prog w s.heap y b)(h:P (.done (.ret (.bool (decide (x=y))))) s):wpAny (K7 prog w) A (Builtin.«tuple.__eq__» ⟨[.ref a,.ref b],[]⟩) P E s:=by
 have S:=T.typeIs;obtain⟨Y,G,na,L,_,R,O⟩:=U;obtain⟨ob,F,Z,K,_,Q,N⟩:=T;show wpAny _ _ (RQ (.ref b) (.type "tuple")>>=_) _ _ s;refine KL (NM S OV ?_);simp only[LW,Lc,if_false];refine KL (Pr L R ?_);refine KL (Pr K Q ?_);refine KL ?_;refine Ob _ (λrest r H=>r.1=KP/\H=s/\∃q j e d,rest=List.zip e d/\aJ prog w s.heap q e/\aJ prog w s.heap j d/\decide (q=j)=decide (x=y)/\(e.length==d.length)=(G.size==F.size)) _ ?_ ?_ _ _ ⟨rfl,rfl,x,y,G.toList,F.toList,rfl,O,N,rfl,by simp⟩
 .rintro⟨u,v⟩rest r H⟨J,rfl,q,j,e,d,I,i,g,c,f⟩;obtain⟨n,m,p,l,o,k,rfl,rfl,rfl,rfl,rfl,C,z,ask⟩:=i.two (E:=E) hu g I;refine KL (ask _ ?_);by_cases M:n=m
  .subst M;rw[decide_eq_true rfl];simp only[LW,Lc,if_false];refine KS ⟨rfl,rfl,p,l,o,k,rfl,C,z,?_,by simpa using f⟩;rw[<-c];by_cases B:p=l;.simp[B]
   .simp[B]
  .rw[decide_eq_false M];simp only[Pt,if_true];have V:decide (x=y)=KR:=by rw[<-c];simp[M]
   rw[V]at h;exact KL (KS (KS (KS h)))
 .rintro⟨X,W⟩H⟨J,rfl,q,j,e,d,I,i,g,c,f⟩;simp only at J;subst J;refine KS ?_;have D:(G.size==F.size)=decide (x=y):=by
   rw[<-c,<-f,<-i.length,<-g.length];have t:=congrArg OD I;simp only[Md,List.length_zip,<-i.length,<-g.length]at t;cases q with
   |nil=>cases j<;>simp|cons _ _=>cases j with
    |nil=>simp|cons _ _=>simp at t
  show P (.done (.ret (.bool (G.size==F.size)))) H;rw[D];exact h
theorem xN{x y:List NK}{a b:KY}{Q:Bool->KW->Prop}(hu:A.units+1<L9)(d:bB prog w s.heap x a)(f:bB prog w s.heap y b)(h:Q (decide (x=y)) s):wpAny (K7 prog w) A (eqBool (.ref a) (.ref b)) Q E s:=by
 unfold eqBool;try with_reducible refine LK ?_
 show wpAny _ _ (if(Ln a==Ln b)=KQ then _ else _) Q E s;by_cases c:(Ln a==Ln b)=KQ
 .rw[if_pos c];have e:a=b:=by have:=eq_of_beq c;injection this
  subst e;obtain rfl:=d.inj f;exact KL (Nj (KS (by simpa using h)))
 .rw[if_neg c];exact KL (wpAny_richCompare_same_room (op:=.Eq) d.typeIs f.typeIs QZ (LQ QZ d.typeIs PySem.F.entry_tuple_eq (xM (in1_units hu) d f ⟨_,rfl,(λe=>nomatch e),Ml h⟩) (PySem.F.args_tuple_eq_2 _ _)) (by omega))
theorem sS(n:Nat){ks:List Key}{a:KY}{Q:Bool->KW->Prop}(f:IsTupleKey (ar prog w) s.heap ks a)(h:Q KQ s):wpAny (K7 prog w) A (Sh (n+1) (.ref a)) Q E s:=by
 have g:=f.typeIs;obtain⟨o,items,m,i,_,hd,j⟩:=f;unfold Sh;refine KL (NY g PySem.F.slot_tuple_eq.lookup ?_);show wpAny _ _ (RQ (.ref a) (.type "tuple")>>=_) _ _ s;refine KL (NM g OV ?_);simp only[LW,Lc,if_false];refine KL (Me i hd ?_);refine KL ?_;show wpAny _ _ (forIn items _ _) _ _ s;rw[<-NR];refine Ob _ (λrest r c=>r.1=KP/\c=s/\∀v∈rest,carriedByValue v=KQ) _ ?_ ?_ _ _ ⟨rfl,rfl,j.byValue⟩
 .rintro v rest r c⟨e,rfl,b⟩;rw[R5 _ (b v K5)];refine KL (KS ?_);simp only[LW,Lc,if_false];exact KS ⟨rfl,rfl,λu d=>b u (K4 _ d)⟩
 .rintro⟨l,k⟩c⟨e,rfl,_⟩;simp only at e;subst e;exact KS h
theorem pO{ks:List NK}{a:KY}{Q:Bool->KW->Prop}(e:bB prog w s.heap ks a)(h:Q KQ s):wpAny (K7 prog w) A (Sh 8 (.ref a)) Q E s:=by
 have f:=e.typeIs;obtain⟨o,items,m,g,_,hd,j⟩:=e;unfold Sh;refine KL (NY f PySem.F.slot_tuple_eq.lookup ?_);show wpAny _ _ (RQ (.ref a) (.type "tuple")>>=_) _ _ s;refine KL (NM f OV ?_);simp only[LW,Lc,if_false];refine KL (Me g hd ?_);refine KL ?_;show wpAny _ _ (forIn items _ _) _ _ s;rw[<-NR];refine Ob _ (λrest r b=>r.1=KP/\b=s/\∃ks,aJ prog w s.heap ks rest) _ ?_ ?_ _ _ ⟨rfl,rfl,ks,j⟩
 .rintro v rest r b⟨c,rfl,ks,i⟩;cases i with
  |sc d t=>
   rw[R5 _ ((ar prog w).byValue _ _ d)];refine KL (KS ?_);simp only[LW,Lc,if_false];exact KS ⟨rfl,rfl,_,t⟩|tp d t=>
   refine KL (sS 6 d ?_);simp only[LW,Lc,if_false];exact KS ⟨rfl,rfl,_,t⟩
 .rintro⟨l,k⟩b⟨c,rfl,_⟩;simp only at c;subst c;exact KS h
end
noncomputable def cu(prog:Le)(w:Ly):HeapKind prog w (List NK)where
 is:=bB prog w;hash:=jB prog w;draws:=λks=>eE ks+1;room:=λA=>A.units+1<L9;inj:=λb a=>b.inj a;keeps:=λx e hd d=>x.keeps e hd d;pyHash:=λhu c h=>sR hu c h;eqBool:=λhu b a h=>xN hu b a h;quiet:=λc h=>pO c h
theorem fB{prog:Le}{w:Ly}{A:LC}(hu:A.units+2<L9):(cu prog w).room A.in1:=hu
structure GJ(X:Cx)(scope:MT)(cl:List (Li×KY)):Prop where
 HU:SG scope X.env=pure cl
 sub:∀x c,cl.lookup x=KJ c->X.env.cells.lookup x=KJ c
 has:∀x,scope.names.lookup x=KJ .free->(∃c,cl.lookup x=KJ c)/\(X.env.kindOf x=KJ .cell\/X.env.kindOf x=KJ .free)kind:scope.kind=.function
 cells:∀y∈scope.names,y.2=.cell->scope.names.lookup y.1=KJ .cell
 names:∀y∈scope.names,y.2=.local->scope.names.lookup y.1=KJ .local
noncomputable def eQ(X:Cx)(b:List (KY×Mc))(a:MT)(N:List Li)(c:List (Li×KY))(C:KY)(fp:List KY)(s:KW)(H:Hp):Cx:={X with N:=N,b7:=s,gj:=H,env:=compEnvC a c C X.env,outer:=X.stack,stack:=X.stack,ex:=fp,fn:=λx=>a.names.lookup x==KJ .cell,pn:=X.pn++b,xe:=λ_ _=>False}
theorem cZ{env:Q8}:∀{names:List (Li×Nn)}{x:Li}{k:Nn},(names.map λ(n,k)=>if(k==Ms&&env.scope.kind==.function&&env.kindOf n==KJ .cell)then(n,Mg)else(n,k)).lookup x=KJ k->(k=.cell\/k=.free)->names.lookup x=KJ .free\/names.lookup x=KJ .cell
 |[],_,_,h,_=>by simp at h|(n,b)::r,x,k,h,d=>by
  have e:=@cZ env r x k;have h:Sl x ((if(b==Ms&&env.scope.kind==.function&&env.kindOf n==KJ .cell)=KQ then(n,Mg)else(n,b))::_)=KJ k:=h;cases c:x==n with
  |true=>
   by_cases a:(b==Ms&&env.scope.kind==.function&&env.kindOf n==KJ .cell)=KQ
   .rw[if_pos a]at h;simp only[K0,beq_iff_eq]at a;simp only[LJ,c];exact .inl (by rw[a.1.1])
   .rw[if_neg a]at h;simp only[LJ,c]at h⊢;cases h;rcases d with z|z;.exact .inr (by rw[z])
    .exact .inl (by rw[z])|false=>
   by_cases a:(b==Ms&&env.scope.kind==.function&&env.kindOf n==KJ .cell)=KQ
   .rw[if_pos a]at h;simp only[LJ,c]at h⊢;exact e h d
   .rw[if_neg a]at h;simp only[LJ,c]at h⊢;exact e h d
theorem jD:∀(names:List (Li×Nn))(n:Nat)(a:List (Li×KY)),(∀x c,a.lookup x=KJ c->c<n)->(∀x y c,a.lookup x=KJ c->a.lookup y=KJ c->x=y)->(∀x y c,(Ni n names a).lookup x=KJ c->(Ni n names a).lookup y=KJ c->x=y)/\∀x c,(Ni n names a).lookup x=KJ c->(a.lookup x=KJ c/\(x,Mg)∉names)\/(n<=c/\(x,Mg)∈names/\∀h:Lx,h.objs.size=n->(Oe h names).IsCell c KP)
 |[],n,a,_,l=>⟨l,λx c e=>.inl ⟨e,by simp⟩⟩|(b,kind)::r,n,a,hb,l=>by
  by_cases t:kind=.cell
  .subst t;have u:Ni n ((b,Mg)::r) a=Ni (n+1) r ((b,n)::a):=rfl;have lk:∀x c,((b,n)::a).lookup x=KJ c->(x=b/\c=n)\/(x≠b/\a.lookup x=KJ c):=λx c e=>by
    rw[LJ]at e;cases k:x==b with
    |true=>rw[k]at e;cases e;exact .inl ⟨beq_iff_eq.mp k,rfl⟩|false=>rw[k]at e;exact .inr ⟨by simpa using k,e⟩
   obtain⟨s,p⟩:=jD r (n+1) ((b,n)::a) (λx c e=>by
    rcases lk x c e with⟨_,z⟩|⟨_,z⟩;.rw[z];exact Qb n
    .exact PL (hb x c z)) (λx y c A w=>by
    rcases lk x c A with⟨f,d⟩|⟨_,d⟩<;>rcases lk y c w with⟨o,g⟩|⟨_,g⟩;.rw[f,o]
    .exact absurd (hb y c g) (by rw[d];exact LX n)
    .exact absurd (hb x c d) (by rw[g];exact LX n)
    .exact l x y c d g);rw[u];refine⟨s,λx c e=>?_⟩;rcases p x c e with⟨f,d⟩|⟨f,d,m⟩
   .rcases lk x c f with⟨rfl,rfl⟩|⟨o,g⟩
    .refine .inr ⟨La _,K5,λh i=>?_⟩;show(Oe (h.push {cls:=.type "cell",data:=.cell KP}) r).IsCell c KP;exact⟨_,QN r _ _ _ (i▸Lb _ rfl),rfl⟩
    .refine .inl ⟨g,λq=>?_⟩;rcases List.mem_cons.mp q with q|q;.exact o (Prod.mk.inj q).1
     .exact d q
   .refine .inr ⟨Nat.le_of_succ_le f,K4 _ d,λh i=>?_⟩;show(Oe (h.push {cls:=.type "cell",data:=.cell KP}) r).IsCell c KP;exact m _ (by rw[Mq,i])
  .have j:(kind==Mg)=KR:=beq_eq_false_iff_ne.mpr t;have u:Ni n ((b,kind)::r) a=Ni n r a:=by
    show(if kind==Mg then _ else _)=_;rw[j];rfl
   have v:∀h:Lx,Oe h ((b,kind)::r)=Oe h r:=λh=>by
    show(if kind==Mg then _ else _)=_;rw[j];rfl
   obtain⟨s,p⟩:=jD r n a hb l;rw[u];refine⟨s,λx c e=>?_⟩;rcases p x c e with⟨f,d⟩|⟨f,d,m⟩
   .refine .inl ⟨f,λq=>?_⟩;rcases List.mem_cons.mp q with q|q;.exact t (Prod.mk.inj q).2.symm
    .exact d q
   .exact .inr ⟨f,K4 _ d,λh i=>by rw[v];exact m h i⟩
structure AZ(X:Cx)(scope:MT)(s:KW)(C:KY)(h':Lx)(cs:List (Li×KY)):Prop where
 inj:∀x y c,cs.lookup x=KJ c->cs.lookup y=KJ c->x=y
 sub:∀x c,cs.lookup x=KJ c->(X.env.cells.lookup x=KJ c/\scope.names.lookup x≠KJ .cell)\/(s.heap.objs.size<=C/\C<c/\h'.IsCell c KP)free:∀x c,cs.lookup x=KJ c->scope.names.lookup x=KJ .free->X.env.cells.lookup x=KJ c
 has:∀x,scope.names.lookup x=KJ .cell\/scope.names.lookup x=KJ .free->∃c,cs.lookup x=KJ c
theorem mv{M:Si}{A:LC}{E:KO->KW->Prop}{s:KW}{a:MT}{globals:KY}{f:List (Li×KY)}{c:Li}{b:Q8}{Q:Q8->KW->Prop}(h:Q (newEnv a s.heap.objs.size globals (Ni (s.heap.objs.size+1) a.names f) c KP .none (KJ b) Ql) {s with heap:=Oe (s.heap.push {cls:=.type "dict",data:=.dict #[]}) a.names}):wpAny M A (newFunctionEnv a globals f [] c KP .none (KJ b)) Q E s:=by
 simp only[newFunctionEnv,RO,if_true];refine KL (wpAny_alloc ?_);refine KL (wpAny_layCells _ (λe kind cells=>by cases d:kind==Mg<;>simp[d]) _ _ _ _ ?_);rw[NN];refine KL (KS (KS ?_));rw[show({s with heap:=s.heap.push {cls:=.type "dict",data:=.dict #[]}}:KW).heap.objs.size=s.heap.objs.size+1 from Mq ..];exact h
section
variable{X:Cx}{pins:List (KY×Mc)}{σ:St}{H H':Hp}{s s':KW}{cs:List (Li×KY)}{fp:List KY}{scope:MT}{cl:List (Li×KY)}{own fr:List Li}{js:List Nat}{C:KY}{h':Lx}
noncomputable def aP(σ:St)(n:Nat)(js:List Nat):St:=Mp n KP++js.map λj=>(σ[j]?).join
theorem rf(I:Inv X pins σ H s)(a:∀b∈fp,dG X pins H b):∀b∈fp,b∉sF X.stack:=λb hb z=>by
 obtain⟨_,d,c,_⟩:=a b hb;rcases List.mem_cons.mp (I.jr b z)with e|e;.exact d e
 .exact c e
theorem A0(I:Inv X pins σ H s)(d:∀b∈fp,dG X pins H b)(g:∀b∈fp,b<s.heap.objs.size)(c:GJ X scope cl)(k:AZ X scope s C h' cs)(j:s.heap.objs.size<=C){N:List Li}:(eQ X pins scope N cs C fp s H).Ok where
 mod:=I.mod;kind:=c.kind;glob:=I.ok.glob;blt:=I.ok.blt;above:=j;inj:=k.inj;has:=λx f=>by
  have l:scope.names.lookup x=KJ .free\/scope.names.lookup x=KJ .cell:=by
   rcases f with f|f;.exact cZ f (.inl rfl)
   .exact cZ f (.inr rfl)
  exact k.has x l.symm
 Dx:=λx a z e=>by
  have z:(scope.names.lookup x==KJ .cell)=KQ:=z;rcases k.sub x a e with⟨_,q⟩|⟨i,h,_⟩;.exact absurd (beq_iff_eq.mp z) q
  .exact Pf (Oz i h)
 hd:=I.ok.hd;frames:=I.ok.frames;DR:=.inl rfl;Hl:=λb hb=>⟨Lu (Lh (g b hb) j),λx a e=>by
  rcases k.sub x a e with⟨q,_⟩|⟨i,h,_⟩;.exact(d b hb).2.2.2.2.1 x a q
  .exact Ng (R4 (Lh (g b hb) i) h)⟩;bs:=I.bs;xt:=L_ I.ok.xt I.sz;sG:=λb o e hb=>by
  rcases(d b hb).2.2.2.1 with z|z;.exact I.ok.sG b o e z
  .exact absurd (Lh (Lh (K8 e) I.ok.xt) z) (LX _)
 ua:=rf I d;i7:=I.stack;Am:=I.qP
theorem sT(I:Inv X pins σ H s)(L:∀b∈fp,dG X pins H b)(M:∀b∈fp,b<s.heap.objs.size)(c:GJ X scope cl)(A:AZ X scope s C h' cs)(S:js.map (λj=>X.N[j]?)=fr.map KJ)(K:∀x∈fr,scope.names.lookup x=KJ .free){t':Nat}(O:s.heap.objs.size<=C)(k:∀b o,s.heap.get? b=KJ o->h'.get? b=KJ o){m:Li->Option KO}(hn:h'.Ns C m):Inv (eQ X pins scope (own++fr) cs C fp s H) [] (aP σ own.length js) H {s with heap:=h',toks:=t'}:=by
 have jl:js.length=fr.length:=by simpa using congrArg OD S
 refine⟨A0 I L M c A O,rfl,I.bare,Un.kept k,⟨m,hn,λi x v w f _=>?_⟩,λx a e=>?_,I.aN.fresh O,λx a e=>?_,λp F=>?_,I.aN.kept k,?_⟩
 .unfold aP at f;have w:(own++fr)[i]?=KJ x:=w;by_cases J:i<own.length
  .rw[L3 (by simpa using J),NL,if_pos J]at f;cases f
  .rw[LN (by simpa using J)]at f;rw[LN (by omega)]at w;rw[MV]at f;generalize i-own.length=t at w f;have E:=congrArg (λl=>l[t]?) S;rw[Lw,Lw,w]at E;rw[Lw]at f;cases U:js[t]? with
   |none=>rw[U]at f;cases f|some j=>
    rw[U]at f E;have h:X.N[j]?=KJ x:=K1 E;have hv:σ[j]?=KJ (KJ v):=by
     have f:(σ[j]?).join=KJ v:=K1 f;cases T:σ[j]? with
     |none=>rw[T]at f;cases f|some o=>
      rw[T]at f;have f:o=KJ v:=f;rw[f]
    have g:=K x (LV w);obtain⟨_,P⟩:=c.has x g;obtain⟨a,V⟩:=A.has x (.inr g);obtain⟨m0,_,hl⟩:=I.loc;obtain⟨u,r,lk⟩:=hl j x v h hv (.inr P);refine⟨u,r,.inr ⟨?_,a,V,?_⟩⟩
    .show(SS scope X.env).names.lookup x=KJ .cell\/(SS scope X.env).names.lookup x=KJ .free;have gen:∀names:List (Li×Nn),names.lookup x=KJ .free->(names.map λ(n,k)=>if(k==Ms&&X.env.scope.kind==.function&&X.env.kindOf n==KJ .cell)then(n,Mg)else(n,k)).lookup x=KJ .cell\/(names.map λ(n,k)=>if(k==Ms&&X.env.scope.kind==.function&&X.env.kindOf n==KJ .cell)then(n,Mg)else(n,k)).lookup x=KJ .free:=by
      intro names;induction names with
      |nil=>intro z;simp at z|cons y r R=>
       obtain⟨n,B⟩:=y;intro z;show Sl x ((if(B==Ms&&X.env.scope.kind==.function&&X.env.kindOf n==KJ .cell)=KQ then(n,Mg)else(n,B))::_)=_\/Sl x ((if(B==Ms&&X.env.scope.kind==.function&&X.env.kindOf n==KJ .cell)=KQ then(n,Mg)else(n,B))::_)=_;cases h:x==n with
       |true=>
        simp only[LJ,h]at z;cases z;by_cases D:(Ms==Ms&&X.env.scope.kind==.function&&X.env.kindOf n==KJ .cell)=KQ;.rw[if_pos D];exact .inl (by simp[LJ,h])
        .rw[if_neg D];exact .inr (by simp[LJ,h])|false=>
        simp only[LJ,h]at z;by_cases D:(B==Ms&&X.env.scope.kind==.function&&X.env.kindOf n==KJ .cell)=KQ;.rw[if_pos D];simp only[LJ,h];exact R z
        .rw[if_neg D];simp only[LJ,h];exact R z
     exact gen scope.names g
    .rcases lk with⟨Q,_⟩|⟨_,b,eb,z⟩
     .rcases P with q|q;.rw[Q]at q;cases q
      .rw[Q]at q;cases q
     .have e:=A.free x a V g;rw[eb]at e;cases e;obtain⟨o,G,hd⟩:=z;exact⟨o,k _ _ G,hd⟩
 .rcases A.sub x a e with⟨q,_⟩|⟨_,_,q⟩
  .obtain⟨v,o,G,hd⟩:=I.cell x a q;exact⟨v,o,k _ _ G,hd⟩
  .exact⟨KP,q⟩
 .rcases A.sub x a e with⟨q,_⟩|⟨Y,W,_⟩;.exact I.cY x a q
  .exact I.aN.fresh (Pf (Oz Y W))
 .have F:p∈X.pn++pins:=by simpa[eQ]using F
  obtain⟨e,n,ne,Z,d⟩:=I.pin p F;refine⟨k _ _ e,n,Lu (Lh (K8 e) O),λz=>?_,d⟩;rcases List.mem_cons.mp (I.jr _ z)with q|q;.exact ne q
  .exact Z q
 .show(aP σ own.length js).length=(own++fr).length;unfold aP;simp[jl]
theorem xO{a:St}{pl:List (KY×Mc)}{N:List Li}(I:Inv X pins σ H s)(c:∀b∈fp,dG X pins H b)(J:Inv (eQ X pins scope N cl C fp s H) pl a H' s'):Inv X pins σ H' s':=by
 refine I.DV (ch:=fp) J.os J.base J.aN J.bare λb hb=>?_;obtain⟨_,g,_,f,e,d⟩:=c b hb;exact⟨f,g,e,d⟩
theorem Inv.zN{a:KY}{o:HO}(I:Inv X pins σ H s)(ha:X.b7.heap.objs.size<=a)(f:H a=KP)(l:a≠X.env.locals)(k:∀x c,X.env.cells.lookup x=KJ c->c≠a)(j:∀p∈X.pn++pins,p.1≠a)(new:bo X.prog X.w (upd H a o) s.heap a o):Inv X pins σ (upd H a o) s:=by
 refine⟨I.ok,I.os,I.bare,⟨I.base.keep,I.base.slot,λb ob e n i=>?_,I.base.there,λb g e=>?_,λb ob u e=>?_,λb ps e=>?_⟩,I.loc,I.cell,?_,λx c e=>?_,λp h=>?_,λb u e=>?_,I.len⟩
 .rw[af (Lu (Lh (K8 e) ha))];exact I.base.free b ob e n i
 .have q:=I.base.iZ b g e;rw[af (aA q f)];exact q
 .have q:=I.base.gY b ob u e;rw[af (aA q f)];exact q
 .obtain⟨d,q⟩:=I.base.i5 b ps e;exact⟨d,by rw[af (aA q f)];exact q⟩
 .rw[af (LS l)];exact I.free
 .rw[af (k x c e)];exact I.cY x c e
 .obtain⟨e,n,r⟩:=I.pin p h;exact⟨e,by rw[af (j p h)];exact n,r⟩
 .by_cases hb:b=a
  .subst hb;rw[ai]at e;cases e;exact new
  .rw[af hb]at e;exact(I.aN b u e).dW (λ_ _ _ q=>q) (λc q=>by rw[af (aA q f)];exact q) λc g q=>by rw[af (aA q f)];exact q
end
noncomputable def uF(Y:Cx)(ifs:List K_)(t:TT):Prop:=∀(a:List (KY×Mc))(s:KW)(b:St)(H:Hp)(Q:Bool->Hp->Prop),Inv Y a b H s->t b H Q->wpAny (K7 Y.prog Y.w) Y.A (forIn ifs KQ λc r=>if r=KQ then do let ok<-RI c Y.env (MW c Y.env);pure (ME ok)else pure (ME r)) (TP Y a b Q) Y.xe s
noncomputable def A7:TT:=λ_ H Q=>Q KQ H
theorem nG{Y:Cx}:uF Y [] A7:=λa s b H Q I h=>wpAny_tests_nil ⟨H,I,h⟩
theorem uG{Y:Cx}{c:K_}{t:TT}(h:PT Y c t):uF Y [c] t:=λa s b H Q I q=>wpAny_tests_one (h a s b H Q I q)
noncomputable abbrev RB(a:Type):=St->Hp->a->(a->St->Hp->Prop)->Prop
noncomputable def Body(Y:Cx){e:Type}(ok:e->Mc->Prop)(D:KY)(body:Py Unit)(rd:RB e):Prop:=∀(b:List (KY×Mc))(s:KW)(f:St)(H:Hp)(a:e)(ob:Mc)(Q:e->St->Hp->Prop),Inv Y ((D,ob)::b) f H s->(∀p∈Y.pn++b,p.1≠D)->ok a ob->rd f H a Q->wpAny (K7 Y.prog Y.w) Y.A body (λ_ i=>∃g d c h,Inv Y ((D,d)::b) c h i/\ok g d/\Q g c h) Y.xe s
noncomputable def uH{j:Type}(J:It)(g:TG)(e:TT)(rd:RB j):RB j:=λd H a Q=>∃W:Nat->Nat->j->St->Hp->Prop,(∃m,W 0 m a d H)/\∀i m a d H,W i m a d H->(J.stop i H/\Q a d H)\/(J.go i H/\∀x l,J.GG i H x l->g x d l λc p=>e c p λb k=>if b=KQ then rd c k a λn h o=>∃f,f<m/\W (i+1) f n h o else∃f,f<m/\W (i+1) f a c k)
theorem nH{Y:Cx}{α:Type}{ok:α->Mc->Prop}{D it:KY}{e tg:K_}{d:Nat}{ifs:List K_}{body:Py Unit}{pos0:MB}{J:It}{fp:List KY}{tn:Nat->Lx->Prop}{g:TG}{G:TT}{rd:RB α}(hc:Y.calm=KQ)(hx:∀x C,¬Y.xe x C)(a9:(K7 Y.prog Y.w).den (.compLoop e d (.ref it) (.ref D) Y.env)=(SH e d (.ref it) (.ref D) Y.env).onRaise (λx=>do noteFrame x Y.env;theTreesLotGoes x))(a5:Y.A.under (.compLoop e d (.ref it) (.ref D) Y.env)=Y.A)(b3:SH e d (.ref it) (.ref D) Y.env=(do
   Rp pos0;match<-N4 (.ref it)with
   |none=>pure (.done .next)|some v=>
    Oy tg (.ref it) v;PX tg Y.env v;let mut ok:=KQ;for c in ifs do if ok then ok<-RI c Y.env (MW c Y.env)
    if ok then body
    SV (.compLoop e d (.ref it) (.ref D) Y.env)))(T:Turn Y.prog Y.w Y.K tg J fp it tn)(hg:PG Y tg g)(hi:uF Y ifs G)(hb:Body Y ok D body rd){f:List (KY×Mc)}{ob:Mc}{a:α}{F:St}{H:Hp}{s:KW}{Q:α->St->Hp->Prop}(I:Inv Y ((D,ob)::f) F H s)(a7:∀p∈Y.pn++f,p.1≠D)(aN:ok a ob)(S:∀b∈fp,dG Y ((D,ob)::f) H b)(b2:tn 0 s.heap)(h:uH J g G rd F H a Q):codeAny (K7 Y.prog Y.w) Y.A (.compLoop e d (.ref it) (.ref D) Y.env) (λr C=>∃a' E a0 H',r=.ok .next/\Inv Y ((D,E)::f) a0 H' C/\ok a' E/\Q a' a0 H'/\∀b∈fp,H' b=KP) s:=by
 obtain⟨W,⟨m0,w0⟩,a2⟩:=h;have B:∀{H':Hp}{E:Mc},(∀b∈fp,H' b=KP)->∀b∈fp,dG Y ((D,E)::f) H' b:=λ{H' E}hn b hb=>by
  obtain⟨_,h1,h2,h3,h4,h5⟩:=S b hb;refine⟨hn b hb,h1,h2,h3,h4,λp hp=>?_⟩;rcases List.mem_append.mp hp with z|z;.exact h5 p (M0 _ z)
  .rcases List.mem_cons.mp z with q|q;.rw[q];exact h5 (D,ob) (Lj _ K5)
   .exact h5 p (Lj _ (K4 _ q))
 have a6:∀h:Lx,∀p∈Y.pn++(f++dY fp h),p.1≠D:=λh p hp=>by
  rcases List.mem_append.mp hp with z|z;.exact a7 p (M0 _ z)
  .rcases List.mem_append.mp z with q|q;.exact a7 p (Lj _ q)
   .exact LS ((S p.1 (k8 q).1).2.2.2.2.2 (D,ob) (Lj _ K5))
 have y:∀{R:KO->KW->Prop}(x:KO)(C:KW),Y.xe x C->R x C:=λx C z=>(hx x C z).elim;refine codeAny_loop rfl (λn C=>∃i a ob F H,Inv Y ((D,ob)::f) F H C/\ok a ob/\tn i C.heap/\(∀b∈fp,H b=KP)/\W i n a F H) ?_ m0 ⟨0,a,ob,F,H,I,aN,b2,λb hb=>(S b hb).1,w0⟩;rintro n s3⟨i,a3,P,l,H3,I3,O,a4,U,w3⟩;rw[a9,a5];refine wpAny_noted ?_;rw[b3];refine KL (Om (KL ?_));rcases a2 i n a3 l H3 w3 with⟨stop,qn⟩|⟨go,step⟩
 .refine ML (T.done Y rfl rfl rfl hc i _ s3 l H3 Y.xe I3 (B U) a4 stop) (λr s4⟨hr,I4⟩=>?_) y;subst hr;exact KS ⟨a3,P,l,H3,rfl,I4,O,qn,U⟩
 .refine ML (T.item Y rfl rfl rfl hc i _ s3 l H3 Y.xe I3 (B U) a4 go) (λr s4⟨u,hr,h4⟩=>?_) y;subst hr;refine KL (ML h4 (λ_ V⟨x,H5,I5,r5,y5,M,b4⟩=>?_) y);have c2:Inv Y ((D,P)::(f++dY fp V.heap)) l H5 V:=I5.pinned (B b4) (T.obj _ _ M);refine KL (ML (hg _ V l H5 x u _ c2 r5 (step x H5 y5)) (λ_ s6⟨Z,H6,I6,q6⟩=>?_) y);refine KL (ML (hi _ s6 Z H6 _ I6 q6) (λb s7⟨H7,I7,q7⟩=>?_) y);have j:∀{a8:α}{t:Mc}{k:St}{X:Hp}{s8:KW},Inv Y ((D,t)::(f++dY fp V.heap)) k X s8->ok a8 t->(∃m',m'<n/\W (i+1) m' a8 k X)->∃m,m<n/\∃i a ob F H,Inv Y ((D,ob)::f) F H s8/\ok a ob/\tn i s8.heap/\(∀b∈fp,H b=KP)/\W i m a F H:=λ{a8 t k X s8}I8 N b0=>by
   obtain⟨m',hm,w8⟩:=b0;have L:=λ(b:KY)(o:Mc)(z:(b,o)∈dY fp V.heap)=>I8.pin (b,o) (Lj _ (K4 _ (Lj _ z)));have c1:Inv Y (((D,t)::f)++dY fp V.heap) k X s8:=I8;refine⟨m',hm,i+1,a8,t,k,X,c1.gr,N,T.keep _ _ _ M λb hb o e=>(L b o (dZ hb e)).1,λb hb=>?_,w8⟩;obtain⟨o,e,_⟩:=T.obj _ _ M b hb;exact(L b o (dZ hb e)).2.1
  cases b with
  |false=>
   rw[if_neg Ld]at q7;exact KS ⟨rfl,j I7 O q7⟩|true=>
   rw[if_pos rfl]at q7;refine KL (ML (hb _ s7 Z H7 a3 P _ I7 (a6 _) O q7) (λ_ s8⟨a8,t,k,X,I8,N,q8⟩=>?_) y);exact KS ⟨rfl,j I8 N q8⟩
noncomputable def GK(b:List V)(ob:Mc):Prop:=b.length<=KZ/\∃(a:List KO)(n:Nat),aq b a/\ob={cls:=.type "list",data:=.seq a.toArray n}
noncomputable def g0(te:TE):RB (List V):=λb H a Q=>te b H λy c=>a.length<KZ/\Q (a++[y]) b c
theorem aq.snoc{xs:List V}{us:List KO}{x:V}{u:KO}(r:aq xs us)(q:RelV x u):aq (xs++[x]) (us++[u]):=r.append (.cons q .nil)
theorem Inv.Er{Y:Cx}{a:List (KY×Mc)}{h:St}{H:Hp}{s:KW}{D:KY}{ob d:Mc}{h':Lx}(I:Inv Y ((D,ob)::a) h H s)(r:Y.b7.heap.objs.size<=D)(j:∀x c,Y.env.cells.lookup x=KJ c->c≠D)(q:∀p∈Y.pn++a,p.1≠D)(k:∀b o,b≠D->s.heap.get? b=KJ o->h'.get? b=KJ o)(e:h'.get? D=KJ d)(hd:∀v,d.data≠.cell v){t':Nat}:Inv Y ((D,d)::a) h H {s with heap:=h',toks:=t'}:=by
 obtain⟨_,n,ne,m,_⟩:=I.pin (D,ob) (Lj _ K5);have t:Inv Y a h H s:=I.dX λp i=>I.pin p (Lj _ (K4 _ i));have l:Inv Y a h H {s with heap:=h',toks:=t'}:=t.turned (it:=D) k n ne (.inr r) j q;refine l.dX λp i=>?_;rcases List.mem_cons.mp i with z|z;.rw[z];exact⟨e,n,ne,m,hd⟩
 .exact l.pin p (Lj _ z)
structure HV(Y:Cx)(D:KY):Prop where
 young:Y.b7.heap.objs.size<=D
 cells:∀x c,Y.env.cells.lookup x=KJ c->c≠D
theorem lB{Y:Cx}{D:KY}{c:K_}{te:TE}(o:HV Y D)(h:PE Y c te):Body Y GK D (do let _<-call (.builtin "list.append") [.ref D,<-MW c Y.env]) (g0 te):=by
 intro k s i H g ob Q I f aN q;refine KL (aV (h _ s i H _ I q) λu s1 d=>?_);obtain⟨y,C,m,p,E,r⟩:=d;obtain⟨x,a,n,j,rfl⟩:=aN;have A:=(m.pin _ (Lj _ K5)).1;refine KL (wpAny_list_append_plain (l:=D) (items:=a.toArray) ⟨n,A⟩ (λF⟨t,B⟩w=>KS ?_) (by rw[K6,<-j.length];exact x));refine⟨g++[y],_,i,C,m.Er o.young o.cells f (λb ob hb e=>(w.2 b hb).trans e) B (λv z=>nomatch z),⟨by simp;omega,a++[u],t,j.snoc p,by simp⟩,r⟩
inductive D where|bx|bl(b:Bool)|int(i:Int)|str(x:Li)|tup(xs:List D)|lst(xs:List D)|aR(ks vs:List D)
inductive W where|d(x:D)|feed|own(d:D)|fK(ks ds:List D)
abbrev ah:=List (Option W)
structure Xc where
 x:D
 en:ah
structure M(α:Type)where
 run:Nat->(α->Nat->Prop)->(Xc->Nat->Prop)->Prop
 mono:∀{k Q Q' E E'},run k Q E->(∀a k,Q a k->Q' a k)->(∀x k,E x k->E' x k)->run k Q' E'
namespace M
variable{α β:Type}
protected def pure(a:α):M α:=⟨λk Q _=>Q a k,λh q _=>q _ _ h⟩
protected def bind(m:M α)(f:α->M β):M β:=⟨λk Q E=>m.run k (λa k'=>(f a).run k' Q E) E,λh q e=>m.mono h (λa k' h=>(f a).mono h q e) e⟩
instance:Monad M where
 pure:=M.pure;bind:=M.bind
noncomputable def fail:M α:=⟨λ_ _ _=>False,λh _ _=>h⟩
noncomputable def need(P:Prop):M Unit:=⟨λk Q _=>P/\Q () k,λh q _=>⟨h.1,q _ _ h.2⟩⟩
noncomputable def any(P:α->Prop):M α:=⟨λk Q _=>∀a,P a->Q a k,λh q _ a p=>q _ _ (h a p)⟩
noncomputable def tick(n:Nat):M Unit:=⟨λk Q _=>k+n<=1000000/\∀c,k<=c->c<=k+n->Q () c,λh q _=>⟨h.1,λc a b=>q _ _ (h.2 c a b)⟩⟩
noncomputable def get(o:Option α):M α:=match o with
 |some a=>pure a|none=>fail
theorem run_get{o:Option α}{k Q E}:(get o).run k Q E↔∃a,o=KJ a/\Q a k:=by cases o with
 |none=>exact⟨λh=>h.elim,λ⟨a,h,_⟩=>nomatch h⟩|some a=>exact⟨λh=>⟨a,rfl,h⟩,λ⟨b,h,q⟩=>by cases h;exact q⟩
end M
structure bS(H:Hp)(p q:KY)(ns:List Int)(i r:Int):Prop where
 ob:H p=KJ (.lst [.ref q,.int i,.int r])cs:∃o,H q=KJ (.b6 o (.lst (ns.map V.int)))ne:q≠p
 i0:0<=i
 r0:0<=r
 ln:ns.length<=63
noncomputable def jE(H:Hp)(p q:KY)(k:Nat):Prop:=∃ns i r,bS H p q ns i r/\i<=(k:Int)
noncomputable def Dz(H:Hp)(p:KY)(k:Nat):Prop:=∃q,jE H p q k
theorem jE.same{H H':Hp}{p q:KY}{k:Nat}(F:jE H p q k)(h:nF H H'):jE H' p q k:=by
 obtain⟨ns,i,r,⟨g,⟨o,f⟩,e,d,c,b⟩,a⟩:=F;exact⟨ns,i,r,⟨h _ _ g,⟨o,h _ _ f⟩,e,d,c,b⟩,a⟩
structure Fb where
 K:K2
 p:KY
 P:Le
 w:Ly
structure Fx extends Fb where
 H0:Hp
 k0:Nat
 E:Xc->Nat->Prop
 Hs:Hp
 ks:Nat
noncomputable def A8(H:Hp)(a:KY)(xs:List V):Prop:=∃o,H a=KJ (.b6 o (.lst xs))
theorem A8.sq{K:K2}{H:Hp}{a:KY}{xs:List V}(h:A8 H a xs):dF K H a xs:=.inl (.inr h)
noncomputable def TupAt(F:Fb)(H:Hp)(a:KY)(xs:List V):Prop:=a≠F.p/\gp F.K H a xs
noncomputable def LstAt(F:Fb)(H:Hp)(a:KY)(xs:List V):Prop:=a≠F.p/\A8 H a xs
theorem A9{X:Cx}{b:List (KY×Mc)}{d:St}{H:Hp}{s:KW}{a:KY}{ks:List Key}(I:Inv X b d H s)(h:gp X.K H a (ks.map kV)):IsTupleKey (ar X.prog X.w) s.heap ks a:=by
 obtain⟨c,r,⟨o,g,f,n,e⟩,_⟩:=I.tuple h;exact⟨o,c.toArray,n,g,f,e,by simpa using lz r⟩
noncomputable def kD:Key->D
 |.inl i=>.int i|.inr x=>.str x
noncomputable def nD:NK->D
 |.inl k=>kD k|.inr ks=>.tup (ks.map kD)
noncomputable def DB(F:Fb)(H:Hp):V->NK->Prop
 |v,.inl k=>v=kV k|v,.inr ks=>∃b,v=.ref b/\TupAt F H b (ks.map kV)
noncomputable def d6(F:Fb)(H:Hp)(a:KY)(ks:List NK):Prop:=∃b,TupAt F H a b/\Paired (DB F H) b ks
noncomputable def g9(P:Le)(w:Ly)(o:Mc)(us:List (Key×KO)):Prop:=∃a b,o.ExactDict/\o.data=.dict a b/\KeysOf (ar P w) a/\Pairs (ar P w) a.toList us/\(us.map (·.1)).Nodup
noncomputable def g_(P:Le)(w:Ly)(o:Mc)(xs:List (List NK×KY×KO)):Prop:=∃a b,o.ExactDict/\o.data=.dict a b/\a.toList=xs.map (Sv (cu P w))/\(xs.map (·.1)).Nodup
noncomputable def KA:List (List NK×KY×V)->List (List NK×KY×KO)->Prop:=Paired λp q=>p.1=q.1/\p.2.1=q.2.1/\RelV p.2.2 q.2.2
noncomputable def bq(F:Fb)(H:Hp)(o:Mc)(ks:List D)(c:List V):Prop:=ks.length<=KZ/\((∃(a:List (Key×V))(d:List (Key×KO)),KV a d/\g9 F.P F.w o d/\ks=a.map (λx=>kD x.1)/\c=a.map (·.2))\/(∃(a:List (List NK×KY×V))(b:List (List NK×KY×KO)),KA a b/\g_ F.P F.w o b/\(∀x∈a,d6 F H x.2.1 x.1)/\ks=a.map (λx=>D.tup (x.1.map nD))/\c=a.map (·.2.2)))
noncomputable def sU(F:Fb)(H:Hp)(a:KY)(o:Mc):Prop:=a≠F.p/\(a==Mx)=KR/\((∃u,H a=KJ (.b6 o u))\/F.K.lookup a=KJ o)
noncomputable def rh(F:Fb)(H:Hp)(a:KY)(ks:List D)(b:List V):Prop:=∃o,sU F H a o/\bq F H o ks b
noncomputable def kL(a:KY)(o:Mc):HO:=.ext λh=>h.get? a=KJ o
mutual
noncomputable def Is(F:Fb)(H:Hp):V->D->Prop
 |v,.bx=>v=.bx|v,.bl b=>v=.bl b|v,.int i=>v=.int i|v,.str x=>v=.str x|v,.tup d=>∃a c,v=.ref a/\TupAt F H a c/\ab F H c d|v,.lst d=>∃a c,v=.ref a/\LstAt F H a c/\ab F H c d|v,.aR ks d=>∃a c,v=.ref a/\rh F H a ks c/\ab F H c d
noncomputable def ab(F:Fb)(H:Hp):List V->List D->Prop
 |xs,[]=>xs=[]|xs,d::b=>∃x a,xs=x::a/\Is F H x d/\ab F H a b
end
noncomputable def HO.iM:HO->Bool
 |.tup _=>KQ|.b6 _ _=>KQ|_=>KR
structure Kp(F:Fb)(H:Hp)(k:Nat)(H':Hp)(k':Nat):Prop where
 keep:∀a o,a≠F.p->o.iM=KQ->H a=KJ o->H' a=KJ o
 live:H F.p≠KP->H' F.p≠KP
 le:k<=k'
 bJ:∀q,jE H F.p q k->jE H' F.p q k'
structure Ext(F:Fb)(H:Hp)(k:Nat)(H':Hp)(k':Nat):Prop where
 keep:∀a o,a≠F.p->H a=KJ o->H' a=KJ o
 live:H F.p≠KP->H' F.p≠KP
 le:k<=k'
 bJ:∀q,jE H F.p q k->jE H' F.p q k'
section
variable{F:Fb}{H H1 H2 H':Hp}{k k1 k2 k':Nat}
theorem Ext.kp(e:Ext F H k H' k'):Kp F H k H' k':=⟨λa o h _ q=>e.keep a o h q,e.live,e.le,e.bJ⟩
theorem Ext.feed(e:Ext F H k H' k'):Dz H F.p k->Dz H' F.p k':=λ⟨q,h⟩=>⟨q,e.bJ q h⟩
theorem Kp.feed(e:Kp F H k H' k'):Dz H F.p k->Dz H' F.p k':=λ⟨q,h⟩=>⟨q,e.bJ q h⟩
theorem Ext.refl:Ext F H k H k:=⟨λ_ _ _ h=>h,λh=>h,La _,λ_ h=>h⟩
theorem Kp.refl:Kp F H k H k:=Ext.refl.kp
theorem Ext.trans(a:Ext F H k H1 k1)(b:Ext F H1 k1 H2 k2):Ext F H k H2 k2:=⟨λc o d h=>b.keep c o d (a.keep c o d h),λh=>b.live (a.live h),L_ a.le b.le,λq h=>b.bJ q (a.bJ q h)⟩
theorem Kp.trans(a:Kp F H k H1 k1)(b:Kp F H1 k1 H2 k2):Kp F H k H2 k2:=⟨λc o d s h=>b.keep c o d s (a.keep c o d s h),λh=>b.live (a.live h),L_ a.le b.le,λq h=>b.bJ q (a.bJ q h)⟩
theorem sV(h:nF H H'):H F.p≠KP->H' F.p≠KP:=λn z=>n (by cases e:H F.p with
 |none=>rfl|some o=>rw[h _ _ e]at z;cases z)
theorem Ext.of(h:nF H H'):Ext F H k H' k:=⟨λa o _ e=>h a o e,sV h,La _,λ_ f=>f.same h⟩
theorem uI{a:KY}{o:HO}(h:H a=KP):nF H (upd H a o):=λb u e=>by rw[af (aA e h)];exact e
theorem Ext.new{a:KY}{o:HO}(h:H a=KP):Ext F H k (upd H a o) k:=.of (uI h)
theorem hJ{a:KY}(l:H F.p≠KP)(h:H a=KP):a≠F.p:=λz=>l (z▸h)
theorem TupAt.mono{a:KY}{xs:List V}(h:TupAt F H a xs)(e:Kp F H k H' k'):TupAt F H' a xs:=by
 refine⟨h.1,?_⟩;rcases h.2 with b|b
 .refine .inl ?_;rcases b with b|⟨o,b⟩;.exact .inl (e.keep _ _ h.1 rfl b)
  .exact .inr ⟨o,e.keep _ _ h.1 rfl b⟩
 .exact .inr b
theorem d6.mono{a:KY}{ks:List NK}(h:d6 F H a ks)(e:Kp F H k H' k'):d6 F H' a ks:=by
 obtain⟨f,i,g⟩:=h;refine⟨f,i.mono e,Paired.Al g λv n z=>?_⟩;cases n with
 |inl k=>exact z|inr ks=>obtain⟨b,d,c⟩:=z;exact⟨b,d,c.mono e⟩
theorem LstAt.mono{a:KY}{xs:List V}(h:LstAt F H a xs)(e:Kp F H k H' k'):LstAt F H' a xs:=by
 refine⟨h.1,?_⟩;obtain⟨o,b⟩:=h.2;exact⟨o,e.keep _ _ h.1 rfl b⟩
theorem sU.mono{a:KY}{o:Mc}(h:sU F H a o)(e:Kp F H k H' k'):sU F H' a o:=by
 obtain⟨c,d,b⟩:=h;refine⟨c,d,?_⟩;rcases b with⟨u,b⟩|b;.exact .inl ⟨u,e.keep _ _ c rfl b⟩
 .exact .inr b
theorem bq.mono{o:Mc}{ks:List D}{xs:List V}(h:bq F H o ks xs)(e:Kp F H k H' k'):bq F H' o ks xs:=by
 obtain⟨b,h⟩:=h;refine⟨b,?_⟩;rcases h with h|⟨a,xs,i,g,f,d⟩;.exact .inl h
 .exact .inr ⟨a,xs,i,g,λx c=>(f x c).mono e,d⟩
theorem rh.mono{a:KY}{ks:List D}{xs:List V}(h:rh F H a ks xs)(e:Kp F H k H' k'):rh F H' a ks xs:=let⟨o,c,b⟩:=h;⟨o,c.mono e,b.mono e⟩
mutual
theorem Is.mono(e:Kp F H k H' k'):∀{v:V}{d:D},Is F H v d->Is F H' v d
 |_,.bx,h=>by simp only[Is]at h⊢;exact h|_,.bl _,h=>by simp only[Is]at h⊢;exact h|_,.int _,h=>by simp only[Is]at h⊢;exact h|_,.str _,h=>by simp only[Is]at h⊢;exact h|_,.tup _,h=>by
  simp only[Is]at h⊢;obtain⟨a,b,g,f,c⟩:=h;exact⟨a,b,g,f.mono e,ab.mono e c⟩|_,.lst _,h=>by
  simp only[Is]at h⊢;obtain⟨a,b,g,f,c⟩:=h;exact⟨a,b,g,f.mono e,ab.mono e c⟩|_,.aR _ _,h=>by
  simp only[Is]at h⊢;obtain⟨a,b,g,f,c⟩:=h;exact⟨a,b,g,f.mono e,ab.mono e c⟩
theorem ab.mono(e:Kp F H k H' k'):∀{xs:List V}{ds:List D},ab F H xs ds->ab F H' xs ds
 |_,[],h=>by simp only[ab]at h⊢;exact h|_,d::ds,h=>by
  simp only[ab]at h⊢;obtain⟨x,a,f,c,b⟩:=h;exact⟨x,a,f,Is.mono e c,ab.mono e b⟩
end
theorem ab.nil:ab F H [] []:=by simp only[ab]
theorem ab.cons{x:V}{xs:List V}{d:D}{ds:List D}(h:Is F H x d)(t:ab F H xs ds):ab F H (x::xs) (d::ds):=by simp only[ab];exact⟨x,xs,rfl,h,t⟩
theorem ab.length:∀{xs:List V}{ds:List D},ab F H xs ds->xs.length=ds.length
 |_,[],h=>by simp only[ab]at h;rw[h];rfl|_,d::ds,h=>by
  simp only[ab]at h;obtain⟨x,b,rfl,_,a⟩:=h;simp[ab.length a]
theorem ab.append:∀{xs ys:List V}{ds a:List D},ab F H xs ds->ab F H ys a->ab F H (xs++ys) (ds++a)
 |_,_,[],_,h,t=>by simp only[ab]at h;rw[h];exact t|_,_,d::ds,_,h,t=>by
  simp only[ab]at h;obtain⟨x,ys,rfl,c,b⟩:=h;exact .cons c (ab.append b t)
theorem ab.get:∀{xs:List V}{ds:List D}{i:Nat}{d:D},ab F H xs ds->ds[i]?=KJ d->∃x,xs[i]?=KJ x/\Is F H x d
 |_,[],_,_,_,e=>by simp at e|_,c::ds,i,d,h,e=>by
  simp only[ab]at h;obtain⟨x,f,rfl,b,a⟩:=h;cases i with
  |zero=>simp at e;subst e;exact⟨x,rfl,b⟩|succ i=>simpa using ab.get (i:=i) a (by simpa using e)
theorem ab.drop:∀{xs:List V}{ds:List D}(n:Nat),ab F H xs ds->ab F H (xs.drop n) (ds.drop n)
 |_,_,0,h=>by simpa using h|_,[],n+1,h=>by simp only[ab]at h;rw[h];exact .nil|_,d::ds,n+1,h=>by
  simp only[ab]at h;obtain⟨x,b,rfl,_,a⟩:=h;simpa using ab.drop n a
theorem ab.take:∀{xs:List V}{ds:List D}(n:Nat),ab F H xs ds->ab F H (xs.take n) (ds.take n)
 |_,_,0,h=>by simpa using ab.nil|_,[],n+1,h=>by simp only[ab]at h;rw[h];exact .nil|_,d::ds,n+1,h=>by
  simp only[ab]at h;obtain⟨x,c,rfl,b,a⟩:=h;simpa using ab.cons b (ab.take n a)
theorem ab.pr:∀{xs:List V}{ds:List D},ab F H xs ds->Paired (Is F H) xs ds
 |_,[],h=>by simp only[ab]at h;rw[h];exact .nil|_,d::ds,h=>by
  simp only[ab]at h;obtain⟨x,c,rfl,b,a⟩:=h;exact .cons b a.pr
theorem jF:∀{xs:List V}{ds:List D},Paired (Is F H) xs ds->ab F H xs ds
 |_,_,.nil=>.nil|_,_,.cons h t=>.cons h (jF t)
end
noncomputable def fN(F:Fb)(H:Hp)(a:KY):D->Prop
 |.lst c=>∃b,H a=KJ (.lst b)/\ab F H b c|.aR ks c=>∃o b,H a=KJ (kL a o)/\(a==Mx)=KR/\bq F H o ks b/\ab F H b c|_=>False
noncomputable def fO(F:Fx)(H:Hp)(a:KY)(d:D):Prop:=a≠F.p/\F.H0 a=KP/\fN F.toFb H a d
noncomputable def uJ(B:Fb)(H:Hp)(b:KY)(d:D):Prop:=∃a c,d=.lst a/\H b=KJ (.lst c)/\ab B H c a
inductive nI(F:Fx)(H:Hp)(a:KY)(ks ds:List D):Prop where|mk(o:Mc)(bs:List KY)(ap:a≠F.p)(a0:F.H0 a=KP)(ob:H a=KJ (kL a o))(sy:(a==Mx)=KR)(dc:bq F.toFb H o ks (bs.map V.ref))(nd:bs.Nodup)(na:a∉bs)(bp:∀b∈bs,b≠F.p/\F.H0 b=KP)(lv:Paired (uJ F.toFb H) bs ds)
noncomputable def DC(F:Fx)(H:Hp)(k:Nat):V->W->Prop
 |v,.d x=>Is F.toFb H v x|v,.feed=>v=.ref F.p/\Dz H F.p k|v,.own d=>∃a,v=.ref a/\fO F H a d|v,.fK ks b=>∃a,v=.ref a/\nI F H a ks b
inductive A where|d(x:D)|feed|own(d:D)
noncomputable def A.w:A->W
 |.d x=>.d x|.feed=>.feed|.own y=>.own y
noncomputable def DD(F:Fb)(H:Hp)(k:Nat):V->A->Prop
 |v,.d x=>Is F H v x|v,.feed=>v=.ref F.p/\Dz H F.p k|_,.own _=>False
noncomputable abbrev uK(F:Fb)(H:Hp)(k:Nat):List V->List A->Prop:=Paired (DD F H k)
section
variable{F:Fx}{H H1 H2 H':Hp}{k k1 k2 k':Nat}
theorem fN.keep{B:Fb}{a:KY}{d:D}(h:fN B H a d)(e:Kp B H k H' k')(ha:∀o,H a=KJ o->H' a=KJ o):fN B H' a d:=by cases d with
 |lst j=>obtain⟨b,f,c⟩:=h;exact⟨b,ha _ f,c.mono e⟩|aR ks j=>obtain⟨o,b,f,c,i,g⟩:=h;exact⟨o,b,ha _ f,c,i.mono e,g.mono e⟩|_=>exact h.elim
theorem fO.mono{a:KY}{d:D}(h:fO F H a d)(e:Ext F.toFb H k H' k'):fO F H' a d:=⟨h.1,h.2.1,h.2.2.keep e.kp λo q=>e.keep a o h.1 q⟩
theorem uJ.keep{B:Fb}{b:KY}{d:D}(h:uJ B H b d)(e:Kp B H k H' k')(hb:∀o,H b=KJ o->H' b=KJ o):uJ B H' b d:=by
 obtain⟨a,c,i,g,f⟩:=h;exact⟨a,c,i,hb _ g,f.mono e⟩
theorem d7{d c:Type}{R S:d->c->Prop}:∀{l:List d}{r:List c},Paired R l r->(∀a∈l,∀b,R a b->S a b)->Paired S l r
 |_,_,.nil,_=>.nil|_,_,.cons h t,q=>.cons (q _ K5 _ h) (d7 t λa ha b=>q a (K4 _ ha) b)
theorem nI.mono{a:KY}{ks ds:List D}(h:nI F H a ks ds)(e:Ext F.toFb H k H' k'):nI F H' a ks ds:=by
 obtain⟨o,bs,f,p,n,m,l,j,i,c,g⟩:=h;exact⟨o,bs,f,p,e.keep _ _ f n,m,l.mono e.kp,j,i,c,d7 g λb hb d q=>q.keep e.kp λo z=>e.keep b o (c b hb).1 z⟩
theorem DC.mono{v:V}{x:W}(h:DC F H k v x)(e:Ext F.toFb H k H' k'):DC F H' k' v x:=by cases x with
 |d x=>exact Is.mono e.kp h|feed=>exact⟨h.1,e.feed h.2⟩|own d=>
  obtain⟨a,c,b⟩:=h;exact⟨a,c,b.mono e⟩|fK ks f=>
  obtain⟨a,c,b⟩:=h;exact⟨a,c,b.mono e⟩
theorem DD.w{v:V}{x:A}(h:DD F.toFb H k v x):DC F H k v x.w:=by cases x with
 |own d=>exact h.elim|_=>exact h
end
noncomputable def W.eR:W->Bool
 |.own _=>KQ|.fK _ _=>KQ|_=>KR
structure cv(F:Fx)(ρ:ah)(k:Nat)(σ:St)(H:Hp):Prop where
 len:ρ.length=σ.length
 at_:∀(i:Nat)(d:W),ρ[i]?=KJ (KJ d)->∃v,σ[i]?=KJ (KJ v)/\DC F H k v d
 apart:∀(i j:Nat)(d e:W)(v:V),i≠j->ρ[i]?=KJ (KJ d)->ρ[j]?=KJ (KJ e)->d.eR=KQ->e.eR=KQ->σ[i]?=KJ (KJ v)->σ[j]?≠KJ (KJ v)alone:∀(i j:Nat)(ks ds:List D)(w:W),ρ[i]?=KJ (KJ (.fK ks ds))->ρ[j]?=KJ (KJ w)->w.eR=KQ->j=i
 live:H F.p≠KP
 ext:Ext F.toFb F.H0 F.k0 H k
 xP:Kp F.toFb F.Hs F.ks H k
theorem cv.mono{F:Fx}{ρ:ah}{k b:Nat}{a:St}{H H':Hp}(h:cv F ρ k a H)(e:Ext F.toFb H k H' b):cv F ρ b a H' where
 len:=h.len;at_:=λi d q=>let⟨v,f,c⟩:=h.at_ i d q;⟨v,f,c.mono e⟩;apart:=h.apart;alone:=h.alone;live:=e.live h.live;ext:=h.ext.trans e;xP:=h.xP.trans e.kp
noncomputable def qE(F:Fb)(H:Hp)(k:Nat)(Q:V->Hp->Prop):D->Nat->Prop:=λd b=>∀v a,Ext F H k a b->Is F a v d->Q v a
noncomputable def qT(F:Fb)(H:Hp)(k:Nat)(Q:Bool->Hp->Prop):Bool->Nat->Prop:=λb c=>∀a,Ext F H k a c->Q b a
noncomputable def qA(F:Fb)(H:Hp)(k:Nat)(Q:List V->Hp->Prop):List A->Nat->Prop:=λd c=>∀b a,Ext F H k a c->uK F a c b d->Q b a
noncomputable def cF(F:Fx)(t:ah->M D):TE:=λb H Q=>∃a k,cv F a k b H/\(t a).run k (qE F.toFb H k Q) F.E
noncomputable def pP(F:Fx)(t:ah->M Bool):TT:=λb H Q=>∃a k,cv F a k b H/\(t a).run k (qT F.toFb H k Q) F.E
noncomputable def pB(F:Fx)(t:ah->M (List A)):TA:=λb H Q=>∃a k,cv F a k b H/\(t a).run k (qA F.toFb H k Q) F.E
structure DE(X:Cx)(F:Fx)(e:K_)(t:ah->M D):Prop where
 hK:X.K=F.K
 pe:PE X e (cF F t)
structure DT(X:Cx)(F:Fx)(e:K_)(t:ah->M Bool):Prop where
 hK:X.K=F.K
 pt:PT X e (pP F t)
structure DA(X:Cx)(F:Fx)(es:List K_)(t:ah->M (List A)):Prop where
 hK:X.K=F.K
 pa:PA X es (pB F t)
inductive Fl where|nx(ρ:ah)|rt(d:D)|bk(ρ:ah)|ct(ρ:ah)|ro(d:D)
noncomputable def rj(F:Fx)(Z:Ends)(H:Hp)(k:Nat)(g:Fl)(e:Nat):Prop:=match g with
 |.nx f=>∀c b,Kp F.toFb H k b e->cv F f e c b->Z.nx c b|.rt d=>∀v b,Ext F.toFb F.H0 F.k0 b e->Is F.toFb b v d->Z.rt v b|.bk f=>∀c b,Kp F.toFb H k b e->cv F f e c b->Z.bk c b|.ct f=>∀c b,Kp F.toFb H k b e->cv F f e c b->Z.ct c b|.ro d=>∀a b,Ext F.toFb F.H0 F.k0 b e->fO F b a d->Z.rt (.ref a) b
noncomputable def HW(F:Fx)(t:ah->M Fl):TS:=λZ b H=>∃a k,cv F a k b H/\(t a).run k (rj F Z H k) F.E
structure DS(X:Cx)(F:Fx)(st:MU)(t:ah->M Fl):Prop where
 hK:X.K=F.K
 ps:PS X st (HW F t)
structure tY(X:Cx)(F:Fx)(st:List MU)(t:ah->M Fl):Prop where
 hK:X.K=F.K
 ps:nj X st (HW F t)
theorem rj.mono{F:Fx}{Z:Ends}{H H':Hp}{k g j:Nat}{c:Fl}(e:Kp F.toFb H k H' g)(h:rj F Z H k c j):rj F Z H' g c j:=by cases c with
 |nx f=>exactλa b q S=>h a b (e.trans q) S|rt d=>exact h|ro d=>exact h|bk f=>exactλa b q S=>h a b (e.trans q) S|ct f=>exactλa b q S=>h a b (e.trans q) S
section
variable{X:Cx}
theorem PE.imp{e:K_}{t t':TE}(h:PE X e t)(q:∀a H Q,t' a H Q->t a H Q):PE X e t':=λb s a H Q I z=>h b s a H Q I (q a H Q z)
theorem PT.imp{e:K_}{t t':TT}(h:PT X e t)(q:∀a H Q,t' a H Q->t a H Q):PT X e t':=λb s a H Q I z=>h b s a H Q I (q a H Q z)
theorem PW.imp{e:K_}{t t':TT}(h:PW X e t)(q:∀a H Q,t' a H Q->t a H Q):PW X e t':=λw b s a H Q I z=>h w b s a H Q I (q a H Q z)
theorem PA.imp{e:List K_}{t t':TA}(h:PA X e t)(q:∀a H Q,t' a H Q->t a H Q):PA X e t':=λc b s a H Q I z=>h c b s a H Q I (q a H Q z)
theorem PS.imp{e:MU}{t t':TS}(h:PS X e t)(q:∀D a H,t' D a H->t D a H):PS X e t':=λb s a H D I z=>h b s a H D I (q D a H z)
theorem nj.imp{e:List MU}{t t':TS}(h:nj X e t)(q:∀D a H,t' D a H->t D a H):nj X e t':=λb s a H D I z=>h b s a H D I (q D a H z)
end
theorem cF.next{F:Fx}{t:ah->M D}{b:St}{H:Hp}{ρ:ah}{k:Nat}{R:D->Nat->Prop}{Q:V->Hp->Prop}(S:cv F ρ k b H)(h:(t ρ).run k R F.E)(q:∀d a v H',Ext F.toFb H k H' a->cv F ρ a b H'->Is F.toFb H' v d->R d a->Q v H'):cF F t b H Q:=⟨ρ,k,S,(t ρ).mono h (λd a r v H' e i=>q d a v H' e (S.mono e) i r) λ_ _ z=>z⟩
theorem pP.next{F:Fx}{t:ah->M Bool}{c:St}{H:Hp}{ρ:ah}{k:Nat}{R:Bool->Nat->Prop}{Q:Bool->Hp->Prop}(S:cv F ρ k c H)(h:(t ρ).run k R F.E)(q:∀b a H',Ext F.toFb H k H' a->cv F ρ a c H'->R b a->Q b H'):pP F t c H Q:=⟨ρ,k,S,(t ρ).mono h (λb a r H' e=>q b a H' e (S.mono e) r) λ_ _ z=>z⟩
theorem pB.next{F:Fx}{t:ah->M (List A)}{c:St}{H:Hp}{ρ:ah}{k:Nat}{R:List A->Nat->Prop}{Q:List V->Hp->Prop}(S:cv F ρ k c H)(h:(t ρ).run k R F.E)(q:∀ds a b H',Ext F.toFb H k H' a->cv F ρ a c H'->uK F.toFb H' a b ds->R ds a->Q b H'):pB F t c H Q:=⟨ρ,k,S,(t ρ).mono h (λds a r b H' e i=>q ds a b H' e (S.mono e) i r) λ_ _ z=>z⟩
noncomputable def cH(ρ:ah)(i:Nat):Option D:=match ρ[i]? with
 |some (KJ (.d x))=>KJ x|_=>KP
theorem xQ{ρ:ah}{i:Nat}{x:D}(h:cH ρ i=KJ x):ρ[i]?=KJ (KJ (.d x)):=by
 unfold cH at h;split at h;.rename_i y e;cases h;exact e
 .cases h
noncomputable def dy:D->M Bool
 |.bl b=>pure b|_=>M.fail
noncomputable def dm:D->M Int
 |.int i=>pure i|_=>M.fail
theorem c6{d:D}{k Q E}:(dy d).run k Q E↔∃b,d=.bl b/\Q b k:=by cases d with
 |bl b=>exact⟨λh=>⟨b,rfl,h⟩,λ⟨c,e,h⟩=>by cases e;exact h⟩|_=>exact⟨λh=>h.elim,λ⟨c,e,h⟩=>nomatch e⟩
theorem ba{d:D}{k Q E}:(dm d).run k Q E↔∃b,d=.int b/\Q b k:=by cases d with
 |int b=>exact⟨λh=>⟨b,rfl,h⟩,λ⟨c,e,h⟩=>by cases e;exact h⟩|_=>exact⟨λh=>h.elim,λ⟨c,e,h⟩=>nomatch e⟩
section
variable{X:Cx}{F:Fx}{a b c e:K_}{es rest:List K_}{pos:MB}{ta tb tc:ah->M D}
theorem A_(i:Nat){x:Li}{pos:MB}(hN:X.N[i]?=KJ x:=by rfl)(g:ni X.env.scope x:=by first|exact OO rfl|exact Pq (OO rfl)|exact Pq (Pq rfl))(hd:(x==("__debug__":Li))=KR:=by decide)(f:(x==("__classdict__":Li))=KR:=by decide)(hK:X.K=F.K:=by rfl):DE X F (.Name x pos) (λρ=>M.get (cH ρ i)):=by
 refine⟨hK,(bP hN g hd f).imp λo H Q⟨ρ,k,S,h⟩=>?_⟩;obtain⟨d,n,m⟩:=M.run_get.mp h;obtain⟨v,l,j⟩:=S.at_ i _ (xQ n);exact⟨v,l,m v H .refl j⟩
theorem Ba{i j pos}(hK:X.K=F.K:=by rfl):DE X F (.Constant (.int i) j pos) (λ_=>pure (.int i)):=⟨hK,aB.imp λd H Q⟨f,k,S,h⟩=>h _ H .refl (by simp only[Is])⟩
theorem Es{i j pos}(hK:X.K=F.K:=by rfl):DE X F (.Constant (.bool i) j pos) (λ_=>pure (.bl i)):=⟨hK,DX.imp λd H Q⟨f,k,S,h⟩=>h _ H .refl (by simp only[Is])⟩
theorem Bb{j pos}(hK:X.K=F.K:=by rfl):DE X F (.Constant .none j pos) (λ_=>pure .bx):=⟨hK,Aq.imp λd H Q⟨f,k,S,h⟩=>h _ H .refl (by simp only[Is])⟩
theorem Bc{i j pos}(hK:X.K=F.K:=by rfl):DE X F (.Constant (.str i) j pos) (λ_=>pure (.str i)):=⟨hK,Ar.imp λd H Q⟨f,k,S,h⟩=>h _ H .refl (by simp only[Is])⟩
structure eG(X:Cx)(F:Fx)(f:KO->KO->Py KO)(m:D->D->M D):Prop where
 op:∀(pins:List (KY×Mc))(s:KW)(σ:St)(H:Hp)(k:Nat)(x y:V)(v u:KO)(d e:D)(Q:VK),Inv X pins σ H s->RelV x v->RelV y u->H F.p≠KP->X.K=F.K->Is F.toFb H x d->Is F.toFb H y e->(m d e).run k (qE F.toFb H k Q) F.E->wpAny (K7 X.prog X.w) X.A (f v u) (EP X pins σ Q) X.xe s
noncomputable def Et(F:Fx)(m:D->D->M D):R2:=λx y H Q=>∃k d e,H F.p≠KP/\Is F.toFb H x d/\Is F.toFb H y e/\(m d e).run k (qE F.toFb H k Q) F.E
theorem eG.Bd{f:KO->KO->Py KO}{m:D->D->M D}(h:eG X F f m)(hK:X.K=F.K):i8 X f (Et F m):=λg s i H x y v u Q I n j⟨k,d,e,l,p,o,q⟩=>h.op g s i H k x y v u d e Q I n j l hK p o q
theorem eG.of{f:KO->KO->Py KO}{m:D->D->M D}{r:R2}(h:i8 X f r)(q:X.K=F.K->∀H k x y d e Q,H F.p≠KP->Is F.toFb H x d->Is F.toFb H y e->(m d e).run k (qE F.toFb H k Q) F.E->r x y H Q):eG X F f m:=⟨λg s i H k x y v u d e Q I n j l hK t o z=>h g s i H x y v u Q I n j (q hK H k x y d e Q l t o z)⟩
theorem qE.ext{B:Fb}{H g:Hp}{k f:Nat}{Q:V->Hp->Prop}{d:D}{j:Nat}(e:Ext B H k g f)(h:qE B H k Q d j):qE B g f Q d j:=λv m l i=>h v m (e.trans l) i
theorem qT.ext{B:Fb}{H g:Hp}{k f:Nat}{Q:Bool->Hp->Prop}{d:Bool}{j:Nat}(e:Ext B H k g f)(h:qT B H k Q d j):qT B g f Q d j:=λl i=>h l (e.trans i)
theorem M.wk{d:Type}{m:M d}{k Q Q' E}(h:m.run k Q E)(q:∀a k,Q a k->Q' a k):m.run k Q' E:=m.mono h q λ_ _ z=>z
theorem rk{m:D->D->M D}{f:St}{H:Hp}{Q:VK}(h:cF F (λρ=>do let d<-ta ρ;let e<-tb ρ;m d e) f H Q):Eb (Et F m) (cF F ta) (cF F tb) f H Q:=by
 obtain⟨ρ,k,S,h⟩:=h;refine cF.next S h λd u v x p s l o=>?_;refine cF.next s o λq i t w g r j n=>?_;exact⟨i,d,q,r.live,l.mono g.kp,j,M.wk n λ_ _ z=>z.ext (p.trans g)⟩
theorem Eu{op:Ra}{m:D->D->M D}(f:eG X F (Nk op) m)(ha:DE X F a ta)(hb:DE X F b tb):DE X F (.BinOp a op b pos) (λρ=>do let d<-ta ρ;let e<-tb ρ;m d e):=⟨ha.hK,(bg (f.Bd ha.hK) ha.pe hb.pe).imp λg H Q h=>rk h⟩
theorem Be{op:Oo}{m:D->D->M D}(f:eG X F (LA op) m)(ha:DE X F a ta)(hb:DE X F b tb)(g:N1 op b=KR:=by first|exact gZ _|with_unfolding_all rfl):DE X F (.Compare a [op] [b] pos) (λρ=>do let d<-ta ρ;let e<-tb ρ;m d e):=⟨ha.hK,(xB (f.Bd ha.hK) ha.pe hb.pe g).imp λi H Q h=>rk h⟩
theorem rl{t:ah->M D}{g:St}{H:Hp}{Q:Bool->Hp->Prop}(h:pP F (λρ=>do dy (<-t ρ)) g H Q):uk (cF F t) g H Q:=by
 obtain⟨ρ,k,S,h⟩:=h;refine cF.next S h λd m v l j n i f=>?_;obtain⟨c,rfl,f⟩:=c6.mp f;simp only[Is]at i;exact⟨c,i,f l j⟩
theorem Bg{op:Oo}{m:D->D->M D}(f:eG X F (LA op) m)(ha:DE X F a ta)(hb:DE X F b tb)(g:N1 op b=KR:=by first|exact gZ _|with_unfolding_all rfl):DT X F (.Compare a [op] [b] pos) (λρ=>do dy (<-(do let d<-ta ρ;let e<-tb ρ;m d e))):=⟨ha.hK,(fw (f.Bd ha.hK) ha.pe hb.pe g).imp λi H Q h=>by
  obtain⟨ρ,k,S,h⟩:=rl (t:=λρ=>do let d<-ta ρ;let e<-tb ρ;m d e) h;exact rk ⟨ρ,k,S,h⟩⟩
noncomputable def jG(m g:D->D->M D)(ta tb tc:ah->M D)(ρ:ah):M D:=do
 let d<-ta ρ;let e<-tb ρ;let r<-m d e;let y<-dy r;if y then do let f<-tc ρ;g e f else pure (.bl KR)
theorem nJ{m l:D->D->M D}{j:St}{H:Hp}{Q:VK}(h:cF F (jG m l ta tb tc) j H Q):pI (Et F m) (Et F l) (cF F ta) (cF F tb) (cF F tc) j H Q:=by
 obtain⟨K,k,S,h⟩:=h;refine cF.next S h λd R v V q I y C=>?_;refine cF.next I C λs w O U i t o B=>?_;refine⟨w,d,s,t.live,y.mono i.kp,o,M.wk B λr P f N J g n=>?_⟩;obtain⟨c,rfl,f⟩:=c6.mp f;simp only[Is]at n;refine⟨c,n,?_⟩;cases c with
 |false=>exact f _ J ((q.trans i).trans g) (by simp only[Is])|true=>
  refine cF.next (t.mono g) f λE u L T p G x A=>?_;exact⟨u,s,E,G.live,o.mono (g.trans p).kp,x,M.wk A λ_ _ z=>z.ext (((q.trans i).trans g).trans p)⟩
theorem uL{op d:Oo}{m g:D->D->M D}(i:eG X F (LA op) m)(f:eG X F (LA d) g)(ha:DE X F a ta)(hb:DE X F b tb)(k:DE X F c tc)(j:Rr [op,d] [b,c]=KR:=by with_unfolding_all rfl):DE X F (.Compare a [op,d] [b,c] pos) (jG m g ta tb tc):=⟨ha.hK,(um (i.Bd ha.hK) (f.Bd ha.hK) ha.pe hb.pe k.pe j).imp λl H Q h=>nJ h⟩
theorem uM{op d:Oo}{m f:D->D->M D}(i:eG X F (LA op) m)(g:eG X F (LA d) f)(ha:DE X F a ta)(hb:DE X F b tb)(l:DE X F c tc)(j:Rr [op,d] [b,c]=KR:=by with_unfolding_all rfl):DT X F (.Compare a [op,d] [b,c] pos) (λρ=>do dy (<-jG m f ta tb tc ρ)):=⟨ha.hK,(uo (i.Bd ha.hK) (g.Bd ha.hK) ha.pe hb.pe l.pe j).imp λn H Q h=>by
  obtain⟨ρ,k,S,h⟩:=rl (t:=jG m f ta tb tc) h;exact nJ ⟨ρ,k,S,h⟩⟩
noncomputable def mI(C:Int->Int->Prop)(g:Int->Int->D):D->D->M D:=λd e=>do
 let i<-dm d;let j<-dm e;M.need (C i j)pure (g i j)
noncomputable def GL(g:Int->Int->D):D->D->M D:=λd e=>do
 let i<-dm d;let j<-dm e;pure (g i j)
theorem uN{f:KO->KO->Py KO}{C:Int->Int->Prop}{g:Int->Int->Int}(h:i8 X f (rI C λi j=>.int (g i j))):eG X F f (mI C λi j=>.int (g i j)):=.of h λhK H k x y d e Q l n m q=>by
  obtain⟨i,rfl,q⟩:=ba.mp q;obtain⟨j,rfl,q⟩:=ba.mp q;simp only[Is]at n m;exact⟨i,j,n,m,q.1,q.2 _ H .refl (by simp only[Is])⟩
theorem pQ{f:KO->KO->Py KO}{g:Int->Int->Bool}(h:i8 X f (zG λi j=>.bl (g i j))):eG X F f (GL λi j=>.bl (g i j)):=.of h λhK H k x y d e Q l n m q=>by
  obtain⟨i,rfl,q⟩:=ba.mp q;obtain⟨j,rfl,q⟩:=ba.mp q;simp only[Is]at n m;exact⟨i,j,n,m,q _ H .refl (by simp only[Is])⟩
theorem Bh:eG X F (Nk .Mult) (mI xA λi j=>.int (i*j)):=uN fR
theorem Bi:eG X F (Nk .Mod) (mI (λ_ j=>0<j) λi j=>.int (i%j)):=uN dw
theorem Bj:eG X F (Nk .Pow) (mI Ed λi j=>.int (i^j.toNat)):=uN ui
theorem Ew:eG X F (LA .Lt) (GL λi j=>.bl (decide (i<j))):=pQ zH
theorem Ey:eG X F (LA .LtE) (GL λi j=>.bl (decide (i<=j))):=pQ Ee
theorem Ez:eG X F (LA .Gt) (GL λi j=>.bl (decide (j<i))):=pQ uj
noncomputable def HX(ta tb:ah->M D)(ρ:ah):M D:=do
 let b<-dy (<-ta ρ)if b then tb ρ else pure (.bl KR)
noncomputable def Kf(ta tb:ah->M D)(ρ:ah):M D:=do
 let b<-dy (<-ta ρ)if b then pure (.bl KQ)else tb ρ
theorem Bk{op}(h:DE X F a ta):DE X F (.BoolOp op [a] pos) ta:=⟨h.hK,Av h.pe⟩
theorem Bl(ha:DE X F a ta)(hb:DE X F (.BoolOp .And (b::rest) pos) tb):DE X F (.BoolOp .And (a::b::rest) pos) (HX ta tb):=⟨ha.hK,(Aw ha.pe hb.pe).imp λp H Q g=>by
  obtain⟨l,k,S,h⟩:=g;refine cF.next S h λd m v o j n i f=>?_;obtain⟨c,rfl,f⟩:=c6.mp f;simp only[Is]at i;refine⟨c,i,?_⟩;cases c with
  |true=>exact⟨l,m,n,M.wk f λ_ _ z=>z.ext j⟩|false=>exact f _ o j (by simp only[Is])⟩
theorem EA(ha:DE X F a ta)(hb:DE X F (.BoolOp .Or (b::rest) pos) tb):DE X F (.BoolOp .Or (a::b::rest) pos) (Kf ta tb):=⟨ha.hK,(D2 ha.pe hb.pe).imp λp H Q g=>by
  obtain⟨l,k,S,h⟩:=g;refine cF.next S h λd m v o j n i f=>?_;obtain⟨c,rfl,f⟩:=c6.mp f;simp only[Is]at i;refine⟨c,i,?_⟩;cases c with
  |false=>exact⟨l,m,n,M.wk f λ_ _ z=>z.ext j⟩|true=>exact f _ o j (by simp only[Is])⟩
theorem Bm(ha:DE X F a ta):DE X F (.UnaryOp .Not a pos) (λρ=>do let b<-dy (<-ta ρ);pure (.bl (!b))):=⟨ha.hK,(Ax ha.pe).imp λm H Q f=>by
  obtain⟨ρ,k,S,h⟩:=f;refine cF.next S h λd n v l j o i g=>?_;obtain⟨c,rfl,g⟩:=c6.mp g;simp only[Is]at i;exact⟨c,i,g _ l j (by simp only[Is])⟩⟩
structure tZ(X:Cx)(F:Fx)(e:K_)(t:ah->M Bool):Prop where
 hK:X.K=F.K
 pw:PW X e (pP F t)
theorem tZ.dt{t:ah->M Bool}(h:tZ X F e t):DT X F e t:=⟨h.hK,h.pw.pt⟩
variable{tA tB:ah->M Bool}
noncomputable def HY(ta tb:ah->M Bool)(ρ:ah):M Bool:=do
 let b<-ta ρ;if b then tb ρ else pure KR
noncomputable def Kg(ta tb:ah->M Bool)(ρ:ah):M Bool:=do
 let b<-ta ρ;if b then pure KQ else tb ρ
theorem xR(ha:DT X F a tA):tZ X F (.BoolOp .And [a] pos) tA:=⟨ha.hK,qS ha.pt⟩
theorem Bo(ha:DT X F a tA):tZ X F (.BoolOp .Or [a] pos) tA:=⟨ha.hK,As ha.pt⟩
theorem Bp(ha:DT X F a tA)(hb:tZ X F (.BoolOp .And (b::rest) pos) tB):tZ X F (.BoolOp .And (a::b::rest) pos) (HY tA tB):=⟨ha.hK,(ub ha.pt hb.pw).imp λn H Q d=>by
  obtain⟨i,k,S,h⟩:=d;refine pP.next S h λc j m g l f=>?_;cases c with
  |true=>exact⟨i,j,l,M.wk f λ_ _ z=>z.ext g⟩|false=>exact f m g⟩
theorem EB(ha:DT X F a tA)(hb:tZ X F (.BoolOp .Or (b::rest) pos) tB):tZ X F (.BoolOp .Or (a::b::rest) pos) (Kg tA tB):=⟨ha.hK,(DY ha.pt hb.pw).imp λn H Q d=>by
  obtain⟨i,k,S,h⟩:=d;refine pP.next S h λc j m g l f=>?_;cases c with
  |false=>exact⟨i,j,l,M.wk f λ_ _ z=>z.ext g⟩|true=>exact f m g⟩
theorem Bq(ha:DT X F a tA):DT X F (.UnaryOp .Not a pos) (λρ=>do let b<-tA ρ;pure (!b)):=⟨ha.hK,(Au ha.pt).imp λj H Q d=>by
  obtain⟨ρ,k,S,h⟩:=d;refine pP.next S h λc l i g m f=>?_;exact f i g⟩
noncomputable def Kh(t:ah->M Bool)(ta tb:ah->M D)(ρ:ah):M D:=do
 let b<-t ρ;if b then ta ρ else tb ρ
theorem EC(n:DT X F c tA)(ha:DE X F a ta)(hb:DE X F b tb):DE X F (.IfExp c a b pos) (Kh tA ta tb):=⟨ha.hK,(uc n.pt ha.pe hb.pe).imp λo H Q f=>by
  obtain⟨g,k,S,h⟩:=f;refine pP.next S h λd i p l m j=>?_;cases d with
  |true=>exact⟨g,i,m,M.wk j λ_ _ z=>z.ext l⟩|false=>exact⟨g,i,m,M.wk j λ_ _ z=>z.ext l⟩⟩
variable{tas:ah->M (List A)}
theorem Br(hK:X.K=F.K:=by rfl):DA X F [] (λ_=>pure []):=⟨hK,bQ.imp λd H Q⟨f,k,S,h⟩=>h [] H .refl .nil⟩
theorem xS(ha:DE X F e ta)(o:DA X F es tas)(n:Lg (e::es) X.env=(KR,MW e X.env)::Lg es X.env:=by rfl):DA X F (e::es) (λρ=>do let d<-ta ρ;let r<-tas ρ;pure (.d d::r)):=⟨ha.hK,(aQ ha.pe o.pa n).imp λu H Q f=>by
  obtain⟨ρ,k,S,h⟩:=f;refine cF.next S h λd x v B s t m q=>?_;refine pB.next t q λy j w i g z l p=>?_;exact p _ i (s.trans g) (.cons (show DD F.toFb i j v (.d d)from m.mono g.kp) l)⟩
theorem xT(i:Nat){x:Li}{pos:MB}(g:DA X F es tas)(hN:X.N[i]?=KJ x:=by rfl)(p:ni X.env.scope x:=by first|exact OO rfl|exact Pq (OO rfl)|exact Pq (Pq rfl))(hd:(x==("__debug__":Li))=KR:=by decide)(f:(x==("__classdict__":Li))=KR:=by decide)(q:Lg (.Name x pos::es) X.env=(KR,MW (.Name x pos) X.env)::Lg es X.env:=by rfl):DA X F (.Name x pos::es) (λρ=>do M.need (ρ[i]?=KJ (KJ .feed));let r<-tas ρ;pure (.feed::r)):=⟨g.hK,(aQ (bP hN p hd f) g.pa q).imp λu H Q d=>by
  obtain⟨ρ,k,S,h⟩:=d;obtain⟨v,s,j⟩:=S.at_ i _ h.1;refine⟨v,s,?_⟩;refine pB.next S h.2 λy n w m l z o t=>?_;exact t _ m l (.cons (show DD F.toFb m n v .feed from⟨j.1,l.feed j.2⟩) o)⟩
noncomputable def gx:List A->M (List D)
 |[]=>pure []|.d x::r=>do let f<-gx r;pure (x::f)|.feed::_=>M.fail|.own _::_=>M.fail
theorem bT:∀{as:List A}{k Q E},(gx as).run k Q E->∃ds,as=ds.map A.d/\Q ds k
 |[],_,_,_,h=>⟨[],rfl,h⟩|.d x::r,k,Q,E,h=>by
  obtain⟨ds,e,q⟩:=bT (as:=r) h;exact⟨x::ds,by rw[e];rfl,q⟩|.feed::_,_,_,_,h=>h.elim|.own _::_,_,_,_,h=>h.elim
theorem bU{B:Fb}{H:Hp}{k:Nat}:∀{f:List V}{ds:List D},uK B H k f (ds.map A.d)->ab B H f ds
 |_,[],h=>by cases h;exact .nil|_,d::ds,h=>by cases h with|cons r t=>exact .cons r (bU t)
theorem Bt{x1}(h:DA X F es tas):DE X F (.Tuple es x1 pos) (λρ=>do let ds<-gx (<-tas ρ);M.need (ds.length<=KZ);pure (.tup ds)):=⟨h.hK,(AK h.pa).imp λp H Q f=>by
  obtain⟨ρ,k,S,h⟩:=f;refine pB.next S h λq l j r n o d m=>?_;obtain⟨ds,rfl,i⟩:=bT m;have d:=bU d;refine⟨by rw[d.length];exact i.1,λt g=>i.2 _ _ (n.trans (.new g)) ?_⟩;simp only[Is];exact⟨t,j,rfl,⟨hJ o.live g,.of ai⟩,d.mono (Ext.new (k:=l) g).kp⟩⟩
end
end L2
end
section
namespace SortM
open PySem PySem.W PyProof.Rows
end SortM
end
section
namespace SortM
open PySem PySem.W PyProof.Rows
end SortM
end
section
namespace SortM
open PySem PySem.W PyProof.Rows L2
noncomputable abbrev eS(h h':Lx):Prop:=∀b o,h.get? b=KJ o->h'.get? b=KJ o
section
variable{prog:Le}{w:Ly}{A:LC}{E:KO->KW->Prop}{s:KW}
theorem rm{Q:Bool->KW->Prop}{a:Bool}:∀(xs ys:List KO)(ns c:List Int)(i:Nat),Ny xs ns->Ny ys c->(ns.length<c.length↔a=KQ)->Q (HT.lexLt ns c) s->KatLex prog w A KQ a Q (xs.zip ys) i s
 |[],[],[],[],i,_,_,b,q=>by
  have:a=KR:=by cases a with|false=>rfl|true=>exact absurd (b.mpr rfl) (by simp)
  subst this;exact q|[],y::ys,[],m::c,i,_,_,b,q=>by
  have:a=KQ:=b.mp (by simp);subst this;exact q|x::xs,[],n::ns,[],i,_,_,b,q=>by
  have:a=KR:=by cases a with|false=>rfl|true=>exact absurd (b.mpr rfl) (by simp)
  subst this;exact q|x::xs,y::ys,n::ns,m::c,i,j,g,b,q=>by cases j with|cons _ l f=>cases g with|cons _ k d=>
    rw[HT.d3]at q;refine kat_cons (wpAny_eqBool_int ?_);by_cases e:n=m
    .rw[if_pos e]at q;rw[show(n==m)=KQ by simp[e]];exact kat_yes (rm xs ys ns c (i+1) f d (by simpa using b) q)
    .rw[if_neg e]at q;rw[show(n==m)=KR by simp[e]];refine kat_no ?_;cases i with
     |zero=>exact oneLt_int q|succ i=>exact kat_one _ _ (lt_int q)
 |[],_,n::_,_,_,h,_,_,_=>by cases h|_::_,_,[],_,_,h,_,_,_=>by cases h|_,[],_,m::_,_,_,h,_,_=>by cases h|_,_::_,_,[],_,_,h,_,_=>by cases h
theorem lC{M:Si}{h:Lx}(n:Int)(t:SN):Looks M h (SR (.int n t)) (.type "int"):=λA Q E s _ q=>KS q
end
end SortM
end
section
namespace L2
open PySem PySem.W PyProof.Rows SortM
section
variable{X:Cx}
theorem Inv.newList{a:List (KY×Mc)}{b:St}{H:Hp}{s:KW}{h':Lx}{D c:Nat}{ys:List V}{us:List KO}(I:Inv X a b H s)(g:eS s.heap h')(f:s.heap.objs.size<=D)(r:aq ys us)(d:ys.length<=KZ)(e:h'.get? D=KJ (Oi "list" us.toArray c)){t:Nat}:Inv X a b (upd H D (.lst ys)) {s with heap:=h',toks:=t}:=I.laid g f ⟨d,us,c,r,e⟩
end
end L2
end
section
namespace DictIt
open PySem PySem.W PyProof.Rows
section
variable{prog:Le}{w:Ly}{A:LC}{E:KO->KW->Prop}{s:KW}
theorem rp{d:KY}{o:Mc}{e:Array OG}{f:Nat}{Q:KO->KW->Prop}(a:(d==Mx)=KR)(b:s.heap.get? d=KJ o)(g:o.cls=.type "dict")(hd:o.data=.dict e f)(h:Q (.ref s.heap.objs.size) {s with heap:=s.heap.push {cls:=.type "dict_keyiterator",data:=.fields #[.ref d,.int 0 0,.int e.size 0,.int f 0]}}):wpAny (K7 prog w) A (Sg (.ref d)) Q E s:=by
 have c:s.TypeIs (.ref d) "dict":=⟨o,b,g⟩;refine wpAny_pyIter_slot c F.slot_dict_iter (LQ F.slot_dict_iter c F.entry_dict_iter ?_ (F.args_dict_iter_1 _));unfold Builtin.«dict.__iter__»;refine KL ?_;unfold Builtin.Dict.dictSlotNone;refine KL (Q1 c ?_);show wpAny _ _ (pure (Ln d)) _ _ s;refine KS ?_;show wpAny _ _ (Q3 d>>=_) _ _ s;unfold Q3;rw[if_neg (by rw[a];exact Ld)];refine KL (KS ?_);refine KL (PM b hd ?_);refine KL (QP b hd ?_);refine KL (LH (KS ⟨_,rfl,"dict_keyiterator",_,⟨_,Lb _ rfl,rfl⟩,F.slot_dict_keyiterator_next.lookup,?_⟩));simpa[OJ]using h
theorem rq{it d:KY}{i h:Nat}{l:Mc}{c:Array OG}{Q:Option KO->KW->Prop}(a:s.heap.IsKeyIter it d i c.size h)(f:s.heap.get? d=KJ l)(g:l.data=.dict c h)(k:i<c.size)(n:∀h',h'.IsKeyIter it d (i+1) c.size h->Mu it s.heap h'->Q (KJ c[i].key) {s with heap:=h'}):wpAny (K7 prog w) A (N4 (.ref it)) Q E s:=by
 obtain⟨o,j,m,hd⟩:=id a;unfold N4;refine KL (N3 (LM (name:=KN "__next__") a.typeIs M6 (LQ M6 a.typeIs O5 ?_ (OY _))));refine KL (KS ?_);refine KL ?_;refine KL ?_;first|refine KL (M2 a.typeIs (KS ?_))|refine KL (NF a.typeIs (KS ?_))
 refine KL (wpAny_fieldsOf j hd ?_);have e:Pc "dict_keyiterator"=KR:=by decide
 simp only[e,Lc,if_false];show wpAny _ _ (if(Ln d==MH)=KQ then _ else _) _ _ s;rw[if_neg (show¬((Ln d==MH)=KQ)from Ld)];refine KL (KS ?_);refine KL (PM f g ?_);rw[if_neg (by simp)];refine KL (KS ?_);refine KL (QP f g ?_);rw[if_neg (by simp)];refine KS ?_;simp only[show¬((i:Int)<0)from by omega,if_false,Nz,Mw k];refine KL ?_;first|refine KL (M2 a.typeIs (KS ?_))|refine KL (NF a.typeIs (KS ?_))
 refine KL (Q4 a.typeIs ?_);show wpAny _ _ (setField (.ref it) 1 (OJ ((i:Int)+1))>>=_) _ _ s;refine KL (Pu j hd (by simp) ?_);have b:(s.heap.update it (Obj.mapFields (·.setIfInBounds 1 (OJ ((i:Int)+1))))).IsKeyIter it d (i+1) c.size h:=⟨_,OU _ j (Q5 (OA hd _)),(R6 ..).trans m,by rw[OA hd];simp[OJ]⟩;refine KL (LK ?_);refine KL (Q4 (s:={s with heap:=s.heap.update it (Obj.mapFields (·.setIfInBounds 1 (OJ ((i:Int)+1))))}) b.typeIs ?_);show wpAny _ _ (pure c[i].key) _ _ _;exact KS (KS ⟨_,rfl,KS (n _ b (Na ..))⟩)
theorem uO{it d:KY}{i n:Nat}{k:Mc}{j:Array OG}{Q:Option KO->KW->Prop}(p:A.handled=KP)(c:s.heap.IsKeyIter it d i j.size n)(f:s.heap.get? d=KJ k)(g:k.data=.dict j n)(h:j.size<=i)(q:∀h',O6 it s.heap h'->Q KP {s with heap:=h'}):wpAny (K7 prog w) A (N4 (.ref it)) Q E s:=by
 obtain⟨o,l,r,hd⟩:=id c;unfold N4;refine KL (N3 (LM (name:=KN "__next__") c.typeIs M6 (LQ M6 c.typeIs O5 ?_ (OY _))));refine KL (KS ?_);refine KL ?_;refine KL ?_;first|refine KL (M2 c.typeIs (KS ?_))|refine KL (NF c.typeIs (KS ?_))
 refine KL (wpAny_fieldsOf l hd ?_);have e:Pc "dict_keyiterator"=KR:=by decide
 simp only[e,Lc,if_false];show wpAny _ _ (if(Ln d==MH)=KQ then _ else _) _ _ s;rw[if_neg (show¬((Ln d==MH)=KQ)from Ld)];refine KL (KS ?_);refine KL (PM f g ?_);rw[if_neg (by simp)];refine KL (KS ?_);refine KL (QP f g ?_);rw[if_neg (by simp)];refine KS ?_;simp only[show¬((i:Int)<0)from by omega,if_false,Nz,NS h];refine KL ?_;first|refine KL (M2 c.typeIs (KS ?_))|refine KL (NF c.typeIs (KS ?_))
 show wpAny _ _ (setField (.ref it) 0 .none>>=_) _ _ s;refine KL (Pu l hd (by simp) ?_);show wpAny _ _ (newExc (.type "StopIteration") []>>=_) _ _ _;refine KL ?_;simp only[newExc,newTuple];refine KL (LH ?_ (by size_fits));refine KL (m:=Pw _ _) (wpAny_of_eq (a:=MH) (by first|rfl|(simp only[Pw];rfl)) ?_);refine LH ?_ (by size_fits);simp only[raiseNew];refine KL (wpAny_handled ?_);rw[show A.in1.handled=KP from p];refine KL (KS (wpAny_throw ?_));refine KL (NM (T:="StopIteration") (b:=KQ) ⟨_,Lb _ rfl,rfl⟩ Ri ?_);exact KS (q _ (((Na ..).extBut.push _).push _))
theorem uP(q:A.handled=KP)(I d:KY)(j:d≠I)(o:Mc)(g:Array OG)(p:Nat)(hd:o.data=.dict g p):Walks prog w A I [I,d] [I] g.size (λi v=>∃e,g[i]?=KJ e/\v=e.key) (λi h=>h.IsKeyIter I d i g.size p/\h.get? d=KJ o)where
 sub:=λb hb=>by simp at hb;simp[hb]
 frame:=λ_ _ _ st m=>⟨st.1.at λo e=>m I (by simp) o e,m d (by simp) o st.2⟩;item:=λi s Q E n st f=>rq st.1 st.2 hd n λl c a=>f _ l s.toks ⟨g[i],by simp[n],rfl⟩ ⟨c,(a.2 d j).trans st.2⟩ λb o hb e=>a.extBut b o (λh=>hb (by simp[h])) e;done:=λs Q E st f=>uO q st.1 st.2 hd (La _) λl k=>f l s.toks λb o hb e=>k b o (λh=>hb (by simp[h])) e;self:=λ_ _ _ _ st f=>Rj st.1 f
theorem Bu{d:KY}{o:Mc}{c:Array OG}{j:Nat}(b:(d==Mx)=KR)(g:o.cls=.type "dict")(hd:o.data=.dict c j):KdlSrc prog w "dict" d d c.size (λi v=>∃e,c[i]?=KJ e/\v=e.key) (λh=>h.get? d=KJ o)where
 type:=λ_ a=>⟨o,a,g⟩;there:=λ_ a=>⟨K8 a,K8 a⟩;keep:=λ_ _ a k=>k d (.inl rfl) o a;notList:=by decide
 notTuple:=by decide
 hint:=λ_ _ s _ a f=>kdl_hint_dict ⟨o,a,g⟩ f;iter:=λ_ _ l a=>⟨_,_,(λ_ _ f=>rp b a g hd f),uP l _ d (Lu (K8 a)) o c j hd,⟨⟨_,Lb _ rfl,rfl,rfl⟩,KU _ a⟩⟩
theorem pR{d:KY}{o:Mc}{k:Array OG}{v:Nat}{R:List KO->KW->Prop}(q:A.handled=KP)(j:(d==Mx)=KR)(n:s.heap.get? d=KJ o)(r:o.cls=.type "dict")(hd:o.data=.dict k v)(p:k.size<=KZ)(h:∀(h':Lx)(l:Nat),(∀b o,s.heap.get? b=KJ o->h'.get? b=KJ o)->R (k.toList.map (·.key)) {s with heap:=h',toks:=l}):wpAny (K7 prog w) A (SU (.ref d)) R E s:=by
 refine kdu_collect (Bu (prog:=prog) (w:=w) j r hd) q n p λh' l f g a=>?_;have e:f.toList=k.toList.map (·.key):=by
  apply R8;intro i;rw[Lw];by_cases m:i<k.size
  .have c:i<f.size:=by rw[a.1];exact m
   obtain⟨e,u,t⟩:=a.2 i f[i] (by simp[c]);simp only[Mj,u,Mw c,t,Mt]
  .have c:f.size<=i:=by rw[a.1];omega
   simp only[Mj,NS c,NS (Nat.not_lt.mp m),Option.map_none]
 rw[e];exact h h' l g
end
end DictIt
end
section
namespace L2
open PySem PySem.Spec PySem.W PyProof.Rows SortM
section
variable{X:Cx}{pins:List (KY×Mc)}{σ:St}{H:Hp}{s:KW}
theorem jH:∀{a:List (Key×V)}{f:List (Key×KO)}{g:List OG}{prog:Le}{w:Ly},KV a f->Pairs (ar prog w) g f->aq (a.map λj=>kV j.1) (g.map (·.key))
 |_,_,_,_,_,.nil,.nil=>.nil|_,_,_,_,_,.cons ⟨e,_⟩ t,.cons h _ r=>by
  refine .cons ?_ (jH t r);dsimp only;rw[e];obtain⟨i,b,d,c⟩|⟨x,b,d,c⟩:=aI h;.rw[d,c];exact⟨b,rfl⟩
  .rw[d,c];exact⟨b,rfl⟩
theorem Inv.freeze{a:KY}{o:Mc}{u:HO}(I:Inv X pins σ H s)(hu:H a=KJ u)(l:s.heap.get? a=KJ o)(nt:∀xs,u≠.tup xs)(h:∀b v,u≠.b6 b v)(i:∀ps,u≠.tW ps)(g:∀x,u≠.own x):Inv X pins σ (upd H a (.b6 o u)) s:=by
 have ne:∀{b:KY},H b=KP->b≠a:=λ{b}n z=>by rw[z,hu]at n;cases n
 have tp:∀b xs,H b=KJ (.tup xs)->(upd H a (.b6 o u)) b=KJ (.tup xs):=λb xs e=>by rw[af (λz=>by rw[z,hu]at e;cases e;exact nt _ rfl)];exact e
 have f:∀b x,H b=KJ (.own x)->(upd H a (.b6 o u)) b=KJ (.own x):=λb x e=>by rw[af (λz=>by rw[z,hu]at e;cases e;exact g _ rfl)];exact e
 refine⟨I.ok,I.os,I.bare,⟨I.base.keep,I.base.slot,λb ob e n j=>?_,I.base.there,λb xs e=>tp b xs (I.base.iZ b xs e),λb ob v e=>?_,λb ps e=>?_⟩,I.loc,I.cell,?_,λx c e=>?_,λp k=>?_,λb v e=>?_,I.len⟩
 .have:=I.base.free b ob e n j;rw[af (ne this)];exact this
 .have q:=I.base.gY b ob v e;rw[af (λz=>by rw[z,hu]at q;cases q;exact h _ _ rfl)];exact q
 .obtain⟨d,q⟩:=I.base.i5 b ps e;exact⟨d,by rw[af (λz=>by rw[z,hu]at q;cases q;exact i _ rfl)];exact q⟩
 .rw[af (ne I.free)];exact I.free
 .rw[af (ne (I.cY x c e))];exact I.cY x c e
 .obtain⟨e,n,r⟩:=I.pin p k;exact⟨e,by rw[af (ne n)];exact n,r⟩
 .by_cases hb:b=a
  .subst hb;rw[ai]at e;cases e;exact⟨l,(I.aN b u hu).dW (λ_ _ _ q=>q) (λc q=>f c _ q) tp⟩
  .rw[af hb]at e;exact(I.aN b v e).dW (λ_ _ _ q=>q) (λc q=>f c _ q) tp
end
section
variable{X:Cx}{F:Fx}{a b c e:K_}{es rest:List K_}{pos:MB}{ta tb tc:ah->M D}{tas:ah->M (List A)}
theorem pS{t:TE}(h:PE X e t):PE X e (λf H Q=>t f H λv i=>∃a xs,v=.ref a/\i a=KJ (.lst xs)/\∀o,Q v (upd i a (.b6 o (.lst xs)))):=by
 intro d s f H Q I q;refine aV (h d s f H _ I q) λu s1 g=>?_;obtain⟨v,i,j,r,a,xs,e,ha,k⟩:=g;obtain⟨_,l,n,p,m⟩:=j.aN a _ ha;exact⟨v,_,j.freeze ha m (λ_ z=>nomatch z) (λ_ _ z=>nomatch z) (λ_ z=>nomatch z) (λ_ z=>nomatch z),r,k _⟩
theorem dH.b6{f:KO}{r:List V->Hp->VK->Prop}(h:dH X f r):dH X f (λm H Q=>r m H λv i=>∃a xs,v=.ref a/\i a=KJ (.lst xs)/\∀o,Q v (upd i a (.b6 o (.lst xs)))):=by
 intro d s l H xs p Q I j q;refine aV (h d s l H xs p _ I j q) λu s1 g=>?_;obtain⟨v,i,k,r,a,xs,e,ha,t⟩:=g;obtain⟨_,w,n,j,x⟩:=k.aN a _ ha;exact⟨v,_,k.freeze ha x (λ_ z=>nomatch z) (λ_ _ z=>nomatch z) (λ_ z=>nomatch z) (λ_ z=>nomatch z),r,t _⟩
theorem bF{B:Fb}{H:Hp}{k:Nat}{l:KY}{d:List V}{ds:List D}{o:Mc}(g:H B.p≠KP)(f:H l=KP)(i:ab B H d ds):Is B (upd H l (.b6 o (.lst d))) (.ref l) (.lst ds):=by
 simp only[Is];exact⟨l,d,rfl,⟨hJ g f,⟨o,ai⟩⟩,i.mono (Ext.new (k:=k) f).kp⟩
theorem d8{B:Fb}{H:Hp}{k:Nat}{l:KY}{d:List V}{ds:List D}(g:H B.p≠KP)(f:H l=KP)(i:ab B H d ds):Is B (upd H l (.tup d)) (.ref l) (.tup ds):=by
 simp only[Is];exact⟨l,d,rfl,⟨hJ g f,.of ai⟩,i.mono (Ext.new (k:=k) f).kp⟩
theorem Bv(h:DA X F es tas):DE X F (.List es pos) (λρ=>do let ds<-gx (<-tas ρ);M.need (ds.length<=KZ);pure (.lst ds)):=⟨h.hK,(pS (ml h.pa)).imp λq H Q f=>by
  obtain⟨ρ,k,S,h⟩:=f;refine pB.next S h λr l j s n p d m=>?_;obtain⟨ds,rfl,i⟩:=bT m;have d:=bU d;refine⟨by rw[d.length];exact i.1,λt g=>⟨t,j,rfl,ai,λo=>?_⟩⟩;rw[cf];exact i.2 _ _ (n.trans (.new g)) (bF (k:=l) p.live g d)⟩
noncomputable def items:D->Option (List D)
 |.tup d=>KJ d|.lst d=>KJ d|_=>KP
theorem Bw{B:Fb}{H:Hp}{v:V}{d:D}{ds:List D}(h:Is B H v d)(e:items d=KJ ds):∃a f,v=.ref a/\(dF B.K H a f\/gp B.K H a f)/\ab B H f ds:=by
 cases d<;>first|cases e|skip
 .simp only[Is]at h;obtain⟨a,f,j,i,g⟩:=h;exact⟨a,f,j,.inr i.2,g⟩
 .simp only[Is]at h;obtain⟨a,f,j,i,g⟩:=h;exact⟨a,f,j,.inl i.2.sq,g⟩
theorem uQ{B:Fb}{H:Hp}{f:List V}{ds:List D}{i:Int}{d:D}(h:ab B H f ds)(e:fy ds i=KJ d):∃v,fy f i=KJ v/\Is B H v d:=by
 unfold fy at e⊢;rw[h.length];cases q:zL ds.length i with
 |none=>rw[q]at e;cases e|some j=>
  rw[q]at e;exact h.get e
noncomputable def xU(x:Li)(i:Int):Option D:=(fy x.cps.toList i).map λc=>.str ⟨#[c]⟩
noncomputable def JM:D->D->M D:=λd e=>do
 let i<-dm e;match d with
 |.tup f=>M.get (fy f i)|.lst f=>M.get (fy f i)|.str x=>do M.need (x.length<=KZ);M.get (xU x i)|_=>M.fail
structure GN(X:Cx)(F:Fx)(m:D->D->M D):Prop where ix:X.K=F.K->uz X (Et F m)
theorem xV:GN X F JM:=⟨λhK g j n s J H x y v u Q I N L h P=>by
 refine AS g j n s J H x y v u Q I N L ?_ P;obtain⟨k,d,e,l,m,p,q⟩:=h;obtain⟨i,rfl,q⟩:=ba.mp q;simp only[Is]at p;cases d with
 |tup K=>
  obtain⟨z,f,o⟩:=M.run_get.mp q;simp only[Is]at m;obtain⟨a,r,G,E,C⟩:=m;obtain⟨w,B,t⟩:=uQ C f;exact .inr (.inl ⟨a,r,i,w,G,p,by rw[hK];exact E.2,B,o w H .refl t⟩)|lst K=>
  obtain⟨z,f,o⟩:=M.run_get.mp q;simp only[Is]at m;obtain⟨a,r,G,E,C⟩:=m;obtain⟨w,B,t⟩:=uQ C f;exact .inl ⟨a,r,i,w,G,p,by rw[hK];exact E.2.sq,B,o w H .refl t⟩|str x=>
  obtain⟨O,q⟩:=q;obtain⟨z,f,o⟩:=M.run_get.mp q;simp only[Is]at m;unfold xU at f;cases q:fy x.cps.toList i with
  |none=>rw[q]at f;cases f|some c=>
   rw[q]at f;cases f;exact .inr (.inr ⟨x,i,c,m,p,O,q,o _ H .refl (by simp only[Is])⟩)
 |_=>exact q.elim⟩
theorem ED{m:D->D->M D}(g:GN X F m)(ha:DE X F a ta)(hb:DE X F b tb)(f:jh b:=by intro _ _;rfl):DE X F (.Subscript a b pos) (λρ=>do let d<-ta ρ;let e<-tb ρ;m d e):=⟨ha.hK,(eP (g.ix ha.hK) ha.pe hb.pe f).imp λi H Q h=>rk h⟩
structure bC(X:Cx)(F:Fx)(f:KO)(m:List D->M D):Prop where
 call:∀(pins:List (KY×Mc))(s:KW)(σ:St)(H:Hp)(k:Nat)(xs:List V)(us:List KO)(ds:List D)(Q:VK),Inv X pins σ H s->aq xs us->H F.p≠KP->X.K=F.K->ab F.toFb H xs ds->(m ds).run k (qE F.toFb H k Q) F.E->wpAny (K7 X.prog X.w) X.A (Qu f us) (EP X pins σ Q) X.xe s
noncomputable def zO(F:Fx)(m:List D->M D):List V->Hp->VK->Prop:=λf H Q=>∃k d,H F.p≠KP/\ab F.toFb H f d/\(m d).run k (qE F.toFb H k Q) F.E
theorem bC.zP{f:KO}{m:List D->M D}(h:bC X F f m)(hK:X.K=F.K):dH X f (zO F m):=λd s g H j n Q I r⟨k,o,l,i,q⟩=>h.call d s g H k j n o Q I r l hK i q
theorem bC.of{f:KO}{m:List D->M D}{r:List V->Hp->VK->Prop}(h:dH X f r)(q:X.K=F.K->∀H k xs ds Q,H F.p≠KP->ab F.toFb H xs ds->(m ds).run k (qE F.toFb H k Q) F.E->r xs H Q):bC X F f m:=⟨λd s g H k xs j ds Q I n l hK i z=>h d s g H xs j Q I n (q hK H k xs ds Q l i z)⟩
theorem rz{m:List D->M D}{d:St}{H:Hp}{Q:VK}(h:cF F (λρ=>do m (<-gx (<-tas ρ))) d H Q):HK (zO F m) (pB F tas) d H Q:=by
 obtain⟨ρ,k,S,h⟩:=h;refine pB.next S h λq f p r l o g j=>?_;obtain⟨n,rfl,i⟩:=bT j;exact⟨f,n,o.live,bU g,M.wk i λ_ _ z=>z.ext l⟩
theorem uR{id:String}{x:Li}{m:List D->M D}{p:MB}(n:bC X F (.builtin id) m)(j:X.mg x=KP)(g:MD x=KJ (.builtin id))(ha:DA X F (e::es) tas)(k:Gl X x:=by rfl)(i:x≠"__name__":=by decide)(f:(x==("__debug__":Li))=KR:=by decide)(l:Lg (e::es) X.env=(KR,MW e X.env)::Lg es X.env:=by rfl)(d:(NQ pos (Lg es X.env)).any (·.1)=KR:=by rfl):DE X F (.Call (.Name x p) (e::es) [] pos) (λρ=>do m (<-gx (<-tas ρ))):=⟨ha.hK,(eO (n.zP ha.hK) k j g ha.pa i f l d).imp λo H Q h=>rz h⟩
theorem sW{T:String}{x:Li}{m:List D->M D}{p:MB}(n:bC X F (.type T) m)(j:X.mg x=KP)(g:MD x=KJ (.type T))(ha:DA X F (e::es) tas)(k:Gl X x:=by rfl)(i:x≠"__name__":=by decide)(f:(x==("__debug__":Li))=KR:=by decide)(l:Lg (e::es) X.env=(KR,MW e X.env)::Lg es X.env:=by rfl)(d:(NQ pos (Lg es X.env)).any (·.1)=KR:=by rfl):DE X F (.Call (.Name x p) (e::es) [] pos) (λρ=>do m (<-gx (<-tas ρ))):=⟨ha.hK,(ll (n.zP ha.hK) k j g ha.pa i f l d).imp λo H Q h=>rz h⟩
noncomputable def one(f:D->M D):List D->M D
 |[d]=>f d|_=>M.fail
theorem fC{f:D->M D}{ds:List D}{k Q E}(h:(one f ds).run k Q E):∃d,ds=[d]/\(f d).run k Q E:=by match ds,h with|[d],h=>exact⟨d,rfl,h⟩
theorem ab.one{B:Fb}{H:Hp}{f:List V}{d:D}(h:ab B H f [d]):∃v,f=[v]/\Is B H v d:=by
 simp only[ab]at h;obtain⟨x,i,rfl,g,rfl⟩:=h;exact⟨x,rfl,g⟩
theorem ab.two{B:Fb}{H:Hp}{f:List V}{d e:D}(h:ab B H f [d,e]):∃v u,f=[v,u]/\Is B H v d/\Is B H u e:=by
 simp only[ab]at h;obtain⟨x,k,rfl,i,y,j,rfl,g,rfl⟩:=h;exact⟨x,y,rfl,i,g⟩
noncomputable def HZ(d:D):M D:=match d with
 |.tup f=>pure (.int f.length)|.lst f=>pure (.int f.length)|.str x=>do M.need (x.length<=KZ);pure (.int x.length)|_=>M.fail
theorem pT:bC X F (.builtin "len") (one HZ):=.of uu λhK H k j o Q l n m=>by
 obtain⟨d,rfl,q⟩:=fC m;obtain⟨v,rfl,i⟩:=n.one;cases d with
 |tup j=>
  simp only[Is]at i;obtain⟨a,f,rfl,h,g⟩:=i;exact⟨_,f.length,rfl,.inr ⟨f,by rw[hK];exact h.2,rfl⟩,q _ H .refl (by simp only[Is];rw[g.length])⟩|lst j=>
  simp only[Is]at i;obtain⟨a,f,rfl,h,g⟩:=i;exact⟨_,f.length,rfl,.inl ⟨f,by rw[hK];exact h.2.sq,rfl⟩,q _ H .refl (by simp only[Is];rw[g.length])⟩|str x=>
  simp only[Is]at i;subst i;exact⟨_,x.length,rfl,⟨q.1,rfl⟩,q.2 _ H .refl (by simp only[Is])⟩|_=>exact q.elim
theorem uS:bC X F (.type "tuple") (one λd=>do pure (.tup (<-M.get (items d)))):=.of kS λhK H k p o Q l n m=>by
 obtain⟨d,rfl,q⟩:=fC m;obtain⟨v,rfl,i⟩:=n.one;obtain⟨o,e,q⟩:=M.run_get.mp q;cases d<;>first|cases e|skip
 .simp only[Is]at i;obtain⟨a,f,rfl,g,h⟩:=i;exact⟨a,f,rfl,.inr ⟨by rw[hK];exact g.2,q _ H .refl (by simp only[Is];exact⟨a,f,rfl,g,h⟩)⟩⟩
 .simp only[Is]at i;obtain⟨a,f,rfl,g,h⟩:=i;exact⟨a,f,rfl,.inl ⟨by rw[hK];exact g.2.sq,λt j=>q _ _ (.new j) (d8 (k:=k) l j h)⟩⟩
theorem xW:bC X F (.type "list") (one λd=>do pure (.lst (<-M.get (items d)))):=.of gw.b6 λhK H k r p Q l j h=>by
 obtain⟨d,rfl,q⟩:=fC h;obtain⟨v,rfl,i⟩:=j.one;obtain⟨p,e,q⟩:=M.run_get.mp q;obtain⟨a,f,rfl,n,m⟩:=Bw i e;refine⟨a,f,rfl,by rw[hK];exact n,λt g=>⟨t,f,rfl,ai,λo=>?_⟩⟩;rw[cf];exact q _ _ (.new g) (bF (k:=k) l g m)
theorem jI:∀{bs:List Bool}{us:List KO},aq (bs.map V.bl) us->LSm.BoolsAre us bs
 |[],_,.nil=>.nil|b::bs,_,.cons r t=>by
  cases r;exact .cons _ (jI t)
theorem uT(t:X.calm=KQ):dH X (.builtin "all") (λxs H Q=>∃(a:KY)(bs:List Bool),xs=[.ref a]/\dF X.K H a (bs.map V.bl)/\Q (.bl (bs.all id)) H):=by
 intro j s w H xs x Q I r h;obtain⟨a,bs,rfl,n,q⟩:=h;obtain⟨u,rfl,l⟩:=vals1 r;cases l;obtain⟨d,m,pl,B⟩:=I.list n;have hb:=jI m;have g:=pl.isList;have f:a<s.heap.objs.size:=by obtain⟨_,e,_⟩:=g;exact K8 e
 have p:=I.ok.hd t;refine call_all_walk (OP g ?_);refine⟨s.heap.objs.size,[s.heap.objs.size,a],[s.heap.objs.size],d.toArray.size,_,_,λi=>(bs[i]?).getD KQ,rfl,Walks.list (A:=X.A.in1) p _ a (Lu f) d.toArray,⟨⟨_,Lb _ rfl,rfl,rfl⟩,g.push _⟩,λi v z E G hP k=>?_,λC y o=>?_⟩
 .obtain⟨b,e,rfl⟩:=hb.get i v (by simpa using hP);simp only[e,Qd]at k;exact Ml k
 .have e:((L4 d.toArray.size).all λi=>(bs[i]?).getD KQ)=bs.all id:=by rw[K6,hb.length];exact LSm.range_all bs
  rw[e];exact⟨.bl _,H,I.kept (LSm.kept_iter o),rfl,q⟩
noncomputable def bools:List D->Option (List Bool)
 |[]=>KJ []|.bl b::r=>(bools r).map (b::·)|_=>KP
theorem nK{B:Fb}{H:Hp}:∀{ds:List D}{f:List V}{bs:List Bool},ab B H f ds->bools ds=KJ bs->f=bs.map V.bl
 |[],_,bs,h,e=>by simp only[ab]at h;cases e;exact h|d::ds,f,bs,h,e=>by
  simp only[ab]at h;obtain⟨x,k,rfl,g,i⟩:=h;cases d with
  |bl b=>
   simp only[bools,OQ]at e;obtain⟨cs,j,rfl⟩:=e;simp only[Is]at g;rw[g,nK i j];rfl|_=>cases e
noncomputable def H9(d:D):M D:=match d with
 |.lst f=>do let bs<-M.get (bools f);pure (.bl (bs.all id))|_=>M.fail
theorem Bx(m:X.calm=KQ):bC X F (.builtin "all") (one H9):=.of (uT m) λhK H k f r Q l h g=>by
 obtain⟨d,rfl,q⟩:=fC g;obtain⟨v,rfl,i⟩:=h.one;cases d with
 |lst f=>
  obtain⟨bs,e,q⟩:=M.run_get.mp q;simp only[Is]at i;obtain⟨a,p,rfl,o,n⟩:=i;have j:=nK n e;subst j;exact⟨a,bs,rfl,by rw[hK];exact o.2.sq,q _ H .refl (by simp only[Is])⟩|_=>exact q.elim
noncomputable def H_:D->Option String
 |.bx=>KJ "NoneType"|.bl _=>KJ "bool"|.int _=>KJ "int"|.str _=>KJ "str"|.tup _=>KJ "tuple"|.lst _=>KJ "list"|.aR _ _=>KP
noncomputable def uU(T:String)(d:D):M D:=do
 let t<-M.get (H_ d)let b<-M.get (Nl [] (.type t) (.type T))pure (.bl b)
theorem xX(K:K2)(t T:String):Nl K (.type t) (.type T)=Nl [] (.type t) (.type T):=rfl
theorem uV{g:List (KY×Mc)}{q:St}{H:Hp}{s:KW}{Q:KO->KW->Prop}{E:KO->KW->Prop}{A:LC}{d:D}{t:String}{c:KO}{b:Bool}{v:V}{u:KO}(I:Inv X g q H s)(r:RelV v u)(hK:X.K=F.K)(i:Is F.toFb H v d)(f:H_ d=KJ t)(e:Nl X.K (.type t) c=KJ b)(h:∀B,Q (.bool b) {s with toks:=B}):wpAny (K7 X.prog X.w) A (Qu (.builtin "isinstance") [u,c]) Q E s:=by cases d with
 |bx=>cases f;simp only[Is]at i;subst i;exact fx I r .bx e h|bl y=>cases f;simp only[Is]at i;subst i;exact fx I r (.bl _) e h|int y=>cases f;simp only[Is]at i;subst i;exact fx I r (.int _) e h|str y=>cases f;simp only[Is]at i;subst i;exact fx I r (.str _) e h|tup x=>
  cases f;simp only[Is]at i;obtain⟨a,p,rfl,l,G⟩:=i;cases(show u=Ln a from r);obtain⟨j,C,⟨o,m,k,_⟩,_⟩:=I.tuple (by rw[hK];exact l.2);exact L8 RJ I.kK ⟨o,m,k⟩ e (λz=>nomatch z) h|lst x=>
  cases f;simp only[Is]at i;obtain⟨a,p,rfl,l,G⟩:=i;cases(show u=Ln a from r);obtain⟨j,C,pl,_⟩:=I.list (by rw[hK];exact l.2.sq);obtain⟨o,n,m,k,_⟩:=pl;exact L8 PF I.kK ⟨o,m,k⟩ e (λz=>nomatch z) h|aR ks p=>cases f
theorem xY{T:String}{x p1 g:MB}{f:Li}(ha:DE X F a ta)(V:X.mg "isinstance"=KP)(o:X.mg f=KP)(l:MD f=KJ (.type T))(W:Gl X "isinstance":=by rfl)(p:Gl X f:=by rfl)(U:f≠"__name__":=by decide)(w:(f==("__debug__":Li))=KR:=by decide)(B:Lg [a,.Name f g] X.env=(KR,MW a X.env)::Lg [.Name f g] X.env:=by rfl)(m:Lg [.Name f g] X.env=[(KR,MW (.Name f g) X.env)]:=by rfl)(n:(NQ pos (Lg [.Name f g] X.env)).any (·.1)=KR:=by rfl):DE X F (.Call (.Name "isinstance" p1) [a,.Name f g] [] pos) (λρ=>do uU T (<-ta ρ)):=by
 refine⟨ha.hK,?_⟩;have Y:dH X (.builtin "isinstance") (λG H Q=>∃k v d,G=[v,.ty T]/\Is F.toFb H v d/\(uU T d).run k (qE F.toFb H k Q) F.E):=by
  intro y s C H xs us Q I r h;obtain⟨k,v,d,rfl,i,q⟩:=h;obtain⟨u,c,rfl,N,L⟩:=vals2 r;cases L;obtain⟨t,R,q⟩:=M.run_get.mp q;obtain⟨b,hb,q⟩:=M.run_get.mp q;exact uV I N ha.hK i R ((xX X.K t T).trans hb) λJ=>⟨.bl b,H,I.tok J,rfl,q _ H .refl (by simp only[Is])⟩
 refine(eO Y W V (by decide+kernel) (aQ ha.pe (aQ (xv (v:=.ty T) p o l rfl U w) bQ m) B) (by decide) (by decide) B n).imp λC H Q j=>?_;obtain⟨ρ,k,S,h⟩:=j;refine cF.next S h λd O v H1 e1 S1 P Z=>?_;exact⟨O,v,d,rfl,P,M.wk Z λ_ _ z=>z.ext e1⟩
end
noncomputable def d9(N:List Li)(as:List A):ah:=as.map (λa=>KJ a.w)++Mp (N.length-as.length) KP
inductive Rs where|d(x:D)|own(x:D)
noncomputable def Ia:Rs->M D
 |.d x=>pure x|.own _=>M.fail
noncomputable def Ki:Rs->M D
 |.d _=>M.fail|.own x=>pure x
noncomputable def EE(Q:Rs->Nat->Prop)(a:Fl)(k:Nat):Prop:=match a with
 |.rt d=>Q (.d d) k|.ro d=>Q (.own d) k|.nx _=>Q (.d .bx) k|_=>False
noncomputable def GO{a:Type}(m:M a):M a:=⟨λk Q _=>m.run k Q (λ_ _=>False),λh q _=>m.mono h q λ_ _ z=>z⟩
noncomputable def era(H:Hp)(a:KY):Hp:=λb=>if b=a then KP else H b
theorem eT{H:Hp}{a b:KY}(h:b≠a):era H a b=H b:=if_neg h
theorem jJ{H:Hp}{a:KY}:era H a a=KP:=if_pos rfl
noncomputable def qR(F:Fb)(H:Hp)(k:Nat)(Q:V->Hp->Prop)(r:Rs)(c:Nat):Prop:=match r with
 |.d d=>∀v b,Ext F H k b c->Is F b v d->Q v b|.own d=>∀a b,Ext F H k b c->H a=KP->a≠F.p->fN F b a d->Q (.ref a) b
noncomputable def eU(F:Fb)(H H0:Hp):List V->List A->Prop:=λb c=>(b=[]/\c=[]/\H0=H)\/∃a d,b=[.ref a]/\c=[.own d]/\H0=era H a/\a≠F.p/\fN F H a d
noncomputable def JN(P:Le)(w:Ly)(K:K2)(n:Nat)(m:List A->M Rs):Sp:=λb H Q _=>∃p k a H0 c bs,b=b.take a.length++c/\H0 p≠KP/\uK ⟨K,p,P,w⟩ H0 k (b.take a.length) a/\eU ⟨K,p,P,w⟩ H H0 c bs/\(a++bs).length=n/\(m (a++bs)).run k (qR ⟨K,p,P,w⟩ H0 k Q) (λ_ _=>False)
noncomputable def Def(P:Le)(w:Ly)(K:K2)(mg:Li->Option KO)(base:Lx)(x:Li)(ps:List Li)(k:Nat)(sp:Sp):Prop:=∃f fd,dI P w K mg base pA k f fd ps sp/\mg x=KJ (.ref f)/\N9 K (.ref f)=KQ/\Binds K fd ps []
theorem pU{X:Cx}{x:Li}{ps:List Li}{k:Nat}{sp:Sp}{p pos:MB}{e:K_}{a:List K_}{t:TA}(D:Def X.prog X.w X.K X.mg X.base x ps k sp)(d:cM k X.A)(i:Gl X x)(ha:PA X (e::a) t)(c:(x==("__debug__":Li))=KR:=by decide)(j:Lg (e::a) X.env=(KR,MW e X.env)::Lg a X.env:=by rfl)(b:(NQ pos (Lg a X.env)).any (·.1)=KR:=by rfl):PE X (.Call (.Name x p) (e::a) [] pos) (zJ sp [] E0 t):=by
 obtain⟨f,fd,F,g,h,hb⟩:=D;exact qV F d i g h hb .nil zM ha c j b
noncomputable def mw(P:Le)(w:Ly)(K:K2)(mg:Li->Option KO)(base:Lx)(x:Li)(n:Nat)(k:Nat)(m:List A->M Rs):Prop:=∃ps:List Li,ps.length=n/\Def P w K mg base x ps k (JN P w K n m)
theorem mw.mono{P:Le}{w:Ly}{K:K2}{mg:Li->Option KO}{base:Lx}{x:Li}{n j k:Nat}{m:List A->M Rs}(h:mw P w K mg base x n j m)(b:j<=k):mw P w K mg base x n k m:=by
 obtain⟨ps,a,f,fd,F,r⟩:=h;exact⟨ps,a,f,fd,F.mono b,r⟩
section
variable{X:Cx}{F:Fx}{e:K_}{es:List K_}{pos:MB}{tas:ah->M (List A)}
theorem By{x:Li}{n k:Nat}{m:List A->M Rs}{p:MB}(Df:mw X.prog X.w X.K X.mg X.base x n k m)(o:cM k X.A)(ha:DA X F (e::es) tas)(s:Gl X x:=by rfl)(hP:X.prog=F.P:=by rfl)(hw:X.w=F.w:=by rfl)(c:(x==("__debug__":Li))=KR:=by decide)(t:Lg (e::es) X.env=(KR,MW e X.env)::Lg es X.env:=by rfl)(b:(NQ pos (Lg es X.env)).any (·.1)=KR:=by rfl):DE X F (.Call (.Name x p) (e::es) [] pos) (λρ=>do let as<-tas ρ;M.need (as.length=n);let r<-GO (m as);Ia r):=by
 obtain⟨ps,C,Df⟩:=Df;refine⟨ha.hK,(pU Df o s ha.pa c t b).imp λz H Q⟨ρ,k,S,h⟩=>?_⟩;refine pB.next S h λas l B y u v f g=>?_;have i:(⟨X.K,F.p,X.prog,X.w⟩:Fb)=F.toFb:=by
  have:F.toFb=⟨F.K,F.p,F.P,F.w⟩:=rfl;rw[this,ha.hK,hP,hw]
 have a:=Paired.length f;refine⟨F.p,l,as,y,[],[],?_,v.live,?_,.inl ⟨rfl,rfl,rfl⟩,?_,?_⟩;.rw[LF,LF,Mb (Od a)]
 .rw[LF,Mb (Od a),i];exact f
 .rw[LF];exact g.1
 .rw[LF];refine M.wk g.2 λr j q=>?_;cases r with
  |own d=>exact q.elim|d d=>
   have q:qE F.toFb H k Q d j:=q;rw[i];exact q.ext u
end
section
variable{P:Le}{w:Ly}{K:K2}{mg:Li->Option KO}{base:Lx}
theorem Paired.Bz{b a:Type}{R:b->a->Prop}:∀{l:List b}{r:List a},Paired R l r->∀{i:Nat}{y:a},r[i]?=KJ y->∃x,l[i]?=KJ x/\R x y
 |_,_,.nil,i,y,e=>by simp at e|_,_,.cons h t,0,y,e=>by simp at e;subst e;exact⟨_,rfl,h⟩|_,_,.cons h t,i+1,y,e=>by simpa using Paired.Bz t (i:=i) (by simpa using e)
theorem Ext.Ib{B:Fb}{H:Hp}{k:Nat}{a:KY}(h:H a=KP){H':Hp}{c:Nat}(e:Ext B H k H' c)(d:a≠B.p):Ext B H k (era H' a) c where
 keep:=λb o hb q=>by
  have:b≠a:=λz=>by rw[z,h]at q;cases q
  rw[eT this];exact e.keep b o hb q
 live:=λl=>by rw[eT (LS d)];exact e.live l
 le:=e.le;bJ:=λq f=>by
  have m:q≠a:=λz=>by
   obtain⟨_,_,_,g,_⟩:=f;obtain⟨o,j⟩:=g.cs;rw[z,h]at j;cases j
  obtain⟨ns,i,r,⟨y,⟨o,x⟩,v,u,t,s⟩,n⟩:=e.bJ q f;exact⟨ns,i,r,⟨by rw[eT (LS d)];exact y,⟨o,by rw[eT m];exact x⟩,v,u,t,s⟩,n⟩
theorem Ext.back{B:Fb}{H:Hp}{k:Nat}{a:KY}(d:a≠B.p):Ext B (era H a) k H k where
 keep:=λb o hb q=>by
  have:b≠a:=λz=>by rw[z,jJ]at q;cases q
  rw[eT this]at q;exact q
 live:=λl=>by rw[eT (LS d)]at l;exact l
 le:=La _;bJ:=λq f=>by
  obtain⟨ns,i,r,⟨e,⟨o,c⟩,s,n,m,j⟩,h⟩:=f;have g:q≠a:=λz=>by rw[z,jJ]at c;cases c
  exact⟨ns,i,r,⟨by rw[eT (LS d)]at e;exact e,⟨o,by rw[eT g]at c;exact c⟩,s,n,m,j⟩,h⟩
theorem eU.ext{B:Fb}{H H0:Hp}{us:List V}{bs:List A}{k:Nat}(h:eU B H H0 us bs):Ext B H0 k H k:=by
 rcases h with⟨_,_,rfl⟩|⟨a,d,_,_,rfl,b,_⟩;.exact .refl
 .exact .back b
theorem eU.len{B:Fb}{H H0:Hp}{us:List V}{bs:List A}(h:eU B H H0 us bs):us.length=bs.length:=by rcases h with⟨rfl,rfl,_⟩|⟨a,d,rfl,rfl,_⟩<;>rfl
theorem eU.at_{B:Fb}{H H0:Hp}{us:List V}{bs:List A}(h:eU B H H0 us bs){j:Nat}{a:A}(e:bs[j]?=KJ a):j=0/\∃b d,a=.own d/\us[0]?=KJ (.ref b)/\b≠B.p/\H0 b=KP/\fN B H b d:=by
 rcases h with⟨rfl,rfl,_⟩|⟨b,d,rfl,rfl,rfl,f,c⟩;.simp at e
 .cases j with
  |zero=>cases e;exact⟨rfl,b,d,rfl,rfl,f,jJ,c⟩|succ j=>simp at e
theorem sX{B:Fb}{H H0:Hp}{k:Nat}{E:Xc->Nat->Prop}{N:List Li}{ws us:List V}{as bs:List A}(t:H0 B.p≠KP)(i:uK B H0 k ws as)(m:eU B H H0 us bs):cv ⟨B,H0,k,E,H0,k⟩ (d9 N (as++bs)) k (start N (ws++us)) H:=by
 have u:=Paired.length i;have q:=m.len;have ex:Ext B H0 k H k:=m.ext;have look:∀(j:Nat)(w:W),(d9 N (as++bs))[j]?=KJ (KJ w)->∃a,(as++bs)[j]?=KJ a/\w=a.w:=λj w e=>by
  unfold d9 at e;by_cases h:j<(as++bs).length
  .rw[L3 (by simpa using h),Lw]at e;cases f:(as++bs)[j]? with
   |none=>rw[f]at e;cases e|some a=>rw[f]at e;cases e;exact⟨a,rfl,rfl⟩
  .rw[LN (by simpa using h),NL]at e;split at e<;>cases e
 have val:∀(j:Nat)(v:V),(ws++us)[j]?=KJ v->(start N (ws++us))[j]?=KJ (KJ v):=λj v e=>by
  unfold start;rw[L3 (by have:=(List.getElem?_eq_some_iff.mp e).1;simpa using this),Lw,e];rfl
 have c:∀(j:Nat)(w:W),(d9 N (as++bs))[j]?=KJ (KJ w)->w.eR=KQ->j=as.length/\∃d,w=.own d:=λj w e o=>by
  obtain⟨a,f,rfl⟩:=look j w e;by_cases h:j<as.length
  .rw[L3 h]at f;obtain⟨v,_,g⟩:=Paired.Bz i f;cases a with
   |own d=>exact g.elim|_=>cases o
  .rw[LN (by omega)]at f;obtain⟨C,b,d,rfl,_⟩:=m.at_ f;exact⟨by omega,d,rfl⟩
 refine⟨by simp[d9,start,u,q],λj w e=>?_,λi j d e v n l g s r=>?_,λi j ks I w D G o=>?_,ex.live t,ex,ex.kp⟩
 .obtain⟨a,f,rfl⟩:=look j w e;by_cases h:j<as.length
  .rw[L3 h]at f;obtain⟨v,l,g⟩:=Paired.Bz i f;exact⟨v,val j v (by rw[L3 (by omega)];exact l),(DD.w (F:=⟨B,H0,k,E,H0,k⟩) g).mono ex⟩
  .rw[LN (by omega)]at f;obtain⟨C,b,d,rfl,l,g,y,x⟩:=m.at_ f;exact⟨.ref b,val j _ (by rw[LN (by omega),show j-ws.length=0 by omega];exact l),b,rfl,g,y,x⟩
 .exact absurd ((c i d l s).1.trans (c j e g r).1.symm) n
 .obtain⟨_,d,z⟩:=c i _ D rfl;cases z
theorem uE.Kj{x b:Li}{st:MU}{f:KY}{fd:Mo}{N ps:List Li}{n k:Nat}{m:List A->M Rs}(O:uE K x b st f fd)(S:cg N ps (ak st))(U:ps.length=n)(g:∀(c:KO)(o:LC)(outer:List Q8)(s:KW)(H H0:Hp)(p:KY)(k0:Nat),cM k (o.deeper (Qq b (ak st) s.heap.objs.size f c))->∃t,tY (kP pA P w K mg base N b (ak st) f c o outer s H E0).Dy ⟨⟨K,p,P,w⟩,H0,k0,λ_ _=>False,H0,k0⟩ (bR st) t/\∀(as:List A)(Q:Rs->Nat->Prop),as.length=n->(m as).run k0 Q (λ_ _=>False)->(t (d9 N as)).run k0 (EE Q) (λ_ _=>False)):dI P w K mg base pA (k+1) f fd ps (JN P w K n m):=by
 refine O.ok S (λC H Q E h=>?_) λc o outer s H C Q E I h=>?_
 .obtain⟨p,j,as,H0,D,bs,ev,_,i,r,y,_⟩:=h;have:=Paired.length i;have:=r.len;rw[ev,L5];rw[L5]at y;omega
 .obtain⟨p,j,as,H0,D,bs,ev,F,i,r,y,q⟩:=h;obtain⟨t,G,J⟩:=g c o outer s H H0 p j I;rw[ev];refine⟨_,G.ps,d9 N (as++bs),j,sX F i r,M.wk (J _ _ y q) λL T z=>?_⟩;cases L with
  |nx B=>exactλR l kp S=>z .bx l S.ext (by simp only[Is])|rt d=>exactλv l e i=>z v l e i|ro d=>exactλa l e u=>z a l e u.2.1 u.1 u.2.2|bk B=>exact z.elim|ct B=>exact z.elim
end
section
variable{F:Fx}{ρ:ah}{σ:St}{H H':Hp}{k k':Nat}
theorem cv.set{v:V}{d:D}(S:cv F ρ k σ H)(i:Nat)(h:Is F.toFb H v d):cv F (ρ.set i (KJ (.d d))) k (σ.set i (KJ v)) H where
 len:=by simp[S.len]
 at_:=λj x e=>by
  rw[Mn]at e⊢;by_cases n:i=j
  .subst n;rw[if_pos rfl]at e⊢;split at e
   .rename_i p;cases e;rw[if_pos (by rw[<-S.len];exact p)];exact⟨v,rfl,h⟩
   .cases e
  .rw[if_neg n]at e⊢;exact S.at_ j x e
 apart:=λf c x y u g b a m l s1=>by
  rw[Mn]at b a s1⊢;have n1:i≠f:=by
   rintro rfl;rw[if_pos rfl]at b;split at b;.cases b;cases m
   .cases b
  have n2:i≠c:=by
   rintro rfl;rw[if_pos rfl]at a;split at a;.cases a;cases l
   .cases a
  rw[if_neg n1]at b s1;rw[if_neg n2]at a⊢;exact S.apart f c x y u g b a m l s1
 alone:=λf c ks q w b a o=>by
  rw[Mn]at b a;have n1:i≠f:=by
   rintro rfl;rw[if_pos rfl]at b;split at b;.cases b
   .cases b
  have n2:i≠c:=by
   rintro rfl;rw[if_pos rfl]at a;split at a;.cases a;cases o
   .cases a
  rw[if_neg n1]at b;rw[if_neg n2]at a;exact S.alone f c ks q w b a o
 live:=S.live;ext:=S.ext;xP:=S.xP
end
noncomputable def Ic(F:Fx)(t:D->ah->M ah):TG:=λv g H Q=>∃e k d,cv F e k g H/\Is F.toFb H v d/\(t d e).run k (λb f=>∀a c,Ext F.toFb H k c f->cv F b f a c->Q a c) F.E
noncomputable def Ie(F:Fx)(t:List D->ah->M ah):xw:=λh g H Q=>∃d k f,cv F d k g H/\ab F.toFb H h f/\(t f d).run k (λb e=>∀a c,Ext F.toFb H k c e->cv F b e a c->Q a c) F.E
structure DG(X:Cx)(F:Fx)(tg:K_)(t:D->ah->M ah):Prop where
 hK:X.K=F.K
 pg:PG X tg (Ic F t)
structure xZ(X:Cx)(F:Fx)(tgs:List K_)(t:List D->ah->M ah):Prop where
 hK:X.K=F.K
 pg:zF X tgs (Ie F t)
section
variable{X:Cx}{F:Fx}{a b c e tg:K_}{es tgs:List K_}{pos:MB}{ta tb tc:ah->M D}{tas:ah->M (List A)}{g:D->ah->M ah}{gs:List D->ah->M ah}
theorem PG.imp{t t':TG}(h:PG X tg t)(q:∀v d H Q,t' v d H Q->t v d H Q):PG X tg t':=λf s d H v u Q I r z=>h f s d H v u Q I r (q v d H Q z)
theorem zF.imp{t t':xw}(h:zF X tgs t)(q:∀v d H Q,t' v d H Q->t v d H Q):zF X tgs t':=λf s d H v u Q I r z=>h f s d H v u Q I r (q v d H Q z)
noncomputable def gN(i:Nat)(d:D)(ρ:ah):M ah:=pure (ρ.set i (KJ (.d d)))
theorem x8(i:Nat){x:Li}{pos:MB}(hN:X.N.Nodup)(l:X.N[i]?=KJ x:=by rfl)(j:Loc X.env.scope x:=by first|exact OO rfl|exact Pq rfl)(m:X.fn x=KQ\/X.env.scope.names.lookup x=KJ .local:=by first|exact OO rfl|exact Pq rfl)(hK:X.K=F.K:=by rfl):DG X F (.Name x pos) (gN i):=⟨hK,(mh (i:=i) hN l j m).imp λv n H Q⟨o,k,d,S,f,h⟩=>h _ H .refl (S.set i f)⟩
noncomputable def EF:List D->ah->M ah
 |[],d=>pure d|_::_,_=>M.fail
noncomputable def BA(g:D->ah->M ah)(gs:List D->ah->M ah):List D->ah->M ah
 |[],_=>M.fail|d::h,f=>do gs h (<-g d f)
theorem x9(hK:X.K=F.K:=by rfl):xZ X F [] EF:=⟨hK,xx.imp λv l H Q f=>by
 obtain⟨m,k,j,S,i,h⟩:=f;cases j with
 |nil=>simp only[ab]at i;exact⟨i,h l H .refl S⟩|cons d j=>exact h.elim⟩
theorem uW(m:DG X F e g)(B:xZ X F es gs)(y:(Ma (e::es) X.env).map (·.2)=PX e X.env::(Ma es X.env).map (·.2):=by rfl):xZ X F (e::es) (BA g gs):=by
 refine⟨m.hK,(uf m.pg B.pg y).imp λv J H Q⟨r,k,l,S,i,h⟩=>?_⟩;cases l with
 |nil=>exact h.elim|cons d l=>
  simp only[ab]at i;obtain⟨x,s,rfl,w,u⟩:=i;refine⟨x,s,rfl,r,k,d,S,w,M.wk h λj t q o L n G=>?_⟩;exact⟨j,t,l,G,u.mono n.kp,M.wk q λp K z f I C E=>z f I (n.trans C) E⟩
noncomputable def gT(n:Nat)(gs:List D->ah->M ah):D->ah->M ah
 |.tup d,f=>do M.need (d.length=n);gs d f|_,_=>M.fail
theorem BB{n:Nat}{j:Nat}(s:X.calm=KQ)(h:xZ X F es gs)(r:(Ma es X.env).length=n:=by rfl)(l:(Ma es X.env).findIdx? (·.1)=KP:=by rfl):DG X F (.Tuple es j pos) (gT n gs):=⟨h.hK,(Az s h.pg r l).imp λv w H Q f=>by
  obtain⟨p,k,d,S,i,m⟩:=f;cases d with
  |tup u=>
   simp only[Is]at i;obtain⟨a,q,rfl,t,o⟩:=i;exact⟨a,q,rfl,by rw[h.hK];exact t.2,by rw[o.length];exact m.1,p,k,u,S,o,m.2⟩|_=>exact m.elim⟩
theorem BC(m:DE X F e ta)(s:DG X F tg g)(r:PZ [tg] e pos.line X.env=pure KR:=by rfl)(hw:MZ [tg] e X.env=pure KP:=by rfl)(l:(Ma [tg] X.env).map (·.2)=[PX tg X.env]:=by rfl):DS X F (.Assign [tg] e pos) (λρ=>do let d<-ta ρ;let i<-g d ρ;pure (.nx i)):=⟨m.hK,(mi m.pe s.pg r hw l).imp λZ z H j=>by
  obtain⟨ρ,k,S,h⟩:=j;refine cF.next S h λd o v C u x p l=>?_;exact⟨ρ,o,d,x,p,M.wk l λn B q f y t w=>q f y (u.trans t).kp w⟩⟩
theorem BD(i:Nat){x:Li}{f:MB}(hN:X.N.Nodup)(l:DE X F e ta)(p:X.N[i]?=KJ x:=by rfl)(n:Loc X.env.scope x:=by first|exact OO rfl|exact Pq rfl)(o:N0 e (KJ (.Name x f)) pos.line X.env=pure KR:=by rfl)(q:X.fn x=KQ\/X.env.scope.names.lookup x=KJ .local:=by first|exact .inl rfl|exact .inr rfl):DS X F (.Assign [.Name x f] e pos) (λρ=>do let d<-ta ρ;pure (.nx (ρ.set i (KJ (.d d))))):=⟨l.hK,(cD (i:=i) hN p n l.pe o q).imp λZ w H j=>by
  obtain⟨ρ,k,S,h⟩:=j;refine cF.next S h λd y v u s t m r=>?_;exact r _ u s.kp (t.set i m)⟩
theorem BE(i j:Nat){x y:Li}{p o pt:MB}{kt k2 pt2}(J:X.calm=KQ)(hN:X.N.Nodup)(ha:DA X F [a,b] tas)(s:i≠j)(n:∀{ta:TA},PA X [a,b] ta->PS X (.Assign [.Tuple [.Name x p,.Name y o] kt pt] (.Tuple [a,b] k2 pt2) pos) (D_ i j ta)):DS X F (.Assign [.Tuple [.Name x p,.Name y o] kt pt] (.Tuple [a,b] k2 pt2) pos) (λρ=>do match<-gx (<-tas ρ)with
   |[d,e]=>pure (.nx ((ρ.set i (KJ (.d d))).set j (KJ (.d e))))|_=>M.fail):=⟨ha.hK,(n ha.pa).imp λZ E H l=>by
  obtain⟨ρ,k,S,h⟩:=l;refine pB.next S h λK I G C w B m t=>?_;obtain⟨z,rfl,f⟩:=bT t;match z,f,m with
  |[d,e],f,m=>
   obtain⟨v,u,rfl,r,q⟩:=(bU m).two;exact⟨v,u,rfl,f _ C w.kp ((B.set i r).set j q)⟩|[],f,_=>exact f.elim|[_],f,_=>exact f.elim|_::_::_::_,f,_=>exact f.elim⟩
theorem BF(i:DE X F e ta):DS X F (.Return (KJ e) pos) (λρ=>do let d<-ta ρ;pure (.rt d)):=⟨i.hK,(fQ i.pe).imp λZ o H f=>by
  obtain⟨ρ,k,S,h⟩:=f;refine cF.next S h λd p v n q m j l=>?_;exact l v n m.ext j⟩
variable{st:MU}{sts sts':List MU}{t u:ah->M Fl}{tA:ah->M Bool}
noncomputable def Ig(t u:ah->M Fl)(ρ:ah):M Fl:=do match<-t ρ with
 |.nx d=>u d|f=>pure f
theorem x_(hK:X.K=F.K:=by rfl):tY X F [] (λρ=>pure (.nx ρ)):=⟨hK,jg.imp λZ d H⟨ρ,k,S,h⟩=>h d H .refl S⟩
theorem uX(j:DS X F st t)(o:tY X F sts u):tY X F (st::sts) (Ig t u):=⟨j.hK,(a_ j.ps o.ps).imp λZ w H i=>by
  obtain⟨m,k,S,h⟩:=i;refine⟨m,k,S,M.wk h λr n q=>?_⟩;cases r with
  |nx f=>exactλl y s v=>⟨f,n,v,M.wk q λp x z=>z.mono s⟩|rt d=>exact q|ro d=>exact q|bk f=>exact q|ct f=>exact q⟩
theorem EG{m:K_}(i:DT X F m tA)(ha:tY X F sts t)(hb:tY X F sts' u):DS X F (.If m sts sts' pos) (λρ=>do let b<-tA ρ;if b then t ρ else u ρ):=⟨i.hK,(qU i.pt ha.ps hb.ps).imp λZ q H d=>by
  obtain⟨ρ,k,S,h⟩:=d;refine pP.next S h λb f r l n j=>?_;cases b with
  |true=>exact⟨ρ,f,n,M.wk j λp o z=>z.mono l.kp⟩|false=>exact⟨ρ,f,n,M.wk j λp o z=>z.mono l.kp⟩⟩
structure sY(F:Fb)(J:It)(ds:List D)(H0:Hp)(k0:Nat):Prop where
 step:∀(i:Nat)(d:D)(H:Hp)(k:Nat),ds[i]?=KJ d->Kp F H0 k0 H k->H F.p≠KP->J.go i H/\∀x H',J.GG i H x H'->Ext F H k H' k/\Is F H' x d
 stop:∀(H:Hp)(k:Nat),Kp F H0 k0 H k->H F.p≠KP->J.stop ds.length H
 len:ds.length<=KZ
noncomputable def Ih(F:Fx)(t:ah->M (List D)):TI:=λi H R=>∃f k,cv F f k i H/\(t f).run k (λj h=>∀J d,Ext F.toFb H k d h->sY F.toFb J j d h->R J d) F.E
structure DI(X:Cx)(F:Fx)(tg iter:K_)(t:ah->M (List D)):Prop where
 hK:X.K=F.K
 pi:PI X tg iter (Ih F t)
noncomputable def sZ(g:D->ah->M ah)(body:ah->M Fl):List D->ah->M Fl
 |[],i=>pure (.nx i)|d::j,i=>do
  let h<-g d i;match<-body h with
  |.nx f=>sZ g body j f|.ct f=>sZ g body j f|.bk f=>pure (.nx f)|.rt r=>pure (.rt r)|.ro _=>M.fail
theorem mz{d:Type}{l:List d}{i:Nat}(h:i<l.length):∃x,l[i]?=KJ x/\l.drop i=x::l.drop (i+1):=⟨l[i],Lp h,Nu h⟩
theorem BG{iter:K_}{tI:ah->M (List D)}(hp:P5 (K7 X.prog X.w) X.A X.env X.xe)(hc:X.calm=KQ)(hi:DI X F tg iter tI)(hg:DG X F tg g)(hb:tY X F sts t)(hs:∀x,Nx iter X.env x=pure x:=by intro _;rfl):DS X F (.For tg iter sts [] pos) (λρ=>do sZ g t (<-tI ρ) ρ):=⟨hi.hK,(AF hp hc hi.pi hg.pg hb.ps hs).imp λZ σ H R=>by
  obtain⟨ρ,k,S,h⟩:=R;refine⟨ρ,k,S,M.wk h λl N q J H1 V it=>?_⟩;refine⟨λi m o v=>m=l.length-i/\i<=l.length/\∃j p,cv F j p o v/\Kp F.toFb H1 N v p/\(sZ g t (l.drop i) j).run p (rj F Z H k) F.E,⟨l.length,rfl,Mr _,ρ,N,S.mono V,.refl,q⟩,?_⟩;rintro i m o v⟨rfl,a2,j,p,P,O,L⟩;by_cases G:i<l.length
  .obtain⟨d,hd,U⟩:=mz G;rw[U]at L;obtain⟨go,yl⟩:=it.step i d v p hd O P.live;refine .inr ⟨go,λz Y=>∃B T,cv F B T z Y/\Kp F.toFb H1 N Y T/\(sZ g t (l.drop (i+1)) B).run T (rj F Z H k) F.E,λz Y h3=>⟨l.length-(i+1),by omega,rfl,G,h3⟩,λx H' y=>?_⟩;obtain⟨e3,i3⟩:=yl x H' y;refine⟨j,p,d,P.mono e3,i3,M.wk L λQ k4 q4 a0 H4 e4 S4=>?_⟩;have s:Kp F.toFb H1 N H4 k4:=O.trans (e3.trans e4).kp;refine⟨Q,k4,S4,M.wk q4 λfl k5 C=>?_⟩;cases fl with
   |nx f=>exactλn W I K=>⟨f,k5,K,s.trans I,C⟩|ct f=>exactλn W I K=>⟨f,k5,K,s.trans I,C⟩|bk f=>exactλn W I K=>C n W ((V.kp.trans s).trans I) K|rt r=>exact C|ro d=>exact C.elim
  .have e:i=l.length:=by omega
   subst e;rw[Qe]at L;exact .inl ⟨it.stop v p O P.live,L o v (V.kp.trans O) P⟩⟩
noncomputable def d_(c:ah->M Bool)(body:ah->M Fl):Nat->ah->M Fl
 |0,_=>M.fail|n+1,f=>do
  let b<-c f;if b then do match<-body f with
   |.nx d=>d_ c body n d|.ct d=>d_ c body n d|.bk d=>pure (.nx d)|.rt r=>pure (.rt r)|.ro _=>M.fail;else pure (.nx f)
noncomputable def BH(c:ah->M Bool)(body:ah->M Fl)(ρ:ah):M Fl:=⟨λk Q E=>∃n,(d_ c body n ρ).run k Q E,λ⟨n,h⟩q e=>⟨n,(d_ c body n ρ).mono h q e⟩⟩
theorem uY{R:K_}(W:P5 (K7 X.prog X.w) X.A X.env X.xe)(O:DT X F R tA)(hb:tY X F sts t):DS X F (.While R sts [] pos) (BH tA t):=⟨O.hK,(ug W O.pt hb.ps).imp λZ σ H z=>by
  obtain⟨V,k,S,n,h⟩:=z;refine⟨λm l I=>∃i y,cv F i y l I/\Kp F.toFb H k I y/\(d_ tA t m i).run y (rj F Z H k) F.E,⟨n,V,k,S,.refl,h⟩,?_⟩;rintro m l I⟨i,y,S2,Q,K⟩;cases m with
  |zero=>exact K.elim|succ m=>
   refine pP.next S2 K λb N U P T J=>?_;cases b with
   |false=>exact J l U (Q.trans P.kp) T|true=>
    refine⟨λp G=>∃q B,cv F q B p G/\Kp F.toFb H k G B/\(d_ tA t m q).run B (rj F Z H k) F.E,λp G Y=>⟨m,Qb _,Y⟩,i,N,T,M.wk J λfl L s=>?_⟩;have o:Kp F.toFb H k U N:=Q.trans P.kp;cases fl with
    |nx f=>exactλj C v x=>⟨f,L,x,o.trans v,s⟩|ct f=>exactλj C v x=>⟨f,L,x,o.trans v,s⟩|bk f=>exactλj C v x=>s j C (o.trans v) x|rt r=>exact s|ro d=>exact s.elim⟩
theorem PI.imp{iter:K_}{t t':TI}(h:PI X tg iter t)(q:∀d H R,t' d H R->t d H R):PI X tg iter t':=λf s d H R I z=>h f s d H R I (q d H R z)
noncomputable def BJ{h:Type}(f:D->M h):List D->M h
 |[d]=>f d|_=>M.fail
theorem nL{i:Type}{f:D->M i}{ds:List D}{k Q E}(h:(BJ f ds).run k Q E):∃d,ds=[d]/\(f d).run k Q E:=by match ds,h with|[d],h=>exact⟨d,rfl,h⟩
noncomputable def aC(n:Nat):List D:=(L4 n).map λ(i:Nat)=>D.int (i:Int)
noncomputable def BK(d:D):M (List D):=do
 let j<-dm d;M.need (-(2^62)<=j/\j<=1000000)pure (aC j.toNat)
theorem s9{p:MB}(B:X.mg "range"=KP)(ha:DA X F [a] tas)(C:Gl X "range":=by rfl)(z:Lg [a] X.env=[(KR,MW a X.env)]:=by rfl):DI X F tg (.Call (.Name "range" p) [a] [] pos) (λρ=>do BJ BK (<-gx (<-tas ρ))):=⟨ha.hK,(sL C B ha.pa z).imp λO H R m=>by
  obtain⟨ρ,k,S,h⟩:=m;refine pB.next S h λV T P N K W w I=>?_;obtain⟨U,rfl,G⟩:=bT I;obtain⟨d,rfl,E⟩:=nL G;obtain⟨j,rfl,l⟩:=ba.mp E;obtain⟨v,rfl,q⟩:=(bU w).one;simp only[Is]at q;subst q;refine⟨j,rfl,l.1.1,Int.lt_of_le_of_lt l.1.2 (by decide),l.2 _ N K ⟨λi d L s hd J Q=>?_,λL s J _=>?_,?_⟩⟩
  .unfold aC at hd;rw[Lw]at hd;cases o:(L4 j.toNat)[i]? with
   |none=>rw[o]at hd;cases hd|some n=>
    rw[o]at hd;cases hd;obtain⟨f,r⟩:=List.getElem?_eq_some_iff.mp o;rw[List.getElem_range]at r;subst r;rw[PN]at f;refine⟨f,λx Y y=>?_⟩;obtain⟨rfl,rfl⟩:=y;exact⟨.refl,by simp only[Is];simp⟩
  .show j.toNat<=_;simp[aC]
  .have:=l.1.2;simp only[aC,Lv,PN,N8];omega⟩
theorem uZ{B:Fb}{H:Hp}{k:Nat}{a:KY}{f:List V}{ds:List D}(h:LstAt B H a f)(i:ab B H f ds)(q:f.length<=KZ):sY B (JJ B.K a) ds H k where
 step:=λj d o p hd e l=>by
  obtain⟨x,n,r⟩:=(i.mono e).get hd;have m:dF B.K o a f:=(h.mono e).2.sq;refine⟨⟨f,x,m,n⟩,λy s z=>?_⟩;obtain⟨rfl,z⟩:=z;have:=z f m;rw[n]at this;cases this;exact⟨.refl,r⟩
 stop:=λo p e l=>⟨f,(h.mono e).2.sq,Od i.length⟩;len:=by rw[<-i.length];exact q
theorem u7{B:Fb}{H:Hp}{k:Nat}{a:KY}{f:List V}{ds:List D}(h:TupAt B H a f)(i:ab B H f ds)(p:f.length<=KZ):sY B (JK B.K a) ds H k where
 step:=λj d r o hd e l=>by
  obtain⟨x,n,q⟩:=(i.mono e).get hd;have m:=(h.mono e).2;refine⟨⟨f,x,m,n⟩,λy s z=>?_⟩;obtain⟨rfl,z⟩:=z;have:=z f m;rw[n]at this;cases this;exact⟨.refl,q⟩
 stop:=λr o e l=>⟨f,(h.mono e).2,Od i.length⟩;len:=by rw[<-i.length];exact p
end
noncomputable def lD(outer a:MT):Bool:=(a.kind==.function)&&a.names.all λy=>((y.2 !=.cell)||(a.names.lookup y.1==KJ .cell))&&((y.2 !=.local)||(a.names.lookup y.1==KJ .local))&&((y.2 !=.free)||(outer.names.lookup y.1==KJ .cell)||(outer.names.lookup y.1==KJ .free))
noncomputable def pV(env:Q8)(y:Li×Nn)(cs:List (Li×KY)):Py (ForInStep (List (Li×KY))):=do if y.2==.free then pure (ME ((y.1,<-cellOf env y.1)::cs))else pure (ME cs)
theorem pW{a:MT}{env:Q8}{b:List (Li×KY)}(h:forIn a.names [] (pV env)=(pure b:Py _)):SG a env=pure b:=by
 have e:SG a env=(forIn a.names [] (pV env)>>=λs=>pure s):=rfl;rw[e,h];rfl
theorem pX{env:Q8}:∀(names:List (Li×Nn)),(∀y∈names,y.2=.free->∃c,env.cells.lookup y.1=KJ c)->∀a:List (Li×KY),(∀x c,a.lookup x=KJ c->env.cells.lookup x=KJ c)->∃f,forIn names a (pV env)=(pure f:Py _)/\(∀x c,f.lookup x=KJ c->env.cells.lookup x=KJ c)/\(∀x c,a.lookup x=KJ c->∃b,f.lookup x=KJ b)/\∀y∈names,y.2=.free->∃c,f.lookup y.1=KJ c
 |[],_,a,ha=>⟨a,rfl,ha,λx c e=>⟨c,e⟩,λy d=>nomatch d⟩|(n,h)::r,l,a,ha=>by
  by_cases m:h=.free
  .subst m;obtain⟨c,t⟩:=l (n,.free) K5 rfl;have o:∀x b,((n,c)::a).lookup x=KJ b->env.cells.lookup x=KJ b:=λx b e=>by
    rw[LJ]at e;cases i:x==n with
    |true=>
     rw[i]at e;cases e;rw[beq_iff_eq.mp i];exact t|false=>
     rw[i]at e;exact ha x b e
   obtain⟨f,s,q,k,p⟩:=pX r (λy d=>l y (K4 _ d)) ((n,c)::a) o;have keep:∀x b,a.lookup x=KJ b->∃g,((n,c)::a).lookup x=KJ g:=λx b e=>by
    rw[LJ];cases i:x==n with
    |true=>exact⟨c,rfl⟩|false=>exact⟨b,e⟩
   refine⟨f,?_,q,λx b e=>?_,λy d j=>?_⟩
   .rw[NZ];have e:pV env (n,.free) a=(pure (ME ((n,c)::a)):Py _):=by
     unfold pV cellOf;rw[t];rfl
    rw[e];exact s
   .obtain⟨g,u⟩:=keep x b e;exact k x g u
   .rcases List.mem_cons.mp d with z|z
    .subst z;exact k n c (by rw[LJ,beq_self_eq_true])
    .exact p y z j
  .obtain⟨f,s,q,k,p⟩:=pX r (λy d=>l y (K4 _ d)) a ha;refine⟨f,?_,q,k,λy d j=>?_⟩
   .rw[NZ];have e:pV env (n,h) a=(pure (ME a):Py _):=by
     unfold pV;have:(h==Ms)=KR:=by cases h<;>first|rfl|exact absurd rfl m
     rw[this];rfl
    rw[e];exact s
   .rcases List.mem_cons.mp d with z|z
    .subst z;exact absurd j m
    .exact p y z j
theorem u9{X:Cx}(ok:X.Ok){a:MT}(h:lD X.env.scope a=KQ):∃g,GJ X a g:=by
 unfold lD at h;rw[K0,Mh]at h;obtain⟨i,ha⟩:=h;have b:∀y∈a.names,y.2=.free->X.env.kindOf y.1=KJ .cell\/X.env.kindOf y.1=KJ .free:=λy d f=>by
  have:=ha y d;simp only[K0,Mf,bne_iff_ne,beq_iff_eq,ne_eq]at this;rcases this.2 with(z|z)|z;.exact absurd f z
  .exact .inl z
  .exact .inr z
 obtain⟨g,l,k,m,j⟩:=pX (env:=X.env) a.names (λy d f=>ok.has y.1 (b y d f)) [] (λx c e=>nomatch e);refine⟨g,pW l,k,λx e=>⟨j (x,.free) (My e) rfl,b (x,.free) (My e) rfl⟩,beq_iff_eq.mp i,λy d z=>?_,λy d z=>?_⟩
 .have:=ha y d;rw[z]at this;simpa using this
 .have:=ha y d;rw[z]at this;simpa using this
noncomputable def cQ(ρ:ah)(n:Nat)(a:List Nat):ah:=Mp n KP++a.map λj=>(ρ[j]?).join
theorem gy{ρ:ah}{n:Nat}{a:List Nat}{i:Nat}{w:W}(h:(cQ ρ n a)[i]?=KJ (KJ w)):n<=i/\∃j,a[i-n]?=KJ j/\ρ[j]?=KJ (KJ w):=by
 unfold cQ at h;by_cases b:i<n
 .rw[L3 (by simpa using b),NL,if_pos b]at h;cases h
 .rw[LN (by simpa using b),MV,Lw]at h;refine⟨by omega,?_⟩;cases d:a[i-n]? with
  |none=>rw[d]at h;cases h|some j=>
   rw[d]at h;refine⟨j,rfl,?_⟩;have h:(ρ[j]?).join=KJ w:=K1 h;cases c:ρ[j]? with
   |none=>rw[c]at h;cases h|some o=>
    rw[c]at h;have h:o=KJ w:=h;rw[h]
theorem dq{a:St}{n:Nat}{b:List Nat}{i j:Nat}{v:V}(d:n<=i)(c:b[i-n]?=KJ j)(h:a[j]?=KJ (KJ v)):(aP a n b)[i]?=KJ (KJ v):=by
 unfold aP;rw[LN (by simpa using d),MV,Lw,c];show KJ ((a[j]?).join)=_;rw[h];rfl
theorem cv.eQ{F:Fx}{ρ:ah}{k:Nat}{x:St}{H:Hp}(S:cv F ρ k x H)(n:Nat){p:List Nat}(A:p.Nodup):cv F (cQ ρ n p) k (aP x n p) H where
 len:=by simp[cQ,aP]
 at_:=λi w e=>by
  obtain⟨l,j,c,d⟩:=gy e;obtain⟨v,m,B⟩:=S.at_ j w d;exact⟨v,dq l c m,B⟩
 apart:=λi q w y v r e t o D s1 s2=>by
  obtain⟨l,j,c,d⟩:=gy e;obtain⟨g,f,a,b⟩:=gy t;obtain⟨u,m,B⟩:=S.at_ j w d;obtain⟨I,h,E⟩:=S.at_ f y b;have a1:=dq l c m;have C:=dq g a h;rw[s1]at a1;rw[s2]at C;cases a1;cases C;have s:j≠f:=λz=>by
   subst z;have:i-n=q-n:=(R9 (List.getElem?_eq_some_iff.mp c).1 A).mp (c.trans a.symm);exact r (by omega)
  exact S.apart j f w y v s d b o D m h
 alone:=λi q ks G w e t o=>by
  obtain⟨l,j,c,d⟩:=gy e;obtain⟨g,f,a,b⟩:=gy t;have z:=S.alone j f ks G w d b o;rw[z]at a;have:i-n=q-n:=(R9 (List.getElem?_eq_some_iff.mp c).1 A).mp (c.trans a.symm);omega
 live:=S.live;ext:=S.ext;xP:=S.xP
structure pY(X:Cx)(F:Fx)(ifs:List K_)(t:ah->M Bool):Prop where
 hK:X.K=F.K
 pi:uF X ifs (pP F t)
section
variable{X:Cx}{F:Fx}{elt tg iter c:K_}{ifs:List K_}{pos:MB}{scope:MT}{own fr:List Li}{js:List Nat}{g:D->ah->M ah}{tc:ah->M Bool}{te:ah->M D}{tI:ah->M (List D)}
theorem u_(hK:X.K=F.K:=by rfl):pY X F [] (λ_=>pure KQ):=⟨hK,λa s b H Q I⟨d,k,S,h⟩=>nG a s b H Q I (h H .refl)⟩
theorem va(h:DT X F c tc):pY X F [c] tc:=⟨h.hK,uG h.pt⟩
noncomputable def lE(g:D->ah->M ah)(tc:ah->M Bool)(te:ah->M D):List D->ah->M (List D)
 |[],_=>pure []|d::e,f=>do
  let a<-g d f;let b<-tc a;if b then do
   let x<-te a;let r<-lE g tc te e a;pure (x::r)else lE g tc te e a
theorem ya{L:St}{ρ:ah}{A:Hp}{t:Nat}{J:It}{ds:List D}{Q:List D->Nat->Prop}{U:List V->St->Hp->Prop}(it:sY F.toFb J ds A t)(S:cv F ρ t L A)(h:(lE g tc te ds ρ).run t Q F.E)(q:∀G xs C H' B,Ext F.toFb A t H' B->ab F.toFb H' G xs->Q xs B->G.length<=KZ->U G C H'):uH J (Ic F g) (pP F tc) (g0 (cF F te)) L A [] U:=by
 refine⟨λi m k n l=>m=ds.length-i/\i<=ds.length/\k.length<=i/\∃f a s,cv F f a n l/\Ext F.toFb A t l a/\ab F.toFb l k s/\(lE g tc te (ds.drop i) f).run a (λr B=>Q (s++r) B) F.E,⟨ds.length,rfl,Mr _,La _,ρ,t,[],S,.refl,.nil,h⟩,?_⟩;rintro i m k n l⟨rfl,a0,a2,f,a,s,K,w,H,o⟩;by_cases p:i<ds.length
 .obtain⟨d,hd,I⟩:=mz p;rw[I]at o;obtain⟨go,Y⟩:=it.step i d l a hd w.kp K.live;refine .inr ⟨go,λx H3 y=>?_⟩;obtain⟨R,i3⟩:=Y x H3 y;refine⟨f,a,d,K.mono R,i3,M.wk o λu k4 q4 W H4 e4 S4=>?_⟩;refine pP.next S4 q4 λb O H5 e5 T N=>?_;have j:Ext F.toFb l a H5 O:=(R.trans e4).trans e5;cases b with
  |false=>exact⟨ds.length-(i+1),by omega,rfl,p,by omega,u,O,s,T,w.trans j,H.mono j.kp,N⟩|true=>
   rw[if_pos rfl];refine cF.next T N λZ k6 v H6 P S6 i6 q6=>?_;have hz:=it.len;refine⟨by omega,ds.length-(i+1),by omega,rfl,p,by simp;omega,u,k6,s++[Z],S6,w.trans (j.trans P),(H.mono (j.trans P).kp).append (.cons i6 .nil),M.wk q6 λr k7 z=>?_⟩;rw[LB];exact z
 .have e:i=ds.length:=by omega
  subst e;rw[Qe]at o;have o:Q (s++[]) a:=o;rw[LF]at o;exact .inl ⟨it.stop l a w.kp K.live,q k s n l a w H o (by have:=it.len;omega)⟩
end
noncomputable def vb(e:K_)(d:Nat):Prop:=∀{prog:Le}{w:Ly}{A:LC}{R:Result->KW->Prop}{s:KW}{f a:KO}{env:Q8},codeAny (K7 prog w) A (.compLoop e d f a env) R s->wpAny (K7 prog w) A (Sg f) (λc b=>codeAny (K7 prog w) A (.compLoop e d c a env) R b) (notedBy (K7 prog w) A env λx b=>R (.error x) b) s->codeAny (K7 prog w) A (.compStart e d f a env) R s
noncomputable def vc{c:Type}(n:Nat)(h:List Nat)(f:TI)(g:TG)(b:TT)(rd:RB c)(a0:c)(o:c->HO):TE:=λd H Q=>f d H λJ i=>uH J g b rd (aP d n h) i a0 λa _ e=>∀p,e p=KP->(p==Mx)=KR->Q (.ref p) (upd e p (o a))
inductive Ii(X:Cx)(pins:List (KY×Mc))(σ:St)(Q:VK)(D C:KY)(s':KW):Prop where|mk(H':Hp)(I:Inv X pins σ H' s')(q:Q (.ref D) H')(n:H' C=KP)(l:C≠X.env.locals)(f:C∉X.fs)(c:∀y c,X.env.cells.lookup y=KJ c->c≠C)(p:∀p∈X.pn++pins,p.1≠C)(z:X.b7.heap.objs.size<=C)(m':Li->Option KO)(hn:s'.heap.Ns C m')
noncomputable def nM(X:Cx)(cmp:Option (KO->Py Unit)->Py KO)(t:TE):Prop:=∀(b:Option (KO->Py Unit))(e:KO->KW->Prop)(a:List (KY×Mc))(s:KW)(c:St)(H:Hp)(Q:VK),Inv X a c H s->t c H Q->(∀D C d,Ii X a c Q D C d->compPost (K7 X.prog X.w) X.A X.xe b e (.ref D) C (.ok .next) d)->wpAny (K7 X.prog X.w) X.A (cmp b) e X.xe s
theorem nM.pe{X:Cx}{cmp:Option (KO->Py Unit)->Py KO}{t:TE}{e:K_}(w:nM X cmp t)(d:MW e X.env=cmp KP):PE X e t:=by
 intro a s g H Q I h;rw[d];refine w _ _ a s g H Q I h λD C i z=>?_;obtain⟨o,I,q,n,l,f,c,p,z,j,m⟩:=z;exact⟨j,m,λr k=>⟨.ref D,o,I.turned (t':=i.toks) (it:=C) (λb ob hb e=>(k.2 b hb).trans e) n l (.inr z) c p,rfl,q⟩⟩
theorem lF{X:Cx}{Z:Type}{e tg iter:K_}{ifs:List K_}{rest:List RE}{f:MT}{pos:MB}{cl:List (Li×KY)}{own fr:List Li}{js:List Nat}{wi:TI}{g:TG}{M:TT}{rd:RB Z}{ok:Z->Mc->Prop}{a0:Z}{ob0:Mc}{o:Z->HO}{newAcc:Py KO}{body:KY->Q8->Py Unit}(S:X.calm=KQ)(c:GJ X f cl)(hj:js.map (λj=>X.N[j]?)=fr.map KJ)(e5:∀x∈fr,f.names.lookup x=KJ .free)(hw:PI X tg iter wi)(b3:clausesOf e=⟨tg,iter,ifs,0⟩::rest)(d4:vb e 0)(a8:∀{Q:KO->KW->Prop}{s:KW},Q (.ref s.heap.objs.size) {s with heap:=s.heap.push ob0}->wpAny (K7 X.prog X.w) X.A newAcc Q X.xe s)(e3:∀a ob v,ok a ob->ob.data≠.cell v)(a4:ok a0 ob0)(e0:ob0.data≠.freed)(b2:∀it D env,(K7 X.prog X.w).den (.compLoop e 0 (.ref it) (.ref D) env)=(SH e 0 (.ref it) (.ref D) env).onRaise (λx=>do noteFrame x env;theTreesLotGoes x))(a6:∀it D env,X.A.under (.compLoop e 0 (.ref it) (.ref D) env)=X.A)(e6:∀it D env,SH e 0 (.ref it) (.ref D) env=(do
   Rp iter.pos;match<-N4 (.ref it)with
   |none=>pure (.done .next)|some v=>
    Oy tg (.ref it) v;PX tg env v;let mut ok:=KQ;for c in ifs do if ok then ok<-RI c env (MW c env)
    if ok then body D env
    SV (.compLoop e 0 (.ref it) (.ref D) env)))(hg:∀i cs C fp s H,PG (eQ X i f (own++fr) cs C fp s H) tg g)(hi:∀i cs C fp s H,uF (eQ X i f (own++fr) cs C fp s H) ifs M)(hb:∀i cs C fp s H D,HV (eQ X i f (own++fr) cs C fp s H) D->Body (eQ X i f (own++fr) cs C fp s H) ok D (body D (eQ X i f (own++fr) cs C fp s H).env) rd)(b0:∀(a:Z)(ob:Mc)(H:Hp)(h:Lx)(D:KY),ok a ob->h.get? D=KJ ob->iK X.prog X.w H h->bo X.prog X.w (upd H D (o a)) h D (o a))(hs:∀x,Nx iter X.env x=pure x:=by intro _;rfl):nM X (λu=>comprehension e f X.env pos newAcc KR (MW iter X.env) u) (vc own.length js wi g M rd a0 o):=by
 intro c9 Qc i s σ H Q I h kk;refine wpAny_comprehension_free b3 hs c.HU c.kind c.names (aV (hw i s σ H _ I h) λv s1 h1=>aV h1 λf4 s2 h2=>?_);obtain⟨it,fp,tn,J,G,e1,t,T,aX,f2,d0⟩:=h2;subst e1;refine a8 (mv ?_);dsimp only;generalize U:s2.heap.push ob0=l;have hC:l.objs.size=s2.heap.objs.size+1:=by rw[<-U,Mq]
 have c1:s2.heap.objs.size≠l.objs.size:=by rw[hC];exact Lu (Qb _)
 have k:s2.heap.objs.size<=l.objs.size:=by rw[hC];exact PK _
 have below:∀b,b<s2.heap.objs.size->b≠l.objs.size:=λb hb=>by rw[hC];exact Lu (PL hb)
 have K:∀x a,X.env.cells.lookup x=KJ a->a<s2.heap.objs.size:=λx a e=>by
  obtain⟨v,q⟩:=t.cell x a e;exact q.lt
 obtain⟨cj,ck⟩:=jD f.names (l.objs.size+1) cl (λx a e=>PL (Lh (K x a (c.sub x a e)) k)) (λx y a e1 e2=>t.ok.inj x y a (c.sub x a e1) (c.sub y a e2));have kc:AZ X f s2 l.objs.size (Oe (l.push {cls:=.type "dict",data:=.dict #[]}) f.names) (Ni (l.objs.size+1) f.names cl):=by
  refine⟨cj,λx a e=>?_,λx a e hf=>?_,λx hx=>?_⟩
  .rcases ck x a e with⟨R,W⟩|⟨R,_,z3⟩;.exact .inl ⟨c.sub x a R,λq=>W (My q)⟩
   .exact .inr ⟨k,R,z3 _ (Mq ..)⟩
  .rcases ck x a e with⟨R,W⟩|⟨_,W,_⟩;.exact c.sub x a R
   .have:=c.cells _ W rfl;rw[hf]at this;cases this
  .have:((Ni (l.objs.size+1) f.names cl).lookup x).isSome=KQ:=OK _ _ _ (by
    rcases hx with z|z;.exact .inl z
    .obtain⟨a,e⟩:=(c.has x z).1;exact .inr (by rw[e];rfl));exact Option.isSome_iff_exists.mp this
 have B:(Oe (l.push {cls:=.type "dict",data:=.dict #[]}) f.names).Ns l.objs.size (λ_=>KP):=(Heap.Ns.new l (.type "dict")).keeps (QN _ _);have F:∀b o,l.get? b=KJ o->(Oe (l.push {cls:=.type "dict",data:=.dict #[]}) f.names).get? b=KJ o:=λb o e=>QN _ _ _ _ (KU _ e);generalize Oe (l.push {cls:=.type "dict",data:=.dict #[]}) f.names=m at kc B F⊢;generalize Ni (l.objs.size+1) f.names cl=cs at kc⊢;have a3:∀b o,s2.heap.get? b=KJ o->m.get? b=KJ o:=λb o e=>F b o (U▸KU _ e);have b4:m.get? s2.heap.objs.size=KJ ob0:=F _ _ (U▸Lb _ (by cases ob0;rename_i c d n sl;cases n<;>first|rfl|exact absurd rfl e0));have L:∀b∈fp,b<s2.heap.objs.size:=λb hb=>by
  obtain⟨o,e,_⟩:=T.obj _ _ aX b hb;exact K8 e
 have J0:=sT (own:=own) (fr:=fr) (t':=s2.toks) t f2 L c kc hj e5 k a3 B;have oD:HV (eQ X i f (own++fr) cs l.objs.size fp s2 G) s2.heap.objs.size:=⟨La _,λx a e z=>by
  rcases kc.sub x a e with⟨q,_⟩|⟨q1,q2,_⟩;.exact absurd (K x a q) (by rw[z];exact LX _)
  .exact absurd (Oz q1 q2) (by rw[z];exact LX _)⟩;have f0:G s2.heap.objs.size=KP:=t.aN.fresh (La _);have d2:s2.heap.objs.size∉sF X.stack:=λz=>by
  rcases List.mem_cons.mp (t.jr _ z)with q|q;.exact absurd t.lt (by rw[<-q];exact LX _)
  .exact t.An (La _) q
 have O:∀p∈(X.pn++i)++([]:List (KY×Mc)),p.1≠s2.heap.objs.size:=λp E z=>by
  rw[LF]at E;exact absurd (K8 (t.pin p E).1) (by rw[z];exact LX _)
 have J1:Inv (eQ X i f (own++fr) cs l.objs.size fp s2 G) [(s2.heap.objs.size,ob0)] (aP σ own.length js) G {s2 with heap:=m,toks:=s2.toks}:=J0.dX λp E=>by
   have E:=List.mem_singleton.mp E;rw[E];exact⟨b4,f0,c1,d2,λv=>e3 a0 ob0 v a4⟩
 have a9:∀b∈fp,dG (eQ X i f (own++fr) cs l.objs.size fp s2 G) [(s2.heap.objs.size,ob0)] G b:=λb hb=>by
  obtain⟨q0,q1,q2,q3,q4,q5⟩:=f2 b hb;refine⟨q0,below b (L b hb),rf t f2 b hb,.inl hb,λx a e=>?_,λp E=>?_⟩
  .rcases kc.sub x a e with⟨q,_⟩|⟨R,W,_⟩;.exact q4 x a q
   .exact Ng (R4 (Lh (L b hb) R) W)
  rcases List.mem_append.mp E with z|z;.exact q5 p z
  .have z:=List.mem_singleton.mp z;rw[z];exact LS (Lu (L b hb))
 have ee:tn 0 m:=T.keep _ _ _ aX λb hb o e=>a3 b o e;have a5:=nH (Y:=eQ X i f (own++fr) cs l.objs.size fp s2 G) (ok:=ok) (D:=s2.heap.objs.size) (it:=it) (e:=e) (d:=0) (tg:=tg) (ifs:=ifs) (pos0:=iter.pos) (body:=body s2.heap.objs.size (eQ X i f (own++fr) cs l.objs.size fp s2 G).env) S (λ_ _ z=>z) (b2 _ _ _) (a6 _ _ _) (e6 _ _ _) T (hg i _ _ fp s2 G) (hi i _ _ fp s2 G) (hb i _ _ fp s2 G _ oD) J1 O (a:=a0) a4 a9 ee d0;have c2:codeAny (K7 X.prog X.w) X.A (.compLoop e 0 (.ref it) (.ref s2.heap.objs.size) (compEnvC f cs l.objs.size X.env)) (compPost (K7 X.prog X.w) X.A X.xe c9 Qc (.ref s2.heap.objs.size) l.objs.size) {s2 with heap:=m,toks:=s2.toks}:=by
  refine Qp a5 λr s' c5=>?_;obtain⟨a,d1,f1,H',hr,I',a7,q',_⟩:=c5;subst hr;obtain⟨m',e4,_⟩:=I'.loc;obtain⟨eD,nD,f3,_,_⟩:=I'.pin _ (Lj _ K5);have c4:Inv X i σ H' s':=xO t f2 I';refine kk _ _ s' ⟨upd H' s2.heap.objs.size (o a),c4.zN t.sz nD (Ng t.lt) (λy c e z=>?_) (λp E=>O p (by rw[LF];exact E)) (b0 a d1 H' s'.heap _ a7 eD c4.aN),q' _ nD (beq_eq_false_iff_ne.mpr (LS (Lu t.GI))),by rw[af (LS c1)];exact I'.free,Ng (Lh t.lt k),t.An k,λy c e z=>?_,λp E z=>absurd (Lh (K8 (t.pin p E).1) k) (by rw[z];exact LX _),L_ t.sz k,m',e4⟩;.exact absurd (K y c e) (by rw[z];exact LX _)
  .exact absurd (Lh (K y c e) k) (by rw[z];exact LX _)
 exact d4 c2 (T.self _ 0 _ _ _ ee c2)
theorem lG{e:K_}{d:Nat}{g:RE}(j:(clausesOf e)[d]?=KJ g)(ha:(g.is_async !=0)=KR)(c:∀prog w it a env,(K7 prog w).den (.compStart e d it a env)=(compStart e d it a env).onRaise (λx=>do noteFrame x env;Rp theWindowsPlace):=by intros;rfl)(b:∀(A:LC)it a env,A.under (.compStart e d it a env)=A:=by intros;rfl):vb e d:=by
 intro prog w A R s it a env f h;refine codeAny_of_tree ?_;rw[c,b];refine wpAny_notedAt ?_;unfold compStart;rw[j];simp only[Option.elim,ha,Lc,if_false];refine KL (wpAny_askSetting (wpAny_ite ?_));split;.first
   |exact KL (KS (KS (And.intro rfl f)))|exact KS (And.intro rfl f)
 .refine KL (Nj (KL (Om (KL (ML h (λi l k=>KS (And.intro rfl k)) λ_ _ x=>x)))))
section
variable{X:Cx}{elt tg iter tg2 iter2:K_}{ifs ifs2:List K_}{scope:MT}{pos:MB}{cl:List (Li×KY)}{own fr:List Li}{js:List Nat}{wi wi2:TI}{g g2:TG}{tifs tifs2:TT}{te:TE}
theorem nN{P:Le}{w:Ly}(a:List V)(ob:Mc)(H:Hp)(h:Lx)(D:KY)(ok:GK a ob)(e:h.get? D=KJ ob)(_:iK P w H h):bo P w (upd H D (.lst a)) h D (.lst a):=by
 obtain⟨d,b,n,c,rfl⟩:=ok;exact⟨d,b,n,c,e⟩
end
mutual
noncomputable def aY(h:Lx):KO->D->Prop
 |u,.bx=>u=.none|u,.bl b=>u=.bool b|u,.int i=>∃t,u=.int i t|u,.str x=>∃t,u=.str x t|u,.tup d=>∃a c,u=.ref a/\h.IsTuple a c/\bM h c.toList d|u,.lst d=>∃a c,u=.ref a/\h.IsList a c/\bM h c.toList d|u,.aR _ _=>∃a,u=.ref a
noncomputable def bM(h:Lx):List KO->List D->Prop
 |us,[]=>us=[]|us,d::a=>∃u r,us=u::r/\aY h u d/\bM h r a
end
theorem bM.length{h:Lx}:∀{us:List KO}{ds:List D},bM h us ds->us.length=ds.length
 |_,[],q=>by simp only[bM]at q;rw[q];rfl|_,d::ds,q=>by
  simp only[bM]at q;obtain⟨u,r,rfl,_,q⟩:=q;simp[bM.length q]
theorem bM.get{h:Lx}:∀{us:List KO}{ds:List D}{i:Nat}{u:KO},bM h us ds->us[i]?=KJ u->∃d,ds[i]?=KJ d/\aY h u d
 |_,[],_,_,q,e=>by simp only[bM]at q;rw[q]at e;simp at e|_,c::ds,i,u,q,e=>by
  simp only[bM]at q;obtain⟨x,r,rfl,a,q⟩:=q;cases i with
  |zero=>simp at e;subst e;exact⟨c,rfl,a⟩|succ i=>simpa using bM.get (i:=i) q (by simpa using e)
section
variable{X:Cx}{pins:List (KY×Mc)}{σ:St}{H:Hp}{s:KW}{B:Fb}
mutual
theorem dz(I:Inv X pins σ H s)(hK:X.K=B.K):∀{v:V}{u:KO}{d:D},RelV v u->Is B H v d->aY s.heap u d
 |_,_,.bx,r,i=>by simp only[Is]at i;subst i;simp only[aY];exact r|_,_,.bl _,r,i=>by simp only[Is]at i;subst i;simp only[aY];exact r|_,_,.int _,r,i=>by simp only[Is]at i;subst i;simp only[aY];exact r|_,_,.str _,r,i=>by simp only[Is]at i;subst i;simp only[aY];exact r|_,_,.tup j,r,i=>by
  simp only[Is]at i;obtain⟨a,h,rfl,g,f⟩:=i;obtain⟨b,c,e,_⟩:=I.tuple (by rw[hK];exact g.2);simp only[aY];exact⟨a,b.toArray,r,e,mB I hK c f⟩|_,_,.lst j,r,i=>by
  simp only[Is]at i;obtain⟨a,h,rfl,g,f⟩:=i;obtain⟨b,c,e,_⟩:=I.list (by rw[hK];exact g.2.sq);simp only[aY];exact⟨a,b.toArray,r,e.isList,mB I hK c f⟩|_,_,.aR _ _,r,i=>by
  simp only[Is]at i;obtain⟨a,h,rfl,_⟩:=i;simp only[aY];exact⟨a,r⟩
theorem mB(I:Inv X pins σ H s)(hK:X.K=B.K):∀{a:List V}{us:List KO}{ds:List D},aq a us->ab B H a ds->bM s.heap us ds
 |_,_,[],r,i=>by
  simp only[ab]at i;subst i;cases r;simp only[bM]|_,_,d::ds,r,i=>by
  simp only[ab]at i;obtain⟨x,g,rfl,f,e⟩:=i;cases r with|cons c b=>
   simp only[bM];exact⟨_,_,rfl,dz I hK c f,mB I hK b e⟩
end
end
noncomputable def be(f:D->D->Option Bool):List D->List D->Option Bool
 |x::d,y::c=>match f x y,be f d c with
  |some a,KJ b=>KJ (a&&b)|_,_=>KP
 |_,_=>KJ KQ
noncomputable def cw:Nat->D->D->Option Bool
 |0=>λ_ _=>KP|n+1=>λd e=>match d,e with
  |.tup f,.tup c=>(be (cw n) f c).map λb=>b&&f.length==c.length|.lst f,.lst c=>(be (cw n) f c).map λb=>b&&f.length==c.length|.bx,.bx=>KJ KQ|.bl a,.bl b=>KJ (a==b)|.bl a,.int b=>KJ ((if a then 1 else 0)==b)|.int a,.bl b=>KJ (a==(if b then 1 else 0))|.int a,.int b=>KJ (a==b)|.str a,.str b=>KJ (a==b)|.aR _ _,_=>KP|_,.aR _ _=>KP|_,_=>KJ KR
theorem cy{f:D->D->Option Bool}:∀{xs ys:List D}{b:Bool},be f xs ys=KJ b->(∀(j:Nat)(x y:D),xs[j]?=KJ x->ys[j]?=KJ y->∃c,f x y=KJ c)/\∀g:Nat->Bool,(∀(j:Nat)(x y:D),xs[j]?=KJ x->ys[j]?=KJ y->f x y=KJ (g j))->(L4 (min xs.length ys.length)).all g=b
 |[],ys,b,h=>by cases ys<;>(simp[be]at h;subst h;exact⟨λj x y e=>absurd e (by simp),λg _=>(by simp)⟩)|x::xs,[],b,h=>by
  simp[be]at h;subst h;exact⟨λj x y e d=>by simp at d,λg _=>by simp⟩|x::xs,y::ys,b,h=>by
  simp only[be]at h;cases i:f x y with
  |none=>rw[i]at h;simp at h|some a=>cases m:be f xs ys with
   |none=>rw[i,m]at h;simp at h|some c=>
    rw[i,m]at h;simp only[N6]at h;obtain⟨p,o⟩:=cy m;refine⟨λj l k e d=>?_,λg n=>?_⟩;.cases j with
     |zero=>simp at e d;subst e d;exact⟨a,i⟩|succ j=>exact p j l k (by simpa using e) (by simpa using d)
    .have r:g 0=a:=by
      have:=n 0 x y rfl rfl;rw[i]at this;exact(K1 this).symm
     have q:=o (λj=>g (j+1)) λj l k e d=>n (j+1) l k (by simpa using e) (by simpa using d);rw[<-h,<-q,<-r];have:min (x::xs).length (y::ys).length=min xs.length ys.length+1:=by simp only[LP];omega
     rw[this,List.range_succ_eq_map,NG,List.all_map];rfl
theorem iN{h:Lx}{a:KY}{b its':Array KO}(p:h.IsTuple a b)(q:h.IsTuple a its'):b=its':=by
 obtain⟨o,e,c,n,d⟩:=p;obtain⟨i,f,k,j,g⟩:=q;rw[e]at f;cases f;rw[d]at g;cases g;rfl
theorem jK{h:Lx}{a:KY}{b its':Array KO}(p:h.IsList a b)(q:h.IsList a its'):b=its':=by
 obtain⟨o,e,c,n,d⟩:=p;obtain⟨i,f,k,j,g⟩:=q;rw[e]at f;cases f;rw[d]at g;cases g;rfl
theorem rA{h:Lx}{a:KY}{b its':Array KO}(p:h.IsList a b)(q:h.IsTuple a its'):False:=by
 obtain⟨o,e,c,n,d⟩:=p;obtain⟨i,f,g,j,k⟩:=q;rw[e]at f;cases f;rw[c]at g;exact absurd (Value.type.inj g) (by decide)
theorem jL{h:Lx}:∀(n:Nat){u:KO}{d e:D}{b:Bool},aY h u d->aY h u e->cw n d e=KJ b->b=KQ
  |0,_,_,_,_,_,_,q=>by cases q|n+1,u,d,e,b,p,i,q=>by
    have step:∀{f:List KO}{xs ys:List D}{c:Bool},bM h f xs->bM h f ys->be (cw n) xs ys=KJ c->(c&&xs.length==ys.length)=KQ:=λ{f xs ys c}o s l=>by
      obtain⟨G,F⟩:=cy l;have:=F (λ_=>KQ) λj x y ex B=>by
        obtain⟨z,v⟩:=G j x y ex B;have A:j<f.length:=by rw[o.length];exact(List.getElem?_eq_some_iff.mp ex).1
        obtain⟨L,E,I⟩:=o.get (Lp A);obtain⟨K,C,H⟩:=s.get (Lp A);rw[ex]at E;rw[B]at C;cases E;cases C;rw[v,jL n I H v]
      rw[<-this,<-o.length,<-s.length];simp
    cases d<;>first
      |exact nomatch(show(KP:Option Bool)=KJ b from q)|(cases e<;>first
          |exact nomatch(show(KP:Option Bool)=KJ b from q)
          | (simp only[aY]at p i;first
               | (exfalso;(first|(obtain⟨_,rfl⟩:=p)|(obtain⟨_,_,rfl,_⟩:=p)|subst p)<;>(first|(obtain⟨_,z⟩:=i;cases z;done)|(obtain⟨_,_,z,_⟩:=i;cases z;done)|(cases i;done)))|(subst p;cases i;have q:=K1 (show KJ _=KJ b from q);rw[<-q];try simp;done)|(obtain⟨t,rfl⟩:=p;obtain⟨J,z⟩:=i;cases z;have q:=K1 (show KJ _=KJ b from q);rw[<-q];try simp;done)|skip))
    all_goals
      obtain⟨a,f,rfl,m,w⟩:=p;obtain⟨M,r,z,g,k⟩:=i;cases z
    · obtain rfl:=iN m g;obtain⟨c,l,rfl⟩:=Option.map_eq_some_iff.mp (show(be (cw n) _ _).map _=KJ b from q);exact step w k l
    ·exact(rA g m).elim
    ·exact(rA m g).elim
    · obtain rfl:=jK m g;obtain⟨c,l,rfl⟩:=Option.map_eq_some_iff.mp (show(be (cw n) _ _).map _=KJ b from q);exact step w k l
theorem lH{h:Lx}{n:Nat}{a its':Array KO}{xs ys:List D}{b:Bool}{A:LC}{s:KW}(l:bM s.heap a.toList xs)(f:bM s.heap its'.toList ys)(q:(be (cw n) xs ys).map (λb=>b&&xs.length==ys.length)=KJ b)(C:∀{u v:KO}{d e:D}{c:Bool},aY s.heap u d->aY s.heap v e->cw n d e=KJ c->NC A s u v c):∃e:Nat->Bool,(∀j(o:j<a.size)(m:j<its'.size),NC A s a[j] its'[j] (e j))/\((L4 (min a.size its'.size)).all e&&a.size==its'.size)=b:=by
 simp only[OQ]at q;obtain⟨c,H,rfl⟩:=q;obtain⟨t,r⟩:=cy H;have B:a.size=xs.length:=by have:=l.length;simpa using this
 have w:its'.size=ys.length:=by have:=f.length;simpa using this
 have all:∀j:Nat,∃g:Bool,∀(x y:D),xs[j]?=KJ x->ys[j]?=KJ y->cw n x y=KJ g:=λj=>by cases F:xs[j]? with
  |none=>exact⟨KQ,λx y z=>nomatch z⟩|some x=>cases E:ys[j]? with
   |none=>exact⟨KQ,λx y _ z=>nomatch z⟩|some y=>
    obtain⟨g,k⟩:=t j x y F E;exact⟨g,λL K z p=>by cases z;cases p;exact k⟩
 obtain⟨g,k⟩:∃g:Nat->Bool,∀(j:Nat)(x y:D),xs[j]?=KJ x->ys[j]?=KJ y->cw n x y=KJ (g j):=⟨λj=>(all j).choose,λj=>(all j).choose_spec⟩;refine⟨g,λj o m=>?_,?_⟩
 .obtain⟨d,hd,J⟩:=l.get (i:=j) (u:=a[j]) (by simp[o]);obtain⟨e,G,I⟩:=f.get (i:=j) (u:=its'[j]) (by simp[m]);exact C J I (k j d e hd G)
 .rw[B,w,r g k]
theorem BL{n:Nat}{A:LC}{s:KW}{a1 k:KY}{f a:Array KO}{xs ys:List D}{b:Bool}(o:bM s.heap f.toList xs)(m:bM s.heap a.toList ys)(j:s.heap.IsTuple a1 f)(i:s.heap.IsTuple k a)(l:A.units<L9)(q:cw (n+1) (.tup xs) (.tup ys)=KJ b)(x:∀{u v:KO}{d e:D}{c:Bool},aY s.heap u d->aY s.heap v e->cw n d e=KJ c->NC A.in1 s u v c):Qw A s (.ref a1) (.ref k) b/\Pg A s (.ref a1) (.ref k) (!b)/\NC A s (.ref a1) (.ref k) b:=by
 obtain⟨g,t,hb⟩:=lH (h:=s.heap) o m q x;have p:Qw A s (.ref a1) (.ref k) b:=hb▸SeqAt.RcAt.tuples j i l t;have w:Pg A s (.ref a1) (.ref k) (!b):=hb▸SeqAt.RcNeAt.tuples j i l t;refine⟨p,w,?_⟩;by_cases r:a1=k
 .subst r;have:b=KQ:=jL (h:=s.heap) (n+1) (u:=.ref a1) (by simp only[aY];exact⟨a1,f,rfl,j,o⟩) (by simp only[aY];exact⟨a1,a,rfl,i,m⟩) q;subst this;exact .same _
 .exact .of_refs r p
theorem BM{n:Nat}{A:LC}{s:KW}{a1 m:KY}{a f:Array KO}{xs ys:List D}{b:Bool}(r:bM s.heap a.toList xs)(p:bM s.heap f.toList ys)(j:s.heap.IsList a1 a)(i:s.heap.IsList m f)(k:A.units<L9)(q:cw (n+1) (.lst xs) (.lst ys)=KJ b)(B:∀{u v:KO}{d e:D}{c:Bool},aY s.heap u d->aY s.heap v e->cw n d e=KJ c->NC A.in1 s u v c):Qw A s (.ref a1) (.ref m) b/\Pg A s (.ref a1) (.ref m) (!b)/\NC A s (.ref a1) (.ref m) b:=by
 obtain⟨g,y,hb⟩:=lH (h:=s.heap) r p q B;have t:Qw A s (.ref a1) (.ref m) b/\Pg A s (.ref a1) (.ref m) (!b):=by
  by_cases o:a.size=f.size
  .have l:(L4 a.size).all g=b:=by rw[<-o]at hb;simpa using hb
   exact⟨l▸SeqAt.RcAt.lists j i o k y,l▸SeqAt.RcNeAt.lists j i o k y⟩
  .have l:b=KR:=by rw[<-hb];simp[o]
   subst l;exact⟨SeqAt.RcAt.lists_lengths j i (by simpa using o) k,SeqAt.RcNeAt.lists_lengths j i (by simpa using o) k⟩
 obtain⟨w,z⟩:=t;refine⟨w,z,?_⟩;by_cases x:a1=m
 .subst x;have:b=KQ:=jL (h:=s.heap) (n+1) (u:=.ref a1) (by simp only[aY];exact⟨a1,a,rfl,j,r⟩) (by simp only[aY];exact⟨a1,f,rfl,i,p⟩) q;subst this;exact .same _
 .exact .of_refs x w
theorem mC:∀(n:Nat){A:LC}{s:KW}{u v:KO}{d e:D}{b:Bool},aY s.heap u d->aY s.heap v e->A.units+n<L9->cw n d e=KJ b->Qw A s u v b/\Pg A s u v (!b)/\NC A s u v b
 |0,_,_,_,_,_,_,_,_,_,_,q=>by cases q|n+1,A,s,u,v,d,e,b,p,h,hu,q=>by
  have a:A.units<L9:=by omega
  have C:∀{u v:KO}{d e:D}{c:Bool},aY s.heap u d->aY s.heap v e->cw n d e=KJ c->NC A.in1 s u v c:=λH G F=>(mC n H G (by rw[Around.in1_units];omega) F).2.2;have B:=q;cases d with
  |bx=>cases e with
   |bx=>
    simp only[aY]at p h;subst p;subst h;have q:=K1 (show KJ _=KJ b from q);subst q;exact⟨SeqAt.RcAt.none_none,SeqAt.RcNeAt.none_none,SeqAt.EqAt.same _⟩|bl y=>
    simp only[aY]at p h;subst p;subst h;have q:=K1 (show KJ _=KJ b from q);subst q;exact⟨SeqAt.RcAt.none_bool _,SeqAt.RcNeAt.none_bool _,SeqAt.EqAt.none_bool _⟩|int y=>
    simp only[aY]at p h;subst p;obtain⟨r,rfl⟩:=h;have q:=K1 (show KJ _=KJ b from q);subst q;exact⟨SeqAt.RcAt.none_int _ _,SeqAt.RcNeAt.none_int _ _,SeqAt.EqAt.none_int _ _⟩|str y=>
    simp only[aY]at p h;subst p;obtain⟨r,rfl⟩:=h;have q:=K1 (show KJ _=KJ b from q);subst q;exact⟨SeqAt.RcAt.none_str _ _,SeqAt.RcNeAt.none_str _ _,SeqAt.EqAt.none_str _ _⟩|tup m=>
    simp only[aY]at p h;subst p;obtain⟨z,i,rfl,f,k⟩:=h;have q:=K1 (show KJ _=KJ b from q);subst q;exact⟨SeqAt.RcAt.none_tuple f a,SeqAt.RcNeAt.none_tuple f a,SeqAt.EqAt.none_tuple f a⟩|lst m=>
    simp only[aY]at p h;subst p;obtain⟨z,i,rfl,f,k⟩:=h;have q:=K1 (show KJ _=KJ b from q);subst q;exact⟨SeqAt.RcAt.none_list f a,SeqAt.RcNeAt.none_list f a,SeqAt.EqAt.none_list f a⟩|aR w o=>exact nomatch(show(KP:Option Bool)=KJ b from q)
  |bl x=>cases e with
   |bx=>
    simp only[aY]at p h;subst p;subst h;have q:=K1 (show KJ _=KJ b from q);subst q;exact⟨SeqAt.RcAt.bool_none _,SeqAt.RcNeAt.bool_none _,SeqAt.EqAt.bool_none _⟩|bl y=>
    simp only[aY]at p h;subst p;subst h;have q:=K1 (show KJ _=KJ b from q);subst q;exact⟨SeqAt.RcAt.bool_bool _ _,SeqAt.RcNeAt.bool_bool _ _,SeqAt.EqAt.bool_bool _ _⟩|int y=>
    simp only[aY]at p h;subst p;obtain⟨r,rfl⟩:=h;have q:=K1 (show KJ _=KJ b from q);subst q;exact⟨SeqAt.RcAt.bool_int _ _ _,SeqAt.RcNeAt.bool_int _ _ _,SeqAt.EqAt.bool_int _ _ _⟩|str y=>
    simp only[aY]at p h;subst p;obtain⟨r,rfl⟩:=h;have q:=K1 (show KJ _=KJ b from q);subst q;exact⟨SeqAt.RcAt.bool_str _ _ _,SeqAt.RcNeAt.bool_str _ _ _,SeqAt.EqAt.bool_str _ _ _⟩|tup m=>
    simp only[aY]at p h;subst p;obtain⟨z,i,rfl,f,k⟩:=h;have q:=K1 (show KJ _=KJ b from q);subst q;exact⟨SeqAt.RcAt.bool_tuple _ f a,SeqAt.RcNeAt.bool_tuple _ f a,SeqAt.EqAt.bool_tuple _ f a⟩|lst m=>
    simp only[aY]at p h;subst p;obtain⟨z,i,rfl,f,k⟩:=h;have q:=K1 (show KJ _=KJ b from q);subst q;exact⟨SeqAt.RcAt.bool_list _ f a,SeqAt.RcNeAt.bool_list _ f a,SeqAt.EqAt.bool_list _ f a⟩|aR w o=>exact nomatch(show(KP:Option Bool)=KJ b from q)
  |int x=>cases e with
   |bx=>
    simp only[aY]at p h;obtain⟨t,rfl⟩:=p;subst h;have q:=K1 (show KJ _=KJ b from q);subst q;exact⟨SeqAt.RcAt.int_none _ _,SeqAt.RcNeAt.int_none _ _,SeqAt.EqAt.int_none _ _⟩|bl y=>
    simp only[aY]at p h;obtain⟨t,rfl⟩:=p;subst h;have q:=K1 (show KJ _=KJ b from q);subst q;exact⟨SeqAt.RcAt.int_bool _ _ _,SeqAt.RcNeAt.int_bool _ _ _,SeqAt.EqAt.int_bool _ _ _⟩|int y=>
    simp only[aY]at p h;obtain⟨t,rfl⟩:=p;obtain⟨r,rfl⟩:=h;have q:=K1 (show KJ _=KJ b from q);subst q;exact⟨SeqAt.RcAt.int_int _ _ _ _,SeqAt.RcNeAt.int_int _ _ _ _,RK _ _ _ _⟩|str y=>
    simp only[aY]at p h;obtain⟨t,rfl⟩:=p;obtain⟨r,rfl⟩:=h;have q:=K1 (show KJ _=KJ b from q);subst q;exact⟨SeqAt.RcAt.int_str _ _ _ _,SeqAt.RcNeAt.int_str _ _ _ _,RG _ _ _ _⟩|tup m=>
    simp only[aY]at p h;obtain⟨t,rfl⟩:=p;obtain⟨z,i,rfl,f,k⟩:=h;have q:=K1 (show KJ _=KJ b from q);subst q;exact⟨SeqAt.RcAt.int_tuple _ _ f a,SeqAt.RcNeAt.int_tuple _ _ f a,Rc _ _ f a⟩|lst m=>
    simp only[aY]at p h;obtain⟨t,rfl⟩:=p;obtain⟨z,i,rfl,f,k⟩:=h;have q:=K1 (show KJ _=KJ b from q);subst q;exact⟨SeqAt.RcAt.int_list _ _ f a,SeqAt.RcNeAt.int_list _ _ f a,SeqAt.EqAt.int_list _ _ f a⟩|aR w o=>exact nomatch(show(KP:Option Bool)=KJ b from q)
  |str x=>cases e with
   |bx=>
    simp only[aY]at p h;obtain⟨t,rfl⟩:=p;subst h;have q:=K1 (show KJ _=KJ b from q);subst q;exact⟨SeqAt.RcAt.str_none _ _,SeqAt.RcNeAt.str_none _ _,SeqAt.EqAt.str_none _ _⟩|bl y=>
    simp only[aY]at p h;obtain⟨t,rfl⟩:=p;subst h;have q:=K1 (show KJ _=KJ b from q);subst q;exact⟨SeqAt.RcAt.str_bool _ _ _,SeqAt.RcNeAt.str_bool _ _ _,SeqAt.EqAt.str_bool _ _ _⟩|int y=>
    simp only[aY]at p h;obtain⟨t,rfl⟩:=p;obtain⟨r,rfl⟩:=h;have q:=K1 (show KJ _=KJ b from q);subst q;exact⟨SeqAt.RcAt.str_int _ _ _ _,SeqAt.RcNeAt.str_int _ _ _ _,RH _ _ _ _⟩|str y=>
    simp only[aY]at p h;obtain⟨t,rfl⟩:=p;obtain⟨r,rfl⟩:=h;have q:=K1 (show KJ _=KJ b from q);subst q;exact⟨SeqAt.RcAt.str_str _ _ _ _,SeqAt.RcNeAt.str_str _ _ _ _,SeqAt.EqAt.str_str _ _ _ _⟩|tup m=>
    simp only[aY]at p h;obtain⟨t,rfl⟩:=p;obtain⟨z,i,rfl,f,k⟩:=h;have q:=K1 (show KJ _=KJ b from q);subst q;exact⟨SeqAt.RcAt.str_tuple _ _ f a,SeqAt.RcNeAt.str_tuple _ _ f a,Rf _ _ f a⟩|lst m=>
    simp only[aY]at p h;obtain⟨t,rfl⟩:=p;obtain⟨z,i,rfl,f,k⟩:=h;have q:=K1 (show KJ _=KJ b from q);subst q;exact⟨SeqAt.RcAt.str_list _ _ f a,SeqAt.RcNeAt.str_list _ _ f a,SeqAt.EqAt.str_list _ _ f a⟩|aR w o=>exact nomatch(show(KP:Option Bool)=KJ b from q)
  |tup E=>cases e with
   |bx=>
    simp only[aY]at p h;obtain⟨a1,j,rfl,g,l⟩:=p;subst h;have q:=K1 (show KJ _=KJ b from q);subst q;exact⟨SeqAt.RcAt.tuple_none g a,SeqAt.RcNeAt.tuple_none g a,SeqAt.EqAt.tuple_none g a⟩|bl y=>
    simp only[aY]at p h;obtain⟨a1,j,rfl,g,l⟩:=p;subst h;have q:=K1 (show KJ _=KJ b from q);subst q;exact⟨SeqAt.RcAt.tuple_bool _ g a,SeqAt.RcNeAt.tuple_bool _ g a,SeqAt.EqAt.tuple_bool _ g a⟩|int y=>
    simp only[aY]at p h;obtain⟨a1,j,rfl,g,l⟩:=p;obtain⟨r,rfl⟩:=h;have q:=K1 (show KJ _=KJ b from q);subst q;exact⟨SeqAt.RcAt.tuple_int _ _ g a,SeqAt.RcNeAt.tuple_int _ _ g a,Rg _ _ g a⟩|str y=>
    simp only[aY]at p h;obtain⟨a1,j,rfl,g,l⟩:=p;obtain⟨r,rfl⟩:=h;have q:=K1 (show KJ _=KJ b from q);subst q;exact⟨SeqAt.RcAt.tuple_str _ _ g a,SeqAt.RcNeAt.tuple_str _ _ g a,Rh _ _ g a⟩|tup m=>
    simp only[aY]at p h;obtain⟨a1,j,rfl,g,l⟩:=p;obtain⟨z,i,rfl,f,k⟩:=h;exact BL l k g f a B C|lst m=>
    simp only[aY]at p h;obtain⟨a1,j,rfl,g,l⟩:=p;obtain⟨z,i,rfl,f,k⟩:=h;have q:=K1 (show KJ _=KJ b from q);subst q;exact⟨SeqAt.RcAt.tuple_list g f a,SeqAt.RcNeAt.tuple_list g f a,SeqAt.EqAt.tuple_list g f a⟩|aR w o=>exact nomatch(show(KP:Option Bool)=KJ b from q)
  |lst E=>cases e with
   |bx=>
    simp only[aY]at p h;obtain⟨a1,j,rfl,g,l⟩:=p;subst h;have q:=K1 (show KJ _=KJ b from q);subst q;exact⟨SeqAt.RcAt.list_none g a,SeqAt.RcNeAt.list_none g a,SeqAt.EqAt.list_none g a⟩|bl y=>
    simp only[aY]at p h;obtain⟨a1,j,rfl,g,l⟩:=p;subst h;have q:=K1 (show KJ _=KJ b from q);subst q;exact⟨SeqAt.RcAt.list_bool _ g a,SeqAt.RcNeAt.list_bool _ g a,SeqAt.EqAt.list_bool _ g a⟩|int y=>
    simp only[aY]at p h;obtain⟨a1,j,rfl,g,l⟩:=p;obtain⟨r,rfl⟩:=h;have q:=K1 (show KJ _=KJ b from q);subst q;exact⟨SeqAt.RcAt.list_int _ _ g a,SeqAt.RcNeAt.list_int _ _ g a,SeqAt.EqAt.list_int _ _ g a⟩|str y=>
    simp only[aY]at p h;obtain⟨a1,j,rfl,g,l⟩:=p;obtain⟨r,rfl⟩:=h;have q:=K1 (show KJ _=KJ b from q);subst q;exact⟨SeqAt.RcAt.list_str _ _ g a,SeqAt.RcNeAt.list_str _ _ g a,SeqAt.EqAt.list_str _ _ g a⟩|tup m=>
    simp only[aY]at p h;obtain⟨a1,j,rfl,g,l⟩:=p;obtain⟨z,i,rfl,f,k⟩:=h;have q:=K1 (show KJ _=KJ b from q);subst q;exact⟨SeqAt.RcAt.list_tuple g f a,SeqAt.RcNeAt.list_tuple g f a,SeqAt.EqAt.list_tuple g f a⟩|lst m=>
    simp only[aY]at p h;obtain⟨a1,j,rfl,g,l⟩:=p;obtain⟨z,i,rfl,f,k⟩:=h;exact BM l k g f a B C|aR w o=>exact nomatch(show(KP:Option Bool)=KJ b from q)
  |aR ks I=>exact nomatch(show(KP:Option Bool)=KJ b from q)
theorem jM{h:Lx}{n:Nat}{f:List KO}{xs ys e:List D}{a b:Bool}(p:bM h f xs)(v:bM h f ys)(q:be (cw n) xs e=KJ a)(H:be (cw n) ys e=KJ b)(L:∀{u:KO}{d d' x:D}{a b:Bool},aY h u d->aY h u d'->cw n d x=KJ a->cw n d' x=KJ b->a=b):(a&&xs.length==e.length)=(b&&ys.length==e.length):=by
 obtain⟨t,I⟩:=cy q;obtain⟨o,m⟩:=cy H;have A:xs.length=ys.length:=p.length.symm.trans v.length;have same:∀j x y z,xs[j]?=KJ x->ys[j]?=KJ y->e[j]?=KJ z->cw n x z=cw n y z:=λj x y z s k i=>by
  obtain⟨T,C⟩:=t j x z s i;obtain⟨S,B⟩:=o j y z k i;have c:j<f.length:=by rw[p.length];exact(List.getElem?_eq_some_iff.mp s).1
  obtain⟨R,F,K⟩:=p.get (Lp c);obtain⟨Q,E,J⟩:=v.get (Lp c);rw[s]at F;rw[k]at E;cases F;cases E;rw[C,B,L K J C B]
 have all:∀j:Nat,∃g:Bool,∀(x z:D),xs[j]?=KJ x->e[j]?=KJ z->cw n x z=KJ g:=λj=>by cases N:xs[j]? with
  |none=>exact⟨KQ,λx y z=>nomatch z⟩|some x=>cases M:e[j]? with
   |none=>exact⟨KQ,λx y _ z=>nomatch z⟩|some z=>
    obtain⟨g,l⟩:=t j x z N M;exact⟨g,λP O w G=>by cases w;cases G;exact l⟩
 obtain⟨g,l⟩:∃g:Nat->Bool,∀(j:Nat)(x z:D),xs[j]?=KJ x->e[j]?=KJ z->cw n x z=KJ (g j):=⟨λj=>(all j).choose,λj=>(all j).choose_spec⟩;have r:∀(j:Nat)(y z:D),ys[j]?=KJ y->e[j]?=KJ z->cw n y z=KJ (g j):=λj y z k i=>by
  have c:j<xs.length:=by rw[A];exact(List.getElem?_eq_some_iff.mp k).1
  rw[<-same j xs[j] y z (Lp c) k i];exact l j _ z (Lp c) i
 rw[<-I g l,<-m g r,A]
theorem jN{h:Lx}:∀(n:Nat){u:KO}{d d' x:D}{a b:Bool},aY h u d->aY h u d'->cw n d x=KJ a->cw n d' x=KJ b->a=b
  |0,_,_,_,_,_,_,_,_,q,_=>by cases q|n+1,u,d,d',x,a,b,p,g,q,e=>by
    cases d<;>first
      |exact nomatch(show(KP:Option Bool)=KJ a from q)|(cases d'<;>first
          |exact nomatch(show(KP:Option Bool)=KJ b from e)
          | (simp only[aY]at p g;first
               | (exfalso;(first|(obtain⟨_,rfl⟩:=p)|(obtain⟨_,_,rfl,_⟩:=p)|subst p)<;>(first|(obtain⟨_,z⟩:=g;cases z;done)|(obtain⟨_,_,z,_⟩:=g;cases z;done)|(cases g;done)))|(subst p;cases g;rw[q]at e;exact K1 e)|(obtain⟨t,rfl⟩:=p;obtain⟨t',z⟩:=g;cases z;rw[q]at e;exact K1 e)|skip))
    all_goals
      obtain⟨a1,A,rfl,k,w⟩:=p;obtain⟨C,v,z,f,j⟩:=g;cases z
    · obtain rfl:=iN k f;cases x with
      |tup y=>
        obtain⟨c,o,rfl⟩:=Option.map_eq_some_iff.mp (show(be (cw n) _ _).map _=KJ a from q);obtain⟨B,i,rfl⟩:=Option.map_eq_some_iff.mp (show(be (cw n) _ _).map _=KJ b from e);exact jM w j o i λm l s r=>jN n m l s r|aR _ _=>exact nomatch(show(KP:Option Bool)=KJ a from q)|_=>exact(K1 (show KJ KR=KJ a from q)).symm.trans (K1 (show KJ KR=KJ b from e))
    ·exact(rA f k).elim
    ·exact(rA k f).elim
    · obtain rfl:=jK k f;cases x with
      |lst y=>
        obtain⟨c,o,rfl⟩:=Option.map_eq_some_iff.mp (show(be (cw n) _ _).map _=KJ a from q);obtain⟨B,i,rfl⟩:=Option.map_eq_some_iff.mp (show(be (cw n) _ _).map _=KJ b from e);exact jM w j o i λm l s r=>jN n m l s r|aR _ _=>exact nomatch(show(KP:Option Bool)=KJ a from q)|_=>exact(K1 (show KJ KR=KJ a from q)).symm.trans (K1 (show KJ KR=KJ b from e))
noncomputable def b8:Nat:=60
noncomputable def Kk:D->D->M D:=λd e=>do
 let b<-M.get (cw b8 d e)pure (.bl b)
noncomputable def Kl:D->D->M D:=λd e=>do
 let b<-M.get (cw b8 d e)pure (.bl (!b))
noncomputable def pC(x:D):List D->Option Bool
 |[]=>KJ KR|y::c=>match cw 50 y x,pC x c with
  |some a,KJ b=>KJ (a||b)|_,_=>KP
noncomputable def Ij(neg:Bool):D->D->M D:=λd e=>do
 let a<-M.get (items e)let b<-M.get (pC d a)pure (.bl (if neg then !b else b))
section
variable{X:Cx}{F:Fx}
theorem EH(hu:X.A.units+64<L9):eG X F (LA .Eq) Kk:=⟨λa s i H k x y v u d e Q I f c l hK h g q=>by
 obtain⟨b,hb,q⟩:=M.run_get.mp q;exact EqBoolInt.of_rc (mC b8 (dz I hK f h) (dz I hK c g) (by unfold b8;omega) hb).1 ⟨.bl b,H,I,rfl,q _ H .refl (by simp only[Is])⟩⟩
theorem EI(hu:X.A.units+64<L9):eG X F (LA .NotEq) Kl:=⟨λa s i H k x y v u d e Q I f c l hK h g q=>by
 obtain⟨b,hb,q⟩:=M.run_get.mp q;exact EqBoolInt.of_rcne (mC b8 (dz I hK f h) (dz I hK c g) (by unfold b8;omega) hb).2.1 ⟨.bl (!b),H,I,rfl,q _ H .refl (by simp only[Is])⟩⟩
theorem nO{x:D}:∀{ys:List D}{b:Bool},pC x ys=KJ b->(∀y∈ys,∃c,cw 50 y x=KJ c)/\(b=KQ↔∃y∈ys,cw 50 y x=KJ KQ)
 |[],b,h=>by
  simp only[pC,N6]at h;subst h;exact⟨λy j=>(nomatch j),⟨λz=>(nomatch z),λ⟨y,j,_⟩=>(nomatch j)⟩⟩|y::ys,b,h=>by
  simp only[pC]at h;cases f:cw 50 y x with
  |none=>rw[f]at h;simp at h|some a=>cases k:pC x ys with
   |none=>rw[f,k]at h;simp at h|some c=>
    rw[f,k]at h;simp only[N6]at h;obtain⟨m,l⟩:=nO k;refine⟨λz i=>?_,?_⟩
    .rcases List.mem_cons.mp i with rfl|i;.exact⟨a,f⟩
     .exact m z i
    .rw[<-h,Mf,l];constructor
     .rintro(z|⟨g,d,e⟩);.exact⟨y,K5,by rw[f,z]⟩
      .exact⟨g,K4 _ d,e⟩
     .rintro⟨g,d,e⟩;rcases List.mem_cons.mp d with rfl|d;.rw[f]at e;exact .inl (K1 e)
      .exact .inr ⟨g,d,e⟩
theorem gz{s:KW}{A:LC}{a:Array KO}{ys:List D}{x:D}{v:KO}{b:Bool}(o:bM s.heap a.toList ys)(z:aY s.heap v x)(hu:A.units+51<L9)(q:pC x ys=KJ b):∃e:KO->Bool,(∀y,y∈a->NC A.in1 s y v (e y))/\a.any e=b:=by classical
 obtain⟨w,t⟩:=nO q;refine⟨λu=>decide (∃y∈ys,aY s.heap u y/\cw 50 y x=KJ KQ),λu n=>?_,?_⟩
 .obtain⟨i,j,rfl⟩:=Array.mem_iff_getElem.mp n;obtain⟨y,d,l⟩:=o.get (i:=i) (u:=a[i]) (by simp[j]);obtain⟨c,p⟩:=w y (LV d);have:decide (∃y∈ys,aY s.heap a[i] y/\cw 50 y x=KJ KQ)=c:=by cases c with
   |true=>exact decide_eq_true ⟨y,LV d,l,p⟩|false=>
    refine decide_eq_false λm=>?_;obtain⟨r,_,k,e⟩:=m;have:=jN 50 l k p e;cases this
  show NC A.in1 s a[i] v (decide (∃y∈ys,aY s.heap a[i] y/\cw 50 y x=KJ KQ));rw[this];exact(mC 50 l z (by rw[Around.in1_units];omega) p).2.2
 .have key:a.any (λu=>decide (∃y∈ys,aY s.heap u y/\cw 50 y x=KJ KQ))=KQ↔b=KQ:=by
   rw[t,Array.any_eq_true];constructor
   .rintro⟨i,j,h⟩;obtain⟨y,d,_,e⟩:=of_decide_eq_true h;exact⟨y,d,e⟩
   .rintro⟨y,d,e⟩;obtain⟨i,j⟩:=List.mem_iff_getElem?.mp d;have g:i<a.size:=by have:=o.length;have:=(List.getElem?_eq_some_iff.mp j).1;simp at*;omega
    refine⟨i,g,decide_eq_true ⟨y,d,?_,e⟩⟩;obtain⟨r,f,l⟩:=o.get (i:=i) (u:=a[i]) (by simp[g]);rw[j]at f;cases f;exact l
  cases b with
  |true=>exact key.mpr rfl|false=>cases hb:a.any (λu=>decide (∃y∈ys,aY s.heap u y/\cw 50 y x=KJ KQ))with
   |false=>rfl|true=>exact absurd (key.mp hb) (by decide)
theorem EJ(hu:X.A.units+64<L9):eG X F (LA .In) (Ij KR):=⟨λn s C H k x y v u d e Q I r p l hK z w q=>by
 obtain⟨D,B,t⟩:=M.run_get.mp q;obtain⟨b,hb,m⟩:=M.run_get.mp t;have o:=dz I hK r z;have c:=dz I hK p w;cases e<;>first|cases B|skip
 .simp only[aY]at c;obtain⟨a,f,rfl,g,h⟩:=c;obtain⟨e,j,i⟩:=gz (A:=X.A) h o (by omega) hb;exact SeqAt.in_tupleAt e g j (by rw[i];exact⟨.bl b,H,I,rfl,m _ H .refl (by simp only[Is];rfl)⟩)
 .simp only[aY]at c;obtain⟨a,f,rfl,g,h⟩:=c;obtain⟨e,j,i⟩:=gz (A:=X.A) h o (by omega) hb;exact SeqAt.in_listAt e g j (by rw[i];exact⟨.bl b,H,I,rfl,m _ H .refl (by simp only[Is];rfl)⟩)⟩
theorem vd(hu:X.A.units+64<L9):eG X F (LA .NotIn) (Ij KQ):=⟨λn s C H k x y v u d e Q I r p l hK z w q=>by
 obtain⟨D,B,t⟩:=M.run_get.mp q;obtain⟨b,hb,m⟩:=M.run_get.mp t;have o:=dz I hK r z;have c:=dz I hK p w;cases e<;>first|cases B|skip
 .simp only[aY]at c;obtain⟨a,f,rfl,g,h⟩:=c;obtain⟨e,j,i⟩:=gz (A:=X.A) h o (by omega) hb;exact SeqAt.notIn_tupleAt e g j (by rw[i];exact⟨.bl (!b),H,I,rfl,m _ H .refl (by simp only[Is];rfl)⟩)
 .simp only[aY]at c;obtain⟨a,f,rfl,g,h⟩:=c;obtain⟨e,j,i⟩:=gz (A:=X.A) h o (by omega) hb;exact SeqAt.notIn_listAt e g j (by rw[i];exact⟨.bl (!b),H,I,rfl,m _ H .refl (by simp only[Is];rfl)⟩)⟩
end
end L2
end
section
namespace HT
open PySem PyProof.Rows
section
variable{prog:Le}{w:Ly}{A:LC}{E:KO->KW->Prop}{s:KW}
theorem gA{t b:KY}{items:Array KO}{i g:KO}{lo d:Option Int}{Q:KO->KW->Prop}(a:QH s.heap t items)(j:s.heap.IsSliceOf b i g .none)(pl:Pa i lo)(pu:Pa g d)(hw:bI items.size 0 lo=0/\bI items.size items.size d=items.size)(h:Q (.ref t) s):wpAny (K7 prog w) A (ON (.ref t) (.ref b)) Q E s:=by
 obtain⟨os,c,e,k⟩:=id j;have f:s.TypeIs (.ref b) "slice":=⟨os,c,e⟩;unfold ON;try with_reducible refine LK ?_
 first|refine KL (KS ?_)|skip
 refine KL (PJ a.typeIs (by decide) ?_);refine KL (LM (name:=KN "__getitem__") a.typeIs L7 (LQ L7 a.typeIs entry_tuple_getitem ?_ (Pp _ _)));show wpAny _ _ (Nq (.ref t)>>=_) _ _ s;refine KL (RA a ?_);refine KL (Oc f ?_);rw[if_pos (by decide)];refine KL (dJ j pl pu ?_);show wpAny _ _ (if(((bI items.size 0 lo:Nat):Int)==0&&(1:Int)==1&&(bI items.size items.size d-bI items.size 0 lo)==items.size)=KQ then _ else _) _ _ s;rw[if_pos (by rw[hw.1,hw.2];simp)];unfold Builtin.Tuple.tupleIsExact;refine KL (KL (Oc a.typeIs (KS ?_)));rw[if_pos (by decide)];first
  |exact KL (Nj (KL (KS (KS ⟨_,rfl,KS h⟩))))|exact KL (Nj (KL (KS ⟨_,rfl,KS h⟩)))|exact KL (Nj (KS ⟨_,rfl,KS h⟩))
theorem vf{t b:KY}{ws:List KO}{Q:KO->KW->Prop}(l:QH s.heap t ([]:List KO).toArray)(hb:QH s.heap b ws.toArray)(m:Q (.ref b) s):wpAny (K7 prog w) A (Nk .Add (.ref t) (.ref b)) Q E s:=by
 obtain⟨⟨p,o,i,k⟩,g,h,n,hd⟩:=id l;obtain⟨⟨j,f,data2,e⟩,a,d,n2,c⟩:=id hb;simp only at h hd d c;subst h hd d c;exact R1 ⟨_,g,rfl⟩ ⟨_,a,rfl⟩ P8 Rz OM OE (Oq _ _) (tuple_addW0 t b ([]:List KO).toArray ws.toArray n n2 o f k e (by rfl)) ⟨g,a,m⟩
end
end HT
namespace L2
open PySem PySem.Spec PyProof.Rows
noncomputable def cutD(xs:List D)(lo a:Option Int):List D:=(xs.drop (HT.bI xs.length 0 lo)).take (HT.bI xs.length xs.length a-HT.bI xs.length 0 lo)
noncomputable def EK(F:Fx)(t:ah->M (Option Int)):TO:=λc H Q=>∃a k,cv F a k c H/\(t a).run k (λo d=>∀b,Ext F.toFb H k b d->Q o b) F.E
structure DO(X:Cx)(F:Fx)(e:Option K_)(t:ah->M (Option Int)):Prop where
 hK:X.K=F.K
 po:PO X e (EK F t)
section
variable{X:Cx}{F:Fx}{e:K_}{te:ah->M D}{lo hi:Option K_}{tl th:ah->M (Option Int)}{pos p2:MB}
theorem PO.imp{o:Option K_}{t t':TO}(h:PO X o t)(q:∀a H Q,t' a H Q->t a H Q):PO X o t':=λb s a H Q I z=>h b s a H Q I (q a H Q z)
theorem yb(hK:X.K=F.K:=by rfl):DO X F KP (λ_=>pure KP):=⟨hK,qX.imp λa H Q⟨b,k,S,h⟩=>h H .refl⟩
theorem yc(h:DE X F e te):DO X F (KJ e) (λρ=>do let i<-dm (<-te ρ);pure (KJ i)):=⟨h.hK,(qY h.pe).imp λj H Q a=>by
  obtain⟨ρ,k,S,h⟩:=a;refine cF.next S h λd l v g f m c b=>?_;obtain⟨i,rfl,b⟩:=ba.mp b;simp only[Is]at c;exact⟨i,c,b g f⟩⟩
theorem EK.next{t:ah->M (Option Int)}{c:St}{H:Hp}{ρ:ah}{k:Nat}{R:Option Int->Nat->Prop}{Q:Option Int->Hp->Prop}(S:cv F ρ k c H)(h:(t ρ).run k R F.E)(q:∀b a H',Ext F.toFb H k H' a->cv F ρ a c H'->R b a->Q b H'):EK F t c H Q:=⟨ρ,k,S,(t ρ).mono h (λb a r H' e=>q b a H' e (S.mono e) r) λ_ _ z=>z⟩
theorem ab.cut{B:Fb}{H:Hp}{a:List V}{ds:List D}(h:ab B H a ds)(lo hi:Option Int):ab B H (mm a lo hi) (cutD ds lo hi):=by
 unfold mm cutD;rw[h.length];exact(h.drop _).take _
noncomputable def EL(lo hi:Option Int):D->M D
 |.tup a=>pure (.tup (cutD a lo hi))|.lst a=>pure (.lst (cutD a lo hi))|.str x=>do M.need (x.length<=KZ);pure (.str (MJ x lo hi))|_=>M.fail
theorem yd{prog:Le}{w:Ly}{A:LC}{E:KO->KW->Prop}{s:KW}{x:Li}{t:SN}{c:KY}{b a:KO}{lo hi:Option Int}{Q:KO->KW->Prop}(g:s.heap.IsSliceOf c b a .none)(pl:Pa b lo)(pu:Pa a hi)(f:x.length<=KZ)(h:∀t' k,Q (.str (MJ x lo hi) t') {s with toks:=k}):wpAny (K7 prog w) A (ON (.str x t) (.ref c)) Q E s:=by
 have d:∀{v:KO}{o:Option Int},Pa v o->∃l:Option (Int×SN),v=partValue l/\o=l.map (·.1):=λq=>by cases q with
  |none=>exact⟨KP,rfl,rfl⟩|int i t=>exact⟨KJ (i,t),rfl,rfl⟩
 obtain⟨l,rfl,rfl⟩:=d pl;obtain⟨u,rfl,rfl⟩:=d pu;exact wpAny_getItem_str_slice (l:=l) (u:=u) (st:=KP) g rfl (post_val_or_str ⟨L_ (Ph x _ _) f,h⟩)
noncomputable def Km(F:Fx):V->Option Int->Option Int->Hp->VK->Prop:=λx lo hi H Q=>∃k d,H F.p≠KP/\Is F.toFb H x d/\(EL lo hi d).run k (qE F.toFb H k Q) F.E
theorem Ik(hK:X.K=F.K):HL X (Km F):=by
 intro j s P H x v S R lo hi U Q I B w pl pu h;obtain⟨k,d,l,i,q⟩:=h;cases d with
 |tup E=>
  simp only[Is]at i;obtain⟨a,c,rfl,A,g⟩:=i;cases B;obtain⟨m,r,C,J⟩:=I.tuple (by rw[hK];exact A.2);have f:m.toArray.size=c.length:=by rw[K6];exact r.length.symm
  refine⟨"tuple",_,PyProof.Rows.slot_tuple_getitem.lookup,C.typeIs,?_⟩;by_cases hw:HT.bI c.length 0 lo=0/\HT.bI c.length c.length hi=c.length
  .refine HT.gA C w pl pu (by rw[f];exact hw) ⟨.ref a,H,I,rfl,q _ H .refl ?_⟩;simp only[Is];refine⟨a,c,rfl,A,?_⟩;have e:cutD E lo hi=E:=by
    unfold cutD;rw[<-g.length,hw.1,hw.2,g.length];simp
   rw[e];exact g
  .refine HT.gu C w pl pu (by rw[f];exact hw) ?_ (by rw[f];exact J);rw[f];have N:=I.aN.fresh (La _);refine⟨.ref s.heap.objs.size,_,I.laid (t':=s.toks) (o:=.tup (mm c lo hi)) (λb ob q=>KU _ q) (La _) ?_,rfl,q _ _ (.new N) (d8 (k:=k) l N (g.cut lo hi))⟩;exact⟨L_ (iL c lo hi) J,_,(r.drop (HT.bI c.length 0 lo)).take (HT.bI c.length c.length hi-HT.bI c.length 0 lo),Rq _ _⟩|lst E=>
  simp only[Is]at i;obtain⟨a,c,rfl,A,g⟩:=i;obtain⟨T,id,Z,ty,Y⟩:=q_ j s P H (.ref a) v S R lo hi U (λv G=>∃a c,v=.ref a/\G a=KJ (.lst c)/\∀o,Q v (upd G a (.b6 o (.lst c)))) I B w pl pu ⟨a,c,rfl,by rw[hK];exact A.2.sq,λp L=>⟨p,_,rfl,ai,λo=>by
   rw[cf];exact q _ _ (.new L) (bF (k:=k) l L (g.cut lo hi))⟩⟩;refine⟨T,id,Z,ty,aV Y λu s1⟨v,G,O,r,a,c,e,ha,V⟩=>?_⟩;obtain⟨_,m,n,rv,W⟩:=O.aN a _ ha;exact⟨v,_,O.freeze ha W (λ_ z=>nomatch z) (λ_ _ z=>nomatch z) (λ_ z=>nomatch z) (λ_ z=>nomatch z),r,V _⟩|str y=>
  simp only[Is]at i;subst i;obtain⟨t,rfl⟩:=B;exact⟨"str",_,PySem.F.slot_str_getitem.lookup,SF _ _ _,yd w pl pu q.1 λt' k'=>⟨.str _,H,I.tok _,⟨_,rfl⟩,q.2 _ H .refl (by simp only[Is])⟩⟩|_=>exact q.elim
theorem vg(b:DE X F e te)(j:DO X F lo tl)(hu:DO X F hi th):DE X F (.Subscript e (.Slice lo hi KP p2) pos) (λρ=>do let d<-te ρ;let l<-tl ρ;let u<-th ρ;EL l u d):=⟨b.hK,(nz (Ik b.hK) b.pe j.po hu.po).imp λt H Q a=>by
  obtain⟨ρ,k,S,h⟩:=a;refine cF.next S h λd x v B p s i o=>?_;refine EK.next s o λl w A f r n=>?_;refine EK.next r n λu g y c q m=>?_;exact⟨g,d,q.live,i.mono (f.trans c).kp,M.wk m λ_ _ z=>z.ext ((p.trans f).trans c)⟩⟩
noncomputable def EM:D->D->M D
 |.int i,.int j=>pure (.int (i+j))|.tup b,.tup a=>do M.need (b.length+a.length<=KZ);pure (.tup (b++a))|.lst b,.lst a=>do M.need (b.length+a.length<=KZ);pure (.lst (b++a))|_,_=>M.fail
theorem ye:eG X F (Nk .Add) EM:=⟨λG s σ H k x y v u d e Q I O N l hK E C q=>by cases d with
 |int i=>cases e with
  |int j=>
   simp only[Is]at E C;subst E C;obtain⟨t,rfl⟩:=O;obtain⟨t',rfl⟩:=N;exact add_int ⟨.int (i+j),H,I.tok _,⟨_,rfl⟩,q _ H .refl (by simp only[Is])⟩|_=>exact q.elim
 |tup w=>cases e with
  |tup W=>
   simp only[Is]at E C;obtain⟨a,A,rfl,K,p⟩:=E;obtain⟨L,f,rfl,m,c⟩:=C;cases O;cases N;obtain⟨h,R,Y,_⟩:=I.tuple (by rw[hK];exact K.2);obtain⟨g,B,p2,_⟩:=I.tuple (by rw[hK];exact m.2);by_cases Z:h=[]
   .subst Z;have T:A=[]:=R.qZ.mp rfl;subst T;have hd:w=[]:=List.length_eq_zero_iff.mp (by rw[<-p.length];rfl);subst hd;exact HT.vf Y p2 ⟨.ref L,H,I,rfl,q.2 _ H .refl (by simp only[Is];exact⟨L,f,rfl,m,c⟩)⟩
   .have S:A.length+f.length<=KZ:=by rw[p.length,c.length];exact q.1
    refine HT.xE Y p2 Z (λz=>?_) (λz=>?_) (by rw[<-R.length,<-B.length];exact S)
    .have T:f=[]:=B.qZ.mp z;subst T;have hd:W=[]:=List.length_eq_zero_iff.mp (by rw[<-c.length];rfl);subst hd;exact⟨.ref a,H,I,rfl,q.2 _ H .refl (by simp only[Is];exact⟨a,A,rfl,K,by rw[LF];exact p⟩)⟩
    .have hf:=I.aN.fresh (La _);refine⟨.ref s.heap.objs.size,_,I.laid (t':=s.toks) (o:=.tup (A++f)) (λb ob q=>KU _ q) (La _) ?_,rfl,q.2 _ _ (.new hf) (d8 (k:=k) l hf (p.append c))⟩;exact⟨by rw[L5];exact S,_,R.append B,Rq _ _⟩|_=>exact q.elim
 |lst w=>cases e with
  |lst W=>
   simp only[Is]at E C;obtain⟨a,A,rfl,K,p⟩:=E;obtain⟨L,f,rfl,m,c⟩:=C;cases O;cases N;obtain⟨o,U⟩:=K.2;obtain⟨o',J⟩:=m.2;obtain⟨_,z,h,n,r,e⟩:=I.aN a _ U;obtain⟨_,z2,g,n2,B,e2⟩:=I.aN L _ J;have l1:=r.length;have l2:=B.length;have S:A.length+f.length<=KZ:=by rw[p.length,c.length];exact q.1
   refine aV (PySem.P.add_list e e2 (Q:=EP X G σ λv V=>∃a w,v=.ref a/\V a=KJ (.lst w)/\∀o,Q v (upd V a (.b6 o (.lst w)))) ?_ (by rw[K6,K6];omega)) λu s1⟨v,V,I1,r,a,w,e,ha,q1⟩=>?_
   .have ea:h.toArray++g.toArray=(h++g).toArray:=by simp
    rw[ea];refine⟨.ref _,_,I.HR (t':=s.toks) (r.append B) (by rw[L5];omega),rfl,_,_,rfl,ai,λo=>?_⟩;rw[cf];exact q.2 _ _ (.new I.fresh) (bF (k:=k) l I.fresh (p.append c))
   .obtain⟨_,h,n,rv,ho⟩:=I1.aN a _ ha;exact⟨v,_,I1.freeze ha ho (λ_ z=>nomatch z) (λ_ _ z=>nomatch z) (λ_ z=>nomatch z) (λ_ z=>nomatch z),r,q1 _⟩|_=>exact q.elim
 |_=>exact q.elim⟩
noncomputable def EN:D->D->M D
 |.int i,.int j=>pure (.int (i-j))|_,_=>M.fail
theorem yf:eG X F (Nk .Sub) EN:=⟨λa s h H k x y v u d e Q I g f l hK c b q=>by cases d with
 |int i=>cases e with
  |int j=>
   simp only[Is]at c b;subst c b;obtain⟨t,rfl⟩:=g;obtain⟨m,rfl⟩:=f;exact sub_int ⟨.int (i-j),H,I.tok _,⟨_,rfl⟩,q _ H .refl (by simp only[Is])⟩|_=>exact q.elim
 |_=>exact q.elim⟩
theorem BN(f:DE X F e te):DE X F (.UnaryOp .USub e pos) (λρ=>do let i<-dm (<-te ρ);pure (.int (-i))):=⟨f.hK,(Ec AH f.pe).imp λl H Q a=>by
  obtain⟨ρ,k,S,h⟩:=a;refine cF.next S h λd m v j g n c b=>?_;obtain⟨i,rfl,b⟩:=ba.mp b;simp only[Is]at c;exact⟨i,c,b _ j g (by simp only[Is])⟩⟩
end
end L2
end
section
namespace ZP
open PySem PyProof.Rows
inductive jO(h:Lx)(i a:KY)(k:Nat)(xs:Array KO):Prop where|list(p:h.IsListIter i a k)(q:h.IsList a xs)|tup(p:h.IsTupleIter i a k)(q:h.IsTuple a xs)
theorem jO.keep{h h':Lx}{i a:KY}{k:Nat}{xs:Array KO}(x:jO h i a k xs)(f:∀o,h.get? i=KJ o->h'.get? i=KJ o)(ha:∀o,h.get? a=KJ o->h'.get? a=KJ o):jO h' i a k xs:=by cases x with
 |list p q=>
  obtain⟨o,e,r⟩:=p;obtain⟨b,d,c⟩:=q;exact .list ⟨o,f o e,r⟩ ⟨b,ha b d,c⟩|tup p q=>
  obtain⟨o,e,r⟩:=p;obtain⟨b,d,c⟩:=q;exact .tup ⟨o,f o e,r⟩ ⟨b,ha b d,c⟩
theorem jO.ext{h h':Lx}{i a b:KY}{k:Nat}{xs:Array KO}(x:jO h i a k xs)(e:O6 b h h')(n1:i≠b)(n2:a≠b):jO h' i a k xs:=x.keep (λo q=>e i o n1 q) (λo q=>e a o n2 q)
theorem jO.lt{h:Lx}{i a:KY}{k:Nat}{xs:Array KO}(x:jO h i a k xs):i<h.objs.size/\a<h.objs.size:=by cases x with
 |list p q=>
  obtain⟨o,e,r⟩:=p;obtain⟨d,b,c⟩:=q;exact⟨K8 e,K8 b⟩|tup p q=>
  obtain⟨o,e,r⟩:=p;obtain⟨d,b,c⟩:=q;exact⟨K8 e,K8 b⟩
section
variable{prog:Le}{w:Ly}{A:LC}{E:KO->KW->Prop}{s:KW}
theorem vh{it t:KY}{i:Nat}{xs:Array KO}{x:KO}{Q:KO->KW->Prop}(c:s.heap.IsTupleIter it t i)(h:s.heap.IsTuple t xs)(g:xs[i]?=KJ x)(j:∀h',h'.IsTupleIter it t (i+1)->Mu it s.heap h'->Q x {s with heap:=h'}):wpAny (K7 prog w) A (Lq (.ref it)) Q E s:=by
 obtain⟨o,a,e,hd⟩:=id c;obtain⟨k,b,_,nl,d⟩:=h;have f:s.TypeIs (.ref it) "tuple_iterator":=⟨o,a,e⟩;unfold Lq;refine KL (LM (name:=KN "__next__") f MN (LQ MN f OI ?_ (OB _)));show wpAny _ _ (QQ (.ref it) 0>>=_) _ _ s;refine KL (LO a hd (x:=.ref t) rfl ?_);show wpAny _ _ (if(Ln t==MH)=KQ then _ else _) _ _ s;rw[if_neg (show¬((Ln t==MH)=KQ)from Ld)];show wpAny _ _ (QQ (.ref it) 1>>=_) _ _ s;refine KL (LO a hd (x:=.int i 0) rfl ?_);show wpAny _ _ (seqItems? (.ref t)>>=_) _ _ s;refine KL (Me b d ?_);simp only[Nz,g];refine KL (Pu a hd (by simp) (KS ⟨x,rfl,KS (j _ ?_ (Na ..))⟩));exact⟨_,OU _ a (Q5 (OA hd _)),(R6 ..).trans e,by rw[OA hd];simp[OJ]⟩
theorem yg{it t:KY}{i:Nat}{xs:Array KO}{Q:KO->KW->Prop}(g:A.handled=KP)(d:s.heap.IsTupleIter it t i)(k:s.heap.IsTuple t xs)(j:xs[i]?=KP)(n:∀h' e,O6 it s.heap h'->(∃o,h'.get? e=KJ o/\o.cls=.type "StopIteration")->E (.ref e) {s with heap:=h'}):wpAny (K7 prog w) A (Lq (.ref it)) Q E s:=by
 obtain⟨o,b,l,hd⟩:=id d;obtain⟨p,c,_,nl,f⟩:=k;have h:s.TypeIs (.ref it) "tuple_iterator":=⟨o,b,l⟩;unfold Lq;refine KL (LM (name:=KN "__next__") h MN (LQ MN h OI ?_ (OB _)));show wpAny _ _ (QQ (.ref it) 0>>=_) _ _ s;refine KL (LO b hd (x:=.ref t) rfl ?_);show wpAny _ _ (if(Ln t==MH)=KQ then _ else _) _ _ s;rw[if_neg (show¬((Ln t==MH)=KQ)from Ld)];show wpAny _ _ (QQ (.ref it) 1>>=_) _ _ s;refine KL (LO b hd (x:=.int i 0) rfl ?_);show wpAny _ _ (seqItems? (.ref t)>>=_) _ _ s;refine KL (Me c f ?_);simp only[Nz,j];refine KL (Nj (KL (Pu b hd (by simp) ?_)));show wpAny _ _ (newExc (.type "StopIteration") []>>=_) _ _ _;refine KL ?_;simp only[newExc,newTuple];refine KL (LH ?_ (by size_fits));refine KL (m:=Pw _ _) (wpAny_of_eq (a:=MH) (by first|rfl|(simp only[Pw];rfl)) ?_);refine LH ?_ (by size_fits);simp only[raiseNew];refine KL (wpAny_handled ?_);first|rw[show A.in1.handled=KP from g]|rw[g]
 refine KL (KS (wpAny_throw ?_));exact n _ _ (((Na ..).extBut.push _).push _) ⟨_,Lb _ rfl,rfl⟩
theorem dM{i a:KY}{k:Nat}{xs:Array KO}{x:KO}{Q:KO->KW->Prop}(c:a≠i)(e:jO s.heap i a k xs)(f:xs[k]?=KJ x)(g:∀h',jO h' i a (k+1) xs->Mu i s.heap h'->Q x {s with heap:=h'}):wpAny (K7 prog w) A (Lq (.ref i)) Q E s:=by cases e with
 |list p q=>exact wpAny_nextOf_list_item p q f λh' d b=>g h' (.list d (q.extBut b.extBut c)) b|tup p q=>exact vh p q f λh' d b=>g h' (.tup d (q.extBut b.extBut c)) b
theorem ji{i a:KY}{k:Nat}{xs:Array KO}{Q:KO->KW->Prop}(d:A.handled=KP)(b:jO s.heap i a k xs)(c:xs[k]?=KP)(f:∀h' e,O6 i s.heap h'->(∃o,h'.get? e=KJ o/\o.cls=.type "StopIteration")->E (.ref e) {s with heap:=h'}):wpAny (K7 prog w) A (Lq (.ref i)) Q E s:=by cases b with
 |list p q=>exact wpAny_nextOf_list_end d p q c f|tup p q=>exact yg d p q c f
structure yh(h:Lx)(z TI TO i1 i2 a1 a2:KY)(k:Nat)(xs ys:Array KO)(f0:KO):Prop where
 zp:Sm h z TI TO f0
 ti:Oj h TI (.ref i1) (.ref i2)to:∃a b,Oj h TO a b
 s1:jO h i1 a1 k xs
 s2:jO h i2 a2 k ys
theorem vi{z TI TO g f a1 B:KY}{k:Nat}{xs ys:Array KO}{x y:KO}{Q:KO->KW->Prop}(D:Ov z TI TO g f a1 B)(Z:yh s.heap z TI TO g f a1 B k xs ys .none)(hx:xs[k]?=KJ x)(hy:ys[k]?=KJ y)(hQ:∀h',yh h' z TI TO g f a1 B (k+1) xs ys (OJ s.heap.objs.size)->Oj h' s.heap.objs.size x y->h'.objs.size=s.heap.objs.size+1->(∀c o,c≠z->c≠TO->c≠g->c≠f->s.heap.get? c=KJ o->h'.get? c=KJ o)->Q (.ref s.heap.objs.size) {s with heap:=h'}):wpAny (K7 prog w) A (Builtin.«zip.__next__» ⟨[.ref z],[]⟩) (λO s'=>∃v,O=.done (.ret v)/\Q v s') E s:=by
 obtain⟨r,t,⟨a,b,N⟩,h1,h2⟩:=Z;show wpAny _ _ (QQ (.ref z) 2>>=_) _ _ _;refine KL (LO r rfl (x:=.bool KR) rfl ?_);show wpAny _ _ (QQ (.ref z) 3>>=_) _ _ _;refine KL (LO r rfl (x:=.ref TI) rfl ?_);refine KL (Me t rfl ?_);show wpAny _ _ (Lz (.ref z)>>=_) _ _ _;refine KL ?_;unfold Lz;refine KL (LO r rfl (x:=.none) rfl (KS ?_));simp only[if_true];refine KL (Nj ?_);refine KL (LO r rfl (x:=.ref TO) rfl ?_);refine KL (MY r (by simp) λg1 I p=>?_);replace I:Sm g1 z TI TO .ellipsis:=I;refine KL ?_;simp only[Qf,List.zipIdx_nil,NZ,NN];refine KL (KL (P1 ?_));show wpAny _ _ (Lq (.ref g)>>=_) _ _ _;refine KL (dM D.l1i1 (h1.ext p.extBut D.i1z D.l1z) hx λg2 p2 n=>KS ?_);have T:Oj g2 TO a b:=n.extBut _ _ D.TOi1 (p.extBut _ _ D.TOz N);refine KL (Me T rfl ?_);refine KL (O7 T λY K m=>?_);replace K:Oj Y TO x b:=K;refine KL (Sn (KS ?_));refine KL (KL (P1 ?_));show wpAny _ _ (Lq (.ref f)>>=_) _ _ _;have q3:jO Y f B k ys:=((h2.ext p.extBut D.i2z D.l2z).ext n.extBut D.i12.symm D.l2i1).ext m.extBut D.TOi2.symm D.l2TO;refine KL (dM D.l2i2 q3 hy λg4 p4 l=>KS ?_);have S:Oj g4 TO x b:=l.extBut _ _ D.TOi2 K;refine KL (Me S rfl ?_);refine KL (O7 S λd F j=>?_);replace F:Oj d TO x y:=F;refine KL (Sn (KS (KS ?_)));refine KL (Me F rfl ?_);refine KL (Rk ?_);have W:d.objs.size=s.heap.objs.size:=by rw[j.1,l.1,m.1,n.1,p.1]
 have R:Sm d z TI TO .ellipsis:=j.extBut _ _ D.TOz.symm (l.extBut _ _ D.i2z.symm (m.extBut _ _ D.TOz.symm (n.extBut _ _ D.i1z.symm I)));have X:∀c o,c≠z->c≠TO->c≠g->c≠f->s.heap.get? c=KJ o->d.get? c=KJ o:=λc o i G c3 P e=>j.extBut _ _ G (l.extBut _ _ P (m.extBut _ _ G (n.extBut _ _ c3 (p.extBut _ _ i e))));have u1:jO d g a1 (k+1) xs:=((p2.ext m.extBut D.TOi1.symm D.l1TO).ext l.extBut D.i12 D.l1i2).ext j.extBut D.TOi1.symm D.l1TO;have u2:jO d f B (k+1) ys:=p4.ext j.extBut D.TOi2.symm D.l2TO;have J:Oj d TI (.ref g) (.ref f):=X _ _ D.TIz D.TITO D.TIi1 D.TIi2 t;have q:z<d.objs.size:=K8 R;show wpAny _ _ (Ol (.ref z) (.ref d.objs.size)>>=_) _ _ _;refine KL ?_;unfold Ol;have z6:Sm (d.push {cls:=.type "tuple",data:=.seq #[x,y]}) z TI TO .ellipsis:=KU _ R;refine KL (MY z6 (by simp) λg7 H M=>?_);replace H:Sm g7 z TI TO (OJ d.objs.size):=H;refine MY H (by simp) λu C L=>?_;replace C:Sm u z TI TO (OJ d.objs.size):=C;have h:∀c o,c≠z->d.get? c=KJ o->u.get? c=KJ o:=λc o i e=>L.extBut _ _ i (M.extBut _ _ i (KU _ e));have U:Oj u d.objs.size x y:=L.extBut _ _ (Ng q) (M.extBut _ _ (Ng q) (Lb _ rfl));have V:u.objs.size=d.objs.size+1:=by rw[L.1,M.1,Mq]
 rw[W]at C U V;refine KS ⟨_,rfl,?_⟩;show Q (.ref d.objs.size) _;rw[W];exact hQ u ⟨C,h _ _ D.TIz J,⟨_,_,h _ _ D.TOz F⟩,u1.keep (λo e=>h _ o D.i1z e) (λo e=>h _ o D.l1z e),u2.keep (λo e=>h _ o D.i2z e) (λo e=>h _ o D.l2z e)⟩ U V λc o i G c3 P e=>h c o i (X c o i G c3 P e)
theorem yi{z TI TO t m a1 H:KY}{k:Nat}{xs ys:Array KO}{Q:Fin->KW->Prop}(N:A.handled=KP)(D:Ov z TI TO t m a1 H)(Z:yh s.heap z TI TO t m a1 H k xs ys .none)(p:xs[k]?=KP\/ys[k]?=KP)(O:∀h' e,(∀c o,c≠z->c≠TO->c≠t->c≠m->s.heap.get? c=KJ o->h'.get? c=KJ o)->(∃o,h'.get? e=KJ o/\o.cls=.type "StopIteration")->E (.ref e) {s with heap:=h'}):wpAny (K7 prog w) A (Builtin.«zip.__next__» ⟨[.ref z],[]⟩) Q E s:=by
 obtain⟨n,C,⟨a,b,B⟩,P,T⟩:=Z;show wpAny _ _ (QQ (.ref z) 2>>=_) _ _ _;refine KL (LO n rfl (x:=.bool KR) rfl ?_);show wpAny _ _ (QQ (.ref z) 3>>=_) _ _ _;refine KL (LO n rfl (x:=.ref TI) rfl ?_);refine KL (Me C rfl ?_);show wpAny _ _ (Lz (.ref z)>>=_) _ _ _;refine KL ?_;unfold Lz;refine KL (LO n rfl (x:=.none) rfl (KS ?_));simp only[if_true];refine KL (Nj ?_);refine KL (LO n rfl (x:=.ref TO) rfl ?_);refine KL (MY n (by simp) λW r l=>?_);replace r:Sm W z TI TO .ellipsis:=r;refine KL ?_;simp only[Qf,List.zipIdx_nil,NZ,NN];refine KL (KL (P1 ?_));show wpAny _ _ (Lq (.ref t)>>=_) _ _ _;cases v:xs[k]? with
 |none=>
  refine KL (ji N (P.ext l.extBut D.i1z D.l1z) v λG e g y=>?_);obtain⟨u,d,f⟩:=y;have J:Sm G z TI TO .ellipsis:=g _ _ D.i1z.symm r;have i:e≠z:=λx=>by subst x;rw[J]at d;cases d;simp at f
  exact MY J (by simp) λF _ j=>O F e (λc o q _ c3 _ x=>j.extBut _ _ q (g _ _ c3 (l.extBut _ _ q x))) ⟨u,j.extBut _ _ i d,f⟩|some x=>
  have S:ys[k]?=KP:=by rcases p with h|h;rw[v]at h;cases h;exact h
  refine KL (dM D.l1i1 (P.ext l.extBut D.i1z D.l1z) v λG p2 g=>KS ?_);have K:Oj G TO a b:=g.extBut _ _ D.TOi1 (l.extBut _ _ D.TOz B);refine KL (Me K rfl ?_);refine KL (O7 K λF t3 j=>?_);refine KL (Sn (KS ?_));refine KL (KL (P1 ?_));show wpAny _ _ (Lq (.ref m)>>=_) _ _ _;have R:jO F m H k ys:=((T.ext l.extBut D.i2z D.l2z).ext g.extBut D.i12.symm D.l2i1).ext j.extBut D.TOi2.symm D.l2TO;refine KL (ji N R S λV e M y=>?_);obtain⟨u,d,f⟩:=y;have I:Sm V z TI TO .ellipsis:=M _ _ D.i2z.symm (j.extBut _ _ D.TOz.symm (g.extBut _ _ D.i1z.symm r));have i:e≠z:=λx=>by subst x;rw[I]at d;cases d;simp at f
  exact MY I (by simp) λU _ L=>O U e (λc o q Y c3 X x=>L.extBut _ _ q (M _ _ X (j.extBut _ _ Y (g.extBut _ _ c3 (l.extBut _ _ q x))))) ⟨u,L.extBut _ _ i d,f⟩
theorem jb{z TI TO b a a1 d:KY}{k:Nat}{xs ys:Array KO}{x y:KO}{Q:Option KO->KW->Prop}(D:Ov z TI TO b a a1 d)(Z:yh s.heap z TI TO b a a1 d k xs ys .none)(g:xs[k]?=KJ x)(f:ys[k]?=KJ y)(h:∀h',yh h' z TI TO b a a1 d (k+1) xs ys (OJ s.heap.objs.size)->Oj h' s.heap.objs.size x y->h'.objs.size=s.heap.objs.size+1->(∀c o,c≠z->c≠TO->c≠b->c≠a->s.heap.get? c=KJ o->h'.get? c=KJ o)->Q (KJ (.ref s.heap.objs.size)) {s with heap:=h'}):wpAny (K7 prog w) A (N4 (.ref z)) Q E s:=by
 have e:s.TypeIs (.ref z) "zip":=⟨_,Z.zp,rfl⟩;unfold N4;exact KL (N3 (LM (name:=KN "__next__") e Mk (LQ Mk e NU (vi D Z g f λh' l j c3 i=>KS (h h' l j c3 i)) (NO _))))
theorem eV{z TI TO f d a1 h:KY}{k:Nat}{xs ys:Array KO}{Q:Option KO->KW->Prop}(l:A.handled=KP)(D:Ov z TI TO f d a1 h)(Z:yh s.heap z TI TO f d a1 h k xs ys .none)(a:xs[k]?=KP\/ys[k]?=KP)(p:∀h',(∀c o,c≠z->c≠TO->c≠f->c≠d->s.heap.get? c=KJ o->h'.get? c=KJ o)->Q KP {s with heap:=h'}):wpAny (K7 prog w) A (N4 (.ref z)) Q E s:=by
 have g:s.TypeIs (.ref z) "zip":=⟨_,Z.zp,rfl⟩;unfold N4;refine KL (N3 (LM (name:=KN "__next__") g Mk (LQ Mk g NU (yi l D Z a λh' e j m=>?_) (NO _))));obtain⟨o,i,n⟩:=m;exact KL (NM (T:="StopIteration") (b:=KQ) ⟨o,i,n⟩ Ri (KS (p _ j)))
end
noncomputable def jP(tup:Bool)(a:KY):Mc:={cls:=.type (if tup then"tuple_iterator"else"list_iterator"),data:=.fields #[.ref a,.int 0 0]}
inductive Sq(h:Lx)(a:KY)(xs:Array KO):Bool->Prop where|list(q:h.IsList a xs):Sq h a xs KR|tup(q:h.IsTuple a xs):Sq h a xs KQ
theorem Sq.keep{h h':Lx}{a:KY}{xs:Array KO}{t:Bool}(x:Sq h a xs t)(ha:∀o,h.get? a=KJ o->h'.get? a=KJ o):Sq h' a xs t:=by cases x with
 |list q=>obtain⟨o,e,r⟩:=q;exact .list ⟨o,ha o e,r⟩|tup q=>obtain⟨o,e,r⟩:=q;exact .tup ⟨o,ha o e,r⟩
theorem Sq.lt{h:Lx}{a:KY}{xs:Array KO}{t:Bool}(x:Sq h a xs t):a<h.objs.size:=by cases x with
 |list q=>obtain⟨o,e,r⟩:=q;exact K8 e|tup q=>obtain⟨o,e,r⟩:=q;exact K8 e
theorem Sq.JO{h:Lx}{a i:KY}{xs:Array KO}{t:Bool}(x:Sq h a xs t)(e:h.get? i=KJ (jP t a)):jO h i a 0 xs:=by cases x with
 |list q=>exact .list ⟨_,e,rfl,rfl⟩ q|tup q=>exact .tup ⟨_,e,rfl,rfl⟩ q
theorem lI{prog:Le}{w:Ly}{A:LC}{E:KO->KW->Prop}{s:KW}{a:KY}{xs:Array KO}{t:Bool}{Q:KO->KW->Prop}(x:Sq s.heap a xs t)(h:Q (.ref s.heap.objs.size) {s with heap:=s.heap.push (jP t a)}):wpAny (K7 prog w) A (Sg (.ref a)) Q E s:=by cases x with
 |list q=>exact OP q h|tup q=>exact RR q h
noncomputable abbrev GP(h:Lx)(a:Bool)(a1:KY):Lx:=h.push (jP a a1)
noncomputable abbrev GQ(h:Lx)(b a:Bool)(a1 c:KY):Lx:=(GP h b a1).push (jP a c)
noncomputable abbrev GR(h:Lx)(a b:Bool)(a1 c:KY):Lx:=(GQ h a b a1 c).push {cls:=.type "tuple",data:=.seq #[.ref h.objs.size,.ref (GP h a a1).objs.size]}
noncomputable abbrev GS(h:Lx)(b a:Bool)(a1 c:KY):Lx:=(GR h b a a1 c).push {cls:=.type "tuple",data:=.seq #[.none,.none]}
noncomputable abbrev BO(h:Lx)(b a:Bool)(a1 c:KY):Lx:=(GS h b a a1 c).push {cls:=.type "zip",data:=.fields #[.none,.bool KR,.bool KR,.ref (GQ h b a a1 c).objs.size,.ref (GR h b a a1 c).objs.size]}
theorem yj(a1 b:KY)(xs ys:Array KO)(a c:Bool):Meets (Builtin.«zip.__new__» ⟨[.type "zip",.ref a1,.ref b],[]⟩) (λ_ R s=>Sq s.heap a1 xs a/\Sq s.heap b ys c/\R (.ok (.ret (.ref (GS s.heap a c a1 b).objs.size))) {s with heap:=BO s.heap a c a1 b}):=.of_wp λprog w A R s h=>by
  obtain⟨j,g,d,f,os⟩:=s;obtain⟨n,m,h⟩:=h;have i:=sub_zip;have l:Sq (Shared.heap ⟨j,g,d,f,os⟩) a1 xs a:=n;have k:Sq (Shared.heap ⟨j.push (jP a a1),g,d,f,os⟩) b ys c:=m.keep λo e=>KU _ e;wp_walk using lI l,lI k;exact⟨_,rfl,h⟩
theorem vj{prog:Le}{w:Ly}{A:LC}{E:KO->KW->Prop}{s:KW}{a1 a:KY}{xs ys:Array KO}{d f:Bool}{Q:KO->KW->Prop}(p:Sq s.heap a1 xs d)(n:Sq s.heap a ys f)(h:∀h' z TI TO m l,Ov z TI TO m l a1 a->yh h' z TI TO m l a1 a 0 xs ys .none->(∀c o,s.heap.get? c=KJ o->h'.get? c=KJ o)->(∀b∈[z,TI,TO,m,l],s.heap.objs.size<=b)->Q (.ref z) {s with heap:=h'}):wpAny (K7 prog w) A (call (.type "zip") [.ref a1,.ref a]) Q E s:=by
 refine callType_new PySem.F.called_zip (by decide) (PySem.F.typeCall_zip_2 _ _) (PySem.F.newCall_zip_2 _ _) (λobj=>PySem.F.args_object_init_3 obj _ _) PySem.F.entry_zip_new (yj a1 a xs ys d f) ⟨p,n,?_⟩;have j:(GP s.heap d a1).objs.size=s.heap.objs.size+1:=Mq ..;have i:(GQ s.heap d f a1 a).objs.size=s.heap.objs.size+2:=by rw[Mq,j]
 have g:(GR s.heap d f a1 a).objs.size=s.heap.objs.size+3:=by rw[Mq,i]
 have r:(GS s.heap d f a1 a).objs.size=s.heap.objs.size+4:=by rw[Mq,g]
 have k:∀c o,s.heap.get? c=KJ o->(BO s.heap d f a1 a).get? c=KJ o:=λc o x=>KU _ (KU _ (KU _ (KU _ (KU _ x))));have q:(BO s.heap d f a1 a).get? (GS s.heap d f a1 a).objs.size=KJ _:=Lb _ rfl;have t:(BO s.heap d f a1 a).get? (GR s.heap d f a1 a).objs.size=KJ _:=KU _ (Lb _ rfl);have u:(BO s.heap d f a1 a).get? (GQ s.heap d f a1 a).objs.size=KJ _:=KU _ (KU _ (Lb _ rfl));have v:(BO s.heap d f a1 a).get? (GP s.heap d a1).objs.size=KJ (jP f a):=KU _ (KU _ (KU _ (Lb _ rfl)));have y:(BO s.heap d f a1 a).get? s.heap.objs.size=KJ (jP d a1):=KU _ (KU _ (KU _ (KU _ (Lb _ rfl))));show _/\_;rw[i,g,r]at q;rw[j,i]at u;rw[g]at t;rw[j]at v;rw[r];refine⟨⟨_,q,rfl⟩,h _ _ _ _ _ _ (zipApart_new p.lt n.lt) ⟨q,u,⟨_,_,t⟩,(p.keep λo e=>k _ o e).JO y,(n.keep λo e=>k _ o e).JO v⟩ k λb hb=>?_⟩;simp only[MA,MK,or_false]at hb;rcases hb with rfl|rfl|rfl|rfl|rfl<;>first|exact La _|exact Qg _ _
end ZP
namespace L2
open PySem PySem.Spec PyProof.Rows ZP
noncomputable def Il(K:K2)(H:Hp)(a:KY)(xs:List V):Bool->Prop
 |false=>dF K H a xs|true=>gp K H a xs
section
variable{X:Cx}{pins:List (KY×Mc)}{σ:St}{H:Hp}{s:KW}
theorem Inv.JP{a:KY}{xs:List V}{t:Bool}(I:Inv X pins σ H s)(h:Il X.K H a xs t):∃b:List KO,aq xs b/\Sq s.heap a b.toArray t/\xs.length<=KZ:=by cases t with
 |false=>obtain⟨b,r,p,z⟩:=I.list h;exact⟨b,r,.list p.isList,z⟩|true=>obtain⟨b,r,p,z⟩:=I.tuple h;exact⟨b,r,.tup p,z⟩
theorem Inv.vk{fp:List KY}{h':Lx}{t':Nat}(I:Inv X pins σ H s)(d:∀b∈fp,dG X pins H b)(keep:∀c o,c∉fp->s.heap.get? c=KJ o->h'.get? c=KJ o):Inv X pins σ H {s with heap:=h',toks:=t'}:=I.call (h':=h') (g':=s.gens) (d':=s.drawn) (t':=t') (ch:=fp) (H':=H) ⟨λb o e n hb a=>keep b o a e,λb o e n hb a=>⟨o.slots,keep b o a e⟩,λb o e n a=>n,λb o e a=>⟨o,keep b o a e⟩,λb m e=>e,λb o u e=>e,λb ps e=>⟨#[],by rw[Array.append_empty];exact e⟩⟩ (λb o e=>(I.aN b o e).dW (λc v f q=>keep c v (λh=>by
   have g:=(d c h).1;rcases f with rfl|f;.rw[g]at e;cases e
   .rw[g]at f;cases f) q) (λ_ q=>q) λ_ _ q=>q) I.bare (λb hb=>by
   obtain⟨_,l,p,k,j,i⟩:=d b hb;exact⟨k,l,j,i⟩)
end
noncomputable def kT(xs ys:List D):List D:=List.zipWith (λx y=>D.tup [x,y]) xs ys
end L2
end
section
namespace L2
open PySem PySem.Spec PyProof.Rows ZP
noncomputable def vm(x:D):Prop:=∃k:List NK,x=.tup (k.map nD)
theorem fT{B:Fb}{H:Hp}{v:V}{k:Key}(h:Is B H v (kD k)):v=kV k:=by cases k with
 |inl i=>simp only[kD,Is]at h;exact h|inr x=>simp only[kD,Is]at h;exact h
theorem rB{B:Fb}{H:Hp}:∀{a:List V}{ks:List Key},ab B H a (ks.map kD)->a=ks.map kV
 |_,[],h=>by simp only[Nh,ab]at h;rw[h];rfl|_,k::ks,h=>by
  simp only[Ll,ab]at h;obtain⟨x,d,rfl,c,b⟩:=h;rw[fT c,rB b];rfl
theorem EO{B:Fb}{H:Hp}{v:V}{k:NK}(h:Is B H v (nD k)):DB B H v k:=by cases k with
 |inl k=>exact fT h|inr ks=>
  simp only[nD,Is]at h;obtain⟨a,d,rfl,c,b⟩:=h;exact⟨a,rfl,by rw[<-rB b];exact c⟩
theorem vn{B:Fb}{H:Hp}:∀{a:List V}{ks:List NK},ab B H a (ks.map nD)->Paired (DB B H) a ks
 |_,[],h=>by simp only[Nh,ab]at h;rw[h];exact .nil|_,k::ks,h=>by
  simp only[Ll,ab]at h;obtain⟨x,d,rfl,c,b⟩:=h;exact .cons (EO c) (vn b)
theorem key_is{B:Fb}{H:Hp}(k:Key):Is B H (kV k) (kD k):=by cases k<;>simp only[kD,kV,Is]
theorem rC{B:Fb}{H:Hp}:∀(ks:List Key),ab B H (ks.map kV) (ks.map kD)
 |[]=>.nil|k::ks=>.cons (key_is k) (rC ks)
theorem ER{B:Fb}{H:Hp}{v:V}{k:NK}(h:DB B H v k):Is B H v (nD k):=by cases k with
 |inl k=>rw[show v=kV k from h];exact key_is k|inr ks=>
  obtain⟨b,rfl,h⟩:=h;simp only[nD,Is];exact⟨b,_,rfl,h,rC ks⟩
theorem vo{B:Fb}{H:Hp}:∀{a:List V}{ks:List NK},Paired (DB B H) a ks->ab B H a (ks.map nD)
 |_,_,.nil=>.nil|_,_,.cons h t=>.cons (ER h) (vo t)
theorem d6.is{B:Fb}{H:Hp}{a:KY}{ks:List NK}(h:d6 B H a ks):Is B H (.ref a) (.tup (ks.map nD)):=by
 obtain⟨b,d,c⟩:=h;simp only[Is];exact⟨a,b,rfl,d,vo c⟩
theorem d6.of{B:Fb}{H:Hp}{v:V}{ks:List NK}(h:Is B H v (.tup (ks.map nD))):∃a,v=.ref a/\d6 B H a ks:=by
 simp only[Is]at h;obtain⟨a,b,rfl,d,c⟩:=h;exact⟨a,rfl,b,d,vn c⟩
theorem pZ{X:Cx}{F:Fb}{a:List (KY×Mc)}{d:St}{H:Hp}{s:KW}(I:Inv X a d H s)(hK:X.K=F.K):∀{xs:List V}{us:List KO}{ks:List NK},aq xs us->Paired (DB F H) xs ks->aJ X.prog X.w s.heap ks us
 |_,_,_,.nil,.nil=>.nil|_,_,.inl k::_,.cons r c,.cons h t=>by
  have h:_=kV k:=h;subst h;exact .sc (jA r) (pZ I hK c t)|_,_,.inr ks::_,.cons r c,.cons h t=>by
  obtain⟨b,rfl,hb⟩:=(show∃b,_=V.ref b/\TupAt F H b (ks.map kV)from h);cases(show _=Ln b from r);exact .tp (A9 I (by rw[hK];exact hb.2)) (pZ I hK c t)
theorem fD{X:Cx}{F:Fb}{b:List (KY×Mc)}{d:St}{H:Hp}{s:KW}{a:KY}{ks:List NK}(I:Inv X b d H s)(hK:X.K=F.K)(h:d6 F H a ks):bB X.prog X.w s.heap ks a:=by
 obtain⟨e,k,j⟩:=h;obtain⟨c,r,⟨o,i,g,n,f⟩,_⟩:=I.tuple (show gp X.K H a e by rw[hK];exact k.2);exact⟨o,c.toArray,n,i,g,f,by simpa using pZ I hK r j⟩
inductive T(α:Type)where|ok(a:α)|stuck|draw(n:Int)(k:Int->T α)|perm(l:List D)(k:List D->T α)
namespace T
variable{α β:Type}
protected def bind:T α->(α->T β)->T β
 |.ok a,f=>f a|.stuck,_=>.stuck|.draw n k,f=>.draw n λi=>(k i).bind f|.perm l k,f=>.perm l λi=>(k i).bind f
instance:Monad T where
 pure:=T.ok;bind:=T.bind
noncomputable def get:Option α->T α
 |some a=>.ok a|none=>.stuck
noncomputable def need(b:Bool):T Unit:=if b then .ok ()else .stuck
noncomputable def lJ(n:Int):M Int:=do
 M.need (0<n/\n<1073741824)M.tick 1;M.any λi=>0<=i/\i<n
noncomputable def aO:T α->M α
 |.ok a=>pure a|.stuck=>M.fail|.draw n k=>do let i<-lJ n;(k i).aO|.perm l k=>do let i<-M.any λi=>i.Perm l;(k i).aO
end T
theorem M.ext{b:Type}{m a:M b}(h:∀k Q E,m.run k Q E=a.run k Q E):m=a:=by
 obtain⟨r,p⟩:=m;obtain⟨c,d⟩:=a;have:r=c:=by funext k Q E;exact h k Q E
 subst this;rfl
theorem M.bind_assoc{c b d:Type}(m:M c)(f:c->M b)(g:b->M d):(m>>=f)>>=g=m>>=λa=>f a>>=g:=M.ext λ_ _ _=>rfl
namespace T
variable{α β:Type}
theorem cz(t:T α)(f:α->T β):(t>>=f).aO=t.aO>>=λa=>(f a).aO:=by
 show(T.bind t f).aO=_;induction t with
 |ok a=>rfl|stuck=>rfl|draw n k b=>
  show(lJ n>>=λi=>((k i).bind f).aO)=(lJ n>>=λi=>(k i).aO)>>=_;rw[M.bind_assoc];congr 1;funext i;exact b i|perm l k b=>
  show((M.any λi=>i.Perm l)>>=λi=>((k i).bind f).aO)=((M.any λi=>i.Perm l)>>=λi=>(k i).aO)>>=_;rw[M.bind_assoc];congr 1;funext i;exact b i
theorem gB:∀(t:T α){k Q E}(c:Xc->Nat->Prop),t.aO.run k Q E->t.aO.run k Q c
 |.ok a,_,_,_,_,h=>h|.stuck,_,_,_,_,h=>h.elim|.draw n f,k,Q,E,c,h=>by
  have h:(T.lJ n).run k (λi d=>(f i).aO.run d Q E) E:=h;show(T.lJ n).run k (λi d=>(f i).aO.run d Q c) c;obtain⟨j,g,e⟩:=h;exact⟨j,g,λd a b i p=>gB (f i) c (e d a b i p)⟩|.perm l f,k,Q,E,c,h=>λi p=>gB (f i) c (h i p)
theorem p_:∀(t:T α){k:Nat}{E:Xc->Nat->Prop},t.aO.run k (λ_ _=>False) E->False
 |.ok a,_,_,h=>h|.stuck,_,_,h=>h|.draw n f,k,E,h=>by
  have h:(T.lJ n).run k (λi b=>(f i).aO.run b (λ_ _=>False) E) E:=h;obtain⟨d,e,c⟩:=h;exact p_ (f 0) (c k (La _) (PK _) 0 ⟨PQ _,d.1⟩)|.perm l f,k,E,h=>p_ (f l) (h l (.refl l))
theorem yk(o:Option α):(T.get o).aO=M.get o:=by cases o<;>rfl
end T
noncomputable def Ref{a:Type}(t m:M a):Prop:=∀k Q E,t.run k Q E->m.run k Q E
theorem Ref.refl{a:Type}(m:M a):Ref m m:=λ_ _ _ h=>h
theorem Ref.of_eq{a:Type}{t m:M a}(h:t=m):Ref t m:=h▸.refl _
theorem Ref.bind{b c:Type}{t m:M b}{f g:b->M c}(h:Ref t m)(q:∀a,Ref (f a) (g a)):Ref (t>>=f) (m>>=g):=λk Q E z=>by
 refine h k _ E ?_;exact t.mono z (λa d y=>q a d Q E y) λ_ _ y=>y
theorem Ref.fail{a:Type}{m:M a}:Ref M.fail m:=λ_ _ _ h=>h.elim
theorem Ref.need{b:Bool}{P:Prop}(h:b=KQ->P):Ref (T.need b).aO (M.need P):=λk Q E z=>by
 unfold T.need at z;split at z;.rename_i hb;exact⟨h hb,z⟩
 .exact z.elim
theorem Ref.get{a:Type}{o:Option a}:Ref (T.get o).aO (M.get o):=.of_eq (T.yk o)
section
variable{X:Cx}{F:Fx}{e:K_}{es:List K_}{st:MU}{sts:List MU}
theorem DE.ref{t m:ah->M D}(h:DE X F e m)(r:∀ρ,Ref (t ρ) (m ρ)):DE X F e t:=⟨h.hK,h.pe.imp λa H Q⟨ρ,k,S,z⟩=>⟨ρ,k,S,r ρ _ _ _ z⟩⟩
theorem DT.ref{t m:ah->M Bool}(h:DT X F e m)(r:∀ρ,Ref (t ρ) (m ρ)):DT X F e t:=⟨h.hK,h.pt.imp λa H Q⟨ρ,k,S,z⟩=>⟨ρ,k,S,r ρ _ _ _ z⟩⟩
theorem tZ.ref{t m:ah->M Bool}(h:tZ X F e m)(r:∀ρ,Ref (t ρ) (m ρ)):tZ X F e t:=⟨h.hK,h.pw.imp λa H Q⟨ρ,k,S,z⟩=>⟨ρ,k,S,r ρ _ _ _ z⟩⟩
theorem DA.ref{t m:ah->M (List A)}(h:DA X F es m)(r:∀ρ,Ref (t ρ) (m ρ)):DA X F es t:=⟨h.hK,h.pa.imp λa H Q⟨ρ,k,S,z⟩=>⟨ρ,k,S,r ρ _ _ _ z⟩⟩
theorem DS.ref{t m:ah->M Fl}(h:DS X F st m)(r:∀ρ,Ref (t ρ) (m ρ)):DS X F st t:=⟨h.hK,h.ps.imp λZ a H⟨ρ,k,S,z⟩=>⟨ρ,k,S,r ρ _ _ _ z⟩⟩
theorem tY.ref{t m:ah->M Fl}(h:tY X F sts m)(r:∀ρ,Ref (t ρ) (m ρ)):tY X F sts t:=⟨h.hK,h.ps.imp λZ a H⟨ρ,k,S,z⟩=>⟨ρ,k,S,r ρ _ _ _ z⟩⟩
theorem DG.ref{tg:K_}{t m:D->ah->M ah}(h:DG X F tg m)(r:∀d ρ,Ref (t d ρ) (m d ρ)):DG X F tg t:=⟨h.hK,h.pg.imp λv a H Q⟨ρ,k,d,S,i,z⟩=>⟨ρ,k,d,S,i,r d ρ _ _ _ z⟩⟩
theorem xZ.ref{a:List K_}{t m:List D->ah->M ah}(h:xZ X F a m)(r:∀d ρ,Ref (t d ρ) (m d ρ)):xZ X F a t:=⟨h.hK,h.pg.imp λv b H Q⟨ρ,k,d,S,i,z⟩=>⟨ρ,k,d,S,i,r d ρ _ _ _ z⟩⟩
theorem DI.ref{tg iter:K_}{t m:ah->M (List D)}(h:DI X F tg iter m)(r:∀ρ,Ref (t ρ) (m ρ)):DI X F tg iter t:=⟨h.hK,h.pi.imp λa H R⟨ρ,k,S,z⟩=>⟨ρ,k,S,r ρ _ _ _ z⟩⟩
theorem pY.ref{ifs:List K_}{t m:ah->M Bool}(h:pY X F ifs m)(r:∀ρ,Ref (t ρ) (m ρ)):pY X F ifs t:=⟨h.hK,λa s b H Q I⟨ρ,k,S,z⟩=>h.pi a s b H Q I ⟨ρ,k,S,r ρ _ _ _ z⟩⟩
theorem DE.stuck(hK:X.K=F.K):DE X F e (λ_=>M.fail):=⟨hK,λa s b H Q I⟨c,k,S,z⟩=>z.elim⟩
theorem DT.stuck(hK:X.K=F.K):DT X F e (λ_=>M.fail):=⟨hK,λa s b H Q I⟨c,k,S,z⟩=>z.elim⟩
theorem DS.stuck(hK:X.K=F.K):DS X F st (λ_=>M.fail):=⟨hK,λa s b H Q I⟨c,k,S,z⟩=>z.elim⟩
theorem DI.stuck{tg iter:K_}(hK:X.K=F.K):DI X F tg iter (λ_=>M.fail):=⟨hK,λa s b H R I⟨c,k,S,z⟩=>z.elim⟩
theorem eG.ref{f:KO->KO->Py KO}{t:D->D->M D}(h:∀d e,∃m,eG X F f m/\Ref (t d e) (m d e)):eG X F f t:=⟨λa s b H k x y v u d e Q I g c l hK j i q=>by
 obtain⟨m,o,r⟩:=h d e;exact o.op a s b H k x y v u d e Q I g c l hK j i (r _ _ _ q)⟩
theorem bC.ref{f:KO}{t:List D->M D}(h:∀ds,∃m,bC X F f m/\Ref (t ds) (m ds)):bC X F f t:=⟨λa s b H k c d ds Q I g l hK i q=>by
 obtain⟨m,o,r⟩:=h ds;exact o.call a s b H k c d ds Q I g l hK i (r _ _ _ q)⟩
end
noncomputable def DF:D->Bool
 |.int _=>KQ|_=>KR
noncomputable def zQ:D->Bool
 |.int _=>KQ|.str _=>KQ|_=>KR
noncomputable def BP:D->Bool
 |.tup a=>a.all zQ|d=>zQ d
noncomputable def ym:D->Bool
 |.tup a=>a.all BP|_=>KR
noncomputable def iO:D->D->Bool
 |.int i,.int j=>decide (i=j)|.str x,.str y=>decide (x=y)|_,_=>KR
noncomputable def eW:List D->List D->Bool
 |[],[]=>KQ|x::b,y::a=>iO x y&&eW b a|_,_=>KR
noncomputable def vp:D->D->Bool
 |.tup b,.tup a=>eW b a|x,y=>iO x y
noncomputable def iP:List D->List D->Bool
 |[],[]=>KQ|x::b,y::a=>vp x y&&iP b a|_,_=>KR
noncomputable def eI:D->D->Bool
 |.tup b,.tup a=>iP b a|x,y=>iO x y
noncomputable def yn(x:D):Prop:=∃k:Key,x=kD k
theorem jj{x:D}(h:zQ x=KQ):∃k:Key,x=kD k:=by cases x<;>first|exact⟨.inl _,rfl⟩|exact⟨.inr _,rfl⟩|cases h
theorem lL:∀{xs:List D},xs.all zQ=KQ->∃ks:List Key,xs=ks.map kD
 |[],_=>⟨[],rfl⟩|x::xs,h=>by
  rw[NG,K0]at h;obtain⟨k,rfl⟩:=jj h.1;obtain⟨ks,rfl⟩:=lL h.2;exact⟨k::ks,rfl⟩
theorem vq{x:D}(h:BP x=KQ):∃k:NK,x=nD k:=by
 by_cases b:∃a,x=.tup a
 .obtain⟨a,rfl⟩:=b;obtain⟨ks,rfl⟩:=lL h;exact⟨.inr ks,rfl⟩
 .have h:zQ x=KQ:=by cases x<;>first|exact h|exact absurd ⟨_,rfl⟩ b
  obtain⟨k,rfl⟩:=jj h;exact⟨.inl k,rfl⟩
theorem jQ:∀{xs:List D},xs.all BP=KQ->∃ks:List NK,xs=ks.map nD
 |[],_=>⟨[],rfl⟩|x::xs,h=>by
  rw[NG,K0]at h;obtain⟨k,rfl⟩:=vq h.1;obtain⟨ks,rfl⟩:=jQ h.2;exact⟨k::ks,rfl⟩
theorem nP{x:D}(h:ym x=KQ):vm x:=by cases x<;>first|(obtain⟨ks,rfl⟩:=jQ h;exact⟨ks,rfl⟩)|cases h
theorem vt{l:List D}(h:l.all ym=KQ):∀x∈l,vm x:=λx a=>nP (List.all_eq_true.mp h x a)
theorem yo{l:List D}(h:l.all zQ=KQ):∀x∈l,yn x:=λx a=>jj (List.all_eq_true.mp h x a)
theorem jR(a b:Key):iO (kD a) (kD b)=KQ↔a=b:=by cases a<;>cases b<;>simp[kD,iO]
theorem lM:∀(a b:List Key),eW (a.map kD) (b.map kD)=KQ↔a=b
 |[],[]=>by simp[eW]|[],_::_=>by simp[eW]|_::_,[]=>by simp[eW]|x::a,y::b=>by simp[eW,jR,lM a b]
theorem jS(a b:Key):eI (kD a) (kD b)=decide (a=b):=by
 have:eI (kD a) (kD b)=iO (kD a) (kD b):=by cases a<;>cases b<;>rfl
 rw[this,MF,jR,decide_eq_true_iff]
theorem yp(a b:NK):vp (nD a) (nD b)=KQ↔a=b:=by cases a with
 |inl a=>cases b with
  |inl b=>
   have:vp (nD (.inl a)) (nD (.inl b))=iO (kD a) (kD b):=by cases a<;>cases b<;>rfl
   rw[this,jR];simp|inr b=>
   have:vp (nD (.inl a)) (nD (.inr b))=KR:=by cases a<;>rfl
   rw[this];simp
 |inr a=>cases b with
  |inl b=>
   have:vp (nD (.inr a)) (nD (.inl b))=KR:=by cases b<;>rfl
   rw[this];simp|inr b=>
   show eW (a.map kD) (b.map kD)=KQ↔_;rw[lM];simp
theorem nQ:∀(a b:List NK),iP (a.map nD) (b.map nD)=KQ↔a=b
 |[],[]=>by simp[iP]|[],_::_=>by simp[iP]|_::_,[]=>by simp[iP]|x::a,y::b=>by simp[iP,yp,nQ a b]
theorem jT(a b:List NK):eI (.tup (a.map nD)) (.tup (b.map nD))=decide (a=b):=by
 show iP _ _=_;rw[MF,nQ,decide_eq_true_iff]
noncomputable def aG:List D->List D->D->Option D
 |k::ks,v::a,d=>if eI k d then KJ v else aG ks a d|_,_,_=>KP
noncomputable def bN(ks:List D)(d:D):Bool:=ks.any λk=>eI k d
section
variable{P:Le}{w:Ly}{o:Mc}{us:List (Key×KO)}{xs:List (List NK×KY×KO)}{hp:Lx}{a:KY}
theorem g9.at(h:g9 P w o us)(e:hp.get? a=KJ o):hp.DictOf (ar P w) a us:=let⟨i,j,g,f,d,c,b⟩:=h;⟨o,i,j,e,g,f,d,c,b⟩
theorem g9.of(h:hp.DictOf (ar P w) a us):∃o,hp.get? a=KJ o/\g9 P w o us:=let⟨o,i,j,e,g,f,d,c,b⟩:=h;⟨o,e,i,j,g,f,d,c,b⟩
theorem g_.at(h:g_ P w o xs)(e:hp.get? a=KJ o)(k:∀x∈xs,(cu P w).is hp x.1 x.2.1):hp.DictOfH (cu P w) a xs:=let⟨g,i,f,d,c,b⟩:=h;⟨o,g,i,e,f,d,c,k,b⟩
theorem g_.of(h:hp.DictOfH (cu P w) a xs):∃o,hp.get? a=KJ o/\g_ P w o xs:=let⟨o,g,i,e,f,d,c,_,b⟩:=h;⟨o,e,g,i,f,d,c,b⟩
theorem ES(h:g9 P w o []):g_ P w o []:=by
 obtain⟨c,f,e,d,i,b,g⟩:=h;refine⟨c,f,e,d,?_,.nil⟩;generalize c.toList=l at b;cases b;rfl
theorem ET(h:g_ P w o []):g9 P w o []:=by
 obtain⟨c,i,g,f,d,j⟩:=h;have e:c.toList=[]:=d;refine⟨c,i,g,f,λk b=>?_,by rw[e];exact .nil,.nil⟩;rw[<-N_,e]at b;exact nomatch b
theorem g9.mD(h:g9 P w o us):∀v,o.data≠.cell v:=λv z=>by obtain⟨d,e,c,b,_⟩:=h;rw[b]at z;cases z
theorem g_.mD(h:g_ P w o xs):∀v,o.data≠.cell v:=λv z=>by obtain⟨d,e,c,b,_⟩:=h;rw[b]at z;cases z
end
section
variable{B:Fb}{H:Hp}{o:Mc}{ks:List D}{vs:List V}
theorem bq.EU(h:bq B H o ks vs)(b:∀x∈ks,yn x):∃(a:List (Key×V))(us:List (Key×KO)),KV a us/\g9 B.P B.w o us/\ks=a.map (λx=>kD x.1)/\vs=a.map (·.2):=by
 rcases h.2 with h|⟨a,f,d,c,g,rfl,rfl⟩;.exact h
 .cases a with
  |nil=>cases d;exact⟨[],[],.nil,ET c,rfl,rfl⟩|cons x r=>
   obtain⟨k,e⟩:=b _ K5;cases k<;>cases e
theorem bq.EV(h:bq B H o ks vs)(d:∀x∈ks,vm x):∃(a:List (List NK×KY×V))(xs:List (List NK×KY×KO)),KA a xs/\g_ B.P B.w o xs/\(∀x∈a,d6 B H x.2.1 x.1)/\ks=a.map (λx=>D.tup (x.1.map nD))/\vs=a.map (·.2.2):=by
 rcases h.2 with⟨a,j,g,f,rfl,rfl⟩|h;.cases a with
  |nil=>cases g;exact⟨[],[],.nil,ES f,λx c=>(nomatch c),rfl,rfl⟩|cons x r=>
   obtain⟨k,e⟩:=d _ K5;obtain⟨b,i⟩:=x;cases b<;>cases e
 .exact h
theorem lN{a:Type}[DecidableEq a]{k0 k:a}{v:V}{r:List (a×V)}:i_ ((k0,v)::r) k=if k0=k then KJ v else i_ r k:=by
 unfold i_;rw[NX];by_cases h:k0=k;.simp[h]
 .simp[h]
theorem zR{R:V->D->Prop}{k:Key}{e:D}:∀{a:List (Key×V)}{ds:List D},Paired R (a.map (·.2)) ds->aG (a.map λx=>kD x.1) ds (kD k)=KJ e->∃v,i_ a k=KJ v/\R v e
 |[],ds,_,q=>by cases ds<;>cases q|(k0,g)::r,d::ds,.cons f c,q=>by
  simp only[Ll,aG,jS]at q;rw[lN];by_cases b:k0=k
  .simp only[b,decide_true,if_true]at q⊢;cases q;exact⟨_,rfl,f⟩
  .simp only[b,decide_false,if_false]at q⊢;exact zR c q
theorem vv{k:Key}:∀(a:List (Key×V)),bN (a.map λx=>kD x.1) (kD k)=(i_ a k).isSome
 |[]=>rfl|(k0,d)::r=>by
  have b:=vv (k:=k) r;unfold bN at b⊢;rw[Ll,ND,b,lN,jS];by_cases c:k0=k<;>simp[c]
theorem jU{k0 k:List NK}{p:KY×KO}{r:List (List NK×KY×KO)}:SW ((k0,p)::r) k=if k0=k then KJ p else SW r k:=by
 unfold SW;rw[NX];by_cases h:k0=k;.simp[h]
 .simp[h]
theorem zS{R:V->D->Prop}{k:List NK}{e:D}:∀{a:List (List NK×KY×V)}{xs:List (List NK×KY×KO)}{ds:List D},KA a xs->Paired R (a.map (·.2.2)) ds->aG (a.map λx=>D.tup (x.1.map nD)) ds (.tup (k.map nD))=KJ e->∃p v,SW xs k=KJ p/\RelV v p.2/\R v e
 |[],_,ds,_,_,q=>by cases ds<;>cases q|(k0,n,j)::r,(m,b1,l)::xs,d::ds,.cons z t,.cons i h,q=>by
  obtain⟨c,g,b⟩:=z;simp only at c g b;subst c;simp only[Ll,aG,jT]at q;rw[jU];by_cases f:k0=k
  .simp only[f,decide_true,if_true]at q⊢;cases q;exact⟨_,_,rfl,b,i⟩
  .simp only[f,decide_false,if_false]at q⊢;exact zS t h q
theorem yq{k:List NK}:∀{a:List (List NK×KY×V)}{xs:List (List NK×KY×KO)},KA a xs->bN (a.map λx=>D.tup (x.1.map nD)) (.tup (k.map nD))=(SW xs k).isSome
 |[],_,.nil=>rfl|(k0,j,g)::r,(i,b1,h)::xs,.cons z t=>by
  obtain⟨b,f,e⟩:=z;simp only at b;subst b;have c:=yq (k:=k) t;unfold bN at c⊢;rw[Ll,ND,c,jU,jT];by_cases d:k0=k<;>simp[d]
end
section
variable{X:Cx}{F:Fx}{pins:List (KY×Mc)}{σ:St}{H:Hp}{s:KW}{a:KY}{o:Mc}{ks ds:List D}{vs:List V}{d e:D}{x:V}{v:KO}{A:LC}{E:KO->KW->Prop}
theorem sU.get(I:Inv X pins σ H s)(hK:X.K=F.K)(h:sU F.toFb H a o):s.heap.get? a=KJ o:=by
 obtain⟨_,_,⟨u,h⟩|h⟩:=h;.exact(I.aN a _ h).1
 .exact I.kK _ _ (by rw[hK];exact h)
theorem fE(I:Inv X pins σ H s)(hK:X.K=F.K):∀{b:List (List NK×KY×V)}{xs:List (List NK×KY×KO)},KA b xs->(∀x∈b,d6 F.toFb H x.2.1 x.1)->∀x∈xs,(cu X.prog X.w).is s.heap x.1 x.2.1
 |_,_,.nil,_,x,c=>nomatch c|(k0,n,k)::r,(m,b1,l)::xs,.cons z t,h,x,c=>by
  obtain⟨g,f,j⟩:=z;simp only at g f;subst g f;rcases List.mem_cons.mp c with rfl|c;.exact fD I hK (h _ K5)
  .exact fE I hK t (λy i=>h y (K4 _ i)) x c
noncomputable def kinds(ks:List D)(d:D):Prop:=(∀x∈ks,yn x)/\yn d\/(∀x∈ks,vm x)/\vm d
theorem vw(h:bq F.toFb H o ks vs)(c:s.heap.get? a=KJ o):s.TypeIs (.ref a) "dict":=by
 rcases h.2 with⟨_,_,_,⟨f,g,b,_⟩,_⟩|⟨_,_,_,⟨f,g,b,_⟩,_⟩;.exact⟨o,c,b.1⟩
 .exact⟨o,c,b.1⟩
theorem yr{R:V->D->Prop}{Q:KO->KW->Prop}(hu:A.units+2<L9)(I:Inv X pins σ H s)(hK:X.K=F.K)(hP:X.prog=F.P)(hw:X.w=F.w)(h:bq F.toFb H o ks vs)(B:s.heap.get? a=KJ o)(z:Paired R vs ds)(i:Is F.toFb H x d)(r:RelV x v)(c:kinds ks d)(C:aG ks ds d=KJ e)(q:∀y u n,Inv X pins σ H n->RelV y u->R y e->Q u n):wpAny (K7 X.prog X.w) A (ON (.ref a) v) Q E s:=by
 rcases c with⟨c,k,rfl⟩|⟨c,k,rfl⟩
 .obtain⟨g,G,M,ob,rfl,rfl⟩:=h.EU c;rw[<-hP,<-hw]at ob;obtain⟨y,m,l⟩:=zR z C;have:=fT i;subst this;obtain⟨J,j,f⟩:=ma.some_of (v:=y) (o:=Ru G k) (by rw[<-m];exact M.val k);exact wpAny_getItem_of (jA r) (ob.at B).mapOf j (q y J _ (I.tok _) f l)
 .obtain⟨g,O,t,ob,tp,rfl,rfl⟩:=h.EV c;rw[<-hP,<-hw]at ob;obtain⟨p,y,m,l,N⟩:=zS t z C;obtain⟨b,rfl,L⟩:=d6.of i;cases(show v=Ln b from r);exact wpAny_getItem_heap (fB hu) (fD I hK L) (ob.at B (fE I hK t tp)) m (q y _ _ (I.tok _) l N)
theorem vx{Q:KO->KW->Prop}(hu:A.units+2<L9)(I:Inv X pins σ H s)(hK:X.K=F.K)(hP:X.prog=F.P)(hw:X.w=F.w)(h:bq F.toFb H o ks vs)(m:s.heap.get? a=KJ o)(c:(a==Mx)=KR)(i:Is F.toFb H x d)(r:RelV x v)(f:kinds ks d)(q:∀j,Inv X pins σ H j->Q (.bool (bN ks d)) j):wpAny (K7 X.prog X.w) A (LA .In v (.ref a)) Q E s:=by
 rcases f with⟨f,k,rfl⟩|⟨f,k,rfl⟩
 .obtain⟨g,u,p,ob,rfl,rfl⟩:=h.EU f;rw[<-hP,<-hw]at ob;have:=fT i;subst this;refine wpAny_in_of (jA r) c (ob.at m).mapOf ?_;rw[<-(p.val k).lu,<-vv];exact q _ (I.tok _)
 .obtain⟨g,t,l,ob,tp,rfl,rfl⟩:=h.EV f;rw[<-hP,<-hw]at ob;obtain⟨b,rfl,n⟩:=d6.of i;cases(show v=Ln b from r);refine wpAny_in_heap (fB hu) (fD I hK n) c (ob.at m (fE I hK l tp)) ?_;rw[<-yq l];exact q _ (I.tok _)
theorem s_{Q:KO->KW->Prop}(hu:A.units+2<L9)(I:Inv X pins σ H s)(hK:X.K=F.K)(hP:X.prog=F.P)(hw:X.w=F.w)(h:bq F.toFb H o ks vs)(m:s.heap.get? a=KJ o)(c:(a==Mx)=KR)(i:Is F.toFb H x d)(r:RelV x v)(f:kinds ks d)(q:∀j,Inv X pins σ H j->Q (.bool (!bN ks d)) j):wpAny (K7 X.prog X.w) A (LA .NotIn v (.ref a)) Q E s:=by
 rcases f with⟨f,k,rfl⟩|⟨f,k,rfl⟩
 .obtain⟨g,u,p,ob,rfl,rfl⟩:=h.EU f;rw[<-hP,<-hw]at ob;have:=fT i;subst this;refine wpAny_notIn_of (jA r) c (ob.at m).mapOf ?_;rw[<-(p.val k).lu,<-vv];exact q _ (I.tok _)
 .obtain⟨g,t,l,ob,tp,rfl,rfl⟩:=h.EV f;rw[<-hP,<-hw]at ob;obtain⟨b,rfl,n⟩:=d6.of i;cases(show v=Ln b from r);refine wpAny_notIn_heap (fB hu) (fD I hK n) c (ob.at m (fE I hK l tp)) ?_;rw[<-yq l];exact q _ (I.tok _)
theorem BQ(h:bq F.toFb H o ks vs):∃b c,o.ExactDict/\o.data=.dict b c/\b.size=ks.length/\(b.size:Int)<2^63:=by
 have g:=h.1;rw[N8]at g;rcases h.2 with⟨f,l,m,⟨b,c,j,i,_,p,_⟩,rfl,_⟩|⟨f,k,n,⟨b,c,j,i,q,_⟩,_,rfl,_⟩
 .have:b.size=l.length:=by rw[<-p.length];simp
  have r:=Paired.length m;rw[Lv]at g;exact⟨b,c,j,i,by rw[Lv];omega,by omega⟩
 .have:b.size=k.length:=size_of_entries q;have r:=Paired.length n;rw[Lv]at g;exact⟨b,c,j,i,by rw[Lv];omega,by omega⟩
end
theorem Kp.own{B:Fb}{H:Hp}{k:Nat}{a:KY}{u o':HO}(j:a≠B.p)(hu:H a=KJ u)(ns:u.iM=KR):Kp B H k (upd H a o') k where
 keep:=λb o hb st e=>by
  by_cases c:b=a;.subst c;rw[hu]at e;cases e;rw[ns]at st;cases st
  .rw[af c];exact e
 live:=λh=>by rw[af (LS j)];exact h
 le:=La _;bJ:=λq d=>by
  obtain⟨f,i,r,⟨w,⟨o,g⟩,v,t,s,n⟩,m⟩:=d;have l:q≠a:=λz=>by rw[z,hu]at g;cases g;cases ns
  exact⟨f,i,r,⟨by rw[af (LS j)];exact w,⟨o,by rw[af l];exact g⟩,v,t,s,n⟩,m⟩
section
variable{X:Cx}{F:Fx}{pins:List (KY×Mc)}{σ:St}{H:Hp}{s:KW}{ρ:ah}{k:Nat}
theorem cv.ef{i:Nat}{d:D}{a:KY}{u o':HO}{w':W}(S:cv F ρ k σ H)(A:ρ[i]?=KJ (KJ (.own d)))(J:σ[i]?=KJ (KJ (.ref a)))(N:a≠F.p)(P:F.H0 a=KP)(hu:H a=KJ u)(ns:u.iM=KR)(hw:DC F (upd H a o') k (.ref a) w')(O:∀ks ds,w'≠.fK ks ds:=by intro _ _ z;cases z):cv F (ρ.set i (KJ w')) k σ (upd H a o'):=by
 have kp:Kp F.toFb H k (upd H a o') k:=Kp.own N hu ns;have I:i<ρ.length:=(List.getElem?_eq_some_iff.mp A).1;refine⟨by simp[S.len],λj x e=>?_,λt B x y v g c r G E s1=>?_,λt B ks ds w c r o=>?_,kp.live S.live,⟨λb o hb e=>?_,λh=>kp.live (S.ext.live h),S.ext.le,λq f=>kp.bJ q (S.ext.bJ q f)⟩,S.xP.trans kp⟩
 .rw[Mn]at e;by_cases C:i=j
  .subst C;rw[if_pos rfl,if_pos I]at e;cases e;exact⟨_,J,hw⟩
  .rw[if_neg C]at e;obtain⟨v,l,n⟩:=S.at_ j x e;refine⟨v,l,?_⟩;cases x with
   |d x=>exact Is.mono kp n|feed=>exact⟨n.1,kp.feed n.2⟩|own Q=>
    obtain⟨b,rfl,M,L,K⟩:=n;have m:b≠a:=λz=>by
     subst z;exact S.apart i j _ _ _ C A e rfl rfl J l
    exact⟨b,rfl,M,L,K.keep kp λo e=>by rw[af m];exact e⟩|fK ks ds=>exact absurd (S.alone j i ks ds _ e A rfl) C
 .rw[Mn]at c r;by_cases l:i=t
  .subst l;rw[if_neg g]at r;exact S.apart i B _ _ v g A r rfl E s1
  .rw[if_neg l]at c;by_cases n:i=B
   .subst n;exact S.apart t i _ _ v g c A G rfl s1
   .rw[if_neg n]at r;exact S.apart t B _ _ v g c r G E s1
 .rw[Mn]at c r;by_cases l:i=t
  .subst l;rw[if_pos rfl,if_pos I]at c;cases c;exact absurd rfl (O ks ds)
  .rw[if_neg l]at c;exact absurd (S.alone t i ks ds _ c A rfl) l
 .have m:b≠a:=λz=>by rw[z,P]at e;cases e
  rw[af m];exact S.ext.keep b o hb e
noncomputable def EW:D->Bool
 |.aR _ _=>KQ|_=>KR
structure EX(X:Cx)(F:Fx)(pins:List (KY×Mc))(σ:St)(H:Hp)(s:KW)(k:Nat)(a:KY)(d:D)(u:HO)(o:Mc):Prop where
 hu:H a=KJ u
 ns:u.iM=KR
 nt:∀xs,u≠.tup xs
 inv:Inv X pins σ (upd H a (.b6 o u)) s
 Im:Is F.toFb (upd H a (.b6 o u)) (.ref a) d
 n1:∀xs,X.gj a≠KJ (.tup xs)n2:∀ob v,X.gj a≠KJ (.b6 ob v)n3:∀ps,X.gj a≠KJ (.tW ps)nl:EW d=KQ->∀xs,u≠.lst xs
theorem fO.vy{d:D}{a:KY}(I:Inv X pins σ H s)(h:fO F H a d):∃u o,EX X F pins σ H s k a d u o:=by
  obtain⟨g,B,h⟩:=h;have base:∀{u:HO},H a=KJ u->u.iM=KR->(∀f,u≠.tup f)->(∀b v,u≠.b6 b v)->(∀ps,u≠.tW ps)->(∀f,X.gj a≠KJ (.tup f))/\(∀ob v,X.gj a≠KJ (.b6 ob v))/\∀ps,X.gj a≠KJ (.tW ps):=λ{u}hu ns nt q r=>⟨λf e=>by have:=I.base.iZ a f e;rw[hu]at this;cases this;exact nt _ rfl,λob v e=>by have:=I.base.gY a ob v e;rw[hu]at this;cases this;exact q _ _ rfl,λps e=>by obtain⟨m,this⟩:=I.base.i5 a ps e;rw[hu]at this;cases this;exact r _ rfl⟩;cases d with
  |lst y=>
    obtain⟨f,c,j⟩:=h;obtain⟨_,t,n,A,i⟩:=I.aN a _ c;obtain⟨b1,p,l⟩:=base c rfl (λ_ z=>nomatch z) (λ_ _ z=>nomatch z) (λ_ z=>nomatch z);refine⟨_,_,c,rfl,(λ_ z=>nomatch z),I.freeze c i (λ_ z=>nomatch z) (λ_ _ z=>nomatch z) (λ_ z=>nomatch z) (λ_ z=>nomatch z),?_,b1,p,l,λz=>nomatch z⟩;simp only[Is];exact⟨a,f,rfl,⟨g,_,ai⟩,j.mono (Kp.own (k:=k) g c rfl)⟩|aR ks y=>
    obtain⟨o,f,c,j,x,w⟩:=h;have i:s.heap.get? a=KJ o:=(I.aN a _ c).1;obtain⟨b1,p,l⟩:=base c rfl (λ_ z=>nomatch z) (λ_ _ z=>nomatch z) (λ_ z=>nomatch z);refine⟨_,o,c,rfl,(λ_ z=>nomatch z),I.freeze c i (λ_ z=>nomatch z) (λ_ _ z=>nomatch z) (λ_ z=>nomatch z) (λ_ z=>nomatch z),?_,b1,p,l,λ_ _ z=>nomatch z⟩;simp only[Is];exact⟨a,f,rfl,⟨o,⟨g,j,.inl ⟨_,ai⟩⟩,x.mono (Kp.own (k:=k) g c rfl)⟩,w.mono (Kp.own (k:=k) g c rfl)⟩|_=>exact h.elim
theorem Inv.gC{a:KY}{o:Mc}{u:HO}(I:Inv X pins σ H s)(f:H a=KJ (.b6 o u))(n1:∀xs,X.gj a≠KJ (.tup xs))(n2:∀ob v,X.gj a≠KJ (.b6 ob v))(n3:∀ps,X.gj a≠KJ (.tW ps)):Inv X pins σ (upd H a u) s:=by
 have ne:∀{b:KY},H b=KP->b≠a:=λ{b}n z=>by rw[z,f]at n;cases n
 have tp:∀b xs,H b=KJ (.tup xs)->(upd H a u) b=KJ (.tup xs):=λb xs e=>by rw[af (λz=>by rw[z,f]at e;cases e)];exact e
 have g:∀b x,H b=KJ (.own x)->(upd H a u) b=KJ (.own x):=λb x e=>by rw[af (λz=>by rw[z,f]at e;cases e)];exact e
 refine⟨I.ok,I.os,I.bare,⟨I.base.keep,I.base.slot,λb ob e n h=>?_,I.base.there,λb xs e=>tp b xs (I.base.iZ b xs e),λb ob v e=>?_,λb ps e=>?_⟩,I.loc,I.cell,?_,λx c e=>?_,λp i=>?_,λb v e=>?_,I.len⟩
 .have:=I.base.free b ob e n h;rw[af (ne this)];exact this
 .have q:=I.base.gY b ob v e;rw[af (λz=>by rw[z]at e;exact n2 _ _ e)];exact q
 .obtain⟨d,q⟩:=I.base.i5 b ps e;exact⟨d,by rw[af (λz=>by rw[z]at e;exact n3 _ e)];exact q⟩
 .rw[af (ne I.free)];exact I.free
 .rw[af (ne (I.cY x c e))];exact I.cY x c e
 .obtain⟨e,n,r⟩:=I.pin p i;exact⟨e,by rw[af (ne n)];exact n,r⟩
 .by_cases hb:b=a
  .subst hb;rw[ai]at e;cases e;exact(I.aN b _ f).2.dW (λ_ _ _ q=>q) (λc q=>g c _ q) tp
  .rw[af hb]at e;exact(I.aN b v e).dW (λ_ _ _ q=>q) (λc q=>g c _ q) tp
end
mutual
noncomputable def flat(l:Bool):D->Bool
 |.bx=>KQ|.bl _=>KQ|.int _=>KQ|.str _=>KQ|.tup a=>jV l a|.lst a=>l&&jV l a|_=>KR
noncomputable def jV(l:Bool):List D->Bool
 |[]=>KQ|x::a=>flat l x&&jV l a
end
section
variable{B:Fb}{H:Hp}{a:KY}{o:Mc}{u u':HO}
theorem TupAt.gC{b:KY}{xs:List V}(d:H a=KJ (.b6 o u))(nt:∀xs,u≠.tup xs)(h:TupAt B H b xs):TupAt B (upd H a u') b xs:=by
 refine⟨h.1,?_⟩;rcases h.2 with(c|⟨e,c⟩)|c;.exact .inl (.inl (by rw[af (λz=>by rw[z,d]at c;cases c)];exact c))
 .exact .inl (.inr ⟨e,by rw[af (λz=>by rw[z,d]at c;cases c;exact nt _ rfl)];exact c⟩)
 .exact .inr c
mutual
theorem Is.gC(c:H a=KJ (.b6 o u)){l:Bool}(nt:∀xs,u≠.tup xs)(nl:l=KQ->∀xs,u≠.lst xs):∀{d:D}{v:V},flat l d=KQ->Is B H v d->Is B (upd H a u') v d
 |.bx,_,_,h=>by simp only[Is]at h⊢;exact h|.bl _,_,_,h=>by simp only[Is]at h⊢;exact h|.int _,_,_,h=>by simp only[Is]at h⊢;exact h|.str _,_,_,h=>by simp only[Is]at h⊢;exact h|.tup _,_,f,h=>by
  simp only[Is]at h⊢;simp only[flat]at f;obtain⟨b,xs,j,i,g⟩:=h;exact⟨b,xs,j,i.gC c nt,ab.gC c nt nl f g⟩|.lst _,_,f,h=>by
  simp only[Is]at h⊢;simp only[flat,K0]at f;obtain⟨b,xs,j,⟨i,k,e⟩,g⟩:=h;exact⟨b,xs,j,⟨i,k,by rw[af (λz=>by rw[z,c]at e;cases e;exact nl f.1 _ rfl)];exact e⟩,ab.gC c nt nl f.2 g⟩|.aR _ _,_,f,_=>by simp[flat]at f
theorem ab.gC(b:H a=KJ (.b6 o u)){l:Bool}(nt:∀xs,u≠.tup xs)(nl:l=KQ->∀xs,u≠.lst xs):∀{ds:List D}{xs:List V},jV l ds=KQ->ab B H xs ds->ab B (upd H a u') xs ds
 |[],_,_,h=>by simp only[ab]at h⊢;exact h|d::ds,_,f,h=>by
  simp only[ab]at h⊢;simp only[jV,K0]at f;obtain⟨x,c,i,g,e⟩:=h;exact⟨x,c,i,Is.gC b nt nl f.1 g,ab.gC b nt nl f.2 e⟩
end
end
noncomputable def hU(ρ:ah)(i:Nat):Bool:=match ρ[i]? with
 |some (KJ (.own d))=>EW d|_=>KR
noncomputable def pD(i:Nat)(ρ:ah):ah:=match ρ[i]? with
 |some (KJ (.own d))=>ρ.set i (KJ (.d d))|_=>ρ
section
variable{X:Cx}{F:Fx}{e:K_}{st:MU}
theorem mE{ρ:ah}{i:Nat}{d:D}(h:ρ[i]?=KJ (KJ (.own d))):pD i ρ=ρ.set i (KJ (.d d)):=by unfold pD;rw[h]
theorem qb{ρ:ah}{i:Nat}(h:∀d,ρ[i]?≠KJ (KJ (.own d))):pD i ρ=ρ:=by
 unfold pD;split;.rename_i d e;exact absurd e (h d)
 .rfl
theorem qc(ρ:ah)(i:Nat):(∃d,ρ[i]?=KJ (KJ (.own d)))\/∀d,ρ[i]?≠KJ (KJ (.own d)):=by
 by_cases h:∃d,ρ[i]?=KJ (KJ (.own d));.exact .inl h
 .exact .inr λd e=>h ⟨d,e⟩
theorem DS.fz(i:Nat){t:ah->M Fl}(h:DS X F st t):DS X F st (λρ=>t (pD i ρ)):=by
 refine⟨h.hK,λb s j H Z I⟨ρ,k,S,z⟩=>?_⟩;rcases qc ρ i with⟨d,f⟩|f
 .obtain⟨v,l,a,rfl,g⟩:=S.at_ i _ f;obtain⟨u,o,c⟩:=fO.vy (k:=k) I g;have m:=S.ef (w':=.d d) f l g.1 g.2.1 c.hu c.ns c.Im;dsimp only at z;rw[mE f]at z;exact h.ps b s j _ Z c.inv ⟨_,k,m,M.wk z λp n q=>q.mono (Kp.own g.1 c.hu c.ns)⟩
 .dsimp only at z;rw[qb f]at z;exact h.ps b s j H Z I ⟨ρ,k,S,z⟩
theorem Ext.gC{H m:Hp}{k n:Nat}{a:KY}{u:HO}{o:Mc}(h:a≠F.p)(hu:H a=KJ u)(ns:u.iM=KR)(e:Ext F.toFb (upd H a (.b6 o u)) k m n):Ext F.toFb H k (upd m a u) n:=by
 have ha:m a=KJ (.b6 o u):=e.keep a _ h ai;have kp:Kp F.toFb H k (upd H a (.b6 o u)) k:=Kp.own h hu ns;refine⟨λb s hb q=>?_,λq=>by rw[af (LS h)];exact e.live (kp.live q),e.le,λq f=>?_⟩
 .by_cases c:b=a;.subst c;rw[ai,<-hu];exact q
  .rw[af c];exact e.keep b s hb (by rw[af c];exact q)
 .have t:q≠a:=λz=>by
   obtain⟨_,_,_,g,_⟩:=f;obtain⟨d,j⟩:=g.cs;rw[z,hu]at j;cases j;cases ns
  obtain⟨l,i,r,⟨B,⟨d,j⟩,A,y,x,w⟩,v⟩:=e.bJ q (kp.bJ q f);exact⟨l,i,r,⟨by rw[af (LS h)];exact B,⟨d,by rw[af t];exact j⟩,A,y,x,w⟩,v⟩
theorem DE.lO(i:Nat){t:ah->M D}(h:DE X F e t):DE X F e (λρ=>do let d<-t (pD i ρ);M.need (flat (hU ρ i) d=KQ);pure d):=by
 refine⟨h.hK,λc s r H Q I⟨ρ,k,S,z⟩=>?_⟩;rcases qc ρ i with⟨d,g⟩|g
 .obtain⟨v,B,a,rfl,l⟩:=S.at_ i _ g;obtain⟨u,o,b⟩:=fO.vy (k:=k) I l;have G:=S.ef (w':=.d d) g B l.1 l.2.1 b.hu b.ns b.Im;have z:(t (pD i ρ)).run k (λd f=>flat (hU ρ i) d=KQ/\qE F.toFb H k Q d f) F.E:=z;rw[mE g]at z;refine aV (h.pe c s r _ (λv j=>∃n d,Ext F.toFb (upd H a (.b6 o u)) k j n/\Is F.toFb j v d/\flat (hU ρ i) d=KQ/\qE F.toFb H k Q d n) b.inv ⟨_,k,G,M.wk z λd f q v j e p=>⟨f,d,e,p,q.1,q.2⟩⟩) λv s1 m=>?_;obtain⟨x,j,J,y,n,K,w,p,C,A⟩:=m;have ha:j a=KJ (.b6 o u):=w.keep a _ l.1 ai;exact⟨x,upd j a u,J.gC ha b.n1 b.n2 b.n3,y,A x _ (w.gC l.1 b.hu b.ns) (Is.gC ha b.nt (λz=>b.nl (by unfold hU at z;rw[g]at z;exact z)) C p)⟩
 .have z:(t (pD i ρ)).run k (λd f=>flat (hU ρ i) d=KQ/\qE F.toFb H k Q d f) F.E:=z;rw[qb g]at z;exact h.pe c s r H Q I ⟨ρ,k,S,M.wk z λd f q=>q.2⟩
theorem DT.lO(i:Nat){t:ah->M Bool}(h:DT X F e t):DT X F e (λρ=>t (pD i ρ)):=by
 refine⟨h.hK,λf s p H Q I⟨ρ,k,S,z⟩=>?_⟩;dsimp only at z;rcases qc ρ i with⟨d,j⟩|j
 .obtain⟨v,y,a,rfl,g⟩:=S.at_ i _ j;obtain⟨u,o,c⟩:=fO.vy (k:=k) I g;have A:=S.ef (w':=.d d) j y g.1 g.2.1 c.hu c.ns c.Im;rw[mE j]at z;refine aV (h.pt f s p _ (λb l=>∃n,Ext F.toFb (upd H a (.b6 o u)) k l n/\qT F.toFb H k Q b n) c.inv ⟨_,k,A,M.wk z λb x q l e=>⟨x,e,q⟩⟩) λb s1 m=>?_;obtain⟨l,B,n,r,w⟩:=m;have ha:l a=KJ (.b6 o u):=r.keep a _ g.1 ai;exact⟨upd l a u,B.gC ha c.n1 c.n2 c.n3,w _ (r.gC g.1 c.hu c.ns)⟩
 .rw[qb j]at z;exact h.pt f s p H Q I ⟨ρ,k,S,z⟩
end
section
variable{X:Cx}{F:Fx}
noncomputable def EY:D->D->M D
 |.aR ks a,d=>do M.need (kinds ks d);M.get (aG ks a d)|_,_=>M.fail
noncomputable def Io(X:Cx)(F:Fx):R2:=λx y H Q=>∃(R:V->D->Prop)(a:KY)(o:Mc)(ks f:List D)(c:List V)(d e:D),x=.ref a/\(∀b g s,Inv X b g H s->s.heap.get? a=KJ o)/\bq F.toFb H o ks c/\Paired R c f/\Is F.toFb H y d/\kinds ks d/\aG ks f d=KJ e/\∀z,R z e->Q z H
theorem vz(hu:X.A.units+2<L9)(hP:X.prog=F.P)(hw:X.w=F.w)(hK:X.K=F.K):uz X (Io X F):=λf g c s k H x y v u Q I z t h L=>by
 obtain⟨R,a,o,ks,V,T,d,e,rfl,C,q,D,G,M,O,N⟩:=h;cases(show v=Ln a from z);have n:=C _ _ _ I;have key:=yr (A:=X.A) (E:=X.xe) (Q:=λr m=>EP X c k Q r m) hu I hK hP hw q n D G t M O λl U m S B J=>⟨l,H,S,B,N l J⟩;have p:=vw q n;unfold RD;refine KL ?_;rw[getitemInPython_of_ne p.not_modules];refine KL (NY p PySem.F.slot_dict_getitem.lookup ?_);have i:wpAny (K7 X.prog X.w) X.A (Sk g KR (.ref a) u) (λr b=>wpAny (K7 X.prog X.w) X.A (letTemporaryGo f (.ref a) r>>=λ_=>pure r) (EP X c k Q) X.xe b) X.xe s:=by
  rw[L];exact wpAny_operating (ML key (λr b j=>KL (wpAny_letTemporaryGo (KS j))) λ_ _ x=>x)
 first
  |exact KS (KL i)|exact KL (KS (KL i))|exact KL i
theorem yt(hu:X.A.units+2<L9)(hP:X.prog=F.P)(hw:X.w=F.w):GN X F EY:=⟨λhK b c f s i H x y v u Q I p n h D=>by
 obtain⟨k,d,e,l,g,B,q⟩:=h;cases d with
 |aR ks K=>
  obtain⟨E,q⟩:=q;obtain⟨z,J,G⟩:=M.run_get.mp q;simp only[Is]at g;obtain⟨a,m,rfl,⟨o,r,L⟩,t⟩:=g;exact vz hu hP hw hK b c f s i H _ y v u Q I p n ⟨_,a,o,ks,K,m,e,z,rfl,λ_ _ _ I=>r.get I hK,L,t.pr,B,E,J,λj C=>G j H .refl C⟩ D|_=>exact q.elim⟩
noncomputable def EZ(neg:Bool):D->D->M D
 |d,.aR ks _=>do M.need (kinds ks d);pure (.bl (if neg then !bN ks d else bN ks d))|_,_=>M.fail
theorem BR(hu:X.A.units+2<L9)(hP:X.prog=F.P)(hw:X.w=F.w):eG X F (LA .In) (EZ KR):=⟨λb s p H k x y v u d e Q I h g l hK i f q=>by cases e with
 |aR ks B=>
  obtain⟨j,q⟩:=q;simp only[Is]at f;obtain⟨a,r,rfl,⟨o,c,m⟩,z⟩:=f;cases(show u=Ln a from g);exact vx hu I hK hP hw m (c.get I hK) c.2.1 i h j λt n=>⟨.bl (bN ks d),H,n,rfl,q _ H .refl (by simp only[Is];rfl)⟩|_=>exact q.elim⟩
theorem td(hu:X.A.units+2<L9)(hP:X.prog=F.P)(hw:X.w=F.w):eG X F (LA .NotIn) (EZ KQ):=⟨λb s p H k x y v u d e Q I h g l hK i f q=>by cases e with
 |aR ks B=>
  obtain⟨j,q⟩:=q;simp only[Is]at f;obtain⟨a,r,rfl,⟨o,c,m⟩,z⟩:=f;cases(show u=Ln a from g);exact s_ hu I hK hP hw m (c.get I hK) c.2.1 i h j λt n=>⟨.bl (!bN ks d),H,n,rfl,q _ H .refl (by simp only[Is];rfl)⟩|_=>exact q.elim⟩
noncomputable def Ip(K:K2)(H:Hp)(a:KY)(o:Mc):Prop:=(∃u,H a=KJ (.b6 o u))\/K.lookup a=KJ o
noncomputable def Kn(K:K2)(a:KY)(o:Mc)(b:List V):It:=⟨λi H=>Ip K H a o/\i<b.length,λi H x c=>c=H/\b[i]?=KJ x,λi H=>Ip K H a o/\b.length<=i⟩
theorem qd{P:Le}{w:Ly}{K:K2}{tg:K_}{a it:KY}{o:Mc}{f:List V}{l:Array OG}{S:Nat}(hd:o.data=.dict l S)(t:aq f (l.toList.map (·.key)))(W:a≠it):Turn P w K tg (Kn K a o f) [it] it (λi h=>h.IsKeyIter it a i l.size S)where
 mem:=by simp
 obj:=λi h st b hb=>by
  have e:b=it:=by simpa using hb
  subst e;obtain⟨o,e,c,d⟩:=st;exact⟨o,e,λv z=>by rw[d]at z;cases z⟩
 keep:=λi h r st k=>st.at λo e=>k it (by simp) o e;item:=by
  intro X hP hw hK R i j s M H E I q st B;obtain⟨g,Q⟩:=B;have Y:f.length=l.size:=by simpa using t.length
  have A:s.heap.get? a=KJ o:=by
   rcases g with⟨u,g⟩|g;.exact(I.aN a _ g).1
   .exact I.kK _ _ (by rw[hK];exact g)
  obtain⟨x,O⟩:∃x,f[i]?=KJ x:=⟨f[i],by simp[Q]⟩;obtain⟨y,N,U⟩:=t.get O;have n:i<l.size:=by omega
  have ey:y=l[i].key:=by
   rw[Lw,Mj,Mw n]at N;exact(K1 N).symm
  obtain⟨L,J,Z,G,D,C⟩:=q it (by simp);refine DictIt.rq st A hd n λr m T=>?_;have I1:Inv X j M H {s with heap:=r}:=I.turned (t':=s.toks) (λb o hb e=>(T.2 b hb).trans e) L J G D C;obtain⟨o',e,c,d⟩:=id m;exact⟨_,rfl,nv (s:={s with heap:=r}) e c d (by decide) ⟨x,H,I1,by rw[<-ey];exact U,⟨rfl,O⟩,m,λb hb=>(q b hb).1⟩⟩
 done:=by
  intro X hP hw hK R i j s M H E I q st B;obtain⟨g,Q⟩:=B;have Y:f.length=l.size:=by simpa using t.length
  have A:s.heap.get? a=KJ o:=by
   rcases g with⟨u,g⟩|g;.exact(I.aN a _ g).1
   .exact I.kK _ _ (by rw[hK];exact g)
  obtain⟨L,J,Z,G,D,C⟩:=q it (by simp);exact DictIt.uO (I.ok.hd R) st A hd (by omega) λr eb=>⟨rfl,I.turned (t':=s.toks) (λb o hb e=>eb b o hb e) L J G D C⟩
 self:=λ_ _ _ _ _ st h=>Rj st h
theorem lP{P:Le}{w:Ly}:∀{a:List (List NK×KY×V)}{xs:List (List NK×KY×KO)},KA a xs->aq (a.map λx=>V.ref x.2.1) ((xs.map (Sv (cu P w))).map (·.key))
 |_,_,.nil=>.nil|_,_,.cons z t=>.cons (show Ln _=_ by rw[z.2.1]) (lP t)
theorem jW{B:Fb}{H:Hp}:∀{a:List (List NK×KY×V)},(∀x∈a,d6 B H x.2.1 x.1)->ab B H (a.map λx=>V.ref x.2.1) (a.map λx=>D.tup (x.1.map nD))
 |[],_=>.nil|x::r,h=>.cons (h x K5).is (jW λy b=>h y (K4 _ b))
theorem jX{B:Fb}{H:Hp}:∀{a:List (Key×V)},ab B H (a.map λx=>kV x.1) (a.map λx=>kD x.1)
 |[]=>.nil|(k,v)::ks=>.cons (by cases k<;>simp only[kD,kV,Is]) jX
theorem nR{H:Hp}{o:Mc}{ks:List D}{g:List V}(h:bq F.toFb H o ks g):∃a b c,o.ExactDict/\o.data=.dict b c/\aq a (b.toList.map (·.key))/\ab F.toFb H a ks:=by
 rcases h.2 with⟨d,n,i,⟨b,c,f,e,_,k,_⟩,rfl,_⟩|⟨d,m,j,⟨b,c,f,e,l,_⟩,tp,rfl,_⟩;.exact⟨_,b,c,f,e,jH i k,jX⟩
 .exact⟨_,b,c,f,e,by rw[l];exact lP j,jW tp⟩
end
noncomputable def mF(X:Cx)(e:K_)(t:TE)(a:List (KY×Mc))(s:KW)(b:St)(H:Hp):Prop:=(∀Q,t b H Q->wpAny (K7 X.prog X.w) X.A (MW e X.env) (EP X a b Q) X.xe s)/\∀(x:Li)(c d:MB)(gt:TG)(D:Ends),N0 e (KJ (.Name x c)) d.line X.env=pure KQ->PG X (.Name x c) gt->AA t gt D b H->wpAny (K7 X.prog X.w) X.A (exec (.Assign [.Name x c] e d) X.env) (SP X a D) X.xe s
structure DU(X:Cx)(F:Fx)(e:K_)(t:ah->M D):Prop where
 hK:X.K=F.K
 pu:∀pins s σ H,Inv X pins σ H s->mF X e (cF F t) pins s σ H
section
variable{X:Cx}{F:Fx}{e:K_}{pins:List (KY×Mc)}{s:KW}{σ:St}{H:Hp}
theorem DU.de{t:ah->M D}(h:DU X F e t):DE X F e t:=⟨h.hK,λpins s σ H Q I q=>(h.pu pins s σ H I).1 Q q⟩
theorem DU.ref{t m:ah->M D}(h:DU X F e m)(r:∀ρ,Ref (t ρ) (m ρ)):DU X F e t:=⟨h.hK,λpins s σ H I=>⟨λQ⟨ρ,k,S,z⟩=>(h.pu pins s σ H I).1 Q ⟨ρ,k,S,r ρ _ _ _ z⟩,λx b a gt D c d⟨ρ,k,S,z⟩=>(h.pu pins s σ H I).2 x b a gt D c d ⟨ρ,k,S,r ρ _ _ _ z⟩⟩⟩
theorem nM.pu{cmp:Option (KO->Py Unit)->Py KO}{t:TE}(w:nM X cmp t)(E:MW e X.env=cmp KP)(g:∀u,evalThenUse e X.env u=(do let _<-cmp (KJ u)))(I:Inv X pins σ H s):mF X e t pins s σ H:=by
 refine⟨λQ z=>w.pe E pins s σ H Q I z,λx P p2 gt Z m B z=>?_⟩;rw[exec_Assign_Name_used _ _ _ _ m];refine KL (Om ?_);rw[g];refine KL (KL (w _ _ pins s σ H _ I z λD C j z=>?_));show wpAny (K7 X.prog X.w) X.A (PX (.Name x P) X.env (.ref D)) _ X.xe j;obtain⟨Y,M,q,R,a,l,c,f,le,T,k,G,J,y,h,o⟩:=z;have W:Inv X ((C,k)::pins) σ Y j:=M.dX λp r=>by
  rcases List.mem_cons.mp r with z|z
  .rw[z];exact⟨y,R,a,l,λv q=>by rw[h]at q;cases q⟩
  .exact M.pin p (Lj _ z)
 refine aV (B _ j σ _ (.ref D) (.ref D) Z.nx W rfl q) λ_ L i=>?_;obtain⟨d,N,K,O⟩:=i;obtain⟨U,S,_,_,_⟩:=K.pin (C,k) (Lj _ K5);refine⟨T,⟨k,G,J,U,h,o⟩,λh6 n=>KS (KS ?_)⟩;have V:Inv X pins d N L:=K.dX λp r=>K.pin p (Lj _ (K4 _ r));exact⟨d,N,V.turned (t':=L.toks) (it:=C) (λb ob hb e=>(n.2 b hb).trans e) S a (.inr le) c f,O⟩
theorem mF.imp{t t':TE}(h:mF X e t pins s σ H)(q:∀Q,t' σ H Q->t σ H Q):mF X e t' pins s σ H:=⟨λQ z=>h.1 Q (q Q z),λx b a gt D c d z=>h.2 x b a gt D c d (q _ z)⟩
noncomputable def Iq(t:TE):TE:=λσ H Q=>t σ H λv c=>∃a b,v=.ref a/\c a=KJ (.lst b)/\∀o,Q v (upd c a (.b6 o (.lst b)))
theorem BS{tg:K_}{gt:TG}(h:PG X tg gt):PG X tg (λv σ H Q=>∃a xs,v=.ref a/\H a=KJ (.lst xs)/\∀o,gt v σ (upd H a (.b6 o (.lst xs))) Q):=by
 intro pins s σ H v u Q I r⟨a,xs,e,ha,q⟩;obtain⟨_,b,n,d,c⟩:=I.aN a _ ha;exact h pins s σ _ v u Q (I.freeze ha c (λ_ z=>nomatch z) (λ_ _ z=>nomatch z) (λ_ z=>nomatch z) (λ_ z=>nomatch z)) r (q _)
theorem mF.b6{t:TE}(I:Inv X pins σ H s)(h:mF X e t pins s σ H):mF X e (Iq t) pins s σ H:=by
 refine⟨λQ z=>?_,λx g f gt D j l z=>h.2 x g f _ D j (BS l) z⟩;refine aV (h.1 _ z) λu s1 b=>?_;obtain⟨v,p,c,r,a,m,e,ha,d⟩:=b;obtain⟨_,i,n,o,k⟩:=c.aN a _ ha;exact⟨v,_,c.freeze ha k (λ_ z=>nomatch z) (λ_ _ z=>nomatch z) (λ_ z=>nomatch z) (λ_ z=>nomatch z),r,d _⟩
theorem yu(i:Nat){x:Li}{a pos:MB}{b:ah->M D}(hN:X.N.Nodup)(c:DU X F e b)(l:X.N[i]?=KJ x)(g:Loc X.env.scope x)(j:N0 e (KJ (.Name x a)) pos.line X.env=pure KQ)(m:X.fn x=KQ\/X.env.scope.names.lookup x=KJ .local):DS X F (.Assign [.Name x a] e pos) (λρ=>do let d<-b ρ;pure (.nx (ρ.set i (KJ (.d d))))):=by
 refine⟨c.hK,λpins s σ H Z I⟨ρ,k,S,h⟩=>(c.pu pins s σ H I).2 x a pos (kZ i) Z j (mh (i:=i) hN l g m) ?_⟩;refine cF.next S h λd r v q o p f n=>?_;exact n _ q o.kp (p.set i f)
end
section
variable{X:Cx}{F:Fx}{elt tg iter tg2 iter2:K_}{ifs ifs2:List K_}{pos:MB}{scope:MT}{g g2:D->ah->M ah}{tc tc2:ah->M Bool}{te:ah->M D}{tI tI2:ah->M (List D)}
theorem vA(own fr:List Li)(i:List Nat)(d:X.calm=KQ)(t:lD X.env.scope scope=KQ)(U:i.map (λj=>X.N[j]?)=fr.map KJ)(n:∀x∈fr,scope.names.lookup x=KJ .free)(m:i.Nodup)(hw:DI X F tg iter tI)(W:∀b f C fp s H,DG (eQ X b scope (own++fr) f C fp s H) F tg g)(V:∀b f C fp s H,pY (eQ X b scope (own++fr) f C fp s H) F ifs tc)(Y:∀b f C fp s H,DE (eQ X b scope (own++fr) f C fp s H) F elt te)(T:∀x,Nx iter X.env x=pure x):DU X F (.ListComp elt [⟨tg,iter,ifs,0⟩] scope pos) (λρ=>do let ds<-tI ρ;let r<-lE g tc te ds (cQ ρ own.length i);pure (.lst r)):=by
 refine⟨hw.hK,λb s E H I=>?_⟩;obtain⟨f,c⟩:=u9 I.ok t;have P:mF X (.ListComp elt [⟨tg,iter,ifs,0⟩] scope pos) (vc own.length i (Ih F tI) (Ic F g) (pP F tc) (g0 (cF F te)) [] .lst) b s E H:=(lF (ok:=GK) (ob0:={cls:=.type "list",dict:=KP,data:=.seq ([]:List KO).toArray}) (newAcc:=newObj (.type "list") (.seq #[])) (o:=HO.lst) (a0:=[]) (rd:=g0 (cF F te)) (body:=λD env=>do let _<-call (.builtin "list.append") [.ref D,<-MW elt env]) d c U n hw.pi rfl (lG rfl rfl) (λh=>LH h) (λa ob v⟨_,_,_,_,e⟩z=>by rw[e]at z;cases z) ⟨Mr _,[],_,.nil,rfl⟩ (λz=>nomatch z) (λ_ _ _=>rfl) (λ_ _ _=>rfl) (λ_ _ _=>rfl) (λb cs C fp s H=>(W b cs C fp s H).pg) (λb cs C fp s H=>(V b cs C fp s H).pi) (λb cs C fp s H D o=>lB o (Y b cs C fp s H).pe) nN T).pu rfl (λ_=>rfl) I;refine(P.b6 I).imp λQ l=>?_;obtain⟨ρ,k,S,h⟩:=l;refine⟨ρ,k,S,M.wk h λds k1 q J H1 y O=>?_⟩;have A:=(S.mono y).eQ own.length m;refine ya O A q λG Z B H' L w R K hz p u _=>⟨p,G,rfl,ai,λo=>?_⟩;rw[cf];exact K _ _ ((y.trans w).trans (.new u)) (bF (k:=L) (w.live A.live) u R)
end
noncomputable def gD:List D->List D->D->D->List D
 |k::ks,v::a,d,e=>(if eI k d then e else v)::gD ks a d e|_,_,_,_=>[]
noncomputable def putD(ks ds:List D)(d e:D):List D×List D:=if bN ks d then(ks,gD ks ds d e)else(ks++[d],ds++[e])
section
variable{B:Fb}{H:Hp}
theorem zT{R:V->D->Prop}{k:Key}{y:V}{e:D}(f:R y e):∀{a:List (Key×V)}{ds:List D},Paired R (a.map (·.2)) ds->Paired R ((a.map λb=>if b.1=k then(b.1,y)else b).map (·.2)) (gD (a.map λx=>kD x.1) ds (kD k) e)
 |[],_,.nil=>.nil|(k0,j)::r,d::ds,.cons i h=>by
  have c:=zT (k:=k) f h;simp only[Ll,gD,jS];by_cases g:k0=k
  .simp only[g,decide_true,if_true];exact .cons f c
  .simp only[g,decide_false,if_false];exact .cons i c
theorem zU{R:V->D->Prop}{k:List NK}{y:V}{e:D}(c:R y e):∀{a:List (List NK×KY×V)}{ds:List D},Paired R (a.map (·.2.2)) ds->Paired R ((a.map λx=>if x.1=k then(x.1,x.2.1,y)else x).map (·.2.2)) (gD (a.map λx=>D.tup (x.1.map nD)) ds (.tup (k.map nD)) e)
 |[],_,.nil=>.nil|(k0,j,i)::r,d::ds,.cons h g=>by
  have b:=zU (k:=k) c g;simp only[Ll,gD,jT];by_cases f:k0=k
  .simp only[f,decide_true,if_true];exact .cons c b
  .simp only[f,decide_false,if_false];exact .cons h b
theorem gE{f e:Type}{R:f->e->Prop}:∀{a:List f}{b:List e}{c:List f}{d:List e},Paired R a b->Paired R c d->Paired R (a++c) (b++d)
 |_,_,_,_,.nil,q=>q|_,_,_,_,.cons h t,q=>.cons h (gE t q)
theorem KA.xI{k:List NK}{y:V}{u:KO}(r:RelV y u):∀{a:List (List NK×KY×V)}{xs:List (List NK×KY×KO)},KA a xs->KA (a.map λx=>if x.1=k then(x.1,x.2.1,y)else x) (xs.map (putAt k u))
 |_,_,.nil=>.nil|(k0,j,f)::h,(i,b1,g)::xs,.cons z t=>by
  obtain⟨d,c,b⟩:=z;simp only at d c b;subst d c;refine .cons ?_ (KA.xI r t);by_cases e:k0=k;.simp only[e,if_true,putAt];exact⟨trivial,trivial,r⟩
  .simp only[e,if_false,putAt];exact⟨trivial,trivial,b⟩
end
section
variable{R:V->D->Prop}{X:Cx}{F:Fx}{pins:List (KY×Mc)}{σ:St}{H:Hp}{s:KW}{a:KY}{o:Mc}{ks ds:List D}{vs:List V}{d e:D}{x y:V}{v r:KO}{A:LC}{E:KO->KW->Prop}
noncomputable def nS(R:V->D->Prop)(F:Fx)(H:Hp)(ks ds:List D)(d e:D)(o':Mc):Prop:=(∃b,bq F.toFb H o' (putD ks ds d e).1 b/\Paired R b (putD ks ds d e).2)/\∀v,o'.data≠.cell v
theorem rD{b:List (Key×V)}{us:List (Key×KO)}{k:Key}{o':Mc}(h:KV b us)(i:b.length<KZ)(f:Paired R (b.map (·.2)) ds)(c:R y e)(g:RelV y r)(ob:g9 F.P F.w o' (stored us k r)):nS R F H (b.map λx=>kD x.1) ds (kD k) e o':=by
 refine⟨⟨(putK b k y).map (·.2),⟨?_,.inl ⟨putK b k y,_,h.put k g,ob,?_,rfl⟩⟩,?_⟩,ob.mD⟩
 .unfold putD;split;.simp;omega
  .simp;omega
 .unfold putD putK;rw[vv,<-jz];split
  .rw[LD];refine LY λx _=>?_;simp only[NJ];split<;>rfl
  .simp
 .unfold putD putK;rw[vv,<-jz];split;.exact zT c f
  .rw[M7];exact gE f (.cons c .nil)
theorem rE{c:List (List NK×KY×V)}{xs:List (List NK×KY×KO)}{k:List NK}{b:KY}{o':Mc}(g:KA c xs)(p:c.length<KZ)(n:Paired R (c.map (·.2.2)) ds)(tp:∀x∈c,d6 F.toFb H x.2.1 x.1)(t:d6 F.toFb H b k)(m:R y e)(l:RelV y r)(ob:g_ F.P F.w o' (Ss xs k b r)):nS R F H (c.map λx=>D.tup (x.1.map nD)) ds (.tup (k.map nD)) e o':=by
 have q:=yq (k:=k) g;by_cases f:(SW xs k).isSome=KQ
 .have j:Ss xs k b r=xs.map (putAt k r):=by unfold Ss;rw[if_pos f]
  have i:putD (c.map λx=>D.tup (x.1.map nD)) ds (.tup (k.map nD)) e=(c.map λx=>D.tup (x.1.map nD),gD (c.map λx=>D.tup (x.1.map nD)) ds (.tup (k.map nD)) e):=by unfold putD;rw[q,if_pos f]
  rw[j]at ob;refine⟨?_,ob.mD⟩;rw[i];refine⟨_,⟨by simp;omega,.inr ⟨c.map λx=>if x.1=k then(x.1,x.2.1,y)else x,_,KA.xI l g,ob,λx h=>?_,?_,rfl⟩⟩,zU m n⟩
  .obtain⟨z,p,rfl⟩:=List.mem_map.mp h;split<;>exact tp z p
  .rw[LD];refine LY λx _=>?_;simp only[NJ];split<;>rfl
 .have j:Ss xs k b r=xs++[(k,b,r)]:=by unfold Ss;rw[if_neg f]
  have i:putD (c.map λx=>D.tup (x.1.map nD)) ds (.tup (k.map nD)) e=(c.map (λx=>D.tup (x.1.map nD))++[.tup (k.map nD)],ds++[e]):=by unfold putD;rw[q,if_neg f]
  rw[j]at ob;refine⟨?_,ob.mD⟩;rw[i];refine⟨_,⟨by simp;omega,.inr ⟨c++[(k,b,y)],_,Paired.snoc g ⟨rfl,rfl,l⟩,ob,λx h=>?_,by simp,rfl⟩⟩,by rw[M7];exact gE n (.cons m .nil)⟩;rcases List.mem_append.mp h with z|z;.exact tp x z
  .rw[List.mem_singleton.mp z];exact t
theorem yv{Q:Unit->KW->Prop}(hu:A.units+1<L9)(I:Inv X pins σ H s)(hK:X.K=F.K)(hP:X.prog=F.P)(hw:X.w=F.w)(h:bq F.toFb H o ks vs)(J:s.heap.get? a=KJ o)(G:Paired R vs ds)(i:Is F.toFb H x d)(z:RelV x v)(C:R y e)(u:RelV y r)(g:kinds ks d)(j:ks.length<KZ)(q:∀h' o' L,Mu a s.heap h'->h'.get? a=KJ o'->nS R F H ks ds d e o'->Q () {s with heap:=h',toks:=L}):wpAny (K7 X.prog X.w) A (dictSet a v r) Q E s:=by
 rcases g with⟨g,k,rfl⟩|⟨g,k,rfl⟩
 .obtain⟨l,N,B,ob,rfl,rfl⟩:=h.EU g;rw[<-hP,<-hw]at ob;have:=fT i;subst this;rw[Lv]at j;refine wpAny_dictSet_pairs (hsz:=by rw[<-Paired.length B];omega) (jA z) (ob.at J) λh' f n=>?_;obtain⟨o',p,c⟩:=g9.of f;exact q h' o' _ n p (rD B j G C u (by rw[<-hP,<-hw];exact c))
 .obtain⟨l,M,m,ob,tp,rfl,rfl⟩:=h.EV g;rw[<-hP,<-hw]at ob;obtain⟨b,rfl,t⟩:=d6.of i;cases(show v=Ln b from z);rw[Lv]at j;refine wpAny_dictSet_heap (hsz:=by rw[<-Paired.length m];omega) (show(cu X.prog X.w).room A from hu) (fD I hK t) (ob.at J (fE I hK m tp)) λh' f n=>?_;obtain⟨o',p,c⟩:=g_.of f;exact q h' o' _ n p (rE m j G tp t C u (by rw[<-hP,<-hw];exact c))
theorem iQ{Q:Unit->KW->Prop}(hu:A.units+2<L9)(I:Inv X pins σ H s)(hK:X.K=F.K)(hP:X.prog=F.P)(hw:X.w=F.w)(h:bq F.toFb H o ks vs)(J:s.heap.get? a=KJ o)(G:Paired R vs ds)(i:Is F.toFb H x d)(z:RelV x v)(C:R y e)(u:RelV y r)(g:kinds ks d)(j:ks.length<KZ)(q:∀h' o' L,Mu a s.heap h'->h'.get? a=KJ o'->nS R F H ks ds d e o'->Q () {s with heap:=h',toks:=L}):wpAny (K7 X.prog X.w) A (setItem (.ref a) v r) Q E s:=by
 rcases g with⟨g,k,rfl⟩|⟨g,k,rfl⟩
 .obtain⟨l,N,B,ob,rfl,rfl⟩:=h.EU g;rw[<-hP,<-hw]at ob;have:=fT i;subst this;rw[Lv]at j;refine wpAny_setItem_pairs (hsz:=by rw[<-Paired.length B];omega) (jA z) (ob.at J) λh' f n=>?_;obtain⟨o',p,c⟩:=g9.of f;exact q h' o' _ n p (rD B j G C u (by rw[<-hP,<-hw];exact c))
 .obtain⟨l,M,m,ob,tp,rfl,rfl⟩:=h.EV g;rw[<-hP,<-hw]at ob;obtain⟨b,rfl,t⟩:=d6.of i;cases(show v=Ln b from z);rw[Lv]at j;refine wpAny_setItem_heap (hsz:=by rw[<-Paired.length m];omega) (fB hu) (fD I hK t) (ob.at J (fE I hK m tp)) λh' f n=>?_;obtain⟨o',p,c⟩:=g_.of f;exact q h' o' _ n p (rE m j G tp t C u (by rw[<-hP,<-hw];exact c))
end
theorem fN.E1{B:Fb}{H:Hp}{a:KY}{d:D}(h:fN B H a d):∃u,H a=KJ u:=by cases d with
 |lst e=>obtain⟨c,b,f⟩:=h;exact⟨_,b⟩|aR ks e=>obtain⟨o,c,b,_⟩:=h;exact⟨_,b⟩|_=>exact h.elim
noncomputable def vB(ρ:ah):Bool:=ρ.all λx=>match x with
 |some (.fK _ _)=>KR|_=>KQ
theorem vC{ρ:ah}(h:vB ρ=KQ){i:Nat}{ks ds:List D}:ρ[i]?≠KJ (KJ (.fK ks ds)):=λe=>by
 have:=List.all_eq_true.mp h _ (LV e);cases this
section
variable{X:Cx}{F:Fx}{σ:St}{H:Hp}{ρ:ah}{k:Nat}
theorem cv.mG{p:KY}{o':HO}{d:D}(S:cv F ρ k σ H)(i:Nat)(hN:vB ρ=KQ)(m:H p=KP)(h:fN F.toFb (upd H p o') p d):cv F (ρ.set i (KJ (.own d))) k (σ.set i (KJ (.ref p))) (upd H p o'):=by
 have r:=S.mono (Ext.new (F:=F.toFb) (k:=k) (o:=o') m);have ne:p≠F.p:=hJ S.live m;have G:F.H0 p=KP:=by cases e:F.H0 p with
  |none=>rfl|some o=>have:=S.ext.keep p o ne e;rw[m]at this;cases this
 have l:∀{j:Nat}{y:W},ρ[j]?=KJ (KJ y)->y.eR=KQ->σ[j]?≠KJ (KJ (.ref p)):=λ{j y}e o z=>by
  obtain⟨v,g,n⟩:=S.at_ j y e;rw[z]at g;cases g;cases y with
  |own K=>
   obtain⟨b,I,_,_,q⟩:=n;cases I;obtain⟨u,q⟩:=q.E1;rw[m]at q;cases q|fK ks J=>exact vC hN e|_=>cases o
 refine⟨by simp[S.len],λj x e=>?_,λt s x y v f a c B A s1=>?_,λt s ks J w a c o=>?_,r.live,r.ext,r.xP⟩
 .rw[Mn]at e⊢;by_cases C:i=j
  .subst C;rw[if_pos rfl]at e⊢;split at e
   .rename_i E;cases e;rw[if_pos (by rw[<-S.len];exact E)];exact⟨_,rfl,p,rfl,ne,G,h⟩
   .cases e
  .rw[if_neg C]at e⊢;exact r.at_ j x e
 .rw[Mn]at a c s1⊢;by_cases g:i=t
  .subst g;rw[if_pos rfl]at s1;rw[if_neg f]at c⊢;split at s1;.cases s1;exact l c A
   .cases s1
  .rw[if_neg g]at a s1;by_cases n:i=s
   .subst n;rw[if_pos rfl];split;.intro z;cases z;exact l a B s1
    .exactλz=>nomatch z
   .rw[if_neg n]at c⊢;exact S.apart t s x y v f a c B A s1
 .rw[Mn]at a;split at a;.split at a<;>cases a
  .exact absurd a (vC hN)
end
section
variable{X:Cx}{F:Fx}{e:K_}{es:List K_}{tas:ah->M (List A)}{ta tk:ah->M D}{pos pos' lp:MB}{x:Li}
theorem yw(i:Nat)(hN:X.N.Nodup)(ha:DA X F es tas)(n:X.N[i]?=KJ x)(m:Loc X.env.scope x)(o:X.fn x=KQ\/X.env.scope.names.lookup x=KJ .local):DS X F (.Assign [.Name x pos'] (.List es lp) pos) (λρ=>do M.need (vB ρ=KQ);let ds<-gx (<-tas ρ);M.need (ds.length<=KZ);pure (.nx (ρ.set i (KJ (.own (.lst ds)))))):=⟨ha.hK,(cD (i:=i) hN n m (ml ha.pa) rfl o).imp λZ t H a=>by
  obtain⟨ρ,k,S,hN,h⟩:=a;refine pB.next S h λu g f v r s j q=>?_;obtain⟨ds,rfl,c⟩:=bT q;obtain⟨l,c⟩:=c;have d:=bU j;refine⟨by rw[d.length];exact l,λp b=>?_⟩;exact c _ _ (r.trans (.new b)).kp (s.mG i hN b ⟨f,ai,d.mono (Ext.new (k:=g) b).kp⟩)⟩
noncomputable def bV:Mc:={cls:=.type "dict",dict:=KP,data:=.dict #[]}
theorem hV{B:Fb}{H:Hp}:bq B H bV [] []:=⟨Mr _,.inl ⟨[],[],.nil,⟨#[],0,⟨rfl,rfl,rfl⟩,rfl,λe a=>by simp at a,.nil,.nil⟩,rfl,rfl⟩⟩
theorem mH{P:Le}{w:Ly}{H:Hp}{h:Lx}{a:KY}{o:Mc}(e:h.get? a=KJ o):bo P w H h a (kL a o):=⟨e,⟨o,e⟩,λc b q st=>st _ q⟩
theorem yx(i:Nat)(hN:X.N.Nodup)(hK:X.K=F.K)(j:X.N[i]?=KJ x)(g:Loc X.env.scope x)(l:X.fn x=KQ\/X.env.scope.names.lookup x=KJ .local):DS X F (.Assign [.Name x pos'] (.Dict [] [] lp) pos) (λρ=>do M.need (vB ρ=KQ);pure (.nx (ρ.set i (KJ (.own (.aR [] [])))))):=by
 have pe:PE X (.Dict [] [] lp) (λ_ H Q=>∀p,H p=KP->(p==Mx)=KR->Q (.ref p) (upd H p (kL p bV))):=λc s f H Q I h=>wpAny_Dict_empty ⟨.ref s.heap.objs.size,_,I.laid (a:=s.heap.objs.size) (o:=kL s.heap.objs.size bV) (t':=s.toks) (λ_ _ q=>KU _ q) (La _) (mH (Lb _ rfl)),rfl,h _ (I.aN.fresh (La _)) (beq_eq_false_iff_ne.mpr (LS (Lu I.GI)))⟩;exact⟨hK,(cD (i:=i) hN j g pe rfl l).imp λZ f H⟨ρ,k,S,hN,h⟩p d b=>h _ _ (Ext.new (k:=k) d).kp (S.mG i hN d ⟨_,[],ai,b,hV,.nil⟩)⟩
noncomputable def eX(ρ:ah)(i:Nat):Option D:=match ρ[i]? with
 |some (KJ (.own d))=>KJ d|_=>KP
theorem cR{ρ:ah}{i:Nat}{d:D}(h:eX ρ i=KJ d):ρ[i]?=KJ (KJ (.own d)):=by
 unfold eX at h;split at h;.rename_i y e;cases h;exact e
 .cases h
noncomputable def jY:D->M (List D)
 |.lst a=>pure a|_=>M.fail
theorem dO{d:D}{k Q E}(h:(jY d).run k Q E):∃xs,d=.lst xs/\Q xs k:=by cases d with
 |lst xs=>exact⟨xs,rfl,h⟩|_=>exact h.elim
theorem BU(i:Nat){np q p:MB}(E:X.N[i]?=KJ x)(B:ni X.env.scope x)(hd:(x==("__debug__":Li))=KR)(m:(x==("__classdict__":Li))=KR)(ha:DE X F e ta)(C:(q.endLine==p.line)=KQ)(l:Lg [e] X.env=(KR,MW e X.env)::Lg [] X.env):DS X F (.Expr (.Call (.Attribute (.Name x np) "append" q) [e] [] p) pos) (λρ=>do
   let ds<-jY (<-M.get (eX ρ i))let d<-ta ρ;M.need (ds.length<KZ)pure (.nx (ρ.set i (KJ (.own (.lst (ds++[d]))))))):=by
 have pe:=ra (X:=X) (name:="append") (apos:=q) (cpos:=p) NP P2 (by rfl) lr (bP (pos:=np) E B hd m) (aQ ha.pe bQ l) rfl (by rw[l];rfl) C l rfl;refine⟨ha.hK,(me pe rfl).imp λZ I H⟨ρ,k,S,h⟩=>?_⟩;obtain⟨J,t,h⟩:=M.run_get.mp h;obtain⟨ds,rfl,h⟩:=dO h;obtain⟨v,g,a,rfl,b⟩:=S.at_ i _ (cR t);obtain⟨j,s,ix⟩:=b.2.2;refine⟨_,g,.inl ⟨rfl,j,.inl (.inl s)⟩,?_⟩;refine cF.next S h λd r u w o G y n=>?_;obtain⟨z,n⟩:=n;have c:=o.keep a _ b.1 s;have f:=ix.mono o.kp;refine⟨a,j,u,rfl,rfl,c,by rw[f.length];exact z,?_⟩;have kp:Kp F.toFb w r (upd w a (.lst (j++[u]))) r:=Kp.own b.1 c rfl;refine n _ _ (o.kp.trans kp) ?_;exact G.ef (cR t) g b.1 b.2.1 c rfl ⟨a,rfl,b.1,b.2.1,j++[u],ai,(f.append (.cons y .nil)).mono kp⟩
end
section
variable{X:Cx}{F:Fx}{e ke:K_}{ta tk:ah->M D}{pos pos' lp:MB}{x:Li}
theorem hW{c:List (KY×Mc)}{d:St}{H:Hp}{s:KW}{a:KY}{o o':Mc}{h':Lx}{tk:Nat}(I:Inv X c d H s)(e:H a=KJ (kL a o))(g:Mu a s.heap h')(f:h'.get? a=KJ o'):Inv X c d (upd H a (kL a o')) {s with heap:=h',toks:=tk}:=I.write (x:=a) (e:=a) (by rw[e];exact trivial) (.inl rfl) (λb u hb q=>(g.2 b hb).trans q) ⟨_,f⟩ (mH f)
noncomputable def rF:D->M (List D×List D)
 |.aR ks a=>pure (ks,a)|_=>M.fail
theorem tf{d:D}{k Q E}(h:(rF d).run k Q E):∃ks ds,d=.aR ks ds/\Q (ks,ds) k:=by cases d with
 |aR ks ds=>exact⟨ks,ds,rfl,h⟩|_=>exact h.elim
theorem BV(i:Nat){np:MB}(hu:X.A.units+2<L9)(hP:X.prog=F.P)(hw:X.w=F.w)(hi:X.N[i]?=KJ x)(hv:ni X.env.scope x)(hd:(x==("__debug__":Li))=KR)(Y:(x==("__classdict__":Li))=KR)(hk:DE X F ke tk)(ha:DE X F e ta)(hs:N0 e (KJ (.Subscript (.Name x np) ke pos')) pos.line X.env=pure KR):DS X F (.Assign [.Subscript (.Name x np) ke pos'] e pos) (λρ=>do
   let d<-ta ρ;let b<-rF (<-M.get (eX ρ i))let q<-tk ρ;M.need (b.1.length<KZ/\kinds b.1 q)pure (.nx (ρ.set i (KJ (.own (.aR (putD b.1 b.2 q d).1 (putD b.1 b.2 q d).2)))))):=by
 refine⟨ha.hK,λc s B H Z I⟨ρ,k,S,h⟩=>?_⟩;let R2:D->List D×List D->D->M Fl:=λd b q=>do
  M.need (b.1.length<KZ/\kinds b.1 q)pure (.nx (ρ.set i (KJ (.own (.aR (putD b.1 b.2 q d).1 (putD b.1 b.2 q d).2)))))
 let R:D->M Fl:=λd=>do
  let b<-rF (<-M.get (eX ρ i))let q<-tk ρ;R2 d b q
 refine Qx (aV (ha.pe c s B H (λu z=>∃d m,Ext F.toFb H k z m/\cv F ρ m B z/\Is F.toFb z u d/\(R d).run m (rj F Z H k) F.E) I (cF.next S h λd m u z e1 K U n=>⟨d,m,e1,K,U,n⟩)) λr s1⟨u,z,I1,ru,d,m,e1,K,U,n⟩=>?_) hs;obtain⟨d0,h0,n⟩:=M.run_get.mp n;obtain⟨ks,ds,rfl,n⟩:=tf n;obtain⟨v,G,a,rfl,l⟩:=K.at_ i _ (cR h0);refine aV (bP (pos:=np) hi hv hd Y c s1 B z (λv L=>v=.ref a/\L=z) I1 ⟨_,G,rfl,rfl⟩) λov s2 j=>?_;obtain⟨w,L,I2,Q,ew,eH⟩:=j;subst ew eH;cases(show ov=Ln a from Q);refine aV (hk.pe c s2 B L (λy t=>∃q g,Ext F.toFb L m t g/\cv F ρ g B t/\Is F.toFb t y q/\(R2 d (ks,ds) q).run g (rj F Z H k) F.E) I2 (cF.next K n λq g y t p S3 T J=>⟨q,g,p,S3,T,J⟩)) λkv s3 j=>?_;obtain⟨y,t,I3,ry,q,g,p,S3,T,J⟩:=j;obtain⟨⟨hz,W⟩,J⟩:=J;obtain⟨o,xs,ho,C,dd,ia⟩:=l.2.2;have f:=p.keep a _ l.1 ho;have V:s3.heap.get? a=KJ o:=(I3.aN a _ f).1;refine iQ (F:=F) hu I3 ha.hK hP hw (dd.mono p.kp) V (ia.mono p.kp).pr T ry (U.mono p.kp) ru W hz λh' o' tk sb eo po=>?_;obtain⟨⟨O,d1,d2⟩,_⟩:=po;replace d2:=jF d2;have kp:Kp F.toFb t g (upd t a (kL a o')) g:=Kp.own l.1 f rfl;refine⟨B,_,hW I3 f sb eo,J _ _ (((e1.trans p).kp).trans kp) ?_⟩;exact S3.ef (cR h0) G l.1 l.2.1 f rfl ⟨a,rfl,l.1,l.2.1,o',O,ai,C,d1.mono kp,d2.mono kp⟩
end
section
variable{X:Cx}{F:Fx}{e:K_}{ta:ah->M D}{pos pos' lp:MB}{x y:Li}
noncomputable def E2:V->List V->Hp->VK->Prop:=λx d H Q=>∃l b c a,x=.ref l/\d=[.ref b]/\H l=KJ (.lst c)/\Rd H b (.lst a)/\c.length+a.length<=KZ/\Q .bx (upd H l (.lst (c++a)))
theorem yy:HQ X "list.extend" E2:=by
 intro i s A H x G v J Q I k m h;obtain⟨l,b,E,B,rfl,rfl,j,t,K,q⟩:=h;cases k;obtain⟨u,rfl,o⟩:=m.one;cases o;obtain⟨z,c,n,r,L,e⟩:=I.AX j;obtain⟨C,a,n2,g,w⟩:=t.ok I.aN;have p:=g.length;have f:c.toArray.size+a.toArray.size<=KZ:=by rw[K6,K6];omega
 have d:¬(!c.toArray.isEmpty&&Ou (c.toArray.size+a.toArray.size))=KQ:=by
  rw[uA f,Bool.and_false];exact Ld
 refine RN P4 ⟨_,e,rfl⟩ PySem.F.entry_list_extend (PySem.F.args_list_extend_2 _ _) (AutoSeq1.list_extend_list_list_0 l c.toArray n b a.toArray n2 d (by rw[K6];omega) (by omega)) ⟨e,w,?_⟩;refine⟨.bx,_,I.AW (its':=c++a) j e (by simp) (r.append g) ?_,rfl,q⟩;rw[L5];omega
theorem BW(i:Nat){np t s:MB}(L:X.N[i]?=KJ x)(J:ni X.env.scope x)(hd:(x==("__debug__":Li))=KR)(p:(x==("__classdict__":Li))=KR)(ha:DE X F e ta)(K:(t.endLine==s.line)=KQ)(o:Lg [e] X.env=(KR,MW e X.env)::Lg [] X.env):DS X F (.Expr (.Call (.Attribute (.Name x np) "extend" t) [e] [] s) pos) (λρ=>do
   let ds<-jY (<-M.get (eX ρ i))let q<-jY (<-ta ρ)M.need (ds.length+q.length<=KZ)pure (.nx (ρ.set i (KJ (.own (.lst (ds++q))))))):=by
 have pe:=ra (X:=X) (name:="extend") (apos:=t) (cpos:=s) NP P4 (by rfl) yy (bP (pos:=np) L J hd p) (aQ ha.pe bQ o) rfl (by rw[o];rfl) K o rfl;refine⟨ha.hK,(me pe rfl).imp λZ P H⟨ρ,k,S,h⟩=>?_⟩;obtain⟨Q,C,h⟩:=M.run_get.mp h;obtain⟨ds,rfl,h⟩:=dO h;obtain⟨v,j,a,rfl,c⟩:=S.at_ i _ (cR C);obtain⟨m,B,ix⟩:=c.2.2;refine⟨_,j,.inl ⟨rfl,m,.inl (.inl B)⟩,?_⟩;refine cF.next S h λd w u E r O A l=>?_;obtain⟨q,rfl,l⟩:=dO l;obtain⟨I,l⟩:=l;have f:=r.keep a _ c.1 B;have g:=ix.mono r.kp;simp only[Is]at A;obtain⟨b,n,rfl,G,z⟩:=A;refine⟨a,b,m,n,rfl,rfl,f,.inr G.2,by rw[g.length,z.length];exact I,?_⟩;have kp:Kp F.toFb E w (upd E a (.lst (m++n))) w:=Kp.own c.1 f rfl;refine l _ _ (r.kp.trans kp) ?_;exact O.ef (cR C) j c.1 c.2.1 f rfl ⟨a,rfl,c.1,c.2.1,m++n,ai,(g.append z).mono kp⟩
end
section
variable{X:Cx}{F:Fx}
variable{o e:K_}{es:List K_}{to:ah->M D}{tas:ah->M (List A)}{name:Li}{ap cp:MB}{T id:String}{rc:D->Bool}{m:D->List D->M D}
noncomputable def isStr:D->Bool
 |.str _=>KQ|_=>KR
end
noncomputable def JQ(x:Li):It:=⟨λi _=>i<x.cps.size,λi H v a=>a=H/\∃c,x.cps[i]?=KJ c/\v=.str ⟨#[c]⟩,λi _=>x.cps.size<=i⟩
theorem nT{P:Le}{w:Ly}{K:K2}{tg:K_}{it:KY}{x:Li}{t:SN}{ty:String}(m:["enumerate","zip","dict_itemiterator","dict_reverseitemiterator","odict_iterator","itertools.zip_longest","itertools.pairwise"].contains ty=KR)(L:∀{A:LC}{E:KO->KW->Prop}{s:KW}{i c:Nat}{Q:Option KO->KW->Prop},s.heap.IsStrIter it ty x t i->x.cps[i]?=KJ c->(∀h',h'.IsStrIter it ty x t (i+1)->Mu it s.heap h'->Q (KJ (.str ⟨#[c]⟩ s.toks)) {s with heap:=h',toks:=s.toks+1})->wpAny (K7 P w) A (N4 (.ref it)) Q E s)(M:∀{A:LC}{E:KO->KW->Prop}{s:KW}{i:Nat}{Q:Option KO->KW->Prop},A.handled=KP->s.heap.IsStrIter it ty x t i->x.cps[i]?=KP->(∀h',O6 it s.heap h'->Q KP {s with heap:=h'})->wpAny (K7 P w) A (N4 (.ref it)) Q E s)(J:∀{A:LC}{E:KO->KW->Prop}{s:KW}{i:Nat}{Q:KO->KW->Prop},s.heap.IsStrIter it ty x t i->Q (.ref it) s->wpAny (K7 P w) A (Sg (.ref it)) Q E s):Turn P w K tg (JQ x) [it] it (λi h=>h.IsStrIter it ty x t i)where
 mem:=by simp
 obj:=λi h st b hb=>by
  have e:b=it:=by simpa using hb
  subst e;obtain⟨o,e,c,d⟩:=st;exact⟨o,e,λv z=>by rw[d]at z;cases z⟩
 keep:=λi h h' st k=>by
  obtain⟨o,e,r⟩:=st;exact⟨o,k it (by simp) o e,r⟩
 item:=by
  intro X hP hw hK F i g s C H E I l st n;subst hP hw hK;obtain⟨B,y,N,u,q,p⟩:=l it (by simp);have D:x.cps[i]?=KJ x.cps[i]:=Mw n;refine L st D λh' j G=>?_;have R:Inv X g C H {s with heap:=h',toks:=s.toks+1}:=I.turned (t':=s.toks+1) (λb o hb e=>(G.2 b hb).trans e) B y u q p;obtain⟨o,e,c,d⟩:=id j;exact⟨_,rfl,nv (s:={s with heap:=h',toks:=s.toks+1}) e c d m ⟨.str ⟨#[x.cps[i]]⟩,H,R,⟨_,rfl⟩,⟨rfl,_,D,rfl⟩,j,λb hb=>(l b hb).1⟩⟩
 done:=by
  intro X hP hw hK F i g s C H E I l st n;subst hP hw hK;obtain⟨B,y,N,u,q,p⟩:=l it (by simp);exact M (I.ok.hd F) st (NS n) λh' O=>⟨rfl,I.turned (t':=s.toks) (λb o hb e=>O b o hb e) B y u q p⟩
 self:=λ_ _ _ _ _ st h=>J st h
noncomputable def xl(x:Li):List D:=x.cps.toList.map λc=>.str ⟨#[c]⟩
theorem nU{B:Fb}{H:Hp}{k:Nat}{x:Li}(h:x.length<=KZ):sY B (JQ x) (xl x) H k where
 step:=λj d i g hd e l=>by
  unfold xl at hd;rw[Lw]at hd;cases b:x.cps.toList[j]? with
  |none=>rw[b]at hd;cases hd|some c=>
   rw[b]at hd;cases hd;have a:x.cps[j]?=KJ c:=by simpa using b
   refine⟨(Array.getElem?_eq_some_iff.mp a).1,λy n z=>?_⟩;obtain⟨rfl,m,f,rfl⟩:=z;rw[a]at f;cases f;exact⟨.refl,by simp only[Is]⟩
 stop:=λi g e l=>by
  show x.cps.size<=(xl x).length;simp[xl]
 len:=by
  have:x.cps.size<=KZ:=h;simpa[xl]using this
noncomputable def cB:D->Option (List D)
 |.tup a=>KJ a|.lst a=>KJ a|.aR ks _=>KJ ks|.str x=>if x.length<=KZ then KJ (xl x)else KP|_=>KP
section
variable{X:Cx}{F:Fx}
theorem yz{tg a:K_}{ta:ah->M D}(ha:DE X F a ta):DI X F tg a (λρ=>do M.get (cB (<-ta ρ))):=⟨ha.hK,λl s σ H R I P=>by
  obtain⟨ρ,k,S,h⟩:=P;refine aV (ha.pe l s σ H _ I (cF.next S h (Q:=λv c=>∃d n A,Ext F.toFb H k c n/\Is F.toFb c v d/\cB d=KJ A/\c F.p≠KP/\(∀J Z,Ext F.toFb H k Z n->sY F.toFb J A Z n->R J Z)) λd n v c r S1 f L=>by
   obtain⟨A,e,Y⟩:=M.run_get.mp L;exact⟨d,n,A,r,f,e,S1.live,Y⟩)) λv s1⟨x,c,g,C,d,n,A,r,f,m,lv,q⟩=>?_;have SX:∀b∈[s1.heap.objs.size],dG X l c b:=λb hb=>by
   have e:b=s1.heap.objs.size:=by simpa using hb
   subst e;exact g.AE (La _) (g.aN.fresh (La _))
  cases d with
  |tup xs=>
   cases m;simp only[Is]at f;obtain⟨a,B,rfl,w,G⟩:=f;cases(show v=Ln a from C);obtain⟨u,T,p,j⟩:=g.tuple (show gp X.K c a B by rw[ha.hK];exact w.2);refine RR (show s1.heap.IsTuple a u.toArray from p) ?_;exact⟨s1.heap.objs.size,[s1.heap.objs.size],_,_,c,rfl,g.kept (t':=s1.toks) λb o e=>KU _ e,pG a _,⟨_,Lb _ rfl,rfl,rfl⟩,SX,q _ c r (by rw[ha.hK];exact u7 w G j)⟩|lst xs=>
   cases m;simp only[Is]at f;obtain⟨a,B,rfl,w,G⟩:=f;cases(show v=Ln a from C);obtain⟨u,T,p,j⟩:=g.list (show dF X.K c a B by rw[ha.hK];exact w.2.sq);refine OP p.isList ?_;exact⟨s1.heap.objs.size,[s1.heap.objs.size],_,_,c,rfl,g.kept (t':=s1.toks) λb o e=>KU _ e,sJ a _,⟨_,Lb _ rfl,rfl,rfl⟩,SX,q _ c r (by rw[ha.hK];exact uZ w G j)⟩|aR ks a2=>
   cases m;simp only[Is]at f;obtain⟨a,B,rfl,⟨o,U,dd⟩,G⟩:=f;cases(show v=Ln a from C);obtain⟨a0,es,ep,E,hd,T,ik⟩:=nR dd;have ho:=U.get g ha.hK;have lt:a<s1.heap.objs.size:=K8 ho;refine DictIt.rp U.2.1 ho E.1 hd ?_;refine⟨s1.heap.objs.size,[s1.heap.objs.size],_,_,_,rfl,g.kept (t':=s1.toks) λb o e=>KU _ e,qd (K:=X.K) hd T (Lu lt),⟨_,Lb _ rfl,rfl,rfl⟩,SX,q _ _ r ?_⟩;have kn:∀{O:Hp}{V:Nat},Kp F.toFb c n O V->Ip X.K O a o:=λe=>by
    rcases(U.mono e).2.2 with z|z;.exact .inl z
    .exact .inr (by rw[ha.hK];exact z)
   refine⟨λi d O V W N l2=>?_,λO V N l2=>⟨kn N,by rw[ik.length];exact La _⟩,dd.1⟩;obtain⟨y,L,Y⟩:=(ik.mono N).get W;refine⟨⟨kn N,(List.getElem?_eq_some_iff.mp L).1⟩,λz H3 yl=>?_⟩;obtain⟨rfl,j⟩:=yl;rw[L]at j;cases j;exact⟨.refl,Y⟩|str y=>
   simp only[Is]at f;subst f;obtain⟨t,rfl⟩:=C;simp only[cB]at m;split at m
   .rename_i j;cases m;cases E:y.cps.all (·<128)with
    |false=>exact wpAny_pyIter_wide E ⟨s1.heap.objs.size,[s1.heap.objs.size],_,_,c,rfl,g.kept (t':=s1.toks) λb o e=>KU _ e,nT (t:=t) (ty:="str_iterator") (by decide) wpAny_pyNext_wide_item wpAny_pyNext_wide_end wpAny_pyIter_striter_wide,⟨_,Lb _ rfl,rfl,rfl⟩,SX,q _ c r (nU j)⟩|true=>exact wpAny_pyIter_ascii E ⟨s1.heap.objs.size,[s1.heap.objs.size],_,_,c,rfl,g.kept (t':=s1.toks) λb o e=>KU _ e,nT (t:=t) (ty:="str_ascii_iterator") (by decide) wpAny_pyNext_ascii_item wpAny_pyNext_ascii_end wpAny_pyIter_striter_ascii,⟨_,Lb _ rfl,rfl,rfl⟩,SX,q _ c r (nU j)⟩
   .cases m|_=>cases m⟩
noncomputable def BX:D->Option Bool
 |.bx=>KJ KR|.bl b=>KJ b|.int i=>KJ (i !=0)|.str y=>if y.length<=KZ then KJ ((y.length:Int)!=0)else KP|.tup a=>KJ (!a.isEmpty)|.lst a=>KJ (!a.isEmpty)|_=>KP
theorem iR{B:Fb}{H:Hp}{xs:List V}{ds:List D}(h:ab B H xs ds):xs.isEmpty=ds.isEmpty:=by
 have:=h.length;cases xs<;>cases ds<;>first|rfl|simp at this
theorem BY{e:K_}{t:ah->M D}(h:DE X F e t)(p:∀whole,RI e X.env whole=(do let v<-whole;Rp e.pos;Qm [v] (truthy v))):DT X F e (λρ=>do M.get (BX (<-t ρ))):=⟨h.hK,(uq h.pe p).imp λw H Q g=>by
  obtain⟨ρ,k,S,z⟩:=g;refine cF.next S z λd x v u s A f r=>?_;obtain⟨b,hb,q⟩:=M.run_get.mp r;refine⟨b,?_,q u s⟩;cases d with
  |bx=>cases hb;simp only[Is]at f;rw[f];rfl|bl c=>cases hb;simp only[Is]at f;rw[f];rfl|int i=>cases hb;simp only[Is]at f;rw[f];rfl|str y=>
   simp only[BX]at hb;split at hb
   .rename_i o;cases hb;simp only[Is]at f;rw[f];exact⟨o,rfl⟩
   .cases hb|tup n=>
   cases hb;simp only[Is]at f;obtain⟨a,j,rfl,m,l⟩:=f;exact .inr (.inl ⟨j,by rw[h.hK];exact m.2,by rw[iR l]⟩)|lst n=>
   cases hb;simp only[Is]at f;obtain⟨a,j,rfl,m,l⟩:=f;exact .inl ⟨j,by rw[h.hK];exact m.2.sq,by rw[iR l]⟩|_=>cases hb⟩
end
end L2
end
section
namespace SrtP
open PySem PyProof.Rows
section
variable{prog:Le}{w:Ly}{A:LC}{E:KO->KW->Prop}{s:KW}{κ:Nc}{a₀:Array Lk}
noncomputable def Cm(prog:Le)(w:Ly)(A:LC)(s:KW)(κ:Nc)(a₀:Array Lk):Prop:=∀x∈a₀,∀y∈a₀,∀(Q:Bool->KW->Prop)(E:KO->KW->Prop),(∀b,Q b s)->wpAny (K7 prog w) A (keyLt' κ x.1 y.1) Q E s
structure Bs(κ:Nc)(a₀:Array Lk)(st:Lr):Prop where
 k:kindOf st=κ
 p:(Nd st).Perm a₀
 f:Rl st=KP
theorem Bs.size{st:Lr}(h:Bs κ a₀ st):(Nd st).size=a₀.size:=h.p.size_eq
theorem Bs.mem{st:Lr}(h:Bs κ a₀ st){x:Lk}(m:x∈Nd st):x∈a₀:=h.p.mem_iff.mp m
theorem jZ(C:Cm prog w A s κ a₀){st:Lr}{x y:Lk}{Q:Option Bool->Lr->Prop}(d:kindOf st=κ)(c:x∈a₀)(a:y∈a₀)(q:∀b,Q (KJ b) st):Q9 (K7 prog w) A E s (lt' x y) Q st:=by
 rw[lt'_eq];refine K3 (OR ?_);rw[d];refine K3 (wpS_lift (N3 (C x c y a _ _ λb=>⟨rfl,?_⟩)));exact K9 (q b)
theorem av{st:Lr}{a:Array Lk}{i:Nat}{Q:Lk->Lr->Prop}(h:i<a.size)(q:∀x∈a,a[i]?=KJ x->Q x st):Q9 (K7 prog w) A E s (MO a i) Q st:=by
 rw[elem'_eq,Mw h];exact K9 (q _ (Array.getElem_mem h) (Mw h))
theorem eY(C:Cm prog w A s κ a₀){st:Lr}{i j:Nat}{Q:Option Bool->Lr->Prop}(h:Bs κ a₀ st)(e:i<a₀.size)(d:j<a₀.size)(q:∀b,Q (KJ b) st):Q9 (K7 prog w) A E s (ltAt' i j) Q st:=by
 rw[ltAt'_eq];refine K3 (OR ?_);refine K3 (av (by rw[h.size];exact e) λx c _=>?_);refine K3 (av (by rw[h.size];exact d) λy a _=>?_);exact jZ C h.k (h.mem c) (h.mem a) q
theorem du{st:Lr}{i j:Nat}{Q:Unit->Lr->Prop}(h:Bs κ a₀ st)(q:∀a,Bs κ a₀ a->Lf a=Lf st->Q () a):Q9 (K7 prog w) A E s (reverseSlice' i j) Q st:=by
 rw[reverseSlice'_eq];exact NV (q _ ⟨h.k,(mirror_perm _ _ _ _).trans h.p,h.f⟩ rfl)
theorem vD{st:Lr}{i j:Nat}{Q:Unit->Lr->Prop}(h:Bs κ a₀ st)(q:∀a,Bs κ a₀ a->Lf a=Lf st->Q () a):Q9 (K7 prog w) A E s (moveDown' i j) Q st:=by
 rw[moveDown'_eq];exact NV (q _ ⟨h.k,(bubble_perm _ _ _).trans h.p,h.f⟩ rfl)
theorem c7{st:Lr}{x:String}{Q:Unit->Lr->Prop}(q:Q () st):Q9 (K7 prog w) A E s (liftM (Qn x):StateT Lr Py Unit) Q st:=wpS_lift (Nj ⟨rfl,q⟩)
theorem aS{e:Type}{a b:Nat}{f:Nat->e->StateT Lr Py (ForInStep e)}{Q:e->Lr->Prop}{c:e}{st:Lr}(I:Nat->e->Lr->Prop)(R:e->Lr->Prop)(k:I a c st)(d:∀i c st,a<=i->i<b->I i c st->Q9 (K7 prog w) A E s (f i c) (λr g=>match r with|.done j=>R j g|.yield j=>I (i+1) j g) st)(h:∀c st,I (max a b) c st->R c st)(q:∀c st,R c st->Q c st):Q9 (K7 prog w) A E s (forIn [a:b] c f) Q st:=O8 (wpS_forRange I d h k) q
theorem gF(C:Cm prog w A s κ a₀){st:Lr}{lo a d:Nat}{Q:Option (Option Nat)×Nat->Lr->Prop}(h:Bs κ a₀ st)(l:1<=a)(j:a<=d)(k:lo+d<=a₀.size)(q:∀n,a<=n->n<=d->Q (KP,n) st):Q9 (K7 prog w) A E s (forIn [a:d] ((KP,a):Option (Option Nat)×Nat) λx __s=>do
   let __x<-ltAt' (lo+__s.snd) (lo+__s.snd-1)match __x with
    |some f=>if f=KQ then pure (OS (KP,__s.snd))else pure (ME (KP,__s.snd+1))|x=>pure (OS (KJ KP,__s.snd))) Q st:=by
 refine aS (λi c e=>e=st/\c=(KP,i)) (λc e=>e=st/\∃n,c=(KP,n)/\a<=n/\n<=d) ⟨rfl,rfl⟩ ?_ ?_ ?_
 .rintro i c e t6 xm⟨rfl,rfl⟩;refine K3 (eY C h (by dsimp only;omega) (by dsimp only;omega) λb=>?_);cases b with
  |true=>exact K9 ⟨rfl,i,rfl,t6,by omega⟩|false=>exact K9 ⟨rfl,rfl⟩
 .rintro c e⟨rfl,rfl⟩;exact⟨rfl,_,rfl,by omega,by omega⟩
 .rintro c e⟨rfl,n,rfl,a1,g⟩;exact q n a1 g
theorem nV(C:Cm prog w A s κ a₀){st:Lr}{lo a e:Nat}{Q:Option (Option Nat)×Nat×Nat->Lr->Prop}(h:Bs κ a₀ st)(u:1<=a)(r:a<=e)(t:lo+e<=a₀.size)(q:∀n m d,a<=n->n<=e->Bs κ a₀ d->Lf d=Lf st->Q (KP,n,m) d):Q9 (K7 prog w) A E s (forIn [a:e] ((KP,a,0):Option (Option Nat)×Nat×Nat) λx __s=>do
   let __x<-ltAt' (lo+__s.snd.fst) (lo+__s.snd.fst-1)match __x with
    |some f=>
     if f=KQ then
      if __s.snd.snd>0 then do
       let __r<-reverseSlice' (lo+__s.snd.fst-(__s.snd.snd+1)) (lo+__s.snd.fst)pure (ME (KP,__s.snd.fst+1,0))else pure (ME (KP,__s.snd.fst+1,0))else do
      let __x<-ltAt' (lo+__s.snd.fst-1) (lo+__s.snd.fst)match __x with
       |some g=>
        if g=KQ then pure (OS (KP,__s.snd.fst,__s.snd.snd))else pure (ME (KP,__s.snd.fst+1,__s.snd.snd+1))|x=>pure (OS (KJ KP,__s.snd.fst,__s.snd.snd))
    |x=>pure (OS (KJ KP,__s.snd.fst,__s.snd.snd))) Q st:=by
 refine aS (λi c d=>Bs κ a₀ d/\Lf d=Lf st/\∃m,c=(KP,i,m)) (λc d=>Bs κ a₀ d/\Lf d=Lf st/\∃n m,c=(KP,n,m)/\a<=n/\n<=e) ⟨h,rfl,0,rfl⟩ ?_ ?_ ?_
 .rintro i c d t6 xm⟨hb,j,m,rfl⟩;refine K3 (eY C hb (by dsimp only;omega) (by dsimp only;omega) λb=>?_);cases b with
  |true=>
   dsimp only;rw[if_pos rfl];by_cases o:m>0
   .rw[if_pos o];exact K3 (du hb λaX l k=>K9 ⟨l,k.trans j,0,rfl⟩)
   .rw[if_neg o];exact K9 ⟨hb,j,0,rfl⟩|false=>
   dsimp only;rw[if_neg (by decide)];refine K3 (eY C hb (by omega) (by omega) λb=>?_);cases b with
   |true=>exact K9 ⟨hb,j,i,m,rfl,t6,by omega⟩|false=>exact K9 ⟨hb,j,m+1,rfl⟩
 .rintro c d⟨hb,j,m,rfl⟩;exact⟨hb,j,_,m,rfl,by omega,by omega⟩
 .rintro c d⟨hb,j,n,m,rfl,a1,p⟩;exact q n m d a1 p hb j
theorem tm(C:Cm prog w A s κ a₀){st:Lr}{lo a:Nat}{Q:Option Nat->Lr->Prop}(h:Bs κ a₀ st)(I:1<=a)(k:lo+a<=a₀.size)(q:∀n i,1<=n->n<=a->Bs κ a₀ i->Lf i=Lf st->Q (KJ n) i):Q9 (K7 prog w) A E s (countRun' lo a) Q st:=by
 rw[countRun'_eq];refine K3 (gF C h (La _) I k λn a1 F=>?_);dsimp only;by_cases z:(n==a)=KQ
 .rw[if_pos z];exact K9 (q n st a1 F h rfl)
 .rw[if_neg z];have r:n+1<=a:=by
   have:n≠a:=λe=>z (by rw[e];exact beq_self_eq_true _);omega
  by_cases p:n>1
  .rw[if_pos p];refine K3 (eY C h (by omega) (by omega) λb=>?_);cases b with
   |true=>exact K9 (q n st a1 F h rfl)|false=>
    refine K3 (du h λee b1 D=>?_);refine K3 (c7 ?_);refine K3 (nV C b1 (by omega) r k λH m aX G l u o=>?_);dsimp only;by_cases t:m>0
    .rw[if_pos t];refine K3 (du u λx B y=>?_);refine K3 (du B λc f j=>?_);refine K3 (gF C f (by omega) l k λd v g=>?_);exact K9 (q d c (by omega) g f (j.trans (y.trans (o.trans D))))
    .rw[if_neg t];refine K3 (du u λc f j=>?_);refine K3 (gF C f (by omega) l k λd v g=>?_);exact K9 (q d c (by omega) g f (j.trans (o.trans D)))
  .rw[if_neg p];refine K3 (c7 ?_);refine K3 (nV C h (by omega) r k λH m aX G l u o=>?_);dsimp only;by_cases t:m>0
   .rw[if_pos t];refine K3 (du u λx B y=>?_);refine K3 (du B λc f j=>?_);refine K3 (gF C f (by omega) l k λd v g=>?_);exact K9 (q d c (by omega) g f (j.trans (y.trans o)))
   .rw[if_neg t];refine K3 (du u λc f j=>?_);refine K3 (gF C f (by omega) l k λd v g=>?_);exact K9 (q d c (by omega) g f (j.trans o))
theorem yA(C:Cm prog w A s κ a₀){st:Lr}{lo n ok:Nat}{Q:Bool->Lr->Prop}(h:Bs κ a₀ st)(u:lo+n<=a₀.size)(q:∀a,Bs κ a₀ a->Lf a=Lf st->Q KQ a):Q9 (K7 prog w) A E s (binarySort' lo n ok) Q st:=by
 rw[binarySort'_eq];refine K3 (aS (λk c a=>c=(KP,())/\Bs κ a₀ a/\Lf a=Lf st) (λc a=>c=(KP,())/\Bs κ a₀ a/\Lf a=Lf st) ⟨rfl,h,rfl⟩ ?_ (λ_ _ z=>z) ?_)
 .rintro k c ee o m⟨rfl,b1,e⟩;refine K3 (aS (λi(c:Option Bool×Nat×Nat)a=>a=ee/\c.1=KP/\c.2.2<=k) (λc a=>a=ee/\c.1=KP) ⟨rfl,rfl,La _⟩ ?_ (λc a z=>⟨z.1,z.2.1⟩) ?_)
  .rintro i⟨p,l,r⟩a t6 xm⟨rfl,d,f⟩;dsimp only at d f⊢;subst d;by_cases g:l>=r
   .rw[if_pos g];exact K9 ⟨rfl,rfl⟩
   .rw[if_neg g];refine K3 (eY C b1 (by omega) (by omega) λb=>?_);cases b with
    |true=>exact K9 ⟨rfl,rfl,by show(l+r)/2<=k;omega⟩|false=>exact K9 ⟨rfl,rfl,f⟩
  .rintro⟨p,l,r⟩a⟨rfl,d⟩;dsimp only at d⊢;subst d;exact K3 (vD b1 λaX t j=>K9 ⟨rfl,t,j.trans e⟩)
 .rintro c ee⟨rfl,b1,e⟩;exact K9 (q ee b1 e)
noncomputable def bD:Bool->Lk->Array Lk->Nat->Nat->Nat->StateT Lr Py (Option Nat):=sortPriv%PySem.Builtin.gallop
theorem qf(left:Bool)(key:Lk)(j:Array Lk)(base n a:Nat):bD left key j base n a=(do
 let e(i:Nat):StateT Lr Py (Option Bool):=do
  let x<-MO j (base+i)if left then lt' x key else return(<-lt' key x).map (!·)
 let mut c:=0;let mut d:=1;let mut lo:=0;let mut h:=0
 let KJ right<-e a|return KP
 if right then
  let b:=n-a;for _ in[0:n]do
   if d>=b then break
   let KJ f<-e (a+d)|return KP
   if !f then break
   c:=d;d:=2*d+1
  lo:=a+c+1;h:=a+min d b;else
  let b:=a+1;for _ in[0:n]do
   if d>=b then break
   let KJ g<-e (a-d)|return KP
   if g then break
   c:=d;d:=2*d+1
  lo:=a+1-min d b;h:=a-c
 for _ in[0:n]do
  if lo>=h then break
  let m:=lo+(h-lo)/2
  let KJ f<-e m|return KP
  if f then lo:=m+1 else h:=m
 return KJ h):=rfl
theorem b9(C:Cm prog w A s κ a₀){st:Lr}{left:Bool}{key:Lk}{h:Array Lk}{base n e:Nat}{Q:Option Nat->Lr->Prop}(y:kindOf st=κ)(v:∀x∈h,x∈a₀)(g:key∈a₀)(p:e<n)(D:base+n<=h.size)(q:∀k,k<=n->Q (KJ k) st):Q9 (K7 prog w) A E s (bD left key h base n e) Q st:=by
 rw[qf];extract_lets beyond la0 of0 jp mx1 mx2;have hb:∀(i:Nat)(Q:Option Bool->Lr->Prop),i<n->(∀b,Q (KJ b) st)->Q9 (K7 prog w) A E s (beyond i) Q st:=λi Q o q=>by
  refine K3 (av (by omega) λx u _=>?_);cases left with
  |true=>exact jZ C y (v x u) g q|false=>exact K3 (jZ C y g (v x u) λb=>K9 (q _))
 have B:∀(t of lo o:Nat),o<=n->Q9 (K7 prog w) A E s (jp () t of lo o) Q st:=λt of lo o p=>by
  refine K3 (aS (λi(c:Option (Option Nat)×Nat×Nat)a=>a=st/\c.1=KP/\c.2.2<=n) (λc a=>a=st/\c.1=KP/\c.2.2<=n) ⟨rfl,rfl,p⟩ ?_ (λc a z=>z) ?_)
  .rintro i⟨m,l,r⟩a t6 xm⟨rfl,d,j⟩;dsimp only at d j⊢;subst d;by_cases f:l>=r
   .rw[if_pos f];exact K9 ⟨rfl,rfl,j⟩
   .rw[if_neg f];refine K3 (hb _ _ (by omega) λb=>?_);cases b with
    |true=>exact K9 ⟨rfl,rfl,j⟩|false=>exact K9 ⟨rfl,rfl,by show l+(r-l)/2<=n;omega⟩
  .rintro⟨m,l,r⟩a⟨rfl,d,j⟩;dsimp only at d j⊢;subst d;exact K9 (q r j)
 refine K3 (hb _ _ p λb=>?_);cases b with
 |true=>
  dsimp only;rw[if_pos rfl];refine K3 (aS (λi(c:Option (Option Nat)×Nat×Nat)a=>a=st/\c.1=KP) (λc a=>a=st/\c.1=KP) ⟨rfl,rfl⟩ ?_ (λc a z=>z) ?_)
  .rintro i⟨m,l,r⟩a t6 xm⟨rfl,d⟩;dsimp only at d⊢;subst d;by_cases f:r>=mx1
   .rw[if_pos f];exact K9 ⟨rfl,rfl⟩
   .rw[if_neg f];refine K3 (hb _ _ (by have:mx1=n-e:=rfl;omega) λb=>?_);cases b<;>exact K9 ⟨rfl,rfl⟩
  .rintro⟨m,l,r⟩a⟨rfl,d⟩;dsimp only at d⊢;subst d;exact B l r _ _ (by have:mx1=n-e:=rfl;omega)|false=>
  dsimp only;rw[if_neg (by decide)];refine K3 (aS (λi(c:Option (Option Nat)×Nat×Nat)a=>a=st/\c.1=KP) (λc a=>a=st/\c.1=KP) ⟨rfl,rfl⟩ ?_ (λc a z=>z) ?_)
  .rintro i⟨m,l,r⟩a t6 xm⟨rfl,d⟩;dsimp only at d⊢;subst d;by_cases f:r>=mx2
   .rw[if_pos f];exact K9 ⟨rfl,rfl⟩
   .rw[if_neg f];refine K3 (hb _ _ (by omega) λb=>?_);cases b<;>exact K9 ⟨rfl,rfl⟩
  .rintro⟨m,l,r⟩a⟨rfl,d⟩;dsimp only at d⊢;subst d;exact B l r _ _ (by omega)
noncomputable def aD:Nat->StateT Lr Py Unit:=sortPriv%PySem.Builtin.setMinGallop
noncomputable abbrev BZ(st:Lr)(g:Nat):Lr:=RS (kindOf st) (Nd st) (Lf st) g (Rl st)
theorem hX(g:Nat):aD g=modify λs=>BZ s g:=rfl
noncomputable def gG:Array Lk->Array Lk->StateT Lr Py (Array Lk):=sortPriv%PySem.Builtin.mergeLo
theorem nW(a b:Array Lk):gG a b=(do
 Qn "list.sort.merge-lo"let j:=a.size+b.size;let done(d:Array Lk)(e f:Nat):=d++a.extract e a.size++b.extract f b.size;let i(d:Array Lk)(e f:Nat):=d++b.extract f b.size++a.extract e a.size;let mut d:Array Lk:=#[<-MO b 0]let mut e:=0;let mut f:=1;if f==b.size then return done d e f
 if e+1==a.size then return i d e f
 let mut c:=SJ (<-get)for _ in[0:j]do
  let mut h:=0;let mut g:=0;for _ in[0:j]do
   let KJ l<-lt' (<-MO b f) (<-MO a e)|return done d e f
   if l then
    d:=d.push (<-MO b f);f:=f+1;g:=g+1;h:=0;if f==b.size then return done d e f
    if g>=c then break
   else
    d:=d.push (<-MO a e);e:=e+1;h:=h+1;g:=0;if e+1==a.size then return i d e f
    if h>=c then break
  Qn "list.sort.gallop"c:=c+1;for _ in[0:j]do
   if c>1 then c:=c-1
   aD c
   let KJ k<-bD KR (<-MO b f) a e (a.size-e) 0|return done d e f
   h:=k;if k>0 then
    d:=d++a.extract e (e+k);e:=e+k;if e+1==a.size then return i d e f
    if e==a.size then return done d e f
   d:=d.push (<-MO b f);f:=f+1;if f==b.size then return done d e f
   let KJ k<-bD KQ (<-MO a e) b f (b.size-f) 0|return done d e f
   g:=k;if k>0 then
    d:=d++b.extract f (f+k);f:=f+k;if f==b.size then return done d e f
   d:=d.push (<-MO a e);e:=e+1;if e+1==a.size then return i d e f
   if h<7&&g<7 then break
  c:=c+1;aD c
 PR "internal:list.sort.merge-bound"):=rfl
structure Lo(a b out:Array Lk)(ia ib:Nat):Prop where
 p:(out.toList++a.toList.drop ia++b.toList.drop ib).Perm (a.toList++b.toList)ha:ia<=a.size
 hb:ib<=b.size
section
variable{a b out:Array Lk}{ia ib k:Nat}{x:Lk}
theorem Lo.size(h:Lo a b out ia ib):out.size+(a.size-ia)+(b.size-ib)=a.size+b.size:=by
 have:=h.p.length_eq;simp only[L5,P9,Mi]at this;exact this
theorem nX(xs:Array Lk)(i:Nat):(xs.extract i xs.size).toList=xs.toList.drop i:=by
 rw[NA];rw[MS,Mb (by simp)]
theorem nY(xs:Array Lk)(i k:Nat):(xs.extract i (i+k)).toList=(xs.toList.drop i).take k:=by rw[NA,MS,Qh]
theorem Lo.done(h:Lo a b out ia ib):(out++a.extract ia a.size++b.extract ib b.size).Perm (a++b):=by
 rw[MP];simp only[LZ,nX];exact h.p
theorem Lo.last(h:Lo a b out ia ib):(out++b.extract ib b.size++a.extract ia a.size).Perm (a++b):=by
 rw[MP];simp only[LZ,nX];refine MG ?_ h.p;rw[LB,LB];exact LR _ Nr
theorem nZ{xs:Array Lk}{i:Nat}(e:xs[i]?=KJ x):xs.toList.drop i=x::xs.toList.drop (i+1)/\i<xs.size:=by
 obtain⟨c,e⟩:=Array.getElem?_eq_some_iff.mp e;refine⟨?_,c⟩;rw[Nu (by simpa using c)];simp[e]
theorem Lo.lQ(h:Lo a b out ia ib)(e:a[ia]?=KJ x):Lo a b (out.push x) (ia+1) ib:=by
 obtain⟨c,d⟩:=nZ e;refine⟨?_,by omega,h.hb⟩;have:=h.p;rw[c]at this;rw[MQ];simpa using this
theorem Lo.lR(h:Lo a b out ia ib)(e:b[ib]?=KJ x):Lo a b (out.push x) ia (ib+1):=by
 obtain⟨c,d⟩:=nZ e;refine⟨?_,h.ha,by omega⟩;have:=h.p;rw[c]at this;rw[MQ];refine MG ?_ this;simp only[LB];refine LR _ ?_;show(x::(a.toList.drop ia++b.toList.drop (ib+1))).Perm (a.toList.drop ia++x::b.toList.drop (ib+1));exact List.perm_middle.symm
theorem Lo.B0(h:Lo a b out ia ib)(c:ia+k<=a.size):Lo a b (out++a.extract ia (ia+k)) (ia+k) ib:=by
 refine⟨?_,c,h.hb⟩;rw[LZ,nY];refine MG (Nw ?_) h.p;have:a.toList.drop ia=(a.toList.drop ia).take k++a.toList.drop (ia+k):=by rw[<-List.drop_drop,N5]
 conv=>rhs;rw[this]
 simp only[LB]
theorem Lo.B1(h:Lo a b out ia ib)(c:ib+k<=b.size):Lo a b (out++b.extract ib (ib+k)) ia (ib+k):=by
 refine⟨?_,h.ha,c⟩;rw[LZ,nY];refine MG ?_ h.p;have:b.toList.drop ib=(b.toList.drop ib).take k++b.toList.drop (ib+k):=by rw[<-List.drop_drop,N5]
 conv=>rhs;rw[this]
 simp only[LB];refine LR _ ?_;rw[<-LB,<-LB];exact NW _ Nr
end
structure Gs(κ:Nc)(a₀:Array Lk)(st st':Lr):Prop where
 b:Bs κ a₀ st'
 e:Nd st'=Nd st
 p:Lf st'=Lf st
theorem jk{yB st:Lr}{g:Nat}{Q:Unit->Lr->Prop}(h:Gs κ a₀ yB st)(q:∀a,Gs κ a₀ yB a->Q () a):Q9 (K7 prog w) A E s (aD g) Q st:=by
 rw[hX];exact NV (q _ ⟨⟨h.b.k,h.b.p,h.b.f⟩,h.e,h.p⟩)
theorem aL{i n:Nat}(h:¬(i==n)=KQ):i≠n:=λe=>h (by rw[e];exact beq_self_eq_true _)
abbrev C6:=Option (Array Lk)×Array Lk×Nat×Nat×Nat×Nat
abbrev C7:=Option (Array Lk)×Array Lk×Nat×Nat×Nat×Nat×Nat
abbrev C5:=Option (Array Lk)×Array Lk×Nat×Nat×Nat
abbrev SM:=StateT Lr Py
noncomputable def dn(a b c:Array Lk)(e d:Nat):Array Lk:=c++a.extract e a.size++b.extract d b.size
noncomputable def lst(a b c:Array Lk)(e d:Nat):Array Lk:=c++b.extract d b.size++a.extract e a.size
noncomputable def lo1(a b:Array Lk)(mg:Nat)(c:C6):SM (ForInStep C6):=do
 let y<-MO b c.2.2.2.1;let x<-MO a c.2.2.1;match<-lt' y x with
 |some d=>
  if d=KQ then do
   let z<-MO b c.2.2.2.1;if(c.2.2.2.1+1==b.size)=KQ then pure (.done (KJ (dn a b (c.2.1.push z) c.2.2.1 (c.2.2.2.1+1)),c.2.1.push z,c.2.2.1,c.2.2.2.1+1,0,c.2.2.2.2.2+1))else if c.2.2.2.2.2+1>=mg then pure (.done (KP,c.2.1.push z,c.2.2.1,c.2.2.2.1+1,0,c.2.2.2.2.2+1))else pure (.yield (KP,c.2.1.push z,c.2.2.1,c.2.2.2.1+1,0,c.2.2.2.2.2+1))else do
   let z<-MO a c.2.2.1;if(c.2.2.1+1+1==a.size)=KQ then pure (.done (KJ (lst a b (c.2.1.push z) (c.2.2.1+1) c.2.2.2.1),c.2.1.push z,c.2.2.1+1,c.2.2.2.1,c.2.2.2.2.1+1,0))else if c.2.2.2.2.1+1>=mg then pure (.done (KP,c.2.1.push z,c.2.2.1+1,c.2.2.2.1,c.2.2.2.2.1+1,0))else pure (.yield (KP,c.2.1.push z,c.2.2.1+1,c.2.2.2.1,c.2.2.2.2.1+1,0))|_=>pure (.done (KJ (dn a b c.2.1 c.2.2.1 c.2.2.2.1),c.2))
noncomputable def Ir(a b:Array Lk)(mg g f d:Nat)(c:Array Lk)(e:Nat):SM (ForInStep C7):=do
 let z<-MO a d;if(d+1+1==a.size)=KQ then pure (.done (KJ (lst a b (c.push z) (d+1) e),c.push z,d+1,e,mg,g,f))else if(decide (g<7)&&decide (f<7))=KQ then pure (.done (KP,c.push z,d+1,e,mg,g,f))else pure (.yield (KP,c.push z,d+1,e,mg,g,f))
noncomputable def GU(a b:Array Lk)(mg f g c:Nat)(d:Array Lk)(e:Nat):SM (ForInStep C7):=do
 let z<-MO b c;if(c+1==b.size)=KQ then pure (.done (KJ (dn a b (d.push z) e (c+1)),d.push z,e,c+1,mg,f,g))else do
  let x<-MO a e;match<-bD KQ x b (c+1) (b.size-(c+1)) 0 with
  |some k=>
   if k>0 then
    if(c+1+k==b.size)=KQ then pure (.done (KJ (dn a b (d.push z++b.extract (c+1) (c+1+k)) e (c+1+k)),d.push z++b.extract (c+1) (c+1+k),e,c+1+k,mg,f,k))else Ir a b mg f k e (d.push z++b.extract (c+1) (c+1+k)) (c+1+k)else Ir a b mg f k e (d.push z) (c+1)|_=>pure (.done (KJ (dn a b (d.push z) e (c+1)),d.push z,e,c+1,mg,f,g))
noncomputable def GV(a b:Array Lk)(c:C7)(mg:Nat):SM (ForInStep C7):=do
 aD mg;let y<-MO b c.2.2.2.1;match<-bD KR y a c.2.2.1 (a.size-c.2.2.1) 0 with
 |some k=>
  if k>0 then
   if(c.2.2.1+k+1==a.size)=KQ then pure (.done (KJ (lst a b (c.2.1++a.extract c.2.2.1 (c.2.2.1+k)) (c.2.2.1+k) c.2.2.2.1),c.2.1++a.extract c.2.2.1 (c.2.2.1+k),c.2.2.1+k,c.2.2.2.1,mg,k,c.2.2.2.2.2.2))else if(c.2.2.1+k==a.size)=KQ then pure (.done (KJ (dn a b (c.2.1++a.extract c.2.2.1 (c.2.2.1+k)) (c.2.2.1+k) c.2.2.2.1),c.2.1++a.extract c.2.2.1 (c.2.2.1+k),c.2.2.1+k,c.2.2.2.1,mg,k,c.2.2.2.2.2.2))else GU a b mg k c.2.2.2.2.2.2 c.2.2.2.1 (c.2.1++a.extract c.2.2.1 (c.2.2.1+k)) (c.2.2.1+k)else GU a b mg k c.2.2.2.2.2.2 c.2.2.2.1 c.2.1 c.2.2.1|_=>pure (.done (KJ (dn a b c.2.1 c.2.2.1 c.2.2.2.1),c.2.1,c.2.2.1,c.2.2.2.1,mg,c.2.2.2.2.2.1,c.2.2.2.2.2.2))
noncomputable def Iu(a b:Array Lk)(c:C5):SM (ForInStep C5):=do
 let d<-forIn [0:a.size+b.size] ((KP,c.2.1,c.2.2.1,c.2.2.2.1,0,0):C6) λ_ d=>lo1 a b c.2.2.2.2 d;match d.1 with
 |some r=>pure (.done (KJ r,d.2.1,d.2.2.1,d.2.2.2.1,c.2.2.2.2))|none=>do
  liftM (Qn "list.sort.gallop")let e<-forIn [0:a.size+b.size] ((KP,d.2.1,d.2.2.1,d.2.2.2.1,c.2.2.2.2+1,d.2.2.2.2.1,d.2.2.2.2.2):C7) λ_ e=>if e.2.2.2.2.1>1 then GV a b e (e.2.2.2.2.1-1)else GV a b e e.2.2.2.2.1;match e.1 with
  |some r=>pure (.done (KJ r,e.2.1,e.2.2.1,e.2.2.2.1,e.2.2.2.2.1))|none=>do
   aD (e.2.2.2.2.1+1)pure (.yield (KP,e.2.1,e.2.2.1,e.2.2.2.1,e.2.2.2.2.1+1))
theorem tq(a b:Array Lk):gG a b=(do
 liftM (Qn "list.sort.merge-lo")let x<-MO b 0;if(1==b.size)=KQ then pure (dn a b #[x] 0 1)else if(0+1==a.size)=KQ then pure (lst a b #[x] 0 1)else do
  let st<-get;let c<-forIn [0:a.size+b.size] ((KP,#[x],0,1,SJ st):C5) λ_ c=>Iu a b c;match c.1 with
  |some r=>pure r|none=>liftM (PR "internal:list.sort.merge-bound":Py (Array Lk))):=by
 rw[nW];dsimp only;refine congrArg _ (funext λ_=>?_);refine congrArg _ (funext λx=>?_);refine congrArg _ ?_;refine congrArg _ ?_;refine congrArg _ (funext λst=>?_);refine congr (congrArg _ ?_) (funext λc=>by obtain⟨e,c⟩:=c;cases e<;>rfl);refine congrArg _ (funext λ_=>funext λc=>?_);unfold Iu;refine congr (congrArg _ rfl) (funext λd=>?_);obtain⟨f,d⟩:=d;cases f with
 |some r=>rfl|none=>
  dsimp only;refine congrArg _ (funext λ_=>?_);refine congr (congrArg _ ?_) (funext λc=>by obtain⟨e,c⟩:=c;cases e<;>rfl);refine congrArg _ (funext λ_=>funext λc=>?_);unfold GV;refine congr (congrArg _ ?_) ?_;all_goals
   refine congrArg _ (funext λ_=>?_);refine congrArg _ (funext λy=>?_);refine congrArg _ (funext λk=>?_);cases k with
   |none=>rfl|some k=>
    dsimp only;unfold GU;refine congr (congrArg _ ?_) ?_
    .refine congrArg _ ?_;refine congrArg _ ?_;refine congrArg _ (funext λy=>?_);refine congrArg _ ?_;refine congrArg _ (funext λy=>?_);refine congrArg _ (funext λk=>?_);cases k<;>rfl
    .refine congrArg _ (funext λy=>?_);refine congrArg _ ?_;refine congrArg _ (funext λy=>?_);refine congrArg _ (funext λk=>?_);cases k<;>rfl
structure Go(κ:Nc)(a₀:Array Lk)(st:Lr)(a b:Array Lk)(o0:Nat)(r:Option (Array Lk))(out:Array Lk)(ia ib:Nat)(st':Lr):Prop where
 g:Gs κ a₀ st st'
 n:r=KP
 l:Lo a b out ia ib
 a1:ia+1<a.size
 b1:ib<b.size
 o:o0<out.size
inductive Fi(κ:Nc)(a₀:Array Lk)(st:Lr)(a b:Array Lk)(o0:Nat)(out:Array Lk)(ia ib:Nat)(st':Lr):Option (Array Lk)->Prop where|ret{z:Array Lk}(g:Gs κ a₀ st st')(p:z.Perm (a++b)):Fi κ a₀ st a b o0 out ia ib st' (KJ z)|go(h:Go κ a₀ st a b o0 KP out ia ib st'):Fi κ a₀ st a b o0 out ia ib st' KP
section
variable{st:Lr}{a b:Array Lk}
noncomputable abbrev Q7(κ:Nc)(a₀:Array Lk)(st:Lr)(a b:Array Lk)(e:Nat):ForInStep C7->Lr->Prop:=λr d=>match r with
 |.done c=>Fi κ a₀ st a b e c.2.1 c.2.2.1 c.2.2.2.1 d c.1|.yield c=>Go κ a₀ st a b e c.1 c.2.1 c.2.2.1 c.2.2.2.1 d
theorem rG(u:∀x∈a,x∈a₀){mg n m e j i:Nat}{c:Array Lk}{d:Lr}(h:Go κ a₀ st a b i KP c e j d):Q9 (K7 prog w) A E s (Ir a b mg n m e c j) (Q7 κ a₀ st a b i) d:=by
 refine K3 (av (by have:=h.a1;omega) λv t ev=>?_);have k:=h.l.lQ ev;have r:(c.push v).size=c.size+1:=M8 ..;have q:=h.o;have p:=h.a1;by_cases f:(e+1+1==a.size)=KQ
 .rw[if_pos f];exact K9 (.ret h.g k.last)
 rw[if_neg f];have f:=aL f;have g:Go κ a₀ st a b i KP (c.push v) (e+1) j d:=⟨h.g,rfl,k,by omega,h.b1,by omega⟩;split;.exact K9 (.go g)
 .exact K9 g
theorem rH(C:Cm prog w A s κ a₀)(p:∀x∈a,x∈a₀)(n:∀x∈b,x∈a₀){mg z y t f q:Nat}{c:Array Lk}{d:Lr}(h:Go κ a₀ st a b q KP c t f d):Q9 (K7 prog w) A E s (GU a b mg z y f c t) (Q7 κ a₀ st a b q) d:=by
 refine K3 (av h.b1 λv G ev=>?_);have m:=h.l.lR ev;have F:(c.push v).size=c.size+1:=M8 ..;have D:=h.o;have B:=h.b1;by_cases j:(f+1==b.size)=KQ
 .rw[if_pos j];exact K9 (.ret h.g m.done)
 rw[if_neg j];have j:=aL j;refine K3 (av (by have:=h.a1;omega) λx u ex=>?_);refine K3 (b9 C h.g.b.k n (p x u) (by omega) (by omega) λk H=>?_);show Q9 _ _ _ _ (if k>0 then _ else _) _ _;by_cases e:k>0
 .rw[if_pos e];have r:=m.B1 (k:=k) (by omega);by_cases i:(f+1+k==b.size)=KQ
  .rw[if_pos i];exact K9 (.ret h.g r.done)
  .rw[if_neg i];have i:=aL i;exact rG p ⟨h.g,rfl,r,h.a1,by omega,by rw[NB];omega⟩
 .rw[if_neg e];exact rG p ⟨h.g,rfl,m,h.a1,by omega,by omega⟩
theorem rJ(C:Cm prog w A s κ a₀)(n:∀x∈a,x∈a₀)(d:∀x∈b,x∈a₀){mg p:Nat}{c:C7}{e:Lr}(h:Go κ a₀ st a b p c.1 c.2.1 c.2.2.1 c.2.2.2.1 e):Q9 (K7 prog w) A E s (GV a b c mg) (Q7 κ a₀ st a b p) e:=by
 obtain⟨J,B,q,H,D,L,K⟩:=c;obtain⟨v,u,o,t,i,r⟩:=h;dsimp only at v u o t i r;subst u;refine K3 (jk v λz g=>?_);refine K3 (av i λy F I=>?_);refine K3 (b9 C g.b.k n (d y F) (by dsimp only;omega) (by dsimp only;omega) λk G=>?_);show Q9 _ _ _ _ (if k>0 then _ else _) _ _;dsimp only at G⊢;by_cases f:k>0
 .rw[if_pos f];have m:=o.B0 (k:=k) (by omega);by_cases l:(q+k+1==a.size)=KQ
  .rw[if_pos l];exact K9 (.ret g m.last)
  rw[if_neg l];have l:=aL l;by_cases j:(q+k==a.size)=KQ
  .rw[if_pos j];exact K9 (.ret g m.done)
  rw[if_neg j];have j:=aL j;exact rH C n d ⟨g,rfl,m,by omega,i,by rw[NB];omega⟩
 .rw[if_neg f];exact rH C n d ⟨g,rfl,o,t,i,r⟩
theorem yC(C:Cm prog w A s κ a₀)(H:∀x∈a,x∈a₀)(p:∀x∈b,x∈a₀){mg u n:Nat}{c:C6}{d:Lr}(h:Go κ a₀ st a b n c.1 c.2.1 c.2.2.1 c.2.2.2.1 d)(K:u<=n):Q9 (K7 prog w) A E s (lo1 a b mg c) (λr d=>match r with
  |.done g=>Fi κ a₀ st a b (u+1) g.2.1 g.2.2.1 g.2.2.2.1 d g.1|.yield g=>Go κ a₀ st a b (n+1) g.1 g.2.1 g.2.2.1 g.2.2.2.1 d) d:=by
 obtain⟨M,e,F,D,O,N⟩:=c;obtain⟨i,v,t,q,l,I⟩:=h;dsimp only at i v t q l I;subst v;refine K3 (av l λy o m=>?_);refine K3 (av (by dsimp only;omega) λz G L=>?_);refine K3 (jZ C i.b.k (p y o) (H z G) λJ=>?_);cases J with
 |true=>
  dsimp only;rw[if_pos rfl];refine K3 (av l λy o m=>?_);have j:=t.lR m;have B:(e.push y).size=e.size+1:=M8 ..;by_cases f:(D+1==b.size)=KQ
  .rw[if_pos f];exact K9 (.ret i j.done)
  .rw[if_neg f];have f:=aL f;split;.exact K9 (.go ⟨i,rfl,j,q,by dsimp only;omega,by dsimp only;omega⟩)
   .exact K9 ⟨i,rfl,j,q,by dsimp only;omega,by dsimp only;omega⟩|false=>
  dsimp only;rw[if_neg (by decide)];refine K3 (av (by omega) λy o m=>?_);have j:=t.lQ m;have B:(e.push y).size=e.size+1:=M8 ..;by_cases f:(F+1+1==a.size)=KQ
  .rw[if_pos f];exact K9 (.ret i j.last)
  .rw[if_neg f];have f:=aL f;split;.exact K9 (.go ⟨i,rfl,j,by dsimp only;omega,l,by dsimp only;omega⟩)
   .exact K9 ⟨i,rfl,j,by dsimp only;omega,l,by dsimp only;omega⟩
theorem yD(C:Cm prog w A s κ a₀)(H:∀x∈a,x∈a₀)(m:∀x∈b,x∈a₀){i:Nat}{c:C5}{ee:Lr}(h:Go κ a₀ st a b i c.1 c.2.1 c.2.2.1 c.2.2.2.1 ee):Q9 (K7 prog w) A E s (Iu a b c) (λr e=>match r with
  |.done q=>∃z,q.1=KJ z/\z.Perm (a++b)/\Gs κ a₀ st e|.yield q=>Go κ a₀ st a b (i+1) q.1 q.2.1 q.2.2.1 q.2.2.2.1 e) ee:=by
 refine K3 (aS (λj(d:C6)e=>Go κ a₀ st a b (i+j) d.1 d.2.1 d.2.2.1 d.2.2.2.1 e) (λd e=>Fi κ a₀ st a b (i+1) d.2.1 d.2.2.1 d.2.2.2.1 e d.1) ⟨h.g,rfl,h.l,h.a1,h.b1,h.o⟩ ?_ ?_ ?_)
 .rintro j d aX _ N g;exact O8 (yC C H m g (Qg _ _)) λr e h=>by cases r<;>exact h
 .rintro⟨I,k,G,F,K,J⟩aX g;obtain⟨B,y,n,v,u,D⟩:=g;dsimp only at B y n v u D;subst y;have:=n.size;exact .go ⟨B,rfl,n,v,u,by dsimp only;omega⟩
 .rintro⟨I,k,G,F,K,J⟩aX f;dsimp only at f⊢;cases f with
  |ret g p=>exact K9 ⟨_,rfl,p,g⟩|go g=>
   refine K3 (c7 ?_);refine K3 (aS (λj(d:C7)e=>Go κ a₀ st a b (i+1) d.1 d.2.1 d.2.2.1 d.2.2.2.1 e) (λd e=>Fi κ a₀ st a b (i+1) d.2.1 d.2.2.1 d.2.2.2.1 e d.1) g ?_ ?_ ?_)
   .rintro j d t _ _ g;split;.exact O8 (rJ C H m g) λr e h=>by cases r<;>exact h
    .exact O8 (rJ C H m g) λr e h=>by cases r<;>exact h
   .rintro⟨I,k,G,F,mg,K,J⟩t g;obtain⟨B,y,n,v,u,D⟩:=g;dsimp only at B y n v u D;subst y;exact .go ⟨B,rfl,n,v,u,D⟩
   .rintro⟨I,k,G,F,mg,K,J⟩t f;dsimp only at f⊢;cases f with
    |ret g p=>exact K9 ⟨_,rfl,p,g⟩|go g=>exact K3 (jk g.g λL M=>K9 ⟨M,rfl,g.l,g.a1,g.b1,g.o⟩)
theorem n6(C:Cm prog w A s κ a₀){Q:Array Lk->Lr->Prop}(h:Bs κ a₀ st)(y:∀x∈a,x∈a₀)(m:∀x∈b,x∈a₀)(ha:0<a.size)(hb:0<b.size)(q:∀r d,r.Perm (a++b)->Gs κ a₀ st d->Q r d):Q9 (K7 prog w) A E s (gG a b) Q st:=by
 rw[tq];refine K3 (c7 ?_);refine K3 (av hb λx D ex=>?_);have k:Lo a b #[x] 0 1:=by
  have l:Lo a b #[] 0 0:=⟨by simp,Mr _,Mr _⟩;exact l.lR ex
 have n:Gs κ a₀ st st:=⟨h,rfl,rfl⟩;by_cases f:(1==b.size)=KQ
 .rw[if_pos f];exact K9 (q _ _ k.done n)
 rw[if_neg f];by_cases e:(0+1==a.size)=KQ
 .rw[if_pos e];exact K9 (q _ _ k.last n)
 rw[if_neg e];have f:=aL f;have e:=aL e;refine K3 (OR ?_);refine K3 (aS (λi(c:C5)d=>Go κ a₀ st a b i c.1 c.2.1 c.2.2.1 c.2.2.2.1 d) (λc d=>∃z,c.1=KJ z/\z.Perm (a++b)/\Gs κ a₀ st d) ⟨n,rfl,k,by dsimp only;omega,by dsimp only;omega,by show 0<1;omega⟩ ?_ ?_ ?_)
 .rintro i c ee _ _ g;exact O8 (yD C y m g) λr d h=>by cases r<;>exact h
 .rintro⟨B,j,v,u,mg⟩aX g;have:=g.l.size;have:=g.o;have:=g.a1;have:=g.b1;dsimp only at*;omega
 .rintro⟨B,j,v,u,mg⟩aX⟨z,t,p,g⟩;dsimp only at t⊢;subst t;exact K9 (q z aX p g)
end
end
end SrtP
end
section
namespace SrtP
open PySem PyProof.Rows
section
variable{prog:Le}{w:Ly}{A:LC}{E:KO->KW->Prop}{s:KW}{κ:Nc}{a₀:Array Lk}
noncomputable def gH:Array Lk->Array Lk->StateT Lr Py (Array Lk):=sortPriv%PySem.Builtin.mergeHi
theorem n9(a b:Array Lk):gH a b=(do
 Qn "list.sort.merge-hi"let j:=a.size+b.size;let done(d:Array Lk)(f e:Nat):=a.extract 0 f++b.extract 0 e++d.reverse;let g(d:Array Lk)(f e:Nat):=b.extract 0 e++a.extract 0 f++d.reverse;let mut f:=a.size-1;let mut e:=b.size;let mut d:Array Lk:=#[<-MO a f]if f==0 then return done d f e
 if e==1 then return g d f e
 let mut c:=SJ (<-get)for _ in[0:j]do
  let mut i:=0;let mut h:=0;for _ in[0:j]do
   let KJ l<-lt' (<-MO b (e-1)) (<-MO a (f-1))|return done d f e
   if l then
    f:=f-1;d:=d.push (<-MO a f);i:=i+1;h:=0;if f==0 then return done d f e
    if i>=c then break
   else
    e:=e-1;d:=d.push (<-MO b e);h:=h+1;i:=0;if e==1 then return g d f e
    if h>=c then break
  Qn "list.sort.gallop"c:=c+1;for _ in[0:j]do
   if c>1 then c:=c-1
   aD c
   let KJ at_<-bD KR (<-MO b (e-1)) a 0 f (f-1)|return done d f e
   let k:=f-at_;i:=k;if k>0 then
    d:=d++(a.extract at_ f).reverse;f:=at_;if f==0 then return done d f e
   e:=e-1;d:=d.push (<-MO b e)if e==1 then return g d f e
   let KJ at_<-bD KQ (<-MO a (f-1)) b 0 e (e-1)|return done d f e
   let k:=e-at_;h:=k;if k>0 then
    d:=d++(b.extract at_ e).reverse;e:=at_;if e==1 then return g d f e
    if e==0 then return done d f e
   f:=f-1;d:=d.push (<-MO a f)if f==0 then return done d f e
   if i<7&&h<7 then break
  c:=c+1;aD c
 PR "internal:list.sort.merge-bound"):=rfl
structure Hi(a b out:Array Lk)(na nb:Nat):Prop where
 p:(a.toList.take na++b.toList.take nb++out.toList).Perm (a.toList++b.toList)ha:na<=a.size
 hb:nb<=b.size
section
variable{a b out:Array Lk}{na nb k:Nat}{x:Lk}
theorem Hi.size(h:Hi a b out na nb):na+nb+out.size=a.size+b.size:=by
 have:=h.p.length_eq;have d:=h.ha;have c:=h.hb;simp only[L5,OX,Mi]at this;omega
noncomputable def rK(a b out:Array Lk)(na nb:Nat):Array Lk:=a.extract 0 na++b.extract 0 nb++out.reverse
noncomputable def DH(a b out:Array Lk)(na nb:Nat):Array Lk:=b.extract 0 nb++a.extract 0 na++out.reverse
theorem zV(xs:Array Lk)(n:Nat):(xs.extract 0 n).toList=xs.toList.take n:=by
 rw[NA,MS];rfl
theorem Hi.done(h:Hi a b out na nb):(rK a b out na nb).Perm (a++b):=by
 unfold rK;rw[MP];simp only[LZ,zV,Oa];exact(LR _ (OT _)).trans h.p
theorem Hi.first(h:Hi a b out na nb):(DH a b out na nb).Perm (a++b):=by
 unfold DH;rw[MP];simp only[LZ,zV,Oa];exact(List.Perm.append Nr (OT _)).trans h.p
theorem n_{xs:Array Lk}{i:Nat}(e:xs[i]?=KJ x):xs.toList.take (i+1)=xs.toList.take i++[x]:=by
 obtain⟨c,e⟩:=Array.getElem?_eq_some_iff.mp e;rw[List.take_succ_eq_append_getElem (by simpa using c)];simp[e]
theorem dP(xs:Array Lk){i n:Nat}(h:i<=n):xs.toList.take n=xs.toList.take i++(xs.extract i n).toList:=by
 rw[NA,MS];obtain⟨k,rfl⟩:∃k,n=i+k:=⟨n-i,by omega⟩;rw[Qh,<-List.take_add]
theorem Hi.lQ(h:Hi a b out na nb)(c:1<=na)(e:a[na-1]?=KJ x):Hi a b (out.push x) (na-1) nb:=by
 refine⟨?_,by have:=h.ha;omega,h.hb⟩;refine MG ?_ h.p;have:=n_ e;rw[show na-1+1=na by omega]at this;rw[this,MQ];simp only[LB];refine LR _ ?_;rw[<-LB];exact Nr
theorem Hi.lR(h:Hi a b out na nb)(c:1<=nb)(e:b[nb-1]?=KJ x):Hi a b (out.push x) na (nb-1):=by
 refine⟨?_,h.ha,by have:=h.hb;omega⟩;refine MG ?_ h.p;have:=n_ e;rw[show nb-1+1=nb by omega]at this;rw[this,MQ];simp only[LB];refine LR _ (LR _ ?_);exact Nr
theorem Hi.B0(h:Hi a b out na nb)(c:k<=na):Hi a b (out++(a.extract k na).reverse) k nb:=by
 refine⟨?_,by have:=h.ha;omega,h.hb⟩;refine MG ?_ h.p;rw[dP a c,LZ,Oa];simp only[LB];refine LR _ ?_;rw[<-LB];exact List.perm_append_comm.trans (NW _ (OT _))
theorem Hi.B1(h:Hi a b out na nb)(c:k<=nb):Hi a b (out++(b.extract k nb).reverse) na k:=by
 refine⟨?_,h.ha,by have:=h.hb;omega⟩;refine MG ?_ h.p;rw[dP b c,LZ,Oa];simp only[LB];refine LR _ (LR _ ?_);exact List.perm_append_comm.trans (NW _ (OT _))
end
abbrev D6:=Option (Array Lk)×Nat×Nat×Array Lk×Nat×Nat
abbrev D7:=Option (Array Lk)×Nat×Nat×Array Lk×Nat×Nat×Nat
abbrev D5:=Option (Array Lk)×Nat×Nat×Array Lk×Nat
noncomputable def t6(a b:Array Lk)(mg:Nat)(c:D6):SM (ForInStep D6):=do
 let y<-MO b (c.2.2.1-1)let x<-MO a (c.2.1-1)match<-lt' y x with
 |some d=>
  if d=KQ then do
   let z<-MO a (c.2.1-1)if(c.2.1-1==0)=KQ then pure (.done (KJ (rK a b (c.2.2.2.1.push z) (c.2.1-1) c.2.2.1),c.2.1-1,c.2.2.1,c.2.2.2.1.push z,c.2.2.2.2.1+1,0))else if c.2.2.2.2.1+1>=mg then pure (.done (KP,c.2.1-1,c.2.2.1,c.2.2.2.1.push z,c.2.2.2.2.1+1,0))else pure (.yield (KP,c.2.1-1,c.2.2.1,c.2.2.2.1.push z,c.2.2.2.2.1+1,0))else do
   let z<-MO b (c.2.2.1-1)if(c.2.2.1-1==1)=KQ then pure (.done (KJ (DH a b (c.2.2.2.1.push z) c.2.1 (c.2.2.1-1)),c.2.1,c.2.2.1-1,c.2.2.2.1.push z,0,c.2.2.2.2.2+1))else if c.2.2.2.2.2+1>=mg then pure (.done (KP,c.2.1,c.2.2.1-1,c.2.2.2.1.push z,0,c.2.2.2.2.2+1))else pure (.yield (KP,c.2.1,c.2.2.1-1,c.2.2.2.1.push z,0,c.2.2.2.2.2+1))|_=>pure (.done (KJ (rK a b c.2.2.2.1 c.2.1 c.2.2.1),c.2))
noncomputable def Iv(a b:Array Lk)(mg g f d:Nat)(c:Array Lk)(e:Nat):SM (ForInStep D7):=do
 let z<-MO a (d-1)if(d-1==0)=KQ then pure (.done (KJ (rK a b (c.push z) (d-1) e),d-1,e,c.push z,mg,g,f))else if(decide (g<7)&&decide (f<7))=KQ then pure (.done (KP,d-1,e,c.push z,mg,g,f))else pure (.yield (KP,d-1,e,c.push z,mg,g,f))
noncomputable def GW(a b:Array Lk)(mg f g d:Nat)(c:Array Lk)(e:Nat):SM (ForInStep D7):=do
 let z<-MO b (d-1)if(d-1==1)=KQ then pure (.done (KJ (DH a b (c.push z) e (d-1)),e,d-1,c.push z,mg,f,g))else do
  let x<-MO a (e-1)match<-bD KQ x b 0 (d-1) (d-1-1)with
  |some p=>
   if d-1-p>0 then
    if(p==1)=KQ then pure (.done (KJ (DH a b (c.push z++(b.extract p (d-1)).reverse) e p),e,p,c.push z++(b.extract p (d-1)).reverse,mg,f,d-1-p))else if(p==0)=KQ then pure (.done (KJ (rK a b (c.push z++(b.extract p (d-1)).reverse) e p),e,p,c.push z++(b.extract p (d-1)).reverse,mg,f,d-1-p))else Iv a b mg f (d-1-p) e (c.push z++(b.extract p (d-1)).reverse) p;else Iv a b mg f (d-1-p) e (c.push z) (d-1)|_=>pure (.done (KJ (rK a b (c.push z) e (d-1)),e,d-1,c.push z,mg,f,g))
noncomputable def xm(a b:Array Lk)(c:D7)(mg:Nat):SM (ForInStep D7):=do
 aD mg;let y<-MO b (c.2.2.1-1)match<-bD KR y a 0 c.2.1 (c.2.1-1)with
 |some p=>
  if c.2.1-p>0 then
   if(p==0)=KQ then pure (.done (KJ (rK a b (c.2.2.2.1++(a.extract p c.2.1).reverse) p c.2.2.1),p,c.2.2.1,c.2.2.2.1++(a.extract p c.2.1).reverse,mg,c.2.1-p,c.2.2.2.2.2.2))else GW a b mg (c.2.1-p) c.2.2.2.2.2.2 c.2.2.1 (c.2.2.2.1++(a.extract p c.2.1).reverse) p;else GW a b mg (c.2.1-p) c.2.2.2.2.2.2 c.2.2.1 c.2.2.2.1 c.2.1|_=>pure (.done (KJ (rK a b c.2.2.2.1 c.2.1 c.2.2.1),c.2.1,c.2.2.1,c.2.2.2.1,mg,c.2.2.2.2.2.1,c.2.2.2.2.2.2))
noncomputable def Iw(a b:Array Lk)(c:D5):SM (ForInStep D5):=do
 let d<-forIn [0:a.size+b.size] ((KP,c.2.1,c.2.2.1,c.2.2.2.1,0,0):D6) λ_ d=>t6 a b c.2.2.2.2 d;match d.1 with
 |some r=>pure (.done (KJ r,d.2.1,d.2.2.1,d.2.2.2.1,c.2.2.2.2))|none=>do
  liftM (Qn "list.sort.gallop")let e<-forIn [0:a.size+b.size] ((KP,d.2.1,d.2.2.1,d.2.2.2.1,c.2.2.2.2+1,d.2.2.2.2.1,d.2.2.2.2.2):D7) λ_ e=>if e.2.2.2.2.1>1 then xm a b e (e.2.2.2.2.1-1)else xm a b e e.2.2.2.2.1;match e.1 with
  |some r=>pure (.done (KJ r,e.2.1,e.2.2.1,e.2.2.2.1,e.2.2.2.2.1))|none=>do
   aD (e.2.2.2.2.1+1)pure (.yield (KP,e.2.1,e.2.2.1,e.2.2.2.1,e.2.2.2.2.1+1))
theorem tu(a b:Array Lk):gH a b=(do
 liftM (Qn "list.sort.merge-hi")let x<-MO a (a.size-1)if(a.size-1==0)=KQ then pure (rK a b #[x] (a.size-1) b.size)else if(b.size==1)=KQ then pure (DH a b #[x] (a.size-1) b.size)else do
  let st<-get;let c<-forIn [0:a.size+b.size] ((KP,a.size-1,b.size,#[x],SJ st):D5) λ_ c=>Iw a b c;match c.1 with
  |some r=>pure r|none=>liftM (PR "internal:list.sort.merge-bound":Py (Array Lk))):=by
 rw[n9];dsimp only;refine congrArg _ (funext λ_=>?_);refine congrArg _ (funext λx=>?_);refine congrArg _ ?_;refine congrArg _ ?_;refine congrArg _ (funext λst=>?_);refine congr (congrArg _ ?_) (funext λc=>by obtain⟨e,c⟩:=c;cases e<;>rfl);refine congrArg _ (funext λ_=>funext λc=>?_);unfold Iw;refine congr (congrArg _ rfl) (funext λd=>?_);obtain⟨f,d⟩:=d;cases f with
 |some r=>rfl|none=>
  dsimp only;refine congrArg _ (funext λ_=>?_);refine congr (congrArg _ ?_) (funext λc=>by obtain⟨e,c⟩:=c;cases e<;>rfl);refine congrArg _ (funext λ_=>funext λc=>?_);unfold xm;refine congr (congrArg _ ?_) ?_;all_goals
   refine congrArg _ (funext λ_=>?_);refine congrArg _ (funext λy=>?_);refine congrArg _ (funext λk=>?_);cases k with
   |none=>rfl|some k=>
    dsimp only;unfold GW;refine congr (congrArg _ ?_) ?_
    .refine congrArg _ ?_;refine congrArg _ (funext λy=>?_);refine congrArg _ ?_;refine congrArg _ (funext λy=>?_);refine congrArg _ (funext λk=>?_);cases k<;>rfl
    .refine congrArg _ (funext λy=>?_);refine congrArg _ ?_;refine congrArg _ (funext λy=>?_);refine congrArg _ (funext λk=>?_);cases k<;>rfl
structure Ho(κ:Nc)(a₀:Array Lk)(st:Lr)(a b:Array Lk)(o0:Nat)(r:Option (Array Lk))(out:Array Lk)(na nb:Nat)(st':Lr):Prop where
 g:Gs κ a₀ st st'
 n:r=KP
 l:Hi a b out na nb
 a1:1<=na
 b1:2<=nb
 o:o0<out.size
inductive Hf(κ:Nc)(a₀:Array Lk)(st:Lr)(a b:Array Lk)(o0:Nat)(out:Array Lk)(na nb:Nat)(st':Lr):Option (Array Lk)->Prop where|ret{z:Array Lk}(g:Gs κ a₀ st st')(p:z.Perm (a++b)):Hf κ a₀ st a b o0 out na nb st' (KJ z)|go(h:Ho κ a₀ st a b o0 KP out na nb st'):Hf κ a₀ st a b o0 out na nb st' KP
section
variable{st:Lr}{a b:Array Lk}
noncomputable abbrev R7(κ:Nc)(a₀:Array Lk)(st:Lr)(a b:Array Lk)(e:Nat):ForInStep D7->Lr->Prop:=λr d=>match r with
 |.done c=>Hf κ a₀ st a b e c.2.2.2.1 c.2.1 c.2.2.1 d c.1|.yield c=>Ho κ a₀ st a b e c.1 c.2.2.2.1 c.2.1 c.2.2.1 d
theorem rL(y:∀x∈a,x∈a₀){mg p n e j i:Nat}{c:Array Lk}{d:Lr}(h:Ho κ a₀ st a b i KP c e j d):Q9 (K7 prog w) A E s (Iv a b mg p n e c j) (R7 κ a₀ st a b i) d:=by
 have m:=h.a1;have q:=h.l.ha;refine K3 (av (by omega) λv u ev=>?_);have k:=h.l.lQ m ev;have t:(c.push v).size=c.size+1:=M8 ..;have r:=h.o;by_cases f:(e-1==0)=KQ
 .rw[if_pos f];exact K9 (.ret h.g k.done)
 rw[if_neg f];have f:=aL f;have g:Ho κ a₀ st a b i KP (c.push v) (e-1) j d:=⟨h.g,rfl,k,by omega,h.b1,by omega⟩;split;.exact K9 (.go g)
 .exact K9 g
theorem rM(C:Cm prog w A s κ a₀)(r:∀x∈a,x∈a₀)(q:∀x∈b,x∈a₀){mg D B u e t:Nat}{c:Array Lk}{d:Lr}(h:Ho κ a₀ st a b t KP c u e d):Q9 (K7 prog w) A E s (GW a b mg D B e c u) (R7 κ a₀ st a b t) d:=by
 have H:=h.b1;have G:=h.l.hb;have F:=h.a1;have y:=h.l.ha;refine K3 (av (by omega) λv K ev=>?_);have p:=h.l.lR (by omega) ev;have J:(c.push v).size=c.size+1:=M8 ..;have I:=h.o;by_cases m:(e-1==1)=KQ
 .rw[if_pos m];exact K9 (.ret h.g p.first)
 rw[if_neg m];have m:=aL m;refine K3 (av (by omega) λx z ex=>?_);refine K3 (b9 C h.g.b.k q (r x z) (by omega) (by omega) λk L=>?_);show Q9 _ _ _ _ (if e-1-k>0 then _ else _) _ _;by_cases f:e-1-k>0
 .rw[if_pos f];have n:=p.B1 (k:=k) (by omega);by_cases j:(k==1)=KQ
  .rw[if_pos j];exact K9 (.ret h.g n.first)
  .rw[if_neg j];have j:=aL j;by_cases i:(k==0)=KQ
   .rw[if_pos i];exact K9 (.ret h.g n.done)
   .rw[if_neg i];have i:=aL i;exact rL r ⟨h.g,rfl,n,h.a1,by omega,by rw[NB];omega⟩
 .rw[if_neg f];exact rL r ⟨h.g,rfl,p,h.a1,by omega,by omega⟩
theorem rN(C:Cm prog w A s κ a₀)(l:∀x∈a,x∈a₀)(d:∀x∈b,x∈a₀){mg n:Nat}{c:D7}{e:Lr}(h:Ho κ a₀ st a b n c.1 c.2.2.2.1 c.2.1 c.2.2.1 e):Q9 (K7 prog w) A E s (xm a b c mg) (R7 κ a₀ st a b n) e:=by
 obtain⟨K,o,I,z,B,M,L⟩:=c;obtain⟨u,t,g,r,m,q⟩:=h;dsimp only at u t g r m q;subst t;have H:=g.ha;have G:=g.hb;refine K3 (jk u λv j=>?_);refine K3 (av (by dsimp only;omega) λy D J=>?_);refine K3 (b9 C j.b.k l (d y D) (by dsimp only;omega) (by dsimp only;omega) λk F=>?_);show Q9 _ _ _ _ (if o-k>0 then _ else _) _ _;dsimp only at F⊢;by_cases f:o-k>0
 .rw[if_pos f];have p:=g.B0 (k:=k) (by omega);by_cases i:(k==0)=KQ
  .rw[if_pos i];exact K9 (.ret j p.done)
  rw[if_neg i];have i:=aL i;exact rM C l d ⟨j,rfl,p,by omega,m,by rw[NB];omega⟩
 .rw[if_neg f];exact rM C l d ⟨j,rfl,g,r,m,q⟩
theorem yE(C:Cm prog w A s κ a₀)(H:∀x∈a,x∈a₀)(q:∀x∈b,x∈a₀){mg u o:Nat}{c:D6}{d:Lr}(h:Ho κ a₀ st a b o c.1 c.2.2.2.1 c.2.1 c.2.2.1 d)(M:u<=o):Q9 (K7 prog w) A E s (t6 a b mg c) (λr d=>match r with
  |.done g=>Hf κ a₀ st a b (u+1) g.2.2.2.1 g.2.1 g.2.2.1 d g.1|.yield g=>Ho κ a₀ st a b (o+1) g.1 g.2.2.2.1 g.2.1 g.2.2.1 d) d:=by
 obtain⟨O,F,D,e,Q,P⟩:=c;obtain⟨i,v,l,m,t,I⟩:=h;dsimp only at i v l m t I;subst v;have L:=l.ha;have K:=l.hb;refine K3 (av (by dsimp only;omega) λy p n=>?_);refine K3 (av (by dsimp only;omega) λz G N=>?_);refine K3 (jZ C i.b.k (q y p) (H z G) λJ=>?_);cases J with
 |true=>
  dsimp only;rw[if_pos rfl];refine K3 (av (by omega) λy p n=>?_);have j:=l.lQ m n;have B:(e.push y).size=e.size+1:=M8 ..;by_cases f:(F-1==0)=KQ
  .rw[if_pos f];exact K9 (.ret i j.done)
  .rw[if_neg f];have f:=aL f;split;.exact K9 (.go ⟨i,rfl,j,by dsimp only;omega,t,by dsimp only;omega⟩)
   .exact K9 ⟨i,rfl,j,by dsimp only;omega,t,by dsimp only;omega⟩|false=>
  dsimp only;rw[if_neg (by decide)];refine K3 (av (by omega) λy p n=>?_);have j:=l.lR (by omega) n;have B:(e.push y).size=e.size+1:=M8 ..;by_cases f:(D-1==1)=KQ
  .rw[if_pos f];exact K9 (.ret i j.first)
  .rw[if_neg f];have f:=aL f;split;.exact K9 (.go ⟨i,rfl,j,m,by dsimp only;omega,by dsimp only;omega⟩)
   .exact K9 ⟨i,rfl,j,m,by dsimp only;omega,by dsimp only;omega⟩
theorem yF(C:Cm prog w A s κ a₀)(H:∀x∈a,x∈a₀)(m:∀x∈b,x∈a₀){i:Nat}{c:D5}{ee:Lr}(h:Ho κ a₀ st a b i c.1 c.2.2.2.1 c.2.1 c.2.2.1 ee):Q9 (K7 prog w) A E s (Iw a b c) (λr e=>match r with
  |.done q=>∃z,q.1=KJ z/\z.Perm (a++b)/\Gs κ a₀ st e|.yield q=>Ho κ a₀ st a b (i+1) q.1 q.2.2.2.1 q.2.1 q.2.2.1 e) ee:=by
 refine K3 (aS (λj(d:D6)e=>Ho κ a₀ st a b (i+j) d.1 d.2.2.2.1 d.2.1 d.2.2.1 e) (λd e=>Hf κ a₀ st a b (i+1) d.2.2.2.1 d.2.1 d.2.2.1 e d.1) ⟨h.g,rfl,h.l,h.a1,h.b1,h.o⟩ ?_ ?_ ?_)
 .rintro j d aX _ N g;exact O8 (yE C H m g (Qg _ _)) λr e h=>by cases r<;>exact h
 .rintro⟨I,G,F,k,K,J⟩aX g;obtain⟨B,y,n,v,u,D⟩:=g;dsimp only at B y n v u D;subst y;have:=n.size;exact .go ⟨B,rfl,n,v,u,by dsimp only;omega⟩
 .rintro⟨I,G,F,k,K,J⟩aX f;dsimp only at f⊢;cases f with
  |ret g p=>exact K9 ⟨_,rfl,p,g⟩|go g=>
   refine K3 (c7 ?_);refine K3 (aS (λj(d:D7)e=>Ho κ a₀ st a b (i+1) d.1 d.2.2.2.1 d.2.1 d.2.2.1 e) (λd e=>Hf κ a₀ st a b (i+1) d.2.2.2.1 d.2.1 d.2.2.1 e d.1) g ?_ ?_ ?_)
   .rintro j d t _ _ g;split;.exact O8 (rN C H m g) λr e h=>by cases r<;>exact h
    .exact O8 (rN C H m g) λr e h=>by cases r<;>exact h
   .rintro⟨I,G,F,k,mg,K,J⟩t g;obtain⟨B,y,n,v,u,D⟩:=g;dsimp only at B y n v u D;subst y;exact .go ⟨B,rfl,n,v,u,D⟩
   .rintro⟨I,G,F,k,mg,K,J⟩t f;dsimp only at f⊢;cases f with
    |ret g p=>exact K9 ⟨_,rfl,p,g⟩|go g=>exact K3 (jk g.g λL M=>K9 ⟨M,rfl,g.l,g.a1,g.b1,g.o⟩)
theorem og(C:Cm prog w A s κ a₀){Q:Array Lk->Lr->Prop}(h:Bs κ a₀ st)(y:∀x∈a,x∈a₀)(m:∀x∈b,x∈a₀)(ha:0<a.size)(hb:0<b.size)(q:∀r d,r.Perm (a++b)->Gs κ a₀ st d->Q r d):Q9 (K7 prog w) A E s (gH a b) Q st:=by
 rw[tu];refine K3 (c7 ?_);refine K3 (av (by omega) λx D ex=>?_);have k:Hi a b #[x] (a.size-1) b.size:=by
  have l:Hi a b #[] a.size b.size:=⟨by simp[Mb],La _,La _⟩;exact l.lQ ha ex
 have n:Gs κ a₀ st st:=⟨h,rfl,rfl⟩;by_cases f:(a.size-1==0)=KQ
 .rw[if_pos f];exact K9 (q _ _ k.done n)
 rw[if_neg f];by_cases e:(b.size==1)=KQ
 .rw[if_pos e];exact K9 (q _ _ k.first n)
 rw[if_neg e];have f:=aL f;have e:=aL e;refine K3 (OR ?_);refine K3 (aS (λi(c:D5)d=>Ho κ a₀ st a b i c.1 c.2.2.2.1 c.2.1 c.2.2.1 d) (λc d=>∃z,c.1=KJ z/\z.Perm (a++b)/\Gs κ a₀ st d) ⟨n,rfl,k,by dsimp only;omega,by dsimp only;omega,by show 0<1;omega⟩ ?_ ?_ ?_)
 .rintro i c ee _ _ g;exact O8 (yF C y m g) λr d h=>by cases r<;>exact h
 .rintro⟨B,v,u,j,mg⟩aX g;have:=g.l.size;have:=g.o;have:=g.a1;have:=g.b1;dsimp only at*;omega
 .rintro⟨B,v,u,j,mg⟩aX⟨z,t,p,g⟩;dsimp only at t⊢;subst t;exact K9 (q z aX p g)
end
end
end SrtP
end
section
namespace SrtP
open PySem PyProof.Rows
inductive Runs:Nat->List (Nat×Nat×Nat)->Nat->Prop where|nil(s:Nat):Runs s [] s|cons{s n p e:Nat}{r:List (Nat×Nat×Nat)}(h:1<=n)(t:Runs (s+n) r e):Runs s ((s,n,p)::r) e
theorem Runs.le{s e:Nat}{l:List (Nat×Nat×Nat)}(h:Runs s l e):s<=e:=by induction h with
 |nil=>exact La _|cons _ _ a=>omega
theorem Runs.snoc{s e n p:Nat}{l:List (Nat×Nat×Nat)}(h:Runs s l e)(b:1<=n):Runs s (l++[(e,n,p)]) (e+n):=by induction h with
 |nil s=>exact .cons b (.nil _)|cons h t a=>exact .cons h a
theorem Runs.mod{s e i:Nat}{l:List (Nat×Nat×Nat)}(pw:Nat)(h:Runs s l e):Runs s (l.modify i λx=>(x.1,x.2.1,pw)) e:=by induction h generalizing i with
 |nil s=>cases i<;>exact .nil s|cons h t a=>cases i with
  |zero=>exact .cons h t|succ i=>exact .cons h a
theorem Runs.two{s e:Nat}:∀{i:Nat}{l:List (Nat×Nat×Nat)},Runs s l e->i+1<l.length->∃sa a p b q,l[i]?=KJ (sa,a,p)/\l[i+1]?=KJ (sa+a,b,q)/\1<=a/\1<=b/\sa+a+b<=e/\Runs s ((l.set i (sa,a+b,p)).eraseIdx (i+1)) e
 |i,[],h,c=>by simp at c|0,[_],h,c=>by simp at c|0,_::_::_,.cons (n:=n) (p:=p) d (.cons (n:=m) (p:=q) f t),c=>⟨_,n,p,m,q,rfl,rfl,d,f,t.le,.cons (by omega) (by rw[<-O1];exact t)⟩|i+1,_::_,.cons d t,c=>by
  obtain⟨sa,a,p,b,q,u,r,o,k,j,g⟩:=t.two (i:=i) (by simpa using c);exact⟨sa,a,p,b,q,by simpa using u,by simpa using r,o,k,j,.cons d g⟩
theorem oh:∀(m pre c b:List Lk)(k:Nat),c.length=m.length->∀(xs:Array Lk),xs.toList=pre++c++b->k<=pre.length->((m.zipIdx k).foldl (λa(x:Lk×Nat)=>a.setIfInBounds (pre.length-k+x.2) x.1) xs).toList=pre++m++b
 |[],pre,c,b,k,h,xs,e,_=>by cases c with
  |nil=>exact e|cons _ _=>simp at h
 |y::m,pre,[],b,k,h,xs,e,_=>by simp at h|y::m,pre,z::c,b,k,h,xs,e,g=>by
  simp only[Qf,List.foldl_cons];have f:(xs.setIfInBounds (pre.length-k+k) y).toList=(pre++[y])++c++b:=by
   rw[show pre.length-k+k=pre.length by omega,Px,e];simp
  have:=oh m (pre++[y]) c b (k+1) (by simpa using h) _ f (by simp;omega);have d:(pre++[y]).length-(k+1)=pre.length-k:=by simp
  rw[d]at this;rw[this];simp
section
variable{prog:Le}{w:Ly}{A:LC}{E:KO->KW->Prop}{s:KW}{κ:Nc}{a₀:Array Lk}
theorem om(i:Nat):mergeAt' i=(do
 let s<-get
 let(KJ (sa,d,b),KJ (e,c,_)):=((Lf s)[i]?,(Lf s)[i+1]?)|unsupported "internal:list.sort.pending"
 set (setPending s (((Lf s).setIfInBounds i (sa,d+c,b)).eraseIdxIfInBounds (i+1)))
 let KJ k<-bD KR (<-MO (Nd s) e) (Nd s) sa d 0|return KR
 let(sa,d):=(sa+k,d-k)if d==0 then return KQ
 let KJ c<-bD KQ (<-MO (Nd s) (sa+d-1)) (Nd s) e c (c-1)|return KR
 if c==0 then return KQ
 let x:=(Nd s).extract sa e;let y:=(Nd s).extract e (e+c)let merged<-if d<=c then gG x y else gH x y
 modify λs=>setArr s (merged.toList.zipIdx.foldl (λa(p,j)=>a.setIfInBounds (sa+j) p) (Nd s))return(Rl (<-get)).isNone):=rfl
theorem rO{xs:Array Lk}{i j:Nat}{z:Lk}(h:z∈xs.extract i j):z∈xs:=by
 rw[<-N_,NA,MS]at h;exact Array.mem_toList_iff.mp (List.mem_of_mem_drop (List.mem_of_mem_take h))
theorem yG{Q:PUnit->Lr->Prop}{st a:Lr}(h:Q ⟨⟩ a):Q9 (K7 prog w) A E s (set a:StateT Lr Py PUnit) Q st:=by
 unfold Q9;rw[StateT.run_set];exact KS ⟨rfl,h⟩
theorem eZ(C:Cm prog w A s κ a₀){st:Lr}{i lo:Nat}{Q:Bool->Lr->Prop}(h:Bs κ a₀ st)(N:Runs 0 (Lf st).toList lo)(U:lo<=a₀.size)(J:i+1<(Lf st).size)(q:∀o,Bs κ a₀ o->Runs 0 (Lf o).toList lo->Q KQ o):Q9 (K7 prog w) A E s (mergeAt' i) Q st:=by
 obtain⟨sa,c,p,F,L,T,S,Y,X,W,R⟩:=N.two (i:=i) (by simpa using J);rw[om];refine K3 (OR ?_);rw[show(Lf st)[i]?=KJ (sa,c,p)by rw[<-Mj];exact T,show(Lf st)[i+1]?=KJ (sa+c,F,L)by rw[<-Mj];exact S];dsimp only;refine K3 (yG ?_);have M:=h.size;generalize d:setPending st (((Lf st).setIfInBounds i (sa,c+F,p)).eraseIdxIfInBounds (i+1))=ee;have b1:Bs κ a₀ ee:=by subst d;exact⟨h.k,h.p,h.f⟩
 have D:Runs 0 (Lf ee).toList lo:=by
  subst d;show Runs 0 (((Lf st).setIfInBounds i (sa,c+F,p)).eraseIdxIfInBounds (i+1)).toList lo;rw[Array.eraseIdxIfInBounds_eq,dif_pos (by rw[Array.size_setIfInBounds];exact J),Array.toList_eraseIdx,Px];exact R
 have a1:Nd ee=Nd st:=by subst d;rfl
 clear d;refine K3 (av (by omega) λx v _=>?_);refine K3 (b9 C b1.k (λy n=>h.mem n) (h.mem v) (by omega) (by omega) λk V=>?_);dsimp only;by_cases B:(c-k==0)=KQ
 .rw[if_pos B];exact K9 (q ee b1 D)
 rw[if_neg B];have B:=aL B;refine K3 (av (by omega) λy n _=>?_);refine K3 (b9 C b1.k (λy n=>h.mem n) (h.mem n) (by omega) (by omega) λl O=>?_);dsimp only;by_cases m:(l==0)=KQ
 .rw[if_pos m];exact K9 (q ee b1 D)
 rw[if_neg m];have m:=aL m;have v:0<((Nd st).extract (sa+k) (sa+c)).size:=by rw[RT];omega
 have n:0<((Nd st).extract (sa+c) (sa+c+l)).size:=by rw[RT];omega
 have I:∀z∈(Nd st).extract (sa+k) (sa+c),z∈a₀:=λz G=>h.mem (rO G);have H:∀z∈(Nd st).extract (sa+c) (sa+c+l),z∈a₀:=λz G=>h.mem (rO G);have u:∀(r:Array Lk)(aX:Lr),r.Perm ((Nd st).extract (sa+k) (sa+c)++(Nd st).extract (sa+c) (sa+c+l))->Gs κ a₀ ee aX->Q9 (K7 prog w) A E s (do
   modify λs=>setArr s (r.toList.zipIdx.foldl (λa(x:Lk×Nat)=>match x with|(p,j)=>a.setIfInBounds (sa+k+j) p) (Nd s))let __do_lift<-get;pure (Rl __do_lift).isNone) Q aX:=λr aX t g=>by
  refine K3 (NV ?_);refine K3 (OR ?_);have P:(Rl (setArr aX (r.toList.zipIdx.foldl (λa(x:Lk×Nat)=>match x with|(p,j)=>a.setIfInBounds (sa+k+j) p) (Nd aX)))).isNone=KQ:=by
   show(Rl aX).isNone=KQ;rw[g.b.f];rfl
  rw[P];refine K9 (q _ ⟨g.b.k,?_,g.b.f⟩ ?_)
  .show(r.toList.zipIdx.foldl (λa(x:Lk×Nat)=>match x with|(p,j)=>a.setIfInBounds (sa+k+j) p) (Nd aX)).Perm a₀;rw[g.e,a1];refine Array.Perm.trans ?_ h.p;rw[MP];have K:=oh r.toList ((Nd st).toList.take (sa+k)) (((Nd st).extract (sa+k) (sa+c)++(Nd st).extract (sa+c) (sa+c+l)).toList) ((Nd st).toList.drop (sa+c+l)) 0 (by rw[Mi,Mi];exact t.size_eq.symm) (Nd st) ?_ (Mr _)
   .rw[show((Nd st).toList.take (sa+k)).length-0=sa+k by simp;omega]at K;refine MG (Nw K) ?_;refine MG (NW _ (LR _ t.toList)) (Nw ?_);rw[LZ,<-LB,<-dP _ (by omega),<-dP _ (by omega),N5]
   .rw[LZ,<-LB,<-dP _ (by omega),<-dP _ (by omega),N5]
  .show Runs 0 (Lf aX).toList lo;rw[g.p];exact D
 split;.exact K3 (n6 C b1 I H v n λr aX t g=>u r aX t g)
 .exact K3 (og C b1 I H v n λr aX t g=>u r aX t g)
end
end SrtP
end
section
namespace SrtP
open PySem PyProof.Rows
section
variable{prog:Le}{w:Ly}{A:LC}{E:KO->KW->Prop}{s:KW}{κ:Nc}{a₀:Array Lk}
theorem j7:∀(f n r:Nat),1<=n->1<=minRun' f n r
 |0,n,r,h=>by show 1<=n+r;omega|f+1,n,r,h=>by
  rw[minRun'_succ];split;.omega
  .exact j7 f _ _ (by omega)
theorem B2(c:Prop)[Decidable c]{n:Nat}(h:2<=n):(if c then n-2-1 else n-2)+1<n:=by split<;>omega
theorem vE(C:Cm prog w A s κ a₀){st:Lr}{Q:Unit->Lr->Prop}(h:Bs κ a₀ st)(g:Lf st=#[])(q:∀a,Bs κ a₀ a->Q () a):Q9 (K7 prog w) A E s sortRuns' Q st:=by
 rw[sortRuns'_eq];refine K3 (OR ?_);have D:=h.size;dsimp only;rw[D];refine K3 (aS (λ_(c:Option Unit×Nat)a=>c.1=KP/\Bs κ a₀ a/\Runs 0 (Lf a).toList c.2/\c.2<=a₀.size) (λc a=>c.1=KP/\Bs κ a₀ a/\∃lo,Runs 0 (Lf a).toList lo/\lo<=a₀.size) ⟨rfl,h,by rw[g];exact .nil _,Mr _⟩ ?_ (λc a z=>⟨z.1,z.2.1,_,z.2.2⟩) ?_)
 .rintro i⟨T,lo⟩ee _ _⟨u,b1,r,l⟩;dsimp only at u r l⊢;subst u;by_cases I:lo>=a₀.size
  .rw[if_pos I];exact K9 ⟨rfl,b1,lo,r,l⟩
  .rw[if_neg I];refine K3 (tm C b1 (by omega) (by omega) λn aX t S b N=>?_);have d:Runs 0 (Lf aX).toList lo:=by rw[N];exact r
   dsimp only;have F:=j7 a₀.size a₀.size 0 (by omega);generalize minRun' a₀.size a₀.size 0=B at F⊢;by_cases H:n<B
   .rw[if_pos H];refine K3 (c7 ?_);have hN:1<=min (a₀.size-lo) B:=by omega
    have v:lo+min (a₀.size-lo) B<=a₀.size:=by omega
    generalize min (a₀.size-lo) B=m at hN v⊢;refine K3 (yA C b v λe j M=>?_);have o:Runs 0 (Lf e).toList lo:=by rw[M];exact d
    simp only[LW,Lc,if_false];refine K3 (OR ?_);cases G:(Lf e).back? with
    |none=>
     dsimp only;refine K3 (NV (K9 ⟨rfl,⟨j.k,j.p,j.f⟩,?_,by dsimp only;omega⟩));show Runs 0 ((Lf e).push (lo,m,0)).toList (lo+m);rw[MQ];exact o.snoc hN|some x=>
     obtain⟨s1,n1,O⟩:=x;dsimp only;refine K3 (aS (λ_ c a=>c=(KP,())/\Bs κ a₀ a/\Runs 0 (Lf a).toList lo) (λc a=>c=(KP,())/\Bs κ a₀ a/\Runs 0 (Lf a).toList lo) ⟨rfl,j,o⟩ ?_ (λ_ _ z=>z) ?_)
     .rintro i c aX _ _⟨rfl,b,d⟩;refine K3 (OR ?_);by_cases g:(Lf aX).size>1
      .rw[if_pos g];cases R:(Lf aX)[(Lf aX).size-2]? with
       |none=>exact K9 ⟨rfl,b,d⟩|some y=>
        obtain⟨L,K,J⟩:=y;dsimp only;split;.exact K9 ⟨rfl,b,d⟩
        .refine K3 (eZ C b d (by omega) (by omega) λe j o=>?_);exact K9 ⟨rfl,j,o⟩
      .rw[if_neg g];exact K9 ⟨rfl,b,d⟩
     .rintro c aX⟨rfl,b,d⟩;dsimp only;refine K3 (NV (K3 (NV (K9 ⟨rfl,⟨b.k,b.p,b.f⟩,?_,by dsimp only;omega⟩))));show Runs 0 (((Lf aX).modify ((Lf aX).size-1) _).push (lo,m,0)).toList (lo+m);rw[MQ,Rx];exact(d.mod _).snoc hN
   .rw[if_neg H];refine K3 (OR ?_);cases G:(Lf aX).back? with
    |none=>
     dsimp only;refine K3 (NV (K9 ⟨rfl,⟨b.k,b.p,b.f⟩,?_,by dsimp only;omega⟩));show Runs 0 ((Lf aX).push (lo,n,0)).toList (lo+n);rw[MQ];exact d.snoc t|some x=>
     obtain⟨s1,n1,O⟩:=x;dsimp only;refine K3 (aS (λ_ c a=>c=(KP,())/\Bs κ a₀ a/\Runs 0 (Lf a).toList lo) (λc a=>c=(KP,())/\Bs κ a₀ a/\Runs 0 (Lf a).toList lo) ⟨rfl,b,d⟩ ?_ (λ_ _ z=>z) ?_)
     .rintro i c aX _ _⟨rfl,b,d⟩;refine K3 (OR ?_);by_cases g:(Lf aX).size>1
      .rw[if_pos g];cases R:(Lf aX)[(Lf aX).size-2]? with
       |none=>exact K9 ⟨rfl,b,d⟩|some y=>
        obtain⟨L,K,J⟩:=y;dsimp only;split;.exact K9 ⟨rfl,b,d⟩
        .refine K3 (eZ C b d (by omega) (by omega) λe j o=>?_);exact K9 ⟨rfl,j,o⟩
      .rw[if_neg g];exact K9 ⟨rfl,b,d⟩
     .rintro c aX⟨rfl,b,d⟩;dsimp only;refine K3 (NV (K3 (NV (K9 ⟨rfl,⟨b.k,b.p,b.f⟩,?_,by dsimp only;omega⟩))));show Runs 0 (((Lf aX).modify ((Lf aX).size-1) _).push (lo,n,0)).toList (lo+n);rw[MQ,Rx];exact(d.mod _).snoc t
 .rintro⟨T,P⟩ee⟨u,b1,lo,r,l⟩;dsimp only at u⊢;subst u;refine K3 (aS (λ_ c a=>c=(KP,())/\Bs κ a₀ a/\Runs 0 (Lf a).toList lo) (λc a=>c=(KP,())/\Bs κ a₀ a/\Runs 0 (Lf a).toList lo) ⟨rfl,b1,r⟩ ?_ (λ_ _ z=>z) ?_)
  .rintro i c aX _ _⟨rfl,b,d⟩;refine K3 (OR ?_);by_cases g:(Lf aX).size<=1
   .rw[if_pos g];exact K9 ⟨rfl,b,d⟩
   .rw[if_neg g];refine K3 (eZ C b d l (B2 _ (by omega)) λe j o=>?_);exact K9 ⟨rfl,j,o⟩
  .rintro c aX⟨rfl,b,d⟩;exact K9 (q aX b)
end
end SrtP
end
section
namespace SrtP
open PySem PySem.W PyProof.Rows L2
noncomputable def Kept(a:KY)(h h':Lx):Prop:=∀b o,b≠a->h.get? b=KJ o->h'.get? b=KJ o
noncomputable abbrev eS(h h':Lx):Prop:=∀b o,h.get? b=KJ o->h'.get? b=KJ o
section
variable{prog:Le}{w:Ly}{A:LC}{E:KO->KW->Prop}{s:KW}
theorem oo(a:List KO):(a.toArray.zip a.toArray).toList=a.map λv=>(v,v):=by
 rw[Array.toList_zip];induction a with
 |nil=>rfl|cons v r b=>simpa using b
theorem j8{a:KY}{d:List KO}{n:Nat}{P:PySem.Fin->KW->Prop}{F:Nc}(D:s.heap.get? a=KJ (Oi "list" d.toArray n))(N:d.length<=KZ)(S:2<=d.length->∀h',Kept a s.heap h'->(∀Q':Nc->KW->Prop,Q' F {s with heap:=h'}->wpAny (K7 prog w) A (keyKind' d.toArray) Q' (λ_ _=>False) {s with heap:=h'})/\∀x∈d,∀y∈d,∀(Q:Bool->KW->Prop)(E:KO->KW->Prop),(∀b,Q b {s with heap:=h'})->wpAny (K7 prog w) A (keyLt' F x y) Q E {s with heap:=h'})(h:∀(us:List KO)(h':Lx)(c:Nat),us.Perm d->Kept a s.heap h'->h'.get? a=KJ (Oi "list" us.toArray c)->P (.done (.ret .none)) {s with heap:=h'}):wpAny (K7 prog w) A (Builtin.«list.sort» ⟨[.ref a],[]⟩) P E s:=by
 have ha:a<s.heap.objs.size:=K8 D;have s1:=Na s.heap a (M5 λ_=>(#[]:Array KO));obtain⟨H,r⟩:∃H,(s.heap.update a (M5 λ_=>(#[]:Array KO))).get? a=KJ (Oi "list" #[] H):=⟨_,QR D λ_=>#[]⟩;rw[list_sort_plain];refine KL (listItems_at D rfl ?_);refine KL (RF D rfl ?_ (by rw[K6];exact N) (Mr _));refine KL (So r rfl ?_);refine KL (Rk ?_ (by show d.length<=_;exact N));refine KL (wpAny_newList ?_ (Mr _));refine LK ?_;show wpAny (K7 prog w) A _ P E {s with heap:=((s.heap.update a (M5 λ_=>(#[]:Array KO))).push (Oi "tuple" d.toArray 0)).push (Oi "list" #[] 0)};generalize t:((s.heap.update a (M5 λ_=>(#[]:Array KO))).push (Oi "tuple" d.toArray 0)).push (Oi "list" #[] 0)=m;have J:Kept a s.heap m:=λb o hb e=>by
  rw[<-t];exact KU _ (KU _ ((s1.2 b hb).trans e))
 have i:m.get? a=KJ (Oi "list" #[] H):=by
  rw[<-t];exact KU _ (KU _ r)
 dsimp only;have B:∀(us:Array KO),us.toList.Perm d->∀l,(m.update a (M5 λ_=>us)).get? a=KJ (Oi "list" us l)->P (.done (.ret .none)) {s with heap:=m.update a (M5 λ_=>us)}:=λus hu l T=>h us.toList _ l hu (λb o hb e=>((Na m a _).2 b hb).trans (J b o hb e)) T;have fz:∀(us:Array KO),us.toList.Perm d->us.size<=KZ+1:=λus hu=>by have:=hu.length_eq;rw[Mi]at this;omega
 have K:((d.toArray.zip d.toArray).map (·.2)).toList=d:=by
  rw[Qi,oo,LD];exact Rm _
 by_cases z:d.toArray.size<2
 .rw[if_pos z,if_pos z];refine KL (KS ?_);rw[StateT.run_pure];refine KL (KS ?_);dsimp only;have hu:((Nd (RS general' (d.toArray.zip d.toArray) #[] 7 KP)).map (·.2)).toList.Perm d:=Nw K;generalize(Nd (RS general' (d.toArray.zip d.toArray) #[] 7 KP)).map (·.2)=us at hu⊢;obtain⟨l,q⟩:∃l,(m.update a (M5 λ_=>us)).get? a=KJ (Oi "list" us l):=⟨_,QR i λ_=>_⟩;refine KL (So i rfl ?_);refine KL (RF i rfl ?_ (Mr _) (fz us hu));simp only[bne_self_eq_false,Lc,if_false];exact KS (B us hu l q)
 .rw[if_neg z,if_neg z];have G:2<=d.length:=by
   have:¬d.length<2:=by simpa using z
   omega
  obtain⟨O,C⟩:=S G m J;refine KL (ML (O (λj I=>j=F/\I={s with heap:=m}) ⟨rfl,rfl⟩) (λj W U=>?_) λ_ _ x=>x.elim);obtain⟨rfl,rfl⟩:=U;have V:Cm prog w A {s with heap:=m} j (d.toArray.zip d.toArray):=λx M y L=>by
   rw[<-N_,oo]at M L;obtain⟨v,R,rfl⟩:=List.mem_map.mp M;obtain⟨u,hu,rfl⟩:=List.mem_map.mp L;exact C v R u hu
  refine KL (ML (vE (st:=RS j (d.toArray.zip d.toArray) #[] 7 KP) (Q:=λ_ k=>Bs j (d.toArray.zip d.toArray) k) V ⟨rfl,Array.Perm.refl _,rfl⟩ rfl λk b=>b) ?_ λ_ _ e=>e);rintro⟨⟨⟩,k⟩I⟨rfl,b⟩;dsimp only;have hu:((Nd k).map (·.2)).toList.Perm d:=by
   rw[Qi];refine(b.p.toList.map _).trans (Nw ?_);rw[<-Qi];exact K
  rw[b.f];generalize(Nd k).map (·.2)=us at hu⊢;obtain⟨l,q⟩:∃l,(m.update a (M5 λ_=>us)).get? a=KJ (Oi "list" us l):=⟨_,QR i λ_=>_⟩;refine KL (So i rfl ?_);refine KL (RF i rfl ?_ (Mr _) (fz us hu));simp only[bne_self_eq_false,Lc,if_false];exact KS (B us hu l q)
structure vF(prog:Le)(w:Ly)(A:LC)(vals:List KO)(κ:Nc)(s:KW):Prop where
 kind:2<=vals.length->∀h',eS s.heap h'->∀Q':Nc->KW->Prop,Q' κ {s with heap:=h'}->wpAny (K7 prog w) A (keyKind' vals.toArray) Q' (λ_ _=>False) {s with heap:=h'}cmp:2<=vals.length->∀h',eS s.heap h'->∀x∈vals,∀y∈vals,∀(Q:Bool->KW->Prop)(E:KO->KW->Prop),(∀b,Q b {s with heap:=h'})->wpAny (K7 prog w) A (keyLt' κ x y) Q E {s with heap:=h'}
theorem ou{v:KO}{Q:KO->KW->Prop}(h:wpAny (K7 prog w) A.in1 (SU v) (λvals s1=>vals.length<=KZ/\∃d,vF prog w A.in1.in1 vals d s1/\∀(us:List KO)(h':Lx)(c:Nat),us.Perm vals->eS s1.heap h'->h'.get? s1.heap.objs.size=KJ (Oi "list" us.toArray c)->Q (.ref s1.heap.objs.size) {s1 with heap:=h'}) E s):wpAny (K7 prog w) A (call (.builtin "sorted") [v]) Q E s:=by
 refine Calls.call_function_entry kind_sorted plain_sorted entry_sorted (args_sorted1 _) ?_;unfold Builtin.«sorted»;refine KL (m:=checkCount "sorted" 1 1 _) (KS ?_);refine KL (ML h (λvals s1 i=>?_) λ_ _ e=>e);obtain⟨f,d,K,q⟩:=i;refine KL (wpAny_newList ?_ f);have a:(s1.heap.push (Oi "list" vals.toArray 0)).get? s1.heap.objs.size=KJ (Oi "list" vals.toArray 0):=Lb _ rfl;have keep:∀h',Kept s1.heap.objs.size (s1.heap.push (Oi "list" vals.toArray 0)) h'->eS s1.heap h':=λh' k b o e=>k b o (Lu (K8 e)) (KU _ e);refine KL (LK (LQ slot_list_sort ⟨_,a,rfl⟩ entry_list_sort ?body (args_list_sort _)));case body=>
  refine j8 (s:={s1 with heap:=s1.heap.push (Oi "list" vals.toArray 0)}) a f (λg h' k=>⟨K.kind g h' (keep h' k),K.cmp g h' (keep h' k)⟩) λus h' c v k e=>⟨_,rfl,?_⟩;exact KS ⟨_,rfl,q us h' c v (keep h' k) e⟩
end
end SrtP
end
section
namespace SrtP
open PySem PySem.W PyProof.Rows L2
section
variable{prog:Le}{w:Ly}{A:LC}{E:KO->KW->Prop}{s:KW}
noncomputable def j9(h:Lx)(v:KO)(k:List Int):Prop:=∃a b,v=.ref a/\QH h a (List.toArray b)/\Ny b k
noncomputable def TT(h:Lx)(v:KO):Prop:=∃k,k≠[]/\j9 h v k
noncomputable def NT(h:Lx)(v:KO):Prop:=∃a b,v=.ref a/\QH h a (List.toArray b)/\b≠[]/\∀u∈b,∃k,j9 h u k
theorem j9.grown{h h':Lx}{v:KO}{k:List Int}(t:j9 h v k)(g:eS h h'):j9 h' v k:=by
 obtain⟨a,b,e,⟨o,c,r⟩,d⟩:=t;exact⟨a,b,e,⟨o,g _ _ c,r⟩,d⟩
theorem TT.grown{h h':Lx}{v:KO}(t:TT h v)(g:eS h h'):TT h' v:=let⟨k,a,t⟩:=t;⟨k,a,t.grown g⟩
theorem NT.grown{h h':Lx}{v:KO}(t:NT h v)(g:eS h h'):NT h' v:=by
 obtain⟨a,b,e,⟨o,c,r⟩,d,f⟩:=t;exact⟨a,b,e,⟨o,g _ _ c,r⟩,d,λu hu=>let⟨k,z⟩:=f u hu;⟨k,z.grown g⟩⟩
theorem tv{M:Si}{h:Lx}{v:KO}{k:List Int}(t:j9 h v k):Looks M h (SR v) (.type "tuple"):=λA Q E s g q=>by
 obtain⟨a,b,rfl,⟨o,c,d,n,hd⟩,e⟩:=t;exact Oc (T:="tuple") ⟨o,g _ _ c,d⟩ q
theorem ox{h:Lx}{M:Si}:∀{vals:List KO},(∀v∈vals,TT h v)->∃fs:List KO,KatTups h vals fs/\fs.length=vals.length/\∀v∈fs,Looks M h (SR v) (.type "int")
 |[],_=>⟨[],trivial,rfl,λv b=>by cases b⟩|v::r,H=>by
  obtain⟨fs,p,m,l⟩:=ox (M:=M) (vals:=r) λu hu=>H u (K4 _ hu);obtain⟨k,f,a,d,rfl,⟨o,e,j,n,hd⟩,g⟩:=H v K5;cases g with
  |nil=>exact absurd rfl f|cons i c r=>
   refine⟨.int i c::fs,KatTups.cons e j hd (by simp) p,by simp[m],λv b=>?_⟩;rcases List.mem_cons.mp b with z|z;.rw[z];exact SortM.lC i c
   .exact l v z
theorem oy{h:Lx}{M:Si}:∀{vals:List KO},(∀v∈vals,NT h v)->∃fs:List KO,KatTups h vals fs/\fs.length=vals.length/\∀v∈fs,Looks M h (SR v) (.type "tuple")
 |[],_=>⟨[],trivial,rfl,λv c=>by cases c⟩|v::r,H=>by
  obtain⟨fs,l,j,i⟩:=oy (M:=M) (vals:=r) λu hu=>H u (K4 _ hu);obtain⟨a,b,rfl,⟨o,d,g,n,hd⟩,e,f⟩:=H v K5;cases b with
  |nil=>exact absurd rfl e|cons u m=>
   refine⟨u::fs,KatTups.cons d g hd (by simp) l,by simp[j],λv c=>?_⟩;rcases List.mem_cons.mp c with z|z
   .rw[z];obtain⟨k,t⟩:=f u K5;exact tv t
   .exact i v z
theorem tw{vals:List KO}(t:∀v∈vals,∃i a,v=.int i a):vF prog w A vals oneType' s where
 kind:=λb c g k q=>by
  refine kas_kind (s:={s with heap:=c}) b (T:=.type "int") (λv f=>?_) (by decide) (by decide) q;obtain⟨i,a,rfl⟩:=t v f;exact SortM.lC i a
 cmp:=λb c g x e y d Q E q=>by
  obtain⟨i,a,rfl⟩:=t x e;obtain⟨j,h,rfl⟩:=t y d;rw[keyLt'_oneType];exact oneLt_int (q _)
theorem B5{vals:List KO}(t:∀v∈vals,TT s.heap v):vF prog w A vals (tuples' KQ) s where
 kind:=λB e g I q=>by
  obtain⟨fs,C,H,z⟩:=ox (M:=K7 prog w) λv p=>(t v p).grown g;exact kat_kind (s:={s with heap:=e}) C (by omega) z (by decide) q
 cmp:=λB e g x m y l Q E q=>by
  obtain⟨k,_,a,j,rfl,⟨o,r,G,n,hd⟩,h⟩:=(t x m).grown g;obtain⟨F,_,b,i,rfl,⟨D,c,u,n2,d⟩,f⟩:=(t y l).grown g;refine kat_lt (s:={s with heap:=e}) r hd c d (SortM.rm _ _ _ _ 0 h f ?_ (q _));rw[K6,K6,h.length,f.length,decide_eq_true_iff]
theorem items_int{a:List KO}{k:List Int}(h:Ny a k):ItemsAre (ar prog w) (k.map O0) a:=by induction h with
 |nil=>exact .nil|cons i b _ c=>exact .cons (iJ prog w i b) c
theorem j9.key{h:Lx}{v:KO}{k:List Int}(t:j9 h v k):∃a,v=.ref a/\IsTupleKey (ar prog w) h (k.map O0) a:=by
 obtain⟨a,b,e,⟨o,c,f,n,hd⟩,d⟩:=t;exact⟨a,e,o,_,n,c,f,hd,by simpa using items_int d⟩
theorem zW{Q:Bool->KW->Prop}{c:Bool}(hu:A.units<L9)(q:∀b,Q b s):∀(xs ys:List KO)(i:Nat),(∀u∈xs,∃k,j9 s.heap u k)->(∀u∈ys,∃k,j9 s.heap u k)->KatLex prog w A KR c Q (xs.zip ys) i s
 |[],_,_,_,_=>q c|_::_,[],_,_,_=>q c|x::xs,y::ys,i,g,f=>by
  obtain⟨k,d⟩:=g x K5;obtain⟨z,ty⟩:=f y K5;obtain⟨a,v,m⟩:=d.key (prog:=prog) (w:=w);obtain⟨b,t,l⟩:=ty.key (prog:=prog) (w:=w);have go:∀e,KatGo prog w A KR c Q x y (xs.zip ys) i e s:=λe=>by cases e with
   |true=>exact kat_yes (zW hu q xs ys (i+1) (λu hu=>g u (K4 _ hu)) λu hu=>f u (K4 _ hu))|false=>
    refine kat_no ?_;obtain⟨C,o,rfl,j,r⟩:=d;obtain⟨B,n,rfl,h,p⟩:=ty;exact kat_one _ _ (HT.jx j h (by simpa using r) (by simpa using p) hu (q _))
  subst v t;exact RP hu m l (go _)
theorem B6{vals:List KO}(hu:A.units<L9)(t:∀v∈vals,NT s.heap v):vF prog w A vals (tuples' KR) s where
 kind:=λB h g I q=>by
  obtain⟨fs,C,H,z⟩:=oy (M:=K7 prog w) λv k=>(t v k).grown g;exact kat_kind (s:={s with heap:=h}) C (by omega) z (by decide) q
 cmp:=λB h g x j y i Q E q=>by
  obtain⟨a,d,rfl,⟨o,l,G,n,hd⟩,F,r⟩:=(t x j).grown g;obtain⟨b,c,rfl,⟨D,e,u,n2,f⟩,m,p⟩:=(t y i).grown g;exact kat_lt (s:={s with heap:=h}) l hd e f (zW hu q d c 0 r p)
end
end SrtP
end
section
namespace L2
open PySem PySem.Spec PyProof.Rows
section
variable{X:Cx}{F:Fx}
noncomputable def vG:D->Bool
 |.tup []=>KR|.tup a=>a.all DF|_=>KR
noncomputable def E3:D->Bool
 |.tup a=>a.all DF|_=>KR
noncomputable def E4:D->Bool
 |.tup []=>KR|.tup a=>a.all E3|_=>KR
noncomputable def oz(ds:List D):Bool:=ds.all DF||ds.all vG||ds.all E4
noncomputable def oA:D->Option (List D)
 |.lst a=>KJ a|.aR ks _=>KJ ks|_=>KP
noncomputable def vH(d:D):M D:=do
 let a<-M.get (oA d)M.need (a.length<=KZ/\oz a=KQ)let l<-M.any λl=>l.Perm a;pure (.lst l)
theorem rP{d:D}(h:DF d=KQ):∃i,d=.int i:=by cases d<;>first|exact⟨_,rfl⟩|cases h
theorem rQ:∀{ds:List D},ds.all DF=KQ->∃ns:List Int,ds=ns.map D.int
 |[],_=>⟨[],rfl⟩|d::ds,h=>by
  rw[NG,K0]at h;obtain⟨i,rfl⟩:=rP h.1;obtain⟨ns,rfl⟩:=rQ h.2;exact⟨i::ns,rfl⟩
theorem j_{B:Fb}{H:Hp}:∀{a:List V}{ns:List Int},ab B H a (ns.map D.int)->a=ns.map V.int
 |_,[],h=>by simp only[Nh,ab]at h;rw[h];rfl|_,n::ns,h=>by
  simp only[Ll,ab,Is]at h;obtain⟨x,c,rfl,rfl,b⟩:=h;rw[j_ b];rfl
section
variable{pins:List (KY×Mc)}{σ:St}{H:Hp}{s:KW}
theorem rR(I:Inv X pins σ H s)(hK:X.K=F.K){v:V}{u:KO}{xs:List D}(r:RelV v u)(i:Is F.toFb H v (.tup xs))(h:xs.all DF=KQ):∃ns:List Int,xs=ns.map D.int/\SrtP.j9 s.heap u ns:=by
 obtain⟨ns,rfl⟩:=rQ h;simp only[Is]at i;obtain⟨a,g,rfl,c,e⟩:=i;cases(show u=Ln a from r);have:=j_ e;subst this;obtain⟨b,d,f,_⟩:=I.tuple (show gp X.K H a _ by rw[hK];exact c.2);exact⟨ns,rfl,a,b,rfl,f,intsAre_of d⟩
theorem E5(I:Inv X pins σ H s)(hK:X.K=F.K){v:V}{u:KO}{d:D}(r:RelV v u)(i:Is F.toFb H v d)(h:vG d=KQ):SrtP.TT s.heap u:=by match d,h,i with
 |.tup (x::a),h,i=>
  obtain⟨ns,e,t⟩:=rR I hK r i h;refine⟨ns,λz=>?_,t⟩;rw[z]at e;cases e
theorem E6(I:Inv X pins σ H s)(hK:X.K=F.K){v:V}{u:KO}{d:D}(r:RelV v u)(i:Is F.toFb H v d)(h:E4 d=KQ):SrtP.NT s.heap u:=by match d,h,i with
 |.tup (x::f),h,i=>
  simp only[Is]at i;obtain⟨a,A,rfl,l,b⟩:=i;cases(show u=Ln a from r);obtain⟨g,m,n,_⟩:=I.tuple (show gp X.K H a _ by rw[hK];exact l.2);refine⟨a,g,rfl,n,?_,?_⟩
  .intro z;subst z;cases m;simp[ab]at b
  .have h:(x::f).all E3=KQ:=h;clear n l r;rename_i k;clear k;generalize x::f=c at b h;induction m generalizing c with
   |nil=>intro u hu;cases hu|cons o B p=>
    intro u hu;cases c with
    |nil=>simp[ab]at b|cons d c=>
     simp only[ab]at b;obtain⟨y,w,e,j,q⟩:=b;cases e;rw[NG,K0]at h;rcases List.mem_cons.mp hu with z|z
     .subst z;match d,h.1,j with
      |.tup f,hd,j=>
       obtain⟨ns,_,t⟩:=rR I hK o j hd;exact⟨ns,t⟩
     .exact p c q h.2 u z
theorem mJ{P:KO->Prop}{f:D->Bool}(e:∀{v:V}{u:KO}{d:D},RelV v u->Is F.toFb H v d->f d=KQ->P u):∀{c:List V}{us:List KO}{ds:List D},aq c us->ab F.toFb H c ds->ds.all f=KQ->∀u∈us,P u
 |_,_,[],b,a,_,u,hu=>by
  simp only[ab]at a;subst a;cases b;cases hu|_,_,d::ds,b,a,h,u,hu=>by
  simp only[ab]at a;obtain⟨x,l,rfl,k,j⟩:=a;rw[NG,K0]at h;cases b with|cons i g=>
   rcases List.mem_cons.mp hu with z|z;.subst z;exact e i k h.1
   .exact mJ e g j h.2 u z
theorem yH(I:Inv X pins σ H s)(hK:X.K=F.K){A:LC}(hu:A.units<L9){c:List V}{us:List KO}{ds:List D}(a:aq c us)(b:ab F.toFb H c ds)(h:oz ds=KQ):∃e,SrtP.vF X.prog X.w A us e s:=by
 unfold oz at h;rw[Mf,Mf]at h;rcases h with(h|h)|h
 .refine⟨_,SrtP.tw (mJ (P:=λu=>∃i f,u=.int i f) (λ{v u d}r i hd=>?_) a b h)⟩;obtain⟨g,rfl⟩:=rP hd;simp only[Is]at i;subst i;exact⟨g,r⟩
 .exact⟨_,SrtP.B5 (mJ (λr i hd=>E5 I hK r i hd) a b h)⟩
 .exact⟨_,SrtP.B6 hu (mJ (λr i hd=>E6 I hK r i hd) a b h)⟩
end
theorem Paired.E7{f e:Type}{P:f->e->Prop}{ys us:List e}(p:us.Perm ys):∀{xs:List f},Paired P xs ys->∃a,a.Perm xs/\Paired P a us:=by induction p with
 |nil=>intro xs h;exact⟨xs,.refl _,h⟩|cons x p o=>
  intro xs h;cases h with|cons r t=>
   obtain⟨a,g,d⟩:=o t;exact⟨_::a,g.cons _,.cons r d⟩
 |swap x y l=>
  intro xs h;cases h with|cons r t=>cases t with|cons k j=>exact⟨_,.swap _ _ _,.cons k (.cons r j)⟩
 |trans g s c b=>
  intro xs h;obtain⟨a,n,d⟩:=b h;obtain⟨i,m,q⟩:=c d;exact⟨i,m.trans n,q⟩
theorem qg{B:Fb}{H:Hp}{j xs:List V}(p:j.Perm xs):∀{ds:List D},ab B H xs ds->∃c,c.Perm ds/\ab B H j c:=by induction p with
 |nil=>intro ds h;exact⟨ds,.refl _,h⟩|cons x p t=>
  intro ds h;cases ds with
  |nil=>simp[ab]at h|cons d ds=>
   simp only[ab]at h;obtain⟨q,n,e,b,a⟩:=h;cases e;obtain⟨c,k,i⟩:=t a;exact⟨d::c,k.cons _,.cons b i⟩
 |swap x y l=>
  intro ds h;cases ds with
  |nil=>simp[ab]at h|cons d ds=>cases ds with
   |nil=>simp[ab]at h|cons v ds=>
    simp only[ab]at h;obtain⟨q,n,e,b,o,m,u,a,i⟩:=h;cases e;cases u;exact⟨v::d::ds,.swap _ _ _,.cons a (.cons b i)⟩
 |trans k w g f=>
  intro ds h;obtain⟨c,s,b⟩:=f h;obtain⟨fs,r,a⟩:=g b;exact⟨fs,r.trans s,a⟩
theorem tz{c:List (KY×Mc)}{j:St}{H:Hp}{s:KW}{a:KY}{g:List V}{R:List KO->KW->Prop}(I:Inv X c j H s)(m:dF X.K H a g)(h:∀(h':Lx)(k:Nat)(us:List KO),SrtP.eS s.heap h'->aq g us->R us {s with heap:=h',toks:=k}):wpAny (K7 X.prog X.w) X.A.in1 (SU (.ref a)) R X.xe s:=by
 obtain⟨f,i,pl,l⟩:=I.list m;have d:=i.length;refine collect_list pl.isList ?_ (by simpa[d]using l);refine h _ s.toks f (λb o e=>?_) i;rw[Heap.get?_update_ne _ _ _ _ (Lu (K8 e))];exact KU _ e
theorem tD(C:X.calm=KQ){j:List (KY×Mc)}{t:St}{H:Hp}{s:KW}{x:V}{u:KO}{d:D}{ds:List D}{R:List KO->KW->Prop}(I:Inv X j t H s)(hK:X.K=F.K)(r:RelV x u)(i:Is F.toFb H x d)(e:oA d=KJ ds)(h:∀(h':Lx)(f:Nat)(c:List V)(us:List KO),SrtP.eS s.heap h'->aq c us->ab F.toFb H c ds->R us {s with heap:=h',toks:=f}):wpAny (K7 X.prog X.w) X.A.in1 (SU u) R X.xe s:=by
 have hd:(∃l,d=.lst l)\/∃ks q,d=.aR ks q:=by cases d<;>first|exact .inl ⟨_,rfl⟩|exact .inr ⟨_,_,rfl⟩|cases e
 rcases hd with⟨l,rfl⟩|⟨ks,q,rfl⟩
 .cases e;simp only[Is]at i;obtain⟨a,c,rfl,v,iv⟩:=i;cases(show u=Ln a from r);exact tz I (by rw[hK];exact v.2.sq) λh' f us g m=>h h' f c us g m iv
 .cases e;simp only[Is]at i;obtain⟨a,c,rfl,⟨o,p,n⟩,G⟩:=i;cases(show u=Ln a from r);obtain⟨k,E,J,y,hd,m,ik⟩:=nR n;have z:=p.get I hK;obtain⟨_,_,_,b,B,_⟩:=BQ n;rw[hd]at b;injection b with b _;subst b;exact DictIt.pR (show X.A.in1.handled=KP from I.ok.hd C) p.2.1 z y.1 hd (by rw[B];exact n.1) λh' f g=>h h' f k _ g m ik
theorem vI(T:X.calm=KQ)(hu:X.A.units+2<L9):bC X F (.builtin "sorted") (one vH)where
 call:=λb s C H k Y o ds Q I L l hK P N=>by
  obtain⟨d,rfl,q⟩:=fC N;obtain⟨v,rfl,i⟩:=P.one;obtain⟨es,e,q⟩:=M.run_get.mp q;obtain⟨⟨w,R⟩,q⟩:=q;obtain⟨u,rfl,J⟩:=vals1 L;refine SrtP.ou (tD T I hK J i e λf h vs o g a iv=>?_);have n:Inv X b C H {s with heap:=f,toks:=h}:=I.kept (t':=h) g;obtain⟨E,K⟩:=yH n hK (A:=X.A.in1.in1) (show X.A.units+1+1<L9 from hu) a iv R;have S:o.length<=KZ:=by rw[<-a.length,iv.length];exact w
  refine⟨S,E,K,λG U c O V B=>?_⟩;obtain⟨Z,pw,j⟩:=Paired.E7 O a;obtain⟨m,pe,r⟩:=qg pw iv;have x:H f.objs.size=KP:=n.aN.fresh (La _);have W:=n.newList (t:=h) (D:=f.objs.size) V (La _) j (by rw[r.length,pe.length_eq];exact w) B;exact⟨.ref f.objs.size,_,W.freeze ai B (λ_ z=>nomatch z) (λ_ _ z=>nomatch z) (λ_ z=>nomatch z) (λ_ z=>nomatch z),rfl,by
   rw[cf];exact q m pe _ _ (.new x) (bF (k:=k) l x r)⟩
end
section
variable{prog:Le}{w:Ly}{A:LC}{E:KO->KW->Prop}{s:KW}
theorem hZ:entryFor table "dict.update.loop"=KJ Builtin.«dict.update.loop»:=entryFor_of_tree (by kernel_rfl)
theorem h_:plainId "dict.update.loop"=KQ:=by decide+kernel
end
noncomputable def aE(ks:List D)(d:D):Bool:=(ks.all zQ&&zQ d)||(ks.all ym&&ym d)
theorem bK{ks:List D}{d:D}(h:aE ks d=KQ):kinds ks d:=by
 unfold aE at h;rw[Mf,K0,K0]at h;rcases h with⟨b,a⟩|⟨b,a⟩;.exact .inl ⟨yo b,jj a⟩
 .exact .inr ⟨vt b,nP a⟩
noncomputable def dQ:List D->List D×List D->Option (List D×List D)
 |[],a=>KJ a|.tup [k,v]::r,a=>if aE a.1 k&&decide (a.1.length<KZ)then dQ r (putD a.1 a.2 k v)else KP|_,_=>KP
mutual
noncomputable def vJ:D->PyData
 |.bl b=>.bool b|.int i=>.int i|.str x=>.str x|.tup a=>.tuple (tE a)|.lst a=>.list (tE a)|_=>.none
noncomputable def tE:List D->List PyData
 |[]=>[]|x::a=>vJ x::tE a
end
mutual
noncomputable def tF:D->Bool
 |.bx=>KQ|.bl _=>KQ|.int _=>KQ|.str _=>KQ|.tup a=>oB a|.lst a=>oB a|_=>KR
noncomputable def oB:List D->Bool
 |[]=>KQ|x::a=>tF x&&oB a
end
mutual
theorem rS:∀(d:D),(vJ d).hasDict=KR
 |.bx=>rfl|.bl _=>rfl|.int _=>rfl|.str _=>rfl|.tup a=>by simp only[vJ,PyData.hasDict];exact kf a|.lst a=>by simp only[vJ,PyData.hasDict];exact kf a|.aR _ _=>rfl
theorem kf:∀(ds:List D),R_ (tE ds)=KR
 |[]=>rfl|d::ds=>by simp only[tE,R_,rS d,kf ds,Bool.or_self]
end
mutual
theorem oE{h:Lx}:∀{u:KO}{d:D},tF d=KQ->aY h u d->∃as,Reads h u (vJ d) as
 |_,.bx,_,i=>by simp only[aY]at i;subst i;exact⟨_,.none⟩|_,.bl b,_,i=>by simp only[aY]at i;subst i;exact⟨_,.bool b⟩|_,.int n,_,i=>by simp only[aY]at i;obtain⟨t,rfl⟩:=i;exact⟨_,.int n t⟩|_,.str x,_,i=>by simp only[aY]at i;obtain⟨t,rfl⟩:=i;exact⟨_,.str x t⟩|_,.tup k,p,i=>by
  simp only[aY]at i;obtain⟨a,c,rfl,⟨o,j,g,n,f⟩,e⟩:=i;simp only[tF]at p;obtain⟨as,r⟩:=ic p e;exact⟨_,.tuple j g f r⟩|_,.lst k,p,i=>by
  simp only[aY]at i;obtain⟨a,c,rfl,⟨o,j,g,n,f⟩,e⟩:=i;simp only[tF]at p;obtain⟨as,r⟩:=ic p e;exact⟨_,.list j g f r⟩|_,.aR _ _,p,_=>by simp[tF]at p
theorem ic{h:Lx}:∀{us:List KO}{ds:List D},oB ds=KQ->bM h us ds->∃as,ReadsAll h us (tE ds) as
 |_,[],_,i=>by simp only[bM]at i;subst i;exact⟨_,.nil⟩|_,d::ds,p,i=>by
  simp only[bM]at i;obtain⟨u,r,rfl,e,c⟩:=i;simp only[oB,K0]at p;obtain⟨as,b⟩:=oE p.1 e;obtain⟨bs,a⟩:=ic p.2 c;exact⟨_,.cons b a⟩
end
noncomputable def tG(d:D):Bool:=tF d&&((vJ d).showable&&(decide ((vJ d).depth<=8)&&decide ((vJ d).shown.length<=KZ)))
section
variable{X:Cx}{F:Fx}
noncomputable def zX:D->D->M D
 |.str x,.str y=>do M.need (x.length+y.length<=KZ);pure (.str (x++y))|_,_=>M.fail
theorem yI:eG X F (Nk .Add) zX:=⟨λc s m H k x y v u d e Q I j i l hK g f q=>by cases d with
 |str a=>cases e with
  |str b=>
   simp only[Is]at g f;subst g f;obtain⟨t,rfl⟩:=j;obtain⟨h,rfl⟩:=i;exact SB.add (λh n=>⟨.str _,H,I.tok _,⟨_,rfl⟩,q.2 _ H .refl (by simp only[Is])⟩) q.1|_=>exact q.elim
 |_=>exact q.elim⟩
noncomputable def E8(ng:Bool):D->D->M D
 |.str x,.str y=>pure (.bl (if ng then !(Of y x)else Of y x))|_,_=>M.fail
theorem yJ:eG X F (LA .In) (E8 KR):=⟨λc s j H k x y v u d e Q I i h l hK g f q=>by cases d with
 |str a=>cases e with
  |str b=>
   simp only[Is]at g f;subst g f;obtain⟨t,rfl⟩:=i;obtain⟨m,rfl⟩:=h;exact SB.contains ⟨.bl _,H,I,rfl,q _ H .refl (by simp only[Is];rfl)⟩|_=>exact q.elim
 |_=>exact q.elim⟩
theorem qh:eG X F (LA .NotIn) (E8 KQ):=⟨λc s j H k x y v u d e Q I i h l hK g f q=>by cases d with
 |str a=>cases e with
  |str b=>
   simp only[Is]at g f;subst g f;obtain⟨t,rfl⟩:=i;obtain⟨m,rfl⟩:=h;exact SB.notContains ⟨.bl _,H,I,rfl,q _ H .refl (by simp only[Is];rfl)⟩|_=>exact q.elim
 |_=>exact q.elim⟩
noncomputable def E9:D->D->M D
 |.bl a,.bl b=>pure (.bl (a !=b))|_,_=>M.fail
theorem yK:eG X F (LA .IsNot) E9:=⟨λc s j H k x y v u d e Q I i h l hK g f q=>by cases d with
 |bl a=>cases e with
  |bl b=>
   simp only[Is]at g f;subst g f;cases(show v=N7 a from i);cases(show u=N7 b from h);exact isnot_bool ⟨.bl _,H,I,rfl,q _ H .refl (by simp only[Is])⟩|_=>exact q.elim
 |_=>exact q.elim⟩
noncomputable def E_(d:D):M D:=match d with
 |.str x=>pure (.str x)|.lst _=>M.fail|.aR _ _=>M.fail|_=>do M.need (tG d=KQ);pure (.str (vJ d).shown)
theorem yL(C:X.A.guards=KJ [])(hu:X.A.units+16<L9):bC X F (.type "str") (one E_)where
 call:=λm s D H k E G g Q I p l hK y w=>by
  obtain⟨d,rfl,q⟩:=fC w;obtain⟨v,rfl,i⟩:=y.one;obtain⟨u,rfl,c⟩:=vals1 p;cases d with
  |bx=>
   simp only[Is]at i;subst i;cases(show u=MH from c);exact PySem.P.str_of_none ⟨.str _,H,I.tok _,⟨_,rfl⟩,q.2 _ H .refl (by simp only[Is];rfl)⟩|bl b=>
   simp only[Is]at i;subst i;cases(show u=N7 b from c);exact PySem.P.str_of_bool ⟨.str _,H,I.tok _,⟨_,rfl⟩,q.2 _ H .refl (by simp only[Is];rfl)⟩|int j=>
   simp only[Is]at i;subst i;obtain⟨t,rfl⟩:=c;have z:j.natAbs.log2<1920:=by
    have h:=q.1;unfold tG at h;rw[K0,K0]at h;exact of_decide_eq_true h.2.1
   exact PySem.P.str_of_int z ⟨.str _,H,I.tok _,⟨_,rfl⟩,q.2 _ H .refl (by simp only[Is];rfl)⟩|str x=>
   simp only[Is]at i;subst i;obtain⟨t,rfl⟩:=c;exact PySem.P.str_of_str ⟨.str _,H,I,⟨_,rfl⟩,q _ H .refl (by simp only[Is])⟩|tup g=>
   obtain⟨f,q⟩:=q;have q:qE F.toFb H k Q (.str (vJ (.tup g)).shown) k:=q;unfold tG at f;rw[K0,K0,K0,decide_eq_true_eq,decide_eq_true_eq]at f;obtain⟨K,r⟩:=oE f.1 (dz I hK c i);simp only[Is]at i;obtain⟨a,n,rfl,_⟩:=i;cases(show u=Ln a from c);refine str_of_reads r f.2.1 (PyData.noDict_hsm (rS _)) C (by have:=f.2.2.1;omega) (λ_ _ e=>e) (λJ t o B=>?_) f.2.2.2;exact⟨.str _,H,I.kept (t':=o) B,⟨t,rfl⟩,q _ H .refl (by simp only[Is])⟩|lst g=>exact q.elim|aR ks n=>exact q.elim
end
theorem kh{b:Type}:∀{l:List b}{i:Nat}{x:b},l[i]?=KJ x->l.set i x=l
 |[],_,_,h=>by simp at h|a::l,0,x,h=>by simp at h;subst h;rfl|a::l,i+1,x,h=>by simp at h;simp[kh h]
theorem Ext.chg{B:Fb}{H0 H:Hp}{k0 k:Nat}{a:KY}{u o':HO}(e:Ext B H0 k0 H k)(d:a≠B.p)(g:H0 a=KP)(hu:H a=KJ u)(ns:u.iM=KR):Ext B H0 k0 (upd H a o') k:=⟨λb o hb q=>by
  have c:b≠a:=λz=>by rw[z,g]at q;cases q
  rw[af c];exact e.keep b o hb q,λh=>(Kp.own (k:=k) d hu ns).live (e.live h),e.le,λq f=>(Kp.own d hu ns).bJ q (e.bJ q f)⟩
section
variable{F:Fx}{ρ:ah}{k:Nat}{σ:St}{H H':Hp}
theorem cv.vK{p:KY}(S:cv F ρ k σ H)(a:H p=KP):p≠F.p/\F.H0 p=KP:=by
 have ne:p≠F.p:=hJ S.live a;refine⟨ne,?_⟩;cases e:F.H0 p with
 |none=>rfl|some o=>have:=S.ext.keep p o ne e;rw[a]at this;cases this
theorem cv.fK{i:Nat}{a:KY}{ks ds:List D}(S:cv F ρ k σ H)(z:∀j w,ρ[j]?=KJ (KJ w)->w.eR=KQ->j=i)(kp:Kp F.toFb H k H' k)(ex:Ext F.toFb F.H0 F.k0 H' k)(n:nI F H' a ks ds):cv F (ρ.set i (KJ (.fK ks ds))) k (σ.set i (KJ (.ref a))) H':=by
 have look:∀j w,(ρ.set i (KJ (.fK ks ds)))[j]?=KJ (KJ w)->(j=i/\w=.fK ks ds)\/(j≠i/\ρ[j]?=KJ (KJ w)/\w.eR=KR):=λj w e=>by
  rw[Mn]at e;by_cases b:i=j
  .subst b;rw[if_pos rfl]at e;split at e;.cases e;exact .inl ⟨rfl,rfl⟩
   .cases e
  .rw[if_neg b]at e;refine .inr ⟨LS b,e,?_⟩;cases o:w.eR with
   |false=>rfl|true=>exact absurd (z j w e o) (LS b)
 refine⟨by simp[S.len],λj w e=>?_,λg f x y v l q p s r s1=>?_,λg f t C w q p o=>?_,kp.live S.live,ex,S.xP.trans kp⟩
 .rcases look j w e with⟨rfl,rfl⟩|⟨b,B,o⟩
  .have u:j<ρ.length:=by
    rw[List.getElem?_eq_some_iff]at e;obtain⟨h,_⟩:=e;simpa using h
   exact⟨.ref a,by rw[Nf (by rw[<-S.len];exact u)],a,rfl,n⟩
  .obtain⟨v,A,m⟩:=S.at_ j w B;refine⟨v,by rw[M1 (LS b)];exact A,?_⟩;cases w with
   |d x=>exact Is.mono kp m|feed=>exact⟨m.1,kp.feed m.2⟩|own d=>cases o|fK ks ds=>cases o
 .rcases look g x q with⟨rfl,rfl⟩|⟨_,_,o⟩
  .rcases look f y p with⟨rfl,rfl⟩|⟨_,_,o⟩;.exact absurd rfl l
   .rw[r]at o;cases o
  .rw[s]at o;cases o
 .rcases look g _ q with⟨rfl,_⟩|⟨_,_,c⟩
  .rcases look f w p with⟨rfl,_⟩|⟨_,_,c⟩;.rfl
   .rw[o]at c;cases c
  .cases c
end
noncomputable def nk(b:KY):D:=.int (b:Int)
noncomputable def Fc:V->D->Prop:=λv d=>∃b:KY,v=.ref b/\d=nk b
theorem mK:∀(bs:List KY),Paired Fc (bs.map V.ref) (bs.map nk)
 |[]=>.nil|b::bs=>.cons ⟨b,rfl,rfl⟩ (mK bs)
theorem jm{a b:KY}(h:nk a=nk b):a=b:=by
 unfold nk at h;injection h with h;exact Int.ofNat.inj h
theorem vL:∀{bs:List KY}{a:List V},Paired Fc a (bs.map nk)->a=bs.map V.ref
 |[],_,.nil=>rfl|b::bs,_,.cons ⟨c,e,d⟩ t=>by
  rw[e,vL t,jm d];rfl
theorem lS{P:KY->D->Prop}{q d:D}:∀{ks:List D}{bs:List KY}{ds:List D},Paired P bs ds->aG ks ds q=KJ d->∃b∈bs,aG ks (bs.map nk) q=KJ (nk b)/\P b d
 |[],_,_,_,h=>by simp[aG]at h|k::ks,_,_,.nil,h=>by simp[aG]at h|k::ks,b::bs,j::ds,.cons i t,h=>by
  simp only[aG]at h;simp only[Ll,aG];split at h
  .rename_i a;cases h;exact⟨b,K5,by rw[if_pos a],i⟩
  .rename_i a;obtain⟨c,g,f,e⟩:=lS t h;exact⟨c,K4 _ g,by rw[if_neg a];exact f,e⟩
noncomputable def vM(f:D->D)(q:D):List D->List D->List D
 |k::ks,v::a=>if eI k q then f v::a else v::vM f q ks a|_,a=>a
theorem rT{P i:KY->D->Prop}{f:D->D}{q:D}{b:KY}:∀{ks:List D}{bs:List KY}{ds:List D},Paired P bs ds->bs.Nodup->aG ks (bs.map nk) q=KJ (nk b)->(∀c∈bs,c≠b->∀d,P c d->i c d)->(∀d,P b d->i b (f d))->Paired i bs (vM f q ks ds)
 |[],bs,_,_,_,h,_,_=>by cases bs<;>simp[aG]at h|k::ks,_,_,.nil,_,h,_,_=>by simp[aG]at h|k::ks,c::bs,n::ds,.cons l t,nd,h,e,j=>by
  rw[M9]at nd;simp only[Ll,aG]at h;simp only[vM];split at h
  .rename_i g;rw[if_pos g];have hb:c=b:=jm (K1 h);subst hb;exact .cons (j _ l) (d7 t λa ha d p=>e a (K4 _ ha) (λz=>nd.1 (z▸ha)) d p)
  .rename_i g;rw[if_neg g];have hb:b∈bs:=by
    have:∀{ks:List D}{bs:List KY},aG ks (bs.map nk) q=KJ (nk b)->b∈bs:=λ{ks bs}h=>by induction bs generalizing ks with
     |nil=>cases ks<;>simp[aG]at h|cons c bs m=>cases ks with
      |nil=>simp[aG]at h|cons k ks=>
       simp only[Ll,aG]at h;split at h;.rw[jm (K1 h)];exact K5
       .exact K4 _ (m h)
    exact this h
   exact .cons (e c K5 (λz=>nd.1 (z▸hb)) _ l) (rT t nd.2 h (λa ha=>e a (K4 _ ha)) j)
theorem Paired.yM{c d:Type}{R:c->d->Prop}{a:c}:∀{l:List c}{r:List d},Paired R l r->a∈l->∃b,R a b
 |_,_,.nil,h=>nomatch h|_,_,.cons h t,z=>by
  rcases List.mem_cons.mp z with rfl|z;.exact⟨_,h⟩
  .exact Paired.yM t z
noncomputable def e7(ρ:ah)(i:Nat):Option (List D×List D):=match ρ[i]? with
 |some (KJ (.fK ks a))=>KJ (ks,a)|_=>KP
theorem fF{ρ:ah}{i:Nat}{p:List D×List D}(h:e7 ρ i=KJ p):ρ[i]?=KJ (KJ (.fK p.1 p.2)):=by
 unfold e7 at h;split at h;.rename_i ks a e;cases h;exact e
 .cases h
section
variable{X:Cx}{F:Fx}{e ke:K_}{ta tk:ah->M D}{pos pos' lp:MB}{x:Li}
theorem yN(i:Nat)(hN:X.N.Nodup)(hK:X.K=F.K)(m:X.N[i]?=KJ x)(l:Loc X.env.scope x)(n:X.fn x=KQ\/X.env.scope.names.lookup x=KJ .local):DS X F (.Assign [.Name x pos'] (.Dict [] [] lp) pos) (λρ=>do M.need (∀j w,ρ[j]?=KJ (KJ w)->w.eR=KQ->j=i);pure (.nx (ρ.set i (KJ (.fK [] []))))):=by
 have pe:PE X (.Dict [] [] lp) (λ_ H Q=>∀p,H p=KP->(p==Mx)=KR->Q (.ref p) (upd H p (kL p bV))):=λf s g H Q I h=>wpAny_Dict_empty ⟨.ref s.heap.objs.size,_,I.laid (a:=s.heap.objs.size) (o:=kL s.heap.objs.size bV) (t':=s.toks) (λ_ _ q=>KU _ q) (La _) (mH (Lb _ rfl)),rfl,h _ (I.aN.fresh (La _)) (beq_eq_false_iff_ne.mpr (LS (Lu I.GI)))⟩;refine⟨hK,(cD (i:=i) hN m l pe rfl n).imp λZ g H⟨ρ,k,S,r,h⟩p c d=>?_⟩;obtain⟨ne,t⟩:=S.vK c;exact h _ _ (Ext.new (k:=k) c).kp (S.fK r (Ext.new (k:=k) c).kp (S.ext.trans (.new c)) ⟨bV,[],ne,t,ai,d,hV,.nil,(λz=>nomatch z),(λb z=>nomatch z),.nil⟩)
theorem yO(i:Nat){np:MB}(hu:X.A.units+2<L9)(hP:X.prog=F.P)(hw:X.w=F.w)(hi:X.N[i]?=KJ x)(hv:ni X.env.scope x)(hd:(x==("__debug__":Li))=KR)(a2:(x==("__classdict__":Li))=KR)(hk:DE X F ke tk):DS X F (.Assign [.Subscript (.Name x np) ke pos'] (.List [] lp) pos) (λρ=>do
   let G<-M.get (e7 ρ i)let q<-tk ρ;M.need (G.1.length<KZ/\kinds G.1 q/\bN G.1 q=KR)pure (.nx (ρ.set i (KJ (.fK (G.1++[q]) (G.2++[.lst []])))))):=by
 refine⟨hk.hK,λg s B H Z I⟨ρ,k,S,h⟩=>?_⟩;obtain⟨⟨ks,ds⟩,h0,h⟩:=M.run_get.mp h;let R2:D->M Fl:=λq=>do
  M.need (ks.length<KZ/\kinds ks q/\bN ks q=KR)pure (.nx (ρ.set i (KJ (.fK (ks++[q]) (ds++[.lst []])))))
 refine Qx (aV (ml bQ g s B H (λu H1=>∃p,u=.ref p/\H p=KP/\H1=upd H p (.lst [])) I ⟨Mr _,λp n=>⟨p,rfl,n,rfl⟩⟩) λr s1 f=>?_) rfl;obtain⟨u,H1,I1,ru,p,rfl,n,rfl⟩:=f;obtain⟨C,p0⟩:=S.vK n;have e1:Ext F.toFb H k (upd H p (.lst [])) k:=.new n;have S1:=S.mono e1;obtain⟨v,J,a,rfl,o,bs,Q,a0,ob,sy,dc,nd,na,bp,lv⟩:=S.at_ i _ (fF h0);refine aV (bP (pos:=np) hi hv hd a2 g s1 B _ (λv H2=>v=.ref a/\H2=upd H p (.lst [])) I1 ⟨_,J,rfl,rfl⟩) λov s2 f=>?_;obtain⟨w,H2,I2,T,ew,eH⟩:=f;subst ew eH;cases(show ov=Ln a from T);refine aV (hk.pe g s2 B _ (λy t=>∃q m,Ext F.toFb (upd H p (.lst [])) k t m/\cv F ρ m B t/\Is F.toFb t y q/\(R2 q).run m (rj F Z H k) F.E) I2 (cF.next S1 h λq m y t O L V K=>⟨q,m,O,L,V,K⟩)) λkv s3 f=>?_;obtain⟨y,t,I3,ry,q,m,O,L,V,K⟩:=f;obtain⟨⟨hz,Y,hh⟩,K⟩:=K;have e:=e1.trans O;have l:=e.keep a _ Q ob;have W:s3.heap.get? a=KJ o:=(I3.aN a _ l).1;have pa:p≠a:=λz=>by rw[z,ob]at n;cases n
 have U:p∉bs:=λz=>by
  obtain⟨d,_,_,_,q,_⟩:=Paired.yM lv z;rw[n]at q;cases q
 refine iQ (R:=Fc) (F:=F) hu I3 hk.hK hP hw (dc.mono e.kp) W (mK bs) V ry (⟨p,rfl,rfl⟩:Fc (.ref p) (nk p)) ru Y hz λh' o' tk sb eo po=>?_;obtain⟨⟨a3,d1,d2⟩,_⟩:=po;have ep:putD ks (bs.map nk) q (nk p)=(ks++[q],(bs++[p]).map nk):=by
  unfold putD;rw[hh,M7];rfl
 rw[ep]at d1 d2;have:=vL d2;subst this;have kp:Kp F.toFb t m (upd t a (kL a o')) m:=Kp.own Q l rfl;have S4:=L.fK (i:=i) (λj w ej oj=>L.alone i j ks ds w (fF h0) ej oj) kp (L.ext.chg Q a0 l rfl) (a:=a) (ks:=ks++[q]) (ds:=ds++[.lst []]) ⟨o',bs++[p],Q,a0,ai,sy,d1.mono kp,List.nodup_append.mpr ⟨nd,(by simp),λb hb c hc z=>by rw[List.mem_singleton.mp hc]at z;exact U (z▸hb)⟩,(λz=>by
    rcases List.mem_append.mp z with z|z;.exact na z
    .exact pa (List.mem_singleton.mp z).symm),(λb hb=>by
    rcases List.mem_append.mp hb with z|z;.exact bp b z
    .rw[List.mem_singleton.mp z];exact⟨C,p0⟩),gE (d7 lv λb hb d z=>(z.keep e.kp λo z=>e.keep b o (bp b hb).1 z).keep kp λo z=>by rw[af (λ(y:b=a)=>na (by rw[<-y];exact hb))];exact z) (.cons ⟨[],[],rfl,by rw[af pa];exact O.keep p _ C ai,.nil⟩ .nil)⟩;rw[kh J]at S4;exact⟨B,_,hW I3 l sb eo,K _ _ (e.kp.trans kp) S4⟩
theorem yP(i:Nat){np sp Y U:MB}(hu:X.A.units+2<L9)(hP:X.prog=F.P)(hw:X.w=F.w)(hi:X.N[i]?=KJ x)(hv:ni X.env.scope x)(hd:(x==("__debug__":Li))=KR)(O:(x==("__classdict__":Li))=KR)(hk:DE X F ke tk)(G:jh ke)(ha:DE X F e ta)(hl:(Y.endLine==U.line)=KQ)(E:Lg [e] X.env=(KR,MW e X.env)::Lg [] X.env)(hb:Ot (.Subscript (.Name x np) ke sp) "append" X.env (MW (.Subscript (.Name x np) ke sp) X.env)=MW (.Subscript (.Name x np) ke sp) X.env):DS X F (.Expr (.Call (.Attribute (.Subscript (.Name x np) ke sp) "append" Y) [e] [] U) pos) (λρ=>do
   let n<-M.get (e7 ρ i)let q<-tk ρ;M.need (kinds n.1 q)let ys<-jY (<-M.get (aG n.1 n.2 q))let d<-ta ρ;M.need (ys.length<KZ)pure (.nx (ρ.set i (KJ (.fK n.1 (vM (λ_=>.lst (ys++[d])) q n.1 n.2)))))):=by
 have pe:=ra (X:=X) (name:="append") (apos:=Y) (cpos:=U) NP P2 (by rfl) lr (eP (pos:=sp) (vz (F:=F) hu hP hw ha.hK) (bP (pos:=np) hi hv hd O) hk.pe G) (aQ ha.pe bQ E) hb (by rw[E];rfl) hl E rfl;refine⟨ha.hK,(me pe rfl).imp λZ σ H⟨ρ,k,S,h⟩=>?_⟩;obtain⟨⟨ks,ds⟩,h0,h⟩:=M.run_get.mp h;obtain⟨v,s,a,rfl,o,bs,m,a0,ob,sy,dc,nd,na,W,lv⟩:=S.at_ i _ (fF h0);refine⟨_,s,?_⟩;refine cF.next S h λq k1 y H1 B S1 i1 l=>?_;obtain⟨K,l⟩:=l;obtain⟨d0,L,l⟩:=M.run_get.mp l;obtain⟨ys,rfl,l⟩:=dO l;have C:=B.keep a _ m ob;obtain⟨b,hb,lb,a2,t,T,hx,ix⟩:=lS lv L;injection T with T;subst T;refine⟨Fc,a,o,ks,bs.map nk,bs.map V.ref,q,nk b,rfl,λ_ _ _ I=>(I.aN a _ C).1,dc.mono B.kp,mK bs,i1,K,lb,?_⟩;rintro _⟨b',rfl,eb⟩;obtain rfl:=jm eb;have f:=W b hb;have r:=B.keep b _ f.1 hx;refine⟨.inl ⟨rfl,t,.inl (.inl r)⟩,?_⟩;refine cF.next S1 l λd k2 u H2 e2 S2 i2 R=>?_;obtain⟨hz,R⟩:=R;have e:=B.trans e2;have g:=e2.keep b _ f.1 r;have p:=ix.mono e.kp;refine⟨b,t,u,rfl,rfl,g,by rw[p.length];exact hz,?_⟩;have kp:Kp F.toFb H2 k2 (upd H2 b (.lst (t++[u]))) k2:=Kp.own f.1 g rfl;have Q:a≠b:=λz=>na (z▸hb);have S4:=S2.fK (i:=i) (λj w ej oj=>S2.alone i j ks ds w (fF h0) ej oj) kp (S2.ext.chg f.1 f.2 g rfl) (a:=a) (ks:=ks) (ds:=vM (λ_=>.lst (ys++[d])) q ks ds) ⟨o,bs,m,a0,by rw[af Q];exact e.keep a _ m ob,sy,(dc.mono e.kp).mono kp,nd,na,W,rT lv nd lb (λc hc J d' z=>(z.keep e.kp λo z=>e.keep c o (W c hc).1 z).keep kp λo z=>by rw[af J];exact z) λd' z=>⟨ys++[d],t++[u],rfl,ai,(p.append (.cons i2 .nil)).mono kp⟩⟩;rw[kh s]at S4;exact R _ _ (e.kp.trans kp) S4
noncomputable def Iy(X:Cx)(F:Fx):R2:=λx y H Q=>∃a o ks f d,y=.ref a/\(∀b c s,Inv X b c H s->s.heap.get? a=KJ o)/\(a==Mx)=KR/\bq F.toFb H o ks f/\Is F.toFb H x d/\kinds ks d/\Q (.bl (bN ks d)) H
theorem B7(hu:X.A.units+2<L9)(hP:X.prog=F.P)(hw:X.w=F.w)(hK:X.K=F.K):i8 X (LA .In) (Iy X F):=λb s m H x y v u Q I f c h=>by
 obtain⟨a,o,ks,n,d,rfl,g,sy,k,i,j,q⟩:=h;cases(show u=Ln a from c);exact vx hu I hK hP hw k (g _ _ _ I) sy i f j λp l=>⟨.bl (bN ks d),H,l,rfl,q⟩
theorem B8(i:Nat){np:MB}(hu:X.A.units+2<L9)(hP:X.prog=F.P)(hw:X.w=F.w)(ha:DE X F e ta)(p:X.N[i]?=KJ x)(m:ni X.env.scope x)(hd:(x==("__debug__":Li))=KR)(g:(x==("__classdict__":Li))=KR):DT X F (.Compare e [.In] [.Name x np] pos) (λρ=>do let d<-ta ρ;let j<-M.get (e7 ρ i);M.need (kinds j.1 d);pure (bN j.1 d)):=⟨ha.hK,(fw (B7 (F:=F) hu hP hw ha.hK) ha.pe (bP (pos:=np) p m hd g) rfl).imp λy H Q c=>by
  obtain⟨ρ,k,S,h⟩:=c;refine cF.next S h λd C v u r t l b=>?_;obtain⟨⟨ks,E⟩,q,b⟩:=M.run_get.mp b;obtain⟨n,b⟩:=b;obtain⟨v,f,a,rfl,o,bs,J,K,ob,sy,s,nd,z,G,B⟩:=t.at_ i _ (fF q);exact⟨_,f,a,o,ks,_,d,rfl,λ_ _ _ I=>(I.aN a _ ob).1,sy,s,l,n,_,rfl,b u r⟩⟩
end
section
variable{X:Cx}{F:Fx}
noncomputable def Iz:D->D->M D
 |.bl a,.bl b=>pure (.bl (a==b))|_,_=>M.fail
theorem B9:eG X F (LA .Is) Iz:=⟨λc s j H k x y v u d e Q I i h l hK g f q=>by cases d with
 |bl a=>cases e with
  |bl b=>
   simp only[Is]at g f;subst g f;cases(show v=N7 a from i);cases(show u=N7 b from h);exact is_bool ⟨.bl _,H,I,rfl,q _ H .refl (by simp only[Is])⟩|_=>exact q.elim
 |_=>exact q.elim⟩
theorem vN{o:K_}{to:ah->M D}{m l:MB}(j:DE X F o to)(hb:Ot o "lower" X.env (MW o X.env)=MW o X.env)(u:(m.endLine==l.line)=KQ):DE X F (.Call (.Attribute o "lower" m) [] [] l) (λρ=>do match<-to ρ with
   |.str x=>do M.need ((Mz x).length<=KZ);pure (.str (Mz x))|_=>M.fail):=⟨j.hK,λa s n H Q I⟨ρ,k,S,h⟩=>Call_method0 hb u (aV (j.pe a s n H (λv c=>∃x b,v=.str x/\Ext F.toFb H k c b/\(Mz x).length<=KZ/\qE F.toFb H k Q (.str (Mz x)) b) I (cF.next S h λd b v c g z i f=>by cases d with
   |str x=>
    simp only[Is]at i;exact⟨x,b,i,g,f.1,f.2⟩|_=>exact f.elim)) λv s1⟨w,c,y,p,x,b,e,g,r,q⟩=>by
    subst e;obtain⟨t,rfl⟩:=p;exact SB.lower (by
     show decide _=KR;exact decide_eq_false (by have:=r;rw[N8]at this;omega)) ⟨.str _,c,y.tok _,⟨_,rfl⟩,q _ c g (by simp only[Is])⟩)⟩
theorem vO{o:K_}{to:ah->M D}{m l:MB}(i:DE X F o to)(hb:Ot o "isalpha" X.env (MW o X.env)=MW o X.env)(r:(m.endLine==l.line)=KQ):DE X F (.Call (.Attribute o "isalpha" m) [] [] l) (λρ=>do match<-to ρ with
   |.str x=>pure (.bl (OH x))|_=>M.fail):=⟨i.hK,λa s n H Q I⟨ρ,k,S,h⟩=>Call_method0 hb r (aV (i.pe a s n H (λv c=>∃x b,v=.str x/\Ext F.toFb H k c b/\qE F.toFb H k Q (.bl (OH x)) b) I (cF.next S h λd b v c f y g j=>by cases d with
   |str x=>
    simp only[Is]at g;exact⟨x,b,g,f,j⟩|_=>exact j.elim)) λv s1⟨w,c,u,p,x,b,e,f,q⟩=>by
    subst e;obtain⟨t,rfl⟩:=p;exact SB.isalpha ⟨.bl _,c,u,rfl,q _ c f (by simp only[Is])⟩)⟩
end
end L2
end
section
namespace HT
open PySem PyProof.Rows
section
variable{prog:Le}{w:Ly}{A:LC}{E:KO->KW->Prop}{s:KW}
theorem mL{t l:KY}{a b c d e f:KO}{u:SN}{Q:KO->KW->Prop}(n:QH s.heap t #[a,b,c,d,e,f])(r:s.heap.IsSliceOf l .none .none (.int (-1) u))(h:Q (.ref s.heap.objs.size) {s with heap:=s.heap.push {cls:=.type "tuple",data:=.seq #[f,e,d,c,b,a]}}):wpAny (K7 prog w) A (ON (.ref t) (.ref l)) Q E s:=by
 obtain⟨os,i,o,j⟩:=id r;have p:s.TypeIs (.ref l) "slice":=⟨os,i,o⟩;unfold ON;try with_reducible refine LK ?_
 first|refine KL (KS ?_)|skip
 refine KL (PJ n.typeIs (by decide) ?_);refine KL (LM (name:=KN "__getitem__") n.typeIs L7 (LQ L7 n.typeIs entry_tuple_getitem ?_ (Pp _ _)));show wpAny _ _ (Nq (.ref t)>>=_) _ _ s;refine KL (RA n ?_);refine KL (Oc p ?_);rw[if_pos (by decide)];have v:∀{Q:Int×Int×Nat->KW->Prop},Q (5,-1,6) s->wpAny (K7 prog w) A.in1 (Np (.ref l) (pure (((#[a,b,c,d,e,f]:Array KO).size:Nat):Int))) Q E s:=λ{Q}h=>by
  unfold Np Pz;refine KL (KL (LO i j (x:=.none) rfl (KL (LO i j (x:=.none) rfl (KL (LO i j (x:=.int (-1) u) rfl (KS ?_)))))));refine KL (slicePart_int ?_);show wpAny _ _ (if((-1:Int)==0)=KQ then _ else _) _ _ s;rw[if_neg (by decide)];refine KL (Po (KL (Po (KL (KS ?_)))));first
   |(with_unfolding_all exact KS h)|(refine KS ?_;simpa[MR]using h)
 refine KL (v ?_);show wpAny _ _ (if((5:Int)==0&&(-1:Int)==1&&(6:Nat)==(#[a,b,c,d,e,f]:Array KO).size)=KQ then _ else _) _ _ s;rw[if_neg (by simp)];have q:((L4 6).filterMap λ(k:Nat)=>(#[a,b,c,d,e,f]:Array KO)[((5:Int)+(k:Int)*(-1)).toNat]?).toArray=#[f,e,d,c,b,a]:=rfl;rw[q];have g:sizeOk (.seq #[f,e,d,c,b,a]):=by show 6<=KZ;decide
 first
  |exact KL (m:=L6 _) (LH (KS ⟨_,rfl,KS h⟩) g)|exact KL (m:=L6 _) (LH (KL (KS (KS ⟨_,rfl,KS h⟩))) g)|exact KL (KL (m:=L6 _) (LH (KS (KS ⟨_,rfl,KS h⟩)) g))|exact KL (KL (m:=L6 _) (LH (KS ⟨_,rfl,KS h⟩) g))
theorem lT{it t:KY}{items:Array KO}(g:t≠it):∀(n i:Nat)(s:KW)(Q:List KO->KW->Prop),s.heap.IsListIter it t i->s.heap.IsList t items->i+n<=items.size->(∀h',h'.IsListIter it t (i+n)->Mu it s.heap h'->Q ((items.toList.drop i).take n) {s with heap:=h'})->wpAny (K7 prog w) A (draw (.ref it) n) Q E s
 |0,i,s,Q,e,_,_,j=>by
  show wpAny _ _ (pure []) Q E s;exact KS (by simpa using j s.heap e (Sa ..))|n+1,i,s,Q,e,l,m,j=>by
  have h:i<items.size:=by omega
  show wpAny _ _ (N4 (.ref it)>>=_) Q E s;refine KL (Qo e l (x:=items[i]) (by simp[h]) λk c a=>?_);refine KL (LK (lT g n (i+1) _ _ c (l.extBut a.extBut g) (by omega) λf b d=>KS ?_));have hd:items.toList.drop i=items[i]::items.toList.drop (i+1):=by simp[Nu,h]
  have:=j f (by rw[show i+(n+1)=i+1+n by omega];exact b) (a.trans d);rw[hd,List.take_succ_cons]at this;exact this
theorem gI{env:Q8}{a:List K_}{x1}{pos:MB}{t:KY}{items:Array KO}{Q:Unit->KW->Prop}(q:A.handled=KP)(l:s.heap.IsList t items)(p:(Ma a env).length=items.size)(g:(Ma a env).findIdx? (·.1)=KP)(h:∀h',O6 s.heap.objs.size s.heap h'->wpAny (K7 prog w) A (PY ((Ma a env).map (·.2)) items.toList) Q E {s with heap:=h'}):wpAny (K7 prog w) A (PX (.Tuple a x1 pos) env (.ref t)) Q E s:=by
 have m:t≠s.heap.objs.size:=by obtain⟨o,ho,_⟩:=l;exact Lu (K8 ho)
 rw[assign_Tuple];refine KL (Om ?_);unfold unpack;rw[p,g];refine KL (LK ?_);unfold unpackItems;refine KL ?_;unfold notIterableAtAll;refine KL (NY l.typeIs slot_list_iter.lookup ?_);refine KS ?_;simp only[Lc,if_false];refine KL (LK (OP l ?_));refine KL (LK (lT m items.size 0 _ _ ⟨_,Lb _ rfl,rfl,rfl⟩ (l.push _) (by omega) λk d c=>?_));have n:List.take items.size (List.drop 0 items.toList)=items.toList:=by rw[List.drop_zero];exact Mb (by simp)
 rw[n];rw[if_neg (by simp)];have f:k.IsList t items:=(l.push _).extBut c.extBut m;refine KL (LK (QY q d f (by simp) λj i=>?_));simp only[Option.isSome_none,Lc,if_false];exact KS (h j λb o hb e=>i b o hb (c.extBut b o hb (KU _ e)))
end
end HT
namespace L2
open PySem PySem.Spec PyProof.Rows
section
variable{X:Cx}{F:Fx}{e a b:K_}{te ta tb:ah->M D}{es:List K_}{gs:List D->ah->M ah}{pos p2:MB}
noncomputable def qi:D->M D
 |.tup [a,b,c,d,e,f]=>pure (.tup [f,e,d,c,b,a])|_=>M.fail
theorem vP{d:D}{k Q E}(h:(qi d).run k Q E):∃a b c x e f,d=.tup [a,b,c,x,e,f]/\Q (.tup [f,e,x,c,b,a]) k:=by
 unfold qi at h;split at h;.exact⟨_,_,_,_,_,_,rfl,h⟩
 .exact h.elim
theorem yQ{st:K_}{Y:ah->M D}(he:DE X F e te)(hs:DE X F st Y):DE X F (.Subscript e (.Slice KP KP (KJ st) p2) pos) (λρ=>do
  let d<-te ρ;let z<-dm (<-Y ρ)M.need (z=-1)qi d):=by
 refine⟨he.hK,λj s O H Q I⟨ρ,k,S,h⟩=>?_⟩;refine SD (aV (he.pe j s O H (λx C=>∃d m,Ext F.toFb H k C m/\cv F ρ m O C/\Is F.toFb C x d/\(do
  let z<-dm (<-Y ρ)M.need (z=-1)qi d:M D).run m (qE F.toFb H k Q) F.E) I (cF.next S h λd m x C e1 S1 L h1=>⟨d,m,e1,S1,L,h1⟩)) λv s1⟨x,C,I1,r1,d,m,e1,S1,L,h1⟩=>?_);refine wpAny_Slice ?_;rw[RC];refine KS ?_;refine KS ?_;rw[evalPart_some];refine aV (hs.pe j s1 O C (λy N=>∃J,y=.int (-1)/\Ext F.toFb C m N J/\N F.p≠KP/\(qi d).run J (qE F.toFb H k Q) F.E) I1 (cF.next S1 h1 λz J y N V S2 i2 B=>by
   obtain⟨n,rfl,B⟩:=ba.mp B;obtain⟨hn,h3⟩:=B;subst hn;simp only[Is]at i2;exact⟨J,i2,V,S2.live,h3⟩)) λu s2⟨y,N,I2,r2,J,ey,V,lv,B⟩=>?_;subst ey;obtain⟨Z,rfl⟩:=r2;obtain⟨a,b,c,d0,e,f,rfl,B⟩:=vP B;have L:=L.mono V.kp;simp only[Is]at L;obtain⟨t,xs,rfl,tt,ia⟩:=L;simp only[ab]at ia;obtain⟨x1,_,rfl,j1,W,_,rfl,j2,U,_,rfl,j3,P,_,rfl,j4,G,_,rfl,j5,l,_,rfl,j6,rfl⟩:=ia;cases(show v=Ln t from r1);have I4:Inv X j O N {s2 with heap:=s2.heap.push {cls:=.type "slice",data:=.fields #[.none,.none,.int (-1) Z]}}:=I2.kept (t':=s2.toks) λb ob q=>KU _ q;obtain⟨a0,r,ht,hz⟩:=I4.tuple (show gp X.K N t _ by rw[he.hK];exact tt.2);obtain⟨u1,w1,y1,q1,v1⟩:∃g i,a0=g::i/\RelV x1 g/\aq [W,U,P,G,l] i:=by cases r with|cons h t=>exact⟨_,_,rfl,h,t⟩
 subst y1;obtain⟨u2,w2,y2,q2,v2⟩:∃g i,w1=g::i/\RelV W g/\aq [U,P,G,l] i:=by cases v1 with|cons h t=>exact⟨_,_,rfl,h,t⟩
 subst y2;obtain⟨u3,w3,y3,q3,v3⟩:∃g i,w2=g::i/\RelV U g/\aq [P,G,l] i:=by cases v2 with|cons h t=>exact⟨_,_,rfl,h,t⟩
 subst y3;obtain⟨u4,w4,y4,q4,v4⟩:∃g i,w3=g::i/\RelV P g/\aq [G,l] i:=by cases v3 with|cons h t=>exact⟨_,_,rfl,h,t⟩
 subst y4;obtain⟨u5,w5,y5,q5,v5⟩:∃g i,w4=g::i/\RelV G g/\aq [l] i:=by cases v4 with|cons h t=>exact⟨_,_,rfl,h,t⟩
 subst y5;obtain⟨u6,w6,y6,q6,v6⟩:∃g i,w5=g::i/\RelV l g/\aq [] i:=by cases v5 with|cons h t=>exact⟨_,_,rfl,h,t⟩
 subst y6;cases v6;have hf:=I4.aN.fresh (La _);have a2:wpAny (K7 X.prog X.w) X.A (ON (.ref t) (.ref s2.heap.objs.size)) (EP X j O Q) X.xe {s2 with heap:=s2.heap.push {cls:=.type "slice",data:=.fields #[.none,.none,.int (-1) Z]}}:=by
  refine HT.mL (u:=Z) ht (RM ..) ?_;exact⟨.ref _,_,I4.laid (t':=s2.toks) (o:=.tup [l,G,P,U,W,x1]) (λb ob q=>KU _ q) (La _) ⟨by show 6<=KZ;decide,[u6,u5,u4,u3,u2,u1],.cons q6 (.cons q5 (.cons q4 (.cons q3 (.cons q2 (.cons q1 .nil))))),Rq _ _⟩,rfl,B _ _ ((e1.trans V).trans (.new hf)) (d8 (k:=J) lv hf (.cons j6 (.cons j5 (.cons j4 (.cons j3 (.cons j2 (.cons j1 .nil)))))))⟩
 exact tail_any (ops:=[.ref t,.ref s2.heap.objs.size]) ht.typeIs PyProof.Rows.slot_tuple_getitem.lookup a2 rfl
noncomputable def oF:List D->Option (List Int)
 |[]=>KJ []|.int i::r=>(oF r).map (i::·)|_=>KP
theorem rV{B:Fb}{H:Hp}:∀{ds:List D}{c:List V}{ns:List Int},ab B H c ds->oF ds=KJ ns->c=ns.map V.int
 |[],_,ns,h,e=>by simp only[ab]at h;cases e;exact h|d::ds,c,ns,h,e=>by
  simp only[ab]at h;obtain⟨x,j,rfl,f,g⟩:=h;cases d with
  |int b=>
   simp only[oF,OQ]at e;obtain⟨cs,i,rfl⟩:=e;simp only[Is]at f;rw[f,rV g i];rfl|_=>cases e
noncomputable def oG:D->Option (List Int)
 |.tup c=>oF c|_=>KP
noncomputable def IA(d e:D):M D:=do
 let ns<-M.get (oG d)let c<-M.get (oG e)pure (.bl (HT.lexLt ns c))
theorem oH{B:Fb}{H:Hp}{v:V}{d:D}{ns:List Int}(h:oG d=KJ ns)(i:Is B H v d):∃a,v=.ref a/\gp B.K H a (ns.map V.int):=by
 cases d<;>first|cases h|skip
 rename_i f;simp only[Is]at i;obtain⟨a,j,rfl,c,g⟩:=i;have h:oF f=KJ ns:=h;rw[rV g h]at c;exact⟨a,rfl,c.2⟩
theorem B_(hu:X.A.units<L9):eG X F (LA .Lt) IA:=.of (AO hu) λhK H k x y d e Q l i h q=>by
 obtain⟨ns,m,q⟩:=M.run_get.mp q;obtain⟨g,j,q⟩:=M.run_get.mp q;obtain⟨a,rfl,f⟩:=oH m i;obtain⟨b,rfl,c⟩:=oH j h;exact⟨a,b,ns,g,rfl,rfl,by rw[hK];exact f,by rw[hK];exact c,q _ H .refl (by simp only[Is])⟩
noncomputable def Ko(n:Nat)(gs:List D->ah->M ah):D->ah->M ah
 |.tup c,d=>do M.need (c.length=n);gs c d|.lst c,d=>do M.need (c.length=n);gs c d|_,_=>M.fail
theorem Fd{n:Nat}{j:Nat}(x:X.calm=KQ)(h:xZ X F es gs)(t:(Ma es X.env).length=n)(f:(Ma es X.env).findIdx? (·.1)=KP):DG X F (.Tuple es j pos) (Ko n gs):=⟨h.hK,λc s l H v u Q I r⟨m,k,d,S,i,g⟩=>by cases d with
  |tup z=>exact(BB (n:=n) x h t f).pg c s l H v u Q I r ⟨m,k,_,S,i,g⟩|lst z=>
   simp only[Is]at i;obtain⟨a,p,rfl,C,y⟩:=i;cases(show u=Ln a from r);obtain⟨A,q,pl,J⟩:=I.list (show dF X.K H a p by rw[h.hK];exact C.2.sq);refine HT.gI (I.ok.hd x) pl.isList (by rw[t,<-g.1,<-y.length,q.length];simp) f λE B=>?_;have G:Inv X c l H {s with heap:=E}:=I.kept (t':=s.toks) λb o e=>B b o (Lu (K8 e)) e;exact h.pg c _ l H p _ Q G (by simpa using q) ⟨m,k,z,S,y,g.2⟩|_=>exact g.elim⟩
end
theorem ki:∀(l:List KO)(a:Nat),(∀(j:Nat)(v:KO),l[j]?=KJ v->∃t,v=Ro ((a+j:Nat):Int) t)->aq ((List.range' a l.length).map λ(i:Nat)=>V.int (i:Int)) l
 |[],a,_=>.nil|v::l,a,h=>by
  obtain⟨t,rfl⟩:=h 0 v rfl;refine .cons ⟨t,rfl⟩ (ki l (a+1) λj w e=>?_);obtain⟨b,c⟩:=h (j+1) w e;exact⟨b,by rw[c];congr 1;omega⟩
theorem iS{B:Fb}{H:Hp}:∀(l:List Nat),ab B H (l.map λ(i:Nat)=>V.int (i:Int)) (l.map λ(i:Nat)=>D.int (i:Int))
 |[]=>.nil|_::l=>.cons (by simp only[Is]) (iS l)
section
variable{X:Cx}{F:Fx}{a e:K_}{ta:TA}{tas:ah->M (List A)}{p pos p0 pos0:MB}{x:Li}
noncomputable def Kq(ta:TA):TE:=λc H Q=>ta c H λd b=>∃n:Nat,d=[.int (n:Int)]/\n<=1000000/\∀l,b l=KP->Q (.ref l) (upd b l (.lst ((L4 n).map λ(i:Nat)=>V.int (i:Int))))
theorem yR(L:X.calm=KQ)(k:Gl X "list")(g:X.mg "list"=KP)(K:Gl X "range")(G:X.mg "range"=KP)(ha:PA X [a] ta)(E:Lg [a] X.env=[(KR,MW a X.env)]):PE X (.Call (.Name "list" p0) [.Call (.Name "range" p) [a] [] pos] [] pos0) (Kq ta):=by
 intro f s w H Q I h;refine MX (eM I k g Qy ?_);refine Mm ?_ rfl rfl;show wpAny _ _ (SO ((KR,MW (.Call (.Name "range" p) [a] [] pos) X.env)::NQ pos0 (Lg [] X.env))) _ _ s;refine Pn ?_;refine MX (eM I K G boot_range ?_);refine Mm (aV (ha pos f s w H _ I h) λR s1⟨P,U,m,r,B⟩=>?_) E rfl;obtain⟨n,rfl,S,q⟩:=B;obtain⟨u,rfl,z⟩:=vals1 r;obtain⟨t,rfl⟩:=z;refine call_range_1 (PH ?_);refine call_list_range (n:=n) (I.ok.hd L) (IsRange.new ..) (small_one (by omega) (by omega) (by omega) (by omega)) ?_ (by omega) λT y d c J N l=>?_
 .unfold P6;split;.split<;>omega
  .omega
 have D:aq ((L4 n).map λ(i:Nat)=>V.int (i:Int)) d.toList:=by
  have:=ki d.toList 0 λj v e=>by
   obtain⟨t,O⟩:=l.2 j v (by rw[<-e,Mj]);exact⟨t,by rw[O];congr 1;omega⟩
  rw[Mi,l.1,<-List.range_eq_range']at this;exact this
 have C:((L4 n).map λ(i:Nat)=>V.int (i:Int)).length<=KZ:=by rw[Lv,PN,N8];omega
 refine⟨.ref _,_,m.laid (t':=y) (o:=.lst ((L4 n).map λ(i:Nat)=>V.int (i:Int))) (λb o e=>J b o (KU _ e)) (by rw[Mq];exact PK _) ⟨C,d.toList,c,D,by rw[Array.toArray_toList];exact N⟩,rfl,q _ (m.aN.fresh (by rw[Mq];exact PK _))⟩
theorem yS(i:Nat){n c:MB}(z:X.calm=KQ)(hN:X.N.Nodup)(ha:DA X F [a] tas)(l:Gl X "list")(g:X.mg "list"=KP)(w:Gl X "range")(t:X.mg "range"=KP)(s:Lg [a] X.env=[(KR,MW a X.env)])(u:X.N[i]?=KJ x)(r:Loc X.env.scope x)(y:X.fn x=KQ\/X.env.scope.names.lookup x=KJ .local):DS X F (.Assign [.Name x c] (.Call (.Name "list" p0) [.Call (.Name "range" p) [a] [] pos] [] pos0) n) (λρ=>do
   M.need (vB ρ=KQ)let ds<-gx (<-tas ρ)let j<-BJ dm ds;M.need (0<=j/\j<=1000000)pure (.nx (ρ.set i (KJ (.own (.lst (aC j.toNat))))))):=⟨ha.hK,(cD (i:=i) hN u r (yR z l g w t ha.pa s) rfl y).imp λZ E H f=>by
  obtain⟨ρ,k,S,hN,h⟩:=f;refine pB.next S h λK I G L C D q B=>?_;obtain⟨ds,rfl,b⟩:=bT B;obtain⟨d,rfl,b⟩:=nL b;obtain⟨j,rfl,b⟩:=ba.mp b;obtain⟨⟨o,J⟩,b⟩:=b;obtain⟨v,rfl,iv⟩:=(bU q).one;simp only[Is]at iv;subst iv;refine⟨j.toNat,by rw[Int.toNat_of_nonneg o],by omega,λp m=>?_⟩;exact b _ _ (C.trans (.new m)).kp (D.mG i hN m ⟨_,ai,iS _⟩)⟩
theorem lU{f:List (KY×Mc)}{j:St}{s:KW}:∀(bs:List KY){H:Hp},Inv X f j H s->(∀b∈bs,∃xs,H b=KJ (.lst xs))->bs.Nodup->∃H',Inv X f j H' s/\(∀b,b∉bs->H' b=H b)/\∀b∈bs,∀xs,H b=KJ (.lst xs)->∃o,H' b=KJ (.b6 o (.lst xs))
 |[],H,I,_,_=>⟨H,I,λ_ _=>rfl,λb hb=>nomatch hb⟩|b::bs,H,I,h,nd=>by
  rw[M9]at nd;obtain⟨xs,i⟩:=h b K5;obtain⟨_,q,n,v,r⟩:=I.aN b _ i;have t:=I.freeze i r (λ_ z=>nomatch z) (λ_ _ z=>nomatch z) (λ_ z=>nomatch z) (λ_ z=>nomatch z);have ne:∀c∈bs,c≠b:=λc d z=>nd.1 (z▸d);obtain⟨H',u,k,m⟩:=lU bs t (λc d=>by rw[af (ne c d)];exact h c (K4 _ d)) nd.2;refine⟨H',u,λc d=>?_,λc d l g=>?_⟩;.rw[k c (λz=>d (K4 _ z)),af (λz=>d (by rw[z];exact K5))]
  .rcases List.mem_cons.mp d with rfl|d
   .rw[i]at g;cases g;exact⟨_,by rw[k c nd.1,ai]⟩
   .exact m c d l (by rw[af (ne c d)];exact g)
theorem yT(i:Nat){np:MB}(hK:X.K=F.K)(hi:X.N[i]?=KJ x)(hv:ni X.env.scope x)(hd:(x==("__debug__":Li))=KR)(T:(x==("__classdict__":Li))=KR):DS X F (.Return (KJ (.Name x np)) pos) (λρ=>do let kd<-M.get (e7 ρ i);pure (.ro (.aR kd.1 kd.2))):=by
 have pe:PE X (.Name x np) (λG H Q=>∃(a:KY)(bs:List KY),G[i]?=KJ (KJ (.ref a))/\bs.Nodup/\(∀b∈bs,∃g,H b=KJ (.lst g))/\∀c,(∀b,b∉bs->c b=H b)->(∀b∈bs,∀g,H b=KJ (.lst g)->∃o,c b=KJ (.b6 o (.lst g)))->Q (.ref a) c):=λE s G H Q I h=>by
  obtain⟨a,bs,hs,nd,hb,q⟩:=h;refine aV (bP (pos:=np) hi hv hd T E s G H (λv H2=>v=.ref a/\H2=H) I ⟨_,hs,rfl,rfl⟩) λu s1 y=>?_;obtain⟨w,H2,I2,r,e1,e2⟩:=y;subst e1 e2;obtain⟨c,I',n,O⟩:=lU bs I2 hb nd;exact⟨.ref a,c,I',r,q c n O⟩
 refine⟨hK,(fQ pe).imp λZ G H y=>?_⟩;obtain⟨ρ,k,S,h⟩:=y;obtain⟨⟨ks,ds⟩,h0,h⟩:=M.run_get.mp h;obtain⟨v,P,a,rfl,o,bs,U,a0,ob,sy,dc,nd,na,J,L⟩:=S.at_ i _ (fF h0);refine⟨a,bs,P,nd,λb hb=>?_,λc n O=>?_⟩
 .obtain⟨d,W,g,_,q,_⟩:=Paired.yM L hb;exact⟨g,q⟩
 have Y:∀b o,o.iM=KQ->H b=KJ o->b∉bs:=λb o st e z=>by
  obtain⟨d,W,g,_,q,_⟩:=Paired.yM L z;rw[e]at q;cases q;cases st
 have kp:Kp F.toFb H k c k:=by
  refine⟨λb o hb st e=>by rw[n b (Y b o st e)];exact e,λl=>by rw[n _ (λz=>(J _ z).1 rfl)];exact l,La _,λq f=>?_⟩;obtain⟨ns,j,r,⟨h1,⟨o,h2⟩,h3,h4,h5,h6⟩,hj⟩:=f;exact⟨ns,j,r,⟨by rw[n _ (λz=>(J _ z).1 rfl)];exact h1,⟨o,by rw[n _ (Y q _ rfl h2)];exact h2⟩,h3,h4,h5,h6⟩,hj⟩
 have ex:Ext F.toFb F.H0 F.k0 c k:=by
  refine⟨λb o hb e=>?_,λl=>kp.live (S.ext.live l),S.ext.le,λq f=>kp.bJ q (S.ext.bJ q f)⟩;rw[n b (λz=>by rw[(J b z).2]at e;cases e)];exact S.ext.keep b o hb e
 have all:∀(m:List KY)(C:List D),(∀b∈m,b∈bs)->Paired (uJ F.toFb H) m C->ab F.toFb c (m.map V.ref) C:=λm C B p=>by induction p with
  |nil=>exact .nil|cons h t ih=>
   obtain⟨W,g,rfl,hx,ix⟩:=h;obtain⟨o',R⟩:=O _ (B _ K5) g hx;refine .cons ?_ (ih λb hb=>B b (K4 _ hb));simp only[Is];exact⟨_,g,rfl,⟨(J _ (B _ K5)).1,o',R⟩,ix.mono kp⟩
 exact h a c ex ⟨U,a0,o,bs.map V.ref,by rw[n a na];exact ob,sy,dc.mono kp,all bs ds (λ_ z=>z) L⟩
theorem vQ{f g:Li}(i:Nat){j:K_}{b:List K_}{n1 n2 Z Y:Nat}{t mg:List A->M Rs}{pf pg np cp c:MB}(Df:mw X.prog X.w X.K X.mg X.base f n1 Z t)(z:cM Z X.A)(V:mw X.prog X.w X.K X.mg X.base g n2 Y mg)(y:cM Y X.A)(hP:X.prog=F.P)(hw:X.w=F.w)(hi:X.N[i]?=KJ x)(hv:ni X.env.scope x)(hd:(x==("__debug__":Li))=KR)(O:(x==("__classdict__":Li))=KR)(ha:DA X F (j::b) tas)(D:Gl X f)(C:Gl X g)(L:(f==("__debug__":Li))=KR)(J:(g==("__debug__":Li))=KR)(I:Lg (j::b) X.env=(KR,MW j X.env)::Lg b X.env)(n:(NQ c (Lg b X.env)).any (·.1)=KR):DE X F (.Call (.Name f pf) [.Name x np,.Call (.Name g pg) (j::b) [] c] [] cp) (λρ=>do
   M.need (ρ[i]?=KJ (KJ .feed))let bs<-tas ρ;M.need (bs.length=n2/\n1=2)let r<-GO (mg bs)let d<-Ki r;let l<-GO (t [.feed,.own d])Ia l):=by
 obtain⟨a2,a4,Df⟩:=Df;obtain⟨a0,a3,V⟩:=V;have m:Lg [.Name x np,.Call (.Name g pg) (j::b) [] c] X.env=(KR,MW (.Name x np) X.env)::Lg [.Call (.Name g pg) (j::b) [] c] X.env:=rfl;refine⟨ha.hK,(pU (pos:=cp) Df z D (aQ (bP (pos:=np) hi hv hd O) (aQ (pU (pos:=c) V y C ha.pa J I n) bQ rfl) m) L m rfl).imp λσ H Q⟨ρ,k,S,G,h⟩=>?_⟩;have s:(⟨X.K,F.p,X.prog,X.w⟩:Fb)=F.toFb:=by
  have:F.toFb=⟨F.K,F.p,F.P,F.w⟩:=rfl;rw[this,ha.hK,hP,hw]
 obtain⟨v,h3,rfl,fd⟩:=S.at_ i _ G;refine⟨_,h3,?_⟩;refine pB.next S h λbs j1 vs H1 e1 S1 i1 R=>?_;obtain⟨⟨hb,B⟩,R⟩:=R;have o:=Paired.length i1;refine⟨F.p,j1,bs,H1,[],[],?_,S1.live,?_,.inl ⟨rfl,rfl,rfl⟩,?_,?_⟩;.rw[LF,LF,Mb (Od o)]
 .rw[LF,Mb (Od o),s];exact i1
 .rw[LF];exact hb
 rw[LF,s];refine M.wk R λr u q=>?_;cases r with
 |d _=>exact q.elim|own d=>
  intro a H2 U hn ap oi;have ex:Ext F.toFb H1 j1 (era H2 a) u:=U.Ib hn ap;have q:(GO (t [.feed,.own d])>>=λl=>Ia l).run u (qE F.toFb H k Q) F.E:=q;refine⟨F.p,u,[.feed],era H2 a,[.ref a],[.own d],rfl,ex.live S1.live,?_,.inr ⟨a,d,rfl,rfl,rfl,ap,?_⟩,B.symm,?_⟩
  .rw[s];exact .cons ⟨rfl,ex.feed (e1.feed fd)⟩ .nil
  .rw[s];exact oi
  .rw[s];refine M.wk q λl j3 W=>?_;cases l with
   |own _=>exact W.elim|d d2=>exactλv H3 T i3=>W v H3 ((e1.trans ex).trans T) i3
end
noncomputable def vR(te:ah->M D)(ρ:ah)(i:Nat)(a:List Nat):List D->List D->M (List D)
 |[],_=>pure []|d::b,rest=>do
  let n<-dm (<-te ((cQ (ρ.set i (KJ (.own (.lst rest)))) 1 a).set 0 (KJ (.d d))))M.need (0<=n/\n<(rest.length:Int)/\rest.length<=KZ)let x<-M.get rest[n.toNat]?;let r<-vR te ρ i a b (rest.eraseIdx n.toNat)pure (x::r)
theorem ab.erase{B:Fb}{H:Hp}:∀{xs:List V}{ds:List D}(n:Nat),ab B H xs ds->ab B H (xs.eraseIdx n) (ds.eraseIdx n)
 |_,[],n,h=>by simp only[ab]at h;rw[h];simpa using ab.nil|_,d::ds,0,h=>by
  simp only[ab]at h;obtain⟨x,b,rfl,_,a⟩:=h;exact a|_,d::ds,n+1,h=>by
  simp only[ab]at h;obtain⟨x,b,rfl,c,a⟩:=h;exact .cons c (a.erase n)
theorem Fe{n:Int}{l:Nat}(c:0<=n)(b:n<(l:Int)):Rt n l=KJ n.toNat:=by
 have a:¬n<0:=by omega
 simp only[Rt,a,if_false];rw[if_pos (by simp;omega)]
section
variable{X:Cx}{F:Fx}{ae iter:K_}{scope:MT}{x kx:Li}{te:ah->M D}{tI:ah->M (List D)}{np ap cp kp pos pos0:MB}
theorem yU(i U:Nat)(fr:List Li)(g:List Nat)(P:X.calm=KQ)(c4:lD X.env.scope scope=KQ)(hj:g.map (λj=>X.N[j]?)=fr.map KJ)(c1:∀x∈fr,scope.names.lookup x=KJ .free)(b3:g.Nodup)(b4:g[U]?=KJ i)(hw:DI X F (.Name kx kp) iter tI)(hg:∀b T C fp s H,PG (eQ X b scope ([kx]++fr) T C fp s H) (.Name kx kp) (kZ 0))(hx:∀b T C fp s H,(eQ X b scope ([kx]++fr) T C fp s H).N[1+U]?=KJ x/\ni (eQ X b scope ([kx]++fr) T C fp s H).env.scope x)(hd:(x==("__debug__":Li))=KR)(c5:(x==("__classdict__":Li))=KR)(he:∀b T C fp s H,DE (eQ X b scope ([kx]++fr) T C fp s H) F ae te)(hl:(ap.endLine==cp.line)=KQ)(L:∀env,Lg [ae] env=(KR,MW ae env)::Lg [] env)(hs:∀y,Nx iter X.env y=pure y):DS X F (.Return (KJ (.ListComp (.Call (.Attribute (.Name x np) "pop" ap) [ae] [] cp) [⟨.Name kx kp,iter,[],0⟩] scope pos0)) pos) (λρ=>do
   let ls<-jY (<-M.get (eX ρ i))let ds<-tI ρ;let r<-vR te ρ i g ds ls;pure (.rt (.lst r))):=by
 have pe:PE X (.ListComp (.Call (.Attribute (.Name x np) "pop" ap) [ae] [] cp) [⟨.Name kx kp,iter,[],0⟩] scope pos0) (vc 1 g (Ih F tI) (kZ 0) A7 (g0 (HP X.K "list" uB (λl H Q=>∃v,l[1+U]?=KJ (KJ v)/\Q v H) (zI (cF F te) Eh))) [] .lst):=λb s l H Q I z=>by
  obtain⟨T,c⟩:=u9 I.ok c4;exact(lF (own:=[kx]) (ok:=GK) (ob0:={cls:=.type "list",dict:=KP,data:=.seq ([]:List KO).toArray}) (newAcc:=newObj (.type "list") (.seq #[])) (o:=HO.lst) (a0:=[]) (body:=λD env=>do let _<-call (.builtin "list.append") [.ref D,<-MW (.Call (.Attribute (.Name x np) "pop" ap) [ae] [] cp) env]) P c hj c1 hw.pi rfl (lG rfl rfl) (λh=>LH h) (λa ob v⟨_,_,_,_,e⟩z=>by rw[e]at z;cases z) ⟨Mr _,[],_,.nil,rfl⟩ (λz=>nomatch z) (λ_ _ _=>rfl) (λ_ _ _=>rfl) (λ_ _ _=>rfl) (λb cs C fp s H=>hg b cs C fp s H) (λb cs C fp s H=>nG) (λb cs C fp s H D o=>lB o (ra (X:=eQ X b scope ([kx]++fr) cs C fp s H) (name:="pop") (apos:=ap) (cpos:=cp) NP PySem.F.slot_list_pop (by rfl) uC (bP (pos:=np) (hx b cs C fp s H).1 (hx b cs C fp s H).2 hd c5) (aQ (he b cs C fp s H).pe bQ (L _)) rfl (by rw[L];rfl) hl (L _) rfl)) nN hs).pe rfl b s l H Q I z
 refine⟨hw.hK,(fQ (pS pe)).imp λZ l H⟨ρ,k,S,h⟩=>?_⟩;obtain⟨d0,h0,h⟩:=M.run_get.mp h;obtain⟨ls,rfl,h⟩:=dO h;obtain⟨v,O,a,rfl,oa⟩:=S.at_ i _ (cR h0);refine⟨ρ,k,S,M.wk h λds k1 q J H1 e1 it=>?_⟩;have q:(vR te ρ i g ds ls>>=λr=>pure (Fl.rt (.lst r))).run k1 (rj F Z H k) F.E:=q;have S1:=S.mono e1;have er:ρ.set i (KJ (.own (.lst ls)))=ρ:=kh (cR h0);refine⟨λn m t Y V=>m=ds.length-n/\n<=ds.length/\t.length<=n/\(∃v0,Y=(aP l 1 g).set 0 v0)/\∃rest w as,cv F (ρ.set i (KJ (.own (.lst rest)))) w l V/\Kp F.toFb H1 k1 V w/\ab F.toFb V t as/\(vR te ρ i g (ds.drop n) rest).run w (λr k'=>rj F Z H k (.rt (.lst (as++r))) k') F.E,⟨ds.length,rfl,Mr _,La _,⟨KP,(kh (by simp[aP])).symm⟩,ls,k1,[],by rw[er];exact S1,.refl,.nil,q⟩,?_⟩;rintro n m t Y V⟨rfl,d4,e0,⟨v0,rfl⟩,rest,w,as,S2,e2,ia,A⟩;by_cases a7:n<ds.length
 .obtain⟨d,rK,c2⟩:=mz a7;rw[c2]at A;obtain⟨go,yl⟩:=it.step n d V w rK e2 S2.live;refine .inr ⟨go,λy H3 hy=>?_⟩;obtain⟨e3,i3⟩:=yl y H3 hy;have S3:=S2.mono e3;have B3:=(S3.eQ 1 b3).set 0 i3;have c9:((aP l 1 g).set 0 v0).set 0 (KJ y)=(aP l 1 g).set 0 (KJ y):=List.set_set ..;unfold kZ;rw[c9];unfold A7;dsimp only;rw[if_pos rfl];unfold g0 HP;have a2:((aP l 1 g).set 0 (KJ y))[1+U]?=KJ (KJ (.ref a)):=by
   rw[M1 (by omega)];exact dq (by omega) (by rw[show 1+U-1=U by omega];exact b4) O
  have il:i<ρ.length:=(List.getElem?_eq_some_iff.mp (cR h0)).1;have a6:(ρ.set i (KJ (W.own (.lst rest))))[i]?=KJ (KJ (.own (.lst rest))):=by rw[Nf il]
  obtain⟨w3,a5,a3,rfl,f⟩:=S3.at_ i _ a6;rw[O]at a5;cases a5;obtain⟨xs,a4,a8⟩:=f.2.2;refine⟨_,a2,.inl ⟨rfl,xs,.inl (.inl a4)⟩,?_⟩;refine cF.next B3 A λdn k4 u H4 e4 B4 i4 R=>?_;obtain⟨nn,rfl,R⟩:=ba.mp R;obtain⟨⟨n0,n1,n2⟩,R⟩:=R;obtain⟨xd,b0,R⟩:=M.run_get.mp R;simp only[Is]at i4;subst i4;have S4:=S3.mono e4;have G:=e4.keep a _ f.1 a4;have B:=a8.mono e4.kp;obtain⟨wv,b2,a9⟩:=B.get b0;have d2:=B.length;have d1:=N8;refine⟨a,xs,nn,nn.toNat,wv,rfl,rfl,G,by omega,by omega,Fe n0 (by omega),b2,?_⟩;have kp:Kp F.toFb H4 k4 (upd H4 a (.lst (xs.eraseIdx nn.toNat))) k4:=Kp.own f.1 G rfl;have S5:=S4.ef (o':=.lst (xs.eraseIdx nn.toNat)) (w':=.own (.lst (rest.eraseIdx nn.toNat))) a6 O f.1 f.2.1 G rfl ⟨a,rfl,f.1,f.2.1,_,ai,(B.erase nn.toNat).mono kp⟩;rw[List.set_set]at S5;have hz:=it.len;refine⟨by omega,ds.length-(n+1),by omega,rfl,a7,by simp;omega,⟨_,rfl⟩,rest.eraseIdx nn.toNat,k4,as++[xd],S5,(e2.trans (e3.trans e4).kp).trans kp,((ia.mono (e3.trans e4).kp).mono kp).append (.cons (a9.mono kp) .nil),M.wk R λr k7 z=>?_⟩;rw[LB];exact z
 .have e:n=ds.length:=by omega
  subst e;rw[Qe]at A;have A:rj F Z H k (.rt (.lst (as++[]))) w:=A;rw[LF]at A;refine .inl ⟨it.stop V w e2 S2.live,λp hp _=>⟨p,t,rfl,ai,λo=>?_⟩⟩;rw[cf];exact A _ _ (S2.ext.trans (.new hp)) (bF (k:=w) S2.live hp ia)
end
end L2
end
section
namespace ZP
open PySem PyProof.Rows
section
variable{prog:Le}{w:Ly}{A:LC}{E:KO->KW->Prop}{s:KW}
theorem oI{a:KY}{Q:Option Mc->KW->Prop}(h:Q (s.heap.get? a) s):wpAny (K7 prog w) A (Sr a) Q E s:=λb p _=>by
 unfold Sr;rw[Sem.wp_loadIfAlive];exact h
noncomputable abbrev yV(h:Lx)(z TI TO:KY)(q:Nat)(b:Bool):Prop:=h.get? z=KJ {cls:=.type "zip",dict:=KP,data:=.fields #[OJ q,.bool b,.bool KR,.ref TI,.ref TO],slots:=#[]}
structure Ca(h:Lx)(z TI TO i1 i2 a1 a2:KY)(k:Nat)(xs ys:Array KO)(q:Nat):Prop where
 zp:∃b,yV h z TI TO q b
 al:∃o,h.get? q=KJ o
 ti:Oj h TI (.ref i1) (.ref i2)s1:jO h i1 a1 k xs
 s2:jO h i2 a2 k ys
theorem rW{z TI TO:KY}{q:Nat}{b:Bool}{Q:Bool->KW->Prop}(a:yV s.heap z TI TO q b)(ha:∃o,s.heap.get? q=KJ o)(h:∀h',yV h' z TI TO q KQ->Mu z s.heap h'->Q KR {s with heap:=h'}):wpAny (K7 prog w) A (Lz (.ref z)) Q E s:=by
 obtain⟨o,e⟩:=ha;unfold Lz;refine KL (LO a rfl (x:=OJ q) rfl ?_);show wpAny _ _ (Sr (Int.toNat (q:Int))>>=_) _ _ _;rw[Nz];refine KL (oI ?_);rw[e];show wpAny _ _ (QQ (.ref z) 1>>=_) _ _ _;refine KL (LO a rfl (x:=.bool b) rfl ?_);cases b with
 |true=>exact KS (h s.heap a (Sa ..))|false=>
  show wpAny _ _ (setField (.ref z) 1 (.bool KQ)>>=_) _ _ _;exact KL (MY a (by simp) λf c d=>KS (h f c d))
theorem tH{z TI TO f d a1 n:KY}{k:Nat}{xs ys:Array KO}{x y:KO}{q:Nat}{Q:KO->KW->Prop}(D:Ov z TI TO f d a1 n)(Z:Ca s.heap z TI TO f d a1 n k xs ys q)(r:q≠z)(u:q≠f)(t:q≠d)(U:xs[k]?=KJ x)(T:ys[k]?=KJ y)(V:∀h',Ca h' z TI TO f d a1 n (k+1) xs ys q->Oj h' s.heap.objs.size x y->h'.objs.size=s.heap.objs.size+1->(∀c o,c≠z->c≠TO->c≠f->c≠d->s.heap.get? c=KJ o->h'.get? c=KJ o)->(∀o,s.heap.get? TO=KJ o->h'.get? TO=KJ o)->Q (.ref s.heap.objs.size) {s with heap:=h'}):wpAny (K7 prog w) A (Builtin.«zip.__next__» ⟨[.ref z],[]⟩) (λC M=>∃v,C=.done (.ret v)/\Q v M) E s:=by
 obtain⟨⟨b,p⟩,ha,j,X,W⟩:=Z;show wpAny _ _ (QQ (.ref z) 2>>=_) _ _ _;refine KL (LO p rfl (x:=.bool KR) rfl ?_);show wpAny _ _ (QQ (.ref z) 3>>=_) _ _ _;refine KL (LO p rfl (x:=.ref TI) rfl ?_);refine KL (Me j rfl ?_);show wpAny _ _ (Lz (.ref z)>>=_) _ _ _;refine KL (rW p ha λg1 K i=>?_);refine KL ?_;simp only[<-NR,NZ,NN];refine KL (KL (LK ?_));show wpAny _ _ (Lq (.ref f)>>=_) _ _ _;refine KL (dM D.l1i1 (X.ext i.extBut D.i1z D.l1z) U λY P h=>KS ?_);refine KS ?_;refine KL (KL (LK ?_));show wpAny _ _ (Lq (.ref d)>>=_) _ _ _;have N:jO Y d n k ys:=(W.ext i.extBut D.i2z D.l2z).ext h.extBut D.i12.symm D.l2i1;refine KL (dM D.l2i2 N T λa O g=>KS ?_);refine KS (KS ?_);show wpAny _ _ (newTuple [x,y]>>=_) _ _ _;refine KL (Rk ?_);have S:a.objs.size=s.heap.objs.size:=by rw[g.1,h.1,i.1]
 have J:yV a z TI TO q KQ:=g.extBut _ _ D.i2z.symm (h.extBut _ _ D.i1z.symm K);have H:∀c o,c≠z->c≠TO->c≠f->c≠d->s.heap.get? c=KJ o->a.get? c=KJ o:=λc o m I c3 l e=>g.extBut _ _ l (h.extBut _ _ c3 (i.extBut _ _ m e));have G:∀c o,c≠z->c≠f->c≠d->s.heap.get? c=KJ o->a.get? c=KJ o:=λc o m c3 l e=>g.extBut _ _ l (h.extBut _ _ c3 (i.extBut _ _ m e));have L:jO a f a1 (k+1) xs:=P.ext g.extBut D.i12 D.l1i2;refine KS ⟨_,rfl,?_⟩;show Q (.ref a.objs.size) _;have F:Oj (a.push {cls:=.type "tuple",data:=.seq #[x,y]}) a.objs.size x y:=Lb _ rfl;have sz:(a.push {cls:=.type "tuple",data:=.seq #[x,y]}).objs.size=a.objs.size+1:=Mq ..;rw[S]at F sz⊢;obtain⟨R,B⟩:=ha;exact V _ ⟨⟨KQ,KU _ J⟩,⟨R,KU _ (G _ _ r u t B)⟩,KU _ (H _ _ D.TIz D.TITO D.TIi1 D.TIi2 j),L.keep (λo e=>KU _ e) (λo e=>KU _ e),O.keep (λo e=>KU _ e) (λo e=>KU _ e)⟩ F sz (λc o m I c3 l e=>KU _ (H c o m I c3 l e)) λo e=>KU _ (G TO o D.TOz D.TOi1 D.TOi2 e)
theorem vS{z TI TO i d a1 t:KY}{k:Nat}{xs ys:Array KO}{q:Nat}{Q:Fin->KW->Prop}(u:A.handled=KP)(D:Ov z TI TO i d a1 t)(Z:Ca s.heap z TI TO i d a1 t k xs ys q)(f:xs[k]?=KP\/ys[k]?=KP)(v:∀h' e,(∀c o,c≠z->c≠TO->c≠i->c≠d->s.heap.get? c=KJ o->h'.get? c=KJ o)->(∃o,h'.get? e=KJ o/\o.cls=.type "StopIteration")->E (.ref e) {s with heap:=h'}):wpAny (K7 prog w) A (Builtin.«zip.__next__» ⟨[.ref z],[]⟩) Q E s:=by
 obtain⟨⟨b,j⟩,ha,n,y,G⟩:=Z;show wpAny _ _ (QQ (.ref z) 2>>=_) _ _ _;refine KL (LO j rfl (x:=.bool KR) rfl ?_);show wpAny _ _ (QQ (.ref z) 3>>=_) _ _ _;refine KL (LO j rfl (x:=.ref TI) rfl ?_);refine KL (Me n rfl ?_);show wpAny _ _ (Lz (.ref z)>>=_) _ _ _;refine KL (rW j ha λL J a=>?_);refine KL ?_;simp only[<-NR,NZ,NN];refine KL (KL (LK ?_));show wpAny _ _ (Lq (.ref i)>>=_) _ _ _;cases l:xs[k]? with
 |none=>exact KL (ji u (y.ext a.extBut D.i1z D.l1z) l λp e g m=>v p e (λc o r _ c3 _ x=>g _ _ c3 (a.extBut _ _ r x)) m)|some x=>
  have F:ys[k]?=KP:=by rcases f with h|h;rw[l]at h;cases h;exact h
  refine KL (dM D.l1i1 (y.ext a.extBut D.i1z D.l1z) l λp K g=>KS ?_);refine KS ?_;refine KL (KL (LK ?_));show wpAny _ _ (Lq (.ref d)>>=_) _ _ _;have B:jO p d t k ys:=(G.ext a.extBut D.i2z D.l2z).ext g.extBut D.i12.symm D.l2i1;exact KL (ji u B F λH e C m=>v H e (λc o r M c3 I x=>C _ _ I (g.extBut _ _ c3 (a.extBut _ _ r x))) m)
theorem ie{z TI TO d a a1 h:KY}{k:Nat}{xs ys:Array KO}{x y:KO}{q:Nat}{Q:Option KO->KW->Prop}(D:Ov z TI TO d a a1 h)(Z:Ca s.heap z TI TO d a a1 h k xs ys q)(e:q≠z)(g:q≠d)(f:q≠a)(l:xs[k]?=KJ x)(j:ys[k]?=KJ y)(m:∀h',Ca h' z TI TO d a a1 h (k+1) xs ys q->Oj h' s.heap.objs.size x y->h'.objs.size=s.heap.objs.size+1->(∀c o,c≠z->c≠TO->c≠d->c≠a->s.heap.get? c=KJ o->h'.get? c=KJ o)->(∀o,s.heap.get? TO=KJ o->h'.get? TO=KJ o)->Q (KJ (.ref s.heap.objs.size)) {s with heap:=h'}):wpAny (K7 prog w) A (N4 (.ref z)) Q E s:=by
 have i:s.TypeIs (.ref z) "zip":=by obtain⟨b,hz⟩:=Z.zp;exact⟨_,hz,rfl⟩
 unfold N4;exact KL (N3 (LM (name:=KN "__next__") i Mk (LQ Mk i NU (tH D Z e g f l j λh' t r c3 p n=>KS (m h' t r c3 p n)) (NO _))))
theorem eJ{z TI TO f d a1 h:KY}{k:Nat}{xs ys:Array KO}{q:Nat}{Q:Option KO->KW->Prop}(l:A.handled=KP)(D:Ov z TI TO f d a1 h)(Z:Ca s.heap z TI TO f d a1 h k xs ys q)(a:xs[k]?=KP\/ys[k]?=KP)(p:∀h',(∀c o,c≠z->c≠TO->c≠f->c≠d->s.heap.get? c=KJ o->h'.get? c=KJ o)->Q KP {s with heap:=h'}):wpAny (K7 prog w) A (N4 (.ref z)) Q E s:=by
 have g:s.TypeIs (.ref z) "zip":=by obtain⟨b,hz⟩:=Z.zp;exact⟨_,hz,rfl⟩
 unfold N4;refine KL (N3 (LM (name:=KN "__next__") g Mk (LQ Mk g NU (vS l D Z a λh' e j m=>?_) (NO _))));obtain⟨o,i,n⟩:=m;exact KL (NM (T:="StopIteration") (b:=KQ) ⟨o,i,n⟩ Ri (KS (p _ j)))
end
end ZP
namespace L2
open PySem PySem.Spec PyProof.Rows ZP
section
variable{X:Cx}{pins:List (KY×Mc)}{σ:St}
noncomputable def Cb(h:Lx)(H:Hp)(z TI TO b a a1 c:KY)(k:Nat)(xs ys:Array KO):Prop:=yh h z TI TO b a a1 c k xs ys .none\/∃q,Ca h z TI TO b a a1 c k xs ys q/\H q≠KP
theorem dG.mono{H H':Hp}{b:KY}(h:dG X pins H b)(e:H' b=KP):dG X pins H' b:=⟨e,h.2⟩
end
end L2
end
section
namespace L2
open PySem PySem.Spec PyProof.Rows ZP
section
variable{prog:Le}{w:Ly}{A:LC}{E:KO->KW->Prop}{s:KW}
theorem kU:SA (.type "zip") "keys"=pure KP:=by rw[typeLookup_type,Q6];kernel_rfl
theorem ig:SA (.type "zip") "__getattr__"=pure KP:=by rw[typeLookup_type,Q6];kernel_rfl
theorem mM:entryFor table "zip.__getattribute__"=KJ Builtin.«object.__getattribute__»:=entryFor_alias (id':="object.__getattribute__") (by kernel_rfl) (by decide+kernel) (by decide+kernel) (by kernel_rfl)
theorem vT(a:KY)(xs:Array KO)(h:Array (Option KO))(u:SN):Meets (Builtin.«object.__getattribute__» ⟨[.ref a,.str "keys" u],[]⟩) (λA R s=>s.heap.get? a=KJ {cls:=.type "zip",dict:=KP,data:=.fields xs,slots:=h}/\raisesAttr (.ref a) "keys" A R s):=Meets.of_wp λprog w A R s c=>by
  obtain⟨j,g,d,f,os⟩:=s;obtain⟨i,c⟩:=c;have k:(⟨j,g,d,f,os⟩:KW).TypeIs (.ref a) "zip":=⟨_,i,rfl⟩;have e:=kU;have b:(["__module__","__name__","__qualname__","__doc__","__annotations__"]:List Li).contains "keys"=KR:=by decide+kernel
  unfold Builtin.«object.__getattribute__»;repeat(any_goals(first|assumption|wp_step))
  try simp only[b,Lc,if_false]
  repeat(any_goals(first|assumption|wp_step))
  exact wpAny_raiseAttrError c.1 c.2 (attrMsg_fits (by decide+kernel) (by size_fits))
theorem qj{a:KY}{xs:Array KO}{l:Array (Option KO)}{Q:Option KO->KW->Prop}(n:s.heap.get? a=KJ {cls:=.type "zip",dict:=KP,data:=.fields xs,slots:=l})(q:A.handled=KP)(h:∀h' i,(∀b o,s.heap.get? b=KJ o->h'.get? b=KJ o)->Q KP {s with heap:=h',toks:=i}):wpAny (K7 prog w) A (getAttr? (.ref a) "keys") Q E s:=by
 obtain⟨j,g,d,i,os⟩:=s;have p:∀c,(⟨j,g,d,c,os⟩:KW).TypeIs (.ref a) "zip":=λ_=>⟨_,n,rfl⟩;have H:=sub_AttributeError;have G:=F.slot_zip_getattribute.lookup;have D:=F.slot_zip_getattribute.bind (.ref a);have C:=ig;have k:wpAny (K7 prog w) A (getAttr? (.ref a) "keys") (λr m=>∃h' c,r=KP/\(∀b o,j.get? b=KJ o->h'.get? b=KJ o)/\m=⟨h',g,d,c,os⟩) E ⟨j,g,d,i,os⟩:=by
  unfold getAttr? getAttrBy? getAttrBy;repeat(any_goals(first|assumption|exact p _|((with_reducible show wpAny _ _ (call (Value.builtin "zip.__getattribute__") _ _) _ _ _);refine RN F.slot_zip_getattribute (p _) mM (F.args_zip_getattribute_2 _ _) (vT a xs l _) ⟨n,q,λh' c e f=>?_⟩)|wp_step))
  obtain⟨y,x,B⟩:=f.there;show wpAny _ _ (RU _ _ _ _ _ _ _) _ _ _;unfold RU;repeat(any_goals(first|assumption|wp_step))
  exact⟨_,_,rfl,f.of.keeps,rfl⟩
 exact ML k (λr m⟨h',c,v,t,u⟩=>by subst v u;exact h h' c t) λ_ _ z=>z
end
section
variable{X:Cx}{F:Fx}{pins:List (KY×Mc)}{σ:St}
theorem Cc{a:Type}{b z t u v w:a}(h:b∈[z,t,u,v,w]):b=z\/b=t\/b=u\/b=v\/b=w:=by simpa using h
theorem qk(H:X.calm=KQ)(hK:X.K=F.K)(hP:X.prog=F.P)(hw:X.w=F.w){A1:LC}(hA:A1.handled=KP)(hu:A1.units+2<L9){n z TI TO C B a1 a2:KY}{r:List D×List D}{R:Result->KW->Prop}(hp:n≠F.p)(Ap:Ov z TI TO C B a1 a2){xs ys:List KO}{vs us:List V}(r1:aq vs xs)(r2:aq us ys)(n1:n≠a1)(n2:n≠a2):∀(ps qs:List D)(k:Nat)(j:Int)(t:SN)(ks ds:List D)(ws:List V)(o:Mc)(i:Hp)(s:KW),Inv X pins σ i s->i F.p≠KP->i n=KJ (kL n o)->bq F.toFb i o ks ws->ab F.toFb i ws ds->ab F.toFb i (vs.drop k) ps->ab F.toFb i (us.drop k) qs->(∀b∈[z,TI,TO,C,B],dG X pins i b/\∃o,s.heap.get? b=KJ o)->Cb s.heap i z TI TO C B a1 a2 k xs.toArray ys.toArray->dQ (kT ps qs) (ks,ds)=KJ r->(∀o' Y H' s',Inv X pins σ H' s'->H' n=KJ (kL n o')->(∀b u,b≠n->i b=KJ u->H' b=KJ u)->bq F.toFb H' o' r.1 Y->ab F.toFb H' Y r.2->R (.ok (.ret .none)) s')->codeAny (K7 X.prog X.w) A1 (.builtin "dict.update.loop" ⟨[.ref n,.ref z,.int j t,.none],[]⟩) R s:=by
 intro ps;induction ps with
 |nil=>
  intro qs k j t ks ds ws o i s I l hD dd ia a4 a3 fp Z e q;have e:KJ (ks,ds)=KJ r:=e;cases e;have J:xs.toArray[k]?=KP\/ys.toArray[k]?=KP:=by
   have:=a4.length;have:=r1.length;left;simp at*;omega
  refine QV hZ ?_;rw[O9 h_ _];unfold Builtin.«dict.update.loop»;dsimp only;have M:∀d,(∀c o,c≠z->c≠TO->c≠C->c≠B->s.heap.get? c=KJ o->d.get? c=KJ o)->R (.ok (.ret .none)) {s with heap:=d}:=λd g=>by
   have I2:Inv X pins σ i {s with heap:=d}:=I.vk (t':=s.toks) (fp:=[z,TI,TO,C,B]) (λb hb=>(fp b hb).1) λc o H e=>by
    simp only[MA,MK,or_false,not_or]at H;exact g c o H.1 H.2.2.1 H.2.2.2.1 H.2.2.2.2 e
   exact q o ws i _ I2 hD (λ_ _ _ z=>z) dd ia
  rcases Z with Z|⟨y,Z,hy⟩;.exact KL (eV (A:=A1.in1) hA Ap Z J λd g=>KL (KS (KS (M d g))))
  .exact KL (eJ (A:=A1.in1) hA Ap Z J λd g=>KL (KS (KS (M d g))))|cons p ps ih=>
  intro qs k j t ks ds ws o i s I l hD dd ia a4 a3 fp Z e q;cases qs with
  |nil=>
   have e:KJ (ks,ds)=KJ r:=e;cases e;have J:xs.toArray[k]?=KP\/ys.toArray[k]?=KP:=by
    have:=a3.length;have:=r2.length;right;simp at*;omega
   refine QV hZ ?_;rw[O9 h_ _];unfold Builtin.«dict.update.loop»;dsimp only;have M:∀d,(∀c o,c≠z->c≠TO->c≠C->c≠B->s.heap.get? c=KJ o->d.get? c=KJ o)->R (.ok (.ret .none)) {s with heap:=d}:=λd g=>by
    have I2:Inv X pins σ i {s with heap:=d}:=I.vk (t':=s.toks) (fp:=[z,TI,TO,C,B]) (λb hb=>(fp b hb).1) λc o H e=>by
     simp only[MA,MK,or_false,not_or]at H;exact g c o H.1 H.2.2.1 H.2.2.2.1 H.2.2.2.2 e
    exact q o ws i _ I2 hD (λ_ _ _ z=>z) dd ia
   rcases Z with Z|⟨y,Z,hy⟩;.exact KL (eV (A:=A1.in1) hA Ap Z J λd g=>KL (KS (KS (M d g))))
   .exact KL (eJ (A:=A1.in1) hA Ap Z J λd g=>KL (KS (KS (M d g))))|cons p' qs=>
   have e:(if aE ks p&&decide (ks.length<KZ)then dQ (kT ps qs) (putD ks ds p p')else KP)=KJ r:=e;by_cases hk:(aE ks p&&decide (ks.length<KZ))=KQ
   .rw[if_pos hk]at e;rw[K0,decide_eq_true_eq]at hk;simp only[ab]at a4 a3;obtain⟨v,vr,ev,iv,d0⟩:=a4;obtain⟨u,ur,eu,iu,d4⟩:=a3;have hv:vs[k]?=KJ v:=by
     have:=congrArg List.head? ev;simpa[List.head?_drop]using this
    have e1:vs.drop (k+1)=vr:=by
     have:=congrArg List.tail ev;simpa[List.tail_drop]using this
    have e3:us[k]?=KJ u:=by
     have:=congrArg List.head? eu;simpa[List.head?_drop]using this
    have e2:us.drop (k+1)=ur:=by
     have:=congrArg List.tail eu;simpa[List.tail_drop]using this
    obtain⟨x,hx,rx⟩:=r1.get hv;obtain⟨y,hy,ry⟩:=r2.get e3;have b3:xs.toArray[k]?=KJ x:=by simpa using hx
    have b2:ys.toArray[k]?=KJ y:=by simpa using hy
    refine QV hZ ?_;rw[O9 h_ _];unfold Builtin.«dict.update.loop»;dsimp only;have lt:∀b∈[z,TI,TO,C,B],b<s.heap.objs.size:=λb hb=>by obtain⟨o,e⟩:=(fp b hb).2;exact K8 e
    have hf:i s.heap.objs.size=KP:=I.aN.fresh (La _);have nD:n≠s.heap.objs.size:=λh=>by rw[h,hf]at hD;cases hD
    have go:∀d,Cb d (upd i s.heap.objs.size (.tup [v,u])) z TI TO C B a1 a2 (k+1) xs.toArray ys.toArray->Oj d s.heap.objs.size x y->d.objs.size=s.heap.objs.size+1->(∀c o,c≠z->c≠TO->c≠C->c≠B->s.heap.get? c=KJ o->d.get? c=KJ o)->(∀b∈[z,TI,TO,C,B],∃o,d.get? b=KJ o)->∀h2 o2 a6,Mu n d h2->h2.get? n=KJ o2->nS (Is F.toFb (upd i s.heap.objs.size (.tup [v,u]))) F (upd i s.heap.objs.size (.tup [v,u])) ks ds p p' o2->Inv X pins σ (upd i s.heap.objs.size (.tup [v,u])) {s with heap:=d}->codeAny (K7 X.prog X.w) A1 (.builtin "dict.update.loop" ⟨[.ref n,.ref z,OJ (j+1),.none],[]⟩) R {s with heap:=h2,toks:=a6}:=λd Q pr O g a7 h2 o2 a6 a0 eo po I1=>by
     obtain⟨⟨Y,d1,d2⟩,_⟩:=po;replace d2:=jF d2;have ex:Ext F.toFb i 0 (upd i s.heap.objs.size (.tup [v,u])) 0:=.new hf;have a5:upd i s.heap.objs.size (.tup [v,u]) n=KJ (kL n o):=by rw[af nD];exact hD
     have kp:Kp F.toFb (upd i s.heap.objs.size (.tup [v,u])) 0 (upd (upd i s.heap.objs.size (.tup [v,u])) n (kL n o2)) 0:=Kp.own hp a5 rfl;have I2:Inv X pins σ (upd (upd i s.heap.objs.size (.tup [v,u])) n (kL n o2)) {s with heap:=h2,toks:=a6}:=hW (s:={s with heap:=d}) I1 a5 a0 eo;have G:∀b∈[z,TI,TO,C,B],b≠n:=λb hb h=>by
      have:=(fp b hb).1.1;rw[h,hD]at this;cases this
     have E:∀b o,b≠n->d.get? b=KJ o->h2.get? b=KJ o:=λb o hb q=>(a0.2 b hb).trans q;refine ih qs (k+1) _ _ (putD ks ds p p').1 (putD ks ds p p').2 Y o2 _ _ I2 (kp.live (ex.live l)) ai (d1.mono kp) (d2.mono kp) (by rw[e1];exact(d0.mono ex.kp).mono kp) (by rw[e2];exact(d4.mono ex.kp).mono kp) (λb hb=>⟨(fp b hb).1.mono (by rw[af (G b hb),af (Lu (lt b hb))];exact(fp b hb).1.1),?_⟩) ?_ e λo' a8 H' s' I' e6 e5 f1 f0=>q o' a8 H' s' I' e6 (λb u' hb e=>e5 b u' hb (by rw[af hb,af (λh=>by rw[h,hf]at e;cases e)];exact e)) f1 f0
     .obtain⟨o',e'⟩:=a7 b hb;exact⟨o',E b o' (G b hb) e'⟩
     .rcases Q with Q|⟨y',Q,e0⟩
      .obtain⟨W,c2,⟨a,b,c3⟩,U,S⟩:=Q;exact .inl ⟨E z _ (G z (by simp)) W,E TI _ (G TI (by simp)) c2,⟨a,b,E TO _ (G TO (by simp)) c3⟩,U.keep (λo=>E C o (G C (by simp))) (λo=>E a1 o (LS n1)),S.keep (λo=>E B o (G B (by simp))) (λo=>E a2 o (LS n2))⟩
      .obtain⟨⟨b,W⟩,⟨o',c2⟩,c3,U,S⟩:=Q;by_cases L:y'=n;.exact .inr ⟨y',⟨⟨b,E z _ (G z (by simp)) W⟩,⟨o2,by rw[L];exact eo⟩,E TI _ (G TI (by simp)) c3,U.keep (λo=>E C o (G C (by simp))) (λo=>E a1 o (LS n1)),S.keep (λo=>E B o (G B (by simp))) (λo=>E a2 o (LS n2))⟩,by rw[L,ai];intro h;cases h⟩
       .exact .inr ⟨y',⟨⟨b,E z _ (G z (by simp)) W⟩,⟨o',E y' o' L c2⟩,E TI _ (G TI (by simp)) c3,U.keep (λo=>E C o (G C (by simp))) (λo=>E a1 o (LS n1)),S.keep (λo=>E B o (G B (by simp))) (λo=>E a2 o (LS n2))⟩,by rw[af L];exact e0⟩
    have N:∀d,Cb d (upd i s.heap.objs.size (.tup [v,u])) z TI TO C B a1 a2 (k+1) xs.toArray ys.toArray->Oj d s.heap.objs.size x y->d.objs.size=s.heap.objs.size+1->(∀c o,c≠z->c≠TO->c≠C->c≠B->s.heap.get? c=KJ o->d.get? c=KJ o)->(∀b∈[z,TI,TO,C,B],∃o,d.get? b=KJ o)->wpAny (K7 X.prog X.w) A1.in1 (Qm [.ref s.heap.objs.size] (do
       let N<-(Qz (.ref s.heap.objs.size)).tryCatch λe=>do
        if !(<-RQ e (.type "TypeError"))then throw e
        Qn "dict.update.element-no-sequence"raiseError"TypeError"s!"cannot convert dictionary update sequence element #{j} to a sequence"
       match N with
       |[k,v]=>Qm [k,v] (dictSet n k v)|l=>
        Qn "dict.update.element-length"raiseError"ValueError"s!"dictionary update sequence element #{j} has length {l.length}; 2 is required")>>=λ_=>SV (.builtin "dict.update.loop" ⟨[.ref n,.ref z,OJ (j+1),.none],[]⟩)) (λM s'=>match M with|.done f=>R (.ok f) s'|.again c'=>c'.quiet=KQ/\codeAny (K7 X.prog X.w) A1 c' R s') (λe s'=>R (.error e) s') {s with heap:=d}:=λd Q pr O g a7=>by
     have I2:Inv X pins σ i {s with heap:=d}:=I.vk (t':=s.toks) (fp:=[z,TI,TO,C,B]) (λb hb=>(fp b hb).1) λc o H e=>by
      simp only[MA,MK,or_false,not_or]at H;exact g c o H.1 H.2.2.1 H.2.2.2.1 H.2.2.2.2 e
     have I3:Inv X pins σ (upd i s.heap.objs.size (.tup [v,u])) {s with heap:=d}:=I2.zN (a:=s.heap.objs.size) I.sz hf (Ng I.lt) (λx c e q=>by
       obtain⟨w',q'⟩:=I.cell x c e;exact absurd q'.lt (by rw[q];exact LX _)) (λp hp q=>absurd (K8 (I.pin p hp).1) (by rw[q];exact LX _)) ⟨by show 2<=KZ;decide,[x,y],.cons rx (.cons ry .nil),⟨_,pr,rfl,_,rfl⟩⟩;have ex:Ext F.toFb i 0 (upd i s.heap.objs.size (.tup [v,u])) 0:=.new hf;have a5:upd i s.heap.objs.size (.tup [v,u]) n=KJ (kL n o):=by rw[af nD];exact hD
     refine KL (LK (KL (wpAny_tryCatch ?_)));unfold Qz;refine KL (Oc (T:="tuple") ⟨_,pr,rfl⟩ ?_);rw[if_pos (by decide)];refine KL (Me pr rfl (KS ?_));dsimp only[Qd];have e4:d.get? n=KJ o:=(I3.aN n _ a5).1;refine LK (yv (F:=F) (A:=A1.in1) (R:=Is F.toFb (upd i s.heap.objs.size (.tup [v,u]))) (show A1.units+1+1<L9 from hu) I3 hK hP hw (dd.mono ex.kp) e4 (ia.mono ex.kp).pr (iv.mono ex.kp) rx (iu.mono ex.kp) ry (bK hk.1) hk.2 λh2 o2 tk a0 eo po=>?_);exact KS ⟨RV _ (by decide+kernel),go d Q pr O g a7 h2 o2 tk a0 eo po I3⟩
    have b4:upd i s.heap.objs.size (.tup [v,u]) s.heap.objs.size≠KP:=by rw[ai];intro h;cases h
    rcases Z with Z|⟨y0,Z,L⟩
    .refine KL (jb Ap Z b3 b2 λd Q pr O g=>?_);obtain⟨W,c2,⟨a,b,c3⟩,U,S⟩:=Q;have o4:∃o,d.get? C=KJ o:=by cases U with|list p _=>obtain⟨o,e,_⟩:=p;exact⟨o,e⟩|tup p _=>obtain⟨o,e,_⟩:=p;exact⟨o,e⟩
     have o5:∃o,d.get? B=KJ o:=by cases S with|list p _=>obtain⟨o,e,_⟩:=p;exact⟨o,e⟩|tup p _=>obtain⟨o,e,_⟩:=p;exact⟨o,e⟩
     refine N d (.inr ⟨_,⟨⟨_,W⟩,⟨_,pr⟩,c2,U,S⟩,b4⟩) pr O g λb hb=>?_;rcases Cc hb with rfl|rfl|rfl|rfl|rfl;.exact⟨_,W⟩
     .exact⟨_,c2⟩
     .exact⟨_,c3⟩
     .exact o4
     .exact o5
    .have G:∀b∈[z,TI,TO,C,B],y0≠b:=λb hb h=>L (by rw[h];exact(fp b hb).1.1);refine KL (ie Ap Z (G z (by simp)) (G C (by simp)) (G B (by simp)) b3 b2 λd Q pr O g c9=>?_);obtain⟨⟨b0,W⟩,⟨o',c2⟩,c3,U,S⟩:=Q;have o4:∃o,d.get? C=KJ o:=by cases U with|list p _=>obtain⟨o,e,_⟩:=p;exact⟨o,e⟩|tup p _=>obtain⟨o,e,_⟩:=p;exact⟨o,e⟩
     have o5:∃o,d.get? B=KJ o:=by cases S with|list p _=>obtain⟨o,e,_⟩:=p;exact⟨o,e⟩|tup p _=>obtain⟨o,e,_⟩:=p;exact⟨o,e⟩
     refine N d (.inr ⟨y0,⟨⟨b0,W⟩,⟨o',c2⟩,c3,U,S⟩,by
      by_cases e:y0=s.heap.objs.size;.rw[e];exact b4
      .rw[af e];exact L⟩) pr O g λb hb=>?_;rcases Cc hb with rfl|rfl|rfl|rfl|rfl;.exact⟨_,W⟩
     .exact⟨_,c3⟩
     .obtain⟨o',e'⟩:=(fp b (by simp)).2;exact⟨o',c9 o' e'⟩
     .exact o4
     .exact o5
   .rw[if_neg hk]at e;cases e
end
end L2
end
section
namespace L2
open PySem PySem.Spec PyProof.Rows ZP
section
variable{X:Cx}{F:Fx}{pins:List (KY×Mc)}{σ:St}{H:Hp}{s:KW}
theorem vU(O:X.calm=KQ)(hu:X.A.units+4<L9)(hK:X.K=F.K)(hP:X.prog=F.P)(hw:X.w=F.w){z TI TO x v a1 Y:KY}{xs ys:List KO}{vs us:List V}{ps E:List D}{r:List D×List D}{k:Nat}{Q:VK}(I:Inv X pins σ H s)(l:H F.p≠KP)(Ap:Ov z TI TO x v a1 Y)(r1:aq vs xs)(r2:aq us ys)(Z:yh s.heap z TI TO x v a1 Y 0 xs.toArray ys.toArray .none)(fp:∀b∈[z,TI,TO,x,v],dG X pins H b)(j1:ab F.toFb H vs ps)(j2:ab F.toFb H us E)(e:dQ (kT ps E) ([],[])=KJ r)(q:qE F.toFb H k Q (.aR r.1 r.2) k):wpAny (K7 X.prog X.w) X.A (Qu (.type "dict") [.ref z]) (EP X pins σ Q) X.xe s:=by
 have N:H s.heap.objs.size=KP:=I.aN.fresh (La _);have m:s.heap.objs.size≠F.p:=hJ l N;have L:(s.heap.objs.size==Mx)=KR:=beq_eq_false_iff_ne.mpr (LS (Lu I.GI));refine callType_codes (Q₁:=λobj i=>obj=.ref s.heap.objs.size/\i={s with heap:=s.heap.push {cls:=.type "dict",data:=.dict #[]}}) PySem.F.kt_called_dict (PySem.F.kt_typeCall_dict_1 _) PySem.F.entry_dict_init (kt_code_dict_new _ ⟨rfl,rfl⟩) ?_;rintro obj i⟨rfl,rfl⟩;have B:(s.heap.push {cls:=.type "dict",data:=.dict #[]}).get? s.heap.objs.size=KJ bV:=Lb _ rfl;have I1:Inv X pins σ (upd H s.heap.objs.size (kL s.heap.objs.size bV)) {s with heap:=s.heap.push {cls:=.type "dict",data:=.dict #[]}}:=I.laid (a:=s.heap.objs.size) (t':=s.toks) (λ_ _ q=>KU _ q) (La _) (mH B);have ex:Ext F.toFb H k (upd H s.heap.objs.size (kL s.heap.objs.size bV)) k:=.new N;have hT:Shared.TypeIs {s with heap:=s.heap.push {cls:=.type "dict",data:=.dict #[]}} (.ref s.heap.objs.size) "dict":=⟨_,B,rfl⟩;refine⟨hT,PySem.F.args_dict_init_2 _ _,?_⟩;unfold Builtin.«dict.__init__»;refine KL ?_;unfold Builtin.Dict.selfAndRest;refine KL (Q1 hT ?_);show wpAny _ _ (pure (s.heap.objs.size,[Ln z])) _ _ _;refine KS ?_;show wpAny _ _ (Qj "dict.__init__" s.heap.objs.size (.ref z) [] .none) _ _ _;unfold Qj;have j:∀b o,s.heap.get? b=KJ o->(s.heap.push {cls:=.type "dict",data:=.dict #[]}).get? b=KJ o:=λb o e=>KU _ e;refine KL (Oc (T:="zip") ⟨_,j _ _ Z.zp,rfl⟩ ?_);rw[if_pos (by decide)];refine KL (qj (j _ _ Z.zp) (show X.A.in1.in1.handled=KP from I.ok.hd O) λh2 y g2=>?_);rw[if_pos (show(KP:Option KO).isNone=KQ from rfl)];refine KL (Nj ?_);have I2:Inv X pins σ (upd H s.heap.objs.size (kL s.heap.objs.size bV)) {s with heap:=h2,toks:=y}:=I1.kept (t':=y) g2;have f:∀b o,s.heap.get? b=KJ o->h2.get? b=KJ o:=λb o e=>g2 b o (j b o e);obtain⟨W,c2,⟨a,b,c3⟩,U,S⟩:=id Z;have J:=U.lt;have G:=S.lt;refine KL (wpAny_pyIter_zip (f _ _ W) ?_);refine KS ⟨RV _ (by decide+kernel),?_⟩;have o4:∃o,s.heap.get? x=KJ o:=by cases U with|list p _=>obtain⟨o,e,_⟩:=p;exact⟨o,e⟩|tup p _=>obtain⟨o,e,_⟩:=p;exact⟨o,e⟩
 have o5:∃o,s.heap.get? v=KJ o:=by cases S with|list p _=>obtain⟨o,e,_⟩:=p;exact⟨o,e⟩|tup p _=>obtain⟨o,e,_⟩:=p;exact⟨o,e⟩
 have there:∀b∈[z,TI,TO,x,v],∃o,s.heap.get? b=KJ o:=λb hb=>by
  rcases Cc hb with rfl|rfl|rfl|rfl|rfl;.exact⟨_,W⟩
  .exact⟨_,c2⟩
  .exact⟨_,c3⟩
  .exact o4
  .exact o5
 refine qk O hK hP hw (A1:=X.A.in1) (I.ok.hd O) (show X.A.units+1+2<L9 by omega) m Ap r1 r2 (Ng J.2) (Ng G.2) ps E 0 0 _ [] [] [] bV _ _ I2 (ex.live l) ai hV .nil (by simpa using j1.mono ex.kp) (by simpa using j2.mono ex.kp) (λb hb=>⟨(fp b hb).mono (by
   obtain⟨o,e⟩:=there b hb;rw[af (Lu (K8 e))];exact(fp b hb).1),by
   obtain⟨o,e⟩:=there b hb;exact⟨o,f b o e⟩⟩) (.inl ⟨f _ _ W,f _ _ c2,⟨a,b,f _ _ c3⟩,U.keep (f x) (f a1),S.keep (f v) (f Y)⟩) e λt C H' s' I' n R d1 d2=>⟨rfl,?_⟩;have M:s'.heap.get? s.heap.objs.size=KJ t:=(I'.aN _ _ n).1;have I4:=I'.freeze n M (λ_ z=>nomatch z) (λ_ _ z=>nomatch z) (λ_ z=>nomatch z) (λ_ z=>nomatch z);have kp:Kp F.toFb H' k (upd H' s.heap.objs.size (.b6 t (kL s.heap.objs.size t))) k:=Kp.own m n rfl;have sm:nF H (upd H' s.heap.objs.size (.b6 t (kL s.heap.objs.size t))):=λb u e=>by
  have hb:b≠s.heap.objs.size:=λh=>by rw[h,N]at e;cases e
  rw[af hb];exact R b u hb (by rw[af hb];exact e)
 refine⟨.ref s.heap.objs.size,_,I4,rfl,q _ _ (.of sm) ?_⟩;simp only[Is];exact⟨_,C,rfl,⟨t,⟨m,L,.inl ⟨_,ai⟩⟩,d1.mono kp⟩,d2.mono kp⟩
noncomputable def GX:List D->M D
 |[.lst b,.lst a]=>do let r<-M.get (dQ (kT b a) ([],[]));pure (.aR r.1 r.2)|_=>M.fail
theorem yW{ds:List D}{k Q E}(h:(GX ds).run k Q E):∃xs ys r,ds=[.lst xs,.lst ys]/\dQ (kT xs ys) ([],[])=KJ r/\Q (.aR r.1 r.2) k:=by match ds,h with
 |[.lst xs,.lst ys],h=>
  obtain⟨r,e,q⟩:=M.run_get.mp h;exact⟨xs,ys,r,rfl,e,q⟩
variable{a b:K_}{p pos p0 pos0:MB}{tas:ah->M (List A)}
theorem yX(hc:X.calm=KQ)(hu:X.A.units+4<L9)(hP:X.prog=F.P)(hw:X.w=F.w)(G:X.mg "dict"=KP)(hm:X.mg "zip"=KP)(ha:DA X F [a,b] tas)(J:Gl X "dict")(hg:Gl X "zip")(hs:Lg [a,b] X.env=(KR,MW a X.env)::Lg [b] X.env)(E:(NQ pos (Lg [b] X.env)).any (·.1)=KR):DE X F (.Call (.Name "dict" p0) [.Call (.Name "zip" p) [a,b] [] pos] [] pos0) (λρ=>do GX (<-gx (<-tas ρ))):=by
 refine⟨ha.hK,λpins s σ H Q I o=>?_⟩;obtain⟨ρ,k,S,h⟩:=o;refine MX (eM I J G (show MD "dict"=KJ (.type "dict")by decide+kernel) ?_);refine Mm ?_ rfl rfl;show wpAny _ _ (SO ((KR,MW (.Call (.Name "zip" p) [a,b] [] pos) X.env)::NQ pos0 (Lg [] X.env))) _ _ s;refine Pn ?_;refine MX (eM I hg hm boot_zip ?_);refine Mm (aV (ha.pa pos pins s σ H (λB c=>∃d g f r v u,Ext F.toFb H k c d/\c F.p≠KP/\B=[v,u]/\Is F.toFb c v (.lst g)/\Is F.toFb c u (.lst f)/\dQ (kT g f) ([],[])=KJ r/\qE F.toFb H k Q (.aR r.1 r.2) d) I (pB.next S h λas d B c L S1 O h1=>?_)) λus s1⟨B,c,l,r,C⟩=>?_) hs E
 .obtain⟨ds,rfl,h2⟩:=bT h1;obtain⟨g,f,r,rfl,e,q⟩:=yW h2;obtain⟨v,u,rfl,n,m⟩:=(bU O).two;exact⟨d,g,f,r,v,u,L,S1.live,rfl,n,m,e,q⟩
 .obtain⟨d,g,f,rr,v,u,L,lv,rfl,n,m,e,q⟩:=C;simp only[Is]at n m;obtain⟨a1,y,rfl,l1,c1⟩:=n;obtain⟨a2,x,rfl,l2,c2⟩:=m;obtain⟨u1,u2,rfl,U,T⟩:=vals2 r;cases U;cases T;obtain⟨a0,W,C,z1⟩:=l.JP (t:=KR) (show Il X.K c a1 y KR by rw[ha.hK];exact l1.2.sq);obtain⟨N,V,Y,z2⟩:=l.JP (t:=KR) (show Il X.K c a2 x KR by rw[ha.hK];exact l2.2.sq);refine vj C Y λh' z TI TO O i2 D Z hk j=>?_;have I2:Inv X pins σ c {s1 with heap:=h'}:=l.kept (t':=s1.toks) hk;refine PH ?_;exact vU (k:=d) hc hu ha.hK hP hw I2 lv D W V Z (λb hb=>l.AE (j b hb) (l.aN.fresh (j b hb))) c1 c2 e λv H' ex i=>q v H' (L.trans ex) i
end
section
variable{X:Cx}{F:Fx}
theorem Ff{a:List (KY×Mc)}{b:St}{H:Hp}{s:KW}{p:KY}(I:Inv X a b H s)(h:H p≠KP):X.K.lookup p=KP:=by cases e:X.K.lookup p with
 |none=>rfl|some o=>exact absurd (I.bs p o (I.mod.GF p o e)).2 h
theorem vV{x:Li}{v:V}{u:KO}{d:D}{pos:MB}(f:Gl X x)(c:X.mg x=KJ u)(r:RelV v u)(e:∀H,H F.p≠KP->X.K.lookup F.p=KP->Is F.toFb H v d)(hd:(x==("__debug__":Li))=KR)(hK:X.K=F.K):DE X F (.Name x pos) (λ_=>pure d):=⟨hK,λa s b H Q I⟨g,k,S,h⟩=>xu f c r hd a s b H Q I (h _ H .refl (e H S.live (Ff I S.live)))⟩
end
inductive Tg where|nm(i:Nat)|nil|cons(t r:Tg)|tup(n:Nat)(r:Tg)
inductive BI where|len|tuple|list|all|sorted|str deriving DecidableEq
inductive Ex where|var(i:Nat)|cst(d:D)|iT(i:Nat)|op(o:Ra)(a b:Ex)|neg(a:Ex)|cmp(o:Oo)(a b:Ex)|DJ(o o':Oo)(a b c:Ex)|and(a b:Ex)|or(a b:Ex)|one(a:Ex)|not(a:Ex)|xo(c a b:Ex)|jc(a b:Ex)|fG(a b:Ex)|bj(a:Ex)|bz(a:Ex)|fP(a:Ex)|ax(o:Oo)(a b:Ex)|oJ(o o':Oo)(a b c:Ex)|nil|cons(a r:Ex)|feed(i:Nat)(r:Ex)|tup(r:Ex)|lst(r:Ex)|idx(a b:Ex)|cut(a lo hi:Ex)|rev(a st:Ex)|low(a:Ex)|Cd(a:Ex)|vW(r:Ex)|oK(f i h:Nat)(r:Ex)|xp(a:Ex)(i:Nat)|bi(f:BI)(r:Ex)|call(f:Nat)(r:Ex)|kM(T:String)(a:Ex)|lc(own:List Li)(js:List Nat)(tg:Tg)(it c elt:Ex)|ij(r:Ex)|bG(a:Ex)|yes|bad|lO(i:Nat)(e:Ex)
noncomputable def aK:D->T Bool
 |.bl b=>.ok b|_=>.stuck
noncomputable def bO:D->T Int
 |.int i=>.ok i|_=>.stuck
noncomputable def fU:List A->T (List D)
 |[]=>.ok []|.d x::r=>do let a<-fU r;.ok (x::a)|.feed::_=>.stuck|.own _::_=>.stuck
noncomputable def c8(i:Int):Bool:=decide (-(2^64)<i)&&decide (i<2^64)
noncomputable def yY:D->D->T D
 |.int i,.int j=>.ok (.int (i+j))|.str x,.str y=>do T.need (decide (x.length+y.length<=KZ));.ok (.str (x++y))|.tup b,.tup a=>do T.need (decide (b.length+a.length<=KZ));.ok (.tup (b++a))|.lst b,.lst a=>do T.need (decide (b.length+a.length<=KZ));.ok (.lst (b++a))|_,_=>.stuck
noncomputable def IB:D->D->T D
 |.int i,.int j=>.ok (.int (i-j))|_,_=>.stuck
noncomputable def IC:D->D->T D
 |.int i,.int j=>do T.need (c8 i||c8 j);.ok (.int (i*j))|_,_=>.stuck
noncomputable def vX:Ra->D->D->T D
 |.Add,d,e=>yY d e|.Sub,d,e=>IB d e|.Mult,d,e=>IC d e|.Mod,d,e=>do let i<-bO d;let j<-bO e;T.need (decide (0<j));.ok (.int (i%j))|.Pow,d,e=>do let i<-bO d;let j<-bO e;T.need (decide (i=10)&&decide (0<=j/\j<=30));.ok (.int (i^j.toNat))|_,_,_=>.stuck
noncomputable def DK(ng:Bool)(d e:D):T D:=match e with
 |.aR ks _=>do T.need (aE ks d);.ok (.bl (if ng then !bN ks d else bN ks d))|.str y=>(match d with
  |.str x=>.ok (.bl (if ng then !(Of y x)else Of y x))|_=>.stuck)|_=>do let a<-T.get (items e);let b<-T.get (pC d a);.ok (.bl (if ng then !b else b))
noncomputable def bA:Oo->D->D->T D
 |.Eq,d,e=>do let b<-T.get (cw b8 d e);.ok (.bl b)|.NotEq,d,e=>do let b<-T.get (cw b8 d e);.ok (.bl (!b))|.Lt,d,e=>match d with
  |.tup _=>do let ns<-T.get (oG d);let c<-T.get (oG e);.ok (.bl (HT.lexLt ns c))|_=>do let i<-bO d;let j<-bO e;.ok (.bl (decide (i<j)))
 |.LtE,d,e=>do let i<-bO d;let j<-bO e;.ok (.bl (decide (i<=j)))|.Gt,d,e=>do let i<-bO d;let j<-bO e;.ok (.bl (decide (j<i)))|.Is,d,e=>do let a<-aK d;let b<-aK e;.ok (.bl (a==b))|.IsNot,d,e=>do let a<-aK d;let b<-aK e;.ok (.bl (a !=b))|.In,d,e=>DK KR d e|.NotIn,d,e=>DK KQ d e|_,_,_=>.stuck
noncomputable def Ce:D->D->T D:=λd e=>do
 let i<-bO e;match d with
 |.tup a=>T.get (fy a i)|.lst a=>T.get (fy a i)|.str x=>do T.need (decide (x.length<=KZ));T.get (xU x i)|_=>.stuck
noncomputable def e8:D->D->T D
 |.aR ks a,e=>do T.need (aE ks e);T.get (aG ks a e)|d,e=>Ce d e
noncomputable def vY(lo b:Option Int):D->T D
 |.tup a=>.ok (.tup (cutD a lo b))|.lst a=>.ok (.lst (cutD a lo b))|.str x=>do T.need (decide (x.length<=KZ));.ok (.str (MJ x lo b))|_=>.stuck
noncomputable def yZ(d:D):T Bool:=T.get (BX d)
noncomputable def rX(d:D):T D:=do
 let a<-T.get (oA d)T.need (decide (a.length<=KZ)&&oz a)T.perm a λl=>.ok (.lst l)
noncomputable def Cf(d:D):T D:=match d with
 |.str x=>.ok (.str x)|.lst _=>.stuck|.aR _ _=>.stuck|_=>do T.need (tG d);.ok (.str (vJ d).shown)
noncomputable def kN:BI->List D->T D
 |.len,[d]=>match d with
  |.tup a=>.ok (.int a.length)|.lst a=>.ok (.int a.length)|.str x=>do T.need (decide (x.length<=KZ));.ok (.int x.length)|_=>.stuck
 |.tuple,[d]=>do let a<-T.get (items d);.ok (.tup a)|.list,[d]=>do let a<-T.get (items d);.ok (.lst a)|.all,[d]=>match d with
  |.lst a=>do let bs<-T.get (bools a);.ok (.bl (bs.all id))|_=>.stuck
 |.sorted,[d]=>rX d|.str,[d]=>Cf d|_,_=>.stuck
noncomputable def gJ(Ty:String)(d:D):T D:=do
 let t<-T.get (H_ d)let b<-T.get (Nl [] (.type t) (.type Ty));.ok (.bl b)
mutual
noncomputable def gi:Tg->D->ah->T ah
 |.nm i,d,b=>.ok (b.set i (KJ (.d d)))|.tup n r,d,b=>match d with
  |.tup a=>if a.length=n then ip r a b else .stuck|.lst a=>if a.length=n then ip r a b else .stuck|_=>.stuck
 |_,_,_=>.stuck
noncomputable def ip:Tg->List D->ah->T ah
 |.nil,a,c=>match a with
  |[]=>.ok c|_=>.stuck
 |.cons t r,a,c=>match a with
  |d::a=>do let b<-gi t d c;ip r a b|[]=>.stuck
 |_,_,_=>.stuck
end
noncomputable def dR(g:D->ah->T ah)(tc:ah->T Bool)(te:ah->T D):List D->ah->T (List D)
 |[],_=>.ok []|d::c,e=>do
  let a<-g d e;let b<-tc a;if b then do
   let x<-te a;let r<-dR g tc te c a;.ok (x::r)else dR g tc te c a
noncomputable def y7(d:D):T (List D):=do
 let j<-bO d;T.need (decide (-(2^62)<=j)&&decide (j<=1000000));.ok (aC j.toNat)
noncomputable def fV(ρ:ah)(i:Nat):Bool:=match ρ[i]? with
 |some (KJ .feed)=>KQ|_=>KR
structure Ev where
 aH:Nat->List A->T Rs
 iT:Nat->Option D
noncomputable def toD:Rs->T D
 |.d x=>.ok x|.own _=>.stuck
noncomputable def Fg:Rs->T D
 |.d _=>.stuck|.own x=>.ok x
noncomputable def Ev.call(v:Ev)(f:Nat)(as:List A):T D:=v.aH f as>>=toD
noncomputable def Ev.oM(v:Ev)(f:Nat)(as:List A):T D:=v.aH f as>>=Fg
noncomputable def Cg:D->T D
 |.str x=>do T.need (decide ((Mz x).length<=KZ));.ok (.str (Mz x))|_=>.stuck
noncomputable def Ci:D->T D
 |.str x=>.ok (.bl (OH x))|_=>.stuck
noncomputable def oN:D->T D
 |.tup [a,b,c,d,e,f]=>.ok (.tup [f,e,d,c,b,a])|_=>.stuck
noncomputable def Fh:List D->T D
 |[.lst b,.lst a]=>do let r<-T.get (dQ (kT b a) ([],[]));.ok (.aR r.1 r.2)|_=>.stuck
mutual
noncomputable def ao(v:Ev):Ex->ah->T D
 |.var i,g=>T.get (cH g i)|.cst d,_=>.ok d|.iT i,_=>T.get (v.iT i)|.op o a b,g=>do let d<-ao v a g;let e<-ao v b g;vX o d e|.neg a,g=>do let i<-bO (<-ao v a g);.ok (.int (-i))|.cmp o a b,g=>do let d<-ao v a g;let e<-ao v b g;bA o d e|.DJ o n a b c,g=>do
  let d<-ao v a g;let e<-ao v b g;let y<-aK (<-bA o d e)if y then do let f<-ao v c g;bA n e f else .ok (.bl KR)|.and a b,g=>do let c<-aK (<-ao v a g);if c then ao v b g else .ok (.bl KR)|.or a b,g=>do let c<-aK (<-ao v a g);if c then .ok (.bl KQ)else ao v b g|.xo c a b,g=>do let x<-bh v c g;if x then ao v a g else ao v b g|.low a,g=>do Cg (<-ao v a g)|.Cd a,g=>do Ci (<-ao v a g)|.rev a st,g=>do let d<-ao v a g;let z<-bO (<-ao v st g);T.need (decide (z=-1));oN d|.vW r,g=>do Fh (<-fU (<-fW v r g))|.oK f i h r,g=>do
  T.need (fV g i)let bs<-fW v r g;let d<-v.oM h bs;v.call f [.feed,.own d]|.one a,g=>ao v a g|.not a,g=>do let c<-aK (<-ao v a g);.ok (.bl (!c))|.tup r,g=>do let j<-fU (<-fW v r g);T.need (decide (j.length<=KZ));.ok (.tup j)|.lst r,g=>do let j<-fU (<-fW v r g);T.need (decide (j.length<=KZ));.ok (.lst j)|.idx a b,g=>do let d<-ao v a g;let e<-ao v b g;e8 d e|.cut a lo s,g=>do let d<-ao v a g;let l<-Cj v lo g;let u<-Cj v s g;vY l u d|.bi f r,g=>do kN f (<-fU (<-fW v r g))|.call f r,g=>do let t<-fW v r g;v.call f t|.kM Ty a,g=>do gJ Ty (<-ao v a g)|.lc own p m q c k,g=>do
  let j<-nq v q g;let r<-dR (gi m) (λg=>bh v c g) (λg=>ao v k g) j (cQ g own.length p);.ok (.lst r)|.lO i e,g=>do
  let d<-ao v e (pD i g)T.need (flat (hU g i) d);.ok d|_,_=>.stuck
noncomputable def bh(v:Ev):Ex->ah->T Bool
 |.yes,_=>.ok KQ|.jc a b,g=>do let c<-bh v a g;if c then bh v b g else .ok KR|.fG a b,g=>do let c<-bh v a g;if c then .ok KQ else bh v b g|.bj a,g=>bh v a g|.bz a,g=>do let c<-bh v a g;.ok (!c)|.fP a,g=>do yZ (<-ao v a g)|.ax o a b,g=>do let d<-ao v a g;let e<-ao v b g;aK (<-bA o d e)|.oJ o j a b c,g=>do
  let d<-ao v a g;let e<-ao v b g;let y<-aK (<-bA o d e)if y then do let f<-ao v c g;aK (<-bA j e f)else .ok KR|.xp a i,g=>do
  let d<-ao v a g;let h<-T.get (e7 g i)T.need (aE h.1 d);.ok (bN h.1 d)|.lO i e,g=>bh v e (pD i g)|_,_=>.stuck
noncomputable def fW(v:Ev):Ex->ah->T (List A)
 |.nil,_=>.ok []|.cons a r,b=>do let d<-ao v a b;let c<-fW v r b;.ok (.d d::c)|.feed i r,b=>do T.need (fV b i);let c<-fW v r b;.ok (.feed::c)|_,_=>.stuck
noncomputable def Cj(v:Ev):Ex->ah->T (Option Int)
 |.nil,_=>.ok KP|.one a,b=>do let i<-bO (<-ao v a b);.ok (KJ i)|_,_=>.stuck
noncomputable def nq(v:Ev):Ex->ah->T (List D)
 |.ij r,b=>do match<-fU (<-fW v r b)with
  |[d]=>y7 d|_=>.stuck
 |.bG a,b=>do T.get (cB (<-ao v a b))|_,_=>.stuck
end
inductive aZ where|asg(tg:Tg)(e:Ex)|set(i:Nat)(e:Ex)|par(i j:Nat)(r:Ex)|ret(e:Ex)|nil|cons(s r:aZ)|iff(c:Ex)(a b:aZ)|e9(tg:Tg)(it:Ex)(b:aZ)|ID(c:Ex)(b:aZ)|bad|ql(i:Nat)(r:Ex)|hU(i:Nat)|app(i:Nat)(e:Ex)|put(i:Nat)(k e:Ex)|fz(i:Nat)(s:aZ)|ext(i:Nat)(e:Ex)|vZ(i:Nat)(r:Ex)|v7(i:Nat)|putN(i:Nat)(k:Ex)|jd(i:Nat)(k e:Ex)|v8(i:Nat)|v9(i j0:Nat)(js:List Nat)(k:Li)(it e:Ex)
noncomputable def c_:D->T (List D)
 |.lst a=>.ok a|_=>.stuck
noncomputable def oO:D->T (List D×List D)
 |.aR ks a=>.ok (ks,a)|_=>.stuck
noncomputable def e_(g:D->ah->T ah)(body:ah->T Fl):List D->ah->T Fl
 |[],c=>.ok (.nx c)|d::e,c=>do
  let b<-g d c;match<-body b with
  |.nx a=>e_ g body e a|.ct a=>e_ g body e a|.bk a=>.ok (.nx a)|.rt r=>.ok (.rt r)|.ro _=>.stuck
noncomputable def mN(c:ah->T Bool)(body:ah->T Fl):Nat->ah->T Fl
 |0,_=>.stuck|n+1,d=>do
  let b<-c d;if b then do match<-body d with
   |.nx a=>mN c body n a|.ct a=>mN c body n a|.bk a=>.ok (.nx a)|.rt r=>.ok (.rt r)|.ro _=>.stuck;else .ok (.nx d)
noncomputable def iq:Nat:=1000
noncomputable def tJ(te:ah->T D)(ρ:ah)(i:Nat)(a:List Nat):List D->List D->T (List D)
 |[],_=>.ok []|d::b,rest=>do
  let n<-bO (<-te ((cQ (ρ.set i (KJ (.own (.lst rest)))) 1 a).set 0 (KJ (.d d))))T.need (decide (0<=n)&&(decide (n<(rest.length:Int))&&decide (rest.length<=KZ)))let x<-T.get rest[n.toNat]?;let r<-tJ te ρ i a b (rest.eraseIdx n.toNat);.ok (x::r)
noncomputable def v_(i:Nat)(ρ:ah):Bool:=(ρ.set i KP).all λx=>match x with
 |some w=>!w.eR|none=>KQ
noncomputable def au(v:Ev):aZ->ah->T Fl
 |.asg m e,f=>do let d<-ao v e f;let l<-gi m d f;.ok (.nx l)|.set i e,f=>do let d<-ao v e f;.ok (.nx (f.set i (KJ (.d d))))|.par i j r,f=>do match<-fU (<-fW v r f)with
  |[d,e]=>.ok (.nx ((f.set i (KJ (.d d))).set j (KJ (.d e))))|_=>.stuck
 |.ret e,f=>do let d<-ao v e f;.ok (.rt d)|.nil,f=>.ok (.nx f)|.cons s r,f=>do match<-au v s f with
  |.nx l=>au v r l|w=>.ok w
 |.iff c a b,f=>do let x<-bh v c f;if x then au v a f else au v b f|.e9 m n b,f=>do e_ (gi m) (au v b) (<-nq v n f) f|.ID c b,f=>mN (bh v c) (au v b) iq f|.bad,_=>.stuck|.ql i r,f=>do
  T.need (vB f)let h<-fU (<-fW v r f)T.need (decide (h.length<=KZ));.ok (.nx (f.set i (KJ (.own (.lst h)))))|.hU i,f=>do
  T.need (vB f);.ok (.nx (f.set i (KJ (.own (.aR [] [])))))|.app i e,f=>do
  let h<-c_ (<-T.get (eX f i))let d<-ao v e f;T.need (decide (h.length<KZ));.ok (.nx (f.set i (KJ (.own (.lst (h++[d]))))))|.put i k e,f=>do
  let d<-ao v e f;let g<-oO (<-T.get (eX f i))let q<-ao v k f;T.need (decide (g.1.length<KZ)&&aE g.1 q);.ok (.nx (f.set i (KJ (.own (.aR (putD g.1 g.2 q d).1 (putD g.1 g.2 q d).2)))))|.fz i s,f=>au v s (pD i f)|.ext i e,f=>do
  let h<-c_ (<-T.get (eX f i))let p<-c_ (<-ao v e f)T.need (decide (h.length+p.length<=KZ));.ok (.nx (f.set i (KJ (.own (.lst (h++p))))))|.vZ i r,f=>do
  T.need (vB f)match<-fU (<-fW v r f)with
  |[d]=>do
   let j<-bO d;T.need (decide (0<=j)&&decide (j<=1000000));.ok (.nx (f.set i (KJ (.own (.lst (aC j.toNat))))))|_=>.stuck
 |.v7 i,f=>do
  T.need (v_ i f);.ok (.nx (f.set i (KJ (.fK [] []))))|.putN i k,f=>do
  let g<-T.get (e7 f i)let q<-ao v k f;T.need (decide (g.1.length<KZ)&&(aE g.1 q&&!bN g.1 q));.ok (.nx (f.set i (KJ (.fK (g.1++[q]) (g.2++[.lst []])))))|.jd i k e,f=>do
  let g<-T.get (e7 f i)let q<-ao v k f;T.need (aE g.1 q)let o<-c_ (<-T.get (aG g.1 g.2 q))let d<-ao v e f;T.need (decide (o.length<KZ));.ok (.nx (f.set i (KJ (.fK g.1 (vM (λ_=>.lst (o++[d])) q g.1 g.2)))))|.v8 i,f=>do
  let g<-T.get (e7 f i);.ok (.ro (.aR g.1 g.2))|.v9 i y u k n e,f=>do
  let t<-c_ (<-T.get (eX f i))let h<-nq v n f;let r<-tJ (λf=>ao v e f) f i u h t;.ok (.rt (.lst r))
structure Df where
 np:Nat
 nn:Nat
 body:aZ
noncomputable def bW(n:Nat)(as:List A):ah:=as.map (λa=>KJ a.w)++Mp (n-as.length) KP
noncomputable def DL:Fl->T Rs
 |.rt d=>.ok (.d d)|.ro d=>.ok (.own d)|.nx _=>.ok (.d .bx)|_=>.stuck
noncomputable def lEq:List Nat->List Nat->Bool
 |[],[]=>KQ|x::b,y::a=>Su x y&&lEq b a|_,_=>KR
theorem wa:∀{a b:List Nat},lEq a b=KQ->a=b
 |[],[],_=>rfl|[],_::_,h=>nomatch h|_::_,[],h=>nomatch h|x::d,y::c,h=>by
  simp only[lEq,K0]at h;rw[Nt h.1,wa h.2]
theorem oP:∀(a:List Nat),lEq a a=KQ
 |[]=>rfl|x::b=>by simp only[lEq,K0];exact⟨Nat.beq_refl x,oP b⟩
noncomputable def sEq(x y:Li):Bool:=lEq x.cps.toList y.cps.toList
theorem aU{x y:Li}(h:sEq x y=KQ):x=y:=by
 obtain⟨⟨a⟩⟩:=x;obtain⟨⟨b⟩⟩:=y;have:=wa h;simp only at this;rw[this]
theorem oQ(x:Li):sEq x x=KQ:=oP _
theorem wb{x y:Li}(h:sEq x y=KR):x≠y:=λe=>by rw[e,oQ]at h;cases h
theorem mO(x y:Li):sEq x y=(x==y):=by cases h:sEq x y with
 |true=>rw[aU h];simp|false=>exact(beq_eq_false_iff_ne.mpr (wb h)).symm
noncomputable def pE(x:Li):List (Li×Nn)->Option Nn
 |[]=>KP|(y,k)::r=>if sEq x y then KJ k else pE x r
theorem kj(x:Li):∀(l:List (Li×Nn)),pE x l=l.lookup x
 |[]=>rfl|(y,k)::r=>by
  simp only[pE,LJ,mO,kj x r];cases x==y<;>rfl
structure MC where
 N:List Li
 sc:MT
 all:Bool
 own:List (Li×Nn)
structure dE where
 dn:List Li
 gn:List Li
noncomputable def isAt(N:List Li)(i:Nat)(x:Li):Bool:=match N[i]? with
 |some y=>sEq y x|none=>KR
theorem gL{N:List Li}{i:Nat}{x:Li}(h:isAt N i x=KQ):N[i]?=KJ x:=by
 unfold isAt at h;split at h;.rename_i y e;rw[e,aU h]
 .cases h
noncomputable def mP(x:Li):Bool:=!sEq x "__debug__"&&!sEq x "__classdict__"&&!sEq x "__name__"
theorem ir{x:Li}(h:mP x=KQ):(x==("__debug__":Li))=KR/\(x==("__classdict__":Li))=KR/\x≠"__name__":=by
 simp only[mP,K0,M4]at h;exact⟨by rw[<-mO];exact h.1.1,by rw[<-mO];exact h.1.2,wb h.2⟩
noncomputable def b_(m:MC)(i:Nat)(x:Li):Bool:=isAt m.N i x&&mP x&&match pE x m.sc.names with
 |some .local=>KQ|some .cell=>KQ|some .free=>KQ|_=>KR
noncomputable def eh(m:MC)(i:Nat)(x:Li):Bool:=isAt m.N i x&&match pE x m.sc.names with
 |some .local=>KQ|some .cell=>m.all||(match pE x m.own with|some .cell=>KQ|_=>KR)|_=>KR
noncomputable def bX(m:MC)(x:Li):Bool:=mP x&&match pE x m.sc.names with
 |some .globalImplicit=>KQ|_=>KR
noncomputable def ay:K_->Bool
 |.Starred _ _=>KQ|_=>KR
theorem aM{e:K_}{a:List K_}{env:Q8}(h:ay e=KR):Lg (e::a) env=(KR,MW e env)::Lg a env:=by cases e<;>first|rfl|(cases h)
theorem fH{env:Q8}{pos:MB}:∀{a:List K_},(a.all λe=>!ay e)=KQ->(NQ pos (Lg a env)).any (·.1)=KR
 |[],_=>rfl|e::a,h=>by
  rw[NG,K0,M4]at h;rw[aM h.1];show(KR||(NQ pos (Lg a env)).any (·.1))=KR;rw[fH h.2];rfl
noncomputable def gM:K_->Bool
 |.Call _ [] [] _=>KQ|_=>KR
noncomputable def bt:K_->Bool
 |.Set _ _ _=>KQ|_=>KR
noncomputable def gO:K_->Bool
 |.Slice _ _ _ _=>KQ|_=>KR
noncomputable def mQ:K_->Bool
 |.UnaryOp .Not _ _=>KR|.BoolOp _ _ _=>KR|.IfExp _ _ _ _=>KR|.Compare _ _ _ _=>KR|_=>KQ
noncomputable def wc(outer sc:MT):MT:={sc with names:=sc.names.map λ(n,k)=>if(k==Ms&&outer.kind==.function&&outer.names.lookup n==KJ .cell)then(n,Mg)else(n,k)}
noncomputable def fb(m:MC)(own fr:List Li)(sc:MT):MC:=⟨own++fr,wc m.sc sc,KR,sc.names⟩
noncomputable def cc(m:MC)(a:List Nat):List Li:=a.map λj=>(m.N[j]?).getD ""
noncomputable def DM:List Li->Bool
 |[]=>KQ|x::r=>(r.all λy=>!sEq x y)&&DM r
noncomputable def tK:List Nat->Bool
 |[]=>KQ|x::r=>(r.all λy=>!Nat.beq x y)&&tK r
noncomputable def oR(m:MC)(own:List Li)(a:List Nat)(sc:MT):Bool:=lD m.sc sc&&(a.all λj=>decide (j<m.N.length))&&((cc m a).all λx=>pE x sc.names==KJ .free)&&tK a&&DM (own++cc m a)
noncomputable def fX:BI->Li|.len=>"len"|.tuple=>"tuple"|.list=>"list"|.all=>"all"|.sorted=>"sorted"|.str=>"str"
noncomputable def cV:List Li:=["len","int","str","tuple","list","all","sorted","dict","isinstance","bool","range","zip"]
structure XC(g:dE)(v:Ev)(m:MC)(X:Cx)(F:Fx):Prop where
 hK:X.K=F.K
 hP:X.prog=F.P
 hw:X.w=F.w
 hN:X.N=m.N
 nd:m.N.Nodup
 sc:X.env.scope=m.sc
 calm:X.calm=KQ
 un:X.A.units+64<L9
 fn:m.all=KQ->∀x,X.fn x=KQ
 fo:∀x,pE x m.own=KJ .cell->X.fn x=KQ
 JR:X.A.mark KP=X.A
 bl:∀x∈cV,X.mg x=KP
 df:∀f x,g.dn[f]?=KJ x->∃n k,cM k X.A/\mw X.prog X.w X.K X.mg X.base x n k (λas=>(v.aH f as).aO)/\∀as,as.length≠n->v.aH f as=.stuck
 gd:X.A.guards=KJ []co:∀i x d,g.gn[i]?=KJ x->v.iT i=KJ d->∃u w,X.mg x=KJ u/\RelV w u/\∀H,H F.p≠KP->X.K.lookup F.p=KP->Is F.toFb H w d
section
variable{g:dE}{v:Ev}{m:MC}{X:Cx}{F:Fx}
theorem XC.at_(h:XC g v m X F){i:Nat}{x:Li}(q:isAt m.N i x=KQ):X.N[i]?=KJ x:=by rw[h.hN];exact gL q
theorem XC.lk(h:XC g v m X F)(x:Li):pE x m.sc.names=X.env.scope.names.lookup x:=by rw[kj,h.sc]
theorem XC.t7(h:XC g v m X F){i:Nat}{x:Li}(q:b_ m i x=KQ):X.N[i]?=KJ x/\ni X.env.scope x/\(x==("__debug__":Li))=KR/\(x==("__classdict__":Li))=KR:=by
 simp only[b_,K0]at q;obtain⟨⟨c,b⟩,a⟩:=q;have p:=ir b;refine⟨h.at_ c,?_,p.1,p.2.1⟩;unfold ni;rw[<-h.lk];split at a;.rename_i e;exact .inl e
 .rename_i e;exact .inr (.inl e)
 .rename_i e;exact .inr (.inr e)
 .cases a
theorem XC.loc(h:XC g v m X F){i:Nat}{x:Li}(q:eh m i x=KQ):X.N[i]?=KJ x/\Loc X.env.scope x/\(X.fn x=KQ\/X.env.scope.names.lookup x=KJ .local):=by
 simp only[eh,K0]at q;obtain⟨b,a⟩:=q;refine⟨h.at_ b,?_⟩;unfold Loc;rw[<-h.lk];split at a;.rename_i e;exact⟨.inl e,.inr e⟩
 .rename_i e;rw[Mf]at a;refine⟨.inr e,.inl ?_⟩;rcases a with a|a;.exact h.fn a x
  .split at a;.rename_i c;exact h.fo x c
   .cases a
 .cases a
theorem XC.gl(h:XC g v m X F){x:Li}(q:bX m x=KQ):Gl X x/\(x==("__debug__":Li))=KR/\x≠"__name__":=by
 simp only[bX,K0]at q;obtain⟨b,a⟩:=q;have p:=ir b;refine⟨?_,p.1,p.2.2⟩;show X.env.scope.names.lookup x=_;rw[<-h.lk];split at a;.rename_i e;exact e
 .cases a
end
theorem da(d:D):Ref (aK d).aO (dy d):=by cases d<;>first|exact .refl _|exact .fail
theorem bf(d:D):Ref (bO d).aO (dm d):=by cases d<;>first|exact .refl _|exact .fail
theorem cX:∀(as:List A),(fU as).aO=gx as
 |[]=>rfl|.d x::r=>by
  show(fU r>>=λa=>T.ok (x::a)).aO=_;rw[T.cz,cX r];rfl|.feed::_=>rfl|.own _::_=>rfl
theorem aj{a:Type}{b:Bool}{P:Prop}{t:T a}{m:M a}(h:b=KQ->P)(q:Ref t.aO m):Ref (do T.need b;t:T a).aO (do M.need P;m):=by
 rw[T.cz];exact(Ref.need h).bind λ_=>q
theorem aa{c d:Type}{t:T c}{m:M c}{f:c->T d}{h:c->M d}(a:Ref t.aO m)(b:∀x,Ref (f x).aO (h x)):Ref (t>>=f).aO (m>>=h):=by
 rw[T.cz];exact a.bind b
theorem aF{a c:Type}{o:Option a}{f:a->T c}{h:a->M c}(b:∀x,Ref (f x).aO (h x)):Ref (T.get o>>=f).aO (M.get o>>=h):=aa .get b
section
variable{X:Cx}{F:Fx}
theorem Fj(hu:X.A.units+64<L9)(hP:X.prog=F.P)(hw:X.w=F.w)(o:Ra):eG X F (Nk o) (λd e=>(vX o d e).aO):=by
 have two:∀{b:Int->Int->Bool}{C:Int->Int->Prop}{f:Int->Int->D}(d e:D),(∀i j,b i j=KQ->C i j)->Ref (do let i<-bO d;let j<-bO e;T.need (b i j);T.ok (f i j):T D).aO (mI C f d e):=λd e h=>aa (bf d) λi=>aa (bf e) λj=>aj (h i j) (.refl _);refine .ref λd e=>?_;cases o with
 |Add=>
  by_cases g:∃a,d=.str a
  .obtain⟨a,rfl⟩:=g;exact⟨zX,yI,by cases e<;>first|exact aj of_decide_eq_true (.refl _)|exact .fail⟩
  refine⟨EM,ye,?_⟩;cases d<;>first|exact absurd ⟨_,rfl⟩ g|exact .fail|(cases e<;>first|exact .refl _|exact .fail|exact aj of_decide_eq_true (.refl _))
 |Sub=>
  refine⟨EN,yf,?_⟩;cases d<;>first|exact .fail|(cases e<;>first|exact .refl _|exact .fail)
 |Mult=>
  refine⟨_,Bh,?_⟩;cases d with
  |int i=>cases e with
   |int j=>
    refine aj (b:=c8 i||c8 j) (t:=T.ok (D.int (i*j))) (λh=>?_) (.refl _);simp only[c8,Mf,K0,decide_eq_true_eq]at h;exact h|_=>exact .fail
  |_=>exact .fail
 |Mod=>exact⟨_,Bi,two d e λi j h=>of_decide_eq_true h⟩|Pow=>exact⟨_,Bj,two d e λi j h=>by
   rw[K0]at h;have m:=of_decide_eq_true h.2;exact⟨m.1,by omega,by rw[of_decide_eq_true h.1];decide⟩⟩|_=>exact⟨λ_ _=>M.fail,⟨λc s n H k x y v u d e Q I r p l hK B z q=>q.elim⟩,.fail⟩
theorem we(ng:Bool)(d e:D)(f:∀ks ds,e≠.aR ks ds)(c:∀y,e≠.str y):Ref (DK ng d e).aO (Ij ng d e):=by
 have:DK ng d e=(do let a<-T.get (items e);let b<-T.get (pC d a);.ok (.bl (if ng then !b else b))):=by cases e<;>first|rfl|exact absurd rfl (f _ _)|exact absurd rfl (c _)
 rw[this];exact aF λ_=>aF λ_=>.refl _
theorem iA(hu:X.A.units+64<L9)(hP:X.prog=F.P)(hw:X.w=F.w)(o:Oo):eG X F (LA o) (λd e=>(bA o d e).aO):=by
 have f:X.A.units<L9:=by omega
 have b:X.A.units+2<L9:=by omega
 refine .ref λd e=>?_;cases o with
 |Eq=>exact⟨_,EH hu,aF λ_=>.refl _⟩|NotEq=>exact⟨_,EI hu,aF λ_=>.refl _⟩|Lt=>cases d with
  |tup m=>exact⟨_,B_ f,aF λ_=>aF λ_=>.refl _⟩|_=>exact⟨_,Ew,aa (bf _) λi=>aa (bf e) λj=>.refl _⟩
 |Gt=>exact⟨_,Ez,aa (bf d) λi=>aa (bf e) λj=>.refl _⟩|Is=>
  refine⟨_,B9,?_⟩;cases d<;>first|exact .fail|(cases e<;>first|exact .refl _|exact .fail)
 |LtE=>exact⟨_,Ey,aa (bf d) λi=>aa (bf e) λj=>.refl _⟩|IsNot=>
  refine⟨_,yK,?_⟩;cases d<;>first|exact .fail|(cases e<;>first|exact .refl _|exact .fail)
 |In=>
  by_cases hd:∃ks a,e=.aR ks a
  .obtain⟨ks,a,rfl⟩:=hd;exact⟨_,BR b hP hw,aj bK (.refl _)⟩
  by_cases c:∃y,e=.str y
  .obtain⟨y,rfl⟩:=c;exact⟨_,yJ,by cases d<;>first|exact .refl _|exact .fail⟩
  exact⟨_,EJ hu,we KR d e (λks a z=>hd ⟨ks,a,z⟩) λy z=>c ⟨y,z⟩⟩|NotIn=>
  by_cases hd:∃ks a,e=.aR ks a
  .obtain⟨ks,a,rfl⟩:=hd;exact⟨_,td b hP hw,aj bK (.refl _)⟩
  by_cases c:∃y,e=.str y
  .obtain⟨y,rfl⟩:=c;exact⟨_,qh,by cases d<;>first|exact .refl _|exact .fail⟩
  exact⟨_,vd hu,we KQ d e (λks a z=>hd ⟨ks,a,z⟩) λy z=>c ⟨y,z⟩⟩|_=>exact⟨λ_ _=>M.fail,⟨λg s h H k x y v u d e Q I p n l hK t r q=>q.elim⟩,.fail⟩
theorem Fk(hu:X.A.units+64<L9)(hP:X.prog=F.P)(hw:X.w=F.w):GN X F (λd e=>(e8 d e).aO):=by
 refine⟨λhK a b c s g H x y v u Q I m j h p=>?_⟩;obtain⟨k,d,e,l,o,n,q⟩:=h;by_cases hd:∃ks f,d=.aR ks f
 .obtain⟨ks,f,rfl⟩:=hd;refine(yt (X:=X) (F:=F) (by omega) hP hw).ix hK a b c s g H x y v u Q I m j ⟨k,_,e,l,o,n,?_⟩ p;have:Ref (e8 (.aR ks f) e).aO (EY (.aR ks f) e):=aj bK .get;exact this _ _ _ q
 .refine(xV (X:=X) (F:=F)).ix hK a b c s g H x y v u Q I m j ⟨k,d,e,l,o,n,?_⟩ p;have r:e8 d e=Ce d e:=by cases d<;>first|rfl|exact absurd ⟨_,_,rfl⟩ hd
  have:Ref (e8 d e).aO (JM d e):=by
   rw[r];exact aa (bf e) λi=>by cases d<;>first|exact .fail|exact .get|exact aj of_decide_eq_true .get
  exact this _ _ _ q
end
section
variable{X:Cx}{F:Fx}
theorem bC.stuck{f:KO}:bC X F f (λ_=>M.fail):=⟨λa s b H k c d g Q I e l hK i q=>q.elim⟩
theorem bC.one{f:KO}{t:List D->T D}(e:t []=.stuck)(c:∀a b r,t (a::b::r)=.stuck)(h:∀d,∃m,bC X F f m/\Ref (t [d]).aO (m [d])):bC X F f (λds=>(t ds).aO):=.ref λds=>by match ds with
 |[]=>exact⟨_,.stuck,by rw[e];exact .fail⟩|[d]=>exact h d|a::b::r=>exact⟨_,.stuck,by rw[c];exact .fail⟩
noncomputable def wg:BI->KO|.len=>.builtin "len"|.tuple=>.type "tuple"|.list=>.type "list"|.all=>.builtin "all"|.sorted=>.builtin "sorted"|.str=>.type "str"
theorem Ck(f:BI):MD (fX f)=KJ (wg f):=by cases f<;>(simp only[fX,wg];decide+kernel)
theorem Fm(a:X.calm=KQ)(b:X.A.guards=KJ [])(hu:X.A.units+64<L9)(hP:X.prog=F.P)(hw:X.w=F.w)(f:BI):bC X F (wg f) (λds=>(kN f ds).aO):=by cases f with
 |len=>
  refine .one rfl (λ_ _ _=>rfl) λd=>?_;cases d with
  |tup _=>exact⟨_,pT,.refl _⟩|lst _=>exact⟨_,pT,.refl _⟩|str _=>exact⟨_,pT,aj of_decide_eq_true (.refl _)⟩|_=>exact⟨_,.stuck,.fail⟩
 |tuple=>exact .one rfl (λ_ _ _=>rfl) λd=>⟨_,uS,aF λ_=>.refl _⟩|list=>exact .one rfl (λ_ _ _=>rfl) λd=>⟨_,xW,aF λ_=>.refl _⟩|all=>
  refine .one rfl (λ_ _ _=>rfl) λd=>⟨_,Bx a,?_⟩;cases d<;>first|exact aF λ_=>.refl _|exact .fail
 |sorted=>
  refine .one rfl (λ_ _ _=>rfl) λd=>⟨_,vI a (by omega),?_⟩;show Ref (rX d).aO (vH d);exact aF λds=>aj (λz=>by rw[K0]at z;exact⟨of_decide_eq_true z.1,z.2⟩) (.refl _)|str=>
  refine .one rfl (λ_ _ _=>rfl) λd=>⟨_,yL b (by omega),?_⟩;show Ref (Cf d).aO (E_ d);cases d<;>first|exact aj (λz=>z) (.refl _)|exact .refl _|exact .fail
end
theorem fA{o:K_}{n:Li}{env:Q8}{w:Py KO}(h:gM o=KR):Ot o n env w=w:=by
 unfold Ot;split;.cases h
 .rfl
theorem iB{e:K_}(h:bt e=KR)(env:Q8)(x:KO):Nx e env x=pure x:=by cases e<;>first|rfl|cases h
theorem ko{e:K_}(h:bt e=KR)(o:Oo):N1 o e=KR:=by cases e<;>first|rfl|cases h
theorem gP{b c:K_}(h:bt c=KR)(o o':Oo):Rr [o,o'] [b,c]=KR:=ko h o'
theorem kq{b:K_}(h:gO b=KR):jh b:=by intro o i;cases b<;>first|rfl|cases h
theorem qm{e:K_}(h:mQ e=KQ)(env:Q8)(whole:Py KO):RI e env whole=(do let v<-whole;Rp e.pos;Qm [v] (truthy v)):=by cases e with
 |UnaryOp o a p=>cases o<;>first|rfl|cases h
 |BoolOp _ _ _=>cases h|IfExp _ _ _ _=>cases h|Compare _ _ _ _=>cases h|_=>rfl
theorem fI:∀{l:List Li},DM l=KQ->l.Nodup
 |[],_=>.nil|x::r,h=>by
  simp only[DM,K0,Mh,M4]at h;exact List.nodup_cons.mpr ⟨(λz=>by have:=h.1 x z;rw[oQ]at this;exact nomatch this),fI h.2⟩
theorem lV:∀{l:List Nat},tK l=KQ->l.Nodup
 |[],_=>.nil|x::r,h=>by
  simp only[tK,K0,Mh,M4]at h;exact List.nodup_cons.mpr ⟨(λz=>by have:=h.1 x z;rw[Nat.beq_refl]at this;exact nomatch this),lV h.2⟩
section
variable{g:dE}{v:Ev}{m:MC}{X:Cx}{F:Fx}
theorem XC.eQ(h:XC g v m X F){own:List Li}{b:List Nat}{sc:MT}(q:oR m own b sc=KQ)(a:List (KY×Mc))(c:List (Li×KY))(C:KY)(fp:List KY)(s:KW)(H:Hp):XC g v (fb m own (cc m b) sc) (eQ X a sc (own++cc m b) c C fp s H) F where
 hK:=h.hK;hP:=h.hP;hw:=h.hw;hN:=rfl;nd:=by
  simp only[oR,K0]at q;exact fI q.2
 sc:=by
  show SS sc X.env=wc m.sc sc;unfold SS wc SK;rw[h.sc]
 calm:=h.calm;un:=h.un;fn:=λz=>nomatch z;fo:=λx e=>by
  show(sc.names.lookup x==KJ .cell)=KQ;have e:pE x sc.names=KJ .cell:=e;rw[<-kj,e];rfl
 JR:=h.JR;bl:=h.bl;df:=h.df;gd:=h.gd;co:=h.co
theorem wj(h:XC g v m X F){own:List Li}{a:List Nat}{sc:MT}(q:oR m own a sc=KQ):lD X.env.scope sc=KQ/\a.map (λj=>X.N[j]?)=(cc m a).map KJ/\(∀x∈cc m a,sc.names.lookup x=KJ .free)/\a.Nodup:=by
 simp only[oR,K0,Mh,decide_eq_true_eq]at q;obtain⟨⟨⟨⟨e,d⟩,c⟩,b⟩,k⟩:=q;refine⟨by rw[h.sc];exact e,?_,λx f=>?_,lV b⟩
 .unfold cc;rw[LD];refine LY λj i=>?_;rw[h.hN];have:=d j i;simp[this]
 .have:=c x f;rw[<-kj];exact beq_iff_eq.mp this
inductive Ch(P:Prop)where|y(h:P)|n
noncomputable def Ch.b{P Q:Prop}:Ch P->(P->Ch Q)->Ch Q
 |.y h,f=>f h|.n,_=>.n
noncomputable def Ch.ok{P:Prop}:Ch P->Bool
 |.y _=>KQ|.n=>KR
theorem Ch.of{P:Prop}:∀{c:Ch P},c.ok=KQ->P
 |.y h,_=>h|.n,q=>nomatch q
noncomputable def cb:(b:Bool)->Ch (b=KQ)
 |true=>.y rfl|false=>.n
noncomputable def cn:(b:Bool)->Ch (b=KR)
 |false=>.y rfl|true=>.n
noncomputable def cd(p:Prop):[d:Decidable p]->Ch p
 |.isTrue h=>.y h|.isFalse _=>.n
noncomputable abbrev QG(g:dE)(m:MC)(t:Tg)(e:K_):Prop:=∀v X F,XC g v m X F->DG X F e (λd a=>(gi t d a).aO)
noncomputable abbrev Fo(g:dE)(m:MC)(t:Tg)(b:List K_):Prop:=∀v X F,XC g v m X F->xZ X F b (λd a=>(ip t d a).aO)
theorem rY{env:Q8}{e:K_}{a:List K_}(h:ay e=KR):Ma (e::a) env=(KR,PX e env)::Ma a env:=by cases e<;>first|rfl|(cases h)
theorem as_none{env:Q8}:∀{a:List K_},(a.all λe=>!ay e)=KQ->(Ma a env).length=a.length/\(Ma a env).findIdx? (·.1)=KP
 |[],_=>⟨rfl,rfl⟩|e::a,z=>by
  rw[NG,K0,M4]at z;rw[rY z.1];obtain⟨c,b⟩:=as_none (env:=env) z.2;exact⟨by simp[c],by simp[List.findIdx?_cons,b]⟩
end
section
variable{g:dE}{m:MC}
theorem IE{i:Nat}{x:Li}{p:MB}(q:eh m i x=KQ):QG g m (.nm i) (.Name x p):=λv X F h=>by
 obtain⟨c,b,a⟩:=h.loc q;exact(x8 i (by rw[h.hN];exact h.nd) c b a h.hK).ref λd e=>.refl _
theorem IF{n k:Nat}{r:Tg}{c:List K_}{p:MB}(i:c.length=n)(f:(c.all λe=>!ay e)=KQ)(j:Fo g m r c):QG g m (.tup n r) (.Tuple c k p):=λv X F h=>by
 obtain⟨a1,l⟩:=as_none (env:=X.env) f;refine(Fd (n:=n) h.calm (j v X F h) (a1.trans i) l).ref λd b=>?_;cases d with
 |tup a=>
  show Ref (if a.length=n then ip r a b else .stuck:T ah).aO (do M.need (a.length=n);(ip r a b).aO);by_cases e:a.length=n;.rw[if_pos e];exactλk Q E z=>⟨e,z⟩
  .rw[if_neg e];exact .fail|lst a=>
  show Ref (if a.length=n then ip r a b else .stuck:T ah).aO (do M.need (a.length=n);(ip r a b).aO);by_cases e:a.length=n;.rw[if_pos e];exactλk Q E z=>⟨e,z⟩
  .rw[if_neg e];exact .fail|_=>exact .fail
theorem IG:Fo g m .nil []:=λv X F h=>(x9 h.hK).ref λd a=>by cases d<;>first|exact .refl _|exact .fail
theorem IH{t r:Tg}{e:K_}{a:List K_}(b:ay e=KR)(c:QG g m t e)(f:Fo g m r a):Fo g m (.cons t r) (e::a):=λv X F h=>(uW (c v X F h) (f v X F h) (by rw[rY b];rfl)).ref λd i=>by cases d with
 |nil=>exact .fail|cons d j=>exact aa (.refl _) λ_=>.refl _
variable(g m)
mutual
noncomputable def cG:(t:Tg)->(e:K_)->Ch (QG g m t e)
 |.nm i,e=>match e with
  |.Name x _=>(cb (eh m i x)).b λq=>.y (IE q)|_=>.n
 |.tup n r,e=>match e with
  |.Tuple a _ _=>(cd (a.length=n)).b λq=>(cb (a.all λe=>!ay e)).b λc=>(JS r a).b λh=>.y (IF q c h)|_=>.n
 |.nil,_=>.n|.cons _ _,_=>.n
noncomputable def JS:(t:Tg)->(a:List K_)->Ch (Fo g m t a)
 |.nil,a=>match a with
  |[]=>.y IG|_=>.n
 |.cons t r,a=>match a with
  |e::a=>(cn (ay e)).b λq=>(cG t e).b λh=>(JS r a).b λc=>.y (IH q h c)|[]=>.n
 |.nm _,_=>.n|.tup _ _,_=>.n
end
end
section
variable{g:D->ah->T ah}{tc:ah->T Bool}{te:ah->T D}
theorem kr:∀(ds:List D)(ρ:ah),Ref (dR g tc te ds ρ).aO (lE (λd ρ=>(g d ρ).aO) (λρ=>(tc ρ).aO) (λρ=>(te ρ).aO) ds ρ)
 |[],ρ=>.refl _|d::ds,ρ=>aa (.refl _) λa=>aa (.refl _) λb=>by cases b with
  |true=>exact aa (.refl _) λx=>aa (kr ds a) λr=>.refl _|false=>exact kr ds a
theorem rZ(ρ:ah)(i:Nat)(a:List Nat):∀(ds rest:List D),Ref (tJ te ρ i a ds rest).aO (vR (λρ=>(te ρ).aO) ρ i a ds rest)
 |[],_=>.refl _|d::ds,rest=>aa (.refl _) λx=>aa (bf x) λn=>aj (λz=>by
   simp only[K0,decide_eq_true_eq]at z;exact z) (aF λy=>aa (rZ ρ i a ds _) λr=>.refl _)
end
section
variable{g:dE}{v:Ev}{m:MC}{X:Cx}{F:Fx}
theorem DO.ref{o:Option K_}{t m:ah->M (Option Int)}(h:DO X F o m)(r:∀ρ,Ref (t ρ) (m ρ)):DO X F o t:=⟨h.hK,h.po.imp λa H Q⟨ρ,k,S,z⟩=>⟨ρ,k,S,r ρ _ _ _ z⟩⟩
theorem lW{ρ:ah}{i:Nat}(h:fV ρ i=KQ):ρ[i]?=KJ (KJ .feed):=by
 unfold fV at h;split at h;.assumption
 .cases h
theorem wm{Ty:String}(d:D):Ref (gJ Ty d).aO (uU Ty d):=aF λ_=>aF λ_=>.refl _
theorem y8{x:Li}(h:cV.contains x=KQ):x∈cV:=List.contains_iff_mem.mp h
theorem Cn(f:BI):fX f∈cV:=by cases f<;>exact y8 rfl
theorem y9(h:XC g v m X F){f:BI}{a:K_}{b:List K_}{p q:MB}{c:ah->M (List A)}(ha:DA X F (a::b) c)(s:bX m (fX f)=KQ)(r:ay a=KR)(j:(b.all λe=>!ay e)=KQ):DE X F (.Call (.Name (fX f) p) (a::b) [] q) (λρ=>do(kN f (<-gx (<-c ρ))).aO):=by
 obtain⟨o,n,l⟩:=h.gl s;have hb:=Ck f;have k:=h.bl _ (Cn f);have hd:=Fm (X:=X) (F:=F) h.calm h.gd h.un h.hP h.hw f;have d:Lg (a::b) X.env=(KR,MW a X.env)::Lg b X.env:=aM r;have i:(NQ q (Lg b X.env)).any (·.1)=KR:=fH j;cases f<;>first|exact uR hd k hb ha o l n d i|exact sW hd k hb ha o l n d i
end
noncomputable abbrev QE(g:dE)(m:MC)(ex:Ex)(e:K_):Prop:=∀v X F,XC g v m X F->DE X F e (λa=>(ao v ex a).aO)
noncomputable abbrev QU(g:dE)(m:MC)(ex:Ex)(e:K_):Prop:=∀v X F,XC g v m X F->DU X F e (λa=>(ao v ex a).aO)
noncomputable abbrev QT(g:dE)(m:MC)(ex:Ex)(e:K_):Prop:=∀v X F,XC g v m X F->DT X F e (λa=>(bh v ex a).aO)
noncomputable abbrev QW(g:dE)(m:MC)(ex:Ex)(e:K_):Prop:=∀v X F,XC g v m X F->tZ X F e (λa=>(bh v ex a).aO)
noncomputable abbrev QC(g:dE)(m:MC)(ex:Ex)(b:List K_):Prop:=∀v X F,XC g v m X F->pY X F b (λa=>(bh v ex a).aO)
noncomputable abbrev QA(g:dE)(m:MC)(ex:Ex)(b:List K_):Prop:=∀v X F,XC g v m X F->DA X F b (λa=>(fW v ex a).aO)
noncomputable abbrev QO(g:dE)(m:MC)(ex:Ex)(o:Option K_):Prop:=∀v X F,XC g v m X F->DO X F o (λa=>(Cj v ex a).aO)
noncomputable abbrev QI(g:dE)(m:MC)(ex:Ex)(t e:K_):Prop:=∀v X F,XC g v m X F->DI X F t e (λa=>(nq v ex a).aO)
noncomputable abbrev QK(d:D)(c:Const):Prop:=∀X F,X.K=F.K->∀k p,DE X F (.Constant c k p) (λ_=>pure d)
noncomputable def cK:(d:D)->(c:Const)->Ch (QK d c)
 |.int i,c=>match c with
  |.int j=>(cd (j=i)).b λq=>.y (by subst q;exactλX F h k p=>Ba h)|_=>.n
 |.bl a,c=>match c with
  |.bool b=>(cd (b=a)).b λq=>.y (by subst q;exactλX F h k p=>Es h)|_=>.n
 |.bx,c=>match c with
  |.none=>.y λX F h k p=>Bb h|_=>.n
 |.str x,c=>match c with
  |.str y=>(cb (sEq x y)).b λq=>.y (by rw[aU q];exactλX F h k p=>Bc h)|_=>.n
 |_,_=>.n
section
variable{g:dE}{m:MC}
theorem Fp{i:Nat}{x:Li}{p:MB}(q:b_ m i x=KQ):QE g m (.var i) (.Name x p):=λv X F h=>by
 obtain⟨d,c,b,a⟩:=h.t7 q;exact(A_ i d c b a h.hK).ref λe=>.get
theorem II{o o':Ra}{a b:Ex}{x y:K_}{p:MB}(q:o'=o)(ha:QE g m a x)(hb:QE g m b y):QE g m (.op o a b) (.BinOp x o' y p):=by
 subst q;exactλv X F h=>(Eu (Fj h.un h.hP h.hw o') (ha v X F h) (hb v X F h)).ref λc=>aa (.refl _) λ_=>aa (.refl _) λ_=>.refl _
theorem Fq{a:Ex}{x:K_}{p:MB}(ha:QE g m a x):QE g m (.neg a) (.UnaryOp .USub x p):=λv X F h=>(BN (ha v X F h)).ref λb=>aa (.refl _) λd=>aa (bf d) λ_=>.refl _
theorem Fs{o o':Oo}{a b:Ex}{x y:K_}{p:MB}(q:o'=o)(c:bt y=KR)(ha:QE g m a x)(hb:QE g m b y):QE g m (.cmp o a b) (.Compare x [o'] [y] p):=by
 subst q;exactλv X F h=>(Be (iA h.un h.hP h.hw o') (ha v X F h) (hb v X F h) (ko c o')).ref λd=>aa (.refl _) λ_=>aa (.refl _) λ_=>.refl _
theorem Ft{a b:Ex}{x y:K_}{r:List K_}{p:MB}(ha:QE g m a x)(hb:QE g m b (.BoolOp .And (y::r) p)):QE g m (.and a b) (.BoolOp .And (x::y::r) p):=λv X F h=>(Bl (ha v X F h) (hb v X F h)).ref λc=>aa (.refl _) λd=>aa (da d) λb=>by cases b<;>exact .refl _
theorem IJ{a b:Ex}{x y:K_}{r:List K_}{p:MB}(ha:QE g m a x)(hb:QE g m b (.BoolOp .Or (y::r) p)):QE g m (.or a b) (.BoolOp .Or (x::y::r) p):=λv X F h=>(EA (ha v X F h) (hb v X F h)).ref λc=>aa (.refl _) λd=>aa (da d) λb=>by cases b<;>exact .refl _
theorem Fu{c a b:Ex}{z x y:K_}{p:MB}(d:QT g m c z)(ha:QE g m a x)(hb:QE g m b y):QE g m (.xo c a b) (.IfExp z x y p):=λv X F h=>(EC (d v X F h) (ha v X F h) (hb v X F h)).ref λe=>aa (.refl _) λb=>by cases b<;>exact .refl _
theorem Fv{a:Ex}{x:K_}{n:Li}{c b:MB}(i:sEq n "lower"=KQ)(f:(c.endLine==b.line)=KQ)(e:gM x=KR)(ha:QE g m a x):QE g m (.low a) (.Call (.Attribute x n c) [] [] b):=λv X F h=>by
 obtain rfl:=aU i;exact(vN (ha v X F h) (fA e) f).ref λj=>aa (.refl _) λd=>by cases d<;>first|exact aj of_decide_eq_true (.refl _)|exact .fail
theorem Fw{a:Ex}{x:K_}{n:Li}{c b:MB}(i:sEq n "isalpha"=KQ)(f:(c.endLine==b.line)=KQ)(e:gM x=KR)(ha:QE g m a x):QE g m (.Cd a) (.Call (.Attribute x n c) [] [] b):=λv X F h=>by
 obtain rfl:=aU i;exact(vO (ha v X F h) (fA e) f).ref λj=>aa (.refl _) λd=>by cases d<;>first|exact .refl _|exact .fail
theorem wo(d:D):Ref (oN d).aO (qi d):=by
 unfold oN qi;split<;>first|exact .refl _|exact .fail
theorem Fy{a st:Ex}{x z:K_}{p b:MB}(ha:QE g m a x)(c:QE g m st z):QE g m (.rev a st) (.Subscript x (.Slice KP KP (KJ z) b) p):=λv X F h=>(yQ (ha v X F h) (c v X F h)).ref λe=>aa (.refl _) λd=>aa (.refl _) λy=>aa (bf y) λn=>aj of_decide_eq_true (wo d)
theorem Co(ds:List D):Ref (Fh ds).aO (GX ds):=by
 unfold Fh GX;split<;>first|exact aF λ_=>.refl _|exact .fail
theorem Cp{r:Ex}{f h:Li}{a b:K_}{p pos l pos0:MB}(k:sEq f "dict"=KQ)(j:sEq h "zip"=KQ)(i:bX m f=KQ)(e:bX m h=KQ)(d:ay a=KR)(c:ay b=KR)(n:QA g m r [a,b]):QE g m (.vW r) (.Call (.Name f l) [.Call (.Name h p) [a,b] [] pos] [] pos0):=λv X F z=>by
 obtain rfl:=aU k;obtain rfl:=aU j;have hu:=z.un;exact(yX z.calm (by omega) z.hP z.hw (z.bl _ (y8 rfl)) (z.bl _ (y8 rfl)) (n v X F z) (z.gl i).1 (z.gl e).1 (aM d) (by rw[aM c];rfl)).ref λs=>aa (.refl _) λq=>aa (.of_eq (cX q)) λo=>Co o
theorem y_{f i h:Nat}{r:Ex}{x y z:Li}{e:K_}{b:List K_}{J pg np R j:MB}(I:isAt g.dn f x=KQ)(H:isAt g.dn h y=KQ)(G:bX m x=KQ)(D:bX m y=KQ)(C:b_ m i z=KQ)(B:ay e=KR)(A:(b.all λe=>!ay e)=KQ)(N:QA g m r (e::b)):QE g m (.oK f i h r) (.Call (.Name x J) [.Name z np,.Call (.Name y pg) (e::b) [] j] [] R):=λv X F c=>by
 obtain⟨n1,Y,w,P,L⟩:=c.df f x (gL I);obtain⟨n2,W,u,O,K⟩:=c.df h y (gL H);obtain⟨a1,U,a3⟩:=c.gl G;obtain⟨b1,S,Z⟩:=c.gl D;obtain⟨t,s,p,o⟩:=c.t7 C;refine(vQ i P w O u c.hP c.hw t s p o (N v X F c) a1 b1 U S (aM B) (fH A)).ref λV=>aj lW (aa (.refl _) λbs=>?_);intro k Q E z;rw[T.cz]at z;by_cases l:bs.length=n2
 .by_cases n:n1=2
  .refine⟨⟨l,n⟩,?_⟩;have z:((v.aH h bs).aO>>=λr=>(Fg r).aO).run k (λd a=>(v.call f [.feed,.own d]).aO.run a Q E) E:=by rw[<-T.cz];exact z
   refine T.gB (v.aH h bs) _ (M.mono _ z (λr a y=>?_) λ_ _ y=>y);cases r with
   |d x=>exact y.elim|own d=>
    have y:((v.aH f [.feed,.own d]).aO>>=λr=>(toD r).aO).run a Q E:=by rw[<-T.cz];exact y
    refine T.gB (v.aH f [.feed,.own d]) _ (M.mono _ y (λr a y=>?_) λ_ _ y=>y);cases r with
    |d x=>exact y|own x=>exact y.elim
  .exfalso;have e:∀d,v.call f [.feed,.own d]=.stuck:=λd=>by show v.aH f _>>=toD=_;rw[L [.feed,.own d] (λq=>n q.symm)];rfl
   have:(v.oM h bs).aO.run k (λd a=>False) E:=M.mono _ z (λd a y=>by dsimp only at y;rw[e d]at y;exact y) λ_ _ y=>y;exact T.p_ _ this
 .have e:v.oM h bs=.stuck:=by show v.aH h bs>>=Fg=_;rw[K bs l];rfl
  rw[e]at z;exact z.elim
theorem Fz{a:Ex}{o:BoolOp}{x:K_}{p:MB}(ha:QE g m a x):QE g m (.one a) (.BoolOp o [x] p):=λv X F h=>(Bk (ha v X F h)).ref λb=>.refl _
theorem FA{a:Ex}{x:K_}{p:MB}(ha:QE g m a x):QE g m (.not a) (.UnaryOp .Not x p):=λv X F h=>(Bm (ha v X F h)).ref λb=>aa (.refl _) λd=>aa (da d) λ_=>.refl _
theorem FC{r:Ex}{a:List K_}{k:Nat}{p:MB}(b:QA g m r a):QE g m (.tup r) (.Tuple a k p):=λv X F h=>(Bt (b v X F h)).ref λd=>aa (.refl _) λc=>aa (.of_eq (cX c)) λe=>aj of_decide_eq_true (.refl _)
theorem FD{r:Ex}{a:List K_}{p:MB}(b:QA g m r a):QE g m (.lst r) (.List a p):=λv X F h=>(Bv (b v X F h)).ref λd=>aa (.refl _) λc=>aa (.of_eq (cX c)) λe=>aj of_decide_eq_true (.refl _)
theorem FE{a b:Ex}{x y:K_}{p:MB}(q:gO y=KR)(ha:QE g m a x)(hb:QE g m b y):QE g m (.idx a b) (.Subscript x y p):=λv X F h=>(ED (Fk h.un h.hP h.hw) (ha v X F h) (hb v X F h) (kq q)).ref λc=>aa (.refl _) λ_=>aa (.refl _) λ_=>.refl _
theorem IK{f:BI}{r:Ex}{x:Li}{a:K_}{b:List K_}{p k:MB}(j:sEq x (fX f)=KQ)(i:bX m x=KQ)(d:(b.all λe=>!ay e)=KQ)(c:ay a=KR)(l:QA g m r (a::b)):QE g m (.bi f r) (.Call (.Name x p) (a::b) [] k):=λv X F h=>by
 obtain rfl:=aU j;exact(y9 h (l v X F h) i c d).ref λo=>aa (.refl _) λn=>aa (.of_eq (cX n)) λq=>.refl _
theorem Cq{f:Nat}{r:Ex}{x:Li}{a:K_}{i:List K_}{p t:MB}(s:isAt g.dn f x=KQ)(q:bX m x=KQ)(o:(i.all λe=>!ay e)=KQ)(l:ay a=KR)(u:QA g m r (a::i)):QE g m (.call f r) (.Call (.Name x p) (a::i) [] t):=λv X F h=>by
 obtain⟨n,k,c,hd,w⟩:=h.df f x (gL s);obtain⟨B,A,G⟩:=h.gl q;refine(By hd c (u v X F h) B h.hP h.hw A (aM l) (fH o)).ref λC=>aa (.refl _) λb=>?_;by_cases j:b.length=n
 .refineλk Q E z=>⟨j,?_⟩;have z:((v.aH f b).aO>>=λr=>(toD r).aO).run k Q E:=by rw[<-T.cz];exact z
  refine T.gB (v.aH f b) _ (M.mono _ z (λr D y=>?_) λ_ _ y=>y);cases r with
  |d x=>exact y|own x=>exact y.elim
 .have e:v.call f b=.stuck:=by show v.aH f b>>=toD=_;rw[w b j];rfl
  rw[e];exact .fail
theorem FG{Ty:String}{a:Ex}{x t:Li}{y:K_}{p o n:MB}(b1:MD t=KJ (.type Ty))(l:sEq x "isinstance"=KQ)(k:cV.contains t=KQ)(j:bX m x=KQ)(i:bX m t=KQ)(f:ay y=KR)(ha:QE g m a y):QE g m (.kM Ty a) (.Call (.Name x p) [y,.Name t n] [] o):=λv X F h=>by
 obtain rfl:=aU l;obtain⟨q,u,s⟩:=h.gl j;obtain⟨e,c,b⟩:=h.gl i;refine(xY (x:=p) (p1:=p) (ha v X F h) (h.bl _ (y8 rfl)) (h.bl _ (y8 k)) b1 q e b c (aM f)).ref λr=>aa (.refl _) λd=>?_;exact wm d
theorem FH{e:K_}:QE g m .bad e:=λv X F h=>DE.stuck h.hK
theorem FI{i:Nat}{a:Ex}{e:K_}(ha:QE g m a e):QE g m (.lO i a) e:=λv X F h=>((ha v X F h).lO i).ref λb=>aa (.refl _) λd=>aj (λz=>z) (.refl _)
theorem FJ{i:Nat}{x:Li}{p:MB}(e:bX m x=KQ)(c:isAt g.gn i x=KQ):QE g m (.iT i) (.Name x p):=λv X F h=>by
 obtain⟨l,k,n⟩:=h.gl e;cases a:v.iT i with
 |none=>
  refine(DE.stuck h.hK).ref λb=>?_;show Ref (T.get (v.iT i)).aO _;rw[a];exact .refl _|some d=>
  obtain⟨u,w,f,r,j⟩:=h.co i x d (gL c) a;refine(vV l f r j k h.hK).ref λb=>?_;show Ref (T.get (v.iT i)).aO _;rw[a];exact .refl _
theorem FK{o o' p1 d:Oo}{a b c:Ex}{x y z:K_}{p:MB}(q:p1=o)(f:d=o')(e:bt z=KR)(ha:QE g m a x)(hb:QE g m b y)(i:QE g m c z):QE g m (.DJ o o' a b c) (.Compare x [p1,d] [y,z] p):=by
 subst q f;refineλv X F h=>(uL (iA h.un h.hP h.hw p1) (iA h.un h.hP h.hw d) (ha v X F h) (hb v X F h) (i v X F h) (gP e p1 d)).ref λj=>aa (.refl _) λ_=>aa (.refl _) λ_=>aa (.refl _) λr=>aa (da r) λb=>?_;cases b with
 |true=>exact aa (.refl _) λ_=>.refl _|false=>exact .refl _
theorem Cr{o o' p1 i:Oo}{a b c:Ex}{x y z:K_}{p:MB}(q:p1=o)(l:i=o')(k:bt z=KR)(ha:QE g m a x)(hb:QE g m b y)(n:QE g m c z):QT g m (.oJ o o' a b c) (.Compare x [p1,i] [y,z] p):=by
 subst q l;refineλv X F h=>(uM (iA h.un h.hP h.hw p1) (iA h.un h.hP h.hw i) (ha v X F h) (hb v X F h) (n v X F h) (gP k p1 i)).ref λj=>?_;show Ref (ao v a j>>=λd=>ao v b j>>=λe=>bA p1 d e>>=λr=>aK r>>=λy=>if y then(ao v c j>>=λf=>bA i e f>>=λr=>aK r)else .ok KR:T Bool).aO _;unfold jG;rw[M.bind_assoc];refine aa (.refl _) λd=>?_;rw[M.bind_assoc];refine aa (.refl _) λe=>?_;rw[M.bind_assoc];refine aa (.refl _) λr=>?_;rw[M.bind_assoc];refine aa (da r) λb=>?_;cases b with
 |true=>
  show Ref (ao v c j>>=λf=>bA i e f>>=λr=>aK r:T Bool).aO (((ao v c j).aO>>=λf=>(bA i e f).aO)>>=λr=>dy r);rw[M.bind_assoc];exact aa (.refl _) λf=>aa (.refl _) λr=>da r|false=>exact .refl _
theorem IL:QO g m .nil KP:=λv X F h=>(yb h.hK).ref λa=>.refl _
theorem IM{a:Ex}{e:K_}(ha:QE g m a e):QO g m (.one a) (KJ e):=λv X F h=>(yc (ha v X F h)).ref λb=>aa (.refl _) λd=>aa (bf d) λ_=>.refl _
theorem FL{a lo b:Ex}{x:K_}{l u:Option K_}{p c:MB}(ha:QE g m a x)(e:QO g m lo l)(f:QO g m b u):QE g m (.cut a lo b) (.Subscript x (.Slice l u KP c) p):=λv X F h=>(vg (ha v X F h) (e v X F h) (f v X F h)).ref λi=>aa (.refl _) λd=>aa (.refl _) λ_=>aa (.refl _) λ_=>by cases d<;>first|exact .refl _|exact .fail|exact aj of_decide_eq_true (.refl _)
variable{own:List Li}{js:List Nat}{sc:MT}{tg tg2:Tg}{it c it2 c2 elt ke ve:Ex}{t i t2 i2 x y:K_}{ifs ifs2:List K_}{p:MB}
theorem IP(e:oR m own js sc=KQ)(f:bt i=KR)(j:QI g m it t i)(k:QG g (fb m own (cc m js) sc) tg t)(n:QC g (fb m own (cc m js) sc) c ifs)(l:QE g (fb m own (cc m js) sc) elt x):QU g m (.lc own js tg it c elt) (.ListComp x [⟨t,i,ifs,0⟩] sc p):=λv X F h=>by
 obtain⟨b1,w,u,q⟩:=wj h e;exact(vA own (cc m js) js h.calm b1 w u q (j v X F h) (λa d C b s H=>k _ _ _ (h.eQ e a d C b s H)) (λa d C b s H=>n _ _ _ (h.eQ e a d C b s H)) (λa d C b s H=>l _ _ _ (h.eQ e a d C b s H)) (iB f _)).ref λz=>aa (.refl _) λo=>aa (kr o _) λr=>.refl _
theorem wq{a b:Ex}{x y:K_}{r:List K_}{p:MB}(ha:QT g m a x)(hb:QW g m b (.BoolOp .And (y::r) p)):QW g m (.jc a b) (.BoolOp .And (x::y::r) p):=λv X F h=>(Bp (ha v X F h) (hb v X F h)).ref λd=>aa (.refl _) λb=>by cases b<;>exact .refl _
theorem zY{a b:Ex}{x y:K_}{r:List K_}{p:MB}(ha:QT g m a x)(hb:QW g m b (.BoolOp .Or (y::r) p)):QW g m (.fG a b) (.BoolOp .Or (x::y::r) p):=λv X F h=>(EB (ha v X F h) (hb v X F h)).ref λd=>aa (.refl _) λb=>by cases b<;>exact .refl _
theorem wt{a:Ex}{o:BoolOp}{x:K_}{p:MB}(ha:QT g m a x):QW g m (.bj a) (.BoolOp o [x] p):=λv X F h=>by cases o with
 |And=>exact xR (ha v X F h)|Or=>exact Bo (ha v X F h)
theorem Cs{ex:Ex}{e:K_}(h:QW g m ex e):QT g m ex e:=λv X F z=>(h v X F z).dt
theorem FO{a:Ex}{i:Nat}{x:Li}{e:K_}{p np:MB}(q:b_ m i x=KQ)(ha:QE g m a e):QT g m (.xp a i) (.Compare e [.In] [.Name x np] p):=λv X F h=>by
 obtain⟨k,j,f,b⟩:=h.t7 q;have hu:=h.un;exact(B8 i (by omega) h.hP h.hw (ha v X F h) k j f b).ref λl=>aa (.refl _) λd=>aF λn=>aj bK (.refl _)
theorem Ct{i:Nat}{a:Ex}{e:K_}(ha:QT g m a e):QT g m (.lO i a) e:=λv X F h=>((ha v X F h).lO i).ref λb=>.refl _
theorem Cu{a:Ex}{x:K_}{p:MB}(ha:QT g m a x):QT g m (.bz a) (.UnaryOp .Not x p):=λv X F h=>(Bq (ha v X F h)).ref λb=>aa (.refl _) λ_=>.refl _
theorem FP{a:Ex}{e:K_}(q:mQ e=KQ)(ha:QE g m a e):QT g m (.fP a) e:=λv X F h=>(BY (ha v X F h) λw=>qm q X.env w).ref λb=>aa (.refl _) λd=>.get
theorem Cv{o o':Oo}{a b:Ex}{x y:K_}{p:MB}(q:o'=o)(e:bt y=KR)(ha:QE g m a x)(hb:QE g m b y):QT g m (.ax o a b) (.Compare x [o'] [y] p):=by
 subst q;exactλv X F h=>(Bg (iA h.un h.hP h.hw o') (ha v X F h) (hb v X F h) (ko e o')).ref λf=>by
  rw[M.bind_assoc];refine aa (.refl _) λ_=>?_;rw[M.bind_assoc];exact aa (.refl _) λ_=>aa (.refl _) λd=>da d
theorem Cw{e:K_}:QT g m .bad e:=λv X F h=>DT.stuck h.hK
theorem Cy{e:K_}:QW g m .bad e:=λv X F h=>⟨h.hK,λw a s b H Q I⟨d,k,S,z⟩=>z.elim⟩
theorem FQ:QC g m .yes []:=λv X F h=>(u_ h.hK).ref λa=>.refl _
theorem FR{a:Ex}{e:K_}(ha:QT g m a e):QC g m (.bj a) [e]:=λv X F h=>va (ha v X F h)
theorem IQ:QA g m .nil []:=λv X F h=>(Br h.hK).ref λa=>.refl _
theorem IS{a r:Ex}{e:K_}{b:List K_}(q:ay e=KR)(ha:QE g m a e)(d:QA g m r b):QA g m (.cons a r) (e::b):=λv X F h=>(xS (ha v X F h) (d v X F h) (aM q)).ref λf=>aa (.refl _) λ_=>aa (.refl _) λ_=>.refl _
theorem IT{i:Nat}{r:Ex}{x:Li}{p:MB}{a:List K_}(q:b_ m i x=KQ)(b:QA g m r a):QA g m (.feed i r) (.Name x p::a):=λv X F h=>by
 obtain⟨j,f,e,d⟩:=h.t7 q;exact(xT i (b v X F h) j f e d rfl).ref λk=>aj lW (aa (.refl _) λ_=>.refl _)
theorem FT{r:Ex}{x:Li}{t a:K_}{p k:MB}(f:sEq x "range"=KQ)(e:bX m x=KQ)(b:ay a=KR)(l:QA g m r [a]):QI g m (.ij r) t (.Call (.Name x p) [a] [] k):=λv X F h=>by
 obtain rfl:=aU f;refine(s9 (h.bl _ (y8 rfl)) (l v X F h) (h.gl e).1 (aM b)).ref λq=>aa (.refl _) λo=>aa (.of_eq (cX o)) λn=>?_;match n with
 |[]=>exact .fail|[d]=>exact aa (bf d) λj=>aj (λz=>by simp only[K0,decide_eq_true_eq]at z;exact z) (.refl _)|_::_::_=>exact .fail
theorem FU{a:Ex}{t e:K_}(ha:QE g m a e):QI g m (.bG a) t e:=λv X F h=>(yz (ha v X F h)).ref λb=>aa (.refl _) λd=>.get
theorem Cz{t e:K_}:QI g m .bad t e:=λv X F h=>DI.stuck h.hK
end
noncomputable def JT{g:dE}{m:MC}{own:List Li}{a:List Nat}{tg:Tg}{it c d:Ex}{gs:List RE}{x:K_}{sc:MT}{p:MB}(j:∀t i,Ch (QI g m it t i))(o:∀l,Ch (QC g (fb m own (cc m a) sc) c l))(k:Ch (QE g (fb m own (cc m a) sc) d x)):Ch (QU g m (.lc own a tg it c d) (.ListComp x gs sc p)):=match gs with
 |[⟨t,i,e,0⟩]=>(cb (oR m own a sc)).b λh=>(cn (bt i)).b λf=>(j t i).b λu=>(cG g (fb m own (cc m a) sc) tg t).b λs=>(o e).b λr=>k.b λq=>.y (IP h f u s r q)|_=>.n
noncomputable def Ch.ue{g:dE}{m:MC}{ex:Ex}{e:K_}(c:Ch (QU g m ex e)):Ch (QE g m ex e):=c.b λh=>.y λv X F z=>(h v X F z).de
mutual
noncomputable def cE(g:dE):(m:MC)->(ex:Ex)->(e:K_)->Ch (QE g m ex e)
 |m,.var i,e=>match e with
  |.Name x _=>(cb (b_ m i x)).b λq=>.y (Fp q)|_=>.n
 |m,.cst d,e=>match e with
  |.Constant c _ _=>(cK d c).b λh=>.y λv X F z=>(h X F z.hK _ _).ref λT=>.refl _|_=>.n
 |m,.op o a b,e=>match e with
  |.BinOp x D y _=>(cd (D=o)).b λq=>(cE g m a x).b λh=>(cE g m b y).b λk=>.y (II q h k)|_=>.n
 |m,.neg a,e=>match e with
  |.UnaryOp .USub x _=>(cE g m a x).b λh=>.y (Fq h)|_=>.n
 |m,.cmp o a b,e=>match e with
  |.Compare x [D] [y] _=>(cd (D=o)).b λq=>(cn (bt y)).b λj=>(cE g m a x).b λh=>(cE g m b y).b λk=>.y (Fs q j h k)|_=>.n
 |m,.and a b,e=>match e with
  |.BoolOp .And (x::y::r) p=>(cE g m a x).b λh=>(cE g m b (.BoolOp .And (y::r) p)).b λk=>.y (Ft h k)|_=>.n
 |m,.or a b,e=>match e with
  |.BoolOp .Or (x::y::r) p=>(cE g m a x).b λh=>(cE g m b (.BoolOp .Or (y::r) p)).b λk=>.y (IJ h k)|_=>.n
 |m,.xo c a b,e=>match e with
  |.IfExp z x y _=>(cT g m c z).b λh=>(cE g m a x).b λS=>(cE g m b y).b λk=>.y (Fu h S k)|_=>.n
 |m,.low a,e=>match e with
  |.Call (.Attribute x n J) [] [] I=>(cb (sEq n "lower")).b λj=>(cb (J.endLine==I.line)).b λs=>(cn (gM x)).b λw=>(cE g m a x).b λh=>.y (Fv j s w h)|_=>.n
 |m,.Cd a,e=>match e with
  |.Call (.Attribute x n J) [] [] I=>(cb (sEq n "isalpha")).b λj=>(cb (J.endLine==I.line)).b λs=>(cn (gM x)).b λw=>(cE g m a x).b λh=>.y (Fw j s w h)|_=>.n
 |m,.rev a st,e=>match e with
  |.Subscript x (.Slice KP KP (KJ z) _) _=>(cE g m a x).b λh=>(cE g m st z).b λk=>.y (Fy h k)|_=>.n
 |m,.vW r,e=>match e with
  |.Call (.Name f _) [.Call (.Name h _) [a,b] [] _] [] _=>(cb (sEq f "dict")).b λj=>(cb (sEq h "zip")).b λs=>(cb (bX m f)).b λw=>(cb (bX m h)).b λB=>(cn (ay a)).b λC=>(cn (ay b)).b λE=>(cA g m r [a,b]).b λh=>.y (Cp j s w B C E h)|_=>.n
 |m,.oK f i h r,e=>match e with
  |.Call (.Name x _) [.Name z _,.Call (.Name y _) (e::A) [] _] [] _=>(cb (isAt g.dn f x)).b λj=>(cb (isAt g.dn h y)).b λs=>(cb (bX m x)).b λw=>(cb (bX m y)).b λB=>(cb (b_ m i z)).b λC=>(cn (ay e)).b λE=>(cb (A.all λe=>!ay e)).b λL=>(cA g m r (e::A)).b λR=>.y (y_ j s w B C E L R)|_=>.n
 |m,.one a,e=>match e with
  |.BoolOp _ [x] _=>(cE g m a x).b λh=>.y (Fz h)|_=>.n
 |m,.not a,e=>match e with
  |.UnaryOp .Not x _=>(cE g m a x).b λh=>.y (FA h)|_=>.n
 |m,.tup r,e=>match e with
  |.Tuple A _ _=>(cA g m r A).b λh=>.y (FC h)|_=>.n
 |m,.lst r,e=>match e with
  |.List A _=>(cA g m r A).b λh=>.y (FD h)|_=>.n
 |m,.idx a b,e=>match e with
  |.Subscript x y _=>(cn (gO y)).b λq=>(cE g m a x).b λh=>(cE g m b y).b λk=>.y (FE q h k)|_=>.n
 |m,.bi f r,e=>match e with
  |.Call (.Name x _) (a::A) [] _=>(cb (sEq x (fX f))).b λj=>(cb (bX m x)).b λs=>(cb (A.all λe=>!ay e)).b λw=>(cn (ay a)).b λB=>(cA g m r (a::A)).b λh=>.y (IK j s w B h)|_=>.n
 |m,.call f r,e=>match e with
  |.Call (.Name x _) (a::A) [] _=>(cb (isAt g.dn f x)).b λj=>(cb (bX m x)).b λs=>(cb (A.all λe=>!ay e)).b λw=>(cn (ay a)).b λB=>(cA g m r (a::A)).b λh=>.y (Cq j s w B h)|_=>.n
 |m,.kM Ty a,e=>match e with
  |.Call (.Name x _) [y,.Name t _] [] _=>(cd (MD t=KJ (.type Ty))).b λM=>(cb (sEq x "isinstance")).b λj=>(cb (cV.contains t)).b λs=>(cb (bX m x)).b λw=>(cb (bX m t)).b λB=>(cn (ay y)).b λC=>(cE g m a y).b λh=>.y (FG M j s w B C h)|_=>.n
 |m,.lc own K tg P c H,e=>match e with
  |.ListComp x gs sc p=>(JT (tg:=tg) (gs:=gs) (p:=p) (λt i=>cI g m P t i) (λl=>cC g (fb m own (cc m K) sc) c l) (cE g (fb m own (cc m K) sc) H x)).ue|_=>.n
 |m,.iT i,e=>match e with
  |.Name x _=>(cb (bX m x)).b λq=>(cb (isAt g.gn i x)).b λs=>.y (FJ q s)|_=>.n
 |m,.DJ o D a b c,e=>match e with
  |.Compare x [p,O] [y,z] _=>(cd (p=o)).b λq=>(cd (O=D)).b λN=>(cn (bt z)).b λj=>(cE g m a x).b λh=>(cE g m b y).b λk=>(cE g m c z).b λG=>.y (FK q N j h k G)|_=>.n
 |m,.cut a lo Q,e=>match e with
  |.Subscript x (.Slice l u KP _) _=>(cE g m a x).b λh=>(cO g m lo l).b λk=>(cO g m Q u).b λG=>.y (FL h k G)|_=>.n
 |_,.bad,_=>.y FH|m,.lO i a,e=>(cE g m a e).b λh=>.y (FI h)|_,_,_=>.n
noncomputable def cW(g:dE):(m:MC)->(ex:Ex)->(e:K_)->Ch (QW g m ex e)
 |m,.jc a b,e=>match e with
  |.BoolOp .And (x::y::r) p=>(cT g m a x).b λh=>(cW g m b (.BoolOp .And (y::r) p)).b λc=>.y (wq h c)|_=>.n
 |m,.fG a b,e=>match e with
  |.BoolOp .Or (x::y::r) p=>(cT g m a x).b λh=>(cW g m b (.BoolOp .Or (y::r) p)).b λc=>.y (zY h c)|_=>.n
 |m,.bj a,e=>match e with
  |.BoolOp _ [x] _=>(cT g m a x).b λh=>.y (wt h)|_=>.n
 |_,.bad,_=>.y Cy|_,_,_=>.n
noncomputable def cT(g:dE):(m:MC)->(ex:Ex)->(e:K_)->Ch (QT g m ex e)
 |m,.jc a b,e=>match e with
  |.BoolOp .And (x::y::r) p=>(cT g m a x).b λh=>(cW g m b (.BoolOp .And (y::r) p)).b λd=>.y (Cs (wq h d))|_=>.n
 |m,.fG a b,e=>match e with
  |.BoolOp .Or (x::y::r) p=>(cT g m a x).b λh=>(cW g m b (.BoolOp .Or (y::r) p)).b λd=>.y (Cs (zY h d))|_=>.n
 |m,.bj a,e=>match e with
  |.BoolOp _ [x] _=>(cT g m a x).b λh=>.y (Cs (wt h))|_=>.n
 |m,.bz a,e=>match e with
  |.UnaryOp .Not x _=>(cT g m a x).b λh=>.y (Cu h)|_=>.n
 |m,.xp a i,e=>match e with
  |.Compare x [.In] [.Name y _] _=>(cb (b_ m i y)).b λq=>(cE g m a x).b λh=>.y (FO q h)|_=>.n
 |m,.lO _ a,e=>(cT g m a e).b λh=>.y (Ct h)|m,.fP a,e=>(cb (mQ e)).b λq=>(cE g m a e).b λh=>.y (FP q h)|m,.ax o a b,e=>match e with
  |.Compare x [j] [y] _=>(cd (j=o)).b λq=>(cn (bt y)).b λf=>(cE g m a x).b λh=>(cE g m b y).b λd=>.y (Cv q f h d)|_=>.n
 |m,.oJ o j a b c,e=>match e with
  |.Compare x [p,l] [y,z] _=>(cd (p=o)).b λq=>(cd (l=j)).b λk=>(cn (bt z)).b λf=>(cE g m a x).b λh=>(cE g m b y).b λd=>(cE g m c z).b λs=>.y (Cr q k f h d s)|_=>.n
 |_,.bad,_=>.y Cw|_,_,_=>.n
noncomputable def cC(g:dE):(m:MC)->(ex:Ex)->(c:List K_)->Ch (QC g m ex c)
 |_,.yes,c=>match c with
  |[]=>.y FQ|_=>.n
 |m,.bj a,c=>match c with
  |[e]=>(cT g m a e).b λh=>.y (FR h)|_=>.n
 |_,_,_=>.n
noncomputable def cA(g:dE):(m:MC)->(ex:Ex)->(c:List K_)->Ch (QA g m ex c)
 |_,.nil,c=>match c with
  |[]=>.y IQ|_=>.n
 |m,.cons a r,c=>match c with
  |e::c=>(cn (ay e)).b λq=>(cE g m a e).b λh=>(cA g m r c).b λd=>.y (IS q h d)|[]=>.n
 |m,.feed i r,c=>match c with
  |.Name x _::c=>(cb (b_ m i x)).b λq=>(cA g m r c).b λh=>.y (IT q h)|_=>.n
 |_,_,_=>.n
noncomputable def cO(g:dE):(m:MC)->(ex:Ex)->(o:Option K_)->Ch (QO g m ex o)
 |_,.nil,o=>match o with
  |none=>.y IL|_=>.n
 |m,.one a,o=>match o with
  |some e=>(cE g m a e).b λh=>.y (IM h)|_=>.n
 |_,_,_=>.n
noncomputable def cI(g:dE):(m:MC)->(ex:Ex)->(t e:K_)->Ch (QI g m ex t e)
 |m,.ij r,_,e=>match e with
  |.Call (.Name x _) [a] [] _=>(cb (sEq x "range")).b λf=>(cb (bX m x)).b λd=>(cn (ay a)).b λc=>(cA g m r [a]).b λh=>.y (FT f d c h)|_=>.n
 |m,.bG a,_,e=>(cE g m a e).b λh=>.y (FU h)|_,.bad,_,_=>.y Cz|_,_,_,_=>.n
end
noncomputable def wu(sc:MT):ScopeKind:=if sc.kind.isAnnotationScope then .function else sc.kind
noncomputable def CA:K_->Option MT
 |.ListComp _ _ s _=>KJ s|.SetComp _ _ s _=>KJ s|.DictComp _ _ _ s _=>KJ s|_=>KP
noncomputable def oS(m:MC)(x:Li)(a:MB)(e:K_):Bool:=match CA e with
 |none=>KR|some sc=>wu m.sc==.function&&m.sc.names.lookup x==KJ .local&&a.line==e.pos.line&&!(sc.names.any λ(n,k)=>n==x&&(k==.local||k==.cell))
theorem swap_eq{m:MC}{env:Q8}(h:env.scope=m.sc)(x:Li)(a:MB)(l:Nat)(e:K_):N0 e (KJ (.Name x a)) l env=pure (oS m x a e):=by
 unfold N0 oS Env.blockKind SK wu;rw[h];cases e<;>rfl
theorem oT{a:List K_}{k:Nat}{p:MB}{env:Q8}(l:Nat)(e:K_):PZ [.Tuple a k p] e l env=pure KR:=by
 show N0 e (KJ (.Tuple a k p)) l env=pure KR;unfold N0;cases e<;>rfl
noncomputable def sN(sc:MT):Q8:={scope:=sc,locals:=0,globals:=0,cells:=[]}
theorem oU{env c:Q8}(h:env.scope=c.scope)(a:List K_)(b:K_):MZ a b env=MZ a b c:=by
 unfold MZ Env.blockKind SK;rw[h]
noncomputable def cN:(t:Py (Option (List Li)))->Ch (t=pure KP)
 |.pure KP=>.y rfl|_=>.n
noncomputable def Kr(x y:Li):(t:Py (Option (List Li)))->Ch (t=pure (KJ [x,y]))
 |.pure (KJ [a,b])=>(cb (sEq a x)).b λd=>(cb (sEq b y)).b λc=>.y (by rw[aU d,aU c];rfl)|_=>.n
noncomputable def JU(x:Li)(k:Nn)(l:List (Li×Nn)):Ch (pE x l=KJ k):=match pE x l with
 |some j=>(cd (j=k)).b λq=>.y (by rw[q])|none=>.n
section
variable{g:dE}{v:Ev}{m:MC}{X:Cx}{F:Fx}
theorem mR{b:D->ah->T ah}{body:ah->T Fl}:∀(ds:List D)(ρ:ah),Ref (e_ b body ds ρ).aO (sZ (λd ρ=>(b d ρ).aO) (λρ=>(body ρ).aO) ds ρ)
 |[],ρ=>.refl _|d::ds,ρ=>aa (.refl _) λc=>aa (.refl _) λe=>by cases e with
  |nx a=>exact mR ds a|ct a=>exact mR ds a|bk a=>exact .refl _|rt r=>exact .refl _|ro r=>exact .fail
theorem iC{c:ah->T Bool}{body:ah->T Fl}:∀(n:Nat)(ρ:ah),Ref (mN c body n ρ).aO (d_ (λρ=>(c ρ).aO) (λρ=>(body ρ).aO) n ρ)
 |0,ρ=>.refl _|n+1,ρ=>aa (.refl _) λb=>by cases b with
  |true=>
   refine aa (.refl _) λd=>?_;cases d with
   |nx a=>exact iC n a|ct a=>exact iC n a|bk a=>exact .refl _|rt r=>exact .refl _|ro r=>exact .fail
  |false=>exact .refl _
theorem dS(d:D):Ref (c_ d).aO (jY d):=by cases d<;>first|exact .refl _|exact .fail
theorem tL(d:D):Ref (oO d).aO (rF d):=by cases d<;>first|exact .refl _|exact .fail
end
noncomputable abbrev QS(g:dE)(m:MC)(s:aZ)(st:MU):Prop:=∀v X F,P5 (K7 X.prog X.w) X.A X.env X.xe->XC g v m X F->DS X F st (λa=>(au v s a).aO)
noncomputable abbrev xq(g:dE)(m:MC)(s:aZ)(a:List MU):Prop:=∀v X F,P5 (K7 X.prog X.w) X.A X.env X.xe->XC g v m X F->tY X F a (λb=>(au v s b).aO)
section
variable{g:dE}{m:MC}
theorem XC.tK{v:Ev}{X:Cx}{F:Fx}(h:XC g v m X F):X.N.Nodup:=by rw[h.hN];exact h.nd
theorem FV{tg:Tg}{e:Ex}{a:List K_}{k:Nat}{p b:MB}{x:K_}(c:QG g m tg (.Tuple a k b))(f:QE g m e x)(q:MZ [.Tuple a k b] x (sN m.sc)=pure KP):QS g m (.asg tg e) (.Assign [.Tuple a k b] x p):=λv X F _ h=>(BC (f v X F h) (c v X F h) (oT _ _) ((oU (by rw[h.sc];rfl) _ _).trans q) rfl).ref λi=>aa (.refl _) λd=>aa (.refl _) λ_=>.refl _
theorem CB{i:Nat}{e:Ex}{n:Li}{p b:MB}{x:K_}(c:eh m i n=KQ)(j:QU g m e x)(f:oS m n b x=KQ):QS g m (.set i e) (.Assign [.Name n b] x p):=λv X F _ h=>by
 obtain⟨o,l,k⟩:=h.loc c;have a:=swap_eq (m:=m) h.sc n b p.line x;rw[f]at a;exact(yu i h.tK (j v X F h) o l a k).ref λq=>aa (.refl _) λd=>.refl _
theorem FW{i:Nat}{e:Ex}{n:Li}{p b:MB}{x:K_}(c:eh m i n=KQ)(j:QE g m e x)(f:oS m n b x=KR):QS g m (.set i e) (.Assign [.Name n b] x p):=λv X F _ h=>by
 obtain⟨o,l,k⟩:=h.loc c;have a:=swap_eq (m:=m) h.sc n b p.line x;rw[f]at a;exact(BD i h.tK (j v X F h) o l a k).ref λq=>aa (.refl _) λd=>.refl _
theorem FX{e:Ex}{x:K_}{p:MB}(a:QE g m e x):QS g m (.ret e) (.Return (KJ x) p):=λv X F _ h=>(BF (a v X F h)).ref λb=>aa (.refl _) λd=>.refl _
theorem FY{c:Ex}{a b:aZ}{x:K_}{xs ys:List MU}{p:MB}(e:QT g m c x)(ha:xq g m a xs)(hb:xq g m b ys):QS g m (.iff c a b) (.If x xs ys p):=λv X F d h=>(EG (e v X F h) (ha v X F d h) (hb v X F d h)).ref λf=>aa (.refl _) λz=>by cases z<;>exact .refl _
theorem FZ{tg:Tg}{it:Ex}{b:aZ}{t i:K_}{xs:List MU}{p:MB}(d:bt i=KR)(e:QI g m it t i)(f:QG g m tg t)(hb:xq g m b xs):QS g m (.e9 tg it b) (.For t i xs [] p):=λv X F a h=>(BG a h.calm (e v X F h) (f v X F h) (hb v X F a h) (iB d _)).ref λc=>aa (.refl _) λj=>mR j c
theorem F0{c:Ex}{b:aZ}{x:K_}{xs:List MU}{p:MB}(e:QT g m c x)(hb:xq g m b xs):QS g m (.ID c b) (.While x xs [] p):=λv X F a h=>(uY a (e v X F h) (hb v X F a h)).ref λd k Q E z=>⟨iq,iC iq d k Q E z⟩
theorem F1{i j:Nat}{r:Ex}{x y:Li}{a b:K_}{l k pt c p:MB}{n o:Nat}(w:isAt m.N i x=KQ)(u:isAt m.N j y=KQ)(t:pE x m.sc.names=KJ .local)(s:pE y m.sc.names=KJ .local)(f:i≠j)(z:QA g m r [a,b])(q:MZ [.Tuple [.Name x l,.Name y k] n pt] (.Tuple [a,b] o c) (sN m.sc)=pure (KJ [x,y])):QS g m (.par i j r) (.Assign [.Tuple [.Name x l,.Name y k] n pt] (.Tuple [a,b] o c) p):=λv X F _ h=>(BE i j h.calm h.tK (z v X F h) f (λpa=>AB h.calm h.tK (h.at_ w) (h.at_ u) f (by rw[<-h.lk];exact t) (by rw[<-h.lk];exact s) pa ((oU (by rw[h.sc];rfl) _ _).trans q) (oT _ _))).ref λC=>aa (.refl _) λB=>aa (.of_eq (cX B)) λA=>by match A with
  |[]=>exact .fail|[_]=>exact .fail|[d,e]=>exact .refl _|_::_::_::_=>exact .fail
theorem F2{st:MU}:QS g m .bad st:=λv X F _ h=>(DS.stuck h.hK).ref λa=>.fail
theorem CC{i:Nat}{r:Ex}{n:Li}{a:List K_}{p b c:MB}(q:eh m i n=KQ)(d:QA g m r a):QS g m (.ql i r) (.Assign [.Name n b] (.List a c) p):=λv X F _ h=>by
 obtain⟨j,f,e⟩:=h.loc q;exact(yw i h.tK (d v X F h) j f e).ref λl=>aj (λz=>z)<|aa (.refl _) λk=>aa (.of_eq (cX k)) λo=>aj of_decide_eq_true (.refl _)
theorem CD{i:Nat}{n:Li}{p a b:MB}(q:eh m i n=KQ):QS g m (.hU i) (.Assign [.Name n a] (.Dict [] [] b) p):=λv X F _ h=>by
 obtain⟨e,d,c⟩:=h.loc q;exact(yx i h.tK h.hK e d c).ref λf=>aj (λz=>z) (.refl _)
theorem F3{i:Nat}{e:Ex}{x f:Li}{a:K_}{np c b p:MB}(n:sEq f "append"=KQ)(l:b_ m i x=KQ)(k:(c.endLine==b.line)=KQ)(j:ay a=KR)(o:QE g m e a):QS g m (.app i e) (.Expr (.Call (.Attribute (.Name x np) f c) [a] [] b) p):=λv X F _ h=>by
 obtain rfl:=aU n;obtain⟨t,s,r,q⟩:=h.t7 l;exact(BU i t s r q (o v X F h) k (aM j)).ref λu=>aF λd=>aa (dS d) λw=>aa (.refl _) λy=>aj of_decide_eq_true (.refl _)
theorem F4{i:Nat}{k e:Ex}{x:Li}{b a:K_}{np sp p:MB}(c:b_ m i x=KQ)(f:QE g m k b)(j:QE g m e a):QS g m (.put i k e) (.Assign [.Subscript (.Name x np) b sp] a p):=λv X F _ h=>by
 obtain⟨r,q,n,l⟩:=h.t7 c;have hu:X.A.units+2<L9:=by have:=h.un;omega
 exact(BV i hu h.hP h.hw r q n l (f v X F h) (j v X F h) (by unfold N0;cases a<;>rfl)).ref λs=>aa (.refl _) λd=>aF λo=>aa (tL o) λu=>aa (.refl _) λt=>aj (λz=>by
  rw[K0]at z;exact⟨of_decide_eq_true z.1,bK z.2⟩) (.refl _)
theorem F5{i:Nat}{e:Ex}{x f:Li}{a:K_}{np c b p:MB}(n:sEq f "extend"=KQ)(l:b_ m i x=KQ)(k:(c.endLine==b.line)=KQ)(j:ay a=KR)(o:QE g m e a):QS g m (.ext i e) (.Expr (.Call (.Attribute (.Name x np) f c) [a] [] b) p):=λv X F _ h=>by
 obtain rfl:=aU n;obtain⟨t,s,r,q⟩:=h.t7 l;exact(BW i t s r q (o v X F h) k (aM j)).ref λw=>aF λd=>aa (dS d) λz=>aa (.refl _) λu=>aa (dS u) λy=>aj of_decide_eq_true (.refl _)
theorem CF{i:Nat}{r:Ex}{n f b:Li}{a:K_}{p x w u t s:MB}(o:sEq f "list"=KQ)(l:sEq b "range"=KQ)(k:bX m f=KQ)(e:bX m b=KQ)(c:ay a=KR)(q:eh m i n=KQ)(y:QA g m r [a]):QS g m (.vZ i r) (.Assign [.Name n x] (.Call (.Name f w) [.Call (.Name b u) [a] [] t] [] s) p):=λv X F _ h=>by
 obtain rfl:=aU o;obtain rfl:=aU l;obtain⟨C,B,A⟩:=h.loc q;refine(yS i h.calm h.tK (y v X F h) (h.gl k).1 (h.bl _ (y8 rfl)) (h.gl e).1 (h.bl _ (y8 rfl)) (aM c) C B A).ref λG=>aj (λz=>z) (aa (.refl _) λE=>aa (.of_eq (cX E)) λD=>?_);match D with
 |[]=>exact .fail|[d]=>exact aa (bf d) λj=>aj (λz=>by simp only[K0,decide_eq_true_eq]at z;exact z) (.refl _)|_::_::_=>exact .fail
theorem wx{ρ:ah}{i:Nat}(h:v_ i ρ=KQ)(j:Nat)(w:W)(e:ρ[j]?=KJ (KJ w))(o:w.eR=KQ):j=i:=by
 by_cases a:i=j;.exact a.symm
 .have:=List.all_eq_true.mp h (KJ w) (LV (i:=j) (by rw[M1 a];exact e));simp only[o]at this;cases this
theorem CG{i:Nat}{n:Li}{p a b:MB}(q:eh m i n=KQ):QS g m (.v7 i) (.Assign [.Name n a] (.Dict [] [] b) p):=λv X F _ h=>by
 obtain⟨e,d,c⟩:=h.loc q;exact(yN i h.tK h.hK e d c).ref λf=>aj (λz j w=>wx z j w) (.refl _)
theorem CH{i:Nat}{k:Ex}{x:Li}{a:K_}{np sp b p:MB}(q:b_ m i x=KQ)(c:QE g m k a):QS g m (.putN i k) (.Assign [.Subscript (.Name x np) a sp] (.List [] b) p):=λv X F _ h=>by
 obtain⟨j,f,e,d⟩:=h.t7 q;have hu:=h.un;exact(yO i (by omega) h.hP h.hw j f e d (c v X F h)).ref λl=>aF λn=>aa (.refl _) λq=>aj (λz=>by
  simp only[K0,decide_eq_true_eq,M4]at z;exact⟨z.1,bK z.2.1,z.2.2⟩) (.refl _)
theorem CI{i:Nat}{k e:Ex}{x f:Li}{b a:K_}{np sp j c p:MB}(s:sEq f "append"=KQ)(r:b_ m i x=KQ)(o:(j.endLine==c.line)=KQ)(n:ay a=KR)(l:gO b=KR)(t:QE g m k b)(u:QE g m e a):QS g m (.jd i k e) (.Expr (.Call (.Attribute (.Subscript (.Name x np) b sp) f j) [a] [] c) p):=λv X F _ h=>by
 obtain rfl:=aU s;obtain⟨A,z,y,w⟩:=h.t7 r;have hu:=h.un;exact(yP i (by omega) h.hP h.hw A z y w (t v X F h) (kq l) (u v X F h) o (aM n) (fA rfl)).ref λB=>aF λD=>aa (.refl _) λq=>aj bK (aF λd=>aa (dS d) λC=>aa (.refl _) λE=>aj of_decide_eq_true (.refl _))
theorem CJ{i:Nat}{x:Li}{np p:MB}(q:b_ m i x=KQ):QS g m (.v8 i) (.Return (KJ (.Name x np)) p):=λv X F _ h=>by
 obtain⟨d,c,b,a⟩:=h.t7 q;exact(yT i h.hK d c b a).ref λe=>aF λf=>.refl _
theorem CK{i l:Nat}{b:List Nat}{k x f:Li}{it e:Ex}{iter q:K_}{sc:MT}{np w u kp p I:MB}(n:oR m [k] b sc=KQ)(G:bt iter=KR)(E:sEq f "pop"=KQ)(D:eh (fb m [k] (cc m b) sc) 0 k=KQ)(o:b_ (fb m [k] (cc m b) sc) (1+l) x=KQ)(B:(w.endLine==u.line)=KQ)(A:ay q=KR)(z:b[l]?=KJ i)(O:QI g m it (.Name k kp) iter)(P:QE g (fb m [k] (cc m b) sc) e q):QS g m (.v9 i l b k it e) (.Return (KJ (.ListComp (.Call (.Attribute (.Name x np) f w) [q] [] u) [⟨.Name k kp,iter,[],0⟩] sc I)) p):=λv X F _ h=>by
 obtain rfl:=aU E;obtain⟨b1,T,S,R⟩:=wj h n;have t:∀a j C c s H,(eQ X a sc ([k]++cc m b) j C c s H).N[1+l]?=KJ x/\ni (eQ X a sc ([k]++cc m b) j C c s H).env.scope x/\(x==("__debug__":Li))=KR/\(x==("__classdict__":Li))=KR:=λa j C c s H=>(h.eQ n a j C c s H).t7 o;have pn:=ir (x:=x) (by simp only[b_,K0]at o;exact o.1.2);refine(yU i l (cc m b) b h.calm b1 T S R z (O v X F h) (λa j C c s H=>?_) (λa j C c s H=>⟨(t a j C c s H).1,(t a j C c s H).2.1⟩) pn.1 pn.2.1 (λa j C c s H=>P _ _ _ (h.eQ n a j C c s H)) B (λenv=>aM A) (iB G _)).ref λy=>aF λd=>aa (dS d) λJ=>aa (.refl _) λQ=>aa (rZ y i b Q J) λr=>.refl _;have hb:=h.eQ n a j C c s H;obtain⟨M,L,K⟩:=hb.loc D;exact mh (i:=0) (by rw[hb.hN];exact hb.nd) M L K
theorem IU{i:Nat}{s:aZ}{st:MU}(a:QS g m s st):QS g m (.fz i s) st:=λv X F b h=>((a v X F b h).fz i).ref λc=>.refl _
theorem Ks:xq g m .nil []:=λv X F _ h=>(x_ h.hK).ref λa=>.refl _
theorem Ku{s r:aZ}{x:MU}{xs:List MU}(b:QS g m s x)(c:xq g m r xs):xq g m (.cons s r) (x::xs):=λv X F a h=>(uX (b v X F a h) (c v X F a h)).ref λe=>aa (.refl _) λd=>by cases d<;>exact .refl _
end
noncomputable def cU(g:dE)(m:MC):(ex:Ex)->(e:K_)->Ch (QU g m ex e)
 |.lc own d l i c a,e=>match e with
  |.ListComp x r sc p=>JT (cI g m i) (cC g (fb m own (cc m d) sc) c) (cE g (fb m own (cc m d) sc) a x)|_=>.n
 |.bad,_=>.y λv X F h=>⟨h.hK,λb s j H I=>⟨λQ⟨f,k,S,z⟩=>z.elim,λx q o gt D _ _⟨f,k,S,z⟩=>z.elim⟩⟩|_,_=>.n
noncomputable def IV(g:dE)(m:MC)(i:Nat)(e:Ex)(n:Li)(c p:MB)(x:K_):Ch (QS g m (.set i e) (.Assign [.Name n c] x p)):=(cb (eh m i n)).b λq=>match h:oS m n c x with
  |true=>(cU g m e x).b λa=>.y (CB q a h)|false=>(cE g m e x).b λa=>.y (FW q a h)
mutual
noncomputable def cS(g:dE)(m:MC):(s:aZ)->(st:MU)->Ch (QS g m s st)
 |.asg H e,st=>match st with
  |.Assign [.Tuple K k G] x _=>(cG g m H (.Tuple K k G)).b λh=>(cE g m e x).b λu=>(cN (MZ [.Tuple K k G] x (sN m.sc))).b λq=>.y (FV h u q)|_=>.n
 |.set i e,st=>match st with
  |.Assign [.Name n G] x p=>IV g m i e n G p x|_=>.n
 |.ret e,st=>match st with
  |.Return (KJ x) _=>(cE g m e x).b λh=>.y (FX h)|_=>.n
 |.iff c a b,st=>match st with
  |.If x C P _=>(cT g m c x).b λh=>(CL g m a C).b λF=>(CL g m b P).b λu=>.y (FY h F u)|_=>.n
 |.e9 H J b,st=>match st with
  |.For t i C [] _=>(cn (bt i)).b λq=>(cI g m J t i).b λh=>(cG g m H t).b λF=>(CL g m b C).b λu=>.y (FZ q h F u)|_=>.n
 |.ID c b,st=>match st with
  |.While x C [] _=>(cT g m c x).b λh=>(CL g m b C).b λF=>.y (F0 h F)|_=>.n
 |.par i j r,st=>match st with
  |.Assign [.Tuple [.Name x W,.Name y V] X pt] (.Tuple [a,b] Y I) _=>(cb (isAt m.N i x)).b λD=>(cb (isAt m.N j y)).b λo=>(JU x .local m.sc.names).b λl=>(JU y .local m.sc.names).b λd=>(cd (i≠j)).b λv=>(cA g m r [a,b]).b λh=>(Kr x y (MZ [.Tuple [.Name x W,.Name y V] X pt] (.Tuple [a,b] Y I) (sN m.sc))).b λq=>.y (F1 D o l d v h q)|_=>.n
 |.bad,_=>.y F2|.ql i r,st=>match st with
  |.Assign [.Name n _] (.List Z _) _=>(cb (eh m i n)).b λq=>(cA g m r Z).b λh=>.y (CC q h)|_=>.n
 |.hU i,st=>match st with
  |.Assign [.Name n _] (.Dict [] [] _) _=>(cb (eh m i n)).b λq=>.y (CD q)|_=>.n
 |.app i e,st=>match st with
  |.Expr (.Call (.Attribute (.Name x _) f A) [a] [] z) _=>(cb (sEq f "append")).b λq=>(cb (b_ m i x)).b λo=>(cb (A.endLine==z.line)).b λl=>(cn (ay a)).b λd=>(cE g m e a).b λh=>.y (F3 q o l d h)|_=>.n
 |.put i k e,st=>match st with
  |.Assign [.Subscript (.Name x _) B _] Q _=>(cb (b_ m i x)).b λq=>(cE g m k B).b λh=>(cE g m e Q).b λu=>.y (F4 q h u)|_=>.n
 |.fz _ s,st=>(cS g m s st).b λh=>.y (IU h)|.ext i e,st=>match st with
  |.Expr (.Call (.Attribute (.Name x _) f A) [a] [] z) _=>(cb (sEq f "extend")).b λq=>(cb (b_ m i x)).b λo=>(cb (A.endLine==z.line)).b λl=>(cn (ay a)).b λd=>(cE g m e a).b λh=>.y (F5 q o l d h)|_=>.n
 |.vZ i r,st=>match st with
  |.Assign [.Name n _] (.Call (.Name f _) [.Call (.Name M _) [a] [] _] [] _) _=>(cb (sEq f "list")).b λD=>(cb (sEq M "range")).b λo=>(cb (bX m f)).b λl=>(cb (bX m M)).b λd=>(cn (ay a)).b λv=>(cb (eh m i n)).b λq=>(cA g m r [a]).b λh=>.y (CF D o l d v q h)|_=>.n
 |.v7 i,st=>match st with
  |.Assign [.Name n _] (.Dict [] [] _) _=>(cb (eh m i n)).b λq=>.y (CG q)|_=>.n
 |.putN i k,st=>match st with
  |.Assign [.Subscript (.Name x _) B _] (.List [] _) _=>(cb (b_ m i x)).b λq=>(cE g m k B).b λh=>.y (CH q h)|_=>.n
 |.jd i k e,st=>match st with
  |.Expr (.Call (.Attribute (.Subscript (.Name x _) B _) f A) [a] [] z) _=>(cb (sEq f "append")).b λq=>(cb (b_ m i x)).b λo=>(cb (A.endLine==z.line)).b λl=>(cn (ay a)).b λd=>(cn (gO B)).b λv=>(cE g m k B).b λh=>(cE g m e a).b λu=>.y (CI q o l d v h u)|_=>.n
 |.v8 i,st=>match st with
  |.Return (KJ (.Name x _)) _=>(cb (b_ m i x)).b λq=>.y (CJ q)|_=>.n
 |.v9 i L E k J e,st=>match st with
  |.Return (KJ (.ListComp (.Call (.Attribute (.Name x _) f A) [O] [] z) [⟨.Name w kp,iter,[],0⟩] sc _)) _=>(cb (sEq w k)).b λU=>(cb (oR m [w] E sc)).b λD=>(cn (bt iter)).b λo=>(cb (sEq f "pop")).b λl=>(cb (eh (fb m [w] (cc m E) sc) 0 w)).b λd=>(cb (b_ (fb m [w] (cc m E) sc) (1+L) x)).b λv=>(cb (A.endLine==z.line)).b λT=>(cn (ay O)).b λS=>(cd (E[L]?=KJ i)).b λR=>(cI g m J (.Name w kp) iter).b λh=>(cE g (fb m [w] (cc m E) sc) e O).b λu=>.y (by rw[<-aU U];exact CK D o l d v T S R h u)|_=>.n
 |_,_=>.n
noncomputable def CL(g:dE)(m:MC):(s:aZ)->(a:List MU)->Ch (xq g m s a)
 |.nil,c=>match c with
  |[]=>.y Ks|_=>.n
 |.cons s r,c=>match c with
  |x::d=>(cS g m s x).b λh=>(CL g m r d).b λe=>.y (Ku h e)|[]=>.n
 |_,_=>.n
end
structure CM(P:Le)(K:K2)(mg:Li->Option KO)(g:dE)(x:Li)(d:Df):Prop where ex:∃(y qual:Li)(st:MU)(f:KY)(fd:Mo)(N ps:List Li),uE K y qual st f fd/\cg N ps (ak st)/\Binds K fd ps []/\mg x=KJ (.ref f)/\ps.length=d.np/\N.length=d.nn/\xq g ⟨N,ak st,KQ,[]⟩ d.body (bR st)
structure DN(P:Le)(w:Ly)(K:K2)(mg:Li->Option KO)(base:Lx)(x:Li)(np:Nat)(t:List A->T Rs):Prop where
 ok:mw P w K mg base x np 1 (λas=>(t as).aO)len:∀as,as.length≠np->t as=.stuck
inductive Dk where|df(d:Df)|wit(t:List A->T Rs)
structure Gv where iT:Nat->Option D
noncomputable def Gv.ev(b:Gv)(call:Nat->List A->T Rs):Ev:=⟨call,b.iT⟩
noncomputable def aH(defs:List Dk)(b:Gv):Nat->Nat->List A->T Rs
 |0,_,_=>.stuck|n+1,f,a=>match defs[f]? with
  |none=>.stuck|some (.wit t)=>t a|some (.df d)=>if a.length=d.np then do DL (<-au (b.ev (aH defs b n)) d.body (bW d.nn a))else .stuck
noncomputable def aW(defs:List Dk)(b:Gv)(n f:Nat)(as:List A):T D:=aH defs b n f as>>=toD
noncomputable def r6(defs:List Dk)(b:Gv)(n f:Nat)(as:List A):T D:=aH defs b n f as>>=Fg
structure iU(P:Le)(w:Ly)(K:K2)(mg:Li->Option KO)(base:Lx)(g:dE)(defs:List Dk)(b:Gv):Prop where
 bl:∀x∈cV,mg x=KP
 df:∀(f:Nat)(x:Li),g.dn[f]?=KJ x->(∃d,defs[f]?=KJ (Dk.df d)/\CM P K mg g x d)\/(∃t np,defs[f]?=KJ (Dk.wit t)/\DN P w K mg base x np t)co:∀(i:Nat)(x:Li)(d:D),g.gn[i]?=KJ x->b.iT i=KJ d->∃u v,mg x=KJ u/\RelV v u/\∀(p:KY)(H:Hp),H p≠KP->K.lookup p=KP->Is ⟨K,p,P,w⟩ H v d
section
variable{P:Le}{w:Ly}{K:K2}{mg:Li->Option KO}{base:Lx}{g:dE}{defs:List Dk}{b:Gv}
theorem mark_none{A:LC}(h:A.handled=KP):A.mark KP=A:=by
 cases A;simp only[Around.mark]at*;simp_all
theorem iU.all(h:iU P w K mg base g defs b):∀(n f:Nat)(x:Li),g.dn[f]?=KJ x->∃np,mw P w K mg base x np n (λas=>(aH defs b n f as).aO)/\∀as,as.length≠np->aH defs b n f as=.stuck
 |0,f,x,C=>by
  rcases h.df f x C with⟨d,hd,⟨y,a,st,l,fd,N,ps,F,S,B,G,D,Z,Y⟩⟩|⟨t,np,hd,W⟩
  .refine⟨ps.length,⟨ps,rfl,l,fd,⟨λL H Q E z=>?_,λA outer s H J q L Q E c e0 hb r z=>?_⟩,G,F.kp,B⟩,λ_ _=>rfl⟩;.obtain⟨p,k,as,H0,q,bs,_,_,_,_,_,z⟩:=z;exact z.elim
   .obtain⟨p,k,as,H0,q,bs,_,_,_,_,_,z⟩:=z;exact z.elim
  .obtain⟨ps,j,l,fd,FN,G,hk,hb⟩:=W.ok;refine⟨ps.length,⟨ps,rfl,l,fd,⟨λL H Q E z=>?_,λA outer s H J q L Q E c e0 hb r z=>?_⟩,G,hk,hb⟩,λ_ _=>rfl⟩;.obtain⟨p,k,as,H0,q,bs,_,_,_,_,_,z⟩:=z;exact z.elim
   .obtain⟨p,k,as,H0,q,bs,_,_,_,_,_,z⟩:=z;exact z.elim|n+1,f,x,C=>by
  rcases h.df f x C with⟨d,hd,⟨y,a,st,l,fd,N,ps,F,S,B,G,D,Z,Y⟩⟩|⟨t,np,hd,W⟩
  .have I:∀as,aH defs b (n+1) f as=if as.length=d.np then do DL (<-au (b.ev (aH defs b n)) d.body (bW d.nn as))else .stuck:=λas=>by
    show(match defs[f]? with
     |none=>T.stuck|some (.wit t)=>t as|some (.df d)=>if as.length=d.np then do DL (<-au (b.ev (aH defs b n)) d.body (bW d.nn as))else .stuck)=_;rw[hd]
   refine⟨d.np,⟨ps,D,l,fd,?_,G,F.kp,B⟩,λas j=>by rw[I,if_neg j]⟩;refine F.Kj (k:=n) S D λV A' outer s H H0 p k0 c=>?_;have xc:XC g (b.ev (aH defs b n)) ⟨N,ak st,KQ,[]⟩ (kP pA P w K mg base N a (ak st) l V A' outer s H E0).Dy ⟨⟨K,p,P,w⟩,H0,k0,λ_ _=>False,H0,k0⟩:=⟨rfl,rfl,rfl,rfl,S.nd,rfl,rfl,c.units,λ_ _=>rfl,(λ_ z=>nomatch z),mark_none c.hd,h.bl,λf' x' O=>by
     obtain⟨np,U,R⟩:=iU.all h n f' x' O;exact⟨np,n,c,U,R⟩,c.gd,λi x d C hd=>let⟨u,v,U,R,h3⟩:=h.co i x d C hd;⟨u,v,U,R,λH hH D=>h3 p H hH D⟩⟩;refine⟨_,Y _ _ _ PassesOwn.never xc,λas Q j z=>?_⟩;rw[I,if_pos j,T.cz]at z;have e:d9 N as=bW d.nn as:=by unfold d9 bW;rw[Z]
   rw[e];refine M.wk (m:=(au (b.ev (aH defs b n)) d.body (bW d.nn as)).aO) z λfl k' o=>?_;cases fl with
   |rt d=>exact o|ro d=>exact o|nx X=>exact o|bk X=>exact o|ct X=>exact o
  .have I:∀as,aH defs b (n+1) f as=t as:=λas=>by
    show(match defs[f]? with
     |none=>T.stuck|some (.wit t)=>t as|some (.df d)=>if as.length=d.np then do DL (<-au (b.ev (aH defs b n)) d.body (bW d.nn as))else .stuck)=_;rw[hd]
   refine⟨np,?_,λas j=>by rw[I];exact W.len as j⟩;have:(λas=>(aH defs b (n+1) f as).aO)=λas=>(t as).aO:=by funext as;rw[I]
   rw[this];exact W.ok.mono (by omega)
end
end L2
end
section
namespace K40d
open PySem L2
noncomputable def CN(i:Nat):MU:=PySem.Challenge.pw_wallplan_k40_openings_made.main.body.getD i (.Pass ⟨0,0,0,0⟩)
noncomputable abbrev oV:MU:=CN 16
noncomputable abbrev wy:MU:=CN 15
noncomputable abbrev oW:MU:=CN 29
noncomputable def DP(p:KY)(H H':Hp):Prop:=∀b,b≠p->H' b=H b
theorem DP.upd{p:KY}{H:Hp}{o:HO}:DP p H (upd H p o):=λ_ h=>af h
noncomputable def CO:Sp:=λb H Q _=>∃(p q:KY)(n:Int)(k:Nat),b=[.ref p,.int n]/\jE H p q k/\k<1000000/\0<n/\n<1073741824/\∀(z:Int)(a:Hp),0<=z->z<n->jE a p q (k+1)->DP p H a->Q (.int z) a
section
variable{P:Le}{w:Ly}{K:K2}{mg:Li->Option KO}{base:Lx}
theorem CP:cg ["_law_script"] ["_law_script"] (ak wy):=⟨rfl,rfl,rfl,by decide+kernel,rfl,by decide+kernel,by decide+kernel⟩
theorem fY:cg ["_law_feed_here","_law_many","_law_got","_law_at","_law_cell","_law_number"] ["_law_feed_here","_law_many"] (ak oV):=⟨rfl,rfl,rfl,by decide+kernel,rfl,by decide+kernel,by decide+kernel⟩
theorem GY{a b c:V}:fy [a,b,c] 0=KJ a:=dk (j:=0) rfl
theorem Kv{a b c:V}:fy [a,b,c] 1=KJ b:=dk (j:=1) rfl
theorem at2{a b c:V}:fy [a,b,c] 2=KJ c:=dk (j:=2) rfl
theorem bS.CQ{H:Hp}{p q:KY}{ns:List Int}{i r:Int}(F:bS H p q ns i r){i' a:Int}(d:0<=i')(b:0<=a):bS (upd H p (.lst [.ref q,.int i',.int a])) p q ns i' a:=let⟨o,c⟩:=F.cs;⟨ai,⟨o,by rw[af F.ne];exact c⟩,F.ne,d,b,F.ln⟩
theorem bS.sq{K:K2}{H:Hp}{p q:KY}{ns:List Int}{i r:Int}(F:bS H p q ns i r):dF K H q (ns.map V.int):=.inl (.inr F.cs)
theorem za{ns:List Int}{i:Int}(a:(0:Int)<((ns.map V.int).length:Int)):∃c,fy (ns.map V.int) (i%((ns.map V.int).length:Int))=KJ (.int c):=by
 have f:=OC i a;have d:=Pd i (show((ns.map V.int).length:Int)≠0 by omega);have e:((i%((ns.map V.int).length:Int)).toNat:Int)=i%((ns.map V.int).length:Int):=by omega
 have b:(ns.map V.int).length=ns.length:=Lv ..;have hlt:(i%((ns.map V.int).length:Int)).toNat<ns.length:=by omega
 rw[<-e];refine⟨ns[(i%((ns.map V.int).length:Int)).toNat]'hlt,dk ?_⟩;rw[Lw,Lp hlt];rfl
theorem zb{f:KY}{fd:Mo}(F:uE K "_law_draw" "_law_draw" oV f fd)(e:mg "len"=KP):dI P w K mg base pA 1 f fd ["_law_feed_here","_law_many"] CO:=by
 refine F.ok fY (λC H Q E h=>?_) (λM A outer s H C Q E D h=>?_)
 .obtain⟨p,q,n,k,rfl,_⟩:=h;rfl
 .obtain⟨p,q,n,k,rfl,⟨ns,i,r,G,I⟩,N,d,m,u⟩:=h;have hu:=Eo D;refine⟨_,a_ (qU (fw uj (eP cq (pv 0) aB (λ_ _=>rfl)) aB (gZ _)) (a_ (cD (i:=2) fY.nd rfl (OO rfl) (bg dw (eP cq (pv 0) aB (λ_ _=>rfl)) (pv 1))) (a_ (mi (bg mj (eP cq (pv 0) aB (λ_ _=>rfl)) (pv 1)) (pF (pv 0) aB set_list)) (gq (fQ (pv 2))))) jg) (a_ (cD (i:=3) fY.nd rfl (OO rfl) (eP cq (pv 0) aB (λ_ _=>rfl))) (a_ (mi (bg jt (pv 3) aB) (pF (pv 0) aB set_list)) (a_ (cD (i:=4) fY.nd rfl (OO rfl) (pv 3)) (a_ (qU (fw uj (eO d5 (by rfl) e Rn (aQ (eP cq (pv 0) aB (λ_ _=>rfl)) bQ)) aB (gZ _)) (gq (cD (i:=4) fY.nd rfl (OO rfl) (eP cq (eP cq (pv 0) aB (λ_ _=>rfl)) (bg dw (pv 3) (eO d5 (by rfl) e Rn (aQ (eP cq (pv 0) aB (λ_ _=>rfl)) bQ))) (λ_ _=>rfl)))) jg) (a_ (qU (ub (fw Ef (pv 4) (bg ui aB aB) (gZ _)) (qS (fw zH (pv 3) (eO d5 (by rfl) e Rn (aQ (eP cq (pv 0) aB (λ_ _=>rfl)) bQ)) (gZ _)))).pt (a_ (mi (bg mj (pv 4) (pv 1)) (pF (pv 0) aB set_list)) (gq (fQ (bg dw (pv 4) (pv 1))))) jg) (a_ (cD (i:=5) fY.nd rfl (OO rfl) (bg dw (bg fR (bg jt (bg jt (bg dw (pv 4) aB) (bg fR (bg fR aB (pv 3)) (pv 3))) aB) aB) aB)) (a_ (cD (i:=5) fY.nd rfl (OO rfl) (bg dw (bg jt (bg fR (pv 5) (pv 5)) (bg fR aB (pv 3))) aB)) (gq (fQ (bg dw (bg mj (bg dw (bg fR (pv 5) (bg jt (bg dw (pv 5) aB) aB)) aB) aB) (pv 1))))))))))),?_⟩;refine⟨_,rfl,p,_,_,_,rfl,rfl,dF.of G.ob,at2,_,_,rfl,rfl,_,rfl,?_⟩;refine xK (λL=>?_) (λL=>?_)
  .refine⟨_,rfl,p,_,_,_,rfl,rfl,dF.of G.ob,at2,_,rfl,_,_,rfl,rfl,d,?_⟩;refine⟨_,rfl,p,_,_,_,rfl,rfl,dF.of G.ob,at2,_,rfl,_,_,rfl,rfl,⟨d,m⟩,_,rfl,p,_,_,2,rfl,rfl,G.ob,rfl,?_⟩;refine⟨_,rfl,?_⟩;exact u _ _ (Pd _ (by omega)) (OC _ d) ⟨ns,i,_,bS.CQ G G.i0 (Int.ediv_nonneg G.r0 (by omega)),by omega⟩ DP.upd
  .have i0:=G.i0;refine⟨_,rfl,p,_,_,_,rfl,rfl,dF.of G.ob,Kv,?_⟩;refine⟨_,rfl,_,_,rfl,rfl,_,rfl,p,_,_,1,rfl,rfl,G.ob,rfl,?_⟩;have g:bS (upd H p (.lst [.ref q,.int (i+1),.int r])) p q ns (i+1) r:=bS.CQ G (by omega) G.r0;refine⟨_,rfl,?_⟩;refine⟨_,rfl,p,_,_,_,rfl,rfl,dF.of g.ob,GY,q,_,rfl,.inl ((bS.sq g)),_,_,rfl,rfl,_,rfl,?_⟩;refine xK (λB=>?a) (λB=>?b);case' a=>
    have l:(0:Int)<((ns.map V.int).length:Int):=of_decide_eq_true B;obtain⟨c,o⟩:=za (i:=i) l;refine⟨_,rfl,p,_,_,_,rfl,rfl,dF.of g.ob,GY,_,rfl,_,rfl,p,_,_,_,rfl,rfl,dF.of g.ob,GY,q,_,rfl,.inl ((bS.sq g)),_,_,rfl,rfl,l,q,_,_,_,rfl,rfl,(bS.sq g),o,?_⟩;clear o
   all_goals
    refine⟨_,rfl,_,_,rfl,rfl,⟨by decide,by decide,by decide⟩,_,_,rfl,rfl,_,rfl,?_⟩;refine(λj=>xK (λz=>?x) (λz=>HS j)) ?y;case x=>
     refine⟨_,rfl,_,rfl,p,_,_,_,rfl,rfl,dF.of g.ob,GY,q,_,rfl,.inl ((bS.sq g)),_,_,rfl,rfl,_,rfl,?_⟩;refine xK (λJ=>?_) (λJ=>j);refine⟨_,rfl,_,rfl,_,_,rfl,rfl,⟨d,m⟩,_,rfl,p,_,_,2,rfl,rfl,g.ob,rfl,?_⟩;refine⟨_,rfl,_,rfl,_,_,rfl,rfl,d,?_⟩;have v:=of_decide_eq_true z;have t:(0:Int)<=10^(Int.toNat 18):=by decide
     refine u _ _ (Pd _ (by omega)) (OC _ d) ⟨ns,i+1,_,(by rw[cf];exact bS.CQ G (by omega) (Int.ediv_nonneg (Int.le_trans t v) (by omega))),by omega⟩ (by rw[cf];exact DP.upd)
    case y=>
     refine⟨_,rfl,_,_,rfl,rfl,(by show(0:Int)<2147483647;decide),_,rfl,_,_,rfl,rfl,.inl ⟨by decide,by decide⟩,_,rfl,_,_,rfl,rfl,.inr ⟨by omega,by omega⟩,_,_,rfl,rfl,_,_,rfl,rfl,_,_,rfl,rfl,.inr ⟨by decide,by decide⟩,_,_,rfl,rfl,(by show(0:Int)<2147483647;decide),?_⟩;refine⟨_,rfl,_,rfl,_,_,rfl,rfl,.inl ⟨by omega,by omega⟩,_,rfl,_,_,rfl,rfl,.inl ⟨by decide,by decide⟩,_,_,rfl,rfl,_,_,rfl,rfl,(by show(0:Int)<2147483629;decide),?_⟩;refine⟨_,rfl,_,rfl,_,_,rfl,rfl,(by show(0:Int)<65521;decide),_,_,rfl,rfl,_,_,rfl,rfl,.inl ⟨by omega,by omega⟩,_,_,rfl,rfl,(by show(0:Int)<2147483587;decide),_,_,rfl,rfl,⟨by decide,by decide⟩,_,rfl,_,_,rfl,rfl,d,?_⟩;exact u _ _ (Pd _ (by omega)) (OC _ d) ⟨ns,i+1,r,g,by omega⟩ DP.upd
noncomputable def r8:List A->T Rs
 |[.feed,.d (.int n)]=>.draw n λi=>.ok (.d (.int i))|_=>.stuck
theorem iV{d c:Type}{R:d->c->Prop}{l:List d}{y:c}{ys:List c}(h:Paired R l (y::ys)):∃x xs,l=x::xs/\R x y/\Paired R xs ys:=by cases h with|cons a b=>exact⟨_,_,rfl,a,b⟩
theorem qo{b a:Type}{R:b->a->Prop}{l:List b}(h:Paired R l ([]:List a)):l=[]:=by cases h;rfl
theorem wz{f:KY}{fd:Mo}(F:uE K "_law_draw" "_law_draw" oV f fd)(j:mg "len"=KP)(M:mg "_law_draw"=KJ (.ref f))(Z:Binds K fd ["_law_feed_here","_law_many"] []):DN P w K mg base "_law_draw" 2 r8:=by
 refine⟨⟨["_law_feed_here","_law_many"],rfl,f,fd,(zb F j).imp λvs H Q E z=>?_,M,F.kp,Z⟩,λm c=>?_⟩
 .obtain⟨p,k,m,H0,us,bs,ev,hp,v,I,c,z⟩:=z;rcases I with⟨rfl,rfl,V⟩|⟨a,d,rfl,rfl,_⟩;rotate_left
  .exfalso;match m,z with
   |[],z=>exact absurd c (by simp)|[a1],z=>cases a1<;>exact z.elim|_::_::_,z=>exact absurd c (by simp)
  subst V;rw[LF]at ev c z;rw[<-ev]at v;clear ev;rcases m with _|⟨a1,_|⟨X,_|⟨a3,r⟩⟩⟩;.exact absurd c (by simp)
  .exact absurd c (by simp)
  rotate_left;.exact absurd c (by simp)
  cases a1 with
  |d y=>exact MM z|own y=>exact MM z|feed=>cases X with
  |feed=>exact MM z|own y=>exact MM z|d y=>cases y with
  |int n=>
   obtain⟨v1,D,rfl,L,s⟩:=iV v;obtain⟨v2,C,rfl,l,J⟩:=iV s;obtain rfl:=qo J;obtain⟨rfl,q,x⟩:=L;have l:Is ⟨K,p,P,w⟩ H0 _ (.int n):=l;simp only[Is]at l;subst l;obtain⟨⟨u,t⟩,hk,z⟩:=z;refine⟨p,q,n,k,rfl,x,by omega,u,t,λi Y O N B W=>?_⟩;refine z (k+1) (by omega) (by omega) i ⟨O,N⟩ (.int i) Y ⟨λb o hb e=>by rw[W b hb];exact e,λ_=>?_,by omega,λG T=>?_⟩ (by simp only[Is])
   .obtain⟨ns,i',r',g,_⟩:=B;exactλe=>by rw[g.ob]at e;cases e
   .have:G=q:=by
     obtain⟨_,_,_,S,_⟩:=T;obtain⟨_,_,_,R,_⟩:=x;have U:=S.ob;have h:=R.ob;rw[U]at h;injection h with h;injection h with h;injection h with h _;injection h
    rw[this];exact B|_=>exact MM z
 .match m with
  |[]=>rfl|[_]=>cases‹A›<;>rfl|[_,_]=>exact absurd rfl c|.d _::_::_::_=>rfl|.feed::.feed::_::_=>rfl|.feed::.own _::_::_=>rfl|.own _::_::_::_=>rfl|.feed::.d y::_::_=>cases y<;>rfl
end
end K40d
end
section
namespace L2
open PySem PySem.Spec PyProof.Rows
noncomputable def CS(fd:Mo):Option (List MU):=match fd.body,fd.closure,fd.defaults with
 |.stmts b,[],.none=>if Su fd.globals LU&&Su fd.builtins Ql then KJ b else KP|_,_,_=>KP
theorem wA{fd:Mo}{b:List MU}(h:CS fd=KJ b):fd=Qr fd.name fd.qualname fd.params b fd.scope .none fd.kwdefaults fd.doc fd.pyModule fd.annotations fd.code fd.closureTuple:=by
 obtain⟨a1,v,u,t,s,r,q,p,o,n,m,l,k,j,i⟩:=fd;unfold CS at h;split at h
 .rename_i e d c;dsimp only at e d c h;split at h
  .rename_i a;rw[K0]at a;cases h;subst e d c;have g:=Nt a.1;have f:=Nt a.2;subst g f;rfl
  .cases h
 .cases h
noncomputable def wB(fd:Mo)(b:List MU):MU:=.FunctionDef fd.name fd.params b [] KP [] fd.scope KP fd.name ⟨0,0,0,0⟩
theorem wC{K:K2}{f:KY}{d:KO}{c:Option KY}{fd:Mo}{a:Array (Option KO)}{b:List MU}(l:K.lookup f=KJ ⟨d,c,.func fd,a⟩)(h:CS fd=KJ b)(e:OL K fd.code fd.qualname=KQ):uE K fd.name fd.qualname (wB fd b) f fd:=by
 refine⟨⟨d,c,_,_,_,_,_,_,a,wA h,l,e⟩,?_⟩;unfold N9;dsimp only;rw[l]
noncomputable def wD:List Li->List Li->Bool
 |[],[]=>KQ|x::b,y::a=>sEq x y&&wD b a|_,_=>KR
theorem mS:∀{xs ys:List Li},wD xs ys=KQ->xs=ys
 |[],[],_=>rfl|[],_::_,h=>by cases h|_::_,[],h=>by cases h|x::xs,y::ys,h=>by
  simp only[wD,K0]at h;rw[aU h.1,mS h.2]
noncomputable def F6:ScopeKind->Bool
 |.function=>KQ|_=>KR
noncomputable def GZ(N ps:List Li)(sc:MT):Bool:=F6 sc.kind&&!sc.isCoroutine&&!sc.isGenerator&&DM N&&wD (N.take ps.length) ps&&(ps.all λx=>match pE x sc.names with|some .local=>KQ|some .cell=>KQ|_=>KR)&&sc.names.all λy=>match y.2 with|.free=>KR|_=>KQ
theorem wF{N ps:List Li}{sc:MT}(h:GZ N ps sc=KQ):cg N ps sc:=by
 simp only[GZ,K0,M4,Mh]at h;obtain⟨⟨⟨⟨⟨⟨a,k⟩,j⟩,i⟩,g⟩,f⟩,d⟩:=h;refine⟨?_,k,j,fI i,mS g,λx c=>?_,λy b z=>?_⟩;.cases e:sc.kind<;>rw[e]at a<;>first|rfl|cases a
 .have:=f x c;rw[kj]at this;split at this;.rename_i e;exact .inl e
  .rename_i e;exact .inr e
  .cases this
 .have:=d y b;rw[z]at this;cases this
noncomputable def oX(p:P7)(ps:List Li):Bool:=p.posonlyargs.isEmpty&&wD (p.args.map (·.arg)) ps&&p.vararg.isNone&&p.kwonlyargs.isEmpty&&p.kwarg.isNone&&DM ps
theorem ku:∀{ps:List Li}{us:List KO},ps.Nodup->us.length=ps.length->(ps.filterMap λn=>((ps.zip us).lookup n).map (n,·))=ps.zip us
 |[],[],_,_=>rfl|[],_::_,_,h=>by simp at h|_::_,[],_,h=>by simp at h|p::ps,u::us,nd,h=>by
  obtain⟨n1,n2⟩:=List.nodup_cons.mp nd;have d:=ku n2 (us:=us) (by simpa using h);rw[MI,M_];simp only[List.lookup_cons_self,Mt];congr 1;refine Eq.trans ?_ d;have a:∀(l:List Li),(∀n∈l,n≠p)->l.filterMap (λn=>(((p,u)::ps.zip us).lookup n).map (n,·))=l.filterMap λn=>((ps.zip us).lookup n).map (n,·):=by
   intro l;induction l with
   |nil=>intro _;rfl|cons n l b=>
    intro c;have e:((p,u)::ps.zip us).lookup n=(ps.zip us).lookup n:=by
     rw[LJ];have:(n==p)=KR:=by
      rw[beq_eq_false_iff_ne];exact c n K5
     rw[this]
    rw[M_,M_,e,b λm g=>c m (K4 _ g)]
  exact a ps λn f e=>n1 (e▸f)
theorem lookup_some:∀{ps:List Li}{us:List KO}{n:Li},us.length=ps.length->n∈ps->((ps.zip us).lookup n).isNone=KR
 |[],_,_,_,h=>nomatch h|_::_,[],_,h,_=>by simp at h|p::ps,u::us,n,h,a=>by
  rw[MI,LJ];cases e:n==p with
  |true=>rfl|false=>
   have:n∈ps:=by
    rcases List.mem_cons.mp a with rfl|h;.simp at e
    .exact h
   exact lookup_some (by simpa using h) this
theorem bind_eq{fd:Mo}{b:List MU}{ps:List Li}(h:CS fd=KJ b)(k:oX fd.params ps=KQ)(us:List KO)(j:us.length=ps.length):R0 fd ⟨us,[]⟩=pure (ps.zip us):=by
 simp only[oX,K0]at k;obtain⟨⟨⟨⟨⟨i,g⟩,f⟩,d⟩,c⟩,q⟩:=k;have e:=wA h;have hd:fd.defaults=.none:=by rw[e]
 obtain⟨⟨x,w,v,u,t,s,r⟩,a⟩:∃p:P7,fd.params=p:=⟨_,rfl⟩;rw[a]at i g f d c;dsimp only at i g f d c;have i:=List.isEmpty_iff.mp i;have f:=Option.isNone_iff_eq_none.mp f;have d:=List.isEmpty_iff.mp d;have c:=Option.isNone_iff_eq_none.mp c;have g:=mS g;subst i f d c;have nd:=fI q;unfold R0;rw[a,hd];dsimp only;rw[g];simp only[Nh,List.nil_append,LF];have l:seqItems? MH=pure KP:=rfl;have o:((ps.take ps.length).filter λn=>((ps.zip us).lookup n).isNone)=[]:=by
  rw[List.take_length];refine List.filter_eq_nil_iff.mpr λn m=>?_;rw[lookup_some j m];exact Ld
 rw[NN,pure_bind,l,pure_bind];dsimp only;simp only[P_,Md,Nat.zero_sub,Nat.sub_zero,List.drop_nil,o];rw[if_neg (by rw[j];simp)];simp only[List.isEmpty_nil,LW,Lc,if_false,RL,NN,pure_bind];rw[ku nd j]
theorem wG{K:K2}{fd:Mo}{b:List MU}{ps:List Li}(h:CS fd=KJ b)(a:oX fd.params ps=KQ):Binds K fd ps []:=.all (bind_eq h a)
noncomputable def IW(K:K2)(g:dE)(x:Li)(N ps:List Li)(d:Df):Bool:=match Og K LU x with
 |some (KJ (.ref f))=>(match K.lookup f with
  |some ⟨_,_,.func fd,_⟩=>(match CS fd with
   |some b=>OL K fd.code fd.qualname&&GZ N ps fd.scope&&oX fd.params ps&&Su ps.length d.np&&Su N.length d.nn&&(CL g ⟨N,fd.scope,KQ,[]⟩ d.body b).ok|none=>KR)|_=>KR)|_=>KR
theorem CT{P:Le}{K:K2}{mg:Li->Option KO}{h:Lx}{g:dE}{x:Li}{N ps:List Li}{d:Df}(X:K.In h)(G:h.Ns LU mg)(q:IW K g x N ps d=KQ):CM P K mg g x d:=by
 unfold IW at q;split at q
 .rename_i f e;split at q
  .rename_i p o fd n lk;split at q
   .rename_i b a;simp only[K0]at q;obtain⟨⟨⟨⟨⟨m,l⟩,k⟩,j⟩,i⟩,c⟩:=q;exact⟨fd.name,fd.qualname,wB fd b,f,fd,N,ps,wC lk a m,wF l,wG a k,O3 X G e,Nt j,Nt i,Ch.of c⟩
   .cases q
  .cases q
 .cases q
structure En where
 x:Li
 N:List Li
 ps:List Li
 k:Dk
noncomputable def CU(K:K2)(g:dE)(a:List En):Bool:=a.all λe=>match e.k with
 |.df d=>IW K g e.x e.N e.ps d|.wit _=>KQ
theorem zc{P:Le}{w:Ly}{K:K2}{mg:Li->Option KO}{base h:Lx}{g:dE}{b:List En}(X:K.In h)(G:h.Ns LU mg)(q:CU K g b=KQ)(m:g.dn=b.map (·.x))(hw:∀e∈b,∀t,e.k=.wit t->∃np,DN P w K mg base e.x np t):∀(f:Nat)(x:Li),g.dn[f]?=KJ x->(∃d,(b.map (·.k))[f]?=KJ (Dk.df d)/\CM P K mg g x d)\/(∃t np,(b.map (·.k))[f]?=KJ (Dk.wit t)/\DN P w K mg base x np t):=λf x a=>by
 rw[m,Lw]at a;cases i:b[f]? with
 |none=>rw[i]at a;cases a|some e=>
  rw[i]at a;have a:e.x=x:=K1 a;subst a;have l:e∈b:=LV i;have j:=List.all_eq_true.mp q e l;rw[Lw,i];cases c:e.k with
  |df d=>
   rw[c]at j;exact .inl ⟨d,by rw[Mt,c],CT X G j⟩|wit t=>
   obtain⟨np,W⟩:=hw e l t c;exact .inr ⟨t,np,by rw[Mt,c],W⟩
noncomputable abbrev QD(K:K2)(u:KO)(d:D):Prop:=∀P w,∃v,RelV v u/\∀(p:KY)(H:Hp),H p≠KP->K.lookup p=KP->Is ⟨K,p,P,w⟩ H v d
noncomputable abbrev G5(K:K2)(us:List KO)(ds:List D):Prop:=∀P w,∃a,aq a us/\∀(p:KY)(H:Hp),H p≠KP->K.lookup p=KP->ab ⟨K,p,P,w⟩ H a ds
theorem F7{K:K2}{a:KY}{T:String}{k:Option KY}{b:Array KO}{n:Nat}{e:Array (Option KO)}{ds:List D}(lk:K.lookup a=KJ ⟨.type T,k,.seq b n,e⟩)(g:T="tuple")(f:b.size<=KZ)(h:G5 K b.toList ds):QD K (.ref a) (.tup ds):=λP w=>by
 subst g;obtain⟨d,r,i⟩:=h P w;refine⟨.ref a,rfl,λp H j c=>?_⟩;simp only[Is];refine⟨a,d,rfl,⟨λz=>?_,.inr ⟨_,b,n,lk,rfl,rfl,f,r⟩⟩,i p H j c⟩;have z:a=p:=z;rw[z,c]at lk;cases lk
theorem CV{K:K2}{u:KO}{us:List KO}{d:D}{ds:List D}(h:QD K u d)(f:G5 K us ds):G5 K (u::us) (d::ds):=λP w=>by
 obtain⟨v,r,i⟩:=h P w;obtain⟨c,e,is⟩:=f P w;exact⟨v::c,.cons r e,λp H a b=>.cons (i p H a b) (is p H a b)⟩
mutual
noncomputable def JV(K:K2):(d:D)->(u:KO)->Ch (QD K u d)
 |.bx,u=>match u with
  |.none=>.y λP w=>⟨.bx,rfl,λp H _ _=>by simp only[Is]⟩|_=>.n
 |.bl b,u=>match u with
  |.bool c=>(cd (c=b)).b λq=>.y (by subst q;exactλP w=>⟨.bl _,rfl,λp H _ _=>by simp only[Is]⟩)|_=>.n
 |.int i,u=>match u with
  |.int j _=>(cd (j=i)).b λq=>.y (by subst q;exactλP w=>⟨.int _,⟨_,rfl⟩,λp H _ _=>by simp only[Is]⟩)|_=>.n
 |.str x,u=>match u with
  |.str y _=>(cb (sEq x y)).b λq=>.y (by rw[aU q];exactλP w=>⟨.str _,⟨_,rfl⟩,λp H _ _=>by simp only[Is]⟩)|_=>.n
 |.tup k,u=>match u with
  |.ref a=>match lk:K.lookup a with
   |some ⟨.type _,_,.seq e _,_⟩=>(cd (_="tuple")).b λg=>(cd (e.size<=KZ)).b λf=>(F8 K k e.toList).b λh=>.y (F7 lk g f h)|_=>.n
  |_=>.n
 |_,_=>.n
noncomputable def F8(K:K2):(ds:List D)->(us:List KO)->Ch (G5 K us ds)
 |[],us=>match us with
  |[]=>.y λP w=>⟨[],.nil,λp H _ _=>.nil⟩|_=>.n
 |d::ds,us=>match us with
  |u::us=>(JV K d u).b λh=>(F8 K ds us).b λa=>.y (CV h a)|_=>.n
end
noncomputable def JW(K:K2)(x:Li)(d:D):Bool:=match Og K LU x with
 |some (KJ u)=>(JV K d u).ok|_=>KR
noncomputable def CW(K:K2)(gn:List Li)(ds:List (Option D)):Bool:=(gn.zip ds).all λe=>match e.2 with
 |some d=>JW K e.1 d|none=>KQ
theorem zd{K:K2}{gn:List Li}{ds:List (Option D)}(q:CW K gn ds=KQ){i:Nat}{x:Li}{d:D}(a:gn[i]?=KJ x)(hd:ds[i]?=KJ (KJ d)):∃u,Og K LU x=KJ (KJ u)/\QD K u d:=by
 have b:(x,KJ d)∈gn.zip ds:=LV (i:=i) (by rw[List.getElem?_zip_eq_some];exact⟨a,hd⟩);have:=List.all_eq_true.mp q _ b;dsimp only at this;unfold JW at this;split at this;.rename_i u e;exact⟨u,e,Ch.of this⟩
 .cases this
noncomputable def JX(K:K2):Bool:=cV.all λx=>match Og K LU x with
 |some KP=>KQ|_=>KR
noncomputable def F9(ds:List (Option D))(i:Nat):Option D:=(ds[i]?).join
theorem CY{P:Le}{w:Ly}{K:K2}{mg:Li->Option KO}{base h:Lx}{gn:List Li}{a:List En}{ds:List (Option D)}(X:K.In h)(G:h.Ns LU mg){dn:List Li}(rK:dn=a.map (·.x))(j:CU K ⟨dn,gn⟩ a=KQ)(g:CW K gn ds=KQ)(f:JX K=KQ)(hw:∀e∈a,∀t,e.k=.wit t->∃np,DN P w K mg base e.x np t):iU P w K mg base ⟨dn,gn⟩ (a.map (·.k)) ⟨F9 ds⟩where
 bl:=λx c=>by
  have:=List.all_eq_true.mp f x c;split at this;.rename_i e;exact RW X G e
  .cases this
 df:=zc X G j rK hw;co:=λi x d c hd=>by
  obtain⟨u,e,b⟩:=zd g c (Option.join_eq_some_iff.mp hd);obtain⟨v,r,is⟩:=b P w;exact⟨u,v,O3 X G e,r,is⟩
noncomputable def qp(K:K2):Sp:=λc H Q _=>∃(a:KY)(ns:List Int),c=[.ref a]/\dF K H a (ns.map V.int)/\ns.length<=63/\∀(p q:KY)(b:Hp),jE b p q 0->nF H b->H p=KP->Q (.ref p) b
theorem F_{ns:List Int}(h:ns.length<=63):mm (ns.map V.int) KP (KJ 63)=ns.map V.int:=by
 unfold mm;have e:HT.bI (ns.map V.int).length (ns.map V.int).length (KJ 63)=ns.length:=by
  have:=HT.xF (ns.map V.int).length (ns.map V.int).length 63;rw[show((63:Nat):Int)=63 from rfl]at this;rw[this,Lv];omega
 rw[e,HT.ux,List.drop_zero,Nat.sub_zero,Mb (by simp)]
section
variable{P:Le}{w:Ly}{K:K2}{mg:Li->Option KO}{base:Lx}
theorem ze{x d:Li}{st:MU}{f:KY}{fd:Mo}{N M L:Nat}{p1 I G D C B z y v l:MB}(F:uE K x d st f fd)(S:cg ["_law_script"] ["_law_script"] (ak st))(c:mg "list"=KP)(hb:bR st=[.Return (KJ (.List [.Call (.Name "list" p1) [.Subscript (.Name "_law_script" I) (.Slice KP (KJ (.Constant (.int 63) N G)) KP D) C] [] B,.Constant (.int 0) M z,.Constant (.int 0) L y] v)) l])(T:(ak st).names.lookup (KN "list")=KJ NameKind.globalImplicit):dI P w K mg base pA 1 f fd ["_law_script"] (qp K):=by
 refine F.ok S (λu H Q E h=>?_) (λW A outer s H u Q E X h=>?_)
 .obtain⟨a,ns,rfl,_⟩:=h;rfl
 .obtain⟨a,ns,rfl,U,t,J⟩:=h;have O:ni (ak st) "_law_script":=by
   rcases S.par _ K5 with e|e;.exact .inl e
   .exact .inr (.inl e)
  rw[hb];refine⟨_,gq (fQ (ml (aQ (pS (ll gw T c Qy (aQ (nz q_ (bP (i:=0) rfl O) qX (qY aB)) bQ))) (aQ aB (aQ aB bQ))))),?_⟩;refine⟨_,rfl,63,rfl,a,_,rfl,U,λg m=>?_⟩;rw[F_ t];refine⟨g,_,rfl,.inl (dF.of ai),λq R=>⟨q,_,rfl,ai,λo=>?_⟩⟩;refine⟨by show 3<=KZ;decide,λp k=>?_⟩;rw[cf]at k⊢;have s1:nF H (upd H g (.lst (ns.map V.int))):=λb o e=>by rw[af (aA e m)];exact e
  have s2:nF (upd H g (.lst (ns.map V.int))) (upd (upd H g (.lst (ns.map V.int))) q (.b6 o (.lst (ns.map V.int)))):=λb o e=>by rw[af (aA e R)];exact e
  have j:q≠p:=aA (ai (H:=upd H g (.lst (ns.map V.int))) (a:=q) (o:=.b6 o (.lst (ns.map V.int)))) k;have n:H p=KP:=by cases e:H p with
   |none=>rfl|some r=>rw[s2 p r (s1 p r e)]at k;cases k
  refine J p q _ ⟨ns,0,0,⟨ai,⟨o,by rw[af j];exact ai⟩,j,PQ _,PQ _,t⟩,PQ _⟩ (λb o e=>?_) n;rw[af (aA (s2 b o (s1 b o e)) k)];exact s2 b o (s1 b o e)
end
inductive T.kW{α:Type}:Nat->(α->Prop)->T α->Prop where|ok{m:Nat}{P:α->Prop}{a:α}(h:P a):T.kW m P (.ok a)|draw{m:Nat}{P:α->Prop}{n:Int}{k:Int->T α}(h1:0<n)(h2:n<1073741824)(h3:∀i,0<=i->i<n->T.kW m P (k i)):T.kW (m+1) P (.draw n k)|perm{m:Nat}{P:α->Prop}{l:List D}{k:List D->T α}(h:∀l',l'.Perm l->T.kW m P (k l')):T.kW m P (.perm l k)
theorem T.wH{e:Type}{P:e->Prop}{E:Xc->Nat->Prop}{t:T e}{m:Nat}(h:t.kW m P):∀k,k+m<=1000000->t.aO.run k (λa _=>P a) E:=by induction h with
 |ok h=>intro k _;exact h|draw l j n d=>
  intro k f;exact⟨⟨l,j⟩,by omega,λg a b i c=>d i c.1 c.2 g (by omega)⟩|perm h d=>
  intro k f;exactλi c=>d i c k f
noncomputable def wI(K:K2):Sp:=λb H Q _=>∃(a:KY)(ns:List Int),b=[.ref a]/\dF K H a (ns.map V.int)/\ns.length<=63/\∀c,Q (.bl KQ) c
section
variable{P:Le}{w:Ly}{K:K2}{mg:Li->Option KO}{base:Lx}{g:dE}{defs:List Dk}{b:Gv}
theorem CZ{x c:Li}{st:MU}{f:KY}{fd:Mo}{N:List Li}{r:aZ}{rest:List MU}{n m:Nat}{xn zn:Li}{p1 p2 p3 p4 p5:MB}(T:iU P w K mg base g defs b)(F:uE K x c st f fd)(S:cg N ["_law_script"] (ak st))(feed:∃f fd,dI P w K mg base pA 1 f fd ["_law_script"] (qp K)/\mg "_law_feed"=KJ (.ref f)/\N9 K (.ref f)=KQ/\Binds K fd ["_law_script"] [])(hb:bR st=.Assign [.Name xn p1] (.Call (.Name "_law_feed" p2) [.Name zn p3] [] p4) p5::rest)(q1:eh ⟨N,ak st,KQ,[]⟩ 1 xn=KQ)(q2:b_ ⟨N,ak st,KQ,[]⟩ 0 zn=KQ)(q3:bX ⟨N,ak st,KQ,[]⟩ "_law_feed"=KQ)(q4:xq g ⟨N,ak st,KQ,[]⟩ r rest)(hm:m<=1000000)(ev:(au (b.ev (aH defs b (n+1))) r (KP::KJ .feed::Mp (N.length-2) KP)).kW m (λfl=>fl=.rt (.bl KQ))):dI P w K mg base pA (n+2) f fd ["_law_script"] (wI K):=by
 obtain⟨oc,od,kV,a6,pm,an,C,ct,a0,rfl,lk,V⟩:=F.ex;refine zK lk V S (λvs H Q E h=>?_) λA' outer s H vs Q E A h=>?_
 .obtain⟨a,ns,rfl,_⟩:=h;rfl
 .obtain⟨a,ns,rfl,hS,hn,hQ⟩:=h;have J:∀(p:KY)(k:Hp),XC g (b.ev (aH defs b (n+1))) ⟨N,ak st,KQ,[]⟩ (kP pA P w K mg base N c (ak st) f C A' outer s H E) ⟨⟨K,p,P,w⟩,k,0,λ_ _=>False,k,0⟩:=λp k=>⟨rfl,rfl,rfl,rfl,S.nd,rfl,rfl,A.units,λ_ _=>rfl,(λ_ z=>nomatch z),mark_none A.hd,T.bl,λf' x' O=>by
    obtain⟨np,l,B⟩:=iU.all T (n+1) f' x' O;exact⟨np,n+1,A,l,B⟩,A.gd,λi x d hx hd=>let⟨u,v,l,B,Y⟩:=T.co i x d hx hd;⟨u,v,l,B,λH hH hp=>Y p H hH hp⟩⟩;obtain⟨l,B,Y⟩:=(J 0 H).loc q1;obtain⟨v1,v2,v3,v4⟩:=(J 0 H).t7 q2;obtain⟨g1,g2,g3⟩:=(J 0 H).gl q3;obtain⟨ff,a5,FF,R,U,X⟩:=feed;rw[hb];have rs:nj (kP pA P w K mg base N c (ak st) f C A' outer s H E) rest (λZ L t=>∃p k,HW ⟨⟨K,p,P,w⟩,k,0,λ_ _=>False,k,0⟩ (λρ=>(au (b.ev (aH defs b (n+1))) r ρ).aO) Z L t):=λy s L t D I⟨p,k,z⟩=>(q4 _ _ _ PassesOwn.leaving (J p k)).ps y s L t D I z;refine⟨_,a_ (cD (i:=1) S.nd l B (qV (FF.mono (by omega:1<=n+1)) A g1 R U X .nil zM (aQ (bP (i:=0) v1 v2 v3 v4) bQ) g2) rfl Y) rs,?_⟩;refine⟨_,rfl,a,ns,rfl,hS,hn,λp q t fq sm hp=>?_⟩;have lv:t p≠KP:=by obtain⟨_,_,_,G,_⟩:=fq;rw[G.ob];intro z;cases z
  refine⟨p,t,KP::KJ .feed::Mp (N.length-2) KP,0,?_,?_⟩
  .have a4:2<=N.length:=by have:=(List.getElem?_eq_some_iff.mp l).1;exact this
   have only:∀(i:Nat)(d:W),(KP::KJ W.feed::Mp (N.length-2) KP:ah)[i]?=KJ (KJ d)->i=1/\d=.feed:=λi d e=>by match i,e with
    |0,e=>cases e|1,e=>exact⟨rfl,by cases e;rfl⟩|i+2,e=>
     simp only[List.getElem?_cons_succ]at e;have:=LV e;rw[List.mem_replicate]at this;cases this.2
   refine⟨?_,λi d e=>?_,λi j d e v a3 a1 a2 o1 o2=>?_,λi j ks ds w a1 a2 o=>?_,lv,.refl,.refl⟩
   .simp only[start,LP,MV,List.length_set,L5,Lv,Md];omega
   .obtain⟨rfl,rfl⟩:=only i d e;refine⟨.ref p,?_,rfl,q,fq⟩;rw[Nf];simp only[start,LP,MV,L5,Lv,Md];omega
   .obtain⟨_,rfl⟩:=only i d a1;cases o1
   .obtain⟨_,z⟩:=only i _ a1;cases z
  .refine M.wk (L2.T.wH ev 0 (by omega)) λfl k' e=>?_;subst e;intro v H2 e1 i;simp only[Is]at i;subst i;exact hQ H2
end
noncomputable def tM(K:K2)(x:Li):Option (KY×Mo×List MU):=match Og K LU x with
 |some (KJ (.ref f))=>(match K.lookup f with
  |some ⟨_,_,.func fd,_⟩=>(match CS fd with
   |some b=>if OL K fd.code fd.qualname then KJ (f,fd,b)else KP|none=>KP)|_=>KP)|_=>KP
noncomputable def gQ(t:KY×Mo×List MU):Li×Li×P7×List MU×MT:=(t.2.1.name,t.2.1.qualname,t.2.1.params,t.2.2,t.2.1.scope)
theorem ky{K:K2}{x y q:Li}{st:MU}{ps:List Li}(h:(tM K x).map gQ=KJ (y,q,cP st,bR st,ak st))(p:oX (cP st) ps=KQ):∃f fd,uE K y q st f fd/\Og K LU x=KJ (KJ (.ref f))/\∀us:List KO,us.length=ps.length->R0 fd ⟨us,[]⟩=pure (ps.zip us):=by cases e:tM K x with
 |none=>rw[e]at h;cases h|some t=>
  obtain⟨f,fd,b⟩:=t;rw[e]at h;simp only[Mt,gQ,N6,O2]at h;obtain⟨v,k,j,u,s⟩:=h;unfold tM at e;split at e
  .rename_i B en;split at e
   .rename_i i g w a lk;split at e
    .rename_i C l;split at e
     .rename_i r;cases e;have F:=wC lk l r;refine⟨f,fd,⟨?_,F.kp⟩,en,?_⟩
      .obtain⟨i,g,kV,c,o,A,d,ct,a,n,z,m⟩:=F.ex;rw[v,k,show cP (wB fd b)=cP st from j,show bR (wB fd b)=bR st from u,show ak (wB fd b)=ak st from s]at n;rw[k]at m;exact⟨i,g,kV,c,o,A,d,ct,a,n,z,m⟩
      .exact bind_eq l (by rw[j];exact p)
     .cases e
    .cases e
   .cases e
  .cases e
end L2
end
section
namespace K40
open PySem L2 K40d
noncomputable def ei:Ex:=(.call 1 (.cons (.var 0) (.cons (.cst (.int 0)) (.cons (.iT 0) .nil))))
noncomputable def ek:Ex:=(.cmp .In (.var 0) (.iT 2))
noncomputable def kz:aZ:=(.cons (.ret (.and (.call 1 (.cons (.var 6) (.cons (.cst (.int 0)) (.cons (.iT 1) .nil)))) (.one (.call 1 (.cons (.var 7) (.cons (.cst (.int 1)) (.cons (.iT 1) .nil))))))) .nil)
noncomputable def kA:aZ:=(.cons (.iff (.fG (.bz (.fP (.call 0 (.cons (.var 5) .nil)))) (.bj (.ax .NotIn (.var 5) (.var 4)))) (.cons (.ret (.cst (.bl KR))) .nil) .nil) kz)
noncomputable def kB:aZ:=(.cons (.asg (.tup 6 (.cons (.nm 2) (.cons (.nm 3) (.cons (.nm 4) (.cons (.nm 5) (.cons (.nm 6) (.cons (.nm 7) .nil))))))) (.var 1)) (.cons (.iff (.fG (.bz (.fP (.call 4 (.cons (.var 2) .nil)))) (.fG (.ax .NotIn (.var 3) (.iT 4)) (.fG (.bz (.fP (.call 3 (.cons (.var 4) .nil)))) (.bj (.ax .NotIn (.var 4) (.idx (.var 0) (.cst (.int 1)))))))) (.cons (.ret (.cst (.bl KR))) .nil) .nil) kA))
noncomputable def jn:aZ:=(.cons (.fz 4 (.ret (.var 4))) .nil)
noncomputable def mT:Ex:=(.op .Sub (.op .Add (.var 0) (.op .Pow (.cst (.int 10)) (.cst (.int 6)))) (.var 1))
noncomputable def r9:aZ:=(.cons (.iff (.jc (.ax .Gt (.var 2) (.cst (.int 1))) (.bj (.ax .Eq (.call 6 (.feed 0 (.cons (.cst (.int 4)) .nil))) (.cst (.int 0))))) (.cons (.fz 4 (.set 4 (.lc ["_law_number"] [3] (.nm 0) (.bG (.var 4)) .yes mT))) .nil) .nil) jn)
noncomputable def r_:aZ:=(.cons (.set 3 (.op .Add (.var 3) (.op .Mult (.op .Add (.cst (.int 1)) (.call 6 (.feed 0 (.cons (.cst (.int 6)) .nil)))) (.var 2)))) (.cons (.app 4 (.var 3)) .nil))
noncomputable def oY:aZ:=(.cons (.v8 3) .nil)
noncomputable def kC:aZ:=(.cons (.set 9 (.or (.and (.cmp .Eq (.var 5) (.idx (.var 8) (.cst (.int 0)))) (.one (.cmp .In (.var 5) (.tup (.cons (.cst (.int 0)) (.cons (.op .Sub (.var 1) (.cst (.int 1))) .nil)))))) (.one (.and (.cmp .Eq (.var 4) (.idx (.var 8) (.cst (.int 1)))) (.one (.cmp .In (.var 4) (.tup (.cons (.cst (.int 0)) (.cons (.op .Sub (.var 2) (.cst (.int 1))) .nil))))))))) (.cons (.iff (.jc (.xp (.var 8) 3) (.jc (.ax .Lt (.var 7) (.cst (.int 90))) (.bj (.fG (.jc (.fP (.var 6)) (.bj (.fP (.var 9)))) (.bj (.ax .Gt (.call 6 (.feed 0 (.cons (.cst (.int 7)) .nil))) (.cst (.int 1)))))))) (.cons (.jd 3 (.tup (.cons (.var 5) (.cons (.var 4) .nil))) (.var 8)) (.cons (.jd 3 (.var 8) (.tup (.cons (.var 5) (.cons (.var 4) .nil)))) (.cons (.set 7 (.op .Add (.var 7) (.cst (.int 1)))) .nil))) .nil) .nil))
noncomputable def oZ:aZ:=(.cons (.e9 (.nm 8) (.bG (.lst (.cons (.tup (.cons (.op .Add (.var 5) (.cst (.int 1))) (.cons (.var 4) .nil))) (.cons (.tup (.cons (.var 5) (.cons (.op .Add (.var 4) (.cst (.int 1))) .nil))) .nil)))) kC) .nil)
noncomputable def o_:aZ:=(.cons (.e9 (.nm 5) (.ij (.cons (.var 1) .nil)) oZ) .nil)
noncomputable def pb:aZ:=(.cons (.set 6 (.cmp .Gt (.call 6 (.feed 0 (.cons (.cst (.int 3)) .nil))) (.cst (.int 0)))) (.cons (.set 7 (.cst (.int 0))) (.cons (.e9 (.nm 4) (.ij (.cons (.var 2) .nil)) o_) oY)))
noncomputable def pd:aZ:=(.cons (.putN 3 (.tup (.cons (.var 5) (.cons (.var 4) .nil)))) .nil)
noncomputable def kE:aZ:=(.cons (.e9 (.nm 5) (.ij (.cons (.var 1) .nil)) pd) .nil)
noncomputable def lX:aZ:=(.cons (.fz 1 (.ret (.var 1))) .nil)
noncomputable def lY:Ex:=(.xo (.ax .NotEq (.var 0) (.var 1)) (.var 0) (.var 2))
noncomputable def lZ:Ex:=(.xo (.ax .NotEq (.var 0) (.var 1)) (.var 0) (.var 2))
noncomputable def iD:aZ:=(.cons (.set 3 (.lO 1 (.idx (.var 1) (.var 2)))) (.cons (.iff (.jc (.ax .Eq (.bi .len (.cons (.var 3) .nil)) (.cst (.int 2))) (.bj (.ax .Gt (.call 6 (.feed 0 (.cons (.cst (.int 3)) .nil))) (.cst (.int 0))))) (.cons (.asg (.tup 2 (.cons (.nm 4) (.cons (.nm 5) .nil))) (.var 3)) (.cons (.iff (.fG (.ax .Eq (.idx (.var 4) (.cst (.int 0))) (.idx (.var 5) (.cst (.int 0)))) (.bj (.ax .Eq (.idx (.var 4) (.cst (.int 1))) (.idx (.var 5) (.cst (.int 1)))))) (.cons (.put 1 (.var 4) (.lO 1 (.lc ["_law_there"] [2,5] (.nm 0) (.bG (.idx (.var 1) (.var 4))) .yes lZ))) (.cons (.put 1 (.var 5) (.lO 1 (.lc ["_law_there"] [2,4] (.nm 0) (.bG (.idx (.var 1) (.var 5))) .yes lY))) (.cons (.put 1 (.var 2) (.lst .nil)) .nil))) .nil) .nil)) .nil) .nil))
noncomputable def fZ:Ex:=(.lO 2 (.call 6 (.feed 1 (.cons (.bi .len (.cons (.var 2) .nil)) .nil))))
noncomputable def kF:aZ:=(.cons (.vZ 4 (.cons (.var 1) .nil)) (.cons (.v9 4 1 [0,4] "_law_k" (.ij (.cons (.var 1) .nil)) fZ) .nil))
noncomputable def f6:Ex:=(.op .Mod (.op .Add (.var 2) (.op .Mult (.var 1) (.var 0))) (.cst (.int 1000)))
noncomputable def qr:aZ:=(.cons (.fz 11 (.ret (.tup (.cons (.bi .tuple (.cons (.bi .sorted (.cons (.var 10) .nil)) .nil)) (.cons (.bi .tuple (.cons (.bi .sorted (.cons (.var 11) .nil)) .nil)) .nil))))) .nil)
noncomputable def f7:Ex:=(.bj (.ax .Lt (.var 2) (.var 0)))
noncomputable def f9:Ex:=(.tup (.cons (.idx (.var 1) (.var 2)) (.cons (.idx (.var 1) (.var 0)) .nil)))
noncomputable def qt:aZ:=(.cons (.ext 11 (.lc ["_law_there"] [9,12] (.nm 0) (.bG (.idx (.var 5) (.var 12))) f7 f9)) .nil)
noncomputable def kG:Ex:=(.tup (.cons (.idx (.var 4) (.tup (.cons (.var 0) (.cons (.var 1) .nil)))) (.cons (.idx (.var 2) (.var 0)) (.cons (.idx (.var 3) (.var 1)) .nil))))
noncomputable def qu:aZ:=(.cons (.set 10 (.lc ["_law_i","_law_j"] [6,7,9] (.tup 2 (.cons (.nm 0) (.cons (.nm 1) .nil))) (.bG (.var 8)) .yes kG)) (.cons (.ql 11 .nil) (.cons (.e9 (.nm 12) (.bG (.var 8)) qt) qr)))
noncomputable def qv:aZ:=(.cons (.set 9 (.vW (.cons (.var 8) (.cons (.call 10 (.feed 0 (.cons (.bi .len (.cons (.var 8) .nil)) .nil))) .nil)))) qu)
noncomputable def mU:Ex:=(.bj (.ax .NotEq (.idx (.var 1) (.var 0)) (.lst .nil)))
noncomputable def qw:Ex:=(.var 0)
noncomputable def qx:aZ:=(.cons (.set 8 (.lc ["_law_knot"] [5] (.nm 0) (.bG (.bi .sorted (.cons (.var 5) .nil))) mU qw)) qv)
noncomputable def se:aZ:=(.cons (.asg (.tup 2 (.cons (.nm 6) (.cons (.nm 7) .nil))) (.tup (.cons (.call 7 (.feed 0 (.cons (.var 3) (.cons (.var 2) .nil)))) (.cons (.call 7 (.feed 0 (.cons (.var 4) (.cons (.var 2) .nil)))) .nil)))) qx)
noncomputable def iW:aZ:=(.cons (.fz 1 (.ret (.var 1))) .nil)
noncomputable def iX:aZ:=(.cons (.put 1 (.var 2) (.tup (.cons (.var 3) (.cons (.var 4) .nil)))) .nil)
noncomputable def l4:aZ:=(.cons (.asg (.tup 2 (.cons (.nm 3) (.cons (.nm 4) .nil))) (.idx (.var 2) (.idx (.var 1) (.cst (.int 0))))) (.cons (.asg (.tup 2 (.cons (.nm 5) (.cons (.nm 6) .nil))) (.idx (.var 2) (.idx (.var 1) (.cst (.int 1))))) (.cons (.ret (.op .Sub (.op .Add (.op .Sub (.var 5) (.var 3)) (.var 6)) (.var 4))) .nil)))
noncomputable def mV:aZ:=(.cons (.set 4 (.idx (.lst (.cons (.cst (.int 0)) (.cons (.call 6 (.feed 0 (.cons (.op .Add (.var 3) (.cst (.int 1))) .nil))) (.cons (.var 3) (.cons (.op .Pow (.cst (.int 10)) (.cst (.int 6))) .nil))))) (.call 6 (.feed 0 (.cons (.cst (.int 4)) .nil))))) (.cons (.set 5 (.idx (.lst (.cons (.cst (.int 1)) (.cons (.op .Add (.cst (.int 1)) (.call 6 (.feed 0 (.cons (.var 3) .nil)))) (.cons (.var 3) (.cons (.op .Pow (.cst (.int 10)) (.cst (.int 6))) .nil))))) (.call 6 (.feed 0 (.cons (.cst (.int 4)) .nil))))) (.cons (.set 6 (.idx (.lst (.cons (.cst (.str "a")) (.cons (.cst (.str "zz")) (.cons (.cst (.str "abcdefgh")) (.cons (.cst (.str "q")) (.cons (.cst (.str "window")) .nil)))))) (.call 6 (.feed 0 (.cons (.cst (.int 5)) .nil))))) (.cons (.ret (.tup (.cons (.var 6) (.cons (.idx (.lst (.cons (.cst (.str "door")) (.cons (.cst (.str "window")) .nil))) (.call 6 (.feed 0 (.cons (.cst (.int 2)) .nil)))) (.cons (.var 2) (.cons (.idx (.var 2) (.call 6 (.feed 0 (.cons (.cst (.int 2)) .nil)))) (.cons (.var 4) (.cons (.var 5) .nil)))))))) .nil))))
noncomputable def f_:aZ:=(.cons (.ret (.tup (.cons (.var 3) (.cons (.var 4) (.cons (.var 5) (.cons (.var 6) (.cons (.var 7) (.cons (.var 8) .nil)))))))) .nil)
noncomputable def ph:aZ:=(.cons (.ret (.and (.call 17 (.cons (.var 6) (.cons (.cst (.int 0)) (.cons (.op .Pow (.cst (.int 10)) (.cst (.int 6))) .nil)))) (.one (.call 17 (.cons (.var 7) (.cons (.cst (.int 1)) (.cons (.op .Pow (.cst (.int 10)) (.cst (.int 6))) .nil))))))) .nil)
noncomputable def pj:aZ:=(.cons (.iff (.fG (.bz (.fP (.call 17 (.cons (.var 5) (.cons (.cst (.int 0)) (.cons (.cst (.int 999)) .nil)))))) (.bj (.ax .NotIn (.var 5) (.var 4)))) (.cons (.ret (.cst (.bl KR))) .nil) .nil) ph)
noncomputable def qy:aZ:=(.cons (.ret (.cst (.bl KQ))) .nil)
noncomputable def mW:aZ:=(.cons (.iff (.ax .IsNot (.call 5 (.cons (.tup (.cons (.tup .nil) (.cons (.tup .nil) .nil))) (.cons (.var 4) .nil))) (.cst (.bl KR))) (.cons (.ret (.cst (.bl KR))) .nil) .nil) .nil)
noncomputable def qz:aZ:=(.cons (.iff (.fG (.bz (.fP (.kM "bool" (.var 7)))) (.bj (.ax .NotEq (.var 7) (.call 18 (.cons (.var 2) (.cons (.var 6) .nil)))))) (.cons (.ret (.cst (.bl KR))) .nil) .nil) .nil)
noncomputable def iE:aZ:=(.cons (.set 7 (.call 5 (.cons (.var 2) (.cons (.var 6) .nil)))) qz)
noncomputable def qB:aZ:=(.cons (.e9 (.nm 6) (.bG (.lst (.cons (.var 4) (.cons (.var 5) (.cons (.var 4) .nil))))) iE) mW)
noncomputable def qC:aZ:=(.cons (.set 5 (.call 16 (.feed 1 (.cons (.var 2) (.cons (.var 4) .nil))))) qB)
noncomputable def mX:aZ:=(.cons (.set 4 (.call 14 (.feed 1 (.cons (.var 2) .nil)))) qC)
noncomputable def qD:aZ:=(.cons (.e9 (.nm 3) (.ij (.cons (.cst (.int 8)) .nil)) mX) qy)
noncomputable def qF:aZ:=(.cons (.iff (.ax .Eq (.idx (.var 2) (.cst (.int 1))) (.tup .nil)) (.cons (.ret (.cmp .Is (.call 5 (.cons (.var 2) (.cons (.tup (.cons (.cst (.str "a")) (.cons (.cst (.str "door")) (.cons (.tup (.cons (.cst (.int 0)) (.cons (.cst (.int 1)) .nil))) (.cons (.cst (.int 0)) (.cons (.cst (.int 0)) (.cons (.cst (.int 1)) .nil))))))) .nil))) (.cst (.bl KR)))) .nil) .nil) qD)
noncomputable def fc:Df:=⟨1,1,(.cons (.ret (.and (.kM "int" (.var 0)) (.one (.not (.kM "bool" (.var 0)))))) .nil)⟩
noncomputable def gc:Df:=⟨3,3,(.cons (.ret (.and (.call 0 (.cons (.var 0) .nil)) (.one (.DJ .LtE .LtE (.var 1) (.var 0) (.var 2))))) .nil)⟩
noncomputable def kH:Df:=⟨2,2,(.cons (.ret (.and (.kM "tuple" (.var 0)) (.one (.cmp .Eq (.bi .len (.cons (.var 0) .nil)) (.var 1))))) .nil)⟩
noncomputable def iF:Df:=⟨1,1,(.cons (.ret (.and (.call 2 (.cons (.var 0) (.cons (.cst (.int 2)) .nil))) (.one (.bi .all (.cons (.lc ["end"] [] (.nm 0) (.bG (.var 0)) .yes ei) .nil))))) .nil)⟩
noncomputable def iG:Df:=⟨1,1,(.cons (.iff (.fG (.bz (.fP (.kM "str" (.var 0)))) (.bj (.bz (.oJ .LtE .LtE (.cst (.int 1)) (.bi .len (.cons (.var 0) .nil)) (.iT 3))))) (.cons (.ret (.cst (.bl KR))) .nil) .nil) (.cons (.ret (.bi .all (.cons (.lc ["sign"] [] (.nm 0) (.bG (.var 0)) .yes ek) .nil))) .nil))⟩
noncomputable def iH:Df:=⟨2,8,(.cons (.iff (.bz (.fP (.call 2 (.cons (.var 1) (.cons (.cst (.int 6)) .nil))))) (.cons (.ret (.cst (.bl KR))) .nil) .nil) kB)⟩
noncomputable def fe:Df:=⟨3,6,(.cons (.set 3 (.op .Mult (.call 6 (.feed 0 (.cons (.cst (.int 3)) .nil))) (.var 2))) (.cons (.ql 4 (.cons (.var 3) .nil)) (.cons (.e9 (.nm 5) (.ij (.cons (.op .Sub (.var 1) (.cst (.int 1))) .nil)) r_) r9)))⟩
noncomputable def el:Df:=⟨3,10,(.cons (.v7 3) (.cons (.e9 (.nm 4) (.ij (.cons (.var 2) .nil)) kE) pb))⟩
noncomputable def dA:Df:=⟨2,6,(.cons (.e9 (.nm 2) (.bG (.lO 1 (.bi .sorted (.cons (.var 1) .nil)))) iD) lX)⟩
noncomputable def dg:Df:=⟨2,5,(.cons (.iff (.ax .Eq (.call 6 (.feed 0 (.cons (.cst (.int 2)) .nil))) (.cst (.int 0))) (.cons (.set 2 (.idx (.lst (.cons (.cst (.int 7)) (.cons (.cst (.int 303)) (.cons (.cst (.int 617)) (.cons (.cst (.int 999)) .nil))))) (.call 6 (.feed 0 (.cons (.cst (.int 4)) .nil))))) (.cons (.set 3 (.call 6 (.feed 0 (.cons (.cst (.int 1000)) .nil)))) (.cons (.ret (.lc ["_law_k"] [2,3] (.nm 0) (.ij (.cons (.var 1) .nil)) .yes f6)) .nil))) .nil) kF)⟩
noncomputable def gf:Df:=⟨3,13,(.cons (.par 3 4 (.cons (.op .Add (.cst (.int 2)) (.call 6 (.feed 0 (.cons (.op .Sub (.var 1) (.cst (.int 1))) .nil)))) (.cons (.op .Add (.cst (.int 2)) (.call 6 (.feed 0 (.cons (.op .Sub (.var 1) (.cst (.int 1))) .nil)))) .nil))) (.cons (.set 5 (.oK 9 0 8 (.feed 0 (.cons (.var 3) (.cons (.var 4) .nil))))) se))⟩
noncomputable def cJ:Df:=⟨1,5,(.cons (.hU 1) (.cons (.e9 (.tup 3 (.cons (.nm 2) (.cons (.nm 3) (.cons (.nm 4) .nil)))) (.bG (.idx (.var 0) (.cst (.int 0)))) iX) iW))⟩
noncomputable def dB:Df:=⟨2,7,(.cons (.set 2 (.call 12 (.cons (.var 0) .nil))) l4)⟩
noncomputable def fg:Df:=⟨2,7,(.cons (.set 2 (.idx (.idx (.var 1) (.cst (.int 1))) (.call 6 (.feed 0 (.cons (.bi .len (.cons (.idx (.var 1) (.cst (.int 1))) .nil)) .nil))))) (.cons (.set 3 (.call 13 (.cons (.var 1) (.cons (.var 2) .nil)))) mV))⟩
noncomputable def fh:Df:=⟨1,2,(.cons (.set 1 (.cst (.str " !\"#$&'()*+,-./0123456789:;<=>?@ABCDEFGHIJKLMNOPQRSTUVWXYZ[\\]^_`abcdefghijklmnopqrstuvwxyz{|}~\n\t"))) (.cons (.ret (.idx (.var 1) (.call 6 (.feed 0 (.cons (.bi .len (.cons (.var 1) .nil)) .nil))))) .nil))⟩
noncomputable def dh:Df:=⟨3,14,(.cons (.asg (.tup 6 (.cons (.nm 3) (.cons (.nm 4) (.cons (.nm 5) (.cons (.nm 6) (.cons (.nm 7) (.cons (.nm 8) .nil))))))) (.var 2)) (.cons (.set 9 (.call 6 (.feed 0 (.cons (.cst (.int 7)) .nil)))) (.cons (.set 10 (.call 6 (.feed 0 (.cons (.cst (.int 8)) .nil)))) (.cons (.set 11 (.idx (.idx (.var 1) (.cst (.int 1))) (.call 6 (.feed 0 (.cons (.bi .len (.cons (.idx (.var 1) (.cst (.int 1))) .nil)) .nil))))) (.cons (.iff (.jc (.ax .Eq (.var 9) (.cst (.int 0))) (.bj (.ax .Eq (.call 6 (.feed 0 (.cons (.cst (.int 2)) .nil))) (.cst (.int 0))))) (.cons (.set 12 (.call 6 (.feed 0 (.cons (.bi .len (.cons (.var 3) .nil)) .nil)))) (.cons (.set 3 (.op .Add (.op .Add (.cut (.var 3) .nil (.one (.var 12))) (.call 15 (.feed 0 .nil))) (.cut (.var 3) (.one (.op .Add (.var 12) (.cst (.int 1)))) .nil))) .nil)) (.cons (.iff (.ax .Eq (.var 9) (.cst (.int 0))) (.cons (.set 3 (.idx (.lst (.cons (.cst (.str "")) (.cons (.cst (.str "A")) (.cons (.cst (.str "abcdefghi")) (.cons (.cst (.str "a b")) (.cons (.cst (.str "a1")) (.cons (.cst (.int 5)) (.cons (.cst (.bx)) (.cons (.tup (.cons (.cst (.str "a")) .nil)) .nil))))))))) (.var 10))) .nil) (.cons (.iff (.ax .Eq (.var 9) (.cst (.int 1))) (.cons (.set 4 (.idx (.lst (.cons (.cst (.str "Door")) (.cons (.cst (.str "doors")) (.cons (.cst (.str "")) (.cons (.cst (.bx)) (.cons (.cst (.bl KQ)) (.cons (.tup (.cons (.cst (.str "door")) .nil)) (.cons (.cst (.str "wall")) (.cons (.cst (.str "gate")) .nil))))))))) (.var 10))) .nil) (.cons (.iff (.ax .Eq (.var 9) (.cst (.int 2))) (.cons (.set 13 (.lst (.cons (.tup (.cons (.idx (.var 5) (.cst (.int 1))) (.cons (.idx (.var 5) (.cst (.int 0))) .nil))) (.cons (.var 11) (.cons (.bi .list (.cons (.var 5) .nil)) (.cons (.op .Add (.var 5) (.cut (.var 5) .nil (.one (.cst (.int 1))))) (.cons (.cut (.var 5) .nil (.one (.cst (.int 1)))) (.cons (.tup (.cons (.idx (.var 5) (.cst (.int 0))) (.cons (.idx (.var 5) (.cst (.int 0))) .nil))) (.cons (.cst (.bx)) .nil))))))))) (.cons (.set 5 (.idx (.op .Add (.var 13) (.lst (.cons (.idx (.lst (.cons (.tup (.cons (.cmp .Eq (.idx (.var 5) (.cst (.int 0))) (.cst (.int 1))) (.cons (.idx (.var 5) (.cst (.int 1))) .nil))) (.cons (.tup (.cons (.idx (.var 5) (.cst (.int 0))) (.cons (.cmp .Eq (.idx (.var 5) (.cst (.int 1))) (.cst (.int 1))) .nil))) .nil))) (.call 6 (.feed 0 (.cons (.cst (.int 2)) .nil)))) .nil))) (.var 10))) .nil)) (.cons (.iff (.ax .Eq (.var 9) (.cst (.int 3))) (.cons (.set 6 (.idx (.lst (.cons (.idx (.var 11) (.cst (.int 0))) (.cons (.idx (.var 11) (.cst (.int 1))) (.cons (.neg (.cst (.int 1))) (.cons (.cst (.int 1000)) (.cons (.cst (.bx)) (.cons (.bi .str (.cons (.var 6) .nil)) (.cons (.tup (.cons (.var 6) .nil)) (.cons (.cst (.bl KQ)) .nil))))))))) (.var 10))) .nil) (.cons (.iff (.ax .Eq (.var 9) (.cst (.int 4))) (.cons (.set 7 (.idx (.lst (.cons (.neg (.cst (.int 1))) (.cons (.op .Add (.op .Pow (.cst (.int 10)) (.cst (.int 6))) (.cst (.int 1))) (.cons (.cst (.bl KQ)) (.cons (.cst (.bx)) (.cons (.cst (.str "0")) (.cons (.tup (.cons (.cst (.int 0)) .nil)) (.cons (.op .Pow (.cst (.int 10)) (.cst (.int 6))) (.cons (.op .Pow (.cst (.int 10)) (.cst (.int 30))) .nil))))))))) (.var 10))) .nil) (.cons (.iff (.ax .Eq (.var 9) (.cst (.int 5))) (.cons (.set 8 (.idx (.lst (.cons (.cst (.int 0)) (.cons (.neg (.cst (.int 1))) (.cons (.op .Add (.op .Pow (.cst (.int 10)) (.cst (.int 6))) (.cst (.int 1))) (.cons (.cst (.bl KQ)) (.cons (.cst (.bx)) (.cons (.cst (.str "1")) (.cons (.tup (.cons (.cst (.int 1)) .nil)) (.cons (.op .Pow (.cst (.int 10)) (.cst (.int 6))) .nil))))))))) (.var 10))) .nil) (.cons (.set 13 (.lst (.cons (.cut (.var 2) .nil (.one (.cst (.int 5)))) (.cons (.op .Add (.var 2) (.tup (.cons (.cst (.int 1)) .nil))) (.cons (.bi .list (.cons (.var 2) .nil)) (.cons (.cst (.bx)) (.cons (.cst (.str "door")) (.cons (.tup .nil) (.cons (.tup (.cons (.var 2) .nil)) (.cons (.rev (.var 2) (.neg (.cst (.int 1)))) .nil)))))))))) (.cons (.ret (.idx (.var 13) (.var 10))) .nil))) .nil)) .nil)) .nil)) .nil)) .nil)) .nil)) f_)))))⟩
noncomputable def et:Df:=⟨3,3,(.cons (.ret (.and (.kM "int" (.var 0)) (.and (.not (.kM "bool" (.var 0))) (.one (.DJ .LtE .LtE (.var 1) (.var 0) (.var 2)))))) .nil)⟩
noncomputable def eA:Df:=⟨2,8,(.cons (.iff (.fG (.bz (.fP (.kM "tuple" (.var 1)))) (.bj (.ax .NotEq (.bi .len (.cons (.var 1) .nil)) (.cst (.int 6))))) (.cons (.ret (.cst (.bl KR))) .nil) .nil) (.cons (.asg (.tup 6 (.cons (.nm 2) (.cons (.nm 3) (.cons (.nm 4) (.cons (.nm 5) (.cons (.nm 6) (.cons (.nm 7) .nil))))))) (.var 1)) (.cons (.iff (.fG (.bz (.fP (.kM "str" (.var 2)))) (.fG (.bz (.oJ .LtE .LtE (.cst (.int 1)) (.bi .len (.cons (.var 2) .nil)) (.cst (.int 8)))) (.fG (.ax .NotEq (.low (.var 2)) (.var 2)) (.bj (.bz (.fP (.Cd (.var 2)))))))) (.cons (.ret (.cst (.bl KR))) .nil) .nil) (.cons (.iff (.fG (.bz (.fP (.kM "str" (.var 3)))) (.fG (.ax .NotIn (.var 3) (.lst (.cons (.cst (.str "door")) (.cons (.cst (.str "window")) .nil)))) (.fG (.bz (.fP (.kM "tuple" (.var 4)))) (.bj (.ax .NotEq (.bi .len (.cons (.var 4) .nil)) (.cst (.int 2))))))) (.cons (.ret (.cst (.bl KR))) .nil) .nil) (.cons (.iff (.fG (.bz (.fP (.call 17 (.cons (.idx (.var 4) (.cst (.int 0))) (.cons (.cst (.int 0)) (.cons (.cst (.int 999)) .nil)))))) (.fG (.bz (.fP (.call 17 (.cons (.idx (.var 4) (.cst (.int 1))) (.cons (.cst (.int 0)) (.cons (.cst (.int 999)) .nil)))))) (.bj (.ax .NotIn (.var 4) (.idx (.var 0) (.cst (.int 1))))))) (.cons (.ret (.cst (.bl KR))) .nil) .nil) pj)))))⟩
noncomputable def dn:List Li:=[KN "is_number",KN "is_whole",KN "is_row",KN "is_wall",KN "is_name",KN "is_made",KN "_law_draw",KN "_law_line",KN "_law_links",KN "_law_merged",KN "_law_numbers",KN "_law_net",KN "_law_spots_of",KN "_law_length",KN "_law_good",KN "_law_sign",KN "_law_changed",KN "_law_whole",KN "_law_right"]
noncomputable def gn:List Li:=[KN "GREATEST_NUMBER",KN "GREATEST_PLACE",KN "LETTERS",KN "LONGEST_NAME",KN "KINDS"]
noncomputable def G6:dE:=⟨dn,gn⟩
noncomputable def IX:List (Option D):=[KJ (D.int 999),KJ (D.int 1000000),KJ (D.str "abcdefghijklmnopqrstuvwxyz"),KJ (D.int 8),KJ (D.tup [(D.str "door"),(D.str "window")])]
noncomputable def ents:List En:=[⟨KN "is_number",[KN "thing"],[KN "thing"],.df fc⟩,⟨KN "is_whole",[KN "thing",KN "least",KN "most"],[KN "thing",KN "least",KN "most"],.df gc⟩,⟨KN "is_row",[KN "thing",KN "length"],[KN "thing",KN "length"],.df kH⟩,⟨KN "is_wall",[KN "thing"],[KN "thing"],.df iF⟩,⟨KN "is_name",[KN "thing"],[KN "thing"],.df iG⟩,⟨KN "is_made",[KN "net",KN "thing",KN "name",KN "kind",KN "wall",KN "end",KN "at",KN "width"],[KN "net",KN "thing"],.df iH⟩,⟨KN "_law_draw",[KN "_law_feed_here",KN "_law_many",KN "_law_got",KN "_law_at",KN "_law_cell",KN "_law_number"],[KN "_law_feed_here",KN "_law_many"],.wit r8⟩,⟨KN "_law_line",[KN "_law_feed_here",KN "_law_many",KN "_law_scale",KN "_law_here",KN "_law_found",KN "_law_k"],[KN "_law_feed_here",KN "_law_many",KN "_law_scale"],.df fe⟩,⟨KN "_law_links",[KN "_law_feed_here",KN "_law_columns",KN "_law_rows",KN "_law_links_here",KN "_law_j",KN "_law_i",KN "_law_framed",KN "_law_many",KN "_law_there",KN "_law_rim"],[KN "_law_feed_here",KN "_law_columns",KN "_law_rows"],.df el⟩,⟨KN "_law_merged",[KN "_law_feed_here",KN "_law_links_here",KN "_law_knot",KN "_law_beside_it",KN "_law_one",KN "_law_other"],[KN "_law_feed_here",KN "_law_links_here"],.df dA⟩,⟨KN "_law_numbers",[KN "_law_feed_here",KN "_law_many",KN "_law_step",KN "_law_first",KN "_law_left"],[KN "_law_feed_here",KN "_law_many"],.df dg⟩,⟨KN "_law_net",[KN "_law_feed_here",KN "_law_most",KN "_law_scale",KN "_law_columns",KN "_law_rows",KN "_law_links_here",KN "_law_xs",KN "_law_ys",KN "_law_knots",KN "_law_numbers_here",KN "_law_corners",KN "_law_shuts",KN "_law_knot"],[KN "_law_feed_here",KN "_law_most",KN "_law_scale"],.df gf⟩,⟨KN "_law_spots_of",[KN "_law_net_here",KN "_law_found",KN "_law_c",KN "_law_x",KN "_law_y"],[KN "_law_net_here"],.df cJ⟩,⟨KN "_law_length",[KN "_law_net_here",KN "_law_shut",KN "_law_spots",KN "_law_x",KN "_law_y",KN "_law_u",KN "_law_v"],[KN "_law_net_here",KN "_law_shut"],.df dB⟩,⟨KN "_law_good",[KN "_law_feed_here",KN "_law_net_here",KN "_law_shut",KN "_law_length_here",KN "_law_at",KN "_law_width",KN "_law_name"],[KN "_law_feed_here",KN "_law_net_here"],.df fg⟩,⟨KN "_law_sign",[KN "_law_feed_here",KN "_law_signs"],[KN "_law_feed_here"],.df fh⟩,⟨KN "_law_changed",[KN "_law_feed_here",KN "_law_net_here",KN "_law_opening",KN "_law_name",KN "_law_kind",KN "_law_shut",KN "_law_end",KN "_law_at",KN "_law_width",KN "_law_at_k",KN "_law_k",KN "_law_other",KN "_law_at_sign",KN "_law_some"],[KN "_law_feed_here",KN "_law_net_here",KN "_law_opening"],.df dh⟩,⟨KN "_law_whole",[KN "_law_thing",KN "_law_least",KN "_law_greatest"],[KN "_law_thing",KN "_law_least",KN "_law_greatest"],.df et⟩,⟨KN "_law_right",[KN "_law_net_here",KN "_law_thing",KN "_law_name",KN "_law_kind",KN "_law_shut",KN "_law_end",KN "_law_at",KN "_law_width"],[KN "_law_net_here",KN "_law_thing"],.df eA⟩]
noncomputable def qG:List Li:=[KN "_law_script",KN "_law_feed_here",KN "_law_net_here",KN "_law_turn",KN "_law_good_here",KN "_law_bad",KN "_law_thing",KN "_law_found"]
noncomputable def rest:aZ:=(.cons (.set 2 (.call 11 (.feed 1 (.cons (.cst (.int 5)) (.cons (.idx (.lst (.cons (.cst (.int 1)) (.cons (.cst (.int 10000)) .nil))) (.call 6 (.feed 1 (.cons (.cst (.int 2)) .nil)))) .nil))))) qF)
noncomputable def defs:List Dk:=ents.map (·.k)
noncomputable def gv:Gv:=⟨F9 IX⟩
end K40
end
section
namespace K40
open PySem L2
theorem JY(p:P0):JX (head.heap_39 p)=KQ:=by kernel_rfl
theorem Kw(p:P0):CW (head.heap_39 p) gn IX=KQ:=by kernel_rfl
theorem Kx(p:P0):CU (head.heap_39 p) G6 ents=KQ:=by kernel_rfl
end K40
end
section
namespace K40
open PySem L2
noncomputable abbrev parts(s:Li)(st:MU):Option (Li×Li×P7×List MU×MT):=KJ (s,s,cP st,bR st,ak st)
theorem Ky(p:P0):(tM (head.heap_39 p) "_law_feed").map gQ=parts "_law_feed" K40d.wy:=by kernel_rfl
theorem IY:oX (cP K40d.wy) ["_law_script"]=KQ:=by kernel_rfl
theorem Kz(p:P0):(tM (head.heap_39 p) "law").map gQ=parts "law" K40d.oW:=by kernel_rfl
theorem IZ:oX (cP K40d.oW) ["_law_script"]=KQ:=by kernel_rfl
theorem I9:(CL G6 ⟨qG,ak K40d.oW,KQ,[]⟩ rest (bR K40d.oW).tail).ok=KQ:=by kernel_rfl
theorem I_:GZ qG ["_law_script"] (ak K40d.oW)=KQ:=by kernel_rfl
theorem Ja:eh ⟨qG,ak K40d.oW,KQ,[]⟩ 1 "_law_feed_here"=KQ:=by kernel_rfl
theorem Jb:b_ ⟨qG,ak K40d.oW,KQ,[]⟩ 0 "_law_script"=KQ:=by kernel_rfl
theorem Jc:bX ⟨qG,ak K40d.oW,KQ,[]⟩ "_law_feed"=KQ:=by kernel_rfl
theorem KC:dn=ents.map (·.x):=by kernel_rfl
theorem KD(p:P0):(tM (head.heap_39 p) "_law_draw").map gQ=parts "_law_draw" K40d.oV:=by kernel_rfl
theorem Jd:oX (cP K40d.oV) ["_law_feed_here","_law_many"]=KQ:=by kernel_rfl
section
variable{P:Le}{w:Ly}{mg:Li->Option KO}{base h:Lx}{p:P0}
theorem wJ(X:Pe (head.heap_39 p) h)(G:h.Ns LU mg)(a:mg "len"=KP):DN P w (head.heap_39 p) mg base "_law_draw" 2 K40d.r8:=by
 obtain⟨f,fd,F,e,B⟩:=ky (KD p) Jd;exact K40d.wz F a (O3 X G e) (.all B)
theorem zf(X:Pe (head.heap_39 p) h)(G:h.Ns LU mg)(a:mg "list"=KP):∃f fd,dI P w (head.heap_39 p) mg base pA 1 f fd ["_law_script"] (qp (head.heap_39 p))/\mg "_law_feed"=KJ (.ref f)/\N9 (head.heap_39 p) (.ref f)=KQ/\Binds (head.heap_39 p) fd ["_law_script"] []:=by
 obtain⟨f,fd,F,e,B⟩:=ky (Ky p) IY;exact⟨f,fd,ze F K40d.CP a rfl rfl,O3 X G e,F.kp,.all B⟩
end
end K40
end
section
namespace K40
open PySem L2
noncomputable def sf(e:En):Bool:=match e.k with
 |.wit _=>KQ|.df _=>KR
theorem Je:(ents.filter sf).map (λe=>(e.x,e.k))=[(KN "_law_draw",.wit K40d.r8)]:=by kernel_rfl
theorem txt{P:Le}{w:Ly}{mg:Li->Option KO}{base h:Lx}(X:Pe (head.heap_39 w.params) h)(G:h.Ns LU mg):iU P w (head.heap_39 w.params) mg base G6 defs gv:=by
 have b:mg "len"=KP:=by
  have:=List.all_eq_true.mp (JY w.params) (KN "len") (by simp[cV]);split at this;.rename_i e;exact RW X G e
  .cases this
 refine CY (ds:=IX) X G KC (Kx w.params) (Kw w.params) (JY w.params) λe j t g=>?_;have i:e∈ents.filter sf:=List.mem_filter.mpr ⟨j,by unfold sf;rw[g]⟩;have a:(e.x,e.k)∈(ents.filter sf).map λe=>(e.x,e.k):=Ry (f:=λe:En=>(e.x,e.k)) i;rw[Je]at a;have d:=List.mem_singleton.mp a;injection d with l c;rw[g]at c;injection c with c;subst c;rw[l];exact⟨2,wJ X G b⟩
theorem Ga(whole:(au (gv.ev (aH defs gv 39)) rest (KP::KJ .feed::Mp (qG.length-2) KP)).kW 1000000 (λd=>d=.rt (.bl KQ)))(p:P0):∃f fd,Og (head.heap_39 p) LU "law"=KJ (KJ (.ref f))/\(∀us:List KO,us.length=1->R0 fd ⟨us,[]⟩=pure ([KN "_law_script"].zip us))/\∀{P:Le}{w:Ly}{mg:Li->Option KO}{base:Lx},w.params=p->Pe (head.heap_39 p) base->base.Ns LU mg->dI P w (head.heap_39 p) mg base pA 40 f fd ["_law_script"] (wI (head.heap_39 p)):=by
 obtain⟨f,fd,F,c,b⟩:=ky (Kz p) IZ;refine⟨f,fd,c,b,λ{P w mg base}a X G=>?_⟩;subst a;have T:iU P w (head.heap_39 w.params) mg base G6 defs gv:=txt X G;exact CZ (n:=38) (m:=1000000) T F (wF I_) (zf X G (T.bl _ (y8 rfl))) rfl Ja Jb Jc (Ch.of I9) (by decide) whole
end K40
end
section
namespace L2
namespace T
variable{α β:Type}
noncomputable def G7:T α->Nat->(α->Nat->Prop)->Prop
 |.ok a,m,Q=>Q a m|.stuck,_,_=>False|.draw n k,m,Q=>0<n/\n<1073741824/\0<m/\∀i,0<=i->i<n->(k i).G7 (m-1) Q|.perm l k,m,Q=>∀b,b.Perm l->(k b).G7 m Q
@[irreducible]def wp(t:T α)(m:Nat)(Q:α->Nat->Prop):Prop:=G7 t m Q
theorem sh(t:T α)(m:Nat)(Q:α->Nat->Prop):t.wp m Q=t.G7 m Q:=by unfold wp;rfl
theorem aw(a:α)(m:Nat)(Q:α->Nat->Prop):(T.ok a).wp m Q=Q a m:=by rw[sh];rfl
theorem fi(m:Nat)(Q:α->Nat->Prop):(T.stuck:T α).wp m Q=False:=by rw[sh];rfl
theorem gR(n:Int)(k:Int->T α)(m:Nat)(Q:α->Nat->Prop):(T.draw n k).wp m Q=(0<n/\n<1073741824/\0<m/\∀i,0<=i->i<n->(k i).wp (m-1) Q):=by simp only[sh];rfl
theorem gS(l:List D)(k:List D->T α)(m:Nat)(Q:α->Nat->Prop):(T.perm l k).wp m Q=∀l',l'.Perm l->(k l').wp m Q:=by simp only[sh];rfl
theorem wp_pure(a:α)(m:Nat)(Q:α->Nat->Prop):(pure a:T α).wp m Q=Q a m:=aw a m Q
theorem mY{P:α->Prop}:∀{t:T α}{m:Nat},t.wp m (λa _=>P a)->t.kW m P
 |.ok a,m,h=>.ok (by rw[aw]at h;exact h)|.stuck,_,h=>by rw[fi]at h;exact h.elim|.draw n k,m,h=>by
  rw[gR]at h;obtain⟨f,e,g,d⟩:=h;cases m with
  |zero=>omega|succ m=>exact .draw f e λi a b=>mY (d i a b)
 |.perm l k,m,h=>by
  rw[gS]at h;exact .perm λc p=>mY (h c p)
theorem wp_mono{Q Q':α->Nat->Prop}(q:∀a m,Q a m->Q' a m):∀{t:T α}{m:Nat},t.wp m Q->t.wp m Q'
 |.ok a,m,h=>by rw[aw]at h⊢;exact q _ _ h|.stuck,_,h=>by rw[fi]at h;exact h.elim|.draw n k,m,h=>by
  rw[gR]at h⊢;exact⟨h.1,h.2.1,h.2.2.1,λi a b=>wp_mono q (h.2.2.2 i a b)⟩|.perm l k,m,h=>by
  rw[gS]at h⊢;exactλc p=>wp_mono q (h c p)
theorem wp_bind(f:α->T β):∀(t:T α)(m:Nat)(Q:β->Nat->Prop),(t>>=f).wp m Q=t.wp m (λa b=>(f a).wp b Q)
 |.ok a,m,Q=>by rw[aw];rfl|.stuck,_,_=>by rw[fi];exact fi _ _|.draw n k,m,Q=>by
  rw[gR];show(T.draw n λi=>k i>>=f).wp m Q=_;rw[gR];simp only[wp_bind f]|.perm l k,m,Q=>by
  rw[gS];show(T.perm l λi=>k i>>=f).wp m Q=_;rw[gS];simp only[wp_bind f]
theorem bE(b:Bool)(m:Nat)(Q:Unit->Nat->Prop):(T.need b).wp m Q=(b=KQ/\Q () m):=by
 unfold T.need;cases b with
 |true=>simp[aw]|false=>simp[fi]
theorem eB(a:α)(m:Nat)(Q:α->Nat->Prop):(T.get (KJ a)).wp m Q=Q a m:=aw a m Q
theorem zg(b:Bool)(x y:T α)(m:Nat)(Q:α->Nat->Prop):(if b=KQ then x else y).wp m Q=if b=KQ then x.wp m Q else y.wp m Q:=by split<;>rfl
end T
theorem eC{g:D->ah->T ah}{body:ah->T Fl}{Q:Fl->Nat->Prop}(I:List D->ah->Nat->Prop)(step:∀d ds ρ m,I (d::ds) ρ m->(g d ρ).wp m λc j=>(body c).wp j λi e=>match i with
   |.nx a=>I ds a e|.ct a=>I ds a e|.bk a=>Q (.nx a) e|.rt r=>Q (.rt r) e|.ro _=>False)(b:∀ρ m,I [] ρ m->Q (.nx ρ) m):∀{ds:List D}{ρ:ah}{m:Nat},I ds ρ m->(e_ g body ds ρ).wp m Q
 |[],ρ,m,h=>by
  show(T.ok (Fl.nx ρ)).wp m Q;rw[T.aw];exact b ρ m h|d::ds,ρ,m,h=>by
  unfold e_;rw[T.wp_bind];refine T.wp_mono (λc j k=>?_) (step d ds ρ m h);rw[T.wp_bind];refine T.wp_mono (λi e f=>?_) k;cases i with
  |nx a=>exact eC I step b f|ct a=>exact eC I step b f|bk a=>exact(T.aw _ _ _).mpr f|rt r=>exact(T.aw _ _ _).mpr f|ro r=>exact f.elim
theorem ag{b c:Type}(a:b)(f:b->T c):(T.ok a>>=f)=f a:=rfl
theorem t8(v:Ev):(∀i ρ,ao v (.var i) ρ=T.get (cH ρ i))/\(∀d ρ,ao v (.cst d) ρ=.ok d)/\(∀i ρ,ao v (.iT i) ρ=T.get (v.iT i))/\(∀o a b ρ,ao v (.op o a b) ρ=do let d<-ao v a ρ;let e<-ao v b ρ;vX o d e)/\(∀a ρ,ao v (.neg a) ρ=do let i<-bO (<-ao v a ρ);.ok (.int (-i)))/\(∀o a b ρ,ao v (.cmp o a b) ρ=do let d<-ao v a ρ;let e<-ao v b ρ;bA o d e)/\(∀a b ρ,ao v (.and a b) ρ=do let c<-aK (<-ao v a ρ);if c then ao v b ρ else .ok (.bl KR))/\(∀a b ρ,ao v (.or a b) ρ=do let c<-aK (<-ao v a ρ);if c then .ok (.bl KQ)else ao v b ρ)/\(∀c a b ρ,ao v (.xo c a b) ρ=do let x<-bh v c ρ;if x then ao v a ρ else ao v b ρ)/\(∀a ρ,ao v (.one a) ρ=ao v a ρ)/\(∀a ρ,ao v (.not a) ρ=do let c<-aK (<-ao v a ρ);.ok (.bl (!c)))/\(∀o o' a b c ρ,ao v (.DJ o o' a b c) ρ=do let d<-ao v a ρ;let e<-ao v b ρ;let y<-aK (<-bA o d e);if y then do let f<-ao v c ρ;bA o' e f else .ok (.bl KR))/\(∀r ρ,ao v (.tup r) ρ=do let ds<-fU (<-fW v r ρ);T.need (decide (ds.length<=M3));.ok (.tup ds))/\(∀r ρ,ao v (.lst r) ρ=do let ds<-fU (<-fW v r ρ);T.need (decide (ds.length<=M3));.ok (.lst ds))/\(∀a b ρ,ao v (.idx a b) ρ=do let d<-ao v a ρ;let e<-ao v b ρ;e8 d e)/\(∀a lo k ρ,ao v (.cut a lo k) ρ=do let d<-ao v a ρ;let l<-Cj v lo ρ;let u<-Cj v k ρ;vY l u d)/\(∀f r ρ,ao v (.bi f r) ρ=do kN f (<-fU (<-fW v r ρ)))/\(∀f r ρ,ao v (.call f r) ρ=do let as<-fW v r ρ;v.call f as)/\(∀y a ρ,ao v (.kM y a) ρ=do gJ y (<-ao v a ρ))/\(∀own j tg it c g ρ,ao v (.lc own j tg it c g) ρ=do let ds<-nq v it ρ;let r<-dR (gi tg) (λρ=>bh v c ρ) (λρ=>ao v g ρ) ds (cQ ρ own.length j);.ok (.lst r))/\(∀i e ρ,ao v (.lO i e) ρ=do let d<-ao v e (pD i ρ);T.need (flat (hU ρ i) d);.ok d)/\(∀a ρ,ao v (.low a) ρ=do Cg (<-ao v a ρ))/\(∀a ρ,ao v (.Cd a) ρ=do Ci (<-ao v a ρ))/\(∀a st ρ,ao v (.rev a st) ρ=do let d<-ao v a ρ;let z<-bO (<-ao v st ρ);T.need (decide (z=-1));oN d)/\(∀r ρ,ao v (.vW r) ρ=do Fh (<-fU (<-fW v r ρ)))/\(∀f i h r ρ,ao v (.oK f i h r) ρ=do T.need (fV ρ i);let bs<-fW v r ρ;let d<-v.oM h bs;v.call f [.feed,.own d]):=⟨λ_ _=>rfl,λ_ _=>rfl,λ_ _=>rfl,λ_ _ _ _=>rfl,λ_ _=>rfl,λ_ _ _ _=>rfl,λ_ _ _=>rfl,λ_ _ _=>rfl,λ_ _ _ _=>rfl,λ_ _=>rfl,λ_ _=>rfl,λ_ _ _ _ _ _=>rfl,λ_ _=>rfl,λ_ _=>rfl,λ_ _ _=>rfl,λ_ _ _ _=>rfl,λ_ _ _=>rfl,λ_ _ _=>rfl,λ_ _ _=>rfl,λ_ _ _ _ _ _ _=>rfl,λ_ _ _=>rfl,λ_ _=>rfl,λ_ _=>rfl,λ_ _ _=>rfl,λ_ _=>rfl,λ_ _ _ _ _=>rfl⟩
theorem G8(v:Ev):(∀ρ,bh v .yes ρ=.ok KQ)/\(∀a b ρ,bh v (.jc a b) ρ=do let c<-bh v a ρ;if c then bh v b ρ else .ok KR)/\(∀a b ρ,bh v (.fG a b) ρ=do let c<-bh v a ρ;if c then .ok KQ else bh v b ρ)/\(∀a ρ,bh v (.bj a) ρ=bh v a ρ)/\(∀a ρ,bh v (.bz a) ρ=do let c<-bh v a ρ;.ok (!c))/\(∀a ρ,bh v (.fP a) ρ=do yZ (<-ao v a ρ))/\(∀o a b ρ,bh v (.ax o a b) ρ=do let d<-ao v a ρ;let e<-ao v b ρ;aK (<-bA o d e))/\(∀o o' a b c ρ,bh v (.oJ o o' a b c) ρ=do let d<-ao v a ρ;let e<-ao v b ρ;let y<-aK (<-bA o d e);if y then do let f<-ao v c ρ;aK (<-bA o' e f)else .ok KR)/\(∀a i ρ,bh v (.xp a i) ρ=do let d<-ao v a ρ;let g<-T.get (e7 ρ i);T.need (aE g.1 d);.ok (bN g.1 d))/\(∀i e ρ,bh v (.lO i e) ρ=bh v e (pD i ρ)):=⟨λ_=>rfl,λ_ _ _=>rfl,λ_ _ _=>rfl,λ_ _=>rfl,λ_ _=>rfl,λ_ _=>rfl,λ_ _ _ _=>rfl,λ_ _ _ _ _ _=>rfl,λ_ _ _=>rfl,λ_ _ _=>rfl⟩
theorem zh(v:Ev):(∀ρ,fW v .nil ρ=.ok [])/\(∀a r ρ,fW v (.cons a r) ρ=do let d<-ao v a ρ;let xs<-fW v r ρ;.ok (.d d::xs))/\(∀i r ρ,fW v (.feed i r) ρ=do T.need (fV ρ i);let xs<-fW v r ρ;.ok (.feed::xs))/\(∀ρ,Cj v .nil ρ=.ok KP)/\(∀a ρ,Cj v (.one a) ρ=do let i<-bO (<-ao v a ρ);.ok (KJ i)):=⟨λ_=>rfl,λ_ _ _=>rfl,λ_ _ _=>rfl,λ_=>rfl,λ_ _=>rfl⟩
theorem Jf(v:Ev):(∀r ρ,nq v (.ij r) ρ=do match<-fU (<-fW v r ρ)with|[d]=>y7 d|_=>.stuck)/\(∀a ρ,nq v (.bG a) ρ=do T.get (cB (<-ao v a ρ))):=⟨λ_ _=>rfl,λ_ _=>rfl⟩
theorem tN:(∀i d ρ,gi (.nm i) d ρ=.ok (ρ.set i (KJ (.d d))))/\(∀n r ds ρ,gi (.tup n r) (.tup ds) ρ=if ds.length=n then ip r ds ρ else .stuck)/\(∀n r ds ρ,gi (.tup n r) (.lst ds) ρ=if ds.length=n then ip r ds ρ else .stuck)/\(∀ρ,ip .nil [] ρ=.ok ρ)/\(∀t r d ds ρ,ip (.cons t r) (d::ds) ρ=do let ρ'<-gi t d ρ;ip r ds ρ'):=⟨λ_ _ _=>rfl,λ_ _ _ _=>rfl,λ_ _ _ _=>rfl,λ_=>rfl,λ_ _ _ _ _=>rfl⟩
theorem di(v:Ev)(s r:aZ)(ρ:ah):au v (.cons s r) ρ=(do match<-au v s ρ with|.nx a=>au v r a|b=>.ok b):=rfl
theorem si(v:Ev)(i:Nat)(e:Ex)(ρ:ah):au v (.set i e) ρ=(do let d<-ao v e ρ;.ok (.nx (ρ.set i (KJ (.d d))))):=rfl
theorem Gb(v:Ev):(∀tg e ρ,au v (.asg tg e) ρ=do let d<-ao v e ρ;let g<-gi tg d ρ;.ok (.nx g))/\(∀i e ρ,au v (.set i e) ρ=do let d<-ao v e ρ;.ok (.nx (ρ.set i (KJ (.d d)))))/\(∀i j r ρ,au v (.par i j r) ρ=do match<-fU (<-fW v r ρ)with|[d,e]=>.ok (.nx ((ρ.set i (KJ (.d d))).set j (KJ (.d e))))|_=>.stuck)/\(∀e ρ,au v (.ret e) ρ=do let d<-ao v e ρ;.ok (.rt d))/\(∀ρ,au v .nil ρ=.ok (.nx ρ))/\(∀s r ρ,au v (.cons s r) ρ=do match<-au v s ρ with|.nx g=>au v r g|o=>.ok o)/\(∀c a b ρ,au v (.iff c a b) ρ=do let x<-bh v c ρ;if x then au v a ρ else au v b ρ)/\(∀tg it b ρ,au v (.e9 tg it b) ρ=do e_ (gi tg) (au v b) (<-nq v it ρ) ρ)/\(∀i r ρ,au v (.ql i r) ρ=do T.need (vB ρ);let ds<-fU (<-fW v r ρ);T.need (decide (ds.length<=M3));.ok (.nx (ρ.set i (KJ (.own (.lst ds))))))/\(∀i ρ,au v (.hU i) ρ=do T.need (vB ρ);.ok (.nx (ρ.set i (KJ (.own (.aR [] []))))))/\(∀i e ρ,au v (.app i e) ρ=do let ds<-c_ (<-T.get (eX ρ i));let d<-ao v e ρ;T.need (decide (ds.length<M3));.ok (.nx (ρ.set i (KJ (.own (.lst (ds++[d])))))))/\(∀i k e ρ,au v (.put i k e) ρ=do let d<-ao v e ρ;let f<-oO (<-T.get (eX ρ i));let q<-ao v k ρ;T.need (decide (f.1.length<M3)&&aE f.1 q);.ok (.nx (ρ.set i (KJ (.own (.aR (putD f.1 f.2 q d).1 (putD f.1 f.2 q d).2))))))/\(∀i s ρ,au v (.fz i s) ρ=au v s (pD i ρ))/\(∀i e ρ,au v (.ext i e) ρ=do let ds<-c_ (<-T.get (eX ρ i));let l<-c_ (<-ao v e ρ);T.need (decide (ds.length+l.length<=M3));.ok (.nx (ρ.set i (KJ (.own (.lst (ds++l)))))))/\(∀i r ρ,au v (.vZ i r) ρ=do T.need (vB ρ);match<-fU (<-fW v r ρ)with|[d]=>(do let j<-bO d;T.need (decide (0<=j)&&decide (j<=1000000));.ok (.nx (ρ.set i (KJ (.own (.lst (aC j.toNat)))))))|_=>.stuck)/\(∀i ρ,au v (.v7 i) ρ=do T.need (v_ i ρ);.ok (.nx (ρ.set i (KJ (.fK [] [])))))/\(∀i k ρ,au v (.putN i k) ρ=do let f<-T.get (e7 ρ i);let q<-ao v k ρ;T.need (decide (f.1.length<M3)&&(aE f.1 q&&!bN f.1 q));.ok (.nx (ρ.set i (KJ (.fK (f.1++[q]) (f.2++[.lst []]))))))/\(∀i k e ρ,au v (.jd i k e) ρ=do let f<-T.get (e7 ρ i);let q<-ao v k ρ;T.need (aE f.1 q);let ys<-c_ (<-T.get (aG f.1 f.2 q));let d<-ao v e ρ;T.need (decide (ys.length<M3));.ok (.nx (ρ.set i (KJ (.fK f.1 (vM (λ_=>.lst (ys++[d])) q f.1 f.2))))))/\(∀i ρ,au v (.v8 i) ρ=do let f<-T.get (e7 ρ i);.ok (.ro (.aR f.1 f.2)))/\(∀i n h k it e ρ,au v (.v9 i n h k it e) ρ=do let m<-c_ (<-T.get (eX ρ i));let ds<-nq v it ρ;let r<-tJ (λρ=>ao v e ρ) ρ i h ds m;.ok (.rt (.lst r))):=⟨λ_ _ _=>rfl,λ_ _ _=>rfl,λ_ _ _ _=>rfl,λ_ _=>rfl,λ_=>rfl,λ_ _ _=>rfl,λ_ _ _ _=>rfl,λ_ _ _ _=>rfl,λ_ _ _=>rfl,λ_ _=>rfl,λ_ _ _=>rfl,λ_ _ _ _=>rfl,λ_ _ _=>rfl,λ_ _ _=>rfl,λ_ _ _=>rfl,λ_ _=>rfl,λ_ _ _=>rfl,λ_ _ _ _=>rfl,λ_ _=>rfl,λ_ _ _ _ _ _ _=>rfl⟩
theorem bY{g:D->ah->T ah}{tc:ah->T Bool}{te:ah->T D}{c:D->Bool}{e:D->D}(S:ah->Prop):∀{ds:List D}{ρ:ah},(∀ρ,S ρ->∀d∈ds,∃b,g d ρ=.ok b/\S b/\tc b=.ok (c d)/\(c d=KQ->te b=.ok (e d)))->S ρ->dR g tc te ds ρ=.ok ((ds.filter c).map e)
 |[],ρ,_,_=>rfl|d::ds,ρ,h,o=>by
  obtain⟨b,n,m,l,k⟩:=h ρ o d K5;have i:=bY S (ds:=ds) (ρ:=b) (λρ a x j=>h ρ a x (K4 _ j)) m;unfold dR;rw[n,ag,l,ag];cases f:c d with
  |true=>rw[if_pos rfl,k f,ag,i,ag,List.filter_cons_of_pos f];rfl|false=>rw[if_neg (by simp),i,List.filter_cons_of_neg (by simp[f])]
end L2
namespace K40
open PySem L2 K40d
noncomputable abbrev V(n:Nat):Ev:=gv.ev (aH defs gv n)
theorem wK(n f:Nat)(as:List A):(V n).call f as=aW defs gv n f as:=rfl
theorem C0(n f:Nat)(as:List A):(V n).oM f as=r6 defs gv n f as:=rfl
noncomputable def t9:Fl->T D
 |.rt d=>.ok d|.nx _=>.ok .bx|_=>.stuck
noncomputable def JZ:Fl->T D
 |.ro d=>.ok d|_=>.stuck
theorem T.jo{d c e:Type}(f:d->T c)(b:c->T e):∀(t:T d),((t>>=f)>>=b)=(t>>=λa=>f a>>=b)
 |.ok a=>rfl|.stuck=>rfl|.draw n k=>by
  show T.draw n (λi=>((k i>>=f)>>=b))=T.draw n (λi=>(k i>>=λa=>f a>>=b));congr 1;funext i;exact T.jo f b (k i)|.perm l k=>by
  show T.perm l (λi=>((k i>>=f)>>=b))=T.perm l (λi=>(k i>>=λa=>f a>>=b));congr 1;funext i;exact T.jo f b (k i)
theorem wL{n f:Nat}{as:List A}{d:Df}(h:defs[f]?=KJ (.df d))(a:as.length=d.np):aH defs gv (n+1) f as=(au (V n) d.body (bW d.nn as)>>=DL):=by
 show(match defs[f]? with
  |none=>T.stuck|some (.wit t)=>t as|some (.df d)=>if as.length=d.np then do DL (<-au (V n) d.body (bW d.nn as))else .stuck)=_;rw[h];show(if as.length=d.np then _ else _)=_;rw[if_pos a]
theorem aT{n f:Nat}{as:List A}{d:Df}(h:defs[f]?=KJ (.df d))(a:as.length=d.np):aW defs gv (n+1) f as=(au (V n) d.body (bW d.nn as)>>=t9):=by
 show aH defs gv (n+1) f as>>=toD=_;rw[wL h a,T.jo];congr 1;funext b;cases b<;>rfl
theorem zi{n f:Nat}{as:List A}{d:Df}(h:defs[f]?=KJ (.df d))(a:as.length=d.np):r6 defs gv (n+1) f as=(au (V n) d.body (bW d.nn as)>>=JZ):=by
 show aH defs gv (n+1) f as>>=Fg=_;rw[wL h a,T.jo];congr 1;funext b;cases b<;>rfl
theorem tO(n:Nat)(k:Int):aW defs gv (n+1) 6 [.feed,.d (.int k)]=.draw k λi=>.ok (.int i):=rfl
theorem gX:1000000<=KZ:=by decide
theorem sd{k:Nat}(h:k<=1000000):decide (k<=KZ)=KQ:=decide_eq_true (L_ h gX)
theorem Jg{a:D}{r:List D}:fy (a::r) 0=KJ a:=dk (j:=0) rfl
theorem Jh{a b:D}{r:List D}:fy (a::b::r) 1=KJ b:=dk (j:=1) rfl
theorem Gc{xs:List D}{i:Int}{d:D}(a:0<=i)(h:xs[i.toNat]?=KJ d):fy xs i=KJ d:=by
 have:=dk h;rwa[show((i.toNat:Nat):Int)=i by omega]at this
theorem Wp{c:Type}:(∀(a:c)(m:Nat)(Q:c->Nat->Prop),(T.ok a).wp m Q=Q a m)/\(∀(a:c)(m:Nat)(Q:c->Nat->Prop),(pure a:T c).wp m Q=Q a m)/\(∀(a:c)(m:Nat)(Q:c->Nat->Prop),(T.get (KJ a)).wp m Q=Q a m)/\(∀(n:Int)(k:Int->T c)(m:Nat)(Q:c->Nat->Prop),(T.draw n k).wp m Q=(0<n/\n<1073741824/\0<m/\∀i,0<=i->i<n->(k i).wp (m-1) Q))/\(∀(l:List D)(k:List D->T c)(m:Nat)(Q:c->Nat->Prop),(T.perm l k).wp m Q=∀l',l'.Perm l->(k l').wp m Q)/\∀(b:Bool)(x y:T c)(m:Nat)(Q:c->Nat->Prop),(if b=KQ then x else y).wp m Q=if b=KQ then x.wp m Q else y.wp m Q:=⟨T.aw,T.wp_pure,T.eB,T.gR,T.gS,T.zg⟩
theorem Lm{b c:Type}(f:b->c):(∀(a:b)(l:List b),(a::l).map f=f a::l.map f)/\([]:List b).map f=[]:=⟨λ_ _=>rfl,rfl⟩
theorem Ls{c:Type}:(∀(a:c)(l r:List c),(a::l)++r=a::(l++r))/\(∀l:List c,[]++l=l)/\(∀(a:c)(l:List c),(a::l).length=l.length+1)/\([]:List c).length=0/\(∀(a b:c)(l:List c),(a::l).set 0 b=b::l)/\(∀(a b:c)(l:List c)(n:Nat),(a::l).set (n+1) b=a::l.set n b)/\(∀(a:c)(l:List c),(a::l)[0]?=KJ a)/\∀(a:c)(l:List c)(n:Nat),(a::l)[n+1]?=l[n]?:=⟨λ_ _ _=>rfl,λ_=>rfl,λ_ _=>rfl,rfl,λ_ _ _=>rfl,λ_ _ _ _=>rfl,λ_ _=>rfl,λ_ _ _=>rfl⟩
theorem Ix:(∀(xs:List D)(i:Int),e8 (.lst xs) (.int i)=T.get (fy xs i))/\(∀(xs:List D)(i:Int),e8 (.tup xs) (.int i)=T.get (fy xs i))/\(∀(a:D)(r:List D),fy (a::r) 0=KJ a)/\(∀(a b:D)(r:List D),fy (a::b::r) 1=KJ b)/\(∀i j:Int,bA .Lt (.int i) (.int j)=.ok (.bl (decide (i<j))))/\(∀i j:Int,bA .Gt (.int i) (.int j)=.ok (.bl (decide (j<i))))/\(∀i j:Int,bA .LtE (.int i) (.int j)=.ok (.bl (decide (i<=j))))/\(∀i j:Int,bA .Eq (.int i) (.int j)=.ok (.bl (i==j)))/\(∀i j:Int,vX .Add (.int i) (.int j)=.ok (.int (i+j)))/\(∀i j:Int,vX .Sub (.int i) (.int j)=.ok (.int (i-j)))/\(vX .Pow (.int 10) (.int 6)=.ok (.int 1000000))/\(vX .Pow (.int 10) (.int 30)=.ok (.int 1000000000000000000000000000000))/\(∀i j:Int,vX .Mult (.int i) (.int j)=(do T.need (c8 i||c8 j);.ok (.int (i*j))))/\(∀b,yZ (.bl b)=.ok b):=⟨λ_ _=>rfl,λ_ _=>rfl,λ_ _=>Jg,λ_ _ _=>Jh,λ_ _=>rfl,λ_ _=>rfl,λ_ _=>rfl,λ_ _=>rfl,λ_ _=>rfl,λ_ _=>rfl,rfl,rfl,λ_ _=>rfl,λ_=>rfl⟩
local macro_rules|`(tactic|subst_eqs)=>`(tactic|simp only[Gb,t8,G8,zh,Jf,tN,fU,bO,aK,Wp,T.wp_bind,T.bE,ag,wK,C0,tO,cH,eX,e7,pD,fV,c_,oO,bW,A.w,y7,Lm,Ls,Mp,O4,Nat.reduceSub,true_and,and_true,t9,JZ,Ix,if_true])
theorem G9:decide (0<=KZ)=KQ:=sd (by decide)
theorem zj:decide (1<=KZ)=KQ:=sd (by decide)
theorem wM:decide (2<=KZ)=KQ:=sd (by decide)
theorem J3:decide (3<=KZ)=KQ:=sd (by decide)
theorem Cl{b:Type}(a:b):T.get (KJ a)=.ok a/\(pure a:T b)=.ok a:=⟨rfl,rfl⟩
theorem Sd:T.need KQ=.ok ()/\decide (0<=KZ)=KQ/\decide (1<=KZ)=KQ/\decide (2<=KZ)=KQ/\decide (3<=KZ)=KQ:=⟨rfl,G9,zj,wM,J3⟩
local macro_rules|`(tactic|bv_omega)=>`(tactic|simp only[t8,G8,zh,tN,fU,bO,aK,ag,cH,Cl,Sd,Ix,Lm,Ls,O4,if_true])
theorem sj{g:T ah}{body:ah->T Fl}{m:Nat}{c:Fl->Nat->Prop}(h:∀Q:Fl->Nat->Prop,(∀d m,c d m->Q d m)->g.wp m λa b=>(body a).wp b Q):g.wp m λa b=>(body a).wp b c:=h c λ_ _ z=>z
theorem dC{b:Type}{t:T b}{m:Nat}{c:b->Nat->Prop}(h:∀Q:b->Nat->Prop,(∀a m,c a m->Q a m)->t.wp m Q):t.wp m c:=h c λ_ _ z=>z
theorem br{v:Ev}{s r:aZ}{ρ a:ah}(h:au v s ρ=.ok (.nx a)):au v (.cons s r) ρ=au v r a:=by rw[di,h];rfl
theorem mZ{v:Ev}{i:Nat}{e:Ex}{r:aZ}{d:D}{ρ:ah}(h:ao v e ρ=.ok d):au v (.cons (.set i e) r) ρ=au v r (ρ.set i (KJ (.d d))):=br (by rw[si,h];rfl)
theorem bZ{v:Ev}{i:Nat}{e:Ex}{r:aZ}{ρ:ah}{m:Nat}{Q:Fl->Nat->Prop}(h:(ao v e ρ).wp m λd a=>(au v r (ρ.set i (KJ (.d d)))).wp a Q):(au v (.cons (.set i e) r) ρ).wp m Q:=by
 rw[di,si,T.wp_bind,T.wp_bind];simp only[T.aw];exact h
theorem kI{i j:Int}(h:0<=i/\i<1000):(c8 i||c8 j)=KQ:=by
 have:c8 i=KQ:=by simp[c8];omega
 rw[this];rfl
inductive LI(k s:Int)(m:Nat)(ds:List D)(ρ:ah)(m':Nat):Prop|mk(xs:List Int)(x:Int)(o:Option W)(eρ:ρ=[KJ .feed,KJ (.d (.int k)),KJ (.d (.int s)),KJ (.d (.int x)),KJ (.own (.lst ((xs++[x]).map D.int))),o])(g1:m<=m'+xs.length+1)(g3:xs.length+1+ds.length=k)(g4:∀y∈xs++[x],0<=y/\y<=260000)(g6:x<=60000*xs.length+20000)(g7:(xs++[x]).Pairwise (·<·))
theorem zk{n:Nat}{k s:Int}{m:Nat}(Y:2<=k/\k<=5)(B:s=1\/s=10000)(X:10<=m):(aW defs gv (n+2) 7 [.feed,.d (.int k),.d (.int s)]).wp m (λd t=>m<=t+7/\∃xs:List Int,d=.lst (xs.map D.int)/\(xs.length:Int)=k/\(∀x∈xs,0<=x/\x<=1000000)/\xs.Pairwise (·<·)):=by
 have z:=gX;rw[aT (d:=fe) rfl rfl];unfold fe;refine dC λQ C=>?_;rw[T.wp_bind];have S:1<=s/\s<=10000:=by omega
 subst_eqs;refine⟨by omega,by omega,by omega,λi M Z=>⟨kI ⟨M,by omega⟩,rfl,sd (by decide),by simp;omega,?_⟩⟩;refine eC (LI k s m) ?_ ?_ ⟨[],i*s,KP,by simp,by simp;omega,by simp[aC];omega,?_,?_,by simp⟩
 .rintro d ds ρ I⟨xs,x,o,rfl,E,r,j,H,g7⟩;simp only[LP]at r;refine sj λQ C=>?_;unfold r_;subst_eqs;refine⟨by omega,by omega,by omega,λw R P=>⟨kI ⟨by omega,by omega⟩,by simp;omega,C _ _ ?_⟩⟩;have J:=j x (by simp);have hw:1<=(1+w)*s/\(1+w)*s<=60000:=by rcases B with rfl|rfl<;>omega
  refine LI.mk (xs++[x]) (x+(1+w)*s) (KJ (.d d)) (by simp) (by simp;omega) (by simp;omega) (λy f=>?_) (by simp;omega) ?_
  .rcases List.mem_append.mp f with h|h;.exact j y h
   .rw[List.mem_singleton.mp h];constructor;.omega
    .simp at H r⊢;omega
  .rw[List.pairwise_append];refine⟨g7,by simp,λa ha b hb=>?_⟩;rw[List.mem_singleton.mp hb];rcases List.mem_append.mp ha with z|z
   .have:=(List.pairwise_append.mp g7).2.2 a z x (by simp);omega
   .rw[List.mem_singleton.mp z];omega
 .rintro ρ I⟨xs,x,o,rfl,E,r,j,H,g7⟩;simp only[Md]at r;unfold r9;have A:∀(q:List Int)(w:W)(p:Nat),w=.own (.lst (q.map D.int))\/w=.d (.lst (q.map D.int))->m<=p+7->(q.length:Int)=k->(∀x∈q,0<=x/\x<=1000000)->q.Pairwise (·<·)->(au (V (n+1)) jn [KJ .feed,KJ (.d (.int k)),KJ (.d (.int s)),KJ (.d (.int x)),KJ w,o]).wp p (λF t=>(t9 F).wp t Q):=λq w p hw E N r j=>by
   unfold jn;rcases hw with rfl|rfl<;>(subst_eqs;exact C _ _ ⟨E,q,rfl,N,r,j⟩)
  have l:∀p,m<=p+7->(au (V (n+1)) jn [KJ .feed,KJ (.d (.int k)),KJ (.d (.int s)),KJ (.d (.int x)),KJ (.own (.lst ((xs++[x]).map D.int))),o]).wp p (λF t=>(t9 F).wp t Q):=λp L=>A (xs++[x]) _ p (.inl rfl) L (by simp;omega) (λy f=>⟨(j y f).1,by have:=(j y f).2;omega⟩) g7;subst_eqs;by_cases v:1<s
  .rw[decide_eq_true v,if_pos rfl];refine⟨by omega,by omega,by omega,λi i0 U=>?_⟩;by_cases G:i=0
   .subst G;rw[if_pos (by simp)];have O:=bY (g:=gi (.nm 0)) (tc:=λρ=>T.ok KQ) (te:=λρ=>ao (V (n+1)) mT ρ) (c:=λ_=>KQ) (e:=λd=>match d with|.int y=>.int (y+1000000-x)|d=>d) (λρ=>∃o,ρ=[o,KJ (.d (.int x))]) (ds:=(xs++[x]).map D.int) (ρ:=cQ [KJ .feed,KJ (.d (.int k)),KJ (.d (.int s)),KJ (.d (.int x)),KJ (.d (.lst ((xs++[x]).map D.int))),o] 1 [3]) (by
     rintro ρ⟨o,rfl⟩d hd;obtain⟨y,f,rfl⟩:=List.mem_map.mp hd;refine⟨_,rfl,⟨_,rfl⟩,rfl,λ_=>?_⟩;unfold mT;bv_omega) ⟨KP,rfl⟩;simp only[cB,T.eB];rw[O,T.aw];have em:(List.filter (λ_=>KQ) ((xs++[x]).map D.int)).map (λd=>match d with|.int y=>.int (y+1000000-x)|d=>d)=((xs++[x]).map λy=>y+1000000-x).map D.int:=by rw[List.filter_eq_self.mpr (λ_ _=>rfl),LD,LD];rfl
    rw[em];have J:=j x (by simp);refine A _ _ _ (.inr rfl) (by omega) (by simp;omega) (λy f=>?_) ?_
    .obtain⟨u,hu,rfl⟩:=List.mem_map.mp f;have K:=j u hu;have:u<=x:=by
      rcases List.mem_append.mp hu with z|z;.have:=(List.pairwise_append.mp g7).2.2 u z x (by simp);omega
      .rw[List.mem_singleton.mp z];exact PQ _
     omega
    .rw[Sb];exact g7.imp λ{a b}h=>by omega
   .rw[if_neg (by simpa using G)];exact l _ (by omega)
  .rw[decide_eq_false v,if_neg (by simp)];exact l _ (by omega)
 .intro y f;have:y=i*s:=by simpa using f
  rw[this];rcases B with rfl|rfl<;>omega
 .rcases B with rfl|rfl<;>simp<;>omega
abbrev Kt:=Int×Int
noncomputable def kn(p:Kt):D:=.tup [.int p.1,.int p.2]
abbrev Gr:=List (Kt×List Kt)
noncomputable def bw(G:Gr):List D:=G.map λp=>kn p.1
noncomputable def dj(G:Gr):List D:=G.map λp=>.lst (p.2.map kn)
noncomputable def gt:Gr->Kt->Option (List Kt)
 |[],_=>KP|(k,l)::r,q=>if k=q then KJ l else gt r q
theorem fJ(p q:Kt):eI (kn p) (kn q)=decide (p=q):=by
 show(decide (p.1=q.1)&&(decide (p.2=q.2)&&KQ))=_;rw[MF];simp[Pj]
theorem gh(q:Kt):∀(G:Gr),aG (bw G) (dj G) (kn q)=(gt G q).map λl=>.lst (l.map kn)
 |[]=>rfl|(k,l)::r=>by
  have a:=gh q r;unfold bw dj at a⊢;simp only[Ll,aG,fJ,gt,a,decide_eq_true_eq];split<;>rfl
theorem sk(q:Kt):∀(G:Gr),bN (bw G) (kn q)=(gt G q).isSome
 |[]=>rfl|(k,l)::r=>by
  have a:=sk q r;unfold bN bw at a⊢;simp only[Ll,ND,fJ,gt,a];by_cases h:k=q<;>simp[h]
theorem b5(G:Gr)(q:Kt):aE (bw G) (kn q)=KQ:=by
 unfold aE;rw[Mf];right;rw[K0];refine⟨List.all_eq_true.mpr λx a=>?_,rfl⟩;obtain⟨p,_,rfl⟩:=List.mem_map.mp a;rfl
noncomputable def sg(G:Gr)(q:Kt)(l:List Kt):Gr:=G.map λp=>if p.1=q then(p.1,l)else p
theorem kJ{G:Gr}{q:Kt}{l:List Kt}(k:Kt):gt (sg G q l) k=if k=q then(gt G k).map λ_=>l else gt G k:=by induction G with
 |nil=>simp[sg,gt]|cons p r d=>
  obtain⟨a,b⟩:=p;unfold sg at d⊢;simp only[Ll];by_cases e:a=q
  .subst e;rw[if_pos rfl];simp only[gt];by_cases c:a=k;.subst c;simp
   .rw[if_neg c,if_neg c,d]
  .rw[if_neg e];simp only[gt];by_cases c:a=k;.subst c;simp[e]
   .rw[if_neg c,if_neg c,d]
theorem fj(G:Gr)(q:Kt)(l:List Kt):(sg G q l).map (·.1)=G.map (·.1):=by
 unfold sg;rw[LD];refine LY λp _=>?_;simp only[NJ];split<;>rfl
theorem qH(G:Gr)(q:Kt)(l:List Kt):bw (sg G q l)=bw G:=by
 have:=congrArg (List.map kn) (fj G q l);simpa[bw,LD,Se]using this
theorem wN(q:Kt)(l:List Kt):∀(G:Gr),gD (bw G) (dj G) (kn q) (.lst (l.map kn))=dj (sg G q l)
 |[]=>rfl|(a,b)::r=>by
  have c:=wN q l r;unfold bw dj sg at c⊢;simp only[Ll,gD,fJ,c,decide_eq_true_eq];by_cases h:a=q<;>simp[h]
theorem zZ{G:Gr}{q:Kt}(l:List Kt)(h:(gt G q).isSome=KQ):putD (bw G) (dj G) (kn q) (.lst (l.map kn))=(bw (sg G q l),dj (sg G q l)):=by
 unfold putD;rw[sk,if_pos h,wN,qH]
theorem fk{G:Gr}{k:Kt}:(gt G k).isSome=KQ↔k∈G.map (·.1):=by induction G with
 |nil=>simp[gt]|cons p r c=>
  obtain⟨a,b⟩:=p;simp only[gt,Ll,MA];by_cases h:a=k;.simp[h]
  .rw[if_neg h,c];constructor;.exact .inr
   .rintro(rfl|z);.exact absurd rfl h
    .exact z
theorem C1{f:D->D}{q:Kt}{l l':List Kt}(g:f (.lst (l.map kn))=.lst (l'.map kn)):∀{G:Gr},(G.map (·.1)).Nodup->gt G q=KJ l->vM f (kn q) (bw G) (dj G)=dj (sg G q l')
 |[],_,h=>by simp[gt]at h|(a,b)::r,nd,h=>by
  simp only[Ll,M9]at nd;have d:=C1 (q:=q) g (G:=r) nd.2;unfold bw dj sg at d⊢;simp only[Ll,vM,fJ,decide_eq_true_eq];simp only[gt]at h;by_cases e:a=q
  .subst e;rw[if_pos rfl]at h;cases h;rw[if_pos rfl,if_pos rfl,g];have:∀p∈r,(if p.1=a then(p.1,l')else p)=p:=λp c=>if_neg λ(z:p.1=a)=>nd.1 (by rw[<-z];exact Ry (f:=λx:Kt×List Kt=>x.1) c);congr 1;rw[LD];refine LY λp c=>?_;simp only[NJ,this p c]
  .rw[if_neg e]at h;rw[if_neg e,if_neg e,d h]
noncomputable def je(k t:Kt):Prop:=(t.1=k.1/\t.2≠k.2)\/(t.2=k.2/\t.1≠k.1)
noncomputable def dD(k t u:Kt):Prop:=(t.1=k.1/\u.1=k.1/\(k.2<t.2↔k.2<u.2))\/(t.2=k.2/\u.2=k.2/\(k.1<t.1↔k.1<u.1))
structure Ji(G:Gr)(k:Kt)(l:List Kt):Prop where
 nd:l.Nodup
 ln:∀t∈l,je k t
 sy:∀t∈l,∃l',gt G t=KJ l'/\k∈l'
 on:∀t∈l,∀u∈l,t≠u->¬dD k t u
noncomputable def Joins(G:Gr):Prop:=∀k l,gt G k=KJ l->Ji G k l
noncomputable def to(k b t:Kt):Kt:=if t≠k then t else b
theorem Joins.merge{G:Gr}{k a b:Kt}{d m:List Kt}(J:Joins G)(X:gt G k=KJ [a,b])(ha:gt G a=KJ d)(hb:gt G b=KJ m)(hl:a.1=b.1\/a.2=b.2):a≠b/\Joins (sg (sg (sg G a (d.map (to k b))) b (m.map (to k a))) k []):=by
 have ok:=J k _ X;have f:a≠b:=λz=>by have:=ok.nd;simp[z]at this
 refine⟨f,?_⟩;have L:=ok.ln a (by simp);have K:=ok.ln b (by simp);have ns:=ok.on a (by simp) b (by simp) f;have c:=J a _ ha;have H:=J b _ hb;have p:k∈d:=by obtain⟨M,e,h⟩:=ok.sy a (by simp);rw[ha]at e;cases e;exact h
 have v:k∈m:=by obtain⟨M,e,h⟩:=ok.sy b (by simp);rw[hb]at e;cases e;exact h
 have a0:a.1≠b.1\/a.2≠b.2:=by
  by_cases h:a.1=b.1;.right;intro z;exact f (Prod.ext h z)
  .exact .inl h
 unfold je at L K;unfold dD at ns;have a4:(a.1=k.1/\b.1=k.1/\(a.2<k.2/\k.2<b.2\/b.2<k.2/\k.2<a.2))\/(a.2=k.2/\b.2=k.2/\(a.1<k.1/\k.1<b.1\/b.1<k.1/\k.1<a.1)):=by omega
 have o:k≠a:=λz=>by rw[z]at L;omega
 have n:k≠b:=λz=>by rw[z]at K;omega
 have D:∀u:Kt,dD a b u↔dD a k u:=λu=>by unfold dD;omega
 have Q:∀u:Kt,dD b a u↔dD b k u:=λu=>by unfold dD;omega
 have C:∀u:Kt,dD a u b↔dD a u k:=λu=>by unfold dD;omega
 have P:∀u:Kt,dD b u a↔dD b u k:=λu=>by unfold dD;omega
 have w:b∉d:=λh=>by
  have:=c.on k p b h n;apply this;unfold dD;omega
 have Z:a∉m:=λh=>by
  have:=H.on k v a h o;apply this;unfold dD;omega
 have E:je a b:=by unfold je;omega
 have U:je b a:=by unfold je;omega
 have g:∀x,gt (sg (sg (sg G a (d.map (to k b))) b (m.map (to k a))) k []) x=if x=k then KJ []else if x=b then KJ (m.map (to k a))else if x=a then KJ (d.map (to k b))else gt G x:=λx=>by
  rw[kJ,kJ,kJ];by_cases i:x=k;.subst i;simp[o,n,X]
  .rw[if_neg i,if_neg i];by_cases q:x=b;.subst q;simp[LS f,hb]
   .rw[if_neg q,if_neg q];by_cases j:x=a;.subst j;simp[ha]
    .rw[if_neg j,if_neg j]
 have one:∀(a b:Kt)(d m:List Kt)(r:Gr),gt r k=KJ []->gt r a=KJ (d.map (to k b))->gt r b=KJ (m.map (to k a))->(∀x,x≠k->x≠a->x≠b->gt r x=gt G x)->Ji G a d->k∈d->k∈m->b∉d->je a b->(∀u,dD a b u↔dD a k u)->(∀u,dD a u b↔dD a u k)->k≠a->a≠b->k≠b->Ji r a (d.map (to k b)):=by
  intro a b d m r g1 g2 g3 g4 c p v w E D C o f n;have mem:∀t∈d.map (to k b),t=b\/t∈d/\t≠k:=λt B=>by
   obtain⟨u,hu,rfl⟩:=List.mem_map.mp B;unfold to;by_cases h:u=k;.left;simp[h]
   .right;rw[if_pos h];exact⟨hu,h⟩
  refine⟨?_,λt B=>?_,λt B=>?_,λt B u hu I=>?_⟩
  .refine PU (R:=λx y=>x≠y/\x∈d/\y∈d) _ (λx y h=>?_) (Ow (λ{x y}s V h=>⟨h,s,V⟩) c.nd);unfold to;obtain⟨i,q,j⟩:=h;split
   .split;.exact i
    .intro z;exact w (z▸q)
   .rename_i s;split;.intro z;exact w (z▸j)
    .rename_i V;exact absurd ((Decidable.not_not.mp s).trans (Decidable.not_not.mp V).symm) i
  .rcases mem t B with rfl|⟨h,_⟩;.exact E
   .exact c.ln t h
  .rcases mem t B with rfl|⟨h,W⟩;.exact⟨_,g3,List.mem_map.mpr ⟨k,v,by unfold to;rw[if_neg (by simp)]⟩⟩
   .obtain⟨M,e,F⟩:=c.sy t h;have T:t≠a:=λz=>by have:=c.ln t h;rw[z]at this;unfold je at this;omega
    have S:t≠b:=λz=>w (z▸h);exact⟨M,by rw[g4 t W T S];exact e,F⟩
  .rcases mem t B with rfl|⟨i,q⟩
   .rcases mem u hu with rfl|⟨j,h4⟩;.exact absurd rfl I
    .rw[D];exact c.on k p u j (LS h4)
   .rcases mem u hu with rfl|⟨j,h4⟩;.rw[C];exact c.on t i k p q
    .exact c.on t i u j I
 generalize sg (sg (sg G a (d.map (to k b))) b (m.map (to k a))) k []=r at g⊢;have Y:gt r k=KJ []:=by rw[g,if_pos rfl]
 have N:gt r b=KJ (m.map (to k a)):=by rw[g,if_neg (LS n),if_pos rfl]
 have O:gt r a=KJ (d.map (to k b)):=by rw[g,if_neg (LS o),if_neg f,if_pos rfl]
 have go:∀x,x≠k->x≠a->x≠b->gt r x=gt G x:=λx i q j=>by rw[g,if_neg i,if_neg j,if_neg q]
 intro x l s;by_cases i:x=k
 .subst i;rw[Y]at s;cases s;exact⟨by simp,by simp,by simp,by simp⟩
 by_cases q:x=a
 .subst q;rw[O]at s;cases s;exact one x b d m r Y O N go c p v w E D C o f n
 by_cases j:x=b
 .subst j;rw[N]at s;cases s;exact one x a m d r Y N O (λy a1 a2 a3=>go y a1 a3 a2) H v p Z U Q P n (LS f) o
 rw[go x i q j]at s;have A:=J x l s;refine⟨A.nd,A.ln,λt B=>?_,A.on⟩;obtain⟨M,e,F⟩:=A.sy t B;by_cases t1:t=k
 .subst t1;rw[X]at e;cases e;simp at F;rcases F with z|z;.exact absurd z q
  .exact absurd z j
 by_cases t2:t=a
 .subst t2;rw[ha]at e;cases e;exact⟨_,O,List.mem_map.mpr ⟨x,F,by unfold to;rw[if_pos i]⟩⟩
 by_cases t3:t=b
 .subst t3;rw[hb]at e;cases e;exact⟨_,N,List.mem_map.mpr ⟨x,F,by unfold to;rw[if_pos i]⟩⟩
 exact⟨M,by rw[go t t1 t2 t3];exact e,F⟩
theorem wO{n j:Nat}(h:j<n):(aC n).drop j=.int (j:Int)::(aC n).drop (j+1):=by
 have a:j<(aC n).length:=by simpa[aC]using h
 rw[Nu a];congr 1;simp[aC]
theorem m6{g:D->ah->T ah}{body:ah->T Fl}{Q:Fl->Nat->Prop}{n:Nat}(I:Nat->ah->Nat->Prop)(step:∀j ρ m,j<n->I j ρ m->(g (.int (j:Int)) ρ).wp m λc p=>(body c).wp p λl i=>match l with
   |.nx b=>I (j+1) b i|.rt r=>Q (.rt r) i|_=>False)(o:∀ρ m,I n ρ m->Q (.nx ρ) m){ρ:ah}{m:Nat}(h:I 0 ρ m):(e_ g body (aC n) ρ).wp m Q:=by
 refine eC (λq ρ m=>∃j,j<=n/\q=(aC n).drop j/\I j ρ m) (λd q ρ m k=>?_) (λρ m k=>?_) ⟨0,Mr _,by simp,h⟩
 .obtain⟨j,s,e,h⟩:=k;have a:j<n:=by
   by_cases a:j<n;.exact a
   .rw[List.drop_of_length_le (by simp[aC];omega)]at e;cases e
  rw[wO a]at e;cases e;refine T.wp_mono (λc p t=>T.wp_mono (λl i f=>?_) t) (step j ρ m a h);cases l with
  |nx b=>exact⟨j+1,a,rfl,f⟩|rt r=>exact f|bk _=>exact f.elim|ct _=>exact f.elim|ro _=>exact f
 .obtain⟨j,s,e,h⟩:=k;have:j=n:=by
   have:=congrArg OD e;simp[aC]at this;omega
  subst this;exact o ρ m h
structure KG(c:Int)(G:Gr)(j i:Int):Prop where
 nd:(G.map (·.1)).Nodup
 km:∀k:Kt,k∈G.map (·.1)↔(0<=k.1/\k.1<c/\0<=k.2/\(k.2<j\/k.2=j/\k.1<i))em:∀k l,gt G k=KJ l->l=[]ln:G.length<=j*c+i
noncomputable abbrev yB(c r:Int)(G:Gr)(o4 o5:Option W):ah:=[KJ .feed,KJ (.d (.int c)),KJ (.d (.int r)),KJ (.fK (bw G) (dj G)),o4,o5,KP,KP,KP,KP]
theorem C2{G:Gr}{q:Kt}{l:List Kt}(k:Kt)(h:gt G q=KP):gt (G++[(q,l)]) k=if k=q then KJ l else gt G k:=by induction G with
 |nil=>
  by_cases e:k=q;.simp[gt,e]
  .have g:¬q=k:=λz=>e z.symm;simp[gt,e,g]|cons p r f=>
  obtain⟨a,b⟩:=p;simp only[gt]at h;by_cases c:a=q;.rw[if_pos c]at h;cases h
  .rw[if_neg c]at h;simp only[List.cons_append,gt];rw[f h];by_cases d:a=k;.subst d;simp[c]
   .simp[d]
theorem C4{n:Nat}{c r:Int}{m:Nat}(D:2<=c/\c<=5)(y:2<=r/\r<=5){Q:Fl->Nat->Prop}(w:∀G o4 o5,KG c G r 0->Q (.nx (yB c r G o4 o5)) m):(e_ (gi (.nm 4)) (au (V n) kE) (aC r.toNat) (yB c r [] KP KP)).wp m Q:=by
 have z:=gX;refine m6 (λj f o=>o=m/\∃G o4 o5,f=yB c r G o4 o5/\KG c G j 0) ?_ ?_ ⟨rfl,[],KP,KP,rfl,⟨by simp,λk=>⟨λh=>(by simp at h),λh=>by omega⟩,λk l h=>(by simp[gt]at h),by simp⟩⟩
 .rintro j f s B⟨rfl,G,o4,o5,rfl,K⟩;rw[tN.1,T.aw];refine dC λH q=>?_;unfold kE;subst_eqs;refine⟨by simp;omega,?_⟩;refine m6 (λi f o=>o=s/\∃G o5,f=yB c r G (KJ (.d (.int j))) o5/\KG c G j i) ?_ ?_ ⟨rfl,G,o5,rfl,K⟩
  .rintro i f t C⟨rfl,G,o5,rfl,K⟩;rw[tN.1,T.aw];refine dC λF p=>?_;unfold pd;have g:gt G ((i:Int),(j:Int))=KP:=by
    have:¬(gt G ((i:Int),(j:Int))).isSome=KQ:=λh=>by
     have:=(K.km _).mp (fk.mp h);simp at this
    simpa using this
   have A:=K.ln;have u:aE (bw G) (.tup [.int (i:Int),.int (j:Int)])=KQ:=b5 G ((i:Int),(j:Int));have v:bN (bw G) (.tup [.int (i:Int),.int (j:Int)])=KR:=by
    have:=sk ((i:Int),(j:Int)) G;rw[g]at this;exact this
   subst_eqs;refine⟨sd (by decide),?_,p _ _ ⟨rfl,G++[(((i:Int),(j:Int)),[])],KJ (.d (.int i)),?_,?_⟩⟩
   .rw[u,v];have:(bw G).length<KZ:=by
     have e:(bw G).length=G.length:=by simp[bw]
     have:(j:Int)*c<=4*5:=by
      have a1:(j:Int)<=4:=by omega
      have E:0<=(j:Int):=by omega
      rcases(by omega:(j:Int)=0\/(j:Int)=1\/(j:Int)=2\/(j:Int)=3\/(j:Int)=4)with h|h|h|h|h<;>rw[h]<;>omega
     omega
    simp[this]
   .show _=yB c r (G++[(((i:Int),(j:Int)),[])]) _ _;unfold yB bw dj;simp[kn]
   .refine⟨?_,λk=>?_,λk l h=>?_,by simp;omega⟩
    .rw[M7,PV];refine⟨K.nd,by simp,λa ha b hb e=>?_⟩;simp at hb;subst hb;rw[<-fk,e,g]at ha;cases ha
    .rw[M7,List.mem_append,K.km];simp only[Ll,Nh,List.mem_singleton,Pj];omega
    .rw[C2 _ g]at h;split at h;.cases h;rfl
     .exact K.em k l h
  .rintro f t⟨rfl,G,o5,rfl,K⟩;subst_eqs;refine q _ _ ⟨rfl,G,_,_,rfl,⟨K.nd,λk=>?_,K.em,?_⟩⟩
   .rw[K.km];omega
   .have:=K.ln;have e:((c.toNat:Nat):Int)=c:=by omega
    rw[e]at this;have x:(((j+1:Nat):Int))*c+0=(j:Int)*c+c:=by rw[Int.natCast_add];simp[Int.add_mul]
    rw[x];exact this
 .rintro f s⟨rfl,G,o4,o5,rfl,K⟩;refine w G o4 o5 ?_;have e:((r.toNat:Nat):Int)=r:=by omega
  rw[e]at K;exact K
noncomputable def Bf(j i d:Int)(p:Kt)(e:Int):Prop:=p.2<j\/p.2=j/\(p.1<i\/p.1=i/\e<d)
noncomputable def Nb(j i d:Int)(k t:Kt):Prop:=(t.1=k.1+1/\t.2=k.2/\Bf j i d k 0)\/(t.1=k.1/\t.2=k.2+1/\Bf j i d k 1)\/(k.1=t.1+1/\k.2=t.2/\Bf j i d t 0)\/(k.1=t.1/\k.2=t.2+1/\Bf j i d t 1)
structure LG(c r:Int)(G:Gr)(j i d many:Int):Prop where
 nd:(G.map (·.1)).Nodup
 km:∀k:Kt,k∈G.map (·.1)↔(0<=k.1/\k.1<c/\0<=k.2/\k.2<r)ok:∀k l,gt G k=KJ l->l.Nodup/\(l.length:Int)<=many/\∀t∈l,Nb j i d k t/\∃l',gt G t=KJ l'/\k∈l'
 mn:0<=many/\many<=90
 sz:G.length<=25
theorem LG.go{c r:Int}{G:Gr}{j i d j' i' d' many:Int}(h:LG c r G j i d many)(q:∀p e,(e=0\/e=1)->Bf j i d p e->Bf j' i' d' p e):LG c r G j' i' d' many:=⟨h.nd,h.km,λk l e=>by
  obtain⟨n,m,g⟩:=h.ok k l e;refine⟨n,m,λt f=>⟨?_,(g t f).2⟩⟩;rcases(g t f).1 with⟨a,b,c⟩|⟨a,b,c⟩|⟨a,b,c⟩|⟨a,b,c⟩;.exact .inl ⟨a,b,q _ _ (.inl rfl) c⟩
  .exact .inr (.inl ⟨a,b,q _ _ (.inr rfl) c⟩)
  .exact .inr (.inr (.inl ⟨a,b,q _ _ (.inl rfl) c⟩))
  .exact .inr (.inr (.inr ⟨a,b,q _ _ (.inr rfl) c⟩)),h.mn,h.sz⟩
theorem LG.join{c r:Int}{G:Gr}{j i d many:Int}{t:Kt}{n m:List Kt}(h:LG c r G j i d many)(hd:d=0/\t=(i+1,j)\/d=1/\t=(i,j+1))(ha:gt G (i,j)=KJ n)(hb:gt G t=KJ m)(O:many<90):(i,j)≠t/\LG c r (sg (sg G (i,j) (n++[t])) t (m++[(i,j)])) j i (d+1) (many+1):=by
 have nt:(i,j)≠t:=by rcases hd with⟨_,rfl⟩|⟨_,rfl⟩<;>(intro z;simp[Pj]at z;omega)
 refine⟨nt,?_⟩;have M:=h.go (j':=j) (i':=i) (d':=d+1) λp e _ b=>by unfold Bf at*;omega
 have K:¬Nb j i d (i,j) t:=by
  unfold Nb Bf;rcases hd with⟨rfl,rfl⟩|⟨rfl,rfl⟩<;>simp<;>omega
 have C:¬Nb j i d t (i,j):=by
  unfold Nb Bf;rcases hd with⟨rfl,rfl⟩|⟨rfl,rfl⟩<;>simp<;>omega
 have yes:Nb j i (d+1) (i,j) t:=by
  unfold Nb Bf;rcases hd with⟨rfl,rfl⟩|⟨rfl,rfl⟩<;>simp
 have A:Nb j i (d+1) t (i,j):=by
  unfold Nb Bf;rcases hd with⟨rfl,rfl⟩|⟨rfl,rfl⟩<;>simp
 have J:t∉n:=λz=>K ((h.ok _ _ ha).2.2 t z).1;have D:(i,j)∉m:=λz=>C ((h.ok _ _ hb).2.2 _ z).1;have g:∀x,gt (sg (sg G (i,j) (n++[t])) t (m++[(i,j)])) x=if x=t then KJ (m++[(i,j)])else if x=(i,j)then KJ (n++[t])else gt G x:=λx=>by
  rw[kJ,kJ];by_cases q:x=t;.subst q;simp[LS nt,hb]
  .rw[if_neg q,if_neg q];by_cases o:x=(i,j);.subst o;simp[ha]
   .rw[if_neg o,if_neg o]
 have E:gt (sg (sg G (i,j) (n++[t])) t (m++[(i,j)])) t=KJ (m++[(i,j)]):=by rw[g,if_pos rfl]
 have F:gt (sg (sg G (i,j) (n++[t])) t (m++[(i,j)])) (i,j)=KJ (n++[t]):=by rw[g,if_neg nt,if_pos rfl]
 have keep:∀x l y,gt G x=KJ l->y∈l->∃v,gt (sg (sg G (i,j) (n++[t])) t (m++[(i,j)])) x=KJ v/\y∈v:=λx l y e L=>by
  by_cases q:x=t;.subst q;rw[hb]at e;cases e;exact⟨_,E,M0 _ L⟩
  .by_cases o:x=(i,j);.subst o;rw[ha]at e;cases e;exact⟨_,F,M0 _ L⟩
   .exact⟨l,by rw[g,if_neg q,if_neg o];exact e,L⟩
 refine⟨by rw[fj,fj];exact h.nd,λk=>by rw[fj,fj];exact h.km k,λk l e=>?_,by have:=h.mn;omega,by unfold sg;rw[Lv,Lv];exact h.sz⟩;rw[g]at e;by_cases q:k=t
 .subst q;rw[if_pos rfl]at e;cases e;obtain⟨B,N,s⟩:=M.ok _ _ hb;refine⟨?_,by simp;omega,λu hu=>?_⟩
  .rw[PV];exact⟨B,by simp,λa w b f z=>by simp at f;subst f;exact D (z▸w)⟩
  .rcases List.mem_append.mp hu with hu|hu
   .obtain⟨v,I,H⟩:=(s u hu).2;exact⟨(s u hu).1,keep u v _ I H⟩
   .rw[List.mem_singleton.mp hu];exact⟨A,_,F,by simp⟩
 .rw[if_neg q]at e;by_cases o:k=(i,j)
  .subst o;rw[if_pos rfl]at e;cases e;obtain⟨B,N,s⟩:=M.ok _ _ ha;refine⟨?_,by simp;omega,λu hu=>?_⟩
   .rw[PV];exact⟨B,by simp,λa w b f z=>by simp at f;subst f;exact J (z▸w)⟩
   .rcases List.mem_append.mp hu with hu|hu
    .obtain⟨v,I,H⟩:=(s u hu).2;exact⟨(s u hu).1,keep u v _ I H⟩
    .rw[List.mem_singleton.mp hu];exact⟨yes,_,E,by simp⟩
  .rw[if_neg o]at e;obtain⟨B,N,s⟩:=M.ok _ _ e;refine⟨B,by omega,λu hu=>?_⟩;obtain⟨v,I,H⟩:=(s u hu).2;exact⟨(s u hu).1,keep u v _ I H⟩
noncomputable abbrev ee(c r:Int)(G:Gr)(j i:Int)(f:Bool)(many:Int)(a o9:Option W):ah:=[KJ .feed,KJ (.d (.int c)),KJ (.d (.int r)),KJ (.fK (bw G) (dj G)),KJ (.d (.int j)),KJ (.d (.int i)),KJ (.d (.bl f)),KJ (.d (.int many)),a,o9]
theorem KE(a b c:Int):bA .In (.int a) (.tup [.int b,.int c])=.ok (.bl (b==a||(c==a||KR))):=rfl
theorem C8{n:Nat}{c r j i many:Int}{G:Gr}{f:Bool}{t:Kt}{o9:Option W}:∃b,ao (V n) (.or (.and (.cmp .Eq (.var 5) (.idx (.var 8) (.cst (.int 0)))) (.one (.cmp .In (.var 5) (.tup (.cons (.cst (.int 0)) (.cons (.op .Sub (.var 1) (.cst (.int 1))) .nil)))))) (.one (.and (.cmp .Eq (.var 4) (.idx (.var 8) (.cst (.int 1)))) (.one (.cmp .In (.var 4) (.tup (.cons (.cst (.int 0)) (.cons (.op .Sub (.var 2) (.cst (.int 1))) .nil)))))))) (ee c r G j i f many (KJ (.d (kn t))) o9)=.ok (.bl b):=by
 unfold kn;bv_omega;simp only[KE,ag];cases(i==t.1)<;>cases(0==i||(c-1==i||KR))<;>cases(j==t.2)<;>exact⟨_,rfl⟩
theorem so{n:Nat}{c r j i d many:Int}{G:Gr}{f:Bool}{t:Kt}{o9:Option W}{m:Nat}(L:LG c r G j i d many)(F:0<=i/\i<c/\0<=j/\j<r)(hd:d=0/\t=(i+1,j)\/d=1/\t=(i,j+1))(hm:1<=m){Q:Fl->Nat->Prop}(K:∀O o C g,m<=g+1->LG c r O j i (d+1) o->Q (.nx (ee c r O j i f o (KJ (.d (kn t))) C)) g):(au (V (n+1)) kC (ee c r G j i f many (KJ (.d (kn t))) o9)).wp m Q:=by
 have z:=gX;unfold kC;obtain⟨b,hb⟩:=C8 (n:=n+1) (c:=c) (r:=r) (j:=j) (i:=i) (many:=many) (G:=G) (f:=f) (t:=t) (o9:=o9);rw[mZ hb];have es:(ee c r G j i f many (KJ (.d (kn t))) o9).set 9 (KJ (.d (.bl b)))=ee c r G j i f many (KJ (.d (kn t))) (KJ (.d (.bl b))):=rfl;rw[es];have dW:∀g,m<=g+1->Q (.nx (ee c r G j i f many (KJ (.d (kn t))) (KJ (.d (.bl b))))) g:=λg h=>K G many _ g h (L.go λp e _ q=>by unfold Bf at*;omega);have P:=b5 G t;have E:aE (bw G) (.tup [.int i,.int j])=KQ:=b5 G (i,j);obtain⟨k,ha⟩:∃k,gt G (i,j)=KJ k:=Option.isSome_iff_exists.mp (fk.mpr ((L.km (i,j)).mpr F));have D:aG (bw G) (dj G) (.tup [.int i,.int j])=KJ (.lst (k.map kn)):=by
  have:=gh (i,j) G;rw[ha]at this;exact this
 have U:=(L.ok _ _ ha).2.1;have mn:=L.mn;have yes:∀g,m<=g+1->(gt G t).isSome=KQ->many<90->(au (V (n+1)) (.cons (.jd 3 (.tup (.cons (.var 5) (.cons (.var 4) .nil))) (.var 8)) (.cons (.jd 3 (.var 8) (.tup (.cons (.var 5) (.cons (.var 4) .nil)))) (.cons (.set 7 (.op .Add (.var 7) (.cst (.int 1)))) .nil))) (ee c r G j i f many (KJ (.d (kn t))) (KJ (.d (.bl b))))).wp g Q:=λg h R H=>by
  obtain⟨s,hb⟩:=Option.isSome_iff_exists.mp R;obtain⟨nt,L'⟩:=L.join hd ha hb H;have S:=(L.ok _ _ hb).2.1;have e1:au (V (n+1)) (.jd 3 (.tup (.cons (.var 5) (.cons (.var 4) .nil))) (.var 8)) (ee c r G j i f many (KJ (.d (kn t))) (KJ (.d (.bl b))))=.ok (.nx (ee c r (sg G (i,j) (k++[t])) j i f many (KJ (.d (kn t))) (KJ (.d (.bl b))))):=by
   have v:vM (λ_=>.lst (k.map kn++[kn t])) (.tup [.int i,.int j]) (bw G) (dj G)=dj (sg G (i,j) (k++[t])):=C1 (q:=(i,j)) (l:=k) (l':=k++[t]) (by simp) L.nd ha;simp only[Gb,e7,Ls,Cl,ag];try bv_omega
   rw[E];simp only[Sd,ag,D,Cl,c_];try bv_omega
   rw[show(decide ((k.map kn).length<KZ))=KQ from by simp;omega];simp only[Sd,ag,v];rw[<-qH G (i,j) (k++[t])]
  have x:gt (sg G (i,j) (k++[t])) t=KJ s:=by rw[kJ,if_neg (LS nt)];exact hb
  have e2:au (V (n+1)) (.jd 3 (.var 8) (.tup (.cons (.var 5) (.cons (.var 4) .nil)))) (ee c r (sg G (i,j) (k++[t])) j i f many (KJ (.d (kn t))) (KJ (.d (.bl b))))=.ok (.nx (ee c r (sg (sg G (i,j) (k++[t])) t (s++[(i,j)])) j i f many (KJ (.d (kn t))) (KJ (.d (.bl b))))):=by
   have v:vM (λ_=>.lst (s.map kn++[.tup [.int i,.int j]])) (kn t) (bw (sg G (i,j) (k++[t]))) (dj (sg G (i,j) (k++[t])))=dj (sg (sg G (i,j) (k++[t])) t (s++[(i,j)])):=C1 (q:=t) (l:=s) (l':=s++[(i,j)]) (by simp[kn]) (by rw[fj];exact L.nd) x;simp only[Gb,e7,Ls,Cl,ag];try bv_omega
   rw[b5];simp only[Sd,ag,gh,x,Mt,Cl,c_];try bv_omega
   rw[show(decide ((s.map kn).length<KZ))=KQ from by simp;omega];simp only[Sd,ag,v];rw[<-qH (sg G (i,j) (k++[t])) t (s++[(i,j)])]
  rw[br e1,br e2];subst_eqs;exact K _ _ _ g h L'
 have X:bN (bw G) (kn t)=(gt G t).isSome:=sk t G;generalize Z:(aZ.cons (.jd 3 (.tup (.cons (.var 5) (.cons (.var 4) .nil))) (.var 8)) (.cons (.jd 3 (.var 8) (.tup (.cons (.var 5) (.cons (.var 4) .nil)))) (.cons (.set 7 (.op .Add (.var 7) (.cst (.int 1)))) .nil)))=B at yes⊢;clear Z;subst_eqs;refine⟨P,?_⟩;rw[X];by_cases J:(gt G t).isSome=KQ
 .rw[if_pos J];by_cases I:many<90
  .rw[decide_eq_true I,if_pos rfl];have y:=λg h=>T.wp_mono (Q':=λa g=>(match a with|Fl.nx u=>T.ok (Fl.nx u)|A=>T.ok A:T Fl).wp g Q) (λA m2 Y=>by cases A<;>exact(T.aw _ _ _).mpr Y) (yes g h J I);have N:0<(7:Int)/\(7:Int)<1073741824/\0<m/\∀w:Int,0<=w->w<7->if decide (1<w)=KQ then(au (V (n+1)) B (ee c r G j i f many (KJ (.d (kn t))) (KJ (.d (.bl b))))).wp (m-1) (λa g=>(match a with|Fl.nx u=>T.ok (Fl.nx u)|A=>T.ok A:T Fl).wp g Q)else Q (.nx (ee c r G j i f many (KJ (.d (kn t))) (KJ (.d (.bl b))))) (m-1):=by
    refine⟨by omega,by omega,by omega,λw w0 w1=>?_⟩;by_cases M:1<w;.rw[decide_eq_true M,if_pos rfl];exact y _ (by omega)
    .rw[decide_eq_false M,if_neg (by simp)];exact dW _ (by omega)
   cases f with
   |true=>cases b with
    |true=>exact y m (by omega)|false=>exact N
   |false=>exact N
  .rw[decide_eq_false I];simp only[Lc,if_false];exact dW m (by omega)
 .rw[if_neg J];exact dW m (by omega)
theorem wQ{n:Nat}{c r:Int}{m:Nat}(X:2<=c/\c<=5)(U:2<=r/\r<=5)(hm:200<=m):(r6 defs gv (n+2) 8 [.feed,.d (.int c),.d (.int r)]).wp m (λd x=>m<=x+100/\∃G:Gr,d=.aR (bw G) (dj G)/\(G.map (·.1)).Nodup/\(∀k∈G.map (·.1),0<=k.1/\k.1<c/\0<=k.2/\k.2<r)/\G.length<=25/\Joins G):=by
 have z:=gX;rw[zi (d:=el) rfl rfl];unfold el;refine dC λQ Y=>?_;rw[T.wp_bind];subst_eqs;refine⟨rfl,by simp;omega,?_⟩;refine C4 X U λG P b K=>?_;unfold pb;subst_eqs;refine⟨by omega,by omega,by omega,λw w0 w1=>⟨by simp;omega,?_⟩⟩;have N:=K.ln;have o:G.length<=25:=by
  have:r*c<=25:=by rcases(by omega:r=2\/r=3\/r=4\/r=5)with h|h|h|h<;>rw[h]<;>omega
  omega
 have L0:LG c r G 0 0 0 0:=⟨K.nd,λk=>by rw[K.km];omega,λk l e=>by rw[K.em k l e];exact⟨by simp,by simp,by simp⟩,by omega,o⟩;refine m6 (λj s x=>m<=x+1+10*j/\∃G a b g f,s=[KJ .feed,KJ (.d (.int c)),KJ (.d (.int r)),KJ (.fK (bw G) (dj G)),(if j=0 then P else KJ (.d (.int ((j:Int)-1)))),b,KJ (.d (.bl (decide (0<w)))),KJ (.d (.int a)),g,f]/\G.length<=25/\LG c r G j 0 0 a) ?_ ?_ ⟨by omega,G,0,b,KP,KP,rfl,o,L0⟩
 .rintro j s M hj⟨Z,G,a,b,g,f,rfl,I,L⟩;rw[tN.1,T.aw];refine dC λQ' F=>?_;unfold o_;subst_eqs;refine⟨by simp;omega,?_⟩;refine m6 (λi s x=>M<=x+2*i/\∃G a b g f,s=[KJ .feed,KJ (.d (.int c)),KJ (.d (.int r)),KJ (.fK (bw G) (dj G)),KJ (.d (.int j)),b,KJ (.d (.bl (decide (0<w)))),KJ (.d (.int a)),g,f]/\G.length<=25/\LG c r G j i 0 a) ?_ ?_ ⟨by omega,G,a,b,g,f,rfl,I,L⟩
  .rintro i s S hi⟨H,G,a,b,g,f,rfl,B,L⟩;rw[tN.1,T.aw];refine dC λQ2 E=>?_;unfold oZ;subst_eqs;refine⟨sd (by decide),sd (by decide),sd (by decide),?_⟩;simp only[cB,Wp];unfold e_;rw[T.wp_bind,tN.1,T.aw,T.wp_bind];have b1:0<=(i:Int)/\(i:Int)<c/\0<=(j:Int)/\(j:Int)<r:=by omega
   refine so (t:=((i:Int)+1,(j:Int))) (d:=0) L b1 (.inl ⟨rfl,rfl⟩) (by omega) λG1 D O m3 q1 L1=>?_;dsimp only;unfold e_;rw[T.wp_bind,tN.1,T.aw,T.wp_bind];refine so (t:=((i:Int),(j:Int)+1)) (d:=1) L1 b1 (.inr ⟨rfl,rfl⟩) (by omega) λG2 v J m4 q2 L2=>?_;dsimp only;unfold e_;rw[T.aw];dsimp only;rw[T.aw];refine E _ _ ⟨by omega,G2,v,_,_,_,rfl,?_,L2.go λp e W q=>?_⟩;.exact L2.sz
   .unfold Bf at*;omega
  .rintro s S⟨H,G,a,b,g,f,rfl,B,L⟩;subst_eqs;refine F _ _ ⟨by omega,G,a,b,g,f,by simp,B,L.go λp e W q=>?_⟩;unfold Bf at*;omega
 .rintro s M⟨Z,G,a,b,g,f,rfl,I,L⟩;unfold oY;subst_eqs;refine Y _ _ ⟨by omega,G,rfl,L.nd,λk V=>(L.km k).mp V,I,λk l e=>?_⟩;obtain⟨R,o2,A⟩:=L.ok k l e;refine⟨R,λt y=>?_,λt y=>(A t y).2,λt y u hu C=>?_⟩
  .have:=(A t y).1;unfold Nb at this;unfold je;omega
  .have H:=(A t y).1;have B:=(A u hu).1;have h3:t.1≠u.1\/t.2≠u.2:=by
    by_cases h:t.1=u.1;.right;intro z;exact C (Prod.ext h z)
    .exact .inl h
   unfold Nb at H B;unfold dD;omega
theorem Gd(p q:Kt):cw b8 (kn p) (kn q)=KJ (decide (p=q)):=by
 have h:cw b8 (kn p) (kn q)=KJ (((p.1==q.1)&&((p.2==q.2)&&KQ))&&KQ):=by
  unfold b8 kn;simp only[cw,be,Mt,LP,Md,BEq.rfl]
 rw[h];congr 1;rw[MF];simp[Pj]
theorem Ge(p q:Kt):bA .NotEq (kn p) (kn q)=.ok (.bl (!decide (p=q))):=by
 simp only[bA,Gd];rfl
theorem wR(l:List Kt):jV KQ (l.map kn)=KQ:=by induction l with
 |nil=>rfl|cons a l b=>
  simp only[Ll,jV,b,Bool.and_true];rfl
theorem m9(l:List Kt):flat KQ (.lst (l.map kn))=KQ:=by
 simp only[flat,NH];exact wR l
theorem zl{l:List D}{ks:List Kt}(h:l.Perm (ks.map kn)):∃l':List Kt,l=l'.map kn/\l'.Perm ks:=by
 refine⟨l.map λd=>match d with|.tup [.int a,.int b]=>(a,b)|_=>(0,0),?_,?_⟩
 .rw[LD];refine(QB l).symm.trans (LY λd hd=>?_);obtain⟨p,_,rfl⟩:=List.mem_map.mp (h.subset hd);rfl
 .have:=h.map λd=>match d with|.tup [.int a,.int b]=>(a,b)|_=>((0:Int),(0:Int));rw[LD]at this;refine this.trans (Nw ?_);refine(LY λp _=>?_).trans (QB ks);rfl
theorem C9(l:List Kt):oz (l.map kn)=KQ:=by
 unfold oz;have:(l.map kn).all vG=KQ:=List.all_eq_true.mpr λx a=>by
  obtain⟨p,_,rfl⟩:=List.mem_map.mp a;rfl
 rw[this];simp
noncomputable abbrev aX(G:Gr)(o2 o3 o4 o5:Option W):ah:=[KJ .feed,KJ (.own (.aR (bw G) (dj G))),o2,o3,o4,o5]
theorem sr(G:Gr):(bw G).length=G.length:=by simp[bw]
theorem qI(G:Gr):bw G=(G.map (·.1)).map kn:=by simp[bw]
theorem zm(v:Ev)(i:Nat)(k e:Ex)(ρ:ah):au v (.put i k e) ρ=(do let d<-ao v e ρ;let a<-oO (<-T.get (eX ρ i));let q<-ao v k ρ;T.need (decide (a.1.length<M3)&&aE a.1 q);.ok (.nx (ρ.set i (KJ (.own (.aR (putD a.1 a.2 q d).1 (putD a.1 a.2 q d).2)))))):=rfl
theorem su{n:Nat}{G:Gr}{e:Ex}{i j:Nat}{q k b:Kt}{l:List Kt}{o2 o3 o4 o5:Option W}(m:gt G q=KJ l)(B:G.length<=25)(p:(aX G o2 o3 o4 o5)[i]?=KJ (KJ (.d (kn q))))(t6:i≠1)(t:cQ ((aX G o2 o3 o4 o5).set 1 (KJ (.d (.aR (bw G) (dj G))))) 1 [2,j]=[KP,KJ (.d (kn k)),KJ (.d (kn b))])(v:e=(.xo (.ax .NotEq (.var 0) (.var 1)) (.var 0) (.var 2))):au (V n) (.put 1 (.var i) (.lO 1 (.lc ["_law_there"] [2,j] (.nm 0) (.bG (.idx (.var 1) (.var i))) .yes e))) (aX G o2 o3 o4 o5)=.ok (.nx (aX (sg G q (l.map (to k b))) o2 o3 o4 o5)):=by
 subst v;have z:=gX;have u:ao (V n) (.var i) (aX G o2 o3 o4 o5)=.ok (kn q):=by
  show T.get (cH (aX G o2 o3 o4 o5) i)=_;unfold cH;rw[p];rfl
 have a:ao (V n) (.var i) ((aX G o2 o3 o4 o5).set 1 (KJ (.d (.aR (bw G) (dj G)))))=.ok (kn q):=by
  show T.get (cH _ i)=_;unfold cH;rw[M1 (LS t6),p];rfl
 have f:nq (V n) (.bG (.idx (.var 1) (.var i))) ((aX G o2 o3 o4 o5).set 1 (KJ (.d (.aR (bw G) (dj G)))))=.ok (l.map kn):=by
  show(T.get (cH ((aX G o2 o3 o4 o5).set 1 (KJ (.d (.aR (bw G) (dj G))))) 1)>>=λd=>ao (V n) (.var i) _>>=λe=>e8 d e)>>=(λx=>T.get (cB x))=_;rw[a];show(T.need (aE (bw G) (kn q))>>=λ_=>T.get (aG (bw G) (dj G) (kn q)))>>=(λx=>T.get (cB x))=_;rw[b5,gh,m];rfl
 have w:=bY (g:=gi (.nm 0)) (tc:=λρ=>bh (V n) .yes ρ) (te:=λρ=>ao (V n) (.xo (.ax .NotEq (.var 0) (.var 1)) (.var 0) (.var 2)) ρ) (c:=λ_=>KQ) (e:=λd=>match d with|.tup [.int x,.int y]=>kn (to k b (x,y))|d=>d) (λρ=>∃o,ρ=[o,KJ (.d (kn k)),KJ (.d (kn b))]) (ds:=l.map kn) (ρ:=cQ ((aX G o2 o3 o4 o5).set 1 (KJ (.d (.aR (bw G) (dj G))))) 1 [2,j]) (by
  rintro ρ⟨o,rfl⟩d hd;obtain⟨y,A,rfl⟩:=List.mem_map.mp hd;refine⟨_,rfl,⟨_,rfl⟩,rfl,λ_=>?_⟩;bv_omega;rw[Ge];simp only[ag];show(if(!decide (y=k))=KQ then T.ok (kn y)else T.ok (kn b))=.ok (kn (to k b (y.1,y.2)));unfold to;by_cases h:y=k;.simp[h]
  .simp[h]) ⟨KP,t⟩;have em:((l.map kn).filter (λ_=>KQ)).map (λd=>match d with|.tup [.int x,.int y]=>kn (to k b (x,y))|d=>d)=(l.map (to k b)).map kn:=by rw[List.filter_eq_self.mpr (λ_ _=>rfl),LD,LD];rfl
 have s:ao (V n) (.lO 1 (.lc ["_law_there"] [2,j] (.nm 0) (.bG (.idx (.var 1) (.var i))) .yes (.xo (.ax .NotEq (.var 0) (.var 1)) (.var 0) (.var 2)))) (aX G o2 o3 o4 o5)=.ok (.lst ((l.map (to k b)).map kn)):=by
  show((nq (V n) (.bG (.idx (.var 1) (.var i))) ((aX G o2 o3 o4 o5).set 1 (KJ (.d (.aR (bw G) (dj G)))))>>=λds=>dR (gi (.nm 0)) (λρ=>bh (V n) .yes ρ) (λρ=>ao (V n) (.xo (.ax .NotEq (.var 0) (.var 1)) (.var 0) (.var 2)) ρ) ds (cQ ((aX G o2 o3 o4 o5).set 1 (KJ (.d (.aR (bw G) (dj G))))) 1 [2,j])>>=λr=>T.ok (.lst r))>>=λd=>T.need (flat KQ d)>>=λ_=>T.ok d)=_;rw[f,ag,w,ag,ag,em,m9];rfl
 rw[zm,s,u];show(T.need (decide ((bw G).length<KZ)&&aE (bw G) (kn q))>>=λ_=>T.ok (Fl.nx ((aX G o2 o3 o4 o5).set 1 (KJ (.own (.aR (putD (bw G) (dj G) (kn q) (.lst ((l.map (to k b)).map kn))).1 (putD (bw G) (dj G) (kn q) (.lst ((l.map (to k b)).map kn))).2))))))=_;rw[b5,zZ _ (by rw[m];rfl),show decide ((bw G).length<KZ)=KQ from decide_eq_true (by rw[sr];omega)];rfl
theorem tP{n:Nat}{G:Gr}{m:Nat}(nd:(G.map (·.1)).Nodup)(hG:G.length<=25)(J:Joins G)(hm:60<=m):(aW defs gv (n+2) 9 [.feed,.own (.aR (bw G) (dj G))]).wp m (λd f=>m<=f+30/\∃c:Gr,d=.aR (bw c) (dj c)/\c.map (·.1)=G.map (·.1)/\Joins c):=by
 have z:=gX;rw[aT (d:=dA) rfl rfl];unfold dA;refine dC λQ hQ=>?_;rw[T.wp_bind];subst_eqs;simp only[kN,rX,oA,T.wp_bind,Wp,T.bE,qI,C9];refine⟨by simp;omega,λl v=>?_⟩;obtain⟨l',rfl,pl⟩:=zl v;refine⟨m9 l',?_⟩;rw[<-qI];simp only[cB,T.eB];refine eC (λy N f=>m<=f+25-y.length/\y.length<=25/\(∀d∈y,∃k∈G.map (·.1),d=kn k)/\∃c u r p o,N=aX c u r p o/\c.map (·.1)=G.map (·.1)/\Joins c) ?_ ?_ ⟨by have:=pl.length_eq;simp at this⊢;omega,by have:=pl.length_eq;simp at this⊢;omega,λd hd=>?_,G,KP,KP,KP,KP,rfl,rfl,J⟩
 .rintro d y N A⟨g1,g2,Z,c,u,r,p,o,rfl,t,C⟩;simp only[LP]at g1 g2;obtain⟨k,M,rfl⟩:=Z _ K5;have dW:∀f c u r p o,A<=f+1->c.map (·.1)=G.map (·.1)->Joins c->(m<=f+25-y.length/\y.length<=25/\(∀d∈y,∃k∈G.map (·.1),d=kn k)/\∃G1 p2 p3 p4 p5,aX c u r p o=aX G1 p2 p3 p4 p5/\G1.map (·.1)=G.map (·.1)/\Joins G1):=λf c u r p o h e j=>⟨by omega,by omega,λd hd=>Z d (K4 _ hd),c,u,r,p,o,rfl,e,j⟩;rw[tN.1,T.aw];refine dC λI x=>?_;obtain⟨l,v⟩:∃l,gt c k=KJ l:=Option.isSome_iff_exists.mp (fk.mpr (by rw[t];exact M));have X:c.length<=25:=by
   have:=congrArg OD t;simp at this;omega
  show(au (V (n+1)) iD (aX c (KJ (.d (kn k))) r p o)).wp A I;unfold iD;have e1:ao (V (n+1)) (.lO 1 (.idx (.var 1) (.var 2))) (aX c (KJ (.d (kn k))) r p o)=.ok (.lst (l.map kn)):=by
   show((T.need (aE (bw c) (kn k))>>=λ_=>T.get (aG (bw c) (dj c) (kn k)))>>=λd=>T.need (flat KQ d)>>=λ_=>T.ok d)=_;rw[b5,gh,v];show(T.need (flat KQ (D.lst (l.map kn)))>>=λ_=>T.ok (D.lst (l.map kn)))=_;rw[m9];rfl
  rw[mZ e1];show(au (V (n+1)) _ (aX c (KJ (.d (kn k))) (KJ (.d (.lst (l.map kn)))) p o)).wp A I;generalize hB:(aZ.cons (.asg (.tup 2 (.cons (.nm 4) (.cons (.nm 5) .nil))) (.var 3)) _)=B;have nx:∀f,A<=f+1->I (.nx (aX c (KJ (.d (kn k))) (KJ (.d (.lst (l.map kn)))) p o)) f:=λf h=>x _ _ (dW f _ _ _ _ _ h t C);have yes:∀f,A<=f+1->l.length=2->(au (V (n+1)) B (aX c (KJ (.d (kn k))) (KJ (.d (.lst (l.map kn)))) p o)).wp f I:=λf h Y=>by match l,Y,v with
   |[a,b],_,v=>
    subst hB;have E:=C k _ v;obtain⟨L,ha,_⟩:=E.sy a (by simp);obtain⟨K,hb,_⟩:=E.sy b (by simp);have e2:au (V (n+1)) (.asg (.tup 2 (.cons (.nm 4) (.cons (.nm 5) .nil))) (.var 3)) (aX c (KJ (.d (kn k))) (KJ (.d (.lst ([a,b].map kn)))) p o)=.ok (.nx (aX c (KJ (.d (kn k))) (KJ (.d (.lst ([a,b].map kn)))) (KJ (.d (kn a))) (KJ (.d (kn b))))):=rfl;rw[br e2];generalize hP:(aZ.cons (.put 1 (.var 4) _) _)=P;have go:(a.1=b.1\/a.2=b.2)->(au (V (n+1)) P (aX c (KJ (.d (kn k))) (KJ (.d (.lst ([a,b].map kn)))) (KJ (.d (kn a))) (KJ (.d (kn b))))).wp f I:=λU=>by
     subst hP;obtain⟨O,J2⟩:=C.merge v ha hb U;rw[br (su (e:=lZ) (i:=4) (j:=5) (q:=a) (k:=k) (b:=b) ha X rfl (by decide) rfl rfl)];have S:gt (sg c a (L.map (to k b))) b=KJ K:=by rw[kJ,if_neg (LS O)];exact hb
     rw[br (su (e:=lY) (i:=5) (j:=4) (q:=b) (k:=k) (b:=a) S (by simp[sg];omega) rfl (by decide) rfl rfl)];have R:((sg (sg c a (L.map (to k b))) b (K.map (to k a)))).length<=25:=by simp[sg];omega
     have F:(gt (sg (sg c a (L.map (to k b))) b (K.map (to k a))) k).isSome=KQ:=by rw[fk,fj,fj,t];exact M
     generalize W:sg (sg c a (L.map (to k b))) b (K.map (to k a))=g at R F J2;have e3:au (V (n+1)) (.put 1 (.var 2) (.lst .nil)) (aX g (KJ (.d (kn k))) (KJ (.d (.lst ([a,b].map kn)))) (KJ (.d (kn a))) (KJ (.d (kn b))))=.ok (.nx (aX (sg g k []) (KJ (.d (kn k))) (KJ (.d (.lst ([a,b].map kn)))) (KJ (.d (kn a))) (KJ (.d (kn b))))):=by
      show(T.need (decide (0<=KZ))>>=λ_=>T.ok (D.lst []))>>=(λd=>T.need (decide ((bw g).length<KZ)&&aE (bw g) (kn k))>>=λ_=>T.ok (Fl.nx ((aX g (KJ (.d (kn k))) (KJ (.d (.lst ([a,b].map kn)))) (KJ (.d (kn a))) (KJ (.d (kn b)))).set 1 (KJ (.own (.aR (putD (bw g) (dj g) (kn k) d).1 (putD (bw g) (dj g) (kn k) d).2))))))=_;rw[G9];show(T.need (decide ((bw g).length<KZ)&&aE (bw g) (kn k))>>=λ_=>T.ok (Fl.nx ((aX g (KJ (.d (kn k))) (KJ (.d (.lst ([a,b].map kn)))) (KJ (.d (kn a))) (KJ (.d (kn b)))).set 1 (KJ (.own (.aR (putD (bw g) (dj g) (kn k) (.lst (([]:List Kt).map kn))).1 (putD (bw g) (dj g) (kn k) (.lst (([]:List Kt).map kn))).2))))))=_;rw[b5,zZ _ F,show decide ((bw g).length<KZ)=KQ from decide_eq_true (by rw[sr];omega)];rfl
     rw[br e3];refine(T.aw _ _ _).mpr (x _ _ (dW f _ _ _ _ _ h ?_ J2));rw[<-W,fj,fj,fj,t]
    clear hP;unfold kn at go⊢;subst_eqs;cases h4:(a.1==b.1)with
    |true=>
     simp only[if_true];exact T.wp_mono (λH m2 s=>by cases H<;>first|exact(T.aw _ _ _).mpr s|exact s) (go (.inl (by simpa using h4)))|false=>
     simp only[Lc,if_false];cases h5:(a.2==b.2)with
     |true=>
      simp only[if_true];exact T.wp_mono (λH m2 s=>by cases H<;>first|exact(T.aw _ _ _).mpr s|exact s) (go (.inr (by simpa using h5)))|false=>
      simp only[Lc,if_false];exact x _ _ (dW f _ _ _ _ _ h t C)
  clear hB;subst_eqs;simp only[kN,Wp,T.wp_bind,Lv];subst_eqs;by_cases Y:l.length=2
  .rw[show(((l.length:Nat):Int)==2)=KQ by simp;omega];simp only[if_true];refine⟨by omega,by omega,by omega,λw w0 w1=>?_⟩;by_cases h3:0<w
   .rw[decide_eq_true h3,if_pos rfl];exact T.wp_mono (λH m2 s=>by cases H<;>first|exact(T.aw _ _ _).mpr s|exact s) (yes _ (by omega) Y)
   .rw[decide_eq_false h3];simp only[Lc,if_false];exact nx _ (by omega)
  .rw[show(((l.length:Nat):Int)==2)=KR by simp;omega];simp only[Lc,if_false];exact nx _ (by omega)
 .rintro N A⟨g1,g2,Z,c,u,r,p,o,rfl,t,C⟩;unfold lX;subst_eqs;exact hQ _ _ ⟨by simp at g1;omega,c,rfl,t,C⟩
 .obtain⟨k,M,rfl⟩:=List.mem_map.mp hd;exact⟨k,pl.subset M,rfl⟩
theorem wU{a b:Type}{f:a->b}(g:b->a)(c:∀x,g (f x)=x){l:List b}{ks:List a}(h:l.Perm (ks.map f)):∃l':List a,l=l'.map f/\l'.Perm ks:=by
 refine⟨l.map g,?_,?_⟩
 .rw[LD];refine(QB l).symm.trans (LY λd hd=>?_);obtain⟨p,_,rfl⟩:=List.mem_map.mp (h.subset hd);show f p=f (g (f p));rw[c]
 .have:=h.map g;rw[LD]at this;refine this.trans (Nw ?_);refine(LY λp _=>?_).trans (QB ks);exact c p
theorem sv(ks:List Kt)(q:Kt):aE (ks.map kn) (kn q)=KQ:=by
 have:=b5 (ks.map λk=>(k,[])) q;unfold bw at this;rwa[LD]at this
theorem Gf(ks:List Kt)(q:Kt):bN (ks.map kn) (kn q)=decide (q∈ks):=by induction ks with
 |nil=>rfl|cons k ks a=>
  unfold bN at a⊢;simp only[Ll,ND,fJ,a];by_cases h:k=q;.simp[h]
  .have:¬q=k:=λe=>h e.symm;simp[h,this]
theorem wV:∀(ks:List Kt)(xs:List Int)(as:List Kt)(bs:List Int),ks.length=xs.length->(as++ks).Nodup->as.length+ks.length<=1000->dQ (kT (ks.map kn) (xs.map D.int)) (as.map kn,bs.map D.int)=KJ ((as++ks).map kn,(bs++xs).map D.int)
 |[],[],as,bs,_,_,_=>by simp[kT,dQ]|k::ks,x::xs,as,bs,c,nd,a=>by
  have z:=gX;have d:k∉as:=λh=>by
   have:=(List.nodup_append.mp nd).2.2 k h k K5;exact this rfl
  have b:=wV ks xs (as++[k]) (bs++[x]) (by simpa using c) (by simpa using nd) (by simp at a⊢;omega);show dQ (D.tup [kn k,D.int x]::kT (ks.map kn) (xs.map D.int)) _=_;unfold dQ;rw[if_pos (by rw[sv];simp at a⊢;omega)];have:putD (as.map kn) (bs.map D.int) (kn k) (D.int x)=((as++[k]).map kn,(bs++[x]).map D.int):=by
   unfold putD;rw[Gf,decide_eq_false d];simp
  show dQ _ (putD (as.map kn) (bs.map D.int) (kn k) (D.int x))=_;rw[this,b];simp
theorem wW:∀{ks:List Kt}{xs:List Int},ks.length=xs.length->ks.Nodup->xs.Nodup->∃N:Kt->Int,(∀q∈ks,aG (ks.map kn) (xs.map D.int) (kn q)=KJ (.int (N q))/\N q∈xs)/\∀p∈ks,∀q∈ks,N p=N q->p=q
 |[],[],_,_,_=>⟨λ_=>0,by simp,by simp⟩|k::ks,x::xs,g,nd,nx=>by
  rw[M9]at nd nx;obtain⟨N,d,i⟩:=wW (ks:=ks) (xs:=xs) (by simpa using g) nd.2 nx.2;refine⟨λq=>if q=k then x else N q,λq c=>?_,λp f q c e=>?_⟩
  .simp only[Ll,aG,fJ];by_cases h:q=k;.simp[h]
   .have j:¬k=q:=λe=>h e.symm;have:=d q (by simpa[h]using c);simp[h,j,this.1,this.2]
  .simp only at e;by_cases b:p=k<;>by_cases a:q=k;.rw[b,a]
   .rw[if_pos b,if_neg a]at e;have:=(d q (by simpa[a]using c)).2;rw[<-e]at this;exact absurd this nx.1
   .rw[if_neg b,if_pos a]at e;have:=(d p (by simpa[b]using f)).2;rw[e]at this;exact absurd this nx.1
   .rw[if_neg b,if_neg a]at e;exact i p (by simpa[b]using f) q (by simpa[a]using c) e
theorem Gg(p q:Kt):bA .Lt (kn p) (kn q)=.ok (.bl (decide (p.1<q.1\/p.1=q.1/\p.2<q.2))):=by
 show T.ok (D.bl (HT.lexLt [p.1,p.2] [q.1,q.2]))=_;congr 2;rw[HT.d3,HT.d3,HT.fL];rw[MF];split
 .rename_i h;split;.rename_i a;simp;omega
  .simp;omega
 .simp;omega
noncomputable def c3(p:Int×Int×Int):D:=.tup [.int p.1,.int p.2.1,.int p.2.2]
structure gU(cs:List (Int×Int×Int))(ws:List Kt):Prop where
 nd:(cs.map (·.1)).Nodup
 lc:cs.length<=25
 lw:ws.length<=625
 rg:∀w∈ws,0<=w.1/\w.1<=999/\0<=w.2/\w.2<=999
 ln:∀w∈ws,∃p∈cs,∃q∈cs,p.1=w.1/\q.1=w.2/\1<=q.2.1-p.2.1+q.2.2-p.2.2/\q.2.1-p.2.1+q.2.2-p.2.2<=2000000
theorem Gh(l:List D):bA .NotEq (.lst l) (.lst [])=.ok (.bl (!l.isEmpty)):=by
 unfold bA b8;simp only[cw];cases l<;>rfl
theorem zo{s a b:Int}(c:s=7\/s=303\/s=617\/s=999)(f:Int)(ha:0<=a/\a<25)(hb:0<=b/\b<25)(h:(f+s*a)%1000=(f+s*b)%1000):a=b:=by rcases c with rfl|rfl|rfl|rfl<;>omega
theorem fm{b:Type}:∀{l:List b}(n:Nat),l.Nodup->(l.eraseIdx n).Nodup
 |[],_,_=>by simp|a::l,0,h=>(List.nodup_cons.mp h).2|a::l,n+1,h=>by
  rw[M9]at h;rw[Qk,M9];exact⟨λz=>h.1 (Ox z),fm n h.2⟩
theorem dU{b:Type}{x:b}:∀{l:List b}(n:Nat),l.Nodup->l[n]?=KJ x->x∉l.eraseIdx n
 |[],_,_,h=>by simp at h|a::l,0,h,e=>by simp at e;subst e;exact(List.nodup_cons.mp h).1|a::l,n+1,h,e=>by
  rw[M9]at h;rw[Qk];intro z;rcases List.mem_cons.mp z with rfl|z;.exact h.1 (LV (by simpa using e))
  .exact dU n h.2 (by simpa using e) z
theorem gV{b c:Type}(f:b->c):∀(l:List b)(n:Nat),(l.map f).eraseIdx n=(l.eraseIdx n).map f
 |[],_=>rfl|a::l,0=>rfl|a::l,n+1=>by simp[gV f l n]
theorem wX{n:Nat}{Q:List D->Nat->Prop}{k:Int}{o2 o3:Option W}:∀(ds:List D)(rest:List Int)(m:Nat),ds.length=rest.length->rest.length<=25->rest.length<=m->rest.Nodup->(∀x∈rest,0<=x/\x<=999)->(∀xs:List Int,∀a,m<=a+rest.length->xs.length=rest.length->xs.Nodup->(∀x∈xs,x∈rest)->Q (xs.map D.int) a)->(tJ (λρ=>ao (V (n+1)) fZ ρ) [KJ .feed,KJ (.d (.int k)),o2,o3,KJ (.own (.lst ((aC k.toNat))))] 4 [0,4] ds (rest.map D.int)).wp m Q
 |[],rest,m,b,_,_,_,_,q=>by
  have e:rest=[]:=List.length_eq_zero_iff.mp b.symm;subst e;exact(T.aw _ _ _).mpr (q [] m (by simp) rfl (by simp) (by simp))|d::ds,rest,m,b,o,r,nd,hb,q=>by
  have z:=gX;simp only[LP]at b;have l:ao (V (n+1)) fZ ((cQ ((([KJ .feed,KJ (.d (.int k)),o2,o3,KJ (.own (.lst ((aC k.toNat))))]:ah)).set 4 (KJ (.own (.lst (rest.map D.int))))) 1 [0,4]).set 0 (KJ (.d d)))=.draw ((rest.map D.int).length:Int) λi=>.ok (.int i):=rfl;unfold tJ;rw[l,Lv];simp only[T.wp_bind,Wp,bO,T.bE];refine⟨by omega,by omega,by omega,λi i0 j=>⟨?_,?_⟩⟩
  .simp only[K0,decide_eq_true_eq];exact⟨i0,j,by omega⟩
  have c:i.toNat<rest.length:=by omega
  have f:rest[i.toNat]?=KJ rest[i.toNat]:=Lp c;rw[Lw,f];simp only[Mt,Wp];have le:(rest.eraseIdx i.toNat).length=rest.length-1:=by rw[List.length_eraseIdx,if_pos c]
  rw[gV];refine wX ds (rest.eraseIdx i.toNat) (m-1) (by omega) (by omega) (by omega) (fm _ nd) (λx h=>hb x (Ox h)) λxs a t s p g=>?_;rw[show D.int rest[i.toNat]::xs.map D.int=(rest[i.toNat]::xs).map D.int from rfl];refine q _ a (by omega) (by simp;omega) (List.nodup_cons.mpr ⟨λz=>dU _ nd f (g _ z),p⟩) λx h=>?_;rcases List.mem_cons.mp h with rfl|h;.exact OZ c
  .exact Ox (g x h)
theorem qJ{n:Nat}{k:Int}{m:Nat}(K:0<=k/\k<=25)(J:40<=m):(aW defs gv (n+2) 10 [.feed,.d (.int k)]).wp m (λd p=>m<=p+30/\∃xs:List Int,d=.lst (xs.map D.int)/\(xs.length:Int)=k/\xs.Nodup/\∀x∈xs,0<=x/\x<=999):=by
 have z:=gX;rw[aT (d:=dg) rfl rfl];unfold dg;refine dC λQ u=>?_;rw[T.wp_bind];subst_eqs;refine⟨by omega,by omega,by omega,λi i0 I=>?_⟩;by_cases t:i=0
 .subst t;rw[if_pos (by simp)];refine⟨sd (by decide),by omega,by omega,by omega,λj H G=>?_⟩;have r:∃s:Int,fy [D.int 7,D.int 303,D.int 617,D.int 999] j=KJ (.int s)/\(s=7\/s=303\/s=617\/s=999):=by
   rcases(by omega:j=0\/j=1\/j=2\/j=3)with rfl|rfl|rfl|rfl;.exact⟨7,rfl,by omega⟩
   .exact⟨303,rfl,by omega⟩
   .exact⟨617,rfl,by omega⟩
   .exact⟨999,rfl,by omega⟩
  obtain⟨s,C,r⟩:=r;rw[C];subst_eqs;refine⟨by omega,by omega,by omega,λf M L=>⟨by simp;omega,?_⟩⟩;have F:=bY (g:=gi (.nm 0)) (tc:=λρ=>T.ok KQ) (te:=λρ=>ao (V (n+1)) f6 ρ) (c:=λ_=>KQ) (e:=λd=>match d with|.int y=>.int ((f+s*y)%1000)|d=>d) (λρ=>∃o,ρ=[o,KJ (.d (.int s)),KJ (.d (.int f))]) (ds:=aC k.toNat) (ρ:=cQ [KJ .feed,KJ (.d (.int k)),KJ (.d (.int s)),KJ (.d (.int f)),KP] 1 [2,3]) (by
   rintro ρ⟨o,rfl⟩d hd;obtain⟨y,q,rfl⟩:=List.mem_map.mp hd;refine⟨_,rfl,⟨_,rfl⟩,rfl,λ_=>?_⟩;unfold f6;bv_omega;rw[kI (i:=s) ⟨by omega,by omega⟩];rfl) ⟨KP,rfl⟩;rw[F,T.aw];have em:(List.filter (λ_=>KQ) (aC k.toNat)).map (λd=>match d with|.int y=>.int ((f+s*y)%1000)|d=>d)=((L4 k.toNat).map λ(i:Nat)=>(f+s*(i:Int))%1000).map D.int:=by
   rw[List.filter_eq_self.mpr (λ_ _=>rfl)];unfold aC;rw[LD,LD];rfl
  rw[em];refine u _ _ ⟨by omega,_,rfl,by simp;omega,?_,λx l=>?_⟩
  .refine PU (R:=λa b=>a<b/\b<k.toNat) _ (λa b h=>λe=>?_) ?_
   .have:=zo r f (a:=a) (b:=b) (by omega) (by omega) e;omega
   .have:(L4 k.toNat).Pairwise (λa b=>a<b):=QF;exact Ow (λ{a b}ha hb h=>⟨h,List.mem_range.mp hb⟩) this
  .obtain⟨y,_,rfl⟩:=List.mem_map.mp l;omega
 .rw[if_neg (by simpa using t)];unfold kF;subst_eqs;refine⟨rfl,by simp;omega,by simp;omega,?_⟩;have E:aC k.toNat=((L4 k.toNat).map λ(i:Nat)=>(i:Int)).map D.int:=by unfold aC;rw[LD];rfl
  have key:=wX (n:=n) (k:=k) (o2:=KP) (o3:=KP) (Q:=λa p=>Q (.lst a) p) (aC k.toNat) ((L4 k.toNat).map λ(i:Nat)=>(i:Int)) (m-1) (by simp[aC]) (by simp;omega) (by simp;omega) ?_ (λx l=>?_) λxs p B A w v=>u _ _ ⟨by simp at B;omega,xs,rfl,by simp at A;omega,w,λx l=>?_⟩
  .rw[<-E]at key;exact key
  .refine PU (R:=λa b=>a<b) _ (λa b h=>λe=>?_) QF;omega
  .obtain⟨y,q,rfl⟩:=List.mem_map.mp l;have:=List.mem_range.mp q;omega
  .obtain⟨y,q,rfl⟩:=List.mem_map.mp (v x l);have:=List.mem_range.mp q;omega
theorem zq{n:Nat}{c r:Int}{m:Nat}{Q:D->Nat->Prop}(s:2<=c/\c<=5)(o:2<=r/\r<=5)(u:300<=m)(h:∀(G:Gr)b,m<=b+130->(G.map (·.1)).Nodup->(∀k∈G.map (·.1),0<=k.1/\k.1<c/\0<=k.2/\k.2<r)->G.length<=25->Joins G->Q (.aR (bw G) (dj G)) b):(r6 defs gv (n+2) 8 [.feed,.d (.int c),.d (.int r)]).wp m (λd b=>(aW defs gv (n+2) 9 [.feed,.own d]).wp b Q):=by
 have H:=wQ (n:=n) s o (m:=m) (by omega);have N:∀(d:D)(b:Nat),(m<=b+100/\∃G:Gr,d=.aR (bw G) (dj G)/\(G.map (·.1)).Nodup/\(∀k∈G.map (·.1),0<=k.1/\k.1<c/\0<=k.2/\k.2<r)/\G.length<=25/\Joins G)->∃G:Gr,d=.aR (bw G) (dj G)/\60<=b/\(G.map (·.1)).Nodup/\G.length<=25/\Joins G/\∀(a:D)(g:Nat),(b<=g+30/\∃f:Gr,a=.aR (bw f) (dj f)/\f.map (·.1)=G.map (·.1)/\Joins f)->Q a g:=by
  rintro d i⟨q,G,rfl,nd,j,e,J⟩;refine⟨G,rfl,by omega,nd,e,J,?_⟩;rintro a l⟨p,f,rfl,ks,t⟩;rw[<-ks]at nd j;exact h f l (by omega) nd j (by have:=congrArg OD ks;simp at this;omega) t
 refine T.wp_mono (λd i hd=>?_) H;refine(N d i hd).elim λG e=>?_;rw[e.1];exact T.wp_mono e.2.2.2.2.2 (tP e.2.2.1 e.2.2.2.1 e.2.2.2.2.1 e.2.1)
theorem wY{n:Nat}{k s:Int}{m:Nat}{Q:D->Nat->Prop}(f:2<=k/\k<=5)(c:s=1\/s=10000)(e:10<=m)(h:∀(xs:List Int)a,m<=a+7->(xs.length:Int)=k->(∀x∈xs,0<=x/\x<=1000000)->xs.Pairwise (·<·)->Q (.lst (xs.map D.int)) a):(aW defs gv (n+2) 7 [.feed,.d (.int k),.d (.int s)]).wp m Q:=T.wp_mono (by rintro d b⟨l,xs,rfl,j,i,g⟩;exact h xs b l j i g) (zk f c e)
theorem tQ{n:Nat}{k:Int}{m:Nat}{Q:D->Nat->Prop}(e:0<=k/\k<=25)(c:40<=m)(h:∀(xs:List Int)a,m<=a+30->(xs.length:Int)=k->xs.Nodup->(∀x∈xs,0<=x/\x<=999)->Q (.lst (xs.map D.int)) a):(aW defs gv (n+2) 10 [.feed,.d (.int k)]).wp m Q:=T.wp_mono (by rintro d b⟨j,xs,rfl,i,g,f⟩;exact h xs b j i g f) (qJ e c)
theorem sort_k{a:Type}{f:a->D}(g:D->a)(i:∀x,g (f x)=x)(j:∀x,vG (f x)=KQ){d:D}{ks:List a}{m:Nat}{Q:D->Nat->Prop}(hd:oA d=KJ (ks.map f))(b:ks.length<=1000)(h:∀l:List a,l.Perm ks->Q (.lst (l.map f)) m):(kN .sorted [d]).wp m Q:=by
 have z:=gX;have:oz (ks.map f)=KQ:=by
  unfold oz;have:(ks.map f).all vG=KQ:=List.all_eq_true.mpr λx e=>by
   obtain⟨p,_,rfl⟩:=List.mem_map.mp e;exact j p
  rw[this];simp
 simp only[kN,rX,hd,T.wp_bind,Wp,T.bE,this];refine⟨by simp;omega,λl b=>?_⟩;obtain⟨c,rfl,pl⟩:=wU g i b;exact h c pl
noncomputable def eK:D->Kt
 |.tup [.int a,.int b]=>(a,b)|_=>(0,0)
noncomputable def KH:D->Int×Int×Int
 |.tup [.int a,.int b,.int c]=>(a,b,c)|_=>(0,0,0)
structure Net(c r:Int)(G:Gr)(K:List Kt):Prop where
 nd:K.Nodup
 lK:K.length<=25
 gK:∀q∈K,(0<=q.1/\q.1<c/\0<=q.2/\q.2<r)/\∃t,gt G q=KJ t/\t.length<=25/\∀u∈t,u∈K/\je q u
theorem Net.of{c r:Int}{G:Gr}{l':List Kt}(nd:(G.map (·.1)).Nodup)(i:∀k∈G.map (·.1),0<=k.1/\k.1<c/\0<=k.2/\k.2<r)(l:G.length<=25)(J:Joins G)(pl:l'.Perm (G.map (·.1))):Net c r G (l'.filter λq=>!(((gt G q).getD []).isEmpty)):=by
 have e:l'.Nodup:=pl.symm.nodup nd;have d:l'.length<=25:=by have:=pl.length_eq;simp at this;omega
 have lK:(l'.filter λq=>!(((gt G q).getD []).isEmpty)).length<=25:=L_ (OW _ _) d;refine⟨e.filter _,lK,λq j=>?_⟩;have b:=pl.subset (List.mem_filter.mp j).1;refine⟨i q b,?_⟩;obtain⟨t,g⟩:=Option.isSome_iff_exists.mp (fk.mpr b);have ok:=J q t g;have sub:∀u∈t,u∈l'.filter λq=>!(((gt G q).getD []).isEmpty):=λu hu=>by
  obtain⟨h,a,f⟩:=ok.sy u hu;rw[List.mem_filter];refine⟨pl.symm.subset (fk.mp (by rw[a];rfl)),?_⟩;rw[a];cases h with
  |nil=>cases f|cons _ _=>rfl
 exact⟨t,g,L_ (List.Nodup.length_le_of_subset ok.nd (λu hu=>sub u hu)) lK,λu hu=>⟨sub u hu,ok.ln u hu⟩⟩
noncomputable abbrev jf(c r s:Int)(G:Gr)(xs ys:List Int)(b o9 o10 o11 a:Option W):ah:=[KJ .feed,KJ (.d (.int 5)),KJ (.d (.int s)),KJ (.d (.int c)),KJ (.d (.int r)),KJ (.d (.aR (bw G) (dj G))),KJ (.d (.lst (xs.map D.int))),KJ (.d (.lst (ys.map D.int))),b,o9,o10,o11,a]
theorem zr{n:Nat}{c r s:Int}{G:Gr}{xs ys:List Int}{m:Nat}{Q:D->Nat->Prop}(nd:(G.map (·.1)).Nodup)(f:∀k∈G.map (·.1),0<=k.1/\k.1<c/\0<=k.2/\k.2<r)(l:G.length<=25)(J:Joins G)(h:∀K,Net c r G K->Q (.lst (K.map kn)) m):(ao (V (n+3)) (.lc ["_law_knot"] [5] (.nm 0) (.bG (.bi .sorted (.cons (.var 5) .nil))) mU qw) (jf c r s G xs ys KP KP KP KP KP)).wp m Q:=by
 subst_eqs;refine sort_k eK (λ_=>rfl) (λ_=>rfl) (ks:=G.map (·.1)) (by rw[<-qI];rfl) (by simp;omega) λa pl=>?_;simp only[cB,T.eB];have b:=bY (g:=gi (.nm 0)) (tc:=λρ=>bh (V (n+3)) mU ρ) (te:=λρ=>ao (V (n+3)) qw ρ) (c:=λd=>!(((gt G (eK d)).getD []).isEmpty)) (e:=id) (λρ=>∃o,ρ=[o,KJ (.d (.aR (bw G) (dj G)))]) (ds:=a.map kn) (ρ:=cQ (jf c r s G xs ys KP KP KP KP KP) 1 [5]) (by
  rintro ρ⟨o,rfl⟩d hd;obtain⟨q,j,rfl⟩:=List.mem_map.mp hd;refine⟨_,rfl,⟨_,rfl⟩,?_,λ_=>rfl⟩;obtain⟨t,i⟩:=Option.isSome_iff_exists.mp (fk.mpr (pl.subset j));show _=T.ok (!((gt G (q.1,q.2)).getD []).isEmpty);unfold mU;bv_omega;simp only[e8,b5,gh,i,Sd,ag,Mt,Cl,Gh,aK,Qd];cases t<;>rfl) ⟨KP,rfl⟩;have em:((a.map kn).filter (λd=>!(((gt G (eK d)).getD []).isEmpty))).map id=(a.filter λq=>!(((gt G q).getD []).isEmpty)).map kn:=by rw[Rm,List.filter_map];rfl
 rw[em]at b;refine(congrArg (λt=>T.wp t m _) b).mpr ?_;exact(T.aw _ _ _).mpr (h _ (Net.of nd f l J pl))
noncomputable def pl(xs:List Int)(i:Int):Int:=(xs[i.toNat]?).getD 0
theorem z0{xs:List Int}{i:Int}(a:0<=i)(h:i<xs.length):fy (xs.map D.int) i=KJ (.int (pl xs i)):=by
 refine Gc a ?_;rw[Lw];unfold pl;rw[Lp (by omega)];rfl
theorem z_{xs:List Int}{i j:Int}(a:xs.Pairwise (·<·))(c:0<=i)(h:i<j)(b:j<xs.length):pl xs i<pl xs j:=by
 unfold pl;rw[Lp (by omega),Lp (by omega)];exact List.pairwise_iff_getElem.mp a _ _ _ _ (by omega)
theorem sx{xs:List Int}{i:Int}(a:∀x∈xs,0<=x/\x<=1000000)(b:0<=i)(h:i<xs.length):0<=pl xs i/\pl xs i<=1000000:=by
 unfold pl;rw[Lp (by omega)];exact a _ (OZ _)
structure Nums(K:List Kt)(ns:List Int)(N:Kt->Int):Prop where
 lk:∀q∈K,aG (K.map kn) (ns.map D.int) (kn q)=KJ (.int (N q))rg:∀q∈K,0<=N q/\N q<=999
 inj:∀p∈K,∀q∈K,N p=N q->p=q
noncomputable abbrev dN(K:List Kt)(ns:List Int):D:=.aR (K.map kn) (ns.map D.int)
theorem wZ{K:List Kt}{ns:List Int}{N:Kt->Int}(h:Nums K ns N){q:Kt}(a:q∈K):e8 (dN K ns) (kn q)=.ok (.int (N q)):=by simp only[e8,sv,h.lk q a,Sd,ag,Cl]
theorem tR{n:Nat}{c r s:Int}{G:Gr}{K:List Kt}{ns xs ys:List Int}{N:Kt->Int}(H:Net c r G K)(hN:Nums K ns N)(m:(xs.length:Int)=c)(l:(ys.length:Int)=r):ao (V (n+3)) (.lc ["_law_i","_law_j"] [6,7,9] (.tup 2 (.cons (.nm 0) (.cons (.nm 1) .nil))) (.bG (.var 8)) .yes kG) (jf c r s G xs ys (KJ (.d (.lst (K.map kn)))) (KJ (.d (dN K ns))) KP KP KP)=.ok (.lst ((K.map λq=>(N q,pl xs q.1,pl ys q.2)).map c3)):=by
 have z:=gX;have f:=bY (g:=gi (.tup 2 (.cons (.nm 0) (.cons (.nm 1) .nil)))) (tc:=λρ=>bh (V (n+3)) .yes ρ) (te:=λρ=>ao (V (n+3)) kG ρ) (c:=λ_=>KQ) (e:=λd=>c3 (N (eK d),pl xs (eK d).1,pl ys (eK d).2)) (λρ=>∃o a,ρ=[o,a,KJ (.d (.lst (xs.map D.int))),KJ (.d (.lst (ys.map D.int))),KJ (.d (dN K ns))]) (ds:=K.map kn) (ρ:=cQ (jf c r s G xs ys (KJ (.d (.lst (K.map kn)))) (KJ (.d (dN K ns))) KP KP KP) 2 [6,7,9]) (by
  rintro ρ⟨o,a,rfl⟩d hd;obtain⟨q,b,rfl⟩:=List.mem_map.mp hd;refine⟨[KJ (.d (.int q.1)),KJ (.d (.int q.2)),KJ (.d (.lst (xs.map D.int))),KJ (.d (.lst (ys.map D.int))),KJ (.d (dN K ns))],rfl,⟨_,_,rfl⟩,rfl,λ_=>?_⟩;obtain⟨p,_⟩:=H.gK q b;have k:=z0 (xs:=xs) (i:=q.1) (by omega) (by omega);have j:=z0 (xs:=ys) (i:=q.2) (by omega) (by omega);have h:=wZ hN b;unfold kn at h;unfold kG;bv_omega;simp only[k,j,h,Sd,ag,Cl,fU];rfl) ⟨KP,KP,rfl⟩;have em:((K.map kn).filter (λ_=>KQ)).map (λd=>c3 (N (eK d),pl xs (eK d).1,pl ys (eK d).2))=(K.map λq=>(N q,pl xs q.1,pl ys q.2)).map c3:=by rw[List.filter_eq_self.mpr (λ_ _=>rfl),LD,LD];rfl
 rw[em]at f;show(T.get (cB (.lst (K.map kn)))>>=λds=>dR _ _ _ ds _>>=λr=>T.ok (D.lst r))=_;show(dR (gi (.tup 2 (.cons (.nm 0) (.cons (.nm 1) .nil)))) (λρ=>bh (V (n+3)) .yes ρ) (λρ=>ao (V (n+3)) kG ρ) (K.map kn) (cQ (jf c r s G xs ys (KJ (.d (.lst (K.map kn)))) (KJ (.d (dN K ns))) KP KP KP) 2 [6,7,9])>>=λr=>T.ok (D.lst r))=_;rw[f];rfl
noncomputable def below(q u:Kt):Bool:=decide (q.1<u.1\/q.1=u.1/\q.2<u.2)
theorem zt{n:Nat}{c r s:Int}{G:Gr}{K t:List Kt}{q:Kt}{ns xs ys:List Int}{N:Kt->Int}{o10 o11:Option W}(hN:Nums K ns N)(h:q∈K)(f:gt G q=KJ t)(hu:∀u∈t,u∈K):ao (V (n+3)) (.lc ["_law_there"] [9,12] (.nm 0) (.bG (.idx (.var 5) (.var 12))) f7 f9) (jf c r s G xs ys (KJ (.d (.lst (K.map kn)))) (KJ (.d (dN K ns))) o10 o11 (KJ (.d (kn q))))=.ok (.lst (((t.filter (below q)).map λu=>(N q,N u)).map kn)):=by
 have z:=gX;have b:=bY (g:=gi (.nm 0)) (tc:=λρ=>bh (V (n+3)) f7 ρ) (te:=λρ=>ao (V (n+3)) f9 ρ) (c:=λd=>below q (eK d)) (e:=λd=>kn (N q,N (eK d))) (λρ=>∃o,ρ=[o,KJ (.d (dN K ns)),KJ (.d (kn q))]) (ds:=t.map kn) (ρ:=cQ (jf c r s G xs ys (KJ (.d (.lst (K.map kn)))) (KJ (.d (dN K ns))) o10 o11 (KJ (.d (kn q)))) 1 [9,12]) (by
  rintro ρ⟨o,rfl⟩d hd;obtain⟨u,a,rfl⟩:=List.mem_map.mp hd;refine⟨_,rfl,⟨_,rfl⟩,?_,λ_=>?_⟩
  .unfold f7;bv_omega;rw[Gg];rfl
  .unfold f9;bv_omega;simp only[wZ hN h,wZ hN (hu u a),ag,Sd,Cl,fU];rfl) ⟨KP,rfl⟩;have em:((t.map kn).filter (λd=>below q (eK d))).map (λd=>kn (N q,N (eK d)))=((t.filter (below q)).map λu=>(N q,N u)).map kn:=by rw[List.filter_map,LD,LD];rfl
 rw[em]at b;have i:nq (V (n+3)) (.bG (.idx (.var 5) (.var 12))) (jf c r s G xs ys (KJ (.d (.lst (K.map kn)))) (KJ (.d (dN K ns))) o10 o11 (KJ (.d (kn q))))=.ok (t.map kn):=by
  show((T.need (aE (bw G) (kn q))>>=λ_=>T.get (aG (bw G) (dj G) (kn q)))>>=λd=>T.get (cB d))=_;rw[b5,gh,f];rfl
 show(nq (V (n+3)) (.bG (.idx (.var 5) (.var 12))) (jf c r s G xs ys (KJ (.d (.lst (K.map kn)))) (KJ (.d (dN K ns))) o10 o11 (KJ (.d (kn q))))>>=λds=>dR (gi (.nm 0)) (λρ=>bh (V (n+3)) f7 ρ) (λρ=>ao (V (n+3)) f9 ρ) ds (cQ (jf c r s G xs ys (KJ (.d (.lst (K.map kn)))) (KJ (.d (dN K ns))) o10 o11 (KJ (.d (kn q)))) 1 [9,12])>>=λr=>T.ok (D.lst r))=_;rw[i,ag,b];rfl
noncomputable def Jj(K:List Kt)(N:Kt->Int)(w:Kt):Prop:=∃q∈K,∃u∈K,w=(N q,N u)/\je q u/\below q u=KQ
inductive WI(c r s:Int)(G:Gr)(K:List Kt)(ns xs ys:List Int)(N:Kt->Int)(cs:D)(m:Nat)(ds:List D)(ρ:ah)(m':Nat):Prop|mk(ws:List Kt)(o12:Option W)(eρ:ρ=jf c r s G xs ys (KJ (.d (.lst (K.map kn)))) (KJ (.d (dN K ns))) (KJ (.d cs)) (KJ (.own (.lst (ws.map kn)))) o12)(g1:m'=m)(g2:∀d∈ds,∃q∈K,d=kn q)(g3:ws.length+25*ds.length<=625)(g4:∀w∈ws,Jj K N w)
theorem zu{n:Nat}{c r s:Int}{G:Gr}{K:List Kt}{ns xs ys:List Int}{N:Kt->Int}{cs:D}{m:Nat}{Q:Fl->Nat->Prop}(H:Net c r G K)(hN:Nums K ns N)(h:∀(ws:List Kt)(a:Option W),ws.length<=625->(∀w∈ws,Jj K N w)->Q (.nx (jf c r s G xs ys (KJ (.d (.lst (K.map kn)))) (KJ (.d (dN K ns))) (KJ (.d cs)) (KJ (.own (.lst (ws.map kn)))) a)) m):(e_ (gi (.nm 12)) (au (V (n+3)) qt) (K.map kn) (jf c r s G xs ys (KJ (.d (.lst (K.map kn)))) (KJ (.d (dN K ns))) (KJ (.d cs)) (KJ (.own (.lst (([]:List Kt).map kn)))) KP)).wp m Q:=by
 have z:=gX;refine eC (WI c r s G K ns xs ys N cs m) ?_ ?_ ⟨[],KP,rfl,rfl,λd hd=>?_,?_,by simp⟩
 .rintro d C x p⟨ws,a,rfl,rfl,o,l,k⟩;simp only[LP]at l;obtain⟨q,f,rfl⟩:=o _ K5;obtain⟨_,t,y,lt,hu⟩:=H.gK q f;rw[tN.1,T.aw];refine dC λB j=>?_;have e:=zt (n:=n) (c:=c) (r:=r) (s:=s) (xs:=xs) (ys:=ys) (o10:=KJ (.d cs)) (o11:=KJ (.own (.lst (ws.map kn)))) hN f y (λu h=>(hu u h).1);unfold qt;have A:au (V (n+3)) (.ext 11 (.lc ["_law_there"] [9,12] (.nm 0) (.bG (.idx (.var 5) (.var 12))) f7 f9)) (jf c r s G xs ys (KJ (.d (.lst (K.map kn)))) (KJ (.d (dN K ns))) (KJ (.d cs)) (KJ (.own (.lst (ws.map kn)))) (KJ (.d (kn q))))=.ok (.nx (jf c r s G xs ys (KJ (.d (.lst (K.map kn)))) (KJ (.d (dN K ns))) (KJ (.d cs)) (KJ (.own (.lst ((ws++(t.filter (below q)).map λu=>(N q,N u)).map kn)))) (KJ (.d (kn q))))):=by
   show(ao (V (n+3)) (.lc ["_law_there"] [9,12] (.nm 0) (.bG (.idx (.var 5) (.var 12))) f7 f9) (jf c r s G xs ys (KJ (.d (.lst (K.map kn)))) (KJ (.d (dN K ns))) (KJ (.d cs)) (KJ (.own (.lst (ws.map kn)))) (KJ (.d (kn q))))>>=λd=>c_ d>>=λv=>T.need (decide ((ws.map kn).length+v.length<=KZ))>>=λ_=>T.ok (Fl.nx ((jf c r s G xs ys (KJ (.d (.lst (K.map kn)))) (KJ (.d (dN K ns))) (KJ (.d cs)) (KJ (.own (.lst (ws.map kn)))) (KJ (.d (kn q)))).set 11 (KJ (.own (.lst (ws.map kn++v)))))))=_;rw[e];have:=OW (below q) t;show(T.need (decide ((ws.map kn).length+(((t.filter (below q)).map λu=>(N q,N u)).map kn).length<=KZ))>>=λ_=>_)=_;rw[decide_eq_true (by simp;omega),M7];rfl
  show(au (V (n+3)) (.cons _ .nil) (jf c r s G xs ys (KJ (.d (.lst (K.map kn)))) (KJ (.d (dN K ns))) (KJ (.d cs)) (KJ (.own (.lst (ws.map kn)))) (KJ (.d (kn q))))).wp p B;rw[br A];have:=OW (below q) t;refine(T.aw _ _ _).mpr (j _ _ (WI.mk (ws++(t.filter (below q)).map λu=>(N q,N u)) (KJ (.d (kn q))) rfl rfl (λd hd=>o d (K4 _ hd)) (by simp;omega) (λw hw=>?_)));rcases List.mem_append.mp hw with hw|hw;.exact k w hw
  .obtain⟨u,i,rfl⟩:=List.mem_map.mp hw;obtain⟨b,g⟩:=List.mem_filter.mp i;exact⟨q,f,u,(hu u b).1,rfl,(hu u b).2,g⟩
 .rintro x p⟨ws,a,rfl,rfl,o,l,k⟩;exact h ws a (by simpa using l) k
 .obtain⟨q,f,rfl⟩:=List.mem_map.mp hd;exact⟨q,f,rfl⟩
 .have:=H.lK;simp;omega
theorem gU.of{c r:Int}{G:Gr}{K:List Kt}{ns xs ys:List Int}{N:Kt->Int}{cs:List (Int×Int×Int)}{ws d:List Kt}(H:Net c r G K)(hN:Nums K ns N)(A:(xs.length:Int)=c)(z:(ys.length:Int)=r)(o:∀x∈xs,0<=x/\x<=1000000)(n:∀x∈ys,0<=x/\x<=1000000)(v:xs.Pairwise (·<·))(t:ys.Pairwise (·<·))(l:cs.Perm (K.map λq=>(N q,pl xs q.1,pl ys q.2)))(hw:∀w∈d,Jj K N w)(lw:d.length<=625)(pw:ws.Perm d):gU cs ws:=by
 have g:∀q∈K,(N q,pl xs q.1,pl ys q.2)∈cs:=λq f=>l.symm.subset (List.mem_map.mpr ⟨q,f,rfl⟩);refine⟨?_,?_,by rw[pw.length_eq];exact lw,λw h=>?_,λw h=>?_⟩
 .have p:(cs.map (·.1)).Perm (K.map N):=by
   have:=l.map (·.1);rw[LD]at this;exact this
  refine p.symm.nodup ?_;rw[List.nodup_iff_pairwise_ne,Sb];refine Ow (λ{a b}ha hb m e=>?_) (List.nodup_iff_pairwise_ne.mp H.nd);exact m (hN.inj a ha b hb e)
 .have:=l.length_eq;have:=H.lK;simp at*;omega
 .obtain⟨q,f,u,hu,rfl,_⟩:=hw w (pw.subset h);have:=hN.rg q f;have:=hN.rg u hu;simp only;omega
 .obtain⟨q,f,u,hu,rfl,s,hb⟩:=hw w (pw.subset h);refine⟨_,g q f,_,g u hu,rfl,rfl,?_⟩;obtain⟨C,_⟩:=H.gK q f;obtain⟨B,_⟩:=H.gK u hu;simp only;have y:q.1<u.1\/q.1=u.1/\q.2<u.2:=by simpa[below]using hb
  have a1:=sx (xs:=xs) o (i:=q.1) (by omega) (by omega);have E:=sx (xs:=xs) o (i:=u.1) (by omega) (by omega);have b1:=sx (xs:=ys) n (i:=q.2) (by omega) (by omega);have D:=sx (xs:=ys) n (i:=u.2) (by omega) (by omega);unfold je at s;rcases s with⟨e,k⟩|⟨e,k⟩
  .have:=z_ (xs:=ys) t (i:=q.2) (j:=u.2) (by omega) (by omega) (by omega);rw[e];omega
  .have:=z_ (xs:=xs) v (i:=q.1) (j:=u.1) (by omega) (by omega) (by omega);rw[e];omega
theorem C_{n:Nat}{c r s:Int}{G:Gr}{xs ys:List Int}{m:Nat}{Q:Fl->Nat->Prop}(nd:(G.map (·.1)).Nodup)(B:∀k∈G.map (·.1),0<=k.1/\k.1<c/\0<=k.2/\k.2<r)(E:G.length<=25)(J:Joins G)(j:(xs.length:Int)=c)(i:(ys.length:Int)=r)(t:∀x∈xs,0<=x/\x<=1000000)(p:∀x∈ys,0<=x/\x<=1000000)(w:xs.Pairwise (·<·))(v:ys.Pairwise (·<·))(L:100<=m)(h:∀(cs:List (Int×Int×Int))(ws:List Kt)(g:Nat),m<=g+30->gU cs ws->Q (.rt (.tup [.tup (cs.map c3),.tup (ws.map kn)])) g):(au (V (n+3)) qx (jf c r s G xs ys KP KP KP KP KP)).wp m Q:=by
 have z:=gX;unfold qx;refine bZ ?_;refine zr nd B E J λK H=>?_;show(au (V (n+3)) qv (jf c r s G xs ys (KJ (.d (.lst (K.map kn)))) KP KP KP KP)).wp m Q;unfold qv;refine bZ ?_;have hK:=H.lK;subst_eqs;simp only[kN,T.wp_bind,Wp];refine tQ (k:=((K.map kn).length:Int)) (by simp;omega) (by omega) λns b C ln nn u=>?_;have a:K.length=ns.length:=by simp at ln;omega
 have o:=wV K ns [] [] a (by simpa using H.nd) (by simp;omega);simp only[List.nil_append,Nh]at o;simp only[Fh,o,T.wp_bind,Wp,ag,Cl];have hN:∃N,Nums K ns N:=by
  obtain⟨N,l,F⟩:=wW a H.nd nn;exact⟨N,λq f=>(l q f).1,λq f=>u _ (l q f).2,F⟩
 refine hN.elim λN hN=>?_;show(au (V (n+3)) qu (jf c r s G xs ys (KJ (.d (.lst (K.map kn)))) (KJ (.d (dN K ns))) KP KP KP)).wp b Q;unfold qu;rw[mZ (tR H hN j i)];show(au (V (n+3)) _ (jf c r s G xs ys (KJ (.d (.lst (K.map kn)))) (KJ (.d (dN K ns))) (KJ (.d (.lst ((K.map λq=>(N q,pl xs q.1,pl ys q.2)).map c3)))) KP KP)).wp b Q;have I:∀cs:D,au (V (n+3)) (.ql 11 .nil) (jf c r s G xs ys (KJ (.d (.lst (K.map kn)))) (KJ (.d (dN K ns))) (KJ (.d cs)) KP KP)=.ok (.nx (jf c r s G xs ys (KJ (.d (.lst (K.map kn)))) (KJ (.d (dN K ns))) (KJ (.d cs)) (KJ (.own (.lst (([]:List Kt).map kn)))) KP)):=λcs=>by
  show(T.need (decide (0<=KZ))>>=λ_=>T.ok (Fl.nx (jf c r s G xs ys (KJ (.d (.lst (K.map kn)))) (KJ (.d (dN K ns))) (KJ (.d cs)) (KJ (.own (.lst (([]:List Kt).map kn)))) KP)))=_;rw[G9];rfl
 rw[br (I _),di,T.wp_bind];refine zu H hN λws A lw hw=>?_;show(au (V (n+3)) qr _).wp b Q;unfold qr;subst_eqs;refine sort_k KH (λ_=>rfl) (λ_=>rfl) (ks:=K.map λq=>(N q,pl xs q.1,pl ys q.2)) rfl (by simp;omega) λcs y=>?_;simp only[kN,items,T.wp_bind,Wp];refine sort_k eK (λ_=>rfl) (λ_=>rfl) (ks:=ws) rfl (by omega) λe pw=>?_;simp only[kN,items,T.wp_bind,Wp];exact⟨wM,h cs e b (by omega) (gU.of H hN j i t p w v y hw lw pw)⟩
theorem Gi{n:Nat}{s:Int}{m:Nat}{Q:D->Nat->Prop}(b:s=1\/s=10000)(F:1000<=m)(h:∀(cs:List (Int×Int×Int))(ws:List Kt)(a:Nat),m<=a+300->gU cs ws->Q (.tup [.tup (cs.map c3),.tup (ws.map kn)]) a):(aW defs gv (n+4) 11 [.feed,.d (.int 5),.d (.int s)]).wp m Q:=by
 have z:=gX;rw[aT (d:=gf) rfl rfl];unfold gf;rw[T.wp_bind];subst_eqs;refine⟨by omega,by omega,by omega,λc c0 H=>⟨by omega,by omega,by omega,λr r0 A=>?_⟩⟩;refine zq (n:=n+1) (c:=2+c) (r:=2+r) (by omega) (by omega) (by omega) λG E v nd p w J=>?_;unfold se;subst_eqs;refine wY (n:=n+1) (k:=2+c) (by omega) b (by omega) λy C u o f i=>?_;refine wY (n:=n+1) (k:=2+r) (by omega) b (by omega) λx B t l e g=>?_;refine⟨wM,?_⟩;refine C_ nd p w J o l f e i g (by omega) λcs ws j q ok=>?_;exact(T.aw _ _ _).mpr (h cs ws j (by omega) ok)
open PyProof.Rows
noncomputable def qK(c:Nat):Nat:=if 65<=c&&c<=90 then c+32 else c
noncomputable def az(c:Nat):Bool:=97<=c&&c<=122
theorem Jk:(L4 128).all (λc=>Unicode.lowerOf c==[qK c])=KQ:=by decide+kernel
theorem Jl:(L4 128).all (λc=>(qK c==c&&QX c)==az c)=KQ:=by decide+kernel
theorem Jm:(L4 128).all (λc=>Of "abcdefghijklmnopqrstuvwxyz" ⟨#[c]⟩==az c)=KQ:=by decide+kernel
theorem tab{p:Nat->Bool}(h:(L4 128).all p=KQ){c:Nat}(a:c<128):p c=KQ:=List.all_eq_true.mp h c (List.mem_range.mpr a)
noncomputable def Dc(x:Li):Prop:=∀c∈x.cps.toList,c<128
theorem iI{x:Li}(h:Dc x):(Mz x).cps.toList=x.cps.toList.map qK:=by
 unfold Mz placed;simp only[Array.toList_flatten,Array.toList_mapIdx];have g:List.map RX (List.mapIdx (λi c=>(Unicode.lowerAt x.cps i).toArray) x.cps.toList)=x.cps.toList.map λc=>[qK c]:=by
  refine R8 λi=>?_;rw[Lw,List.getElem?_mapIdx,Lw];cases d:x.cps.toList[i]? with
  |none=>rfl|some c=>
   have b:=h c (LV d);have e:x.cps[i]?=KJ c:=by rw[<-Mj];exact d
   have t:=tab Jk b;simp only[Mt,N6];simp only[Unicode.lowerAt,e];rw[if_neg (by simp;omega)];simpa using t
 rw[g];generalize x.cps.toList=l;induction l with
 |nil=>rfl|cons a l f=>simpa using f
noncomputable def sA(x:Li):Bool:=(decide (1<=(x.length:Int))&&decide ((x.length:Int)<=8))&&x.cps.toList.all az
theorem w9{x:Li}(h:Dc x)(g:1<=x.length):((Mz x==x)&&OH x)=x.cps.toList.all az:=by
 have j:(Mz x==x)=x.cps.toList.all λc=>qK c==c:=by
  rw[MF,beq_iff_eq,Mh];constructor
  .intro e c d;have:=iI h;rw[e]at this;have m:x.cps.toList.map qK=x.cps.toList.map id:=by rw[Rm,<-this]
   simpa using List.map_inj_left.mp m c d
  .intro e;have:(Mz x).cps.toList=x.cps.toList:=by
    rw[iI h];refine(LY λc d=>?_).trans (Rm _);simpa using e c d
   have a:(Mz x).cps=x.cps:=Array.toList_inj.mp this;cases x;cases f:Mz _ with|mk q=>rw[f]at a;exact congrArg _ a
 have i:OH x=x.cps.toList.all QX:=by
  unfold OH;rw[decide_eq_true (show x.length>0 from g),NH,Array.all_toList]
 rw[j,i,MF,K0,Mh,Mh,Mh];have k:∀c∈x.cps.toList,(qK c==c&&QX c)=az c:=λc d=>by simpa using tab Jl (h c d)
 constructor
 .rintro⟨a,b⟩c d;rw[<-k c d,a c d,b c d];rfl
 .intro a;refine⟨λc d=>?_,λc d=>?_⟩
  .have:=a c d;rw[<-k c d,K0]at this;exact this.1
  .have:=a c d;rw[<-k c d,K0]at this;exact this.2
local macro_rules|`(tactic|symm_saturate)=>`(tactic|simp only[Gb,t8,G8,zh,Jf,tN,fU,bO,aK,ag,cH,bW,A.w,Cl,Sd,Ix,Lm,Ls,Mp,O4,Nat.reduceSub,if_true,wK,t9])
theorem Jn(n:Nat):(V n).iT 0=KJ (.int 999):=rfl
theorem Jo(n:Nat):(V n).iT 1=KJ (.int 1000000):=rfl
theorem Jp(n:Nat):(V n).iT 3=KJ (.int 8):=rfl
noncomputable def Ty:D->Prop
 |.aR _ _=>False|_=>True
noncomputable def isInt:D->Bool
 |.int _=>KQ|_=>KR
noncomputable def isStr:D->Bool
 |.str _=>KQ|_=>KR
noncomputable def isTup:D->Bool
 |.tup _=>KQ|_=>KR
noncomputable def Dd:D->Bool
 |.bl _=>KQ|_=>KR
theorem G_{t u:String}{b:Bool}(h:Nl [] (.type t) (.type u)=KJ b):(T.get (Nl [] (.type t) (.type u))>>=λb=>T.ok (D.bl b))=.ok (.bl b):=by rw[h];rfl
theorem w_{d:D}(h:Ty d):gJ "int" d=.ok (.bl (isInt d||Dd d)):=by cases d<;>first|exact h.elim|(exact G_ (by kernel_rfl))
theorem jq{d:D}(h:Ty d):gJ "bool" d=.ok (.bl (Dd d)):=by cases d<;>first|exact h.elim|(exact G_ (by kernel_rfl))
theorem in_str{d:D}(h:Ty d):gJ "str" d=.ok (.bl (isStr d)):=by cases d<;>first|exact h.elim|(exact G_ (by kernel_rfl))
theorem qL{d:D}(h:Ty d):gJ "tuple" d=.ok (.bl (isTup d)):=by cases d<;>first|exact h.elim|(exact G_ (by kernel_rfl))
noncomputable def inR(d:D)(lo a:Int):Bool:=match d with
 |.int i=>decide (lo<=i)&&decide (i<=a)|_=>KR
theorem pq{n:Nat}{d:D}(h:Ty d):aW defs gv (n+1) 0 [.d d]=.ok (.bl (isInt d)):=by
 rw[aT (d:=fc) rfl rfl];unfold fc;symm_saturate;rw[w_ h,jq h];cases d<;>first|exact h.elim|rfl
theorem m_{n:Nat}{d:D}{lo a:Int}(h:Ty d):aW defs gv (n+2) 1 [.d d,.d (.int lo),.d (.int a)]=.ok (.bl (inR d lo a)):=by
 rw[aT (d:=gc) rfl rfl];unfold gc;symm_saturate;rw[pq h];cases d<;>first|exact h.elim|rfl|skip
 rename_i i;symm_saturate;simp only[isInt,if_true,Ix,ag,aK,inR];cases decide (lo<=i)<;>rfl
theorem ft{n:Nat}{d:D}{lo a:Int}(h:Ty d):aW defs gv (n+1) 17 [.d d,.d (.int lo),.d (.int a)]=.ok (.bl (inR d lo a)):=by
 rw[aT (d:=et) rfl rfl];unfold et;symm_saturate;rw[w_ h];cases d<;>first|exact h.elim|rfl|(symm_saturate;rw[jq h];rfl)|skip
 rename_i i;symm_saturate;rw[jq (show Ty (.int i)from trivial)];simp only[isInt,Dd,if_true,Ix,ag,aK,inR,Pt,N2];cases decide (lo<=i)<;>rfl
noncomputable def fu(d:D)(k:Int):Bool:=match d with
 |.tup a=>((a.length:Nat):Int)==k|_=>KR
theorem Aa{n:Nat}{d:D}{k:Int}(h:Ty d):aW defs gv (n+1) 2 [.d d,.d (.int k)]=.ok (.bl (fu d k)):=by
 rw[aT (d:=kH) rfl rfl];unfold kH;symm_saturate;rw[qL h];cases d<;>first|exact h.elim|rfl
noncomputable def bH(d:D):Bool:=match d with
 |.tup [a,b]=>inR a 0 999&&inR b 0 999|_=>KR
theorem De{n:Nat}{d:D}(h:Ty d)(f:∀a b,d=.tup [a,b]->Ty a/\Ty b):aW defs gv (n+3) 3 [.d d]=.ok (.bl (bH d)):=by
 have z:=gX;rw[aT (d:=iF) rfl rfl];unfold iF;symm_saturate;rw[Aa h];match d,h,f with
 |.tup [a,b],h,f=>
  obtain⟨ha,hb⟩:=f a b rfl;symm_saturate;simp only[fu,LP,Md,cB,Cl,ag,aK];rw[if_pos (by decide)];have j:=bY (g:=gi (.nm 0)) (tc:=λρ=>bh (V (n+2)) .yes ρ) (te:=λρ=>ao (V (n+2)) ei ρ) (c:=λ_=>KQ) (e:=λd=>.bl (inR d 0 999)) (λρ=>∃o,ρ=[o]) (ds:=[a,b]) (ρ:=cQ [KJ (.d (.tup [a,b]))] 1 []) (by
   rintro ρ⟨o,rfl⟩d hd;refine⟨[KJ (.d d)],rfl,⟨_,rfl⟩,rfl,λ_=>?_⟩;unfold ei;symm_saturate;rw[Jn];have:Ty d:=by
    rcases List.mem_cons.mp hd with rfl|hd;.exact ha
    .rw[List.mem_singleton.mp hd];exact hb
   symm_saturate;exact m_ this) ⟨KP,rfl⟩;have i:dR (gi (.nm 0)) (λρ=>T.ok KQ) (λρ=>ao (V (n+2)) ei ρ) [a,b] (cQ [KJ (.d (.tup [a,b]))] 1 [])=.ok [.bl (inR a 0 999),.bl (inR b 0 999)]:=j;rw[i];show T.ok (D.bl ([inR a 0 999,inR b 0 999].all id))=T.ok (D.bl (inR a 0 999&&inR b 0 999));simp|.tup [],_,_=>rfl|.tup [a],_,_=>rfl|.tup (a::b::c::r),_,_=>
  have:fu (.tup (a::b::c::r)) 2=KR:=by simp[fu];omega
  rw[this];rfl|.bx,_,_=>rfl|.bl _,_,_=>rfl|.int _,_,_=>rfl|.str _,_,_=>rfl|.lst _,_,_=>rfl
noncomputable def kX:D->Prop
 |.aR _ _=>False|.str x=>Dc x/\x.length<=1000|_=>True
theorem kX.ty{d:D}(h:kX d):Ty d:=by cases d<;>first|exact h.elim|trivial
noncomputable def Dh:D->Bool
 |.str x=>sA x|_=>KR
theorem tS(l:List Nat):bools (l.map λc=>D.bl (az c))=KJ (l.map az):=by induction l with
 |nil=>rfl|cons a l b=>simp[bools,b]
theorem qM{v:Ev}{e:Ex}{ρ:ah}{d:D}(h:ao v e ρ=.ok d):(au v (.cons (.ret e) .nil) ρ>>=t9)=.ok d:=by
 simp only[Gb,h,ag];rfl
theorem Di{n:Nat}{d:D}(h:kX d):aW defs gv (n+1) 4 [.d d]=.ok (.bl (Dh d)):=by
 have z:=gX;rw[aT (d:=iG) rfl rfl];unfold iG;symm_saturate;rw[in_str h.ty];match d,h with
 |.str x,h=>
  symm_saturate;simp only[isStr,LW,Lc,if_false,kN,Jp,ag,Cl,aK,Ix,decide_eq_true (show x.length<=KZ by have:=h.2;omega),Sd,Dh,sA];cases k:decide (1<=(x.length:Int))with
  |false=>simp only[Lc,if_false,ag,Pt,if_true,Q_];rfl|true=>
   simp only[if_true,ag,NH];cases j:decide ((x.length:Int)<=8)with
   |false=>simp only[ag,Pt,if_true,Q_];rfl|true=>
    have f:=bY (g:=gi (.nm 0)) (tc:=λρ=>bh (V n) .yes ρ) (te:=λρ=>ao (V n) ek ρ) (c:=λ_=>KQ) (e:=λd=>match d with|.str y=>.bl (Of "abcdefghijklmnopqrstuvwxyz" y)|d=>d) (λρ=>∃o,ρ=[o]) (ds:=xl x) (ρ:=cQ [KJ (.d (.str x))] 1 []) (by
     rintro ρ⟨o,rfl⟩d hd;obtain⟨c,b,rfl⟩:=List.mem_map.mp hd;refine⟨_,rfl,⟨_,rfl⟩,rfl,λ_=>?_⟩;rfl) ⟨KP,rfl⟩;have em:((xl x).filter (λ_=>KQ)).map (λd=>match d with|.str y=>.bl (Of "abcdefghijklmnopqrstuvwxyz" y)|d=>d)=x.cps.toList.map λc=>D.bl (az c):=by
     rw[List.filter_eq_self.mpr (λ_ _=>rfl)];unfold xl;rw[LD];refine LY λc b=>?_;have:=tab Jm (h.1 c b);simp only[beq_iff_eq]at this;simp only[NJ,this]
    rw[em]at f;have a:dR (gi (.nm 0)) (λρ=>T.ok KQ) (λρ=>ao (V n) ek ρ) (xl x) (cQ [KJ (.d (.str x))] 1 [])=.ok (x.cps.toList.map λc=>D.bl (az c)):=f;have i:ao (V n) (.bi .all (.cons (.lc ["sign"] [] (.nm 0) (.bG (.var 0)) .yes ek) .nil)) [KJ (.d (.str x))]=.ok (.bl (x.cps.toList.all az)):=by
     symm_saturate;simp only[cB,if_pos (show x.length<=KZ by have:=h.2;omega),Cl,ag];simp only[a,ag,fU,kN,tS,Cl,List.all_map,Se,id]
    exact qM i
 |.bx,_=>rfl|.bl _,_=>rfl|.int _,_=>rfl|.tup _,_=>rfl|.lst _,_=>rfl
noncomputable def zv:D->Bool
 |.str x=>(("door":Li)==x)||((("window":Li)==x)||KR)|_=>KR
theorem Ab{d:D}(h:Ty d):pC d [.str "door",.str "window"]=KJ (zv d):=by match d,h with
 |.str x,_=>rfl|.bx,_=>rfl|.bl _,_=>rfl|.int _,_=>rfl|.tup _,_=>rfl|.lst _,_=>rfl
theorem Dj(p q:Kt):cw 50 (kn p) (kn q)=KJ (decide (p=q)):=by
 have h:cw 50 (kn p) (kn q)=KJ (((p.1==q.1)&&((p.2==q.2)&&KQ))&&KQ):=by
  unfold kn;simp only[cw,be,Mt,LP,Md,BEq.rfl]
 rw[h];congr 1;rw[MF];simp[Pj]
theorem Gj(w:Kt)(ws:List Kt):pC (kn w) (ws.map kn)=KJ (decide (w∈ws)):=by induction ws with
 |nil=>rfl|cons a ws c=>
  show(match cw 50 (kn a) (kn w),pC (kn w) (ws.map kn)with|some a,KJ b=>KJ (a||b)|_,_=>KP)=_;rw[Dj,c];show KJ (decide (a=w)||decide (w∈ws))=_;congr 1;rw[MF,Mf,decide_eq_true_eq,decide_eq_true_eq,decide_eq_true_eq,MA];exact or_congr_left eq_comm
noncomputable def tT(en:D)(w:Kt):Bool:=match en with
 |.int e=>w.1==e||(w.2==e||KR)|_=>KR
theorem Jq(e:Int)(w:Kt):pC (.int e) [.int w.1,.int w.2]=KJ (tT (.int e) w):=rfl
noncomputable def R(ws:List Kt):D->Bool
 |.tup [nm,d,c,en,a,b]=>Dh nm&&(zv d&&(bH c&&(decide (eK c∈ws)&&(tT en (eK c)&&(inR a 0 1000000&&inR b 1 1000000)))))|_=>KR
inductive Th:D->Prop|six{nm kd wl en a b:D}(h1:kX nm)(h2:Ty kd)(h3:Ty wl)(h4:∀x y,wl=.tup [x,y]->Ty x/\Ty y)(h5:Ty en)(h6:Ty a)(h7:Ty b):Th (.tup [nm,kd,wl,en,a,b])|tup{xs:List D}(h:xs.length≠6):Th (.tup xs)|Gk{d:D}(h:Ty d)(h':∀xs,d≠.tup xs):Th d
theorem nc{d:D}(h:bH d=KQ):d=kn (eK d):=by
 unfold bH at h;split at h
 .rename_i a b;rw[K0]at h;cases a<;>first|(exact absurd h.1 Ld)|skip
  cases b<;>first|(exact absurd h.2 Ld)|skip
  rfl
 .cases h
noncomputable abbrev nt(cs:D)(ws:List Kt):D:=.tup [cs,.tup (ws.map kn)]
theorem xa{xs:List D}(h:xs.length≠6):fu (.tup xs) 6=KR:=by simp[fu];omega
theorem xp{ng:Bool}{d:D}{xs:List D}{b:Bool}(h:pC d xs=KJ b):DK ng d (.tup xs)=.ok (.bl (if ng then !b else b))/\DK ng d (.lst xs)=.ok (.bl (if ng then !b else b)):=by
 constructor
 .show(T.get (pC d xs)>>=λb=>T.ok (D.bl (if ng then !b else b)))=_;rw[h];rfl
 .show(T.get (pC d xs)>>=λb=>T.ok (D.bl (if ng then !b else b)))=_;rw[h];rfl
theorem guard{v:Ev}{c:Ex}{r:aZ}{ρ:ah}(b:Bool)(h:bh v c ρ=.ok b):(au v (.cons (.iff c (.cons (.ret (.cst (.bl KR))) .nil) .nil) r) ρ>>=t9)=if b then .ok (.bl KR)else(au v r ρ>>=t9):=by
 have e:au v (.iff c (.cons (.ret (.cst (.bl KR))) .nil) .nil) ρ=if b then .ok (.rt (.bl KR))else .ok (.nx ρ):=by
  show(bh v c ρ>>=λx=>if x then _ else _)=_;rw[h];cases b<;>rfl
 rw[di,e];cases b<;>rfl
theorem cL{v:Ev}{a b:Ex}{ρ:ah}(x y:Bool)(ha:bh v a ρ=.ok x)(hb:x=KR->bh v b ρ=.ok y):bh v (.fG a b) ρ=.ok (x||y):=by
 show(bh v a ρ>>=λc=>if c then T.ok KQ else bh v b ρ)=_;rw[ha,ag];cases x with
 |true=>rfl|false=>rw[if_neg (by simp),hb rfl];rfl
theorem dv{v:Ev}{a:Ex}{ρ:ah}{x:Bool}(ha:ao v a ρ=.ok (.bl x)):bh v (.bz (.fP a)) ρ=.ok (!x):=by
 show((ao v a ρ>>=λd=>yZ d)>>=λc=>T.ok (!c))=_;rw[ha];rfl
theorem eL{v:Ev}{o:Oo}{a b:Ex}{ρ:ah}{d e:D}{x:Bool}(ha:ao v a ρ=.ok d)(hb:ao v b ρ=.ok e)(h:bA o d e=.ok (.bl x)):bh v (.ax o a b) ρ=.ok x:=by
 show(ao v a ρ>>=λd=>ao v b ρ>>=λe=>bA o d e>>=λy=>aK y)=_;rw[ha,ag,hb,ag,h];rfl
theorem fv{v:Ev}{a:Ex}{ρ:ah}{x:Bool}(h:bh v a ρ=.ok x):bh v (.bj a) ρ=.ok x:=h
theorem Gm{xs:List D}(ws:List Kt)(h:xs.length≠6):R ws (.tup xs)=KR:=by match xs,h with
 |[],_=>rfl|[_],_=>rfl|[_,_],_=>rfl|[_,_,_],_=>rfl|[_,_,_,_],_=>rfl|[_,_,_,_,_],_=>rfl|[_,_,_,_,_,_],h=>exact absurd rfl h|_::_::_::_::_::_::_::_,_=>rfl
theorem Ac(ws:List Kt)(nm d c en a b:D):R ws (.tup [nm,d,c,en,a,b])=(Dh nm&&(zv d&&(bH c&&(decide (eK c∈ws)&&(tT en (eK c)&&(inR a 0 1000000&&inR b 1 1000000)))))):=rfl
noncomputable abbrev s8(cs:D)(ws:List Kt)(nm e c en a b:D):ah:=[KJ (.d (nt cs ws)),KJ (.d (.tup [nm,e,c,en,a,b])),KJ (.d nm),KJ (.d e),KJ (.d c),KJ (.d en),KJ (.d a),KJ (.d b)]
theorem xb{ws:List Kt}{a:D}(hw:bH a=KQ):bA .NotIn a (.tup (ws.map kn))=.ok (.bl (!decide (eK a∈ws))):=by
 have b:=nc hw;generalize eK a=w at b⊢;subst b;exact(xp (ng:=KQ) (Gj w ws)).1
theorem Ad{en a:D}(hw:bH a=KQ)(c:isInt en=KQ):bA .NotIn en a=.ok (.bl (!tT en (eK a))):=by
 have b:=nc hw;generalize eK a=w at b⊢;subst b;cases en<;>first|exact absurd c Ld|skip
 exact(xp (ng:=KQ) (Jq _ w)).1
theorem zw{en:D}{w:Kt}(h:isInt en=KR):tT en w=KR:=by cases en<;>first|rfl|exact absurd h.symm Ld
theorem qN{n:Nat}{cs:D}{ws:List Kt}{d:D}(h:Th d):aW defs gv (n+4) 5 [.d (nt cs ws),.d d]=.ok (.bl (R ws d)):=by
 rw[aT (d:=iH) rfl rfl];unfold iH;show(au (V (n+3)) _ [KJ (.d (nt cs ws)),KJ (.d d),KP,KP,KP,KP,KP,KP]>>=t9)=_;have ro:Ty d->bh (V (n+3)) (.bz (.fP (.call 2 (.cons (.var 1) (.cons (.cst (.int 6)) .nil))))) [KJ (.d (nt cs ws)),KJ (.d d),KP,KP,KP,KP,KP,KP]=.ok (!fu d 6):=λh=>dv (Aa h);cases h with
 |tup h=>rw[guard _ (ro trivial),xa h,Gm ws h];rfl|Gk h r=>
  rw[guard _ (ro h)];cases d<;>first|exact absurd rfl (r _)|exact h.elim|rfl
 |six q p m l k j i=>
  rename_i nm e c en a b;rw[guard _ (ro trivial),show fu (.tup [nm,e,c,en,a,b]) 6=KQ from rfl,LW,if_neg (by simp)];unfold kB;rw[br (show au (V (n+3)) (.asg (.tup 6 (.cons (.nm 2) (.cons (.nm 3) (.cons (.nm 4) (.cons (.nm 5) (.cons (.nm 6) (.cons (.nm 7) .nil))))))) (.var 1)) [KJ (.d (nt cs ws)),KJ (.d (.tup [nm,e,c,en,a,b])),KP,KP,KP,KP,KP,KP]=.ok (.nx (s8 cs ws nm e c en a b))from rfl)];have t:=cL (v:=V (n+3)) (ρ:=s8 cs ws nm e c en a b) _ _ (dv (a:=.call 4 (.cons (.var 2) .nil)) (Di q)) λ_=>cL _ _ (eL (a:=.var 3) (b:=.iT 4) (o:=.NotIn) rfl rfl (xp (ng:=KQ) (Ab p)).1) λ_=>cL _ (!decide (eK c∈ws)) (dv (a:=.call 3 (.cons (.var 4) .nil)) (De m l)) λhw=>fv (eL (a:=.var 4) (b:=.idx (.var 0) (.cst (.int 1))) (o:=.NotIn) rfl (by symm_saturate) (xb (by simpa using hw)));rw[guard _ t];rw[Ac];cases u:Dh nm with
  |false=>rfl|true=>cases w:zv e with
  |false=>rfl|true=>cases hw:bH c with
  |false=>rfl|true=>cases x:decide (eK c∈ws)with
  |false=>rfl|true=>
   simp only[LW,N2,if_true,Lc,if_false,NH];unfold kA;have s:=cL (v:=V (n+3)) (ρ:=s8 cs ws nm e c en a b) _ (!tT en (eK c)) (dv (a:=.call 0 (.cons (.var 5) .nil)) (pq k)) λf=>fv (eL (a:=.var 5) (b:=.var 4) (o:=.NotIn) rfl rfl (Ad hw (by simpa using f)));rw[guard _ s];cases f:isInt en with
   |false=>rw[zw f];rfl|true=>cases y:tT en (eK c)with
   |false=>rfl|true=>
    simp only[LW,N2,if_true,Lc,if_false,NH];unfold kz;have g:ao (V (n+3)) (.and (.call 1 (.cons (.var 6) (.cons (.cst (.int 0)) (.cons (.iT 1) .nil)))) (.one (.call 1 (.cons (.var 7) (.cons (.cst (.int 1)) (.cons (.iT 1) .nil)))))) (s8 cs ws nm e c en a b)=.ok (.bl (inR a 0 1000000&&inR b 1 1000000)):=by
     symm_saturate;rw[Jo];symm_saturate;rw[m_ j];simp only[ag,aK];cases inR a 0 1000000 with
     |false=>rfl|true=>
      rw[if_pos rfl,m_ i];rfl
    rw[qM g]
theorem l7{v:Ev}{i:Nat}{t:String}{ρ:ah}{d:D}{b:Bool}(hd:cH ρ i=KJ d)(h:gJ t d=.ok (.bl b)):ao v (.kM t (.var i)) ρ=.ok (.bl b):=by
 show(T.get (cH ρ i)>>=λd=>gJ t d)=_;rw[hd];exact h
theorem zx{x:Li}(h:Dc x):(Mz x).length=x.length:=by
 have:=congrArg OD (iI h);simpa[SE]using this
theorem Jr{n:Nat}{nm:D}{ρ:ah}(h:kX nm)(a:cH ρ 2=KJ nm):bh (V n) (.fG (.bz (.fP (.kM "str" (.var 2)))) (.fG (.bz (.oJ .LtE .LtE (.cst (.int 1)) (.bi .len (.cons (.var 2) .nil)) (.cst (.int 8)))) (.fG (.ax .NotEq (.low (.var 2)) (.var 2)) (.bj (.bz (.fP (.Cd (.var 2)))))))) ρ=.ok (!Dh nm):=by
 have z:=gX;have c:∀v:Ev,ao v (.var 2) ρ=.ok nm:=λv=>by
  show T.get (cH ρ 2)=_;rw[a];rfl
 cases b:isStr nm with
 |false=>
  rw[cL KQ KQ (dv (l7 a (in_str h.ty))|>.trans (by rw[b];rfl)) (λe=>by cases e)];cases nm<;>first|rfl|exact absurd b.symm Ld
 |true=>
  cases nm<;>first|exact absurd b Ld|skip
  rename_i x;have j:x.length<=1000:=h.2;have i:bh (V n) (.bz (.oJ .LtE .LtE (.cst (.int 1)) (.bi .len (.cons (.var 2) .nil)) (.cst (.int 8)))) ρ=.ok (!(decide (1<=(x.length:Int))&&decide ((x.length:Int)<=8))):=by
   simp only[G8,t8,zh,a,Cl,ag,fU,kN,decide_eq_true (show x.length<=KZ by omega),Sd,Ix,aK];cases decide (1<=(x.length:Int))<;>rfl
  have g:bh (V n) (.ax .NotEq (.low (.var 2)) (.var 2)) ρ=.ok (!(Mz x==x)):=by
   refine eL (d:=.str (Mz x)) (e:=.str x) ?_ (c _) rfl;simp only[t8,a,Cl,ag,Cg,decide_eq_true (show(Mz x).length<=KZ by rw[zx h.1];omega),Sd]
  have f:bh (V n) (.bj (.bz (.fP (.Cd (.var 2))))) ρ=.ok (!Txt.isalpha x):=fv (dv (by simp only[t8,a,Cl,ag,Ci]));rw[cL _ _ (dv (l7 a (in_str (show Ty (.str x)from trivial)))) (λ_=>cL _ _ i (λ_=>cL _ _ g (λ_=>f)))];show T.ok (!true||(!(decide (1<=(x.length:Int))&&decide ((x.length:Int)<=8))||((!(Mz x==x))||!Txt.isalpha x)))=.ok (!sA x);unfold sA;cases hd:(decide (1<=(x.length:Int))&&decide ((x.length:Int)<=8))with
  |false=>rfl|true=>
   rw[<-w9 h.1 (by rw[K0]at hd;have:=of_decide_eq_true hd.1;omega)];cases Mz x==x<;>cases OH x<;>rfl
noncomputable def iY:D->Bool
 |.tup [_,_]=>KQ|_=>KR
theorem Js{n:Nat}{c a:D}{ρ:ah}(h:Ty c)(h':Ty a)(i:cH ρ 3=KJ c)(hw:cH ρ 4=KJ a):bh (V n) (.fG (.bz (.fP (.kM "str" (.var 3)))) (.fG (.ax .NotIn (.var 3) (.lst (.cons (.cst (.str "door")) (.cons (.cst (.str "window")) .nil)))) (.fG (.bz (.fP (.kM "tuple" (.var 4)))) (.bj (.ax .NotEq (.bi .len (.cons (.var 4) .nil)) (.cst (.int 2))))))) ρ=.ok (!(zv c&&iY a)):=by
 have z:=gX;have m:bh (V n) (.ax .NotIn (.var 3) (.lst (.cons (.cst (.str "door")) (.cons (.cst (.str "window")) .nil)))) ρ=.ok (!zv c):=by
  refine eL (d:=c) (e:=.lst [.str "door",.str "window"]) ?_ ?_ (xp (ng:=KQ) (Ab h)).2;.simp only[t8,i,Cl]
  .simp only[t8,zh,Cl,ag,fU,Ls,O4,Sd]
 have l:isTup a=KQ->∃b,bh (V n) (.bj (.ax .NotEq (.bi .len (.cons (.var 4) .nil)) (.cst (.int 2)))) ρ=.ok b/\b=!iY a:=λf=>by
  cases a<;>first|exact absurd f Ld|skip
  rename_i g;refine⟨!(((g.length:Nat):Int)==2),fv (eL (d:=.int g.length) (e:=.int 2) ?_ rfl rfl),?_⟩;.simp only[t8,zh,hw,Cl,ag,fU,kN]
  .congr 1;match g with
   |[]=>rfl|[_]=>rfl|[_,_]=>rfl|_::_::_::r=>simp[iY];omega
 rw[cL _ (!(zv c&&iY a)) (dv (l7 i (in_str h))) (λ_=>by
  rw[cL _ (!iY a) m (λ_=>by
   rw[cL _ (!iY a) (dv (l7 hw (qL h'))) (λf=>by
    obtain⟨b,k,j⟩:=l (by simpa using f);rw[k,j])];cases f:isTup a with
   |true=>rfl|false=>cases a<;>first|rfl|exact absurd f.symm Ld)];cases zv c<;>rfl)];cases c<;>rfl
theorem Dl{en c:D}(hw:bH c=KQ)(h:tT en (eK c)=KQ):inR en 0 999=KQ:=by
 unfold bH at hw;split at hw
 .rename_i a b;rw[K0]at hw;cases a<;>first|(exact absurd hw.1 Ld)|skip
  cases b<;>first|(exact absurd hw.2 Ld)|skip
  cases en<;>first|(exact absurd h Ld)|skip
  rename_i i j e;simp only[tT,eK,N2,Mf,beq_iff_eq]at h;rcases h with rfl|rfl;.exact hw.1
  .exact hw.2
 .cases hw
theorem zy{en:D}{lo a:Int}(h:inR en lo a=KQ):isInt en=KQ:=by cases en<;>first|rfl|exact absurd h Ld
theorem Dm(v:Ev)(i:Nat)(ρ:ah)(xs:List D)(h:cH ρ i=KJ (.tup xs)):ao v (.bi .len (.cons (.var i) .nil)) ρ=.ok (.int xs.length):=by simp only[t8,zh,h,Cl,ag,fU,kN]
theorem zA{n:Nat}{cs:D}{ws:List Kt}{d:D}(h:Th d):aW defs gv (n+2) 18 [.d (nt cs ws),.d d]=.ok (.bl (R ws d)):=by
 rw[aT (d:=eA) rfl rfl];unfold eA;show(au (V (n+1)) _ [KJ (.d (nt cs ws)),KJ (.d d),KP,KP,KP,KP,KP,KP]>>=t9)=_;have ro:Ty d->bh (V (n+1)) (.fG (.bz (.fP (.kM "tuple" (.var 1)))) (.bj (.ax .NotEq (.bi .len (.cons (.var 1) .nil)) (.cst (.int 6))))) [KJ (.d (nt cs ws)),KJ (.d d),KP,KP,KP,KP,KP,KP]=.ok (!fu d 6):=λh=>by
  rw[cL _ (!fu d 6) (dv (l7 (d:=d) rfl (qL h))) (λg=>by
   have g:isTup d=KQ:=by simpa using g
   clear h;cases d<;>first|exact absurd g Ld|skip
   rename_i j _;exact fv (eL (d:=.int j.length) (e:=.int 6) (Dm _ _ _ j rfl) rfl rfl))];cases d<;>rfl
 cases h with
 |tup h=>rw[guard _ (ro trivial),xa h,Gm ws h];rfl|Gk h E=>
  rw[guard _ (ro h)];cases d<;>first|exact absurd rfl (E _)|exact h.elim|rfl
 |six C B A z y x w=>
  rename_i nm f c en a b;rw[guard _ (ro trivial),show fu (.tup [nm,f,c,en,a,b]) 6=KQ from rfl,LW,if_neg (by simp)];rw[br (show au (V (n+1)) (.asg (.tup 6 (.cons (.nm 2) (.cons (.nm 3) (.cons (.nm 4) (.cons (.nm 5) (.cons (.nm 6) (.cons (.nm 7) .nil))))))) (.var 1)) [KJ (.d (nt cs ws)),KJ (.d (.tup [nm,f,c,en,a,b])),KP,KP,KP,KP,KP,KP]=.ok (.nx (s8 cs ws nm f c en a b))from rfl)];rw[guard _ (Jr (ρ:=s8 cs ws nm f c en a b) C rfl),Ac];cases K:Dh nm with
  |false=>rfl|true=>
  rw[LW,if_neg (by simp),guard _ (Js (ρ:=s8 cs ws nm f c en a b) B A rfl rfl)];cases L:zv f with
  |false=>rfl|true=>cases g:iY c with
  |false=>
   rw[show bH c=KR from by cases hw:bH c with
    |false=>rfl|true=>
     rw[nc hw]at g;exact absurd g.symm Ld];rfl|true=>
  obtain⟨p,q,rfl⟩:∃p q,c=.tup [p,q]:=by
   unfold iY at g;split at g;.exact⟨_,_,rfl⟩
   .cases g
  obtain⟨u,t⟩:=z p q rfl;have G:bh (V (n+1)) (.fG (.bz (.fP (.call 17 (.cons (.idx (.var 4) (.cst (.int 0))) (.cons (.cst (.int 0)) (.cons (.cst (.int 999)) .nil)))))) (.fG (.bz (.fP (.call 17 (.cons (.idx (.var 4) (.cst (.int 1))) (.cons (.cst (.int 0)) (.cons (.cst (.int 999)) .nil)))))) (.bj (.ax .NotIn (.var 4) (.idx (.var 0) (.cst (.int 1))))))) (s8 cs ws nm f (.tup [p,q]) en a b)=.ok (!(bH (.tup [p,q])&&decide (eK (.tup [p,q])∈ws))):=by
   have J:ao (V (n+1)) (.call 17 (.cons (.idx (.var 4) (.cst (.int 0))) (.cons (.cst (.int 0)) (.cons (.cst (.int 999)) .nil)))) (s8 cs ws nm f (.tup [p,q]) en a b)=.ok (.bl (inR p 0 999)):=by
    symm_saturate;exact ft u
   have I:ao (V (n+1)) (.call 17 (.cons (.idx (.var 4) (.cst (.int 1))) (.cons (.cst (.int 0)) (.cons (.cst (.int 999)) .nil)))) (s8 cs ws nm f (.tup [p,q]) en a b)=.ok (.bl (inR q 0 999)):=by
    symm_saturate;exact ft t
   rw[cL _ (!(inR q 0 999&&decide (eK (.tup [p,q])∈ws))) (dv J) (λl=>by
    rw[cL _ (!decide (eK (.tup [p,q])∈ws)) (dv I) (λk=>fv (eL (d:=.tup [p,q]) (e:=.tup (ws.map kn)) rfl (by symm_saturate) (xb (by simp only[Bool.not_eq_false']at l k;simp only[bH,l,k];rfl))))];cases inR q 0 999<;>rfl)];show _=T.ok (!((inR p 0 999&&inR q 0 999)&&decide (eK (.tup [p,q])∈ws)));cases inR p 0 999<;>rfl
  rw[NH,LW,if_neg (by simp),guard _ G];generalize r:D.tup [p,q]=c at*;cases hw:bH c with
  |false=>rfl|true=>cases M:decide (eK c∈ws)with
  |false=>rfl|true=>
   simp only[LW,N2,if_true,Lc,if_false,NH];unfold pj;have H:ao (V (n+1)) (.call 17 (.cons (.var 5) (.cons (.cst (.int 0)) (.cons (.cst (.int 999)) .nil)))) (s8 cs ws nm f c en a b)=.ok (.bl (inR en 0 999)):=by
    symm_saturate;exact ft y
   have F:=cL (v:=V (n+1)) (ρ:=s8 cs ws nm f c en a b) _ (!tT en (eK c)) (dv H) λi=>fv (eL (a:=.var 5) (b:=.var 4) (o:=.NotIn) rfl rfl (Ad hw (zy (by simpa using i))));rw[guard _ F];cases i:inR en 0 999 with
   |false=>
    rw[show tT en (eK c)=KR from by cases m:tT en (eK c)with
     |false=>rfl|true=>rw[Dl hw m]at i;cases i];rfl|true=>cases m:tT en (eK c)with
   |false=>rfl|true=>
    simp only[LW,N2,if_true,Lc,if_false,NH];unfold ph;have s:ao (V (n+1)) (.and (.call 17 (.cons (.var 6) (.cons (.cst (.int 0)) (.cons (.op .Pow (.cst (.int 10)) (.cst (.int 6))) .nil)))) (.one (.call 17 (.cons (.var 7) (.cons (.cst (.int 1)) (.cons (.op .Pow (.cst (.int 10)) (.cst (.int 6))) .nil)))))) (s8 cs ws nm f c en a b)=.ok (.bl (inR a 0 1000000&&inR b 1 1000000)):=by
     symm_saturate;rw[ft x];simp only[ag,aK];cases inR a 0 1000000 with
     |false=>rfl|true=>
      rw[if_pos rfl,ft w];rfl
    rw[qM s]
abbrev C3:=Int×Int×Int
noncomputable def ik(p:C3):D:=.int p.1
noncomputable def iv(p:C3):D:=.tup [.int p.2.1,.int p.2.2]
theorem nh(cs:List C3)(c:Int):aE (cs.map ik) (.int c)=KQ:=by
 unfold aE;rw[Mf];left;rw[K0];refine⟨List.all_eq_true.mpr λx a=>?_,rfl⟩;obtain⟨p,_,rfl⟩:=List.mem_map.mp a;rfl
theorem xf(a b:Int):eI (.int a) (.int b)=decide (a=b):=by
 unfold eI;simp[iO]
theorem Gn(cs:List C3)(c:Int):bN (cs.map ik) (.int c)=decide (c∈cs.map (·.1)):=by induction cs with
 |nil=>rfl|cons k ks a=>
  unfold bN at a⊢;simp only[Ll,ND,a];rw[show eI (ik k) (.int c)=decide (k.1=c)from xf _ _,MF,Mf,decide_eq_true_eq,decide_eq_true_eq,decide_eq_true_eq,MA];exact or_congr_left eq_comm
theorem qO:∀{cs:List C3}{p:C3},(cs.map (·.1)).Nodup->p∈cs->aG (cs.map ik) (cs.map iv) (.int p.1)=KJ (iv p)
 |k::ks,p,nd,a=>by
  simp only[Ll,aG];rw[show eI (ik k) (.int p.1)=decide (k.1=p.1)from xf _ _];rw[Ll,M9]at nd;rcases List.mem_cons.mp a with rfl|a;.simp
  .have:k.1≠p.1:=λe=>nd.1 (by rw[e];exact List.mem_map.mpr ⟨p,a,rfl⟩);rw[decide_eq_false this,if_neg (by simp)];exact qO nd.2 a
inductive SI(net:D)(cs:List C3)(m:Nat)(ds:List D)(ρ:ah)(m':Nat):Prop|mk(as bs:List C3)(o2 o3 o4:Option W)(eρ:ρ=[KJ (.d net),KJ (.own (.aR (as.map ik) (as.map iv))),o2,o3,o4])(g1:m'=m)(g2:ds=bs.map c3)(g3:as++bs=cs)
theorem zB{n:Nat}{cs:List C3}{ws:D}{m:Nat}{Q:D->Nat->Prop}(nd:(cs.map (·.1)).Nodup)(lc:cs.length<=25)(h:Q (.aR (cs.map ik) (cs.map iv)) m):(aW defs gv (n+1) 12 [.d (.tup [.tup (cs.map c3),ws])]).wp m Q:=by
 have z:=gX;rw[aT (d:=cJ) rfl rfl];unfold cJ;rw[T.wp_bind];subst_eqs;refine⟨rfl,?_⟩;simp only[cB,T.eB];refine eC (SI (.tup [.tup (cs.map c3),ws]) cs m) ?_ ?_ ⟨[],cs,KP,KP,KP,rfl,rfl,rfl,rfl⟩
 .rintro d p e j⟨c,bs,i,g,f,rfl,rfl,a,rfl⟩;cases bs with
  |nil=>cases a|cons b bs=>
   cases a;refine sj λQ l=>?_;unfold iX c3;subst_eqs;try simp only[LP,Md,if_true]
   try subst_eqs
   have k:¬b.1∈c.map (·.1):=λhb=>by
    rw[M7]at nd;exact(List.nodup_append.mp nd).2.2 _ hb b.1 (by simp) rfl
   have o:c.length<=25:=by simp at lc;omega
   refine⟨wM,?_,?_⟩;.rw[nh];simp;omega
   .refine l _ _ ⟨c++[b],bs,KJ (.d (.int b.1)),KJ (.d (.int b.2.1)),KJ (.d (.int b.2.2)),?_,rfl,rfl,by simp⟩;unfold putD;rw[Gn,decide_eq_false k];simp only[Lc,if_false,M7,Ll,Nh,ik,iv];rfl
 .rintro e j⟨c,bs,i,g,f,rfl,rfl,a,rfl⟩;cases bs with
  |cons b bs=>cases a|nil=>
   unfold iW;subst_eqs;simpa using h
theorem xg{n:Nat}{cs:List C3}{ws:List Kt}{w:Kt}{m:Nat}{Q:D->Nat->Prop}(H:gU cs ws)(hw:w∈ws)(h:∀L:Int,1<=L->L<=2000000->Q (.int L) m):(aW defs gv (n+2) 13 [.d (nt (.tup (cs.map c3)) ws),.d (kn w)]).wp m Q:=by
 have z:=gX;rw[aT (d:=dB) rfl rfl];unfold dB;rw[T.wp_bind];refine bZ ?_;subst_eqs;refine zB H.nd H.lc ?_;obtain⟨p,f,q,e,i,g,c,b⟩:=H.ln w hw;have b1:e8 (.aR (cs.map ik) (cs.map iv)) (.int w.1)=.ok (iv p):=by
  rw[<-i];simp only[e8,nh,qO H.nd f,Sd,ag,Cl]
 have a:e8 (.aR (cs.map ik) (cs.map iv)) (.int w.2)=.ok (iv q):=by
  rw[<-g];simp only[e8,nh,qO H.nd e,Sd,ag,Cl]
 unfold l4 kn;subst_eqs;simp only[b1,a,T.aw,iv];subst_eqs;simp only[b1,a,T.aw,iv];subst_eqs;exact h _ c b
theorem pick{xs:List D}{i:Int}{m:Nat}{Q:D->Nat->Prop}(a:0<=i)(b:i<xs.length)(h:∀x∈xs,Q x m):(T.get (fy xs i)).wp m Q:=by
 have e:xs[i.toNat]?=KJ (xs[i.toNat]'(by omega)):=Lp (by omega);rw[Gc a e,T.eB];exact h _ (OZ _)
theorem Ae{a b c d:D}{i:Int}{m:Nat}{Q:D->Nat->Prop}(g:0<=i)(f:i<4)(ha:Q a m)(hb:Q b m)(e:Q c m)(hd:Q d m):(T.get (fy [a,b,c,d] i)).wp m Q:=pick g (by simpa using f) (by simp;exact⟨ha,hb,e,hd⟩)
theorem l9{a b c d e f g j:D}{i:Int}{m:Nat}{Q:D->Nat->Prop}(q:0<=i)(p:i<8)(ha:Q a m)(hb:Q b m)(o:Q c m)(hd:Q d m)(n:Q e m)(l:Q f m)(k:Q g m)(h:Q j m):(T.get (fy [a,b,c,d,e,f,g,j] i)).wp m Q:=pick q (by simpa using p) (by simp;exact⟨ha,hb,o,hd,n,l,k,h⟩)
theorem Dn:(SE " !\"#$&'()*+,-./0123456789:;<=>?@ABCDEFGHIJKLMNOPQRSTUVWXYZ[\\]^_`abcdefghijklmnopqrstuvwxyz{|}~\n\t")=96:=by decide+kernel
theorem Dp:(Str.cps " !\"#$&'()*+,-./0123456789:;<=>?@ABCDEFGHIJKLMNOPQRSTUVWXYZ[\\]^_`abcdefghijklmnopqrstuvwxyz{|}~\n\t").toList.all (λc=>c<128)=KQ:=by decide+kernel
theorem Dq{n:Nat}{m:Nat}{Q:D->Nat->Prop}(j:10<=m)(h:∀c,c<128->Q (.str ⟨#[c]⟩) (m-1)):(aW defs gv (n+2) 15 [.feed]).wp m Q:=by
 have z:=gX;rw[aT (d:=fh) rfl rfl];unfold fh;rw[T.wp_bind];have a:=Dn;have ha:=Dp;generalize(KN " !\"#$&'()*+,-./0123456789:;<=>?@ABCDEFGHIJKLMNOPQRSTUVWXYZ[\\]^_`abcdefghijklmnopqrstuvwxyz{|}~\n\t")=x at a ha⊢;subst_eqs;simp only[kN,T.wp_bind,T.bE,Wp,a];refine⟨by simp;omega,?_⟩;subst_eqs;refine⟨by decide,by decide,by omega,λi i0 f=>?_⟩;simp only[e8,Ce,bO,T.wp_bind,T.bE,Wp,ag,a];refine⟨by simp;omega,?_⟩;have g:x.cps.toList.length=96:=by rw[<-a];rfl
 unfold xU;have e:x.cps.toList[i.toNat]?=KJ (x.cps.toList[i.toNat]'(by omega)):=Lp (by omega);have b:fy x.cps.toList i=KJ (x.cps.toList[i.toNat]'(by omega)):=by
  have:=dk e;rwa[show((i.toNat:Nat):Int)=i by omega]at this
 rw[b];refine(T.eB _ _ _).mpr (h _ ?_);have:=List.all_eq_true.mp ha _ (OZ (l:=x.cps.toList) (n:=i.toNat) (by omega));simpa using this
noncomputable def Nm(x:Li):Prop:=Dc x/\1<=x.length/\x.length<=8
theorem Dr{x:Li}(h:(x.cps.toList.all (λc=>c<128)&&(decide (1<=x.length)&&decide (x.length<=8)))=KQ):Nm x:=by
 simp only[K0,Mh,decide_eq_true_eq]at h;exact⟨h.1,h.2⟩
noncomputable abbrev gd(x k:Li)(w:Kt)(e a b:Int):D:=.tup [.str x,.str k,kn w,.int e,.int a,.int b]
noncomputable abbrev g7(net:D)(w:Kt)(L:Int)(o4 o5 o6:Option W):ah:=[KJ .feed,KJ (.d net),KJ (.d (kn w)),KJ (.d (.int L)),o4,o5,o6]
theorem Jt{n m:Nat}{net:D}{w:Kt}{L:Int}{o4 o5 o6:Option W}{Q:D->Nat->Prop}(k:10<=m)(i:1<=L)(g:L<=2000000)(h:∀(a:Int)b,m<=b+2->Q (.int a) b):(ao (V (n+1)) (.idx (.lst (.cons (.cst (.int 0)) (.cons (.call 6 (.feed 0 (.cons (.op .Add (.var 3) (.cst (.int 1))) .nil))) (.cons (.var 3) (.cons (.op .Pow (.cst (.int 10)) (.cst (.int 6))) .nil))))) (.call 6 (.feed 0 (.cons (.cst (.int 4)) .nil)))) (g7 net w L o4 o5 o6)).wp m Q:=by
 subst_eqs;refine⟨by omega,by omega,by omega,λp f e=>⟨sd (by decide),by omega,by omega,by omega,λj d c=>?_⟩⟩;refine Ae d c ?_ ?_ ?_ ?_<;>refine h _ _ ?_<;>omega
theorem Ju{n m:Nat}{net:D}{w:Kt}{L:Int}{o4 o5 o6:Option W}{Q:D->Nat->Prop}(k:10<=m)(i:1<=L)(g:L<=2000000)(h:∀(a:Int)b,m<=b+2->Q (.int a) b):(ao (V (n+1)) (.idx (.lst (.cons (.cst (.int 1)) (.cons (.op .Add (.cst (.int 1)) (.call 6 (.feed 0 (.cons (.var 3) .nil)))) (.cons (.var 3) (.cons (.op .Pow (.cst (.int 10)) (.cst (.int 6))) .nil))))) (.call 6 (.feed 0 (.cons (.cst (.int 4)) .nil)))) (g7 net w L o4 o5 o6)).wp m Q:=by
 subst_eqs;refine⟨by omega,by omega,by omega,λp f e=>⟨sd (by decide),by omega,by omega,by omega,λj d c=>?_⟩⟩;refine Ae d c ?_ ?_ ?_ ?_<;>refine h _ _ ?_<;>omega
theorem Jv{n m:Nat}{net:D}{w:Kt}{L:Int}{o4 o5 o6:Option W}{Q:D->Nat->Prop}(f:10<=m)(h:∀(x:Li)b,m<=b+1->Nm x->Q (.str x) b):(ao (V (n+1)) (.idx (.lst (.cons (.cst (.str "a")) (.cons (.cst (.str "zz")) (.cons (.cst (.str "abcdefgh")) (.cons (.cst (.str "q")) (.cons (.cst (.str "window")) .nil)))))) (.call 6 (.feed 0 (.cons (.cst (.int 5)) .nil)))) (g7 net w L o4 o5 o6)).wp m Q:=by
 subst_eqs;refine⟨sd (by decide),by omega,by omega,by omega,λj e d=>?_⟩;refine pick e (by simpa using d) ?_;intro x c;have a:∃y:Li,x=.str y/\Nm y:=by
  simp only[MA,MK,or_false]at c;rcases c with rfl|rfl|rfl|rfl|rfl<;>exact⟨_,rfl,Dr (by decide+kernel)⟩
 obtain⟨y,rfl,a⟩:=a;exact h y _ (by omega) a
theorem Gp{n m:Nat}{net:D}{w:Kt}{L a b:Int}{x:Li}{Q:D->Nat->Prop}(t:10<=m)(h:∀(k:Li)(e:Int)i,m<=i+2->(e=w.1\/e=w.2)->Q (gd x k w e a b) i):(ao (V (n+1)) (.tup (.cons (.var 6) (.cons (.idx (.lst (.cons (.cst (.str "door")) (.cons (.cst (.str "window")) .nil))) (.call 6 (.feed 0 (.cons (.cst (.int 2)) .nil)))) (.cons (.var 2) (.cons (.idx (.var 2) (.call 6 (.feed 0 (.cons (.cst (.int 2)) .nil)))) (.cons (.var 4) (.cons (.var 5) .nil))))))) (g7 net w L (KJ (.d (.int a))) (KJ (.d (.int b))) (KJ (.d (.str x))))).wp m Q:=by
 unfold gd at h;unfold kn at*;subst_eqs;refine⟨wM,by omega,by omega,by omega,λj r q=>?_⟩;refine pick r (by simpa using q) λp c=>?_;refine⟨by omega,by omega,by omega,λu o l=>?_⟩;refine pick o (by simpa using l) λen f=>?_;have s:∃k,p=.str k:=by
  rcases List.mem_cons.mp c with rfl|c;.exact⟨_,rfl⟩
  .exact⟨_,List.mem_singleton.mp c⟩
 have g:∃e,en=.int e/\(e=w.1\/e=w.2):=by
  rcases List.mem_cons.mp f with rfl|f;.exact⟨_,rfl,.inl rfl⟩
  .exact⟨_,List.mem_singleton.mp f,.inr rfl⟩
 obtain⟨k,rfl⟩:=s;obtain⟨e,rfl,g⟩:=g;exact⟨sd (by decide),h k e _ (by omega) g⟩
theorem Gq{n m:Nat}{cs:D}{ws:List Kt}{r:ah}{Q:D->Nat->Prop}(j:10<=m)(hw:ws≠[])(f:ws.length<=625)(h:∀w c,m<=c+1->w∈ws->Q (kn w) c):(ao (V (n+1)) (.idx (.idx (.var 1) (.cst (.int 1))) (.call 6 (.feed 0 (.cons (.bi .len (.cons (.idx (.var 1) (.cst (.int 1))) .nil)) .nil)))) (KJ .feed::KJ (.d (nt cs ws))::r)).wp m Q:=by
 have f:0<ws.length:=List.length_pos_iff.mpr hw;subst_eqs;simp only[kN,T.wp_bind,Wp,Lv];subst_eqs;refine⟨by omega,by omega,by omega,λi i0 e=>?_⟩;refine pick i0 (by simpa using e) λg b=>?_;obtain⟨w,a,rfl⟩:=List.mem_map.mp b;exact h w _ (by omega) a
theorem xh{v:Ev}{e:Ex}{ρ:ah}{m:Nat}{Q:D->Nat->Prop}(h:(ao v e ρ).wp m Q):(au v (.cons (.ret e) .nil) ρ).wp m (λb a=>(t9 b).wp a Q):=by
 rw[di];show(((ao v e ρ>>=λd=>T.ok (Fl.rt d))>>=_).wp m _);rw[T.wp_bind,T.wp_bind];refine T.wp_mono (λd a hd=>?_) h;rw[T.aw];show(T.ok (Fl.rt d)).wp a _;rw[T.aw];show(T.ok d).wp a Q;rw[T.aw];exact hd
theorem Ds{n:Nat}{cs:List C3}{ws:List Kt}{m:Nat}{Q:D->Nat->Prop}(H:gU cs ws)(hw:ws≠[])(C:30<=m)(h:∀x k w e a b f,m<=f+10->Nm x->w∈ws->0<=e/\e<=999->Q (gd x k w e a b) f):(aW defs gv (n+3) 14 [.feed,.d (nt (.tup (cs.map c3)) ws)]).wp m Q:=by
 rw[aT (d:=fg) rfl rfl];unfold fg;rw[T.wp_bind];refine bZ (Gq (by omega) hw H.lw λw l u c=>?_);have v:ao (V (n+2)) (.call 13 (.cons (.var 1) (.cons (.var 2) .nil))) [KJ .feed,KJ (.d (nt (.tup (cs.map c3)) ws)),KJ (.d (kn w)),KP,KP,KP,KP]=aW defs gv (n+2) 13 [.d (nt (.tup (cs.map c3)) ws),.d (kn w)]:=rfl;refine bZ ?_;refine(congrArg (λt=>T.wp t l _) v).mpr ?_;refine xg H c λL i g=>?_;show(au (V (n+2)) mV (g7 (nt (.tup (cs.map c3)) ws) w L KP KP KP)).wp _ _;unfold mV;refine bZ (Jt (by omega) i g λa A s=>?_);refine bZ (Ju (L:=L) (o4:=KJ (.d (.int a))) (o5:=KP) (o6:=KP) (by omega) i g λb z r=>?_);refine bZ (Jv (L:=L) (o4:=KJ (.d (.int a))) (o5:=KJ (.d (.int b))) (o6:=KP) (by omega) λx y q o=>?_);refine xh (Gp (L:=L) (by omega) λk e j p E=>?_);have B:=H.rg w c;exact h x k w e a b j (by omega) o c (by omega)
noncomputable def Ha:aZ:=(.cons (.set 12 (.call 6 (.feed 0 (.cons (.bi .len (.cons (.var 3) .nil)) .nil)))) (.cons (.set 3 (.op .Add (.op .Add (.cut (.var 3) .nil (.one (.var 12))) (.call 15 (.feed 0 .nil))) (.cut (.var 3) (.one (.op .Add (.var 12) (.cst (.int 1)))) .nil))) .nil))
noncomputable def Hb:aZ:=(.cons (.set 3 (.idx (.lst (.cons (.cst (.str "")) (.cons (.cst (.str "A")) (.cons (.cst (.str "abcdefghi")) (.cons (.cst (.str "a b")) (.cons (.cst (.str "a1")) (.cons (.cst (.int 5)) (.cons (.cst (.bx)) (.cons (.tup (.cons (.cst (.str "a")) .nil)) .nil))))))))) (.var 10))) .nil)
noncomputable def Hc:aZ:=(.cons (.set 4 (.idx (.lst (.cons (.cst (.str "Door")) (.cons (.cst (.str "doors")) (.cons (.cst (.str "")) (.cons (.cst (.bx)) (.cons (.cst (.bl KQ)) (.cons (.tup (.cons (.cst (.str "door")) .nil)) (.cons (.cst (.str "wall")) (.cons (.cst (.str "gate")) .nil))))))))) (.var 10))) .nil)
noncomputable def Hd:aZ:=(.cons (.set 13 (.lst (.cons (.tup (.cons (.idx (.var 5) (.cst (.int 1))) (.cons (.idx (.var 5) (.cst (.int 0))) .nil))) (.cons (.var 11) (.cons (.bi .list (.cons (.var 5) .nil)) (.cons (.op .Add (.var 5) (.cut (.var 5) .nil (.one (.cst (.int 1))))) (.cons (.cut (.var 5) .nil (.one (.cst (.int 1)))) (.cons (.tup (.cons (.idx (.var 5) (.cst (.int 0))) (.cons (.idx (.var 5) (.cst (.int 0))) .nil))) (.cons (.cst (.bx)) .nil))))))))) (.cons (.set 5 (.idx (.op .Add (.var 13) (.lst (.cons (.idx (.lst (.cons (.tup (.cons (.cmp .Eq (.idx (.var 5) (.cst (.int 0))) (.cst (.int 1))) (.cons (.idx (.var 5) (.cst (.int 1))) .nil))) (.cons (.tup (.cons (.idx (.var 5) (.cst (.int 0))) (.cons (.cmp .Eq (.idx (.var 5) (.cst (.int 1))) (.cst (.int 1))) .nil))) .nil))) (.call 6 (.feed 0 (.cons (.cst (.int 2)) .nil)))) .nil))) (.var 10))) .nil))
noncomputable def He:aZ:=(.cons (.set 6 (.idx (.lst (.cons (.idx (.var 11) (.cst (.int 0))) (.cons (.idx (.var 11) (.cst (.int 1))) (.cons (.neg (.cst (.int 1))) (.cons (.cst (.int 1000)) (.cons (.cst (.bx)) (.cons (.bi .str (.cons (.var 6) .nil)) (.cons (.tup (.cons (.var 6) .nil)) (.cons (.cst (.bl KQ)) .nil))))))))) (.var 10))) .nil)
noncomputable def Hg:aZ:=(.cons (.set 7 (.idx (.lst (.cons (.neg (.cst (.int 1))) (.cons (.op .Add (.op .Pow (.cst (.int 10)) (.cst (.int 6))) (.cst (.int 1))) (.cons (.cst (.bl KQ)) (.cons (.cst (.bx)) (.cons (.cst (.str "0")) (.cons (.tup (.cons (.cst (.int 0)) .nil)) (.cons (.op .Pow (.cst (.int 10)) (.cst (.int 6))) (.cons (.op .Pow (.cst (.int 10)) (.cst (.int 30))) .nil))))))))) (.var 10))) .nil)
noncomputable def Hh:aZ:=(.cons (.set 8 (.idx (.lst (.cons (.cst (.int 0)) (.cons (.neg (.cst (.int 1))) (.cons (.op .Add (.op .Pow (.cst (.int 10)) (.cst (.int 6))) (.cst (.int 1))) (.cons (.cst (.bl KQ)) (.cons (.cst (.bx)) (.cons (.cst (.str "1")) (.cons (.tup (.cons (.cst (.int 1)) .nil)) (.cons (.op .Pow (.cst (.int 10)) (.cst (.int 6))) .nil))))))))) (.var 10))) .nil)
noncomputable def cE:aZ:=(.cons (.set 13 (.lst (.cons (.cut (.var 2) .nil (.one (.cst (.int 5)))) (.cons (.op .Add (.var 2) (.tup (.cons (.cst (.int 1)) .nil))) (.cons (.bi .list (.cons (.var 2) .nil)) (.cons (.cst (.bx)) (.cons (.cst (.str "door")) (.cons (.tup .nil) (.cons (.tup (.cons (.var 2) .nil)) (.cons (.rev (.var 2) (.neg (.cst (.int 1)))) .nil)))))))))) (.cons (.ret (.idx (.var 13) (.var 10))) .nil))
noncomputable def J4:aZ:=.iff (.ax .Eq (.var 9) (.cst (.int 5))) Hh cE
noncomputable def J5:aZ:=.iff (.ax .Eq (.var 9) (.cst (.int 4))) Hg (.cons J4 .nil)
noncomputable def J6:aZ:=.iff (.ax .Eq (.var 9) (.cst (.int 3))) He (.cons J5 .nil)
noncomputable def J7:aZ:=.iff (.ax .Eq (.var 9) (.cst (.int 2))) Hd (.cons J6 .nil)
noncomputable def J8:aZ:=.iff (.ax .Eq (.var 9) (.cst (.int 1))) Hc (.cons J7 .nil)
noncomputable def Gu:aZ:=.iff (.ax .Eq (.var 9) (.cst (.int 0))) Hb (.cons J8 .nil)
noncomputable def Jw:aZ:=.iff (.jc (.ax .Eq (.var 9) (.cst (.int 0))) (.bj (.ax .Eq (.call 6 (.feed 0 (.cons (.cst (.int 2)) .nil))) (.cst (.int 0))))) Ha (.cons Gu .nil)
noncomputable abbrev xi(net c nm h g en a b ot:D)(k9 k10:Int)(f e:Option W):ah:=[KJ .feed,KJ (.d net),KJ (.d c),KJ (.d nm),KJ (.d h),KJ (.d g),KJ (.d en),KJ (.d a),KJ (.d b),KJ (.d (.int k9)),KJ (.d (.int k10)),KJ (.d ot),f,e]
theorem pz{x:Li}(h:(x.cps.toList.all (λc=>c<128)&&decide (x.length<=1000))=KQ):kX (.str x):=by
 simp only[K0,Mh,decide_eq_true_eq]at h;exact h
noncomputable def xj(d:D):Prop:=Ty d/\∀x y,d=.tup [x,y]->Ty x/\Ty y
theorem Gw{p q:D}(b:Ty p)(a:Ty q):xj (.tup [p,q]):=⟨trivial,λx y e=>by cases e;exact⟨b,a⟩⟩
theorem l_{x:Li}(h:Dc x)(l u:Option Int):Dc (MJ x l u):=by
 intro c a;unfold MJ at a;split at a;.exact h c a
 .simp only[List.toList_toArray,List.mem_filterMap]at a;obtain⟨i,_,b⟩:=a;refine h c ?_;rw[N_];exact Array.mem_of_getElem? b
theorem Dt{x:Li}{c:Nat}(h:Nm x)(f:c<128)(l u l' a:Option Int):kX (.str (MJ x l u++(⟨#[c]⟩:Li)++MJ x l' a)):=by
 have a1:=Ph x l u;have g:=Ph x l' a;have e:=h.2.2;refine⟨λd hd=>?_,?_⟩
 .have:d∈((MJ x l u).cps++#[c]++(MJ x l' a).cps).toList:=hd;simp only[LZ,List.mem_append]at this;rcases this with(b|b)|b;.exact l_ h.1 _ _ d b
  .simp at b;omega
  .exact l_ h.1 _ _ d b
 .have:(MJ x l u++(⟨#[c]⟩:Li)++MJ x l' a).length=(MJ x l u).length+1+(MJ x l' a).length:=by
   show((MJ x l u).cps++#[c]++(MJ x l' a).cps).size=_;simp only[NB];rfl
  omega
section
variable{n m:Nat}{net ot:D}{x k:Li}{w v:Kt}{e a b k9 k10:Int}{Q:Fl->Nat->Prop}
noncomputable abbrev c0(net ot:D)(x k:Li)(w:Kt)(e a b k9 k10:Int):ah:=xi net (gd x k w e a b) (.str x) (.str k) (kn w) (.int e) (.int a) (.int b) ot k9 k10 KP KP
theorem Jx(d:0<=k10)(c:k10<8)(h:∀nm,kX nm->Q (.nx (xi net (gd x k w e a b) nm (.str k) (kn w) (.int e) (.int a) (.int b) ot k9 k10 KP KP)) m):(au (V (n+2)) Hb (c0 net ot x k w e a b k9 k10)).wp m Q:=by
 unfold Hb;subst_eqs;refine⟨zj,sd (by decide),?_⟩;refine l9 d c ?_ ?_ ?_ ?_ ?_ ?_ ?_ ?_<;>refine h _ ?_<;>first|exact pz (by decide+kernel)|trivial
theorem Jy(f:0<=k10)(d:k10<8)(h:∀c,Ty c->Q (.nx (xi net (gd x k w e a b) (.str x) c (kn w) (.int e) (.int a) (.int b) ot k9 k10 KP KP)) m):(au (V (n+2)) Hc (c0 net ot x k w e a b k9 k10)).wp m Q:=by
 unfold Hc;subst_eqs;refine⟨zj,sd (by decide),?_⟩;refine l9 f d ?_ ?_ ?_ ?_ ?_ ?_ ?_ ?_<;>exact h _ trivial
theorem Jz(f:0<=k10)(c:k10<8)(h:∀d,Ty d->Q (.nx (xi net (gd x k w e a b) (.str x) (.str k) (kn w) (.int e) d (.int b) ot k9 k10 KP KP)) m):(au (V (n+2)) Hg (c0 net ot x k w e a b k9 k10)).wp m Q:=by
 unfold Hg;subst_eqs;refine⟨zj,sd (by decide),?_⟩;refine l9 f c ?_ ?_ ?_ ?_ ?_ ?_ ?_ ?_<;>exact h _ trivial
theorem JA(f:0<=k10)(c:k10<8)(h:∀d,Ty d->Q (.nx (xi net (gd x k w e a b) (.str x) (.str k) (kn w) (.int e) (.int a) d ot k9 k10 KP KP)) m):(au (V (n+2)) Hh (c0 net ot x k w e a b k9 k10)).wp m Q:=by
 unfold Hh;subst_eqs;refine⟨zj,sd (by decide),?_⟩;refine l9 f c ?_ ?_ ?_ ?_ ?_ ?_ ?_ ?_<;>exact h _ trivial
theorem zC:(L4 1000).all (λe=>tG (.int (e:Nat)))=KQ:=by decide+kernel
theorem Gx{e:Int}(h:0<=e/\e<=999):tG (.int e)=KQ:=by
 have:=List.all_eq_true.mp zC e.toNat (List.mem_range.mpr (by omega));rwa[show((e.toNat:Nat):Int)=e by omega]at this
theorem JB(c:0<=e/\e<=999)(g:0<=k10)(f:k10<8)(h:∀d,Ty d->Q (.nx (xi net (gd x k w e a b) (.str x) (.str k) (kn w) d (.int a) (.int b) (kn v) k9 k10 KP KP)) m):(au (V (n+2)) He (c0 net (kn v) x k w e a b k9 k10)).wp m Q:=by
 unfold He;unfold kn at*;subst_eqs;simp only[kN,Cf,T.wp_bind,T.bE,Wp];refine⟨Gx c,zj,sd (by decide),?_⟩;refine l9 g f ?_ ?_ ?_ ?_ ?_ ?_ ?_ ?_<;>exact h _ trivial
theorem JC(q:20<=m)(f:Nm x)(h:∀nm g d,m<=g+2->kX nm->Q (.nx (xi net (gd x k w e a b) nm (.str k) (kn w) (.int e) (.int a) (.int b) ot k9 k10 d KP)) g):(au (V (n+2)) Ha (c0 net ot x k w e a b k9 k10)).wp m Q:=by
 have z:=gX;have s:=f.2.1;have r:=f.2.2;unfold Ha;subst_eqs;simp only[kN,T.wp_bind,T.bE,Wp];refine⟨by simp;omega,?_⟩;subst_eqs;refine⟨by omega,by omega,by omega,λp l j=>?_⟩;simp only[vY,T.wp_bind,T.bE,Wp];refine⟨by simp;omega,?_⟩;refine Dq (by omega) λc i=>?_;have a1:=Ph x KP (KJ p);have t:=Ph x (KJ (p+1)) KP;simp only[vX,yY,T.wp_bind,T.bE,Wp,ag];have lc:(⟨#[c]⟩:Li).length=1:=rfl;have o:(MJ x KP (KJ p)++(⟨#[c]⟩:Li)).length=(MJ x KP (KJ p)).length+1:=by
  show((MJ x KP (KJ p)).cps++#[c]).size=_;simp only[NB];rfl
 exact⟨decide_eq_true (by omega),decide_eq_true (by omega),decide_eq_true (by omega),h _ _ _ (by omega) (Dt f i _ _ _ _)⟩
theorem JD(C:20<=m)(u:0<=k10)(E:k10<8)(h:∀p f j,m<=f+2->xj p->Q (.nx (xi net (gd x k w e a b) (.str x) (.str k) p (.int e) (.int a) (.int b) (kn v) k9 k10 KP j)) f):(au (V (n+2)) Hd (c0 net (kn v) x k w e a b k9 k10)).wp m Q:=by
 have z:=gX;have o:∀d:D,Ty d->(∀x y,d≠.tup [x,y])->xj d:=λd h A=>⟨h,λx y e=>absurd e (A x y)⟩;have B:cutD [D.int w.1,D.int w.2] KP (KJ 1)=[.int w.1]:=rfl;have key:∀(l:List D)(q:D)(f:Nat),m<=f+1->l.length=7->(∀d∈l,xj d)->xj q->(T.get (fy (l++[q]) k10)).wp f (λd f=>Q (.nx (xi net (gd x k w e a b) (.str x) (.str k) d (.int e) (.int a) (.int b) (kn v) k9 k10 KP (KJ (.d (.lst l))))) f):=λl q f s t hd g=>by
  refine pick u (by simp[t];omega) λd c=>?_;refine h d f _ (by omega) ?_;rcases List.mem_append.mp c with c|c;.exact hd d c
  .rw[List.mem_singleton.mp c];exact g
 unfold Hd;subst_eqs;simp only[kn];subst_eqs;simp only[kN,items,vY,B,vX,yY,T.wp_bind,T.bE,Wp];subst_eqs;refine⟨wM,sd (by decide),wM,sd (by decide),wM,wM,wM,by omega,by omega,by omega,λi i0 r=>?_⟩;refine pick i0 (by simpa using r) λq g=>?_;refine⟨zj,sd (by decide),?_⟩;refine key [.tup [.int w.2,.int w.1],kn v,.lst [.int w.1,.int w.2],.tup [.int w.1,.int w.2,.int w.1],.tup [.int w.1],.tup [.int w.1,.int w.1],.bx] q (m-1) (by omega) rfl ?_ ?_
 .intro d hd;simp only[MA,MK,or_false]at hd;rcases hd with rfl|rfl|rfl|rfl|rfl|rfl|rfl<;>first|exact Gw trivial trivial|exact o _ trivial (λx y e=>by cases e)
 .simp only[MA,MK,or_false]at g;rcases g with rfl|rfl<;>exact Gw trivial trivial
theorem KI(g:0<=k10)(f:k10<8)(h:∀d,Th d->Q (.rt d) m):(au (V (n+2)) cE (c0 net ot x k w e a b k9 k10)).wp m Q:=by
 have z:=gX;have i:cutD [D.str x,D.str k,kn w,D.int e,D.int a,D.int b] KP (KJ 5)=[D.str x,D.str k,kn w,D.int e,D.int a]:=rfl;unfold cE;subst_eqs;simp only[kN,items,vY,i,vX,yY,oN,T.wp_bind,T.bE,Wp];refine⟨zj,sd (by simp),G9,zj,rfl,sd (by decide),?_⟩;refine l9 g f (h _ (.tup (by simp))) (h _ (.tup (by simp))) (h _ (.Gk trivial (λc e=>by cases e))) (h _ (.Gk trivial (λc e=>by cases e))) (h _ (.Gk trivial (λc e=>by cases e))) (h _ (.tup (by simp))) (h _ (.tup (by simp))) (h _ ?_);exact .six trivial trivial trivial (λx y e=>by cases e) trivial trivial trivial
end
theorem bL{v:Ev}{s:aZ}{ρ:ah}{m:Nat}{Q:Fl->Nat->Prop}(h:(au v s ρ).wp m Q):(au v (.cons s .nil) ρ).wp m Q:=by
 rw[di,T.wp_bind];exact T.wp_mono (λb c a=>by cases b<;>first|exact(T.aw _ _ _).mpr a|exact a) h
theorem DQ{v:Ev}{A B:aZ}{ρ:ah}{m:Nat}{k9 j:Int}{Q:Fl->Nat->Prop}(a:cH ρ 9=KJ (.int k9))(ha:k9=j->(au v A ρ).wp m Q)(hb:k9≠j->(au v B ρ).wp m Q):(au v (.iff (.ax .Eq (.var 9) (.cst (.int j))) A B) ρ).wp m Q:=by
 have e:bh v (.ax .Eq (.var 9) (.cst (.int j))) ρ=.ok (k9==j):=by
  show(T.get (cH ρ 9)>>=λd=>(T.ok (D.int j))>>=λe=>bA .Eq d e>>=λy=>aK y)=_;rw[a];rfl
 show(bh v (.ax .Eq (.var 9) (.cst (.int j))) ρ>>=λx=>if x then au v A ρ else au v B ρ).wp m Q;rw[e,ag];by_cases h:k9=j;.rw[show(k9==j)=KQ by simpa using h,if_pos rfl];exact ha h
 .rw[show(k9==j)=KR by simpa using h,if_neg (by simp)];exact hb h
theorem tU{v:Ev}{ρ:ah}{k9:Int}{m:Nat}{Q:Fl->Nat->Prop}(a:cH ρ 9=KJ (.int k9))(A1:(au v Hb ρ).wp m Q)(f:(au v Hc ρ).wp m Q)(e:(au v Hd ρ).wp m Q)(d:(au v He ρ).wp m Q)(c:(au v Hg ρ).wp m Q)(b:(au v Hh ρ).wp m Q)(E:(au v cE ρ).wp m Q):(au v (.cons Gu .nil) ρ).wp m Q:=by
 refine bL ?_;unfold Gu;refine DQ a (λ_=>A1) λ_=>bL ?_;unfold J8;refine DQ a (λ_=>f) λ_=>bL ?_;unfold J7;refine DQ a (λ_=>e) λ_=>bL ?_;unfold J6;refine DQ a (λ_=>d) λ_=>bL ?_;unfold J5;refine DQ a (λ_=>c) λ_=>bL ?_;unfold J4;exact DQ a (λ_=>b) λ_=>E
theorem zD{n m:Nat}{net:D}{x k:Li}{w v:Kt}{e a b k9 k10:Int}{Q:Fl->Nat->Prop}(hm:30<=m)(u:Nm x)(S:0<=e/\e<=999)(h9:0<=k9)(l:0<=k10)(j:k10<8)(g:∀nm C B en G F s r f,m<=f+4->Th (.tup [nm,C,B,en,G,F])->Q (.nx (xi net (gd x k w e a b) nm C B en G F (kn v) k9 k10 s r)) f)(O:∀d f,m<=f+4->Th d->Q (.rt d) f):(au (V (n+2)) Jw (c0 net (kn v) x k w e a b k9 k10)).wp m Q:=by
 have nx:kX (.str x):=⟨u.1,by have:=u.2.2;omega⟩;have wk:=Gw (p:=.int w.1) (q:=.int w.2) trivial trivial;have rest:∀f,m<=f+1->(au (V (n+2)) (.cons Gu .nil) (c0 net (kn v) x k w e a b k9 k10)).wp f Q:=λf R=>by
  have M:=Jx (n:=n) (m:=f) (net:=net) (ot:=kn v) (x:=x) (k:=k) (w:=w) (e:=e) (a:=a) (b:=b) (k9:=k9) (k10:=k10) (Q:=Q) l j λnm h=>g _ _ _ _ _ _ _ _ _ (by omega) (.six h trivial trivial wk.2 trivial trivial trivial);have L:=Jy (n:=n) (m:=f) (net:=net) (ot:=kn v) (x:=x) (k:=k) (w:=w) (e:=e) (a:=a) (b:=b) (k9:=k9) (k10:=k10) (Q:=Q) l j λnm h=>g _ _ _ _ _ _ _ _ _ (by omega) (.six nx h trivial wk.2 trivial trivial trivial);have K:=JD (n:=n) (m:=f) (net:=net) (v:=v) (x:=x) (k:=k) (w:=w) (e:=e) (a:=a) (b:=b) (k9:=k9) (k10:=k10) (Q:=Q) (by omega) l j λnm Y r h3 h=>g _ _ _ _ _ _ _ _ _ (by omega) (.six nx trivial h.1 h.2 trivial trivial trivial);have J:=JB (n:=n) (m:=f) (net:=net) (v:=v) (x:=x) (k:=k) (w:=w) (e:=e) (a:=a) (b:=b) (k9:=k9) (k10:=k10) (Q:=Q) S l j λnm h=>g _ _ _ _ _ _ _ _ _ (by omega) (.six nx trivial trivial wk.2 h trivial trivial);have I:=Jz (n:=n) (m:=f) (net:=net) (ot:=kn v) (x:=x) (k:=k) (w:=w) (e:=e) (a:=a) (b:=b) (k9:=k9) (k10:=k10) (Q:=Q) l j λnm h=>g _ _ _ _ _ _ _ _ _ (by omega) (.six nx trivial trivial wk.2 trivial h trivial);have H:=JA (n:=n) (m:=f) (net:=net) (ot:=kn v) (x:=x) (k:=k) (w:=w) (e:=e) (a:=a) (b:=b) (k9:=k9) (k10:=k10) (Q:=Q) l j λnm h=>g _ _ _ _ _ _ _ _ _ (by omega) (.six nx trivial trivial wk.2 trivial trivial h);have E:=KI (n:=n) (m:=f) (net:=net) (ot:=kn v) (x:=x) (k:=k) (w:=w) (e:=e) (a:=a) (b:=b) (k9:=k9) (k10:=k10) (Q:=Q) l j λd hd=>O d _ (by omega) hd;have t:cH (c0 net (kn v) x k w e a b k9 k10) 9=KJ (.int k9):=rfl;generalize c0 net (kn v) x k w e a b k9 k10=X at M L K J I H E t⊢;exact tU t M L K J I H E
 have W:bh (V (n+2)) (.ax .Eq (.var 9) (.cst (.int 0))) (c0 net (kn v) x k w e a b k9 k10)=.ok (k9==0):=rfl;unfold Jw;show((bh (V (n+2)) (.ax .Eq (.var 9) (.cst (.int 0))) (c0 net (kn v) x k w e a b k9 k10)>>=λc=>if c then bh (V (n+2)) (.bj (.ax .Eq (.call 6 (.feed 0 (.cons (.cst (.int 2)) .nil))) (.cst (.int 0)))) (c0 net (kn v) x k w e a b k9 k10)else .ok KR)>>=λo=>if o then au (V (n+2)) Ha (c0 net (kn v) x k w e a b k9 k10)else au (V (n+2)) (.cons Gu .nil) (c0 net (kn v) x k w e a b k9 k10)).wp m Q;rw[W,ag];by_cases h:k9=0
 .rw[show(k9==0)=KQ by simpa using h,if_pos rfl,T.wp_bind];have U:∀A:Bool->Nat->Prop,(∀o f,m<=f+1->A o f)->(bh (V (n+2)) (.bj (.ax .Eq (.call 6 (.feed 0 (.cons (.cst (.int 2)) .nil))) (.cst (.int 0)))) (c0 net (kn v) x k w e a b k9 k10)).wp m A:=λA z=>by
   subst_eqs;exact⟨by omega,by omega,by omega,λi i0 Z=>z _ _ (by omega)⟩
  refine U _ λo N P=>?_;cases o with
  |true=>exact JC (by omega) u λnm f s h' y=>g _ _ _ _ _ _ _ _ _ (by omega) (.six y trivial trivial wk.2 trivial trivial trivial)|false=>exact rest N (by omega)
 .rw[show(k9==0)=KR by simpa using h,if_neg (by simp),ag,if_neg (by simp)];exact rest m (by omega)
theorem gW{v:Ev}{s r:aZ}{ρ:ah}{m:Nat}{Q:Fl->Nat->Prop}(h:(au v s ρ).wp m λa c=>match a with|.nx b=>(au v r b).wp c Q|a=>Q a c):(au v (.cons s r) ρ).wp m Q:=by
 rw[di,T.wp_bind];exact T.wp_mono (λa c d=>by cases a<;>first|exact(T.aw _ _ _).mpr d|exact d) h
theorem zE{n m:Nat}{net c nm g f en a b ot:D}{k9 k10:Int}{e d:Option W}{Q:D->Nat->Prop}(h:Q (.tup [nm,g,f,en,a,b]) m):(au (V n) f_ (xi net c nm g f en a b ot k9 k10 e d)).wp m (λj i=>(t9 j).wp i Q):=by
 have z:=gX;unfold f_;refine xh ?_;subst_eqs;exact⟨sd (by decide),h⟩
theorem Gy{n m:Nat}{j:Int}{r:ah}{Q:D->Nat->Prop}(e:1<=m)(d:0<j)(a:j<1073741824)(h:∀(i:Int)b,m=b+1->0<=i->i<j->Q (.int i) b):(ao (V (n+1)) (.call 6 (.feed 0 (.cons (.cst (.int j)) .nil))) (KJ .feed::r)).wp m Q:=by
 subst_eqs;exact⟨d,a,by omega,λi i0 c=>h i _ (by omega) i0 c⟩
theorem tV{n:Nat}{cs:D}{ws:List Kt}{x k:Li}{w:Kt}{e a b:Int}{m:Nat}{Q:D->Nat->Prop}(hw:ws≠[])(B:ws.length<=625)(t:Nm x)(C:0<=e/\e<=999)(L:50<=m)(h:∀d c,m<=c+10->Th d->Q d c):(aW defs gv (n+3) 16 [.feed,.d (nt cs ws),.d (gd x k w e a b)]).wp m Q:=by
 rw[aT (d:=dh) rfl rfl];unfold dh;rw[T.wp_bind];have F:au (V (n+2)) (.asg (.tup 6 (.cons (.nm 3) (.cons (.nm 4) (.cons (.nm 5) (.cons (.nm 6) (.cons (.nm 7) (.cons (.nm 8) .nil))))))) (.var 2)) [KJ .feed,KJ (.d (nt cs ws)),KJ (.d (gd x k w e a b)),KP,KP,KP,KP,KP,KP,KP,KP,KP,KP,KP]=.ok (.nx [KJ .feed,KJ (.d (nt cs ws)),KJ (.d (gd x k w e a b)),KJ (.d (.str x)),KJ (.d (.str k)),KJ (.d (kn w)),KJ (.d (.int e)),KJ (.d (.int a)),KJ (.d (.int b)),KP,KP,KP,KP,KP]):=rfl;rw[show bW 14 [A.feed,.d (nt cs ws),.d (gd x k w e a b)]=[KJ .feed,KJ (.d (nt cs ws)),KJ (.d (gd x k w e a b)),KP,KP,KP,KP,KP,KP,KP,KP,KP,KP,KP]from rfl,br F];refine bZ (Gy (by omega) (by decide) (by decide) λs I z o E=>?_);refine bZ (Gy (by omega) (by decide) (by decide) λi H y g f=>?_);refine bZ (Gq (by omega) hw B λv r u K=>?_);refine gW ?_;show(au (V (n+2)) Jw (c0 (nt cs ws) (kn v) x k w e a b s i)).wp r _;refine zD (by omega) t C o g f ?_ ?_
 .intro nm J G en N M q p c l j;exact zE (h _ _ (by omega) j)
 .intro d c l j;show(T.ok d).wp c Q;rw[T.aw];exact h d c (by omega) j
noncomputable abbrev l8(net:D)(o3 o4 o5 o6 a:Option W):ah:=[KP,KJ .feed,KJ (.d net),o3,o4,o5,o6,a]
theorem Gz{n m:Nat}{Q:D->Nat->Prop}(f:2000<=m)(h:∀(cs:List C3)(ws:List Kt)a,m<=a+400->gU cs ws->Q (nt (.tup (cs.map c3)) ws) a):(ao (V (n+4)) (.call 11 (.feed 1 (.cons (.cst (.int 5)) (.cons (.idx (.lst (.cons (.cst (.int 1)) (.cons (.cst (.int 10000)) .nil))) (.call 6 (.feed 1 (.cons (.cst (.int 2)) .nil)))) .nil)))) [KP,KJ .feed,KP,KP,KP,KP,KP,KP]).wp m Q:=by
 subst_eqs;refine⟨wM,by omega,by omega,by omega,λi i0 c=>?_⟩;refine pick i0 (by simpa using c) λd hd=>?_;have b:∃s:Int,d=.int s/\(s=1\/s=10000):=by
  simp only[MA,MK,or_false]at hd;rcases hd with rfl|rfl;.exact⟨_,rfl,.inl rfl⟩
  .exact⟨_,rfl,.inr rfl⟩
 refine b.elim λs b=>?_;rw[b.1];exact Gi b.2 (by omega) λcs ws a g e=>h cs ws a (by omega) e
theorem Af(d:D):R [] d=KR:=by
 unfold R;split;.simp
 .rfl
theorem JE{n:Nat}{cs:D}{ws:List Kt}{d:D}{o3 o4 o5 b:Option W}(h:Th d):au (V (n+4)) iE (l8 (nt cs ws) o3 o4 o5 (KJ (.d d)) b)=.ok (.nx (l8 (nt cs ws) o3 o4 o5 (KJ (.d d)) (KJ (.d (.bl (R ws d)))))):=by
 unfold iE;have f:ao (V (n+4)) (.call 5 (.cons (.var 2) (.cons (.var 6) .nil))) (l8 (nt cs ws) o3 o4 o5 (KJ (.d d)) b)=.ok (.bl (R ws d)):=qN h;rw[mZ f];show au (V (n+4)) qz (l8 (nt cs ws) o3 o4 o5 (KJ (.d d)) (KJ (.d (.bl (R ws d)))))=_;unfold qz;have i:bh (V (n+4)) (.bz (.fP (.kM "bool" (.var 7)))) (l8 (nt cs ws) o3 o4 o5 (KJ (.d d)) (KJ (.d (.bl (R ws d)))))=.ok KR:=dv (x:=KQ) (l7 (d:=.bl (R ws d)) rfl (jq (show Ty (.bl (R ws d))from trivial)));have g:bh (V (n+4)) (.bj (.ax .NotEq (.var 7) (.call 18 (.cons (.var 2) (.cons (.var 6) .nil))))) (l8 (nt cs ws) o3 o4 o5 (KJ (.d d)) (KJ (.d (.bl (R ws d)))))=.ok KR:=fv (eL (d:=.bl (R ws d)) (e:=.bl (R ws d)) rfl (zA h) (by cases R ws d<;>rfl));have c3:=cL KR KR i (λ_=>g);have c:∀a:aZ,au (V (n+4)) (.iff (.fG (.bz (.fP (.kM "bool" (.var 7)))) (.bj (.ax .NotEq (.var 7) (.call 18 (.cons (.var 2) (.cons (.var 6) .nil)))))) a .nil) (l8 (nt cs ws) o3 o4 o5 (KJ (.d d)) (KJ (.d (.bl (R ws d)))))=.ok (.nx (l8 (nt cs ws) o3 o4 o5 (KJ (.d d)) (KJ (.d (.bl (R ws d)))))):=λa=>by
  show(bh (V (n+4)) _ _>>=λx=>if x then au (V (n+4)) a _ else T.ok (Fl.nx _))=_;rw[c3];rfl
 rw[br (c _)];rfl
theorem JF{n:Nat}{cs:D}{ws:List Kt}{g:D}{o3 o5 o6 b:Option W}(h:Th g):au (V (n+4)) mW (l8 (nt cs ws) o3 (KJ (.d g)) o5 o6 b)=.ok (.nx (l8 (nt cs ws) o3 (KJ (.d g)) o5 o6 b)):=by
 unfold mW;have i:ao (V (n+4)) (.call 5 (.cons (.tup (.cons (.tup .nil) (.cons (.tup .nil) .nil))) (.cons (.var 4) .nil))) (l8 (nt cs ws) o3 (KJ (.d g)) o5 o6 b)=.ok (.bl KR):=by
  have:=qN (n:=n) (cs:=.tup []) (ws:=[]) h;rw[Af]at this;symm_saturate;exact this
 have c:bh (V (n+4)) (.ax .IsNot (.call 5 (.cons (.tup (.cons (.tup .nil) (.cons (.tup .nil) .nil))) (.cons (.var 4) .nil))) (.cst (.bl KR))) (l8 (nt cs ws) o3 (KJ (.d g)) o5 o6 b)=.ok KR:=eL (d:=.bl KR) (e:=.bl KR) i rfl rfl;have f:∀a:aZ,au (V (n+4)) (.iff (.ax .IsNot (.call 5 (.cons (.tup (.cons (.tup .nil) (.cons (.tup .nil) .nil))) (.cons (.var 4) .nil))) (.cst (.bl KR))) a .nil) (l8 (nt cs ws) o3 (KJ (.d g)) o5 o6 b)=.ok (.nx (l8 (nt cs ws) o3 (KJ (.d g)) o5 o6 b)):=λa=>by
  show(bh (V (n+4)) _ _>>=λx=>if x then au (V (n+4)) a _ else T.ok (Fl.nx _))=_;rw[c];rfl
 rw[br (f _)];rfl
theorem GA{x k:Li}{w:Kt}{e a b:Int}(c:Nm x):Th (gd x k w e a b):=.six ⟨c.1,by have:=c.2.2;omega⟩ trivial trivial (Gw (p:=.int w.1) (q:=.int w.2) trivial trivial).2 trivial trivial trivial
theorem JG{v:Ev}{net g d:D}{o3 o6 a:Option W}:nq v (.bG (.lst (.cons (.var 4) (.cons (.var 5) (.cons (.var 4) .nil))))) (l8 net o3 (KJ (.d g)) (KJ (.d d)) o6 a)=.ok [g,d,g]:=by
 show((T.need (decide (3<=KZ))>>=λ_=>T.ok (D.lst [g,d,g]))>>=λx=>T.get (cB x))=_;rw[J3];rfl
inductive TI(net g d:D)(o3:Option W)(m:Nat)(ds:List D)(ρ:ah)(m':Nat):Prop|mk(o6 o7:Option W)(eρ:ρ=l8 net o3 (KJ (.d g)) (KJ (.d d)) o6 o7)(g1:m'=m)(g2:∀x∈ds,Th x)
theorem Du{n m:Nat}{cs:List C3}{ws:List Kt}{o3 o4 o5 o6 c:Option W}{Q:Fl->Nat->Prop}(H:gU cs ws)(hw:ws≠[])(G:100<=m)(h:∀o4 o5 o6 c o,m<=o+20->Q (.nx (l8 (nt (.tup (cs.map c3)) ws) o3 o4 o5 o6 c)) o):(au (V (n+4)) mX (l8 (nt (.tup (cs.map c3)) ws) o3 o4 o5 o6 c)).wp m Q:=by
 unfold mX;have F:ao (V (n+4)) (.call 14 (.feed 1 (.cons (.var 2) .nil))) (l8 (nt (.tup (cs.map c3)) ws) o3 o4 o5 o6 c)=aW defs gv (n+4) 14 [.feed,.d (nt (.tup (cs.map c3)) ws)]:=rfl;refine bZ ?_;rw[F];refine Ds (n:=n+1) H hw (by omega) λx k w e a b t B q v C=>?_;show(au (V (n+4)) qC (l8 (nt (.tup (cs.map c3)) ws) o3 (KJ (.d (gd x k w e a b))) o5 o6 c)).wp t Q;unfold qC;have E:ao (V (n+4)) (.call 16 (.feed 1 (.cons (.var 2) (.cons (.var 4) .nil)))) (l8 (nt (.tup (cs.map c3)) ws) o3 (KJ (.d (gd x k w e a b))) o5 o6 c)=aW defs gv (n+4) 16 [.feed,.d (nt (.tup (cs.map c3)) ws),.d (gd x k w e a b)]:=rfl;refine bZ ?_;rw[E];refine tV (n:=n+1) hw H.lw q C (by omega) λd l A hd=>?_;show(au (V (n+4)) qB (l8 (nt (.tup (cs.map c3)) ws) o3 (KJ (.d (gd x k w e a b))) (KJ (.d d)) o6 c)).wp l Q;unfold qB;have f:=GA (k:=k) (w:=w) (e:=e) (a:=a) (b:=b) q;generalize gd x k w e a b=g at f⊢;refine gW ?_;have D:au (V (n+4)) (.e9 (.nm 6) (.bG (.lst (.cons (.var 4) (.cons (.var 5) (.cons (.var 4) .nil))))) iE) (l8 (nt (.tup (cs.map c3)) ws) o3 (KJ (.d g)) (KJ (.d d)) o6 c)=e_ (gi (.nm 6)) (au (V (n+4)) iE) [g,d,g] (l8 (nt (.tup (cs.map c3)) ws) o3 (KJ (.d g)) (KJ (.d d)) o6 c):=by
  show(nq (V (n+4)) _ _>>=λr=>e_ _ _ r _)=_;rw[JG];rfl
 rw[D];refine eC (TI (nt (.tup (cs.map c3)) ws) g d o3 l) ?_ ?_ ⟨o6,c,rfl,rfl,?_⟩
 .rintro y r s i⟨o6,c,rfl,rfl,j⟩;rw[tN.1,T.aw];show(au (V (n+4)) iE (l8 (nt (.tup (cs.map c3)) ws) o3 (KJ (.d g)) (KJ (.d d)) (KJ (.d y)) c)).wp i _;rw[JE (j y K5),T.aw];exact⟨_,_,rfl,rfl,λz u=>j z (K4 _ u)⟩
 .rintro s i⟨o6,c,rfl,rfl,j⟩;show(au (V (n+4)) mW (l8 (nt (.tup (cs.map c3)) ws) o3 (KJ (.d g)) (KJ (.d d)) o6 c)).wp i Q;rw[JF f,T.aw];exact h _ _ _ _ _ (by omega)
 .intro y p;simp only[MA,MK,or_false]at p;rcases p with rfl|rfl|rfl;.exact f
  .exact hd
  .exact f
theorem GB{v:Ev}{tg:Tg}{it:Ex}{b:aZ}{ρ:ah}{ds:List D}(h:nq v it ρ=.ok ds):au v (.e9 tg it b) ρ=e_ (gi tg) (au v b) ds ρ:=by
 show(nq v it ρ>>=λds=>e_ (gi tg) (au v b) ds ρ)=_;rw[h,ag]
theorem Dv{n f:Nat}{r:Ex}{ρ:ah}{as:List A}{d:D}(ha:fW (V n) r ρ=.ok as)(h:aW defs gv n f as=.ok d):ao (V n) (.call f r) ρ=.ok d:=by
 show(fW (V n) r ρ>>=λas=>aW defs gv n f as)=_;rw[ha,ag,h]
theorem JH{v:Ev}{a:Ex}{ρ:ah}(h:ao v a ρ=.ok (.bl KR)):au v (.ret (.cmp .Is a (.cst (.bl KR)))) ρ=.ok (.rt (.bl KQ)):=by
 show((ao v a ρ>>=λd=>T.ok (D.bl KR)>>=λe=>bA .Is d e)>>=λd=>T.ok (Fl.rt d))=_;rw[h];rfl
inductive LL(net:D)(m:Nat)(ds:List D)(ρ:ah)(m':Nat):Prop|mk(o3 o4 o5 o6 o7:Option W)(eρ:ρ=l8 net o3 o4 o5 o6 o7)(g1:m<=m'+20*(8-ds.length))(g2:ds.length<=8)
theorem xk{n m:Nat}(D:3000<=m):(au (V (n+4)) rest [KP,KJ .feed,KP,KP,KP,KP,KP,KP]).wp m (λw _=>w=.rt (.bl KQ)):=by
 have z:=gX;unfold rest;refine bZ ?_;refine Gz (by omega) λcs ws h v H=>?_;show(au (V (n+4)) qF (l8 (nt (.tup (cs.map c3)) ws) KP KP KP KP KP)).wp h _;unfold qF;have c:bh (V (n+4)) (.ax .Eq (.idx (.var 2) (.cst (.int 1))) (.tup .nil)) (l8 (nt (.tup (cs.map c3)) ws) KP KP KP KP KP)=.ok (ws.isEmpty):=by
  refine eL (d:=.tup (ws.map kn)) (e:=.tup []) (by symm_saturate) (by symm_saturate) ?_;unfold bA b8;simp only[cw];cases ws<;>rfl
 refine gW ?_;show(bh (V (n+4)) _ _>>=λx=>if x then _ else _).wp h _;rw[c,ag];cases ws with
 |nil=>
  have B:fW (V (n+4)) (.cons (.var 2) (.cons (.tup (.cons (.cst (.str "a")) (.cons (.cst (.str "door")) (.cons (.tup (.cons (.cst (.int 0)) (.cons (.cst (.int 1)) .nil))) (.cons (.cst (.int 0)) (.cons (.cst (.int 0)) (.cons (.cst (.int 1)) .nil))))))) .nil)) (l8 (nt (.tup (cs.map c3)) []) KP KP KP KP KP)=.ok [.d (nt (.tup (cs.map c3)) []),.d (.tup [.str "a",.str "door",.tup [.int 0,.int 1],.int 0,.int 0,.int 1])]:=by simp only[zh,t8,cH,Ls,O4,fU,Cl,Sd,ag,show decide (6<=KZ)=KQ from sd (by decide)]
  have j:=qN (n:=n) (cs:=.tup (cs.map c3)) (ws:=[]) (d:=.tup [.str "a",.str "door",.tup [.int 0,.int 1],.int 0,.int 0,.int 1]) (.six (pz (by decide+kernel)) trivial trivial (Gw (p:=.int 0) (q:=.int 1) trivial trivial).2 trivial trivial trivial);rw[Af]at j;rw[show([]:List Kt).isEmpty=KQ from rfl,if_pos rfl];refine gW ?_;rw[JH (Dv B j),T.aw]|cons t ws=>
  generalize i:t::ws=ws' at H⊢;have hw:ws'≠[]:=by rw[<-i];simp
  rw[show ws'.isEmpty=KR from by rw[<-i];rfl,if_neg (by simp)];show(T.ok (Fl.nx (l8 (nt (.tup (cs.map c3)) ws') KP KP KP KP KP))).wp h _;rw[T.aw];show(au (V (n+4)) qD (l8 (nt (.tup (cs.map c3)) ws') KP KP KP KP KP)).wp h _;unfold qD;refine gW ?_;have A:nq (V (n+4)) (.ij (.cons (.cst (.int 8)) .nil)) (l8 (nt (.tup (cs.map c3)) ws') KP KP KP KP KP)=.ok (aC 8):=by
   simp only[Jf,zh,t8,fU,ag,y7,bO];rw[show(decide (-(2^62)<=(8:Int))&&decide ((8:Int)<=1000000))=KQ by decide];rfl
  rw[GB A];refine eC (LL (nt (.tup (cs.map c3)) ws') h) ?_ ?_ ⟨KP,KP,KP,KP,KP,rfl,by simp[aC],by simp[aC]⟩
  .rintro y E s l⟨k,g,f,b,a,rfl,r,o⟩;simp only[LP]at r o;rw[tN.1,T.aw];show(au (V (n+4)) mX (l8 (nt (.tup (cs.map c3)) ws') (KJ (.d y)) g f b a)).wp l _;exact Du H hw (by omega) λg f b a C u=>⟨_,_,_,_,_,rfl,by omega,by omega⟩
  .rintro s l⟨k,g,f,b,a,rfl,r,o⟩;show(au (V (n+4)) qy (l8 (nt (.tup (cs.map c3)) ws') k g f b a)).wp l _;rw[show au (V (n+4)) qy (l8 (nt (.tup (cs.map c3)) ws') k g f b a)=.ok (.rt (.bl KQ))from rfl,T.aw]
theorem whole:(au (gv.ev (aH defs gv 39)) rest (KP::KJ .feed::Mp (qG.length-2) KP)).kW 1000000 (λa=>a=.rt (.bl KQ)):=T.mY (xk (n:=35) (m:=1000000) (by decide))
end K40
end
open PySem PySem.W PyProof.Rows
theorem PySem.Challenge.cw_wallplan_k40_openings_made_holds : PySem.Challenge.rw_wallplan_k40_openings_made.Holds := by
 refine head (L2.xJ (l:=NI) (n:=63) (k:=40) (x:=KN "_law_script") (K:=head.heap_39) (CX:=λ_=>L2.pA) (sp:=λw=>L2.wI (head.heap_39 w.params)) rfl (by decide) rfl ⟨rfl,by decide,by decide,rfl⟩ (λw h Y=>PySem.W.kIn_of Y) ?F ?S ?C)
 case F=>
  intro w mg m h p G b
  obtain ⟨f,fd,j,i,g⟩:=K40.Ga K40.whole w.params
  have e:mg (KN "law")=KJ (.ref f):=O3 p G j
  have o:(KJ (Ln f):Option KO)=KJ (.ref m):=e.symm.trans b
  cases o
  exact ⟨fd,λs u=>.of_eq (i [u] rfl),λbase X G=>g rfl X G⟩
 case S=>exact λw H a ns c _ d=>⟨a,ns,rfl,d,c,λ_=>rfl⟩
 case C=>exact λ_ _ _ _ _ z=>z
