import PyProof.Rows.All
import Wide.All
import OpenK.AllK
import Wide.FinOn
import Lean
import PyProof.EqAt
import PyProof.EqKinds
import PyProof.TupleCall
import PyProof.NeKinds
import PyProof.ZipIter
import PyProof.EnumMake
import PyProof.InstStoreFacts
import Open.Row
import PySem.Challenge.RW_wallplan_k56_refusals_of_their_own
set_option Elab.async false
set_option linter.all false
set_option maxRecDepth 100000
set_option maxHeartbeats 0

open PySem renaming wpAny_bind->Ms,wpAny_pure->Mu,Value->Mv,Shared->Mx,Addr->MD,model->MO,sizeLine->MP,starEach->MS,Expr->MV,Program->MX,wpAny_holding->M2,Str->M3,World->M_,Heap->Na,tupleKeyHash->Nb,Around->Nc,wpAny_newObj_type->Nd,wpAny_loadPart_at->Ng,wpAny_call_entry->Ni,SetTable->Nk,foldedSetIterable->Ny,mainGlobals->NA,wpAny_callSpecial?_slot->NB,Obj->NF,wpAny_seqItems->NH,compareOp->NI,wpAny_field->NJ,argBest->NK,sizeLine_eq->NR,intKind->NS,codeAny_builtin->NU,cLine->NV,eval->N2,wpAny_mono->N3,FuncData->N8,wpAny_askSetting->N9,wpAny_truthy_bool->N_,wpAny_standAt->Oa,wpAny_setState_of->Ob,Pos->Od,backTo->Og,plainId_quiet->Oj,IsTupleKey->Om,bootBuiltins->OB,pyNext->OC,mem_of_lookup->OE,letOwnedTupleGo->OG,codeAny_mono->OH,wpAny_updateSeq->OI,Scope->OJ,wpAny_isInstance->OK,codeAny_call_builtin->OL,Stmt->OM,assignEach->OP,wpAny_setField->OR,swapsWith->O4,wpAny_Call_Name_kw->O5,typeLookup->O6,wpAny_setField_rec->O_,KeyKind->Pa,wpAny_typeNameOfWhole_keyiter->Pe,wpAny_tryCatch->Pf,richCompare->Pg,wpAny_letGo->Ph,sysModules->Pn,rawInt->Po,attributeBase->Pw,wpAny_of_eq->Px,excClassObj->Py,wpAny_forIn_list->Pz,binaryOp->PC,builtinLookup_eq_fast->PH,wpAny_passesOwn->PN,codeAny_of_tree->PR,standAt->PV,CmpOp->PX,wpAny_pyIter_list->PZ,wpAny_attempt->P2,wpAny_typeNameOf_keyiter->P4,wpAny_setEntries_of->P7,NameKind->Qa,isSubtype_type->Qc,checkBuiltinCall->Qd,wpAny_rule->Qk,wpAny_specialOf->Qp,swappedStores->Qu,behindInMarks->Qw,Comprehension->Qz,IsPair->QF,call->QV,intKind_is->QX,firstArgMember->QY,ZipApart->Q0,wpAny_typeOf->Q5,Keyword->Q7,DictEntry->Q8,noteFrame->Q9,assign->Ra,wpAny_isSubtype_exc->Rg,Operator->Rj,compTurn->Rm,typeLookup_type->Rr,wpAny_loadPart'->Ru,wpAny_call->Ry,wpAny_pyIter_tuple->RA,isInstance->RC,tupleKind_room_in1->RD,sliceBounds->RG,seqItems?->RH,GenState->RK,Model->RL,holding->RN,setAddHashed->RR,wpAny_pyIter_slot->RS,tupleKind->RY,pyIter->RZ,typeIs_str->R0,Params->R1,updateSeq->R4,keywordEach->R7,hashByValue->R8,wpAny_updateSeq_pair->Sa,isTrue->Sd,wpAny_execs_nil->Se,theTreesLotGoes->Sf,Env->Sl,PassesOwn->Sz,pickOrder->SA,setFlight->SD,call_meets->SJ,wpAny_fieldsOf->SM,isSubtype_stop->SN,wpAny_pyHash_tuple->SO,call_function_tree->SW,codeAny_call_builtin_code->S_,wpAny_check_type_call_sub->Ta,ofAClassStatement->Th,wpAny_dictEntries->Ti,wpAny_setEpoch_of->Tn,wpAny_comprehension_free->Tu,wpAny_onRaise->Tw,again->TF,Arguments->TH,noFill_tuple_add->TJ,setField->TQ,wpAny_pyIter_zip->TU,wpAny_madeBy_exc->TV,codeAny_call_builtin_at->TX,IsPart->Ub,getItem->Uc,wpAny_Call_method_late->Ue,setsByText->Uh,richCompare_meets_room->Um,ExcBaseFacts->Uo,Tok->Ut,wpAny_dictEpoch->Uy,field->Uz,wpAny_eqIsQuiet_tuple->UA,wpAny_isOneOf_keyiter->UC,weight_type_call_type->UH,wpAny_typeLookup_tail->UI,wpAny_loadName_local->UM,backToKw->UP,setAddHashedIn->UR,wpAny_newTuple->US,newTuple->UT,entryFor_alias->UU,wpAny_newFunctionEnv->UW,setAdd->UX,wpAny_check_new_subT->UZ,codeAny_exc_new_subT->U0,unbindBehindTheSuite->U1,boot_len->U4,Sem->U5,valueAt->U6,callerA->U7,collect->U8,wpAny_loadName_cell->U9,swapsWithSole->Vd,seq_tuple_add->Ve,wpAny_handled->Vh,builtinsNs->Vk,PlainAttrs->Vr,wpAny_keeperOf_exc->Vv,bindArgs->VE,concat_meets->VF,wpAny_sequenceKey->VG,seqIndex_neg->VH,searchCouldBeSeen->VI,wpAny_storeSet_of->VJ,contains->VN,IsZip->VP,OsState->VR,OwnTail->VS,wpAny_Call_ofName->VU,typeOf->V3,putSet_of->V4,newObj->V5,seqIndex_of->V7,subscripted->V8,wpAny_throw->Wa,wpAny_alloc->Wb,lookupAlong->Wc,loadIfAlive->Wd,ret->Wf,storedH->Wg,newDict->Wh,entryOfKey->Wi,Drawn->Wj,wpAny_Name->Wl,wpAny_load->Wm,Result->Wn,bindL->Wo,bindC->Wp,closureFor->Wr,newExc->Ws,entryFor->Wt,slotArgs->Wu,Walks->Wv,fresh->Ww,StoreFacts->Wx,draw->Wz,bound->WA,BindsTo->WB,leaving->WC,relabel->WE,argsOk->WG,callAny->WH,rule->WI,atKey->WJ
open Option renaming some->Mt,none->MA,map_some->Rt,map_eq_some_iff->RT,getD_none->TK
open PySem.Heap renaming get?_push_of_some->Mw,lt_size->MH,get?_push_size->MJ,get?_update_other->MQ,get?_update_self->M6,size_push->ND,SameBut->NW,get?_update_ne->Sn,ExtBut->Tj
open Bool renaming false->My,true->Mz,and_eq_true->ML,false_eq_true->M0,false_ne_true->Nx,not_eq_true'->N1,not_true->Pb,or_eq_true->Qq,false_and->UN,or_true->VT,eq_false_iff->VZ
open PySem.W renaming Frag->ME,nsIn->NQ,kia_one->NY,kitOne->Oi,codeIn->Oy,nsMap_none_of_in->Pc,Looks->P5,mg_of->P6,findIn->P_,kit_cls->Qr,keepIn->QP,kitCls->Q1,looks_findIn->Q2,isNs_of_in->SU,methodObj->Te,kitx_list->Tf,next->TC,hashAt->T8,cellsFrom_some->T_,fnOf->Ua,instObj->Uu,lookIn->UO,kitx_tuple->Vm,callWith_K->Vo,codeRec_of->Vp,tail_of_in->Vu,mg_none_of->Vw,kitx_dict->VA,kas_ask->WD
open PySem.Str renaming ofString->MF
open List renaming mem_cons_self->MG,mem_cons_of_mem->MM,size_toArray->MR,length_map->MT,getElem?_eq_getElem->MZ,mem_append_right->M1,map_cons->M9,not_mem_nil->Nj,mem_cons->Nl,length_cons->Nn,mem_map_of_mem->Np,getElem?_map->Nq,getElem?_append_right->Nt,mem_of_getElem?->Nz,lookup_cons->NC,length_nil->NG,append_nil->NT,toArray->N4,map_map->N5,range->N6,length->Oc,getElem?_append_left->Oe,length_append->Of,getElem?_set->Ou,mem_append_left->Ox,getD_eq_getElem?_getD->Oz,replicate->OQ,filterMap_cons->OX,map_congr_left->OY,map_append->OZ,length_replicate->O2,all_eq_true->O3,isEmpty_nil->O7,zip_cons_cons->O9,getElem?_replicate->Pj,append_assoc->Pl,forIn_cons->Pq,drop_length->PB,mem_singleton->PD,forIn_nil->PF,drop_eq_getElem_cons->PK,getElem?_zip_eq_some->PM,length_take->P9,find?_cons->Qo,all_cons->Qy,length_drop->Q3,map_nil->Q6,getElem?_take_of_lt->Ri,any_cons->Rl,pairwise_cons->Rv,getElem?_cons_succ->RE,getElem?_set_self->RM,take_append_drop->RW,eq_nil_of_length_eq_zero->Sb,mem_append->Sh,length_zip->Si,length_zipWith->Sm,getElem?_drop->SE,zip_nil_right->SR,contains_cons->SS,perm_ext_iff_of_nodup->SX,mem_of_find?_eq_some->Tc,map_take->Tr,map_drop->Ts,eraseIdx_cons_succ->TL,perm_middle->TM,any_eq_true->TZ,getElem?_cons_zero->T4,take_of_length_le->T7,of_mem_zip->Uv,length_set->Uw,mem_of_mem_drop->UK,getElem?_set_ne->UL,drop_zero->U2,take_sublist->Vz,length_range->VM,zip_nil_left->VO,lookup->V_
open Option.some renaming inj->MI,injEq->Ov
open Nat renaming le_refl->MN,ne_of_lt->M4,lt_of_lt_of_le->M7,lt_irrefl->Nh,eq_of_beq_eq_true->Nr,zero_le->Nv,le_trans->Nw,lt_succ_self->NZ,ne_of_gt->N0,lt_succ_of_lt->OS,beq->OV,le_add_right->P8,le_succ->Qh,lt_trichotomy->QJ,not_lt_zero->Ro,succ_pos->Sr,le_of_lt->Ss,div_div_eq_div_mul->T5,mod_lt->T6,le_of_eq->Ug,le_of_lt_succ->Vx,le_succ_of_le->VX,beq_refl->V0
open PySem.SetTable renaming bits->MU,below->MY,insertAt->Nm,turns->OO,Probe->Pd,runEnd->Pm,leap->Qs,fill->R6,fits->Tq
open PySem.Value renaming ref->MW,none->M5,builtin->NM,int->Qt,bool->Rw,type->Rx,str->Sy,notImplemented->UY
open Array renaming getElem?_eq_getElem->M8,getElem?_toList->Ol,length_toList->OW,getElem?_eq_none->Pu,forIn_toList->Qj,getD_eq_getD_getElem?->Su,toList->T9,mem_toList_iff->UQ,find?_toList->Vl,size_append->V2
open PySem.Builtin.SmallTypes renaming nextOf->Nf,ownedTupleIsFree->Nu,ownedTupleHandOut->Rf
open PySem.Obj renaming data_mapFields->NL,mapSeq->NP,isFreed_of_fields->Oo,mapFields->ON,cls_mapFields->QL
open PySem.Around renaming under_plainId->NN,in1_units->Qe,under_plain->Vt,under->VB
open Ne renaming symm->NO
open PySem.Heap.SameBut renaming update->NX,refl->VQ
open False renaming elim->N7
open PySem.F renaming plain_min_loop->Oh,slot_zip_next->Oq,plain_max_loop->OD,slot_tuple_iterator_next->OT,slot_dict_keyiterator_next->Pp,plain_extend_loop->PL,args_zip_next_1->Qf,entry_zip_next->Qm,slot_str_split->Qn,plain_set_new->QB,args_tuple_add_2->Rk,args_str_split_2->Rn,args_tuple_iterator_next_1->Rz,entry_tuple_add->RF,entry_str_split->RI,entry_tuple_iterator_next->RJ,slot_tuple_add->RO,entry_max_loop->RU,entry_min_loop->RV,typeOf_object_class->RX,args_dict_keyiterator_next_1->R3,entry_dict_keyiterator_next->R9,slot_set_add->R_,slot_enumerate_iter->Sw,excBase_ValueError->SV,slot_set_contains->SY,entry_extend_loop->Tb,slot_tuple_index->TB,entry_type_call->TR,plainAttrs_list->TY,args_set_add_2->Uj,entry_set_init->Uk,plainAttrs_str->Us,slot_set_iter->UD,entry_set_add->UE,entry_set_new->UG,slot_str_join->UJ,slot_set_sub->U3,plain_min->VV,entry_min->VW
open PyProof.Rows renaming callWith_type1->Ot,slot_tuple_getitem->O0,IntsAre->PY,seqObj->Rb,AllBare->R5,envOfC->Tp,subscriptTail_builtinR->Ud,boot_list->Ur,get?_update_seq->Ux,subscriptTail->Vf,listUpdate_at->Vg,args_tuple_getitem->Vq,IsTup->V6,seqEpoch_at->V9,SortKind->Wq
open PySem.Builtin.Builtins renaming bindParams->Ow
open PySem.NameKind renaming free->OA,cell->Qx
open PySem.Builtin.Frozenset renaming addrOf->OF,isAnySet->OU,oneOther->QZ,difference->Sj,unchanged->Sx,newClass->SQ,sizeOf->Tt,slot1->T3
open PySem.Builtin.Tuple renaming tupleCompareSizes->O1,tupleExact->P1,tupleItemsOf->QQ
open PySem.Code renaming quiet_builtin->O8,isFrame->VC
open Int renaming toNat_natCast->Pk,emod_lt_of_pos->Qi,emod_nonneg->Rp,le_refl->We
open PySem.Challenge renaming rw_wallplan_k56_refusals_of_their_own->Pr
open PyProof.Rows.F renaming plain_set_update_loop->Pt,entry_set_update_loop->Rc
open PySem.Builtin.Slice renaming slicePlaces->PJ,sliceAdjust->Q_,sliceApplied->SI
open ForInStep renaming yield->PQ
open List.cons renaming injEq->PU
open PySem.Builtin.Str renaming occurrences->Qg,strKind->Rh,partsBetween->Tx,tooLong->Vc,glued->VY
open PySem.SeqAt renaming EqAt->Ql,RcNeAt->Sv,RcAt->Ul
open PySem.Builtin.List renaming listLengthHint->QM,listExtendWith->QN,listSameRef->Tz,listItems->Uq
open PySem.Calls renaming evalArgs_plain->QR,callWith_builtin->RP,Name_function_global->SG,call_len_list->U_,spliced_cons->Vn,spliced_nil->VD
open Sum renaming inr->Q4,inl->Rq
open Or renaming inl->RQ,inr->SK
open PySem.Builtin.Dict_items renaming ownsTuple->Sg
open PySem.W.Frag renaming In->Sk
open True renaming intro->SH
open PySem.SetTable.probe renaming go->Td
open List.Pairwise renaming map->To
open PySem.AutoSeq1 renaming sub_tuple_tuple->Tv
open PUnit renaming unit->Ui
open PySem.Builtin.Dict renaming showsAll->UB
open PySem.EntryCells renaming newEntry->Va
open Function renaming comp_apply->Vb
open PySem.SeqAt.EqAt renaming int_str->Vi,str_int->Vj
open PySem.Walks renaming list->Vs
open PySem.SetTable.below renaming go->Vy
open PySem.pickOrder renaming go->VL
open PySem.PassesOwn renaming leaving->V1
open PySem.Env renaming kindOf->Wy
section
namespace PySem.W.Fast
noncomputable def te13052408679150730464:=0
noncomputable def te16555476440528808052:=0
noncomputable def te5452508617037859911:=0
noncomputable def te4868988410673395695:=0
end PySem.W.Fast
open PySem PySem.W PyProof.Rows
open_top head for PySem.Challenge.rw_wallplan_k56_refusals_of_their_own
end
section
namespace ST
open PySem
noncomputable def f5(n i:Nat):Nat:=(i*5+1)%n
noncomputable def sx(n:Nat):Nat->Nat->Nat
 |0,i=>i|k+1,i=>f5 n (sx n k i)
theorem jh(n a b i:Nat):sx n (a+b) i=sx n a (sx n b i):=by induction a with
 |zero=>simp[sx]|succ a c=>rw[Nat.succ_add];simp only[sx];rw[c]
noncomputable def row(n:Nat):Nat->Nat->List Nat
 |0,_=>[]|k+1,i=>i::row n k (f5 n i)
theorem tZ(n k i:Nat):sx n (k+1) i=sx n k (f5 n i):=by
 have:=jh n k 1 i;rw[this];rfl
theorem sy{n:Nat}:∀{k i j:Nat},j∈row n k i->∃m,m<k/\sx n m i=j
 |0,_,_,h=>by simp[row]at h|k+1,i,j,h=>by
  rcases List.mem_cons.mp h with rfl|h;.exact⟨0,Sr _,rfl⟩
  .obtain⟨m,b,a⟩:=sy h;exact⟨m+1,Nat.succ_lt_succ b,by rw[tZ];exact a⟩
noncomputable def Mask(k:Nat):Prop:=k=7\/k=31\/k=127\/k=511
noncomputable def full(n:Nat):Bool:=(N6 n).all (λj=>(row n n 0).contains j)&&(sx n n 0==0)
theorem FI:full 8=Mz:=by decide+kernel
theorem Cq:full 32=Mz:=by decide+kernel
theorem zi:full 128=Mz:=by decide+kernel
theorem zj:full 512=Mz:=by decide+kernel
theorem Mask.full{k:Nat}(h:Mask k):ST.full (k+1)=Mz:=by
 rcases h with rfl|rfl|rfl|rfl;.exact FI
 .exact Cq
 .exact zi
 .exact zj
theorem t6{n:Nat}(h:full n=Mz){i j:Nat}(k:i<n)(g:j<n):∃m,m<n/\sx n m i=j:=by
 unfold full at h;rw[ML,O3,beq_iff_eq]at h;obtain⟨o,l⟩:=h;have get:∀x,x<n->∃m,m<n/\sx n m 0=x:=λx f=>sy (by simpa using o x (List.mem_range.mpr f));obtain⟨a,q,e⟩:=get i k;obtain⟨b,p,d⟩:=get j g;by_cases c:a<=b
 .refine⟨b-a,by omega,?_⟩;rw[<-e,<-jh,Nat.sub_add_cancel c,d]
 .refine⟨b+(n-a),by omega,?_⟩;rw[<-e,<-jh,show b+(n-a)+a=b+n by omega,jh,l,d]
noncomputable def run(mask:Nat)(b:Nat):Nat->Nat×Nat
 |0=>(b%(mask+1),b)|m+1=>Qs mask (run mask b m).1 (run mask b m).2
theorem og(mask b m:Nat):(run mask b m).2=b/32^m:=by induction m with
 |zero=>simp[run]|succ m a=>
  show(run mask b m).2/32=_;rw[a,T5,Nat.pow_succ]
theorem Cr(mask b m:Nat):(run mask b m).1<mask+1:=by cases m with
 |zero=>exact T6 _ (Sr _)|succ m=>exact T6 _ (Sr _)
theorem vH{mask b:Nat}(c:b<2^64)(m:Nat):(run mask b (13+m)).1=sx (mask+1) m (run mask b 13).1:=by induction m with
 |zero=>rfl|succ m a=>
  show((run mask b (13+m)).1*5+1+(run mask b (13+m)).2/32)%(mask+1)=f5 (mask+1) (sx (mask+1) m (run mask b 13).1);have:(run mask b (13+m)).2/32=0:=by
   rw[og,T5,<-Nat.pow_succ];refine Nat.div_eq_of_lt (M7 c ?_);have:(32:Nat)^13<=32^(13+m).succ:=Nat.pow_le_pow_right (by decide) (by omega);exact Nw (by decide) this
  rw[this,Nat.add_zero,a];rfl
theorem zk{mask b:Nat}(c:Mask mask)(a:b<2^64){j:Nat}(e:j<=mask):∃m,m<=13+mask/\(run mask b m).1=j:=by
 obtain⟨m,f,d⟩:=t6 c.full (Cr mask b 13) (show j<mask+1 by omega);exact⟨13+m,by omega,by rw[vH a];exact d⟩
noncomputable def vI(mask:Nat)(p:Pd):Pd:=if 0<p.more then{p with more:=p.more-1,j:=p.j+1}else{p with j:=(Qs mask p.i p.perturb).1,more:=Pm mask (Qs mask p.i p.perturb).1-(Qs mask p.i p.perturb).1,i:=(Qs mask p.i p.perturb).1,perturb:=(Qs mask p.i p.perturb).2}
noncomputable def begin(mask b:Nat):Pd:={j:=b%(mask+1),more:=Pm mask (b%(mask+1))-b%(mask+1),i:=b%(mask+1),perturb:=b,dummy:=MA}
noncomputable def bC(mask b:Nat):Nat->Pd
 |0=>begin mask b|n+1=>vI mask (bC mask b n)
noncomputable def vJ(mask b m:Nat):Pd:={j:=(run mask b m).1,more:=Pm mask (run mask b m).1-(run mask b m).1,i:=(run mask b m).1,perturb:=(run mask b m).2,dummy:=MA}
theorem more_le(mask i:Nat):Pm mask i-i<=9:=by
 unfold Pm;split<;>omega
theorem vK{mask b n:Nat}{p:Pd}(h:bC mask b n=p):∀o,o<=p.more->bC mask b (n+o)={p with j:=p.j+o,more:=p.more-o}
 |0,_=>by rw[Nat.add_zero,h];rfl|o+1,c=>by
  have a:=vK h o (by omega);show vI mask (bC mask b (n+o))=_;rw[a];unfold vI;have:p.more-o>0:=by omega
  rw[if_pos (show(({p with j:=p.j+o,more:=p.more-o}:Pd)).more>0 from this)];show({p with j:=p.j+o+1,more:=p.more-o-1}:Pd)={p with j:=p.j+(o+1),more:=p.more-(o+1)};rw[Nat.add_assoc,Nat.sub_sub]
theorem sA(mask b:Nat):∀m,∃n,n<=10*m/\bC mask b n=vJ mask b m
 |0=>⟨0,MN _,rfl⟩|m+1=>by
  obtain⟨n,d,a⟩:=sA mask b m;have c:=more_le mask (run mask b m).1;refine⟨n+(vJ mask b m).more+1,by show n+(Pm mask (run mask b m).1-(run mask b m).1)+1<=_;omega,?_⟩;show vI mask (bC mask b (n+(vJ mask b m).more))=_;rw[vK a _ (MN _)];unfold vI;rw[if_neg (by show¬(vJ mask b m).more-(vJ mask b m).more>0;omega)];rfl
theorem zm{mask b:Nat}(d:Mask mask)(c:b<2^64){j:Nat}(a:j<=mask):∃n,n<10*OO mask/\(bC mask b n).j=j:=by
 obtain⟨m,h,f⟩:=zk d c a;obtain⟨n,g,e⟩:=sA mask b m;refine⟨n,by unfold OO;omega,?_⟩;rw[e];exact f
theorem t7(mask b n:Nat):(bC mask b n).dummy=MA:=by induction n with
 |zero=>rfl|succ n a=>
  show(vI mask (bC mask b n)).dummy=MA;unfold vI;split<;>exact a
theorem Cs(mask b n:Nat):(bC mask b n).j+(bC mask b n).more<=mask/\(bC mask b n).i<=mask:=by
 have start:∀i,i<=mask->i+(Pm mask i-i)<=mask:=λi c=>by
  unfold Pm;split<;>omega
 induction n with
 |zero=>
  have lt:b%(mask+1)<=mask:=Vx (T6 _ (Sr _));exact⟨start _ lt,lt⟩|succ n a=>
  show(vI mask (bC mask b n)).j+(vI mask (bC mask b n)).more<=mask/\(vI mask (bC mask b n)).i<=mask;unfold vI;split;.exact⟨by show(bC mask b n).j+1+((bC mask b n).more-1)<=mask;omega,a.2⟩
  .have lt:(Qs mask (bC mask b n).i (bC mask b n).perturb).1<=mask:=Vx (T6 _ (Sr _));exact⟨start _ lt,lt⟩
end ST
end
section
namespace ST
open PySem
noncomputable def bw(l:List Nat):Prop:=l.Pairwise (·<·)
theorem bw.get{l:List Nat}(h:bw l){i j x y:Nat}(e:l[i]?=Mt x)(d:l[j]?=Mt y)(c:i<j):x<y:=by
 obtain⟨a,rfl⟩:=List.getElem?_eq_some_iff.mp e;obtain⟨b,rfl⟩:=List.getElem?_eq_some_iff.mp d;exact List.pairwise_iff_getElem.mp h i j a b c
theorem jB{xs:Array Nat}{j:Nat}(h:bw xs.toList):∀(fuel lo a:Nat),a-lo<=fuel->lo<=a->a<=xs.size->(∀i x,i<lo->xs[i]?=Mt x->x<j)->(∀i x,a<=i->xs[i]?=Mt x->j<=x)->∃p,Vy xs j fuel lo a=p/\p<=xs.size/\(∀i x,i<p->xs[i]?=Mt x->x<j)/\∀i x,p<=i->xs[i]?=Mt x->j<=x
 |0,lo,a,r,q,l,g,f=>⟨lo,rfl,by omega,g,λi x c e=>f i x (by omega) e⟩|fuel+1,lo,a,r,q,l,g,f=>by
  unfold Vy;by_cases d:lo<a
  .rw[if_pos d];have t:(lo+a)/2<a:=by omega
   have o:lo<=(lo+a)/2:=by omega
   have b:(lo+a)/2<xs.size:=by omega
   have s:xs.getD ((lo+a)/2) j=xs[(lo+a)/2]:=by simp[Array.getD,b]
   have n:xs.toList[(lo+a)/2]?=Mt xs[(lo+a)/2]:=by simp[b]
   simp only[s];by_cases m:xs[(lo+a)/2]<j
   .rw[if_pos m];refine jB h fuel ((lo+a)/2+1) a (by omega) (by omega) l (λi x c e=>?_) f;by_cases k:i=(lo+a)/2
    .subst k;have:x=xs[(lo+a)/2]:=by rw[M8 b]at e;exact(MI e).symm
     omega
    .have:x<xs[(lo+a)/2]:=h.get (i:=i) (j:=(lo+a)/2) (by simpa using e) n (by omega);omega
   .rw[if_neg m];refine jB h fuel lo ((lo+a)/2) (by omega) (by omega) (by omega) g (λi x c e=>?_);by_cases k:i=(lo+a)/2
    .subst k;have:x=xs[(lo+a)/2]:=by rw[M8 b]at e;exact(MI e).symm
     omega
    .have:xs[(lo+a)/2]<x:=h.get (i:=(lo+a)/2) (j:=i) n (by simpa using e) (by omega);omega
  .rw[if_neg d];exact⟨lo,rfl,by omega,g,λi x c e=>f i x (by omega) e⟩
theorem eA{xs:Array Nat}(h:bw xs.toList)(j:Nat):MY xs j<=xs.size/\(∀i x,i<MY xs j->xs[i]?=Mt x->x<j)/\∀i x,MY xs j<=i->xs[i]?=Mt x->j<=x:=by
 obtain⟨p,e,r⟩:=jB h (j:=j) xs.size 0 xs.size (by omega) (Nv _) (MN _) (λi x a=>absurd a (Ro _)) (λi x a e=>absurd (Array.getElem?_eq_some_iff.mp e).1 (by omega));have:MY xs j=p:=e;rw[this];exact r
theorem below_at{xs:Array Nat}(h:bw xs.toList){i j:Nat}(a:xs[i]?=Mt j):MY xs j=i:=by
 obtain⟨_,e,d⟩:=eA h j;rcases QJ (MY xs j) i with c|c|c
 .have b:MY xs j<xs.size:=Nat.lt_trans c (Array.getElem?_eq_some_iff.mp a).1;have e1:xs[MY xs j]?=Mt xs[MY xs j]:=M8 b;have:=d _ _ (MN _) e1;have:=h.get (i:=MY xs j) (j:=i) (x:=xs[MY xs j]) (y:=j) (by simp[b]) (by simpa using a) c;omega
 .exact c
 .have:=e i j c a;omega
theorem lI{t:Nk}(h:bw t.place.toList){i j:Nat}(a:t.place[i]?=Mt j):t.slot j=.live i:=by
 unfold SetTable.slot;rw[below_at h a];simp[a]
theorem qt{t:Nk}(h:bw t.place.toList)(hd:t.dummies=#[]){j:Nat}(a:∀i:Nat,t.place[i]?≠Mt j):t.slot j=.empty:=by
 unfold SetTable.slot;have e1:(t.place[MY t.place j]?==Mt j)=My:=by cases e:t.place[MY t.place j]? with
  |none=>rfl|some x=>
   have:x≠j:=λz=>a _ (by rw[e,z]);simpa using this
 have e2:SetTable.has t.dummies j=My:=by rw[hd];rfl
 simp[e1,e2]
theorem b8{a:Type}(xs:Array a)(p:Nat)(x:a)(b:p<=xs.size):(Nm xs p x).toList=xs.toList.take p++x::xs.toList.drop p:=by
 unfold Nm;simp[T7]
theorem kX{xs:Array Nat}(h:bw xs.toList){j:Nat}(o:∀i:Nat,xs[i]?≠Mt j):bw (Nm xs (MY xs j) j).toList:=by
 obtain⟨m,q,l⟩:=eA h j;rw[b8 _ _ _ m];unfold bw;rw[List.pairwise_append,Rv];refine⟨h.sublist (Vz _ _),⟨λy n=>?_,h.sublist (List.drop_sublist _ _)⟩,λa p b f=>?_⟩
 .obtain⟨i,c⟩:=List.mem_iff_getElem?.mp n;rw[SE]at c;have e:xs[MY xs j+i]?=Mt y:=by simpa using c
  have:=l _ y (P8 _ _) e;have:y≠j:=λz=>o _ (by rw[e,z]);omega
 .obtain⟨i,c⟩:=List.mem_iff_getElem?.mp p;have d:i<MY xs j:=by
   have:=(List.getElem?_eq_some_iff.mp c).1;simp at this;omega
  rw[Ri d]at c;have r:=q i a d (by simpa using c);rcases List.mem_cons.mp f with rfl|f;.exact r
  .obtain⟨k,g⟩:=List.mem_iff_getElem?.mp f;rw[SE]at g;have:=l _ b (P8 _ _) (show xs[MY xs j+k]?=Mt b by simpa using g);omega
end ST
end
section
namespace ST
open PySem
structure mC(t:Nk)(hs:List Int):Prop where
 mask:Mask t.mask
 rise:bw t.place.toList
 zo:t.dummies=#[]len:t.place.size=hs.length
 low:∀(i j:Nat),t.place[i]?=Mt j->j<=t.mask
 n0:hs.length<=t.mask
 way:∀(i:Nat)(h:Int)(j:Nat),hs[i]?=Mt h->t.place[i]?=Mt j->∃n,(bC t.mask (MU h) n).j=j/\∀m,m<n->∃i':Nat,t.place[i']?=Mt (bC t.mask (MU h) m).j
theorem zq(h:Int):MU h<2^64:=by
 unfold MU;have a:=Rp h (show(2^64:Int)≠0 by decide);have b:=Qi h (show(0:Int)<2^64 by decide);have:((h%2^64).toNat:Int)=h%2^64:=Int.toNat_of_nonneg a;have e:((2^64:Nat):Int)=(2^64:Int):=by decide
 omega
theorem iD{l:List Nat}(h:bw l):∀k,(∀j,j<=k->∃i:Nat,l[i]?=Mt j)->∃i,k<=i/\l[i]?=Mt k
 |0,f=>by obtain⟨i,e⟩:=f 0 (MN _);exact⟨i,Nv _,e⟩|k+1,f=>by
  obtain⟨i,m,d⟩:=iD h k λj g=>f j (by omega);obtain⟨b,a⟩:=f (k+1) (MN _);refine⟨b,?_,a⟩;rcases QJ i b with c|c|c;.omega
  .subst c;rw[d]at a;cases a
  .have:=h.get a d c;omega
theorem mC.room{t:Nk}{d:List Int}(T:mC t d):∃j,j<=t.mask/\∀i:Nat,t.place[i]?≠Mt j:=by
 by_cases c:∃j,j<=t.mask/\∀i:Nat,t.place[i]?≠Mt j;.exact c
 .exfalso;have all:∀j,j<=t.mask->∃i:Nat,t.place.toList[i]?=Mt j:=λj e=>by
   by_cases b:∃i:Nat,t.place[i]?=Mt j;.obtain⟨i,a⟩:=b;exact⟨i,by simpa using a⟩
   .exact(c ⟨j,e,λi a=>b ⟨i,a⟩⟩).elim
  obtain⟨i,g,f⟩:=iD T.rise t.mask all;have:i<t.place.size:=by
   have:=(List.getElem?_eq_some_iff.mp f).1;simpa using this
  have:=T.len;have:=T.n0;omega
noncomputable def oh(t:Nk)(h:Int)(N:Nat):Prop:=(∀i:Nat,t.place[i]?≠Mt (bC t.mask (MU h) N).j)/\∀m,m<N->∃i:Nat,t.place[i]?=Mt (bC t.mask (MU h) m).j
theorem mC.first{t:Nk}{l:List Int}(T:mC t l)(h:Int):∃N,N<10*OO t.mask/\oh t h N:=by
 obtain⟨j,o,g⟩:=T.room;obtain⟨n,b,a⟩:=zm T.mask (zq h) o;have ex:∃n,n<10*OO t.mask/\∀i:Nat,t.place[i]?≠Mt (bC t.mask (MU h) n).j:=⟨n,b,λi=>by rw[a];exact g i⟩;clear b a g;obtain⟨n,b,a⟩:=ex;induction n using Nat.strongRecOn with|ind n k=>
  by_cases f:∃m,m<n/\∀i:Nat,t.place[i]?≠Mt (bC t.mask (MU h) m).j
  .obtain⟨m,d,c⟩:=f;exact k m d (by omega) c
  .refine⟨n,b,a,λm d=>?_⟩;by_cases e:∃i:Nat,t.place[i]?=Mt (bC t.mask (MU h) m).j;.exact e
   .exact(f ⟨m,d,λi p=>e ⟨i,p⟩⟩).elim
theorem jC{t:Nk}{r:List Int}(T:mC t r){h:Int}{N:Nat}(F:oh t h N)(T8:Nat->Int):∀(fuel n:Nat),n<=N->N<n+fuel->(∃f i,n<=f/\f<N/\t.place[i]?=Mt (bC t.mask (MU h) f).j/\T8 i=h/\(∀m,n<=m->m<f->∀k:Nat,t.place[k]?=Mt (bC t.mask (MU h) m).j->T8 k≠h)/\Td t T8 h fuel (bC t.mask (MU h) n)=Mt (.candidate (bC t.mask (MU h) f).j i (bC t.mask (MU h) (f+1))))\/((∀m,n<=m->m<N->∀k:Nat,t.place[k]?=Mt (bC t.mask (MU h) m).j->T8 k≠h)/\Td t T8 h fuel (bC t.mask (MU h) n)=Mt (.empty (bC t.mask (MU h) N).j MA))
 |0,n,z,w=>by omega|fuel+1,n,z,w=>by
  unfold Td;by_cases s:n=N
  .subst s;refine .inr ⟨λm a b=>by omega,?_⟩;rw[qt T.rise T.zo F.1];simp only[t7]
  .obtain⟨i,p⟩:=F.2 n (by omega);rw[lI T.rise p];by_cases l:T8 i=h
   .refine .inl ⟨n,i,MN _,by omega,p,l,λm a b=>by omega,?_⟩;simp only[l,beq_self_eq_true,if_true];rfl
   .have v:(T8 i==h)=My:=by simpa using l
    simp only[v,M0,if_false];have one:∀k:Nat,t.place[k]?=Mt (bC t.mask (MU h) n).j->T8 k≠h:=λk u=>by
     have:k=i:=by rw[<-below_at T.rise u,below_at T.rise p]
     rw[this];exact l
    rcases jC T F T8 fuel (n+1) (by omega) (by omega)with⟨f,q,a,b,c,d,e,g⟩|⟨e,g⟩;.exact .inl ⟨f,q,by omega,b,c,d,λm x y=>by
      by_cases o:m=n;.subst o;exact one
      .exact e m (by omega) y,g⟩
    .exact .inr ⟨λm x y=>by
      by_cases o:m=n;.subst o;exact one
      .exact e m (by omega) y,g⟩
theorem mC.odd{t:Nk}{a:List Int}(T:mC t a):t.gaveWay=My:=by
 unfold SetTable.gaveWay;rcases T.mask with e|e|e|e<;>rw[e]<;>rfl
theorem mC.put{t:Nk}{l:List Int}(T:mC t l){h:Int}{N:Nat}(F:oh t h N)(x:l.length+1<=t.mask):(t.put (bC t.mask (MU h) N).j).2<=l.length/\mC (t.put (bC t.mask (MU h) N).j).1 (l.take (t.put (bC t.mask (MU h) N).j).2++h::l.drop (t.put (bC t.mask (MU h) N).j).2):=by
 have hd:SetTable.has t.dummies (bC t.mask (MU h) N).j=My:=by rw[T.zo];rfl
 generalize C:(bC t.mask (MU h) N).j=J at*;obtain⟨A,H,G⟩:=eA T.rise J;have e1:(t.put J).2=MY t.place J:=rfl;have e2:(t.put J).1={t with place:=Nm t.place (MY t.place J) J}:=by
  unfold SetTable.put;simp[hd]
 have D:=F.1;rw[C]at D;have v:(Nm t.place (MY t.place J) J).toList=t.place.toList.take (MY t.place J)++J::t.place.toList.drop (MY t.place J):=b8 _ _ _ A;have old:∀(i j:Nat),t.place[i]?=Mt j->∃o:Nat,(Nm t.place (MY t.place J) J)[o]?=Mt j:=λi j f=>by
  have r:j∈(Nm t.place (MY t.place J) J).toList:=by
   rw[v];have:j∈t.place.toList:=Nz (i:=i) (by simpa using f);rw[<-RW (MY t.place J) t.place.toList]at this;rcases List.mem_append.mp this with q|q;.exact Ox _ q
   .exact M1 _ (MM _ q)
  obtain⟨o,z⟩:=List.mem_iff_getElem?.mp r;exact⟨o,by simpa using z⟩
 refine⟨by rw[e1,<-T.len];exact A,?_⟩;rw[e1,e2];have B:t.place.toList.length=l.length:=by simpa using T.len
 refine⟨T.mask,kX T.rise D,T.zo,?_,λi j f=>?_,?_,λi g j f E=>?_⟩
 .have:=congrArg Oc v;simp only[Of,P9,Nn,Q3]at this⊢;rw[<-OW];omega
 .have r:j∈(Nm t.place (MY t.place J) J).toList:=Nz (i:=i) (by simpa using f);rw[v]at r;have:j∈t.place.toList\/j=J:=by
   rcases List.mem_append.mp r with q|q;.exact .inl (List.mem_of_mem_take q)
   .rcases List.mem_cons.mp q with q|q;.exact .inr q
    .exact .inl (UK q)
  rcases this with q|q
  .obtain⟨k,y⟩:=List.mem_iff_getElem?.mp q;exact T.low k j (by simpa using y)
  .have:=(Cs t.mask (MU h) N).1;show j<=t.mask;omega
 .show(l.take (MY t.place J)++h::l.drop (MY t.place J)).length<=t.mask;simp only[Of,P9,Nn,Q3];omega
 .have e:(t.place.toList.take (MY t.place J)++J::t.place.toList.drop (MY t.place J))[i]?=Mt j:=by rw[<-v];simpa using E
  have u:(t.place.toList.take (MY t.place J)).length=MY t.place J:=by simp;omega
  have s:(l.take (MY t.place J)).length=MY t.place J:=by simp;have:=T.len;omega
  have p:∀(g:Int)(j i:Nat),l[i]?=Mt g->t.place[i]?=Mt j->∃n,(bC t.mask (MU g) n).j=j/\∀m,m<n->∃o:Nat,(Nm t.place (MY t.place J) J)[o]?=Mt (bC t.mask (MU g) m).j:=λg j i a b=>by
   obtain⟨n,c,d⟩:=T.way i g j a b;exact⟨n,c,λm r=>by obtain⟨o,q⟩:=d m r;exact old o _ q⟩
  rcases QJ i (MY t.place J)with c|c|c
  .rw[Oe (by omega)]at f e;rw[Ri c]at f e;exact p g j i f (by simpa using e)
  .rw[Nt (by omega),s,c,Nat.sub_self]at f;rw[Nt (by omega),u,c,Nat.sub_self]at e;simp at f e;subst f e;exact⟨N,C,λm r=>by obtain⟨o,q⟩:=F.2 m r;exact old o _ q⟩
  .rw[Nt (by omega),s]at f;rw[Nt (by omega),u]at e;obtain⟨k,y⟩:∃k,i=MY t.place J+1+k:=⟨i-MY t.place J-1,by omega⟩;subst y;rw[show MY t.place J+1+k-MY t.place J=k+1 by omega]at f e;rw[RE,SE]at f e;exact p g j _ f (by simpa using e)
end ST
end
section
namespace L2
open PySem PySem.Spec PyProof.Rows
noncomputable abbrev Key:=Sum Int M3
noncomputable def lJ:Key->Mv->Bool
 |.inl k,v=>Value.isInt k v|.inr x,v=>Value.isStrOf x v
noncomputable def FJ(w:M_):Key->Int
 |.inl k=>hashInt k|.inr x=>hashStr w x
theorem aN:∀{k:Key}{v:Mv},lJ k v=Mz->(∃i t,k=Rq i/\v=Qt i t)\/(∃x t,k=Q4 x/\v=Sy x t)
 |.inl i,v,h=>by
  obtain⟨t,e⟩:=Value.isInt_shape (k:=i) (v:=v) h;exact .inl ⟨i,t,rfl,e⟩|.inr x,v,h=>by
  obtain⟨t,e⟩:=Value.isStrOf_shape (x:=x) (v:=v) h;exact .inr ⟨x,t,rfl,e⟩
theorem t8(i:Int)(t:Ut):lJ (.inl i) (.int i t)=Mz:=by simp[lJ,Value.isInt]
theorem g0(x:M3)(t:Ut):lJ (.inr x) (.str x t)=Mz:=by simp[lJ,Value.isStrOf]
theorem Ct(a b:Int):decide ((Rq a:Key)=Rq b)=(a==b):=by
 by_cases e:a=b;.subst e;simp
 .have h:¬(Rq a:Key)=Rq b:=λq=>e (Sum.inl.inj q);rw[decide_eq_false h];exact(beq_eq_false_iff_ne.mpr e).symm
theorem Cu(a b:M3):decide ((Q4 a:Key)=Q4 b)=decide (a=b):=by
 by_cases e:a=b;.subst e;simp
 .have h:¬(Q4 a:Key)=Q4 b:=λq=>e (Sum.inr.inj q);rw[decide_eq_false h,decide_eq_false e]
theorem Cv(a:Int)(b:M3):decide ((Rq a:Key)=Q4 b)=My:=decide_eq_false (λq=>nomatch q)
theorem Cw(a:M3)(b:Int):decide ((Q4 a:Key)=Rq b)=My:=decide_eq_false (λq=>nomatch q)
noncomputable def ao(prog:MX)(w:M_):Pa prog w Key where
 is:=lJ;hash:=FJ w;inj:=λv a b f d=>by
  rcases aN f with⟨i,t,rfl,rfl⟩|⟨x,t,rfl,rfl⟩
  .rcases aN d with⟨j,u,rfl,e⟩|⟨y,u,rfl,e⟩;.injection e with e1 _;rw[e1]
   .exact nomatch e
  .rcases aN d with⟨j,u,rfl,e⟩|⟨y,u,rfl,e⟩;.exact nomatch e
   .injection e with e1 _;rw[e1]
 byValue:=λk v h=>by rcases aN h with⟨i,t,rfl,rfl⟩|⟨x,t,rfl,rfl⟩<;>rfl
 pyHash:=λc h=>by
  rcases aN c with⟨i,t,rfl,rfl⟩|⟨x,t,rfl,rfl⟩;.exact wpAny_pyHash_int h
  .exact wpAny_pyHash_str h
 eqBool:=λhu c h=>by
  rcases aN hu with⟨i,t,rfl,rfl⟩|⟨x,t,rfl,rfl⟩
  .rcases aN c with⟨j,u,rfl,rfl⟩|⟨y,u,rfl,rfl⟩;.rw[Ct]at h;exact wpAny_eqBool_int h
   .rw[Cv]at h;exact Vi i t y u _ _ _ _ h
  .rcases aN c with⟨j,u,rfl,rfl⟩|⟨y,u,rfl,rfl⟩;.rw[Cw]at h;exact Vj x t j u _ _ _ _ h
   .rw[Cu]at h;exact wpAny_eqBool_str h
 «strs»:=λk x t v h=>by
  rcases aN h with⟨i,u,rfl,e⟩|⟨y,u,rfl,e⟩;.exact nomatch e
  .injection e with e1 _;subst e1;cases v<;>rfl
theorem oj(prog:MX)(w:M_)(i:Int)(t:Ut):(ao prog w).is (.inl i) (.int i t)=Mz:=t8 i t
theorem om(prog:MX)(w:M_)(x:M3)(t:Ut):(ao prog w).is (.inr x) (.str x t)=Mz:=g0 x t
end L2
namespace L2
open PySem PySem.Spec PyProof.Rows
inductive V where|aJ|bl(b:Bool)|int(i:Int)|str(x:M3)|Cy(b:Array UInt8)|Ft(b:UInt64)|ref(a:MD)|ty(n:String)deriving DecidableEq
noncomputable def RelV:V->Mv->Prop
 |.aJ,u=>u=M5|.bl b,u=>u=Rw b|.int i,u=>∃t,u=Qt i t|.str x,u=>∃t,u=Sy x t|.Cy b,u=>∃t,u=Value.bytes b t|.Ft b,u=>∃t,u=Value.float b t|.ref a,u=>u=MW a|.ty n,u=>u=Rx n
noncomputable abbrev ak:List V->List Mv->Prop:=Paired RelV
theorem ak.length{xs:List V}{us:List Mv}(r:ak xs us):xs.length=us.length:=Paired.length r
theorem ak.get:∀{xs:List V}{us:List Mv}{i:Nat}{x:V},ak xs us->xs[i]?=Mt x->∃u,us[i]?=Mt u/\RelV x u
 |_,_,_,_,.nil,e=>by simp at e|_,_,0,_,.cons r _,e=>by simp at e;subst e;exact⟨_,rfl,r⟩|_,_,i+1,x,.cons _ t,e=>by
  obtain⟨u,b,a⟩:=ak.get (i:=i) (x:=x) t (by simpa using e);exact⟨u,by simpa using b,a⟩
theorem ak.set{x:V}{u:Mv}(r:RelV x u):∀{xs:List V}{us:List Mv}(i:Nat),ak xs us->ak (xs.set i x) (us.set i u)
 |_,_,_,.nil=>.nil|_,_,0,.cons _ t=>.cons r t|_,_,i+1,.cons q t=>.cons q (ak.set r i t)
theorem ak.append:∀{xs ys:List V}{us a:List Mv},ak xs us->ak ys a->ak (xs++ys) (us++a)
 |_,_,_,_,.nil,s=>s|_,_,_,_,.cons r t,s=>.cons r (ak.append t s)
theorem ak.take:∀{xs:List V}{us:List Mv}(n:Nat),ak xs us->ak (xs.take n) (us.take n)
 |_,_,0,_=>.nil|_,_,_+1,.nil=>.nil|_,_,n+1,.cons r t=>.cons r (ak.take n t)
theorem ak.drop:∀{xs:List V}{us:List Mv}(n:Nat),ak xs us->ak (xs.drop n) (us.drop n)
 |_,_,0,r=>r|_,_,_+1,.nil=>.nil|_,_,n+1,.cons _ t=>ak.drop n t
noncomputable def jD:Option V->Option Mv->Prop
 |some v,Mt u=>RelV v u|none,MA=>True|_,_=>False
noncomputable def KV{a:Type}:List (a×V)->List (a×Mv)->Prop:=Paired λ(p:a×V)(q:a×Mv)=>p.1=q.1/\RelV p.2 q.2
noncomputable def kV:Key->V
 |.inl i=>.int i|.inr x=>.str x
inductive HO where|lst(xs:List V)|tup(xs:List V)|dK(kvs:List (Key×V))|dT(kvs:List (List Key×V))|set(S:Int->Bool)(n:Nat)|ins(C dx:MD)(fs:List (M3×V))|own(x:MD)|xd(fs:List (M3×V))|met(f x:MD)|Jw(lo hi:Int)|bo(o:NF)(u:HO)|t9(ps:Array Mv)|ext(φ:Na->Prop)
noncomputable abbrev Hp:=MD->Option HO
noncomputable def upd(H:Hp)(a:MD)(o:HO):Hp:=λb=>if b=a then Mt o else H b
theorem ah{H:Hp}{a:MD}{o:HO}:upd H a o a=Mt o:=by unfold upd;rw[if_pos rfl]
theorem ai{H:Hp}{a b:MD}{o:HO}(h:b≠a):upd H a o b=H b:=by unfold upd;rw[if_neg h]
theorem aT{H:Hp}{a:MD}{o u:HO}:upd (upd H a o) a u=upd H a u:=by funext b;unfold upd;split<;>rfl
theorem ar{H:Hp}{a b:MD}{o:HO}(h:H a=Mt o)(h':H b=MA):a≠b:=by intro e;subst e;rw[h]at h';cases h'
section
variable(P:MX)(w:M_)
noncomputable def aQ(H:Hp)(h:Na)(a:MD):HO->Prop
 |.lst d=>d.length<=MP/\∃(c:List Mv)(n:Nat),ak d c/\h.get? a=Mt {cls:=.type "list",data:=.seq c.toArray n}|.tup d=>d.length<=MP/\∃c:List Mv,ak d c/\V6 h a c.toArray|.dK b=>b.length<=MP/\(a==Pn)=My/\∃j,KV b j/\h.DictOf (ao P w) a j|.dT b=>b.length<=MP/\(a==Pn)=My/\∃d:List (List Key×MD×Mv),Paired (λ(p:List Key×V)(q:List Key×MD×Mv)=>p.1=q.1/\H q.2.1=Mt (.tup (p.1.map kV))/\RelV p.2 q.2.2) b d/\∃o m s,h.get? a=Mt o/\o.ExactDict/\o.data=.dict m s/\m.toList=d.map (Wi (RY (ao P w)))/\(d.map (·.1)).Nodup|.set S n=>h.SetOf (NS P w) a S n|.ins C g fs=>H g=Mt (.own a)/\fs.length<=1000/\g≠a/\h.get? a=Mt (Uu C g)/\∃e,h.Ns1 g e/\(∀f,jD (fs.lookup f) (e f))/\PySem.Within e (fs.map (·.1))|.own _=>∃o,h.get? a=Mt o|.xd fs=>∃e,h.Ns1 a e/\∀f,jD (fs.lookup f) (e f)|.Jw lo r=>∃t u v,h.get? a=Mt {cls:=.type "range",data:=.fields #[.int lo t,.int r u,.int 1 v]}|.bo o u=>h.get? a=Mt o/\aQ H h a u|.t9 ps=>h.get? a=Mt {cls:=.none,data:=.fields ps}|.met f x=>h.get? a=Mt (Te (.ref f) (.ref x))|.ext i=>i h/\(∃o,h.get? a=Mt o)/\∀l k:Na,i l->(∀o,l.get? a=Mt o->k.get? a=Mt o)->i k
noncomputable def fH(H:Hp)(h:Na):Prop:=∀a o,H a=Mt o->aQ P w H h a o
end
section
variable{P:MX}{w:M_}{H H':Hp}{h h':Na}{a:MD}{o:HO}
theorem aQ.lt(x:aQ P w H h a o):a<h.objs.size:=by cases o with
 |lst c=>obtain⟨_,_,_,_,e⟩:=x;exact MH e|tup c=>obtain⟨_,_,_,p⟩:=x;exact p.lt|dK b=>obtain⟨_,_,_,_,o,_,_,e,_⟩:=x;exact MH e|dT b=>obtain⟨_,_,_,_,o,_,_,e,_⟩:=x;exact MH e|set S n=>obtain⟨o,_,_,_,e,_⟩:=x;exact MH e|ins C i fs=>obtain⟨_,_,_,e,_⟩:=x;exact MH e|own y=>obtain⟨_,e⟩:=x;exact MH e|xd fs=>obtain⟨_,⟨_,_,_,e,_⟩,_⟩:=x;exact MH e|Jw lo g=>obtain⟨_,_,_,e⟩:=x;exact MH e|bo ob u=>obtain⟨e,_⟩:=x;exact MH e|t9 ps=>exact MH (show h.get? a=Mt _ from x)|met f y=>exact MH (show h.get? a=Mt _ from x)|ext d=>obtain⟨_,⟨_,e⟩,_⟩:=x;exact MH e
theorem Paired.Cz{d c:Type}{F G:d->c->Prop}:∀{l₁:List d}{l₂:List c},Paired F l₁ l₂->(∀a b,F a b->G a b)->Paired G l₁ l₂
 |_,_,.nil,_=>.nil|_,_,.cons r t,f=>.cons (f _ _ r) (Paired.Cz t f)
theorem aQ.fw(x:aQ P w H h a o)(k:∀b u,(b=a\/H b=Mt (.own a))->h.get? b=Mt u->h'.get? b=Mt u)(E:∀b,H b=Mt (.own a)->H' b=Mt (.own a))(D:∀b xs,H b=Mt (.tup xs)->H' b=Mt (.tup xs)):aQ P w H' h' a o:=by induction o with
 |lst xs=>obtain⟨z,j,n,r,e⟩:=x;exact⟨z,j,n,r,k _ _ (.inl rfl) e⟩|tup xs=>obtain⟨z,j,r,ob,e,c⟩:=x;exact⟨z,j,r,ob,k _ _ (.inl rfl) e,c⟩|dK s=>obtain⟨z,y,A,r,ob,g,i,e,c⟩:=x;exact⟨z,y,A,r,ob,g,i,k _ _ (.inl rfl) e,c⟩|dT s=>
  obtain⟨z,y,xs,r,ob,g,i,e,c⟩:=x;exact⟨z,y,xs,Paired.Cz r λp q z=>⟨z.1,D _ _ z.2.1,z.2.2⟩,ob,g,i,k _ _ (.inl rfl) e,c⟩|set S n=>obtain⟨ob,g,i,t,e,c⟩:=x;exact⟨ob,g,i,t,k _ _ (.inl rfl) e,c⟩|ins C I fs=>
  obtain⟨d,z,ne,e,m,⟨l,g,i,e2,c⟩,r⟩:=x;exact⟨E _ d,z,ne,k _ _ (.inl rfl) e,m,⟨l,g,i,k _ _ (.inr d) e2,c⟩,r⟩|own y=>obtain⟨ob,e⟩:=x;exact⟨ob,k _ _ (.inl rfl) e⟩|xd fs=>obtain⟨m,⟨l,g,i,e,c⟩,r⟩:=x;exact⟨m,⟨l,g,i,k _ _ (.inl rfl) e,c⟩,r⟩|Jw lo G=>obtain⟨t,u,v,e⟩:=x;exact⟨t,u,v,k _ _ (.inl rfl) e⟩|bo ob u B=>obtain⟨e,q⟩:=x;exact⟨k _ _ (.inl rfl) e,B q⟩|t9 ps=>
  have e:h.get? a=Mt {cls:=.none,data:=.fields ps}:=x;show h'.get? a=Mt {cls:=.none,data:=.fields ps};exact k a _ (.inl rfl) e|met f y=>
  have e:h.get? a=Mt (Te (.ref f) (.ref y)):=x;show h'.get? a=Mt (Te (.ref f) (.ref y));exact k a _ (.inl rfl) e|ext F=>obtain⟨p,⟨o,e⟩,st⟩:=x;exact⟨st _ _ p λo q=>k _ _ (.inl rfl) q,⟨o,k _ _ (.inl rfl) e⟩,st⟩
theorem fH.lt(x:fH P w H h)(e:H a=Mt o):a<h.objs.size:=(x a o e).lt
theorem fH.fresh(x:fH P w H h)(e:h.objs.size<=a):H a=MA:=by cases q:H a with
 |none=>rfl|some u=>exact absurd (M7 (x.lt q) e) (Nh _)
theorem fH.kept(x:fH P w H h)(k:∀b u,h.get? b=Mt u->h'.get? b=Mt u):fH P w H h':=λa o e=>(x a o e).fw (λb u _ q=>k b u q) (λ_ q=>q) λ_ _ q=>q
theorem fH.laid(x:fH P w H h)(k:∀b u,h.get? b=Mt u->h'.get? b=Mt u)(g:h.objs.size<=a)(new:aQ P w (upd H a o) h' a o):fH P w (upd H a o) h':=λb u e=>by
 have d:=x.fresh g;by_cases f:b=a;.subst f;rw[ah]at e;cases e;exact new
 .rw[ai f]at e;exact(x b u e).fw (λc v _ q=>k c v q) (λc q=>by rw[ai (ar q d)];exact q) λc i q=>by rw[ai (ar q d)];exact q
end
noncomputable def Rd(H:Hp)(a:MD)(u:HO):Prop:=H a=Mt u\/∃o,H a=Mt (.bo o u)
theorem Rd.ok{P:MX}{w:M_}{H:Hp}{h:Na}{a:MD}{u:HO}(r:Rd H a u)(x:fH P w H h):aQ P w H h a u:=by
 rcases r with r|⟨o,r⟩;.exact x a u r
 .obtain⟨_,q⟩:=x a _ r;exact q
noncomputable def IY:Option HO->Prop
 |some (.lst _)=>True|some (.dK _)=>True|some (.dT _)=>True|some (.set _ _)=>True|some (.ins _ _ _)=>True|some (.ext _)=>True|_=>False
section
variable{P:MX}{w:M_}{H:Hp}{h h':Na}{x e:MD}{o':HO}
theorem fH.write(ok:fH P w H h)(i:IY (H x))(o:e=x\/H e=Mt (.own x))(k:∀b u,b≠e->h.get? b=Mt u->h'.get? b=Mt u)(m:∃u,h'.get? e=Mt u)(new:aQ P w (upd H x o') h' x o'):fH P w (upd H x o') h':=λb u q=>by
 have d:∀c y,H c=Mt (.own y)->c≠x:=λc y r z=>by subst z;rw[r]at i;exact i
 have f:∀c g,H c=Mt (.tup g)->c≠x:=λc g r z=>by subst z;rw[r]at i;exact i
 by_cases l:b=x;.subst l;rw[ah]at q;cases q;exact new
 .rw[ai l]at q;by_cases a:b=e
  .have n:H b=Mt (.own x):=by
    rcases o with z|z;.exact absurd (a.trans z) l
    .rw[a];exact z
   rw[q]at n;cases n;obtain⟨v,p⟩:=m;exact⟨v,by rw[a];exact p⟩
  .refine(ok b u q).fw (λc v j r=>k c v ?_ r) (λc r=>by rw[ai (d c b r)];exact r) λc g r=>by rw[ai (f c g r)];exact r
   rcases j with rfl|j;.exact a
   .rintro rfl;rcases o with z|z;.exact d c b j z
    .rw[j]at z;cases z;exact l rfl
end
structure Un(fs ex:List MD)(H H':Hp)(h h':Na):Prop where
 keep:∀b o,h.get? b=Mt o->H b=MA->b∉fs->b∉ex->h'.get? b=Mt o
 slot:∀b o,h.get? b=Mt o->H b=MA->b∈fs->b∉ex->∃sl,h'.get? b=Mt {o with slots:=sl}free:∀b o,h.get? b=Mt o->H b=MA->b∉ex->H' b=MA
 there:∀b o,h.get? b=Mt o->b∉ex->∃o',h'.get? b=Mt o'
 fx:∀b xs,H b=Mt (.tup xs)->H' b=Mt (.tup xs)eB:∀b o u,H b=Mt (.bo o u)->H' b=Mt (.bo o u)fy:∀b ps,H b=Mt (.t9 ps)->∃more,H' b=Mt (.t9 (ps++more))
section
variable{fs fs' ex ex':List MD}{H H1 H2:Hp}{h h1 h2 h':Na}{a x e:MD}{o:HO}
theorem Un.any(u:Un fs ex H H1 h h1){b:MD}{ob:NF}(q:h.get? b=Mt ob)(n:H b=MA)(c:b∉ex):∃f,h1.get? b=Mt {ob with slots:=f}:=by
 by_cases d:b∈fs;.exact u.slot b ob q n d c
 .exact⟨ob.slots,u.keep b ob q n d c⟩
theorem Un.kept(k:∀b u,h.get? b=Mt u->h'.get? b=Mt u):Un fs ex H H h h':=⟨λb ob q _ _ _=>k b ob q,λb ob q _ _ _=>⟨ob.slots,k b ob q⟩,λ_ _ _ n _=>n,λb ob q _=>⟨ob,k b ob q⟩,λ_ _ q=>q,λ_ _ _ q=>q,λ_ ps q=>⟨#[],by rw[q];simp⟩⟩
theorem Un.refl:Un fs ex H H h h:=Un.kept λ_ _ q=>q
theorem Un.laid(k:∀b u,h.get? b=Mt u->h'.get? b=Mt u)(f:h.objs.size<=a)(c:H a=MA):Un fs ex H (upd H a o) h h' where
 keep:=λb u q _ _ _=>k b u q;slot:=λb u q _ _ _=>⟨u.slots,k b u q⟩;free:=λb u q n _=>by rw[ai (M4 (M7 (MH q) f))];exact n
 there:=λb u q _=>⟨u,k b u q⟩;fx:=λb d q=>by rw[ai (ar q c)];exact q
 eB:=λb u d q=>by rw[ai (ar q c)];exact q
 fy:=λb ps q=>⟨#[],by rw[ai (ar q c),q];simp⟩
theorem Un.write(d:IY (H x))(m:e=x\/H e=Mt (.own x))(k:∀b u,b≠e->h.get? b=Mt u->h'.get? b=Mt u)(g:∃u,h'.get? e=Mt u):Un fs ex H (upd H x o) h h':=by
 have i:∀b,H b=MA->b≠x:=λb n z=>by subst z;rw[n]at d;exact d
 have j:∀b,H b=MA->b≠e:=λb n z=>by
  subst z;rcases m with r|r;.exact i b n r
  .rw[n]at r;cases r
 have f:∀b u,H b=Mt u->¬IY (Mt u)->b≠x:=λb u q nm z=>by subst z;rw[q]at d;exact nm d
 refine⟨λb u q n _ _=>k b u (j b n) q,λb u q n _ _=>⟨u.slots,k b u (j b n) q⟩,λb u q n _=>by rw[ai (i b n)];exact n,λb u q _=>?_,λb l q=>by rw[ai (f b _ q λz=>z)];exact q,λb u l q=>by rw[ai (f b _ q λz=>z)];exact q,λb ps q=>⟨#[],by rw[ai (f b _ q λz=>z),q];simp⟩⟩;by_cases c:b=e;.subst c;exact g
 .exact⟨u,k b u c q⟩
end
noncomputable def IZ(h:Na)(H:Hp):List MD:=(N6 h.objs.size).filter λa=>(H a).isSome
noncomputable def mD(h:Na)(H:Hp):Na:=PySem.W.hideAll h (IZ h H)
theorem t_(h:Na)(H:Hp):(mD h H).objs.size=h.objs.size:=PySem.W.hideAll_size _ _
theorem vL{h:Na}{H:Hp}{b:MD}{o:NF}(e:h.get? b=Mt o)(n:H b=MA):(mD h H).get? b=Mt o:=PySem.W.hideAll_get _ e λa=>by
  have q:(H b).isSome=Mz:=(List.mem_filter.mp a).2;rw[n]at q;simp at q
theorem zr{h:Na}{H:Hp}{b:MD}{o:NF}(e:(mD h H).get? b=Mt o):h.get? b=Mt o/\H b=MA:=by
 have a:h.get? b=Mt o:=PySem.W.of_hideAll (IZ h H) e;refine⟨a,?_⟩;cases q:H b with
 |none=>rfl|some x=>
  have c:b∈IZ h H:=List.mem_filter.mpr ⟨List.mem_range.mpr (MH a),by simp[q]⟩;have z:(mD h H).get? b=MA:=PySem.W.hideAll_none (IZ h H) c;rw[z]at e;cases e
end L2
namespace L2
open PySem PySem.Spec PyProof.Rows
structure Mod(K:ME)(mg:M3->Option Mv)(base:Na):Prop where
 zt:K.In base
 glob:base.Ns NA mg
 blt:∃mb,base.Ns Vk mb/\∀x:M3,x≠"__name__"->mb x=OB x
 nolimit:base.NoLimit
structure Cx where
 prog:MX
 w:M_
 K:ME
 mg:M3->Option Mv
 base:Na
 A:Nc
 N:List M3
 bA:Mx
 fJ:Hp
 env:Sl
 outer:List Sl
 stack:List Sl
 ex:List MD
 fn:M3->Bool
 calm:Bool
 pn:List (MD×NF)xe:Mv->Mx->Prop
noncomputable def fA(l:List Sl):List MD:=l.filterMap (·.frame)
noncomputable abbrev Cx.fs(X:Cx):List MD:=fA X.outer
noncomputable def n6(sc:OJ)(x:M3):Prop:=sc.names.lookup x=Mt .local\/sc.names.lookup x=Mt .cell\/sc.names.lookup x=Mt .free
noncomputable def Loc(sc:OJ)(x:M3):Prop:=sc.names.lookup x=Mt .local\/sc.names.lookup x=Mt .cell
noncomputable def Look(env:Sl)(h:Na)(m:M3->Option Mv)(x:M3)(u:Mv):Prop:=(env.kindOf x=Mt .local/\m x=Mt u)\/((env.kindOf x=Mt .cell\/env.kindOf x=Mt .free)/\∃c,env.cells.lookup x=Mt c/\h.IsCell c (Mt u))
structure Cx.Ok(X:Cx):Prop where
 mod:Mod X.K X.mg X.base
 kind:X.env.scope.kind=.function
 glob:X.env.globals=NA
 blt:X.env.builtins=Vk
 above:X.bA.heap.objs.size<=X.env.locals
 inj:∀x y c,X.env.cells.lookup x=Mt c->X.env.cells.lookup y=Mt c->x=y
 has:∀x,(X.env.kindOf x=Mt .cell\/X.env.kindOf x=Mt .free)->∃c,X.env.cells.lookup x=Mt c
 CA:∀x c,X.fn x=Mz->X.env.cells.lookup x=Mt c->X.bA.heap.objs.size<=c
 hd:X.calm=Mz->X.A.handled=MA
 frames:X.A.frames=Mt X.stack
 Fu:X.stack=X.outer\/(X.stack=X.env::X.outer/\X.env.frame=Mt X.env.locals)I_:∀b∈X.ex,b≠X.env.locals/\∀x c,X.env.cells.lookup x=Mt c->c≠b
 bs:∀b o,X.base.get? b=Mt o->X.bA.heap.get? b=Mt o/\X.fJ b=MA
 vM:X.base.objs.size<=X.bA.heap.objs.size
 qu:∀b o,X.base.get? b=Mt o->b∉X.ex
 ua:∀b∈X.ex,b∉X.fs
 gi:X.bA.heap.FunFrames X.base X.outer
 zu:∀b∈X.fs,X.fJ b=MA
structure Inv(X:Cx)(pins:List (MD×NF))(σ:List (Option V))(H:Hp)(s:Mx):Prop where
 ok:X.Ok
 os:s.os=X.bA.os
 bare:R5 s.gens
 base:Un X.fs X.ex X.fJ H X.bA.heap s.heap
 loc:∃m,s.heap.Ns X.env.locals m/\∀(i:Nat)(x:M3)(v:V),X.N[i]?=Mt x->σ[i]?=Mt (Mt v)->n6 X.env.scope x->∃u,RelV v u/\Look X.env s.heap m x u
 cell:∀x c,X.env.cells.lookup x=Mt c->∃v,s.heap.IsCell c v
 free:H X.env.locals=MA
 bS:∀x c,X.env.cells.lookup x=Mt c->H c=MA
 pin:∀p∈X.pn++pins,s.heap.get? p.1=Mt p.2/\H p.1=MA/\p.1≠X.env.locals/\p.1∉X.fs/\∀v,p.2.data≠.cell v
 ay:fH X.prog X.w H s.heap
 len:σ.length=X.N.length
section
variable{X:Cx}{pins:List (MD×NF)}{σ:List (Option V)}{H H':Hp}{s:Mx}{h':Na}
theorem Cx.Ok.Jx(ok:X.Ok){b:MD}{o:NF}(e:X.base.get? b=Mt o):b∉X.fs:=λa=>by
 have:=(ok.gi.mem a).1;rw[e]at this;cases this
theorem Inv.bs(I:Inv X pins σ H s):∀b o,X.base.get? b=Mt o->s.heap.get? b=Mt o/\H b=MA:=λb o e=>⟨I.base.keep b o (I.ok.bs b o e).1 (I.ok.bs b o e).2 (I.ok.Jx e) (I.ok.qu b o e),I.base.free b o (I.ok.bs b o e).1 (I.ok.bs b o e).2 (I.ok.qu b o e)⟩
theorem Inv.bk(I:Inv X pins σ H s):∀b o,X.base.get? b=Mt o->s.heap.get? b=Mt o:=λb o e=>(I.bs b o e).1
theorem Inv.mod(I:Inv X pins σ H s):Mod X.K X.mg X.base:=I.ok.mod
theorem Inv.fB(I:Inv X pins σ H s):X.K.In s.heap:=I.ok.mod.zt.keeps I.bk
theorem Inv.lt(I:Inv X pins σ H s):X.env.locals<s.heap.objs.size:=let⟨_,a,_⟩:=I.loc;a.lt
theorem Inv.sz(I:Inv X pins σ H s):X.bA.heap.objs.size<=s.heap.objs.size:=Nw I.ok.above (Ss I.lt)
theorem Inv.zw(I:Inv X pins σ H s){a:MD}(h:s.heap.objs.size<=a):a∉X.fs:=λc=>by
 obtain⟨_,o,b,_⟩:=I.ok.gi.mem c;exact absurd (M7 (MH b) (Nw I.sz h)) (Nh _)
theorem Inv.vN(I:Inv X pins σ H s):∀x c,X.env.cells.lookup x=Mt c->c≠X.env.locals:=λx c e z=>by
 obtain⟨v,o,d,hd⟩:=I.cell x c e;obtain⟨m,⟨f,g,h,a,b,_⟩,_⟩:=I.loc;rw[z,a]at d;cases d;rw[b]at hd;cases hd
theorem Inv.gi(I:Inv X pins σ H s):s.heap.FunFrames X.base X.outer:=by
 have all:∀(l:List Sl),(∀b∈fA l,b∈X.fs)->X.bA.heap.FunFrames X.base l->s.heap.FunFrames X.base l:=by
  intro l;induction l with
  |nil=>intro _ _;trivial|cons env r g=>
   intro f k;obtain⟨m,⟨L,o,a,j,i,hd⟩,h⟩:=k;have d:L∈X.fs:=f L (by unfold fA;rw[OX,a];exact MG);obtain⟨n,e⟩:=I.base.slot L o i (I.ok.zu L d) d λz=>I.ok.ua L z d;exact⟨m,⟨L,_,a,j,e,hd⟩,g (λb c=>f b (by unfold fA;rw[OX,a];exact MM _ c)) h⟩
 exact all X.outer (λ_ c=>c) I.ok.gi
theorem Inv.stack(I:Inv X pins σ H s):s.heap.FunFrames X.base X.stack:=by
 rcases I.ok.Fu with e|⟨e,b⟩;.rw[e];exact I.gi
 .rw[e];obtain⟨m,a,_⟩:=I.loc;refine .cons (by rw[I.ok.kind];decide) b a ?_ I.gi;exact Heap.get?_none_of_le (Nw I.ok.vM I.ok.above)
theorem Inv.fK(I:Inv X pins σ H s):∀b∈fA X.stack,b∈X.env.locals::X.fs:=λb a=>by
 rcases I.ok.Fu with e|⟨e,c⟩;.rw[e]at a;exact MM _ a
 .rw[e]at a;unfold fA at a;rw[OX,c]at a;exact a
theorem Inv.ji(I:Inv X pins σ H s):∀b∈fA X.stack,H b=MA:=λb a=>by
 rcases List.mem_cons.mp (I.fK b a)with e|a;.rw[e];exact I.free
 .obtain⟨_,o,c,_⟩:=I.ok.gi.mem a;exact I.base.free b o c (I.ok.zu b a) λz=>I.ok.ua b z a
theorem Inv.step{g':Array RK}{t':Nat}{d':Wj}{ch:List MD}(I:Inv X pins σ H s)(g:∀b∈ch,(b∈X.ex\/X.bA.heap.objs.size<=b)/\b≠X.env.locals/\(∀x c,X.env.cells.lookup x=Mt c->c≠b)/\∀p∈X.pn++pins,p.1≠b)(keep:∀b o,b≠X.env.locals->b∉X.fs->b∉ch->s.heap.get? b=Mt o->H b=MA->h'.get? b=Mt o)(slot:∀b o,b≠X.env.locals->b∈X.fs->b∉ch->s.heap.get? b=Mt o->H b=MA->∃E,h'.get? b=Mt {o with slots:=E})(free:∀b o,b∉ch->s.heap.get? b=Mt o->H b=MA->H' b=MA)(there:∀b o,b∉ch->s.heap.get? b=Mt o->∃o',h'.get? b=Mt o')(fx:∀b xs,H b=Mt (.tup xs)->H' b=Mt (.tup xs))(eB:∀b o u,H b=Mt (.bo o u)->H' b=Mt (.bo o u))(fy:∀b ps,H b=Mt (.t9 ps)->∃B,H' b=Mt (.t9 (ps++B)))(ns:∀m,s.heap.Ns X.env.locals m->h'.Ns X.env.locals m)(ay:fH X.prog X.w H' h')(O:R5 g'):Inv X pins σ H' {s with heap:=h',gens:=g',drawn:=d',toks:=t'}:=by
 have A:∀b o,X.bA.heap.get? b=Mt o->b≠X.env.locals:=λb o e=>M4 (M7 (MH e) I.ok.above);have j:∀b o,X.bA.heap.get? b=Mt o->b∉X.ex->b∉ch:=λb o e a t=>by
  rcases(g b t).1 with z|z;.exact a z
  .exact absurd (M7 (MH e) z) (Nh _)
 have h:∀x c,X.env.cells.lookup x=Mt c->∀v,s.heap.IsCell c v->h'.IsCell c v:=λx c e v C=>by
  obtain⟨o,y,hd⟩:=C;have f:c∉ch:=λz=>(g c z).2.2.1 x c e rfl;by_cases J:c∈X.fs
  .obtain⟨E,q⟩:=slot c o (I.vN x c e) J f y (I.bS x c e);exact⟨_,q,hd⟩
  .exact⟨o,keep c o (I.vN x c e) J f y (I.bS x c e),hd⟩
 refine⟨I.ok,I.os,O,⟨λb o e n t a=>?_,λb o e n t a=>?_,λb o e n a=>?_,λb o e a=>?_,λb xs e=>fx b xs (I.base.fx b xs e),λb o xs e=>eB b o xs (I.base.eB b o xs e),λb ps e=>?_⟩,?_,λx c e=>?_,?_,λx c e=>?_,λp G=>?_,ay,I.len⟩;.exact keep b o (A b o e) t (j b o e a) (I.base.keep b o e n t a) (I.base.free b o e n a)
 .obtain⟨E,e1⟩:=I.base.slot b o e n t a;obtain⟨D,e2⟩:=slot b _ (A b o e) t (j b o e a) e1 (I.base.free b o e n a);exact⟨D,e2⟩
 .obtain⟨o',e1⟩:=I.base.there b o e a;exact free b o' (j b o e a) e1 (I.base.free b o e n a)
 .obtain⟨o',e1⟩:=I.base.there b o e a;exact there b o' (j b o e a) e1
 .obtain⟨L,e1⟩:=I.base.fy b ps e;obtain⟨K,e2⟩:=fy b _ e1;exact⟨L++K,by rw[e2,Array.append_assoc]⟩
 .obtain⟨m,M,N⟩:=I.loc;refine⟨m,ns m M,λi x v e1 e2 e3=>?_⟩;obtain⟨u,r,l⟩:=N i x v e1 e2 e3;refine⟨u,r,?_⟩;rcases l with l|⟨k,c,e,z⟩;.exact .inl l
  .exact .inr ⟨k,c,e,h x c e _ z⟩
 .obtain⟨v,z⟩:=I.cell x c e;exact⟨v,h x c e v z⟩
 .obtain⟨m,⟨o,_,_,y,_⟩,_⟩:=I.loc;exact free _ o (λz=>(g _ z).2.1 rfl) y I.free
 .obtain⟨v,o,y,hd⟩:=I.cell x c e;exact free c o (λz=>(g c z).2.2.1 x c e rfl) y (I.bS x c e)
 .obtain⟨e,n,ne,F,d⟩:=I.pin p G;have f:p.1∉ch:=λz=>(g p.1 z).2.2.2 p G rfl;exact⟨keep p.1 p.2 ne F f e n,free p.1 p.2 f e n,ne,F,d⟩
theorem Inv.un{t':Nat}(I:Inv X pins σ H s)(u:Un X.fs [] H H' s.heap h')(ay:fH X.prog X.w H' h'):Inv X pins σ H' {s with heap:=h',toks:=t'}:=by
 obtain⟨m,⟨o,q,t,g,r⟩,_⟩:=id I.loc;obtain⟨k,j⟩:=u.any g I.free (by simp);exact I.step (g':=s.gens) (d':=s.drawn) (ch:=[]) (λ_ z=>nomatch z) (λb o _ c _ e n=>u.keep b o e n c (by simp)) (λb o _ c _ e n=>u.slot b o e n c (by simp)) (λb o _ e n=>u.free b o e n (by simp)) (λb o _ e=>u.there b o e (by simp)) u.fx u.eB u.fy (λp i=>by
  obtain⟨l,d,f,a,h⟩:=i;rw[g]at a;cases a;exact⟨_,d,f,j,h⟩) ay I.bare
theorem Inv.call{g':Array RK}{t':Nat}{d':Wj}{ch:List MD}(I:Inv X pins σ H s)(u:Un (fA X.stack) ch H H' s.heap h')(ay:fH X.prog X.w H' h')(q:R5 g')(f:∀b∈ch,(b∈X.ex\/X.bA.heap.objs.size<=b)/\b≠X.env.locals/\(∀x c,X.env.cells.lookup x=Mt c->c≠b)/\∀p∈X.pn++pins,p.1≠b):Inv X pins σ H' {s with heap:=h',gens:=g',drawn:=d',toks:=t'}:=by
 obtain⟨m,⟨o,B,C,j,r⟩,_⟩:=id I.loc;obtain⟨v,g⟩:=u.any j I.free λz=>(f _ z).2.1 rfl;exact I.step (ch:=ch) f (λb o g t a e n=>u.keep b o e n (λz=>(List.mem_cons.mp (I.fK b z)).elim g t) a) (λb o _ _ a e n=>u.any e n a) (λb o a e n=>u.free b o e n a) (λb o a e=>u.there b o e a) u.fx u.eB u.fy (λA l=>by
  obtain⟨y,h,i,d,k⟩:=l;rw[j]at d;cases d;exact⟨_,h,i,g,k⟩) ay q
theorem Inv.turned{t':Nat}{it:MD}(I:Inv X pins σ H s)(k:∀b o,b≠it->s.heap.get? b=Mt o->h'.get? b=Mt o)(h:H it=MA)(f:it≠X.env.locals)(w:it∈X.ex\/X.bA.heap.objs.size<=it)(t:∀x c,X.env.cells.lookup x=Mt c->c≠it)(l:∀p∈X.pn++pins,p.1≠it):Inv X pins σ H {s with heap:=h',toks:=t'}:=by
 have d:∀b u,H b=Mt u->b≠it:=λb u e z=>by rw[z,h]at e;cases e
 refine I.step (g':=s.gens) (d':=s.drawn) (ch:=[it]) (λb j=>?_) (λb o _ _ a e _=>k b o (λz=>a (by simp[z])) e) (λb o _ _ a e _=>⟨o.slots,k b o (λz=>a (by simp[z])) e⟩) (λ_ _ _ _ n=>n) (λb o a e=>⟨o,k b o (λz=>a (by simp[z])) e⟩) (λ_ _ e=>e) (λ_ _ _ e=>e) (λb ps e=>⟨#[],by rw[e];simp⟩) (λm i=>?_) (λb u e=>?_) I.bare
 .have e:b=it:=by simpa using j
  subst e;exact⟨w,f,t,l⟩
 .obtain⟨o,y,A,g,r⟩:=i;exact⟨o,y,A,k _ o (NO f) g,r⟩
 .refine(I.ay b u e).fw (λc v a q=>k c v ?_ q) (λ_ q=>q) λ_ _ q=>q;rcases a with z|z;.rw[z];exact d b u e
  .exact d c _ z
theorem Inv.tok(I:Inv X pins σ H s)(t:Nat):Inv X pins σ H {s with toks:=t}:=I.un (h':=s.heap) (t':=t) Un.refl I.ay
theorem Inv.kept{t':Nat}(I:Inv X pins σ H s)(k:∀b u,s.heap.get? b=Mt u->h'.get? b=Mt u):Inv X pins σ H {s with heap:=h',toks:=t'}:=I.un (Un.kept k) (I.ay.kept k)
theorem Inv.laid{a:MD}{o:HO}{t':Nat}(I:Inv X pins σ H s)(k:∀b u,s.heap.get? b=Mt u->h'.get? b=Mt u)(c:s.heap.objs.size<=a)(new:aQ X.prog X.w (upd H a o) h' a o):Inv X pins σ (upd H a o) {s with heap:=h',toks:=t'}:=I.un (Un.laid k c (I.ay.fresh c)) (I.ay.laid k c new)
theorem Inv.write{x e:MD}{o:HO}{t':Nat}(I:Inv X pins σ H s)(c:IY (H x))(d:e=x\/H e=Mt (.own x))(k:∀b u,b≠e->s.heap.get? b=Mt u->h'.get? b=Mt u)(a:∃u,h'.get? e=Mt u)(new:aQ X.prog X.w (upd H x o) h' x o):Inv X pins σ (upd H x o) {s with heap:=h',toks:=t'}:=I.un (Un.write c d k a) (I.ay.write c d k a new)
theorem Inv.dk{pins':List (MD×NF)}(I:Inv X pins σ H s)(h:∀p∈pins',s.heap.get? p.1=Mt p.2/\H p.1=MA/\p.1≠X.env.locals/\p.1∉X.fs/\∀v,p.2.data≠.cell v):Inv X pins' σ H s:=⟨I.ok,I.os,I.bare,I.base,I.loc,I.cell,I.free,I.bS,λp a=>(List.mem_append.mp a).elim (λz=>I.pin p (Ox _ z)) (h p),I.ay,I.len⟩
theorem jE{N:List M3}(hN:N.Nodup){i j:Nat}{x:M3}(a:N[i]?=Mt x)(b:N[j]?=Mt x):i=j:=by
 obtain⟨d,e1⟩:=List.getElem?_eq_some_iff.mp a;obtain⟨c,e2⟩:=List.getElem?_eq_some_iff.mp b;exact(List.getElem_inj hN).mp (e1.trans e2.symm)
theorem uc{M:RL}{A:Nc}{E:Mv->Mx->Prop}{i:Nat}{x:M3}{v:V}{u:Mv}{Q:Unit->Mx->Prop}(I:Inv X pins σ H s)(hN:X.N.Nodup)(O:X.N[i]?=Mt x)(t:Loc X.env.scope x)(r:RelV v u)(h:∀s',Inv X pins (σ.set i (Mt v)) H s'->(∃a,NW a s.heap s'.heap/\(a=X.env.locals\/X.env.cells.lookup x=Mt a))->Q () s')(hf:X.fn x=Mz\/X.env.scope.names.lookup x=Mt .local:=by first|exact .inl rfl|exact .inr rfl|assumption):wpAny M A (storeName X.env x u) Q E s:=by
 obtain⟨m,hn,hl⟩:=id I.loc;have P:(X.env.scope.kind==.class||(X.env.scope.kind==.module&&X.env.locals !=X.env.globals))=My:=by rw[I.ok.kind];rfl
 have D:i<σ.length:=by rw[I.len];exact(List.getElem?_eq_some_iff.mp O).1
 have vN:=I.vN;have g:∀{a:MD}{h':Na},(∃o,s.heap.get? a=Mt o/\H a=MA)->NW a s.heap h'->fH X.prog X.w H h':=λ{a h'}ha f b ob e=>by
  obtain⟨_,_,B⟩:=ha;refine(I.ay b ob e).fw (λc T l q=>(f.2 c ?_).trans q) (λ_ q=>q) λ_ _ q=>q;rintro rfl;rcases l with rfl|l;.rw[B]at e;cases e
  .rw[B]at l;cases l
 rcases t with C|C
 .refine wpAny_storeName_local C hn (λh' a1 f=>?_) P;obtain⟨oL,_,_,a0,_⟩:=id hn;refine h _ ⟨I.ok,I.os,I.bare,⟨λb o e n J t=>?_,λb o e n J t=>?_,I.base.free,λb o e t=>?_,I.base.fx,I.base.eB,I.base.fy⟩,⟨_,a1,λj y W e1 e2 e3=>?_⟩,λy c e=>?_,I.free,I.bS,λp hp=>?_,g ⟨oL,a0,I.free⟩ f,by simpa using I.len⟩ ⟨_,f,.inl rfl⟩;.exact(f.2 b (M4 (M7 (MH e) I.ok.above))).trans (I.base.keep b o e n J t)
  .obtain⟨Z,e1⟩:=I.base.slot b o e n J t;exact⟨Z,(f.2 b (M4 (M7 (MH e) I.ok.above))).trans e1⟩
  .obtain⟨o',e1⟩:=I.base.there b o e t;exact⟨o',(f.2 b (M4 (M7 (MH e) I.ok.above))).trans e1⟩
  .by_cases F:j=i
   .subst F;rw[O]at e1;cases e1;rw[RM D]at e2;cases e2;exact⟨u,r,.inl ⟨C,by simp⟩⟩
   .rw[UL (NO F)]at e2;obtain⟨Y,r',q⟩:=hl j y W e1 e2 e3;refine⟨Y,r',?_⟩;rcases q with⟨k,e⟩|⟨k,c,e,z⟩
    .refine .inl ⟨k,?_⟩;have:y≠x:=λe=>F (jE hN e1 (e▸O));simp[this,e]
    .exact .inr ⟨k,c,e,z.sameBut f (vN y c e)⟩
  .obtain⟨T,z⟩:=I.cell y c e;exact⟨T,z.sameBut f (vN y c e)⟩
  .obtain⟨e,n,ne,nf,d⟩:=I.pin p hp;exact⟨(f.2 p.1 ne).trans e,n,ne,nf,d⟩
 .have G:X.fn x=Mz:=by
   rcases hf with z|z;.exact z
   .rw[z]at C;cases C
  obtain⟨c,l⟩:=I.ok.has x (.inl C);obtain⟨T,z⟩:=I.cell x c l;refine wpAny_storeName_cell I.ok.kind C l z (λh' S f=>?_);obtain⟨oc,L,K⟩:=id z;refine h {s with heap:=h'} ⟨I.ok,I.os,I.bare,⟨λb o e n J t=>?_,λb o e n J t=>?_,I.base.free,λb o e t=>?_,I.base.fx,I.base.eB,I.base.fy⟩,⟨m,hn.sameBut f (NO (vN x c l)),λj y W e1 e2 e3=>?_⟩,λy U e=>?_,I.free,I.bS,λp hp=>?_,g ⟨oc,L,I.bS x c l⟩ f,by simpa using I.len⟩ ⟨c,f,.inr l⟩;.exact(f.2 b (M4 (M7 (MH e) (I.ok.CA x c G l)))).trans (I.base.keep b o e n J t)
  .obtain⟨Z,e1⟩:=I.base.slot b o e n J t;exact⟨Z,(f.2 b (M4 (M7 (MH e) (I.ok.CA x c G l)))).trans e1⟩
  .obtain⟨o',e1⟩:=I.base.there b o e t;exact⟨o',(f.2 b (M4 (M7 (MH e) (I.ok.CA x c G l)))).trans e1⟩
  .by_cases F:j=i
   .subst F;rw[O]at e1;cases e1;rw[RM D]at e2;cases e2;exact⟨u,r,.inr ⟨.inl C,c,l,S⟩⟩
   .rw[UL (NO F)]at e2;obtain⟨Y,r',q⟩:=hl j y W e1 e2 e3;refine⟨Y,r',?_⟩;rcases q with q|⟨k,U,e,z'⟩;.exact .inl q
    .refine .inr ⟨k,U,e,z'.sameBut f ?_⟩;rintro rfl;exact F (jE hN e1 (I.ok.inj _ _ _ e l▸O))
  .by_cases R:U=c;.subst R;exact⟨_,S⟩
   .obtain⟨w2,z2⟩:=I.cell y U e;exact⟨w2,z2.sameBut f R⟩
  .obtain⟨e,n,ne,nf,d⟩:=I.pin p hp;refine⟨(f.2 p.1 ?_).trans e,n,ne,nf,d⟩;intro q;rw[q,L]at e;have q':oc=p.2:=MI e;exact d T (by rw[<-q'];exact K)
theorem gj{M:RL}{A:Nc}{E:Mv->Mx->Prop}{i:Nat}{x:M3}{v:V}{u:Mv}{Q:Unit->Mx->Prop}(I:Inv X pins σ H s)(hN:X.N.Nodup)(b:X.N[i]?=Mt x)(a:Loc X.env.scope x)(r:RelV v u)(h:∀s',Inv X pins (σ.set i (Mt v)) H s'->Q () s')(c:X.fn x=Mz\/X.env.scope.names.lookup x=Mt .local:=by first|exact .inl rfl|exact .inr rfl|assumption):wpAny M A (storeName X.env x u) Q E s:=uc I hN b a r (λs' d _=>h s' d) c
theorem Inv.sC{s':Mx}{ch:List MD}(I:Inv X pins σ H s)(f:s'.os=s.os)(u:Un (fA X.stack) ch H H' s.heap s'.heap)(ay:fH X.prog X.w H' s'.heap)(g:R5 s'.gens)(a:∀b∈ch,(b∈X.ex\/X.bA.heap.objs.size<=b)/\b≠X.env.locals/\(∀x c,X.env.cells.lookup x=Mt c->c≠b)/\∀p∈X.pn++pins,p.1≠b):Inv X pins σ H' s':=by
 obtain⟨h',g',d',t',d⟩:=s';have e:d=s.os:=f;subst e;exact I.call (g':=g') (t':=t') (d':=d') u ay g a
end
noncomputable abbrev XK:=Mv->Option MD->Hp->Prop
noncomputable abbrev St:=List (Option V)
noncomputable abbrev VK:=V->Hp->Prop
noncomputable abbrev TE:=St->Hp->VK->Prop
noncomputable abbrev TT:=St->Hp->(Bool->Hp->Prop)->Prop
noncomputable abbrev TA:=St->Hp->(List V->Hp->Prop)->Prop
structure Ends where
 nx:St->Hp->Prop
 rt:VK
 bk:St->Hp->Prop:=λ_ _=>False
 ct:St->Hp->Prop:=λ_ _=>False
noncomputable abbrev TS:=Ends->St->Hp->Prop
noncomputable def EP(X:Cx)(pins:List (MD×NF))(σ:St)(Q:VK)(u:Mv)(s':Mx):Prop:=∃v a,Inv X pins σ a s'/\RelV v u/\Q v a
noncomputable def TP(X:Cx)(pins:List (MD×NF))(σ:St)(Q:Bool->Hp->Prop)(b:Bool)(s':Mx):Prop:=∃a,Inv X pins σ a s'/\Q b a
noncomputable def AP(X:Cx)(pins:List (MD×NF))(σ:St)(Q:List V->Hp->Prop)(us:List Mv)(s':Mx):Prop:=∃a b,Inv X pins σ b s'/\ak a us/\Q a b
noncomputable def SP(X:Cx)(pins:List (MD×NF))(D:Ends)(f:Flow)(s':Mx):Prop:=match f with
 |.next=>∃a b,Inv X pins a b s'/\D.nx a b|.brk=>∃a b,Inv X pins a b s'/\D.bk a b|.cont=>∃a b,Inv X pins a b s'/\D.ct a b|.ret u=>∃v a b,Inv X pins a b s'/\RelV v u/\D.rt v b
noncomputable def PE(X:Cx)(e:MV)(t:TE):Prop:=∀(a:List (MD×NF))(s:Mx)(b:St)(H:Hp)(Q:VK),Inv X a b H s->t b H Q->wpAny (MO X.prog X.w) X.A (N2 e X.env) (EP X a b Q) X.xe s
noncomputable def PT(X:Cx)(e:MV)(t:TT):Prop:=∀(a:List (MD×NF))(s:Mx)(b:St)(H:Hp)(Q:Bool->Hp->Prop),Inv X a b H s->t b H Q->wpAny (MO X.prog X.w) X.A (Sd e X.env (N2 e X.env)) (TP X a b Q) X.xe s
noncomputable def PW(X:Cx)(e:MV)(t:TT):Prop:=∀(whole:U5 Mv)(a:List (MD×NF))(s:Mx)(b:St)(H:Hp)(Q:Bool->Hp->Prop),Inv X a b H s->t b H Q->wpAny (MO X.prog X.w) X.A (Sd e X.env whole) (TP X a b Q) X.xe s
theorem PW.pt{X:Cx}{e:MV}{t:TT}(h:PW X e t):PT X e t:=h _
noncomputable def PA(X:Cx)(es:List MV)(t:TA):Prop:=∀(c:Od)(a:List (MD×NF))(s:Mx)(b:St)(H:Hp)(Q:List V->Hp->Prop),Inv X a b H s->t b H Q->wpAny (MO X.prog X.w) X.A (spliced (Og c (MS es X.env))) (AP X a b Q) X.xe s
noncomputable def PS(X:Cx)(st:OM)(t:TS):Prop:=∀(a:List (MD×NF))(s:Mx)(b:St)(H:Hp)(D:Ends),Inv X a b H s->t D b H->wpAny (MO X.prog X.w) X.A (exec st X.env) (SP X a D) X.xe s
noncomputable def n9(X:Cx)(st:List OM)(t:TS):Prop:=∀(a:List (MD×NF))(s:Mx)(b:St)(H:Hp)(D:Ends),Inv X a b H s->t D b H->wpAny (MO X.prog X.w) X.A (execs st X.env) (SP X a D) X.xe s
theorem aU{b:Type}{t:U5 b}{Q c:b->Mx->Prop}{M:RL}{A:Nc}{E:Mv->Mx->Prop}{s:Mx}(h:wpAny M A t Q E s)(d:∀a s,Q a s->c a s):wpAny M A t c E s:=N3 h d λ_ _ x=>x
end L2
namespace L2
open PySem PySem.Spec PyProof.Rows
section
variable{X:Cx}
noncomputable def FK(i:Nat):TE:=λa H Q=>∃v,a[i]?=Mt (Mt v)/\Q v H
noncomputable def tC(v:V):TE:=λ_ H Q=>Q v H
theorem cv{i:Nat}{x:M3}{pos:Od}(hN:X.N[i]?=Mt x)(k:n6 X.env.scope x)(hd:(x==("__debug__":M3))=My:=by decide)(f:(x==("__classdict__":M3))=My:=by decide):PE X (.Name x pos) (FK i):=by
 intro d s j H Q I h;obtain⟨v,e,h⟩:=h;obtain⟨m,n,p⟩:=I.loc;obtain⟨u,r,l⟩:=p i x v hN e k;have fin:EP X d j Q u s:=⟨v,H,I,r,h⟩;rcases l with⟨b,o⟩|⟨b,c,g,a⟩;.exact Wl (UM I.ok.kind b n o fin) hd
 .rcases b with b|b;.exact Wl (U9 I.ok.kind b g a fin) hd
  .exact Wl (wpAny_loadName_free I.ok.kind b g a fin f) hd
theorem aD{i j pos}:PE X (.Constant (.int i) j pos) (tC (.int i)):=λ_ _ _ H _ I h=>wpAny_Constant_int ⟨.int i,H,I.tok _,⟨_,rfl⟩,h⟩
theorem FL{b j pos}:PE X (.Constant (.bool b) j pos) (tC (.bl b)):=λ_ _ _ H _ I h=>Constant_bool ⟨.bl b,H,I,rfl,h⟩
theorem CB{j pos}:PE X (.Constant .none j pos) (tC .aJ):=λ_ _ _ H _ I h=>Constant_none ⟨.aJ,H,I,rfl,h⟩
theorem CC{x j pos}:PE X (.Constant (.str x) j pos) (tC (.str x)):=λ_ _ _ H _ I h=>Calls.Constant_str ⟨.str x,H,I.tok _,⟨_,rfl⟩,h⟩
noncomputable def Gl(X:Cx)(x:M3):Prop:=X.env.kindOf x=Mt .globalImplicit
theorem fg{E:Mv->Mx->Prop}{pins:List (MD×NF)}{s:Mx}{σ:St}{H:Hp}{x:M3}{u:Mv}{pos:Od}{Q:Mv->Mx->Prop}(I:Inv X pins σ H s)(b:Gl X x)(a:X.mg x=Mt u)(h:Q u s)(hd:(x==("__debug__":M3))=My:=by decide):wpAny (MO X.prog X.w) X.A (N2 (.Name x pos) X.env) Q E s:=SG I.ok.kind b (Calls.loadGlobal_global (by rw[I.ok.glob];exact I.mod.glob.keeps I.bk) a h) hd
theorem dO{E:Mv->Mx->Prop}{pins:List (MD×NF)}{s:Mx}{σ:St}{H:Hp}{x:M3}{u:Mv}{pos:Od}{Q:Mv->Mx->Prop}(I:Inv X pins σ H s)(d:Gl X x)(c:X.mg x=MA)(a:OB x=Mt u)(h:Q u s)(b:x≠"__name__":=by decide)(hd:(x==("__debug__":M3))=My:=by decide):wpAny (MO X.prog X.w) X.A (N2 (.Name x pos) X.env) Q E s:=by
 obtain⟨g,f,e⟩:=I.mod.blt;exact SG I.ok.kind d (Calls.loadGlobal_builtin (by rw[I.ok.glob];exact I.mod.glob.keeps I.bk) c (by rw[I.ok.blt];exact f.keeps I.bk) ((e x b).trans a) h) hd
theorem mE{x:M3}{v:V}{u:Mv}{pos:Od}(b:Gl X x)(a:X.mg x=Mt u)(r:RelV v u)(hd:(x==("__debug__":M3))=My:=by decide):PE X (.Name x pos) (tC v):=λ_ _ _ H _ I h=>fg I b a ⟨v,H,I,r,h⟩ hd
theorem zx{x:M3}{v:V}{u:Mv}{pos:Od}(d:Gl X x)(c:X.mg x=MA)(a:OB x=Mt u)(r:RelV v u)(b:x≠"__name__":=by decide)(hd:(x==("__debug__":M3))=My:=by decide):PE X (.Name x pos) (tC v):=λ_ _ _ H _ I h=>dO I d c a ⟨v,H,I,r,h⟩ b hd
variable{a b:MV}{ta tb:TE}{pos:Od}
variable{tA tB':TT}{rest:List MV}
noncomputable def Jy(t u:TT):TT:=λd H Q=>t d H λc e=>if c=Mz then u d e Q else Q My e
noncomputable def LL(t u:TT):TT:=λd H Q=>t d H λc e=>if c=Mz then Q Mz e else u d e Q
noncomputable def Jz(t:TT):TT:=λd H Q=>t d H λc e=>Q (!c) e
theorem sD(g:PT X a tA):PW X (.BoolOp .And [a] pos) tA:=by
 intro i d s f H Q I h;refine isTrue_and (aU (g d s f H Q I h) λc s1 e=>?_);cases c with
 |true=>exact isTrue_and_nil e|false=>exact e
theorem CD(g:PT X a tA):PW X (.BoolOp .Or [a] pos) tA:=by
 intro i d s f H Q I h;refine isTrue_or (aU (g d s f H Q I h) λc s1 e=>?_);cases c with
 |false=>exact isTrue_or_nil e|true=>exact e
theorem vO(m:PT X a tA)(l:PW X (.BoolOp .And (b::rest) pos) tB'):PW X (.BoolOp .And (a::b::rest) pos) (Jy tA tB'):=by
 intro k d s f H Q I h;refine isTrue_and (aU (m d s f H _ I h) λc s1 e=>?_);obtain⟨j,i,g⟩:=e;cases c with
 |true=>exact l k d s1 f j Q i g|false=>exact⟨j,i,g⟩
theorem FP(m:PT X a tA)(l:PW X (.BoolOp .Or (b::rest) pos) tB'):PW X (.BoolOp .Or (a::b::rest) pos) (LL tA tB'):=by
 intro k d s f H Q I h;refine isTrue_or (aU (m d s f H _ I h) λc s1 e=>?_);obtain⟨j,i,g⟩:=e;cases c with
 |true=>exact⟨j,i,g⟩|false=>exact l k d s1 f j Q i g
theorem CF(f:PT X a tA):PT X (.UnaryOp .Not a pos) (Jz tA):=by
 intro d s e H Q I h;exact isTrue_not (f d s e H (λc g=>Q (!c) g) I h)
noncomputable def FQ(ta tb:TE):TE:=λd H Q=>ta d H λx e=>∃c,x=.bl c/\if c=Mz then tb d e Q else Q (.bl My) e
noncomputable def JA(ta tb:TE):TE:=λd H Q=>ta d H λx e=>∃c,x=.bl c/\if c=Mz then Q (.bl Mz) e else tb d e Q
noncomputable def FR(ta:TE):TE:=λd H Q=>ta d H λx e=>∃c,x=.bl c/\Q (.bl (!c)) e
theorem CG{op}{t:TE}(h:PE X a t):PE X (.BoolOp op [a] pos) t:=λc s d H Q I hw=>BoolOp_one (h c s d H Q I hw)
theorem CH(m:PE X a ta)(l:PE X (.BoolOp .And (b::rest) pos) tb):PE X (.BoolOp .And (a::b::rest) pos) (FQ ta tb):=by
 intro d s g H Q I h;refine BoolOp_and (aU (m d s g H _ I h) λv s1 f=>?_);obtain⟨x,j,i,k,e⟩:=f;obtain⟨c,rfl,e⟩:=e;cases k;refine N_ ?_;cases c with
 |true=>exact l d s1 g j Q i e|false=>exact⟨.bl My,j,i,rfl,e⟩
theorem FT(m:PE X a ta)(l:PE X (.BoolOp .Or (b::rest) pos) tb):PE X (.BoolOp .Or (a::b::rest) pos) (JA ta tb):=by
 intro d s g H Q I h;refine BoolOp_or (aU (m d s g H _ I h) λv s1 f=>?_);obtain⟨x,j,i,k,e⟩:=f;obtain⟨c,rfl,e⟩:=e;cases k;refine N_ ?_;cases c with
 |false=>exact l d s1 g j Q i e|true=>exact⟨.bl Mz,j,i,rfl,e⟩
theorem CI(j:PE X a ta):PE X (.UnaryOp .Not a pos) (FR ta):=by
 intro d s g H Q I h;refine UnaryOp_ (aU (j d s g H _ I h) λv s1 e=>?_);obtain⟨x,l,k,i,f⟩:=e;obtain⟨c,rfl,f⟩:=f;cases i;exact not_of (N_ ⟨.bl (!c),l,k,rfl,f⟩)
noncomputable def LM(t:TT)(ta tb:TE):TE:=λd H Q=>t d H λc e=>if c=Mz then ta d e Q else tb d e Q
theorem vP{c:MV}(l:PT X c tA)(n:PE X a ta)(m:PE X b tb):PE X (.IfExp c a b pos) (LM tA ta tb):=by
 intro e s f H Q I h;refine wpAny_IfExp (aU (l e s f H _ I h) λd s1 g=>?_);obtain⟨k,j,i⟩:=g;cases d with
 |true=>exact n e s1 f k Q j i|false=>exact m e s1 f k Q j i
end
end L2
namespace L2
open PySem PySem.Spec PyProof.Rows
noncomputable def cP(K:ME)(H:Hp)(a:MD)(xs:List V):Prop:=Rd H a (.lst xs)\/∃(o:NF)(b:Array Mv)(n:Nat),K.lookup a=Mt o/\o.cls=.type "list"/\o.dict=MA/\o.data=.seq b n/\b.size<=MP/\ak xs b.toList
noncomputable def iE(K:ME)(H:Hp)(a:MD)(xs:List V):Prop:=Rd H a (.tup xs)\/∃(o:NF)(b:Array Mv)(n:Nat),K.lookup a=Mt o/\o.cls=.type "tuple"/\o.data=.seq b n/\b.size<=MP/\ak xs b.toList
noncomputable def JB:Mv->Option V
 |.none=>Mt .aJ|.bool b=>Mt (.bl b)|.int i _=>Mt (.int i)|.str x _=>Mt (.str x)|.bytes b _=>Mt (.Cy b)|.float b _=>Mt (.Ft b)|.ref a=>Mt (.ref a)|.type n=>Mt (.ty n)|_=>MA
theorem RelV.abs{x:V}{u:Mv}(r:RelV x u):JB u=Mt x:=by cases x with
 |aJ=>cases r;rfl|bl _=>cases r;rfl|int _=>obtain⟨t,rfl⟩:=r;rfl|str _=>obtain⟨t,rfl⟩:=r;rfl|Cy _=>obtain⟨t,rfl⟩:=r;rfl|Ft _=>obtain⟨t,rfl⟩:=r;rfl|ref _=>cases r;rfl|ty _=>cases r;rfl
theorem RelV.inj{x y:V}{u:Mv}(r:RelV x u)(q:RelV y u):x=y:=MI (r.abs.symm.trans q.abs)
theorem ak.inj:∀{xs ys:List V}{us:List Mv},ak xs us->ak ys us->xs=ys
 |_,_,_,.nil,.nil=>rfl|_,_,_,.cons r t,.cons b a=>by rw[r.inj b,ak.inj t a]
section
variable{X:Cx}{pins:List (MD×NF)}{σ:St}{H:Hp}{s:Mx}{a:MD}{xs ys:List V}
theorem cP.of{K:ME}(h:H a=Mt (.lst xs)):cP K H a xs:=.inl (.inl h)
theorem iE.of{K:ME}(h:H a=Mt (.tup xs)):iE K H a xs:=.inl (.inl h)
theorem Inv.list(I:Inv X pins σ H s)(h:cP X.K H a xs):∃its:List Mv,ak xs its/\PlainL s.heap a its.toArray/\xs.length<=MP:=by
 rcases h with h|⟨o,its,n,c,d,hd,b,f,r⟩
 .obtain⟨z,its,n,r,e⟩:=h.ok I.ay;exact⟨its,r,⟨_,n,e,rfl,rfl,rfl⟩,z⟩
 .refine⟨its.toList,r,⟨o,n,I.fB a o c,d,hd,by simpa using b⟩,?_⟩;have e:=r.length;simp only[OW]at e;omega
theorem Inv.tuple(I:Inv X pins σ H s)(h:iE X.K H a xs):∃its:List Mv,ak xs its/\V6 s.heap a its.toArray/\xs.length<=MP:=by
 rcases h with h|⟨o,its,n,c,d,b,f,r⟩
 .obtain⟨z,its,r,p⟩:=h.ok I.ay;exact⟨its,r,p,z⟩
 .refine⟨its.toList,r,⟨o,I.fB a o c,d,n,by simpa using b⟩,?_⟩;have e:=r.length;simp only[OW]at e;omega
theorem Inv.oo(I:Inv X pins σ H s)(h:cP X.K H a xs)(h':cP X.K H a ys):xs=ys:=by
 obtain⟨c,r,⟨o,n,e,_,_,d⟩,_⟩:=I.list h;obtain⟨b,i,⟨k,l,f,_,_,g⟩,_⟩:=I.list h';rw[e]at f;cases f;rw[d]at g;injection g with j _;have:c=b:=by simpa using congrArg T9 j
 subst this;exact r.inj i
theorem Inv.ud(I:Inv X pins σ H s)(h:iE X.K H a xs)(h':iE X.K H a ys):xs=ys:=by
 obtain⟨c,r,⟨o,e,_,n,d⟩,_⟩:=I.tuple h;obtain⟨b,i,⟨k,f,_,l,g⟩,_⟩:=I.tuple h';rw[e]at f;cases f;rw[d]at g;injection g with j _;have:c=b:=by simpa using congrArg T9 j
 subst this;exact r.inj i
end
noncomputable abbrev Cx.kY(X:Cx)(E:Mv->Mx->Prop):Cx:={X with xe:=E}
noncomputable abbrev Cx.FU(X:Cx):Cx:=X.kY λ_ _=>False
theorem Cx.Ok.kY{X:Cx}(ok:X.Ok)(E:Mv->Mx->Prop):(X.kY E).Ok:=⟨ok.mod,ok.kind,ok.glob,ok.blt,ok.above,ok.inj,ok.has,ok.CA,ok.hd,ok.frames,ok.Fu,ok.I_,ok.bs,ok.vM,ok.qu,ok.ua,ok.gi,ok.zu⟩
theorem Cx.Ok.eC{X:Cx}{E:Mv->Mx->Prop}(ok:(X.kY E).Ok):X.Ok:=⟨ok.mod,ok.kind,ok.glob,ok.blt,ok.above,ok.inj,ok.has,ok.CA,ok.hd,ok.frames,ok.Fu,ok.I_,ok.bs,ok.vM,ok.qu,ok.ua,ok.gi,ok.zu⟩
section
variable{X:Cx}{pins:List (MD×NF)}{σ:St}{H:Hp}{s:Mx}{E:Mv->Mx->Prop}
theorem Inv.kY(I:Inv X pins σ H s)(E:Mv->Mx->Prop):Inv (X.kY E) pins σ H s:=⟨I.ok.kY E,I.os,I.bare,I.base,I.loc,I.cell,I.free,I.bS,I.pin,I.ay,I.len⟩
theorem Inv.eC(I:Inv (X.kY E) pins σ H s):Inv X pins σ H s:=⟨I.ok.eC,I.os,I.bare,I.base,I.loc,I.cell,I.free,I.bS,I.pin,I.ay,I.len⟩
theorem SP.eC{D:Ends}{f:Flow}{s':Mx}(h:SP (X.kY E) pins D f s'):SP X pins D f s':=by cases f with
 |next=>obtain⟨a,b,I,q⟩:=h;exact⟨a,b,I.eC,q⟩|brk=>obtain⟨a,b,I,q⟩:=h;exact⟨a,b,I.eC,q⟩|cont=>obtain⟨a,b,I,q⟩:=h;exact⟨a,b,I.eC,q⟩|ret u=>obtain⟨v,a,b,I,r,q⟩:=h;exact⟨v,a,b,I.eC,r,q⟩
theorem n9.FU{st:List OM}{t:TS}(h:n9 X.FU st t):n9 X st t:=λpins s σ H D I hw=>N3 (h pins s σ H D (I.kY _) hw) (λ_ _ q=>q.eC) λ_ _ z=>N7 z
end
section
variable{X:Cx}{st:OM}{rest:List OM}{t u:TS}{e:MV}{te:TE}{pos:Od}
noncomputable def FV:TS:=λD a H=>D.nx a H
noncomputable def JC(t u:TS):TS:=λD a H=>t {D with nx:=u D} a H
theorem jj:n9 X [] FV:=λ_ _ a H _ I h=>Se ⟨a,H,I,h⟩
theorem bb(g:PS X st t)(d:n9 X rest u):n9 X (st::rest) (JC t u):=by
 intro a s c H D I h;refine wpAny_execs_cons (aU (g a s c H {D with nx:=u D} I h) λf s1 q=>?_);cases f with
 |next=>
  obtain⟨b,j,i,q⟩:=q;exact d a s1 b j D i q|ret v=>exact q|brk=>exact q|cont=>exact q
theorem fh(c:PS X st t):n9 X [st] t:=by
 intro a s b H D I h;refine wpAny_execs_cons (aU (c a s b H D I h) λf s1 q=>?_);cases f with
 |next=>exact Se q|ret v=>exact q|brk=>exact q|cont=>exact q
theorem Inv.quiet{pins:List (MD×NF)}{σ:St}{H:Hp}{s:Mx}(I:Inv X pins σ H s):interactive X.env=My:=by simp[interactive,I.ok.kind]
noncomputable def FW(te:TE):TS:=λD a H=>te a H λ_ b=>D.nx a b
theorem mF(f:PE X e te)(d:O4 e MA pos.line X.env=pure My:=by rfl):PS X (.Expr e pos) (FW te):=by
 intro a s b H D I h;exact wpAny_Expr_any (aU (f a s b H _ I h) λv s1⟨x,i,g,j,c⟩=>⟨b,i,g,c⟩) I.quiet d
noncomputable def JD(te:TE):TS:=λD a H=>te a H D.rt
theorem jF(f:PE X e te):PS X (.Return (Mt e) pos) (JD te):=by
 intro a s b H D I h;exact wpAny_Return_some (aU (f a s b H _ I h) λv s1⟨x,i,g,c,d⟩=>⟨x,b,i,g,c,d⟩)
noncomputable def JE(c:TT)(t u:TS):TS:=λD a H=>c a H λb d=>if b=Mz then t D a d else u D a d
theorem sE{c:MV}{a b:List OM}{j:TT}(n:PT X c j)(p:n9 X a t)(o:n9 X b u):PS X (.If c a b pos) (JE j t u):=by
 intro f s g H D I h;refine wpAny_If (aU (n f s g H _ I h) λd s1 i=>?_);obtain⟨m,l,k⟩:=i;cases d with
 |true=>exact p f s1 g m D l k|false=>exact o f s1 g m D l k
end
noncomputable abbrev TG:=V->St->Hp->(St->Hp->Prop)->Prop
noncomputable abbrev zy:=List V->St->Hp->(St->Hp->Prop)->Prop
noncomputable def PG(X:Cx)(a:MV)(t:TG):Prop:=∀(b:List (MD×NF))(s:Mx)(d:St)(H:Hp)(v:V)(u:Mv)(Q:St->Hp->Prop),Inv X b d H s->RelV v u->t v d H Q->wpAny (MO X.prog X.w) X.A (Ra a X.env u) (λ_ f=>∃c e,Inv X b c e f/\Q c e) X.xe s
noncomputable def BO(X:Cx)(g:List MV)(t:zy):Prop:=∀(a:List (MD×NF))(s:Mx)(c:St)(H:Hp)(d:List V)(e:List Mv)(Q:St->Hp->Prop),Inv X a c H s->ak d e->t d c H Q->wpAny (MO X.prog X.w) X.A (assignInOrder ((OP g X.env).map (·.2)) e) (λ_ h=>∃b f,Inv X a b f h/\Q b f) X.xe s
noncomputable abbrev CJ:=V->V->V->Hp->(Hp->Prop)->Prop
noncomputable def FX(X:Cx)(t:CJ):Prop:=∀(a:List (MD×NF))(s:Mx)(b:St)(H:Hp)(o i v:V)(c d u:Mv)(Q:Hp->Prop),Inv X a b H s->RelV o c->RelV i d->RelV v u->t o i v H Q->wpAny (MO X.prog X.w) X.A (setItem c d u) (λ_ f=>∃e,Inv X a b e f/\Q e) X.xe s
noncomputable abbrev Ja:=V->V->Hp->VK->Prop
noncomputable def Jb(X:Cx)(op:Rj)(t:Ja):Prop:=∀(a:List (MD×NF))(s:Mx)(b:St)(H:Hp)(x y:V)(v u:Mv)(Q:VK),Inv X a b H s->RelV x v->RelV y u->t x y H Q->wpAny (MO X.prog X.w) X.A (inplaceOp op v u) (EP X a b Q) X.xe s
section
variable{X:Cx}{pos:Od}
noncomputable def vQ(i:Nat):TG:=λv a H Q=>Q (a.set i (Mt v)) H
theorem sF{i:Nat}{x:M3}(hN:X.N.Nodup)(c:X.N[i]?=Mt x)(b:Loc X.env.scope x)(d:X.fn x=Mz\/X.env.scope.names.lookup x=Mt .local:=by first|exact .inl rfl|exact .inr rfl|assumption):PG X (.Name x pos) (vQ i):=by
 intro a s f H v u Q I r h;exact wpAny_assign_Name (gj I hN c b r (λg e=>⟨_,H,e,h⟩) d)
noncomputable def JF:zy:=λb a H Q=>b=[]/\Q a H
noncomputable def FY(t:TG)(u:zy):zy:=λc b H Q=>∃v r,c=v::r/\t v b H λa d=>u r a d Q
theorem zz:BO X [] JF:=by
 intro a s b H c d Q I r h;obtain⟨e,h⟩:=h;subst e;cases r;exact assignInOrder_nil ⟨b,H,I,h⟩
theorem vR{e:MV}{es:List MV}{t:TG}{u:zy}(j:PG X e t)(i:BO X es u)(g:(OP (e::es) X.env).map (·.2)=Ra e X.env::(OP es X.env).map (·.2):=by rfl):BO X (e::es) (FY t u):=by
 intro a s d H m o Q I r h;obtain⟨v,n,e1,h⟩:=h;subst e1;cases r with|cons r rr=>
  rw[g];refine assignInOrder_cons (aU (j a s d H _ _ _ I r h) λ_ s1 c=>?_);obtain⟨b,l,k,f⟩:=c;exact i a s1 b l _ _ Q k rr f
noncomputable def JG(K:ME)(n:Nat)(t:zy):TG:=λv c H Q=>∃a b,v=.ref a/\iE K H a b/\b.length=n/\t b c H Q
theorem CK{es:List MV}{k:Nat}{t:zy}{n:Nat}(y:X.calm=Mz)(h:BO X es t)(w:(OP es X.env).length=n:=by rfl)(d:(OP es X.env).findIdx? (·.1)=MA:=by rfl):PG X (.Tuple es k pos) (JG X.K n t):=by
 intro c s f H v u Q I r hw;obtain⟨a,j,e1,q,x,hw⟩:=hw;subst e1;cases r;obtain⟨l,g,p,B⟩:=I.tuple q;refine assign_Tuple_tuple (I.ok.hd y) p (by simp[w,<-x,g.length]) d λz m=>?_;have A:Inv X c f H {s with heap:=z}:=I.kept (t':=s.toks) λb o e=>m b o (M4 (MH e)) e;exact h c _ f H j _ Q A (by simpa using g) hw
noncomputable def JH(to ti:TE)(t:CJ):TG:=λv a H Q=>to a H λo d=>ti a d λi c=>t o i v c λb=>Q a b
theorem qv{o i:MV}{to ti:TE}{t:CJ}(n:PE X o to)(p:PE X i ti)(m:FX X t)(q:∀v,Ra (.Subscript o i pos) X.env v=(do
   let c<-RN [v] (N2 o X.env)let d<-RN [v,c] (N2 i X.env)PV pos;RN [v,c,d] (setItem c d v)release [v,c,d] []):=by intro _;rfl):PG X (.Subscript o i pos) (JH to ti t):=by
 intro b s e H v u Q I r h;rw[q];refine Ms (M2 (aU (n b s e H _ I h) λc s1 a=>?_));obtain⟨x,D,A,g,l⟩:=a;refine Ms (M2 (aU (p b s1 e D _ A l) λd s2 a=>?_));obtain⟨y,C,z,f,k⟩:=a;refine Ms (Oa (Ms (M2 (aU (m b s2 e C x y v c d u _ z g f r k) λ_ s3 a=>?_))));obtain⟨B,w,j⟩:=a;exact wpAny_release ⟨e,B,w,j⟩
noncomputable def zA(b:TE)(g:TG):TS:=λD a H=>b a H λx c=>g x a c D.nx
theorem mG{tg e:MV}{c:TE}{g:TG}(k:PE X e c)(j:PG X tg g)(i:Vd [tg] e pos.line X.env=pure My:=by rfl)(hw:Qu [tg] e X.env=pure MA:=by rfl)(l:(OP [tg] X.env).map (·.2)=[Ra tg X.env]:=by rfl):PS X (.Assign [tg] e pos) (zA c g):=by
 intro a s b H D I h;refine wpAny_Assign_stores (aU (k a s b H _ I h) λv s1⟨x,n,m,d,f⟩=>?_) i hw;rw[l];exact aU (j a s1 b n x v _ m d f) λ_ s2 q=>q
theorem bX{i:Nat}{x:M3}{e:MV}{c:TE}{a:Od}(hN:X.N.Nodup)(l:X.N[i]?=Mt x)(j:Loc X.env.scope x)(n:PE X e c)(k:O4 e (Mt (.Name x a)) pos.line X.env=pure My:=by rfl)(m:X.fn x=Mz\/X.env.scope.names.lookup x=Mt .local:=by first|exact .inl rfl|exact .inr rfl|assumption):PS X (.Assign [.Name x a] e pos) (zA c (vQ i)):=by
 intro b s d H D I h;refine wpAny_Assign_Name (aU (n b s d H _ I h) λv s1⟨y,q,p,f,g⟩=>?_) k;exact gj p hN l j f (λs2 o=>⟨_,q,o,g⟩) m
noncomputable def JI(i:Nat)(b:TE)(ti:Ja):TS:=λD a H=>∃x,a[i]?=Mt (Mt x)/\b a H λy d=>ti x y d λz c=>D.nx (a.set i (Mt z)) c
theorem CL{i:Nat}{x:M3}{e:MV}{q:TE}{op:Rj}{ti:Ja}{n:Od}(hN:X.N.Nodup)(t:X.N[i]?=Mt x)(o:Loc X.env.scope x)(O:PE X e q)(G:Jb X op ti)(M:X.fn x=Mz\/X.env.scope.names.lookup x=Mt .local:=by first|exact .inl rfl|exact .inr rfl|assumption):PS X (.AugAssign (.Name x n) op e pos) (JI i q ti):=by
 intro a s p H D I h;obtain⟨v,e1,h⟩:=h;obtain⟨m,J,L⟩:=I.loc;have sG:n6 X.env.scope x:=by rcases o with k|k;exact .inl k;exact .inr (.inl k)
 obtain⟨u,r,l⟩:=L i x v t e1 sG;refine wpAny_AugAssign_Name ?_;have go:wpAny (MO X.prog X.w) X.A (N2 e X.env) (λw j=>wpAny (MO X.prog X.w) X.A (inplaceOp op u w) (λr g=>wpAny (MO X.prog X.w) X.A (storeName X.env x r) (λ_=>SP X a D .next) X.xe g) X.xe j) X.xe s:=by
  refine aU (O a s p H _ I h) λw s1 d=>?_;obtain⟨y,U,S,C,F⟩:=d;refine aU (G a s1 p U v y u w _ S r C F) λz s2 d=>?_;obtain⟨V,T,R,B,E⟩:=d;exact gj R hN t o B (λs3 Q=>⟨_,T,Q,E⟩) M
 rcases l with⟨b,K⟩|⟨b,c,P,f⟩;.exact UM I.ok.kind b J K go
 .rcases b with b|b;.exact U9 I.ok.kind b P f go
  .rcases o with k|k
   .have:X.env.scope.names.lookup x=Mt .free:=b;rw[k]at this;cases this
   .have:X.env.scope.names.lookup x=Mt .free:=b;rw[k]at this;cases this
noncomputable def JJ(f:Int->Int->Int):Ja:=λx y H Q=>∃i j,x=.int i/\y=.int j/\Q (.int (f i j)) H
theorem CM:Jb X .Add (JJ λi j=>i+j):=by
 intro a s d H x y v u Q I c b h;obtain⟨i,j,e1,e2,q⟩:=h;subst e1;subst e2;obtain⟨t,rfl⟩:=c;obtain⟨e,rfl⟩:=b;exact iadd_int ⟨.int _,H,I.tok _,⟨_,rfl⟩,q⟩
theorem CN:Jb X .Sub (JJ λi j=>i-j):=by
 intro a s d H x y v u Q I c b h;obtain⟨i,j,e1,e2,q⟩:=h;subst e1;subst e2;obtain⟨t,rfl⟩:=c;obtain⟨e,rfl⟩:=b;exact isub_int ⟨.int _,H,I.tok _,⟨_,rfl⟩,q⟩
end
section
variable{X:Cx}{pos:Od}
noncomputable def CO(c:TT)(h:TS):TS:=λD a H=>∃W:Nat->St->Hp->Prop,(∃m,W m a H)/\∀m a H,W m a H->c a H λb f=>if b=Mz then∃N:St->Hp->Prop,(∀d g,N d g->∃e,e<m/\W e d g)/\h {D with nx:=N,ct:=N,bk:=D.nx} a f else D.nx a f
theorem vS{c:MV}{body:List OM}{t:TT}{u:TS}(x:Sz (MO X.prog X.w) X.A X.env X.xe)(L:PT X c t)(M:n9 X body u):PS X (.While c body [] pos) (CO t u):=by
 intro d s E H D I h;obtain⟨W,⟨K,G⟩,i⟩:=h;refine wpAny_While (codeAny_whileLoop (λn J=>∃g C,Inv X d g C J/\W n g C) ?_ K ⟨E,H,I,G⟩);rintro n s1⟨e,B,O,F⟩;refine PN x (aU (L d s1 e B _ O (i n e B F)) λb s2 m=>?_);obtain⟨z,y,l⟩:=m;cases b with
 |true=>
  obtain⟨N,hN,l⟩:=l;rw[if_pos rfl];refine PN x (aU (M d s2 e z _ y l) λf s3 k=>?_);cases f with
  |next=>
   obtain⟨a,j,r,n3⟩:=k;obtain⟨p,q,o⟩:=hN a j n3;exact⟨p,q,a,j,r,o⟩|cont=>
   obtain⟨a,j,r,n3⟩:=k;obtain⟨p,q,o⟩:=hN a j n3;exact⟨p,q,a,j,r,o⟩|brk=>exact k|ret v=>exact k
 |false=>
  rw[if_neg Nx];exact Se ⟨e,z,y,l⟩
end
structure It where
 go:Nat->Hp->Prop
 Jc:Nat->Hp->V->Hp->Prop
 stop:Nat->Hp->Prop
noncomputable def cz(X:Cx)(pins:List (MD×NF))(H:Hp)(b:MD):Prop:=H b=MA/\b≠X.env.locals/\b∉X.fs/\(b∈X.ex\/X.bA.heap.objs.size<=b)/\(∀x c,X.env.cells.lookup x=Mt c->c≠b)/\∀p∈X.pn++pins,p.1≠b
theorem Inv.uf{X:Cx}{pins:List (MD×NF)}{σ:St}{H H':Hp}{s:Mx}{b:MD}(I:Inv X pins σ H s)(a:s.heap.objs.size<=b)(f:H' b=MA):cz X pins H' b:=by
 refine⟨f,N0 (M7 I.lt a),I.zw a,.inr (Nw I.sz a),λx c e z=>?_,λp d z=>?_⟩
 .obtain⟨v,q⟩:=I.cell x c e;exact absurd (M7 q.lt (by rw[z];exact a)) (Nh _)
 .exact absurd (M7 (MH (I.pin p d).1) (by rw[z];exact a)) (Nh _)
structure Turn(P:MX)(w:M_)(K:ME)(tg:MV)(J:It)(fp:List MD)(it:MD)(tn:Nat->Na->Prop):Prop where
 mem:it∈fp
 obj:∀i h,tn i h->∀b∈fp,∃o,h.get? b=Mt o/\∀v,o.data≠.cell v
 keep:∀i h h',tn i h->(∀b∈fp,∀o,h.get? b=Mt o->h'.get? b=Mt o)->tn i h'
 item:∀(X:Cx),X.prog=P->X.w=w->X.K=K->X.calm=Mz->∀(i:Nat)(pins:List (MD×NF))(s:Mx)(σ:St)(H:Hp)(E:Mv->Mx->Prop),Inv X pins σ H s->(∀b∈fp,cz X pins H b)->tn i s.heap->J.go i H->wpAny (MO P w) X.A (OC (.ref it)) (λr s1=>∃u,r=Mt u/\wpAny (MO P w) X.A (OG tg (.ref it) u) (λ_ s2=>∃x H',Inv X pins σ H' s2/\RelV x u/\J.Jc i H x H'/\tn (i+1) s2.heap/\∀b∈fp,H' b=MA) E s1) E s
 done:∀(X:Cx),X.prog=P->X.w=w->X.K=K->X.calm=Mz->∀(i:Nat)(pins:List (MD×NF))(s:Mx)(σ:St)(H:Hp)(E:Mv->Mx->Prop),Inv X pins σ H s->(∀b∈fp,cz X pins H b)->tn i s.heap->J.stop i H->wpAny (MO P w) X.A (OC (.ref it)) (λr s1=>r=MA/\Inv X pins σ H s1) E s
 self:∀(A:Nc)(i:Nat)(s:Mx)(Q:Mv->Mx->Prop)(E:Mv->Mx->Prop),tn i s.heap->Q (.ref it) s->wpAny (MO P w) A (RZ (.ref it)) Q E s
noncomputable abbrev TI:=St->Hp->(It->Hp->Prop)->Prop
noncomputable def JK(X:Cx)(pins:List (MD×NF))(σ:St)(tg:MV)(R:It->Hp->Prop)(a:Mv)(s2:Mx):Prop:=∃(it:MD)(e:List MD)(d:Nat->Na->Prop)(J:It)(c:Hp),a=.ref it/\Inv X pins σ c s2/\Turn X.prog X.w X.K tg J e it d/\d 0 s2.heap/\(∀b∈e,cz X pins c b)/\R J c
noncomputable def PI(X:Cx)(tg iter:MV)(c:TI):Prop:=∀(a:List (MD×NF))(s:Mx)(b:St)(H:Hp)(R:It->Hp->Prop),Inv X a b H s->c b H R->wpAny (MO X.prog X.w) X.A (N2 iter X.env) (λv s1=>wpAny (MO X.prog X.w) X.A (RZ v) (JK X a b tg R) X.xe s1) X.xe s
theorem sH{M:RL}{A:Nc}{E:Mv->Mx->Prop}{s:Mx}{tg:MV}{it:MD}{u:Mv}{o:NF}{n:String}{vs:Array Mv}{Q:Unit->Mx->Prop}(b:s.heap.get? it=Mt o)(d:o.cls=.type n)(hd:o.data=.fields vs)(c:["enumerate","zip","dict_itemiterator","dict_reverseitemiterator","odict_iterator","itertools.zip_longest","itertools.pairwise"].contains n=My)(a:Q () s):wpAny M A (OG tg (.ref it) u) Q E s:=by
  unfold OG;cases tg<;>first
    |exact Mu a|(cases u<;>first
        |exact Mu a
        | (refine Ms (Wm b ?_);rw[d,hd];show wpAny M A (if(["enumerate","zip","dict_itemiterator","dict_reverseitemiterator","odict_iterator","itertools.zip_longest","itertools.pairwise"].contains n&&vs[0]?==Mt (Po _))=Mz then _ else _) Q E s;rw[if_neg (by intro h;rw[c,UN]at h;cases h)];exact Mu a))
noncomputable def Lq(K:ME)(a:MD):It:=⟨λi H=>∃b x,cP K H a b/\b[i]?=Mt x,λi H x c=>c=H/\∀b,cP K H a b->b[i]?=Mt x,λi H=>∃b,cP K H a b/\b.length<=i⟩
noncomputable def Lr(K:ME)(a:MD):It:=⟨λi H=>∃b x,iE K H a b/\b[i]?=Mt x,λi H x c=>c=H/\∀b,iE K H a b->b[i]?=Mt x,λi H=>∃b,iE K H a b/\b.length<=i⟩
noncomputable def JL(lo:Int)(n:Nat):It:=⟨λi _=>i<n,λi H x a=>a=H/\x=.int (lo+i),λi _=>n<=i⟩
theorem ug{P:MX}{w:M_}{K:ME}{tg:MV}(a it:MD):Turn P w K tg (Lq K a) [it] it (λi h=>h.IsListIter it a i)where
 mem:=by simp
 obj:=λi h st b g=>by
  have e:b=it:=by simpa using g
  subst e;obtain⟨o,e,c,d⟩:=st;exact⟨o,e,λv z=>by rw[d]at z;cases z⟩
 keep:=λi h q st k=>st.at λo e=>k it (by simp) o e;item:=by
  intro X hP hw hK J i f s G H E I n st A;subst hP hw hK;obtain⟨L,x,m,y⟩:=A;obtain⟨t,r,p,N⟩:=I.list m;obtain⟨u,hu,M⟩:=r.get y;obtain⟨F,D,Q,C,B,f5⟩:=n it (by simp);refine wpAny_pyNext_list_item st p.isList (x:=u) (by simpa using hu) λq j sb=>?_;have S:Inv X f G H {s with heap:=q}:=I.turned (t':=s.toks) (λb o g e=>(sb.2 b g).trans e) F D C B f5;obtain⟨o,e,c,d⟩:=id j;exact⟨u,rfl,sH (s:={s with heap:=q}) e c d (by decide) ⟨x,H,S,M,⟨rfl,λT O=>by rw[I.oo O m];exact y⟩,j,λb g=>(n b g).1⟩⟩
 done:=by
  intro X hP hw hK J i f s G H E I n st A;subst hP hw hK;obtain⟨L,m,y⟩:=A;obtain⟨t,r,p,N⟩:=I.list m;obtain⟨F,D,Q,C,B,f5⟩:=n it (by simp);have U:=r.length;exact wpAny_pyNext_list_end (I.ok.hd J) st p.isList (by simp;omega) λq R=>⟨rfl,I.turned (t':=s.toks) (λb o g e=>R b o g e) F D C B f5⟩
 self:=λ_ _ _ _ _ st h=>wpAny_pyIter_listiter st h
theorem qw{P:MX}{w:M_}{K:ME}{tg:MV}(a it:MD):Turn P w K tg (Lr K a) [it] it (λi h=>h.IsTupleIter it a i)where
 mem:=by simp
 obj:=λi h st b j=>by
  have e:b=it:=by simpa using j
  subst e;obtain⟨o,e,c,d⟩:=st;exact⟨o,e,λv z=>by rw[d]at z;cases z⟩
 keep:=λi h r st k=>st.at λo e=>k it (by simp) o e;item:=by
  intro X hP hw hK J i f s G H E I q st A;subst hP hw hK;obtain⟨L,x,n,y⟩:=A;obtain⟨g,t,p,N⟩:=I.tuple n;obtain⟨u,hu,M⟩:=t.get y;obtain⟨F,D,Q,C,B,f5⟩:=q it (by simp);refine wpAny_pyNext_tuple_item st (show s.heap.IsTuple a g.toArray from p) (x:=u) (by simpa using hu) λr l sb=>?_;have S:Inv X f G H {s with heap:=r}:=I.turned (t':=s.toks) (λb o j e=>(sb.2 b j).trans e) F D C B f5;obtain⟨o,e,c,d⟩:=id l;exact⟨u,rfl,sH (s:={s with heap:=r}) e c d (by decide) ⟨x,H,S,M,⟨rfl,λT O=>by rw[I.ud O n];exact y⟩,l,λb j=>(q b j).1⟩⟩
 done:=by
  intro X hP hw hK J i f s G H E I q st A;subst hP hw hK;obtain⟨L,n,y⟩:=A;obtain⟨g,t,p,N⟩:=I.tuple n;obtain⟨F,D,Q,C,B,f5⟩:=q it (by simp);have U:=t.length;exact wpAny_pyNext_tuple_end (I.ok.hd J) st (show s.heap.IsTuple a g.toArray from p) (by simp;omega) λr R=>⟨rfl,I.turned (t':=s.toks) (λb o j e=>R b o j e) F D C B f5⟩
 self:=λ_ _ _ _ _ st h=>wpAny_pyIter_tupleiter st h
theorem qx{P:MX}{w:M_}{K:ME}{tg:MV}(it:MD)(lo:Int)(n:Nat):Turn P w K tg (JL lo n) [it] it (λi h=>IsRangeIter h it (lo+(i:Nat)*1) ((n:Int)-(i:Nat)) 1)where
 mem:=by simp
 obj:=λi h st b c=>by
  have e:b=it:=by simpa using c
  subst e;exact⟨_,st,λv z=>by
   have B:Data.fields _=Data.cell v:=z;cases B⟩
 keep:=λi h l st k=>k it (by simp) _ st;item:=by
  intro X hP hw hK p i a s y H E I j st m;subst hP hw hK;obtain⟨x,u,F,r,q,f5⟩:=j it (by simp);have W:=Walks.range (prog:=X.prog) (w:=X.w) (I.ok.hd p) it lo 1 n;refine W.item i s _ _ m st λv l A D f C=>?_;obtain⟨t,rfl⟩:=D;have J:Inv X a y H {s with heap:=l,toks:=A}:=I.turned (λb o c e=>C b o (by simpa using c) e) x u r q f5;refine⟨_,rfl,sH (s:={s with heap:=l,toks:=A}) (n:="range_iterator") f rfl rfl (by decide) ⟨.int (lo+i),H,J,⟨t,?_⟩,⟨rfl,rfl⟩,f,λb c=>(j b c).1⟩⟩;rw[Int.mul_one]
 done:=by
  intro X hP hw hK p i a s y H E I j st m;subst hP hw hK;obtain⟨x,u,F,r,q,f5⟩:=j it (by simp);exact wpAny_pyNext_range_end (I.ok.hd p) st (by have:n<=i:=m;omega) λl G=>⟨rfl,I.turned (t':=s.toks) (λb o c e=>G b o c e) x u r q f5⟩
 self:=λ_ _ _ _ _ st h=>wpAny_pyIter_rangeiter st h
end L2
namespace L2
open PySem PySem.Spec PyProof.Rows
section
variable{X:Cx}{tg:MV}
theorem vT{pins:List (MD×NF)}{σ:St}{H:Hp}{s:Mx}{R:It->Hp->Prop}{E:Mv->Mx->Prop}{lo c:Int}{t u v:Ut}{g:Nat}(I:Inv X pins σ H s)(m:-(2^62)<=lo)(l:lo<2^62)(k:-(2^62)<=c)(j:c<2^62)(q:R (JL lo (c-lo).toNat) H):wpAny (MO X.prog X.w) X.A (RZ (.ref s.heap.objs.size)) (JK X pins σ tg R) E {s with heap:=s.heap.push {cls:=.type "range",data:=.fields #[.int lo t,.int c u,.int 1 v]},toks:=g}:=by
 refine wpAny_pyIter_range (IsRange.new ..) (small_one m l k j) ?_;have h:Inv X pins σ H {s with heap:=s.heap.push {cls:=.type "range",data:=.fields #[.int lo t,.int c u,.int 1 v]},toks:=g}:=I.kept λb o e=>Mw _ e;refine⟨(s.heap.push {cls:=.type "range",data:=.fields #[.int lo t,.int c u,.int 1 v]}).objs.size,[(s.heap.push {cls:=.type "range",data:=.fields #[.int lo t,.int c u,.int 1 v]}).objs.size],_,_,H,rfl,h.kept (t':=g) λb o e=>Mw _ e,qx _ lo (c-lo).toNat,?_,λb i=>?_,q⟩
 .have e1:lo+((0:Nat):Int)*1=lo:=by simp
  have e2:(((c-lo).toNat:Nat):Int)-((0:Nat):Int)=Builtin.Range.rangeSize lo c 1:=by rw[rangeSize_one];split<;>omega
  show IsRangeIter _ _ (lo+((0:Nat):Int)*1) ((((c-lo).toNat:Nat):Int)-((0:Nat):Int)) 1;rw[e1,e2];exact MJ _ rfl
 .have e:b=(s.heap.push {cls:=.type "range",data:=.fields #[.int lo t,.int c u,.int 1 v]}).objs.size:=by simpa using i
  subst e;exact h.uf (MN _) (h.ay.fresh (MN _))
noncomputable def FZ(c:TA):TI:=λa H R=>c a H λb d=>∃j:Int,b=[.int j]/\-(2^62)<=j/\j<2^62/\R (JL 0 j.toNat) d
theorem uh{a:MV}{d:TA}{p pos:Od}(m:Gl X "range")(l:X.mg "range"=MA)(n:PA X [a] d)(k:MS [a] X.env=[(My,N2 a X.env)]:=by rfl):PI X tg (.Call (.Name "range" p) [a] [] pos) (FZ d):=by
 intro b s f H R I h;refine Call_ (dO I m l boot_range (Ot (aU (n pos b s f H _ I h) λv s1⟨u,w,o,g,c⟩=>?_) k rfl));obtain⟨j,e,c,i,q⟩:=c;subst e;cases g with|cons r rr=>
  cases rr;obtain⟨t,rfl⟩:=r;exact call_range_1 (vT o (by omega) (by omega) c i (by simpa using q))
noncomputable def JM(f:TI)(g:TG)(h:TS):TS:=λD a H=>f a H λJ k=>∃W:Nat->Nat->St->Hp->Prop,(∃m,W 0 m a k)/\∀i m a H,W i m a H->(J.stop i H/\D.nx a H)\/(J.go i H/\∃N:St->Hp->Prop,(∀b c,N b c->∃e,e<m/\W (i+1) e b c)/\∀x c,J.Jc i H x c->g x a c λd j=>h {D with nx:=N,ct:=N,bk:=D.nx} d j)
noncomputable def dP(fp:List MD)(h:Na):List (MD×NF):=fp.filterMap λb=>(h.get? b).map λo=>(b,o)
theorem dQ{fp:List MD}{h:Na}{b:MD}{o:NF}(a:b∈fp)(e:h.get? b=Mt o):(b,o)∈dP fp h:=List.mem_filterMap.mpr ⟨b,a,by rw[e];rfl⟩
theorem lK{fp:List MD}{h:Na}{p:MD×NF}(a:p∈dP fp h):p.1∈fp/\h.get? p.1=Mt p.2:=by
 obtain⟨b,c,e⟩:=List.mem_filterMap.mp a;cases q:h.get? b with
 |none=>rw[q]at e;cases e|some o=>
  rw[q]at e;have d:(b,o)=p:=MI e;subst d;exact⟨c,q⟩
theorem Inv.pinned{pins:List (MD×NF)}{σ:St}{H:Hp}{s:Mx}{fp:List MD}(I:Inv X pins σ H s)(h:∀b∈fp,cz X pins H b)(g:∀b∈fp,∃o,s.heap.get? b=Mt o/\∀v,o.data≠.cell v):Inv X (pins++dP fp s.heap) σ H s:=I.dk λp f=>(List.mem_append.mp f).elim (λz=>I.pin p (M1 _ z)) λz=>by
  obtain⟨a,e⟩:=lK z;obtain⟨k,j,i,_⟩:=h p.1 a;obtain⟨o,c,d⟩:=g p.1 a;rw[e]at c;cases c;exact⟨e,k,j,i,d⟩
theorem Inv.gk{pins a:List (MD×NF)}{σ:St}{H:Hp}{s:Mx}(I:Inv X (pins++a) σ H s):Inv X pins σ H s:=I.dk λp b=>I.pin p (M1 _ (Ox _ b))
theorem CP{iter:MV}{body:List OM}{Z:TI}{g:TG}{tb:TS}{pos:Od}(K:Sz (MO X.prog X.w) X.A X.env X.xe)(hc:X.calm=Mz)(hi:PI X tg iter Z)(hg:PG X tg g)(q:n9 X body tb)(hs:∀x,Ny iter X.env x=pure x:=by intro _;rfl):PS X (.For tg iter body [] pos) (JM Z g tb):=by
 intro c s Y H D I h;refine wpAny_For (aU (hi c s Y H _ I h) λv s1 h1=>aU h1 λa0 s2 h2=>?_) hs;obtain⟨it,M,tn,J,H2,e,I2,T,Q,f2,W,⟨m0,w0⟩,E⟩:=h2;subst e;have p:∀{z:Hp},(∀b∈M,z b=MA)->∀b∈M,cz X c z b:=λhn b q=>⟨hn b q,(f2 b q).2⟩;refine codeAny_forLoop_any (λn s'=>∃i l z,Inv X c l z s'/\tn i s'.heap/\(∀b∈M,z b=MA)/\W i n l z) ?_ m0 ⟨0,Y,H2,I2,Q,λb q=>(f2 b q).1,w0⟩;rintro n s3⟨i,k,O,I3,F,L,w3⟩;rcases E i n k O w3 with⟨stop,qn⟩|⟨go,N,hN,step⟩
 .refine PN K (aU (T.done X rfl rfl rfl hc i c s3 k O X.xe I3 (p L) F stop) λr s4 j=>?_);obtain⟨S,I4⟩:=j;subst S;exact Se ⟨k,O,I4,qn⟩
 .refine PN K (aU (T.item X rfl rfl rfl hc i c s3 k O X.xe I3 (p L) F go) λr s4 j=>?_);obtain⟨u,S,h4⟩:=j;subst S;refine PN K (aU h4 λ_ s5 j=>?_);obtain⟨x,H5,I5,r5,y5,C,U⟩:=j;have V:=I5.pinned (p U) (T.obj _ _ C);refine PN K (aU (hg _ s5 k H5 x u _ V r5 (step x H5 y5)) λ_ s6 j=>?_);obtain⟨P,H6,I6,q6⟩:=j;refine PN K (aU (q _ s6 P H6 _ I6 q6) λf R B=>?_);have TF:∀{a:St}{y:Hp},Inv X (c++dP M s5.heap) a y R->N a y->∃m,m<n/\∃i l z,Inv X c l z R/\tn i R.heap/\(∀b∈M,z b=MA)/\W i m l z:=λ{a y}t G=>by
   obtain⟨m',hm,w7⟩:=hN a y G;refine⟨m',hm,i+1,a,y,t.gk,T.keep _ _ _ C λb q o e=>(t.pin (b,o) (M1 _ (M1 _ (dQ q e)))).1,λb q=>?_,w7⟩;obtain⟨o,e,d⟩:=T.obj _ _ C b q;exact(t.pin (b,o) (M1 _ (M1 _ (dQ q e)))).2.1
  cases f with
  |next=>obtain⟨a,y,t,G⟩:=B;exact TF t G|cont=>obtain⟨a,y,t,G⟩:=B;exact TF t G|brk=>obtain⟨a,y,t,B⟩:=B;exact⟨a,y,t.gk,B⟩|ret v=>obtain⟨x7,a,y,t,r7,B⟩:=B;exact⟨x7,a,y,t.gk,r7,B⟩
end
end L2
namespace L2
open PySem PySem.Spec PyProof.Rows
noncomputable abbrev R2:=V->V->Hp->VK->Prop
noncomputable def jG(X:Cx)(f:Mv->Mv->U5 Mv)(r:R2):Prop:=∀(a:List (MD×NF))(s:Mx)(b:St)(H:Hp)(x y:V)(v u:Mv)(Q:VK),Inv X a b H s->RelV x v->RelV y u->r x y H Q->wpAny (MO X.prog X.w) X.A (f v u) (EP X a b Q) X.xe s
noncomputable def JN(X:Cx)(f:Mv->U5 Mv)(r:V->Hp->VK->Prop):Prop:=∀(a:List (MD×NF))(s:Mx)(b:St)(H:Hp)(x:V)(v:Mv)(Q:VK),Inv X a b H s->RelV x v->r x H Q->wpAny (MO X.prog X.w) X.A (f v) (EP X a b Q) X.xe s
noncomputable def cf(X:Cx)(f:Mv)(r:List V->Hp->VK->Prop):Prop:=∀(a:List (MD×NF))(s:Mx)(b:St)(H:Hp)(c:List V)(d:List Mv)(Q:VK),Inv X a b H s->ak c d->r c H Q->wpAny (MO X.prog X.w) X.A (call f d) (EP X a b Q) X.xe s
noncomputable def JO(X:Cx)(r:V->Hp->(Bool->Hp->Prop)->Prop):Prop:=∀(a:List (MD×NF))(s:Mx)(b:St)(H:Hp)(x:V)(v:Mv)(Q:Bool->Hp->Prop),Inv X a b H s->RelV x v->r x H Q->wpAny (MO X.prog X.w) X.A (truthy v) (TP X a b Q) X.xe s
noncomputable def F0(r:R2)(c b:TE):TE:=λa H Q=>c a H λx e=>b a e λy d=>r x y d Q
noncomputable def LN(r:V->Hp->VK->Prop)(b:TE):TE:=λa H Q=>b a H λx c=>r x c Q
noncomputable def rI(C:Int->Int->Prop)(g:Int->Int->V):R2:=λx y H Q=>∃i j,x=.int i/\y=.int j/\C i j/\Q (g i j) H
noncomputable def BP(g:Int->Int->V):R2:=λx y H Q=>∃i j,x=.int i/\y=.int j/\Q (g i j) H
noncomputable def rU(g:Int->V):V->Hp->VK->Prop:=λx H Q=>∃i,x=.int i/\Q (g i) H
section
variable{X:Cx}{a b c:MV}{ta tb tc:TE}{pos:Od}
theorem CQ(q:PE X a ta)(p:PE X b tb){pins:List (MD×NF)}{s:Mx}{σ:St}{H:Hp}{R:V->V->Hp->Prop}(I:Inv X pins σ H s)(h:ta σ H λx j=>tb σ j λy e=>R x y e){Q:Mv->Mx->Prop}{f:Mv->Mv->U5 Mv}(o:∀v u s2 x y e,Inv X pins σ e s2->RelV x v->RelV y u->R x y e->wpAny (MO X.prog X.w) X.A (f v u) Q X.xe s2):wpAny (MO X.prog X.w) X.A (N2 a X.env) (λv i=>wpAny (MO X.prog X.w) X.A (N2 b X.env) (λu g=>wpAny (MO X.prog X.w) X.A (f v u) Q X.xe g) X.xe i) X.xe s:=by
 refine aU (q pins s σ H _ I h) λv s1 d=>?_;obtain⟨x,j,t,l,n⟩:=d;refine aU (p pins s1 σ j _ t n) λu s2 d=>?_;obtain⟨y,e,r,k,m⟩:=d;exact o v u s2 x y e r l k m
theorem bg{op:Rj}{r:R2}(i:jG X (PC op) r)(k:PE X a ta)(j:PE X b tb):PE X (.BinOp a op b pos) (F0 r ta tb):=by
 intro d s e H Q I h;exact wpAny_BinOp (CQ k j I h λv u s2 x y m l g f q=>i d s2 e m x y v u Q l g f q)
theorem F1{op:UnaryOp}{r:V->Hp->VK->Prop}(i:JN X (unaryOp op) r)(j:PE X a ta):PE X (.UnaryOp op a pos) (LN r ta):=by
 intro d s e H Q I h;exact UnaryOp_ (aU (j d s e H _ I h) λv s1⟨x,l,k,f,g⟩=>i d s1 e l x v Q k f g)
theorem Jd{f:Mv->Mv->U5 Mv}{C:Int->Int->Prop}{g:Int->Int->Int}(WI:∀(i j:Int)(t u:Ut)(s:Mx)(Q:Mv->Mx->Prop)(E:Mv->Mx->Prop),C i j->Q (.int (g i j) s.toks) {s with toks:=s.toks+1}->wpAny (MO X.prog X.w) X.A (f (.int i t) (.int j u)) Q E s):jG X f (rI C λi j=>.int (g i j)):=by
 intro d s n H x y v u Q I l k h;obtain⟨i,j,rfl,rfl,m,q⟩:=h;obtain⟨t,rfl⟩:=l;obtain⟨e,rfl⟩:=k;exact WI i j t e s _ _ m ⟨.int (g i j),H,I.tok _,⟨_,rfl⟩,q⟩
theorem JP{f:Mv->Mv->U5 Mv}{g:Int->Int->Int}(WI:∀(i j:Int)(t u:Ut)(s:Mx)(Q:Mv->Mx->Prop)(E:Mv->Mx->Prop),Q (.int (g i j) s.toks) {s with toks:=s.toks+1}->wpAny (MO X.prog X.w) X.A (f (.int i t) (.int j u)) Q E s):jG X f (BP λi j=>.int (g i j)):=by
 intro d s m H x y v u Q I l k h;obtain⟨i,j,rfl,rfl,q⟩:=h;obtain⟨t,rfl⟩:=l;obtain⟨e,rfl⟩:=k;exact WI i j t e s _ _ ⟨.int (g i j),H,I.tok _,⟨_,rfl⟩,q⟩
theorem zB{f:Mv->Mv->U5 Mv}{g:Int->Int->Bool}(WI:∀(i j:Int)(t u:Ut)(s:Mx)(Q:Mv->Mx->Prop)(E:Mv->Mx->Prop),Q (.bool (g i j)) s->wpAny (MO X.prog X.w) X.A (f (.int i t) (.int j u)) Q E s):jG X f (BP λi j=>.bl (g i j)):=by
 intro d s m H x y v u Q I l k h;obtain⟨i,j,rfl,rfl,q⟩:=h;obtain⟨t,rfl⟩:=l;obtain⟨e,rfl⟩:=k;exact WI i j t e s _ _ ⟨.bl (g i j),H,I,rfl,q⟩
noncomputable def F2(i j:Int):Prop:=0<j/\j<1073741824
noncomputable def JQ(i j:Int):Prop:=0<=j/\j<=1000000/\i.natAbs<2^64
noncomputable def zC(i j:Int):Prop:=(-(2^64)<i/\i<2^64)\/(-(2^64)<j/\j<2^64)
theorem zC.ok{i j:Int}(h:zC i j):IntMulOk i j:=by
 rcases h with⟨e,d⟩|⟨e,d⟩;.exact .of_left (intBits_le_64 e d)
 .exact .of_right (intBits_le_64 e d)
theorem jH:jG X (PC .Add) (BP λi j=>.int (i+j)):=JP λ_ _ _ _ _ _ _ q=>add_int q
theorem fL:jG X (PC .Mult) (rI zC λi j=>.int (i*j)):=Jd λ_ _ _ _ _ _ _ d q=>mul_int q d.ok
theorem jk:jG X (PC .FloorDiv) (rI F2 λi j=>.int (i/j)):=Jd λi j _ _ _ _ _ d q=>by
 have f:(0:Int)<j:=d.1;have e:j<1073741824:=d.2;exact floordiv_int (by omega) (by rw[Int.fdiv_eq_ediv_of_nonneg i (by omega)];exact q) (.inl (PyProof.noPylong_small (by omega)))
theorem du:jG X (PC .Mod) (rI (λ_ j=>0<j) λi j=>.int (i%j)):=Jd λi j _ _ _ _ _ d q=>by
 have e:(0:Int)<j:=d;exact mod_int' (by omega) (by rw[Int.fmod_eq_emod_of_nonneg i (by omega)];exact q)
theorem CS:jG X (PC .Pow) (rI JQ λi j=>.int (i^j.toNat)):=Jd λ_ _ _ _ _ _ _ d q=>pow_int_small d.1 d.2.1 d.2.2 q
theorem LO{f:Mv->U5 Mv}{g:Int->Int}(WI:∀(i:Int)(t:Ut)(s:Mx)(Q:Mv->Mx->Prop)(E:Mv->Mx->Prop),Q (.int (g i) s.toks) {s with toks:=s.toks+1}->wpAny (MO X.prog X.w) X.A (f (.int i t)) Q E s):JN X f (rU λi=>.int (g i)):=by
 intro d s j H x v Q I e h;obtain⟨i,rfl,q⟩:=h;obtain⟨t,rfl⟩:=e;exact WI i t s _ _ ⟨.int (g i),H,I.tok _,⟨_,rfl⟩,q⟩
theorem CT:JN X (unaryOp .USub) (rU λi=>.int (-i)):=LO λ_ _ _ _ _ q=>neg_int q
end
section
variable{X:Cx}{a b c:MV}{ta tb tc:TE}{pos:Od}
theorem vU{pins:List (MD×NF)}{σ:St}{H:Hp}{s:Mx}{Q:VK}{k k':Bool}(I:Inv X pins σ H s)(q:Q (.bl k) H)(e:k=k'):EP X pins σ Q (.bool k') s:=by
 subst e;exact⟨.bl k,H,I,rfl,q⟩
theorem F3:jG X (NI .Lt) (BP λi j=>.bl (decide (i<j))):=zB λ_ _ _ _ _ _ _ q=>lt_int q
theorem F4:jG X (NI .LtE) (BP λi j=>.bl (decide (i<=j))):=zB λ_ _ _ _ _ _ _ q=>le_int q
theorem vV:jG X (NI .Gt) (BP λi j=>.bl (decide (j<i))):=zB λ_ _ _ _ _ _ _ q=>gt_int q
theorem BQ:jG X (NI .GtE) (BP λi j=>.bl (decide (j<=i))):=zB λ_ _ _ _ _ _ _ q=>ge_int q
theorem CU:jG X (NI .Is) (λx y H Q=>y=.aJ/\Q (.bl (decide (x=.aJ))) H):=by
 intro e s g H x y v u Q I d f h;obtain⟨rfl,q⟩:=h;cases f;refine is_none_gen (vU I q ?_);cases x<;>first
  |(cases d;rfl)|(obtain⟨t,rfl⟩:=d;rfl)
theorem zD:jG X (NI .IsNot) (λx y H Q=>y=.aJ/\Q (.bl (!decide (x=.aJ))) H):=by
 intro e s g H x y v u Q I d f h;obtain⟨rfl,q⟩:=h;cases f;refine isnot_none_gen (vU I q ?_);cases x<;>first
  |(cases d;rfl)|(obtain⟨t,rfl⟩:=d;rfl)
theorem g6(b:MV){op:PX}(h:op≠.In:=by decide)(d:op≠.NotIn:=by decide):Qw op b=My:=by
 have e1:(op==CmpOp.In)=My:=by cases op<;>first|rfl|exact absurd rfl h
 have e2:(op==CmpOp.NotIn)=My:=by cases op<;>first|rfl|exact absurd rfl d
 cases b<;>simp[Qw,e1,e2]
theorem zE{op:PX}{r:R2}(i:jG X (NI op) r)(l:PE X a ta)(k:PE X b tb)(j:Qw op b=My):PE X (.Compare a [op] [b] pos) (F0 r ta tb):=by
 intro d s e H Q I h;exact wpAny_Compare1 (CQ l k I h λv u s2 x y n m g f q=>i d s2 e n x y v u Q m g f q) j
noncomputable def BR(t:TE):TT:=λd H Q=>t d H λx e=>∃k,x=.bl k/\Q k e
theorem gm{op:PX}{r:R2}(o:jG X (NI op) r)(t:PE X a ta)(q:PE X b tb)(p:Qw op b=My):PT X (.Compare a [op] [b] pos) (BR (F0 r ta tb)):=by
 intro d s f H Q I h;refine wpAny_isTrue_Compare1 (aU (t d s f H _ I h) λv s1⟨x,E,B,j,n⟩=>aU (q d s1 f E _ B n) λu s2⟨y,D,A,i,m⟩=>aU (o d s2 f D x y v u _ A j i m) λc s3⟨z,C,w,g,k,e,l⟩=>?_) p;subst e;cases g;exact N_ ⟨C,w,l⟩
noncomputable def vW(r g:R2)(ta tb tc:TE):TE:=λd H Q=>ta d H λx j=>tb d j λy i=>r x y i λz e=>∃k,z=.bl k/\(if k=Mz then tc d e λf h=>g y f h Q else Q (.bl My) e)
theorem vX{op g:PX}{r m:R2}(F:jG X (NI op) r)(j:jG X (NI g) m)(L:PE X a ta)(K:PE X b tb)(J:PE X c tc)(G:lastMarks [op,g] [b,c]=My:=by with_unfolding_all rfl):PE X (.Compare a [op,g] [b,c] pos) (vW r m ta tb tc):=by
 intro f s i H Q I h;refine Compare_chain (aU (L f s i H _ I h) λv s1⟨x,S,O,B,E⟩=>chain_link (aU (K f s1 i S _ O E) λu s2⟨y,R,N,l,D⟩=>aU (F f s2 i R x y v u _ N B l D) λd s3⟨z,p,o,A,k,e,n⟩=>?_)) G;subst e;cases A;refine N_ ?_;cases k with
 |false=>exact ite_ff ⟨.bl My,p,o,rfl,n⟩|true=>exact ite_tt (chain_last (aU (J f s3 i p _ o n) λt s4⟨q,P,M,w,C⟩=>j f s4 i P y q u t Q M l w C))
noncomputable def F5(K:ME)(x:V)(H:Hp)(k:Bool):Prop:=match x with
 |.aJ=>k=My|.bl b=>k=b|.int i=>k=(i !=0)|.str y=>y.length<=MP/\k=((y.length:Int)!=0)|.Cy y=>y.size<=MP/\k=((y.size:Int)!=0)|.ref p=>(∃d,cP K H p d/\k=!d.isEmpty)\/(∃d,iE K H p d/\k=!d.isEmpty)\/∃e,H p=Mt (.dK e)/\k=!e.isEmpty|_=>False
theorem qy{e:Type}{d:List (e×V)}{vs:List (e×Mv)}(r:KV d vs):(!vs.isEmpty)=!d.isEmpty:=by cases r<;>rfl
theorem jI{xs:List V}{its:List Mv}(r:ak xs its):(!its.toArray.isEmpty)=!xs.isEmpty:=by cases r<;>simp
theorem fM:(MP:Nat)<2^63:=by rw[NR];decide
theorem CV:JO X (λx H Q=>∃k,F5 X.K x H k/\Q k H):=by
 intro A s E H x v Q I l h;obtain⟨k,e,q⟩:=h;have G:=fM;have F:MP=16777216:=NR;cases x with
 |aJ=>
  cases l;have d:k=My:=e;subst d;exact truthy_none ⟨H,I,q⟩|bl b=>
  cases l;have d:k=b:=e;subst d;exact N_ ⟨H,I,q⟩|int i=>
  obtain⟨t,rfl⟩:=l;have d:k=(i !=0):=e;subst d;exact PySem.P.truthy_int ⟨H,I,q⟩|str y=>
  obtain⟨t,rfl⟩:=l;obtain⟨C,d⟩:y.length<=MP/\k=((y.length:Int)!=0):=e;subst d;exact PySem.P.truthy_str (by omega) ⟨H,I.tok _,q⟩|Cy y=>
  obtain⟨t,rfl⟩:=l;obtain⟨C,d⟩:y.size<=MP/\k=((y.size:Int)!=0):=e;subst d;exact PySem.W.truthy_bytes (by omega) ⟨H,I.tok _,q⟩|ref p=>
  cases l;have d:(∃j,cP X.K H p j/\k=!j.isEmpty)\/(∃j,iE X.K H p j/\k=!j.isEmpty)\/∃f,H p=Mt (.dK f)/\k=!f.isEmpty:=e;rcases d with⟨j,n,d⟩|⟨j,n,d⟩|⟨f,n,d⟩
  .subst d;obtain⟨z,r,u,B⟩:=I.list n;have g:=r.length;exact wpAny_truthy_list u.isList (by simp only[MR];omega) ⟨H,I.tok _,by rw[jI r];exact q⟩
  .subst d;obtain⟨z,r,u,B⟩:=I.tuple n;have g:=r.length;exact truthy_tuple u (by simp only[MR];omega) ⟨H,I.tok _,by rw[jI r];exact q⟩
  .subst d;obtain⟨B,D,o,r,m⟩:f.length<=MP/\(p==Pn)=My/\∃o,KV f o/\s.heap.DictOf (ao X.prog X.w) p o:=I.ay p _ n;have g:f.length=o.length:=Paired.length r;exact wpAny_truthy_dict D m (by omega) ⟨H,I.tok _,by rw[qy r];exact q⟩|_=>exact(show False from e).elim
theorem vY(i:PE X a ta)(g:∀whole,Sd a X.env whole=(do let v<-whole;PV a.pos;RN [v] (truthy v))):PT X a (λσ H Q=>ta σ H λx H'=>∃k,F5 X.K x H' k/\Q k H'):=by
 intro d s σ H Q I h;exact isTrue_plain (aU (i d s σ H _ I h) λv s1⟨x,l,j,e,f⟩=>CV d s1 σ l x v Q j e f) (g _)
theorem vals1{x:V}{us:List Mv}(r:ak [x] us):∃u,us=[u]/\RelV x u:=by cases r with|cons e d=>cases d;exact⟨_,rfl,e⟩
theorem vals2{x y:V}{us:List Mv}(r:ak [x,y] us):∃u w',us=[u,w']/\RelV x u/\RelV y w':=by cases r with|cons g f=>cases f with|cons e d=>cases d;exact⟨_,_,rfl,g,e⟩
noncomputable def JR(K:ME)(x:V)(H:Hp)(n:Nat):Prop:=match x with
 |.str y=>y.length<=MP/\n=y.length|.Cy y=>y.size<=MP/\n=y.size|.ref p=>(∃d,cP K H p d/\n=d.length)\/∃d,iE K H p d/\n=d.length|_=>False
theorem vZ:cf X (.builtin "len") (λxs H Q=>∃x n,xs=[x]/\JR X.K x H n/\Q (.int n) H):=by
 intro m s w H xs z Q I r h;obtain⟨x,n,rfl,e,q⟩:=h;obtain⟨u,rfl,g⟩:=vals1 r;have B:=fM;have A:MP=16777216:=NR;cases x with
 |str y=>
  obtain⟨t,rfl⟩:=g;obtain⟨v,f⟩:y.length<=MP/\n=y.length:=e;subst f;exact len_str (by omega) ⟨.int _,H,I.tok _,⟨_,rfl⟩,q⟩|Cy y=>
  obtain⟨t,rfl⟩:=g;obtain⟨v,f⟩:y.size<=MP/\n=y.size:=e;subst f;exact PySem.W.len_bytes (by omega) ⟨.int _,H,I.tok _,⟨_,rfl⟩,q⟩|ref p=>
  cases g;have f:(∃xs,cP X.K H p xs/\n=xs.length)\/∃xs,iE X.K H p xs/\n=xs.length:=e;rcases f with⟨xs,l,f⟩|⟨xs,l,f⟩
  .subst f;obtain⟨k,i,j,o⟩:=I.list l;have d:=i.length;exact U_ j.isList (by simp only[MR];omega) ⟨.int xs.length,H,I.tok _,⟨_,by simp only[MR];rw[d]⟩,q⟩
  .subst f;obtain⟨k,i,j,o⟩:=I.tuple l;have d:=i.length;exact len_tuple j (by simp only[MR];omega) ⟨.int xs.length,H,I.tok _,⟨_,by simp only[MR];rw[d]⟩,q⟩|_=>exact(show False from e).elim
end
end L2
namespace L2
open PySem PySem.Spec PyProof.Rows
structure CW(h:Na)(x dx C:MD)(mA:M3->Option Mv):Prop where
 obj:h.get? x=Mt (Uu C dx)ns:h.Ns1 dx mA
 ne:dx≠x
theorem ui{h:Na}{g:MD}{d:M3->Option Mv}(n:h.Ns1 g d):∃c,h.get? g=Mt c/\∀name,UO name c=Mt (d name):=by
 obtain⟨o,f,p,j,hd,l,_,k⟩:=n;refine⟨o,j,λname=>?_⟩;have e:=k name;unfold nsFind findBy at e;rw[<-Vl]at e;unfold UO;rw[hd];dsimp only;split
 .rename_i y q;rw[q]at e;exact congrArg Mt e
 .rename_i q;rw[q]at e;have a:f.toList.any (·.refKey)=My:=by
   rw[List.any_eq_false];intro y i;obtain⟨z,t,b⟩:=l y (Array.mem_toList_iff.mp i);simp[DictEntry.refKey,b]
  have m:¬f.toList.any (·.refKey)=Mz:=by rw[a];exact Nx
  rw[if_neg m];exact congrArg Mt e
theorem CW.look{h:Na}{x c C:MD}{b:M3->Option Mv}(I:CW h x c C b):∃a,PySem.W.InstAt h x (Uu C c) C (Mt a)/\∀name,UO name a=Mt (b name):=let⟨a,d,e⟩:=ui I.ns;⟨a,⟨I.obj,rfl,rfl,d⟩,e⟩
theorem jD.some_of{v:V}{o:Option Mv}(r:jD (Mt v) o):∃u,o=Mt u/\RelV v u:=by cases o with
 |none=>exact(show False from r).elim|some u=>exact⟨u,rfl,r⟩
section
variable{P:MX}{w:M_}{H H':Hp}{h h':Na}{a C dx:MD}{fs fs':List (M3×V)}
theorem zF(ay:fH P w H h)(e:H a=Mt (.ins C dx fs)):∃b,CW h a dx C b/\(∀f,jD (fs.lookup f) (b f))/\PySem.Within b (fs.map (·.1))/\fs.length<=1000/\H dx=Mt (.own a):=by
 obtain⟨d,z,ne,ob,b,n,r,q⟩:=(show aQ P w H h a (.ins C dx fs)from ay a _ e);exact⟨b,⟨ob,n,ne⟩,r,q,z,d⟩
end
structure JS(K:ME)(C:MD):Prop where
 pg:PySem.W.plainGet K C Str.empty=Mz
 hd:PySem.W.hasDictIn K C=Mz
 po:PySem.W.plainOver K C=Mz
 sa:P_ K (.ref C) "__setattr__"=Mt (Mt (.builtin "object.__setattr__"))
theorem JS.get{K:ME}{C:MD}(c:JS K C)(f:M3):PySem.W.plainGet K C f=Mz:=c.pg
section
variable{X:Cx}{pins:List (MD×NF)}{σ:St}{H:Hp}{s:Mx}{a C dx:MD}{fs:List (M3×V)}{f:M3}{v:V}{A:Nc}{E:Mv->Mx->Prop}
theorem zG{prog:MX}{w:M_}{env:Sl}{e:MV}{f:M3}{pos:Od}{s:Mx}{Q:Mv->Mx->Prop}(c:Pw e f env (N2 e env)=N2 e env)(h:wpAny (MO prog w) A (N2 e env) (λo b=>wpAny (MO prog w) A (getAttr o f Mz) Q E b) E s):wpAny (MO prog w) A (N2 (.Attribute e f pos) env) Q E s:=Attribute_any_ h (by rw[arm_eval_Attribute,c])
end
section
variable{X:Cx}{pins:List (MD×NF)}{σ:St}{H:Hp}{s:Mx}{A:Nc}{E:Mv->Mx->Prop}{Q:Mv->Mx->Prop}{c:Mv}{b:Bool}
inductive i_(K:ME)(H:Hp):V->Mv->Prop where|aJ:i_ K H .aJ (.type "NoneType")|bl(x:Bool):i_ K H (.bl x) (.type "bool")|int(i:Int):i_ K H (.int i) (.type "int")|str(x:M3):i_ K H (.str x) (.type "str")|Ft(x:UInt64):i_ K H (.Ft x) (.type "float")|lst{a:MD}{xs:List V}(e:H a=Mt (.lst xs)):i_ K H (.ref a) (.type "list")|bo{a:MD}{o:NF}{xs:List V}(e:H a=Mt (.bo o (.lst xs))):i_ K H (.ref a) (.type "list")|tup{a:MD}{xs:List V}(e:H a=Mt (.tup xs)):i_ K H (.ref a) (.type "tuple")|dK{a:MD}{kvs:List (Key×V)}(e:H a=Mt (.dK kvs)):i_ K H (.ref a) (.type "dict")|dT{a:MD}{kvs:List (List Key×V)}(e:H a=Mt (.dT kvs)):i_ K H (.ref a) (.type "dict")|ins{a C dx:MD}{fs:List (M3×V)}(e:H a=Mt (.ins C dx fs))(cl:JS K C)(ha:P_ K (.ref C) "__class__"=Mt (Mt (.builtin "object.__class__")))(hn:PySem.W.specialIn K (.builtin "object.__class__") "__get__"=Mt (Mt (.builtin "getset_descriptor.__get__")))(htk:PySem.W.takesIn K (.builtin "object.__class__")=Mt Mz)(hm:PySem.W.mroIn K C (.type "object")=Mt Mz):i_ K H (.ref a) (.ref C)
theorem fi{x:V}{u t:Mv}(I:Inv X pins σ H s)(d:RelV x u)(ty:i_ X.K H x t)(e:Oi X.K t c=Mt b)(h:∀r,Q (.bool b) {s with toks:=r}):wpAny (MO X.prog X.w) A (call (.builtin "isinstance") [u,c]) Q E s:=by cases ty with
 |aJ=>cases(show u=M5 from d);exact NY PySem.W.kitx_none I.fB SH e (λz=>nomatch z) h|bl y=>cases(show u=Rw y from d);exact NY PySem.W.kitx_bool I.fB SH e (λz=>nomatch z) h|int i=>obtain⟨t,q⟩:=(show∃t,u=Qt i t from d);cases q;exact NY PySem.W.kitx_int I.fB SH e (λz=>nomatch z) h|str y=>obtain⟨t,q⟩:=(show∃t,u=Sy y t from d);cases q;exact NY PySem.W.kitx_str I.fB SH e (λz=>nomatch z) h|Ft y=>obtain⟨t,q⟩:=(show∃t,u=Value.float y t from d);cases q;exact NY PySem.W.kitx_float I.fB SH e (λz=>nomatch z) h|@lst a k f=>
  cases(show u=MW a from d);obtain⟨_,_,n,_,g⟩:=(show aQ X.prog X.w H s.heap a (.lst k)from I.ay a _ f);exact NY Tf I.fB ⟨_,g,rfl⟩ e (λz=>nomatch z) h|@bo a ob k f=>
  cases(show u=MW a from d);obtain⟨_,_,_,n,_,g⟩:=(show aQ X.prog X.w H s.heap a (.bo ob (.lst k))from I.ay a _ f);exact NY Tf I.fB ⟨_,g,rfl⟩ e (λz=>nomatch z) h|@tup a k f=>
  cases(show u=MW a from d);obtain⟨_,_,_,p⟩:=(show aQ X.prog X.w H s.heap a (.tup k)from I.ay a _ f);obtain⟨o,g,l,_⟩:=p;exact NY Vm I.fB ⟨o,g,l⟩ e (λz=>nomatch z) h|@dK a j f=>
  cases(show u=MW a from d);obtain⟨_,_,L,_,p⟩:=(show aQ X.prog X.w H s.heap a (.dK j)from I.ay a _ f);obtain⟨o,F,G,g,l,_⟩:=p;exact NY VA I.fB ⟨o,g,l.1⟩ e (λz=>nomatch z) h|@dT a j f=>
  cases(show u=MW a from d);obtain⟨_,_,k,_,o,F,G,g,l,_⟩:=(show aQ X.prog X.w H s.heap a (.dT j)from I.ay a _ f);exact NY VA I.fB ⟨o,g,l.1⟩ e (λz=>nomatch z) h|@ins a C P fs f cl D v m B=>
  cases(show u=MW a from d);obtain⟨N,O,_⟩:=zF I.ay f;obtain⟨M,J,_⟩:=O.look;exact NY (PySem.W.kitx_own (cl.get _) cl.hd D v m B) I.fB J e (λz=>nomatch z) h
end
end L2
namespace L2
open PySem PySem.Spec PyProof.Rows
structure bT(k:Nat)(A:Nc):Prop where
 hd:A.handled=MA
 dp:A.depth+3*k+5<recursionLimit
 un:A.units+16*k+200<NV
theorem bT.mono{j k:Nat}{A:Nc}(r:bT k A)(h:j<=k):bT j A:=⟨r.hd,by have:=r.dp;omega,by have:=r.un;omega⟩
theorem bT.deeper{k:Nat}{A:Nc}(r:bT (k+1) A)(env:Sl):bT k (A.deeper env):=⟨r.hd,by have:=r.dp;show A.depth+1+3*k+5<_;omega,by have:=r.un;show A.units+3+16*k+200<_;omega⟩
theorem qz{A:Nc}{C:MD}{us:List Mv}{a:List (M3×Mv)}:(A.under (.builtin "type.__call__" ⟨.ref C::us,a⟩)).depth=A.depth+1:=by first|rfl|simp[VB,Code.weight,Code.isCreation,Code.isGuard,Code.isCaller,Code.frames,VC,guardIds]
theorem qB{A:Nc}{C:MD}{us:List Mv}{a:List (M3×Mv)}:(A.under (.builtin "type.__call__" ⟨.ref C::us,a⟩)).units=A.units+1:=by first|rfl|simp[VB,Code.cUnits,Code.frames,VC]
theorem bT.make{k:Nat}{A:Nc}(r:bT (k+1) A)(C:MD)(us:List Mv)(a:List (M3×Mv)):bT k (A.under (.builtin "type.__call__" ⟨.ref C::us,a⟩)):=⟨r.hd,by have:=r.dp;rw[qz];omega,by have:=r.un;rw[qB];omega⟩
theorem bT.depth{k:Nat}{A:Nc}(r:bT k A):A.depth<recursionLimit:=by have:=r.dp;omega
theorem bT.units{k:Nat}{A:Nc}(r:bT k A):A.units+64<NV:=by have:=r.un;omega
noncomputable def F6:TA:=λ_ H Q=>Q [] H
noncomputable def F7(d:TE)(c:TA):TA:=λa H Q=>d a H λx f=>c a f λb e=>Q (x::b) e
section
variable{X:Cx}{e:MV}{es:List MV}{te:TE}{t:TA}{pos:Od}
theorem cR:PA X [] F6:=λ_ _ _ _ H Q I h=>VD ⟨[],H,I,.nil,h⟩
theorem a_(m:PE X e te)(l:PA X es t)(k:MS (e::es) X.env=(My,N2 e X.env)::MS es X.env:=by rfl):PA X (e::es) (F7 te t):=by
 intro pos a s c H Q I h;rw[k];show wpAny _ _ (spliced ((My,N2 e X.env)::Og pos (MS es X.env))) _ _ s;refine Vn (aU (m a s c H _ I h) λu s1 b=>?_);obtain⟨x,q,o,g,j⟩:=b;exact aU (l pos a s1 c q _ o j) λr s2⟨d,p,n,f,i⟩=>⟨x::d,p,n,.cons g f,i⟩
noncomputable def JT(t:TA):TE:=λc H Q=>t c H λa b=>a.length<=MP/\∀p,b p=MA->Q (.ref p) (upd b p (.tup a))
noncomputable def JU(t:TA):TE:=λc H Q=>t c H λa b=>a.length<=MP/\∀p,b p=MA->Q (.ref p) (upd b p (.lst a))
theorem CY{x1}(h:PA X es t):PE X (.Tuple es x1 pos) (JT t):=by
 intro a s f H Q I j;refine wpAny_Tuple_spliced (aU (h pos a s f H _ I j) λi s1⟨g,d,c,r,z,q⟩=>⟨by rw[<-r.length];exact z,?_⟩);have k:d s1.heap.objs.size=MA:=c.ay.fresh (MN _);refine⟨.ref s1.heap.objs.size,upd d s1.heap.objs.size (.tup g),c.laid (t':=s1.toks) (λb u e=>Mw _ e) (MN _) ?_,rfl,q _ k⟩;exact⟨z,i,r,⟨_,MJ _ rfl,rfl,_,rfl⟩⟩
theorem qC(h:PA X es t):PE X (.List es pos) (JU t):=by
 intro a s f H Q I j;refine wpAny_List_spliced (aU (h pos a s f H _ I j) λi s1⟨g,d,c,r,z,q⟩=>⟨by rw[<-r.length];exact z,?_⟩);have k:d s1.heap.objs.size=MA:=c.ay.fresh (MN _);refine⟨.ref s1.heap.objs.size,upd d s1.heap.objs.size (.lst g),c.laid (t':=s1.toks) (λb u e=>Mw _ e) (MN _) ?_,rfl,q _ k⟩;exact⟨z,i,0,r,MJ _ rfl⟩
end
noncomputable abbrev Sp:=List V->Hp->VK->XK->Prop
noncomputable abbrev sI:=List Sl->Hp->Mx->XK->Mv->Mx->Prop
structure qD(P:MX)(w:M_)(K:ME)(mg:M3->Option Mv)(base:Na)(A:Nc)(outer:List Sl)(s:Mx)(H:Hp):Prop where
 frames:A.frames=Mt outer
 mod:Mod K mg base
 bs:∀b o,base.get? b=Mt o->s.heap.get? b=Mt o/\H b=MA
 vM:base.objs.size<=s.heap.objs.size
 gi:s.heap.FunFrames base outer
 zu:∀b∈fA outer,H b=MA
 ay:fH P w H s.heap
 bare:R5 s.gens
noncomputable def CE(outer:List Sl)(P:MX)(w:M_)(H:Hp)(s:Mx)(Q:VK)(u:Mv)(s':Mx):Prop:=∃v a,s'.os=s.os/\R5 s'.gens/\Un (fA outer) [] H a s.heap s'.heap/\fH P w a s'.heap/\RelV v u/\Q v a
noncomputable def CR(CX:sI)(outer:List Sl)(P:MX)(w:M_)(H:Hp)(s:Mx)(Q:VK)(E:XK)(r:Wn)(s':Mx):Prop:=match r with
 |.ok (.ret u)=>CE outer P w H s Q u s'|.ok _=>False|.error e=>CX outer H s E e s'
structure cw(P:MX)(w:M_)(K:ME)(mg:M3->Option Mv)(base:Na)(CX:sI)(k:Nat)(f:MD)(fd:N8)(ps:List M3)(sp:Sp):Prop where
 len:∀vs H Q E,sp vs H Q E->vs.length=ps.length
 run:∀(A:Nc)(outer:List Sl)(s:Mx)(H:Hp)(args:Args)(us:List Mv)(vs:List V)(Q:VK)(E:XK),bT k A->qD P w K mg base A outer s H->WB s fd args (ps.zip us)->ak vs us->sp vs H Q E->codeAny (MO P w) A (.call (.ref f) args) (CR CX outer P w H s Q E) s
theorem cw.mono{P:MX}{w:M_}{K:ME}{mg:M3->Option Mv}{base:Na}{CX:sI}{j k:Nat}{f:MD}{fd:N8}{ps:List M3}{sp:Sp}(F:cw P w K mg base CX j f fd ps sp)(h:j<=k):cw P w K mg base CX k f fd ps sp:=⟨F.len,λA outer s H a c b Q E d=>F.run A outer s H a c b Q E (d.mono h)⟩
theorem cw.imp{P:MX}{w:M_}{K:ME}{mg:M3->Option Mv}{base:Na}{CX:sI}{k:Nat}{f:MD}{fd:N8}{ps:List M3}{sp a:Sp}(F:cw P w K mg base CX k f fd ps sp)(h:∀vs H Q E,a vs H Q E->sp vs H Q E):cw P w K mg base CX k f fd ps a:=⟨λvs H Q E q=>F.len vs H Q E (h _ _ _ _ q),λA outer s H b c vs Q E g i j d e=>F.run A outer s H b c vs Q E g i j d (h _ _ _ _ e)⟩
theorem qD.make{P:MX}{w:M_}{K:ME}{mg:M3->Option Mv}{base:Na}{A:Nc}{outer:List Sl}{s:Mx}{H:Hp}(e:qD P w K mg base A outer s H)(C:MD)(us:List Mv)(a:List (M3×Mv)):qD P w K mg base (A.under (.builtin "type.__call__" ⟨.ref C::us,a⟩)) outer s H:=⟨by first|exact e.frames|(simpa[VB,Code.envs,VC,pushEnvs]using e.frames),e.mod,e.bs,e.vM,e.gi,e.zu,e.ay,e.bare⟩
section
variable{X:Cx}{pins:List (MD×NF)}{σ:St}{H:Hp}{s s':Mx}
theorem Inv.uj(I:Inv X pins σ H s):qD X.prog X.w X.K X.mg X.base X.A X.stack s H:=⟨I.ok.frames,I.ok.mod,I.bs,Nw I.ok.vM I.sz,I.stack,I.ji,I.ay,I.bare⟩
theorem Inv.after{Q:VK}{u:Mv}(I:Inv X pins σ H s)(h:CE X.stack X.prog X.w H s Q u s'):EP X pins σ Q u s':=by
 obtain⟨v,e,os,bare,un,ay,r,q⟩:=h;obtain⟨c,g,d,t,a⟩:=s';obtain rfl:a=s.os:=os;exact⟨v,e,I.call (h':=c) (g':=g) (d':=d) (t':=t) (ch:=[]) un ay bare (λb z=>absurd z (by simp)),r,q⟩
end
noncomputable def F8(sp:Sp)(a:List V)(E:XK)(t:TA):TE:=λb H Q=>t b H λc d=>sp (c++a) d Q E
noncomputable def Binds(K:ME)(fd:N8)(ps:List M3)(ds:List Mv):Prop:=∀(s:Mx)(a:List Mv),K.In s.heap->(a++ds).length=ps.length->WB s fd ⟨a,[]⟩ (ps.zip (a++ds))
theorem Binds.all{K:ME}{fd:N8}{ps:List M3}(h:∀us:List Mv,us.length=ps.length->VE fd ⟨us,[]⟩=pure (ps.zip us)):Binds K fd ps []:=λs us _ a=>by
 rw[NT]at a⊢;exact .of_eq (h us a)
noncomputable def qF(CX:sI)(X:Cx)(E:XK):Prop:=∀(a:List (MD×NF))(c:St)(H:Hp)(s:Mx)(e:Mv)(b:Mx),Inv X a c H s->CX X.stack H s E e b->X.xe e b
section
variable{X:Cx}{CX:sI}{k:Nat}{f C:MD}{fd:N8}{ps:List M3}{sp:Sp}{dvs:List V}{ds:List Mv}{E:XK}{x m:M3}{p pos apos:Od}{e o:MV}{es:List MV}{ta:TE}{t:TA}
theorem CZ{pins:List (MD×NF)}{σ:St}{H:Hp}{s:Mx}{Q:VK}{us:List Mv}{vs:List V}(F:cw X.prog X.w X.K X.mg X.base CX k f fd ps sp)(g:bT k X.A)(j:Binds X.K fd ps ds)(hd:ak dvs ds)(d:qF CX X E)(I:Inv X pins σ H s)(r:ak vs us)(h:sp (vs++dvs) H Q E):wpAny (MO X.prog X.w) X.A (call (.ref f) us) (EP X pins σ Q) X.xe s:=by
 have b:ak (vs++dvs) (us++ds):=r.append hd;have i:(us++ds).length=ps.length:=by rw[<-b.length];exact F.len _ _ _ _ h
 refine Ry (OH (F.run X.A X.stack s H ⟨us,[]⟩ (us++ds) (vs++dvs) Q E g I.uj (j s us I.fB i) b h) λr c a=>?_);cases r with
 |error e=>exact d pins σ H s e c I a|ok l=>cases l with
  |ret u=>exact I.after a|next=>exact N7 a|brk=>exact N7 a|cont=>exact N7 a
theorem zH(F:cw X.prog X.w X.K X.mg X.base CX k f fd ps sp)(j:bT k X.A)(u:Gl X x)(l:X.mg x=Mt (.ref f))(n:QP X.K (.ref f)=Mz)(y:Binds X.K fd ps ds)(hd:ak dvs ds)(i:qF CX X E)(z:PA X (e::es) t)(c:(x==("__debug__":M3))=My:=by decide)(v:MS (e::es) X.env=(My,N2 e X.env)::MS es X.env:=by rfl)(b:(Og pos (MS es X.env)).any (·.1)=My:=by rfl):PE X (.Call (.Name x p) (e::es) [] pos) (F8 sp dvs E t):=by
 intro a s g H Q I h;refine O5 (fg I u l ?_ c);refine Vo (h₀:=X.base) I.ok.mod.zt n (aU (z pos a s g H _ I h) λD s1⟨B,G,d,r,q⟩=>⟨d.fB,?_⟩) v b;exact CZ F j y hd i d r q
end
structure bI(N P:List M3)(sc:OJ):Prop where
 kind:sc.kind=.function
 co:sc.isCoroutine=My
 gen:sc.isGenerator=My
 nd:N.Nodup
 pre:N.take P.length=P
 par:∀x∈P,sc.names.lookup x=Mt .local\/sc.names.lookup x=Mt .cell
 C0:∀y∈sc.names,y.2≠.free
theorem lL{kindOf:M3->Option Qa}{x:M3}:∀{a:List (M3×Mv)}{m:M3->Option Mv},(∀v,(x,v)∉a)->Wo kindOf a m x=m x
 |[],_,_=>rfl|(n,v)::r,m,h=>by
  unfold Wo;rw[lL λw hw=>h w (MM _ hw)];split
  .have:x≠n:=by rintro rfl;exact h v MG
   simp[this]
  .rfl
theorem lM{kindOf:M3->Option Qa}{x:M3}:∀{a:List (M3×Mv)}{m:M3->Option Mv},(∀v,(x,v)∉a)->Wp kindOf a m x=m x
 |[],_,_=>rfl|(n,v)::r,m,h=>by
  unfold Wp;rw[lM λw hw=>h w (MM _ hw)];split;.rfl
  .have:x≠n:=by rintro rfl;exact h v MG
   simp[this]
theorem lN{kindOf:M3->Option Qa}{x:M3}{v:Mv}:∀{P:List M3}{vs:List Mv}{i:Nat}{m:M3->Option Mv},P.Nodup->P[i]?=Mt x->vs[i]?=Mt v->kindOf x=Mt .local->Wo kindOf (P.zip vs) m x=Mt v
 |[],_,_,_,_,h,_,_=>by simp at h|_::_,[],_,_,_,_,h,_=>by simp at h|p::P,w::vs,0,m,nd,b,a,c=>by
  simp at b a;subst b;subst a;show Wo kindOf ((p,w)::P.zip vs) m p=_;unfold Wo;rw[lL λv d=>(List.nodup_cons.mp nd).1 (Uv d).1,if_pos c];simp|p::P,w::vs,i+1,m,nd,b,a,c=>by
  show Wo kindOf ((p,w)::P.zip vs) m x=_;unfold Wo;exact lN (i:=i) (List.nodup_cons.mp nd).2 (by simpa using b) (by simpa using a) c
theorem lO{kindOf:M3->Option Qa}{x:M3}{v:Mv}:∀{P:List M3}{vs:List Mv}{i:Nat}{m:M3->Option Mv},P.Nodup->P[i]?=Mt x->vs[i]?=Mt v->kindOf x≠Mt .local->Wp kindOf (P.zip vs) m x=Mt v
 |[],_,_,_,_,h,_,_=>by simp at h|_::_,[],_,_,_,_,h,_=>by simp at h|p::P,w::vs,0,m,nd,b,a,c=>by
  simp at b a;subst b;subst a;show Wp kindOf ((p,w)::P.zip vs) m p=_;unfold Wp;rw[lM λv d=>(List.nodup_cons.mp nd).1 (Uv d).1,if_neg c];simp|p::P,w::vs,i+1,m,nd,b,a,c=>by
  show Wp kindOf ((p,w)::P.zip vs) m x=_;unfold Wp;exact lO (i:=i) (List.nodup_cons.mp nd).2 (by simpa using b) (by simpa using a) c
noncomputable def start(N:List M3)(vs:List V):St:=vs.map Mt++OQ (N.length-vs.length) MA
noncomputable def g9(CX:sI)(P:MX)(w:M_)(K:ME)(mg:M3->Option Mv)(base:Na)(N:List M3)(b:M3)(a:OJ)(f:MD)(cd:Mv)(A:Nc)(outer:List Sl)(s:Mx)(H:Hp)(E:XK):Cx where
 prog:=P;w:=w;K:=K;mg:=mg;base:=base;A:=A.deeper (Tp b a s.heap.objs.size f cd);N:=N;bA:=s;fJ:=H;env:=Tp b a s.heap.objs.size f cd;outer:=outer;stack:=Tp b a s.heap.objs.size f cd::outer;ex:=[];calm:=Mz;fn:=λ_=>Mz;pn:=[];xe:=λe d=>wpAny (MO P w) (A.deeper (Tp b a s.heap.objs.size f cd)) (WC (Tp b a s.heap.objs.size f cd) e) (λ_ c=>CX outer H s E e c) (λg c=>CX outer H s E g c) d
theorem ot{sc:OJ}{n:Nat}{x:M3}(h:sc.names.lookup x=Mt .cell):∃c,(cellsFrom n sc.names []).lookup x=Mt c:=by
 have q:=T_ sc.names n [] (.inl h);exact Option.isSome_iff_exists.mp q
theorem uk{CX:sI}{P:MX}{w:M_}{K:ME}{mg:M3->Option Mv}{base:Na}{N ps:List M3}{g:M3}{d:OJ}{f:MD}{cd:Mv}{A:Nc}{outer:List Sl}{s s1:Mx}{H:Hp}{E:XK}{us:List Mv}{vs:List V}(S:bI N ps d)(hd:A.handled=MA)(e0:qD P w K mg base A outer s H)(L:vs.length=ps.length)(r:ak vs us)(x:InCallC s s.heap.objs.size (Wo (Tp g d s.heap.objs.size f cd).kindOf (ps.zip us) λ_=>MA) (cellsFrom (s.heap.objs.size+1) d.names []) (Wp (Tp g d s.heap.objs.size f cd).kindOf (ps.zip us) λ_=>MA) s1):Inv (g9 CX P w K mg base N g d f cd A outer s H E) [] (start N vs) H s1:=by
 have G:ps.length<=N.length:=by have:=congrArg Oc S.pre;rw[P9]at this;omega
 obtain⟨C,J,rfl,D⟩:=x.done;have l:∀b:MD,b∉(g9 CX P w K mg base N g d f cd A outer s H E).ex:=λb z=>absurd (show b∈([]:List MD)from z) (by simp);refine⟨⟨e0.mod,S.kind,rfl,rfl,MN _,λy z c C j=>?_,λy m=>?_,λy c _ h=>?_,λ_=>hd,Around.frames_deeper e0.frames,.inr ⟨rfl,rfl⟩,λb z=>absurd z (l b),e0.bs,e0.vM,λb _ _=>l b,λb z=>absurd z (l b),e0.gi,e0.zu⟩,rfl,e0.bare,Un.kept D,⟨_,x.toInCall.ns,λi y v C j M=>?_⟩,λy c h=>⟨_,x.cell y c h⟩,e0.ay.fresh (MN _),λy c h=>?_,λp t=>absurd (show p∈([]:List (MD×NF))from t) (by simp),e0.ay.kept D,?_⟩;.exact name_of_addr x.apart (OE C) (OE j)
 .have m:d.names.lookup y=Mt .cell\/d.names.lookup y=Mt .free:=m;rcases m with m|m;.exact ot m
  .exact absurd rfl (S.C0 _ (OE m))
 .exact Ss (x.above y c (OE h))
 .have B:i<vs.length:=by
   unfold start at j;by_cases B:i<vs.length;.exact B
   .rw[Nt (by simpa using B)]at j;rw[Pj]at j;split at j<;>cases j
  have I:vs[i]?=Mt v:=by
   unfold start at j;rw[Oe (by simpa using B),Nq]at j;cases e:vs[i]? with
   |none=>rw[e]at j;cases j|some a=>rw[e]at j;cases j;rfl
  obtain⟨u,hu,F⟩:=r.get I;have t:ps[i]?=Mt y:=by rw[<-S.pre,Ri (by omega)];exact C
  have o:ps.Nodup:=by rw[<-S.pre];exact S.nd.sublist (Vz _ _)
  refine⟨u,F,?_⟩;rcases S.par y (Nz t)with k|k;.exact .inl ⟨k,lN o t hu k⟩
  .obtain⟨c,e⟩:=ot (n:=s.heap.objs.size+1) k;refine .inr ⟨.inl k,c,e,?_⟩;have q:=x.cell y c e;rw[lO o t hu (by show d.names.lookup y≠_;rw[k];decide)]at q;exact q
 .exact e0.ay.fresh (Ss (x.above y c (OE h)))
 .unfold start;show _=N.length;rw[Of,MT,O2];omega
theorem v5{CX:sI}{P:MX}{w:M_}{K:ME}{mg:M3->Option Mv}{base:Na}{k:Nat}{f:MD}{name c:M3}{g:TH}{body:List OM}{a:OJ}{O kV p M d ct Y:Mv}{T X:Option MD}{D:Array (Option Mv)}{N ps:List M3}{sp:Sp}(lk:K.lookup f=Mt ⟨Y,X,.func (Ua name c g body a O kV p M T d ct),D⟩)(L:Oy K d c=Mz)(S:bI N ps a)(len:∀vs H Q E,sp vs H Q E->vs.length=ps.length)(j:∀(A:Nc)(outer:List Sl)(s:Mx)(H:Hp)(vs:List V)(Q:VK)(E:XK),bT k (A.deeper (Tp c a s.heap.objs.size f d))->sp vs H Q E->∃t,n9 (g9 CX P w K mg base N c a f d A outer s H E) body t/\t {nx:=λ_ H'=>Q .aJ H',rt:=Q} (start N vs) H):cw P w K mg base CX (k+1) f (Ua name c g body a O kV p M T d ct) ps sp:=by
 refine⟨len,λA outer s H R W vs Q E G e0 hb r m=>?_⟩;have hl:=len _ _ _ _ m;have U:K.In s.heap:=e0.mod.zt.keeps λb o e=>(e0.bs b o e).1;have F:s.heap.NoLimit:=e0.mod.nolimit.keeps λb o e=>(e0.bs b o e).1;have i:∀y∈ps.zip W,a.names.lookup y.1=Mt .local\/(a.names.lookup y.1=Mt .cell/\((cellsFrom (s.heap.objs.size+1) a.names []).lookup y.1).isSome=Mz):=λz Z=>by
  obtain⟨n,v⟩:=z;rcases S.par n (Uv Z).1 with q|q;.exact .inl q
  .exact .inr ⟨q,T_ _ _ _ (.inl q)⟩
 refine codeAny_call_function G.depth (U _ _ lk) rfl S.co S.gen rfl (Vp U L) (hb _ _ _ _ ?_);refine wpAny_newFunctionEnv_cells S.kind i λenv he s1 x=>?_;subst he;refine⟨F.keeps x.toInCall.keep,codeAny_func ?_⟩;obtain⟨t,ht,hq⟩:=j A outer s H vs Q E (G.deeper _) m;have I:Inv (g9 CX P w K mg base N c a f d A outer s H E) [] (start N vs) H s1:=uk S G.hd e0 hl r x;refine N3 (ht [] s1 (start N vs) H _ I hq) (λfl B l=>?_) λe B l=>l;have fin:∀{h:St}{H':Hp}{v:V}{u:Mv},Inv (g9 CX P w K mg base N c a f d A outer s H E) [] h H' B->RelV v u->Q v H'->CE outer P w H s Q u B:=λ{h H' v u}J C q=>⟨v,H',J.os,J.bare,J.base,J.ay,C,q⟩;cases fl with
 |ret u=>
  obtain⟨v,h,H',J,C,q⟩:=l;exact fin J C q|next=>
  obtain⟨h,H',J,q⟩:=l;exact fin (v:=V.aJ) (u:=M5) J rfl q|brk=>
  obtain⟨_,_,_,q⟩:=l;exact N7 q|cont=>
  obtain⟨_,_,_,q⟩:=l;exact N7 q
end L2
namespace L2
open PySem PySem.Spec PyProof.Rows
section
variable{X:Cx}{x:M3}{p pos:Od}{e:MV}{es:List MV}{t:TA}{id T:String}{r:List V->Hp->VK->Prop}
noncomputable def Je(r:List V->Hp->VK->Prop)(t:TA):TE:=λa H Q=>t a H λb c=>r b c Q
theorem dy(q:cf X (.builtin id) r)(n:Gl X x)(m:X.mg x=MA)(k:OB x=Mt (.builtin id))(u:PA X (e::es) t)(l:x≠"__name__":=by decide)(c:(x==("__debug__":M3))=My:=by decide)(o:MS (e::es) X.env=(My,N2 e X.env)::MS es X.env:=by rfl)(b:(Og pos (MS es X.env)).any (·.1)=My:=by rfl):PE X (.Call (.Name x p) (e::es) [] pos) (Je r t):=by
 intro a s d H Q I h;refine O5 (dO I n m k ?_ l c);exact PyProof.Rows.callWith_builtin1 (aU (u pos a s d H _ I h) λg s1⟨f,w,v,i,j⟩=>q a s1 d w f g Q v i j) o b
theorem lP(q:cf X (.type T) r)(n:Gl X x)(m:X.mg x=MA)(k:OB x=Mt (.type T))(u:PA X (e::es) t)(l:x≠"__name__":=by decide)(c:(x==("__debug__":M3))=My:=by decide)(o:MS (e::es) X.env=(My,N2 e X.env)::MS es X.env:=by rfl)(b:(Og pos (MS es X.env)).any (·.1)=My:=by rfl):PE X (.Call (.Name x p) (e::es) [] pos) (Je r t):=by
 intro a s d H Q I h;refine O5 (dO I n m k ?_ l c);exact Ot (aU (u pos a s d H _ I h) λg s1⟨f,w,v,i,j⟩=>q a s1 d w f g Q v i j) o b
theorem qG(j:cf X (.type T) r)(i:Gl X x)(g:X.mg x=MA)(d:OB x=Mt (.type T))(f:x≠"__name__":=by decide)(b:(x==("__debug__":M3))=My:=by decide):PE X (.Call (.Name x p) [] [] pos) (Je r F6):=by
 intro a s c H Q I h;refine O5 (dO I i g d ?_ f b);exact PyProof.Rows.callWith_type0 (j a s c H [] [] Q I .nil h)
end
end L2
namespace HT
open PySem PyProof.Rows
noncomputable def lexLt:List Int->List Int->Bool
 |[],[]=>My|[],_::_=>Mz|_::_,[]=>My|x::b,y::a=>if x=y then lexLt b a else decide (x<y)
theorem cV(x y:Int)(xs ys:List Int):lexLt (x::xs) (y::ys)=if x=y then lexLt xs ys else decide (x<y):=rfl
section
variable{prog:MX}{w:M_}{A:Nc}{E:Mv->Mx->Prop}{s:Mx}
theorem zI{t b:MD}{vs a:List Mv}{Q:Mv->Mx->Prop}(q:V6 s.heap t vs.toArray)(r:V6 s.heap b a.toArray)(l:vs≠[])(v:a=[]->Q (.ref t) s)(u:a≠[]->Q (.ref s.heap.objs.size) {s with heap:=s.heap.push {cls:=.type "tuple",data:=.seq (vs++a).toArray}})(hsz:vs.length+a.length<=MP):wpAny (MO prog w) A (PC .Add (.ref t) (.ref b)) Q E s:=by
 obtain⟨⟨cls,o,i,k⟩,j,m,n,hd⟩:=id q;obtain⟨⟨p,h,data2,d⟩,c,g,n2,f⟩:=id r;simp only at m hd g f;subst m hd g f;have e:vs.toArray++a.toArray=(vs++a).toArray:=by simp
 by_cases hw:a=[]
 .exact VF ⟨_,j,rfl⟩ ⟨_,c,rfl⟩ TJ Ve RO RF (Rk _ _) (tuple_addW1 t b vs.toArray a.toArray n n2 o h k d (by simpa using l) (by simp[hw])) ⟨j,c,v hw⟩
 .refine VF ⟨_,j,rfl⟩ ⟨_,c,rfl⟩ TJ Ve RO RF (Rk _ _) (tuple_addW2 t b vs.toArray a.toArray n n2 o h k d (by simpa using l) (by simpa using hw) (by rw[MR,MR];exact hsz)) ⟨j,c,?_⟩;rw[e];exact u hw
noncomputable def bL(n d:Nat):Option Int->Nat
 |none=>d|some v=>if v<0 then(v+(n:Int)).toNat else min v.toNat n
theorem v7(n d:Nat):bL n d MA=d:=rfl
theorem zJ(n d k:Nat):bL n d (Mt (k:Int))=min k n:=by
 show(if(k:Int)<0 then((k:Int)+(n:Int)).toNat else min (k:Int).toNat n)=min k n;rw[if_neg (by omega),Pk]
theorem C1(n d:Nat)(hd:d<=n)(o:Option Int):bL n d o<=n:=by cases o with
 |none=>exact hd|some v=>
  show(if v<0 then(v+(n:Int)).toNat else min v.toNat n)<=n;by_cases a:v<0;.rw[if_pos a];omega
  .rw[if_neg a];exact Nat.min_le_right _ _
theorem sJ(v:Int)(n d:Nat):(if v<0 then max (v+(n:Int)) 0 else min v (n:Int))=((bL n d (Mt v):Nat):Int):=by
 show(if v<0 then max (v+(n:Int)) 0 else min v (n:Int))=(((if v<0 then(v+(n:Int)).toNat else min v.toNat n):Nat):Int);by_cases a:v<0;.simp only[if_pos a];omega
 .simp only[if_neg a];omega
theorem qH(lo a:Option Int)(n:Nat):Q_ lo a 1 (n:Int)=(((bL n 0 lo:Nat):Int),((bL n n a:Nat):Int)):=by
 have b:¬((1:Int)<0):=by omega
 unfold Q_;simp only[b,if_false];refine Prod.ext ?_ ?_;.cases lo with
  |none=>rfl|some v=>exact sJ v n 0
 .cases a with
  |none=>rfl|some v=>exact sJ v n n
theorem qI(i j:Nat):PJ (i:Int) (j:Int) 1=j-i:=by
 unfold PJ;have a:(1:Int)>0:=by omega
 simp only[a,if_true,Int.ediv_one];split<;>omega
theorem jJ{v:Mv}{o:Option Int}{Q:Option Int->Mx->Prop}(p:Ub v o)(h:Q o s):wpAny (MO prog w) A (Builtin.Slice.slicePartIndex v) Q E s:=by cases p with
 |none=>exact slicePart_none h|int i t=>exact slicePart_int h
theorem dz{f:MD}{e d:Mv}{lo b:Option Int}{n:Nat}{Q:Int×Int×Nat->Mx->Prop}(i:s.heap.IsSliceOf f e d .none)(g:Ub e lo)(pu:Ub d b)(h:Q (((bL n 0 lo:Nat):Int),1,bL n n b-bL n 0 lo) s):wpAny (MO prog w) A (SI (.ref f) (pure (n:Int))) Q E s:=by
 obtain⟨os,a,j,c⟩:=id i;unfold SI Builtin.Slice.sliceFields;refine Ms (Ms (NJ a c (x:=e) rfl (Ms (NJ a c (x:=d) rfl (Ms (NJ a c (x:=.none) rfl (Mu ?_)))))));refine Ms (slicePart_none ?_);show wpAny _ _ (if((1:Int)==0)=Mz then _ else _) _ _ s;rw[if_neg (by decide)];refine Ms (jJ g (Ms (jJ pu (Ms (Mu ?_)))));show wpAny _ _ (match Q_ lo b 1 (n:Int)with|(lo,b)=>pure (lo,(1:Int),PJ lo b 1)) _ _ s;rw[qH lo b n];show wpAny _ _ (pure (((bL n 0 lo:Nat):Int),(1:Int),PJ ((bL n 0 lo:Nat):Int) ((bL n n b:Nat):Int) 1)) _ _ s;rw[qI];exact Mu h
theorem v8(xs:Array Mv)(i k:Nat):((N6 k).filterMap λ(m:Nat)=>xs[((i:Int)+(m:Int)*1).toNat]?).toArray=((xs.toList.drop i).take k).toArray:=by
 have e:(λ(m:Nat)=>xs[((i:Int)+(m:Int)*1).toNat]?)=λm=>xs[i+m]?:=by
  funext m;have:((i:Int)+(m:Int)*1).toNat=i+m:=by omega
  rw[this]
 rw[e];have:=pick_run xs i k;rw[List.filterMap_map]at this;have e2:((λx=>xs[x]?)∘λx=>i+x)=λm=>xs[i+m]?:=rfl;rw[e2]at this;rw[this]
theorem gp{t d:MD}{items:Array Mv}{k j:Mv}{lo b:Option Int}{Q:Mv->Mx->Prop}(c:V6 s.heap t items)(l:s.heap.IsSliceOf d k j .none)(n:Ub k lo)(pu:Ub j b)(hw:¬(bL items.size 0 lo=0/\bL items.size items.size b=items.size))(h:Q (.ref s.heap.objs.size) {s with heap:=s.heap.push {cls:=.type "tuple",data:=.seq ((items.toList.drop (bL items.size 0 lo)).take (bL items.size items.size b-bL items.size 0 lo)).toArray}})(hsz:items.size<=MP):wpAny (MO prog w) A (Uc (.ref t) (.ref d)) Q E s:=by
 have a:sizeOk (.seq ((items.toList.drop (bL items.size 0 lo)).take (bL items.size items.size b-bL items.size 0 lo)).toArray):=by
  show((items.toList.drop (bL items.size 0 lo)).take (bL items.size items.size b-bL items.size 0 lo)).toArray.size<=MP;rw[MR,P9,Q3,OW];omega
 have u:bL items.size items.size b<=items.size:=C1 _ _ (MN _) b;obtain⟨os,e,g,o⟩:=id l;have i:s.TypeIs (.ref d) "slice":=⟨os,e,g⟩;unfold Uc;try with_reducible refine M2 ?_
 first|refine Ms (Mu ?_)|skip
 refine Ms (VG c.typeIs (by decide) ?_);refine Ms (NB (name:=MF "__getitem__") c.typeIs O0 (Ni O0 c.typeIs entry_tuple_getitem ?_ (Vq _ _)));show wpAny _ _ (QQ (.ref t)>>=_) _ _ s;refine Ms (tupleItemsOf_ c ?_);refine Ms (Q5 i ?_);rw[if_pos (by decide)];refine Ms (dz l n pu ?_);have f:¬((((bL items.size 0 lo:Nat):Int)==0&&(1:Int)==1&&(bL items.size items.size b-bL items.size 0 lo)==items.size)=Mz):=by
  intro q;rw[ML,ML]at q;have r:((bL items.size 0 lo:Nat):Int)=0:=eq_of_beq q.1.1;have p:bL items.size items.size b-bL items.size 0 lo=items.size:=eq_of_beq q.2;exact hw ⟨by omega,by omega⟩
 show wpAny _ _ (if(((bL items.size 0 lo:Nat):Int)==0&&(1:Int)==1&&(bL items.size items.size b-bL items.size 0 lo)==items.size)=Mz then _ else _) _ _ s;rw[if_neg f,v8];first
  |exact Ms (m:=P1 _) (Nd (Mu ⟨_,rfl,Mu h⟩) a)|exact Ms (m:=P1 _) (Nd (Ms (Mu (Mu ⟨_,rfl,Mu h⟩))) a)|exact Ms (Ms (m:=P1 _) (Nd (Mu (Mu ⟨_,rfl,Mu h⟩)) a))|exact Ms (Ms (m:=P1 _) (Nd (Mu ⟨_,rfl,Mu h⟩) a))
end
end HT
namespace L2
open PySem PySem.Spec PyProof.Rows
noncomputable abbrev TO:=St->Hp->(Option Int->Hp->Prop)->Prop
noncomputable def PO(X:Cx)(e:Option MV)(t:TO):Prop:=∀(a:List (MD×NF))(s:Mx)(b:St)(H:Hp)(Q:Option Int->Hp->Prop),Inv X a b H s->t b H Q->wpAny (MO X.prog X.w) X.A (evalPart e X.env) (λu d=>∃o c,Inv X a b c d/\Ub u o/\Q o c) X.xe s
noncomputable def zK:TO:=λ_ H Q=>Q MA H
noncomputable def F9(t:TE):TO:=λa H Q=>t a H λx b=>∃i,x=.int i/\Q (Mt i) b
theorem intsAre_of{ns:List Int}:∀{us:List Mv},ak (ns.map V.int) us->PY us ns:=by induction ns with
 |nil=>intro us r;rw[Q6]at r;cases r;exact .nil|cons n ns c=>
  intro us r;rw[M9]at r;cases r with|cons b a=>
   obtain⟨t,e⟩:=b;subst e;exact .cons n t (c a)
section
variable{X:Cx}{e:MV}{te:TE}{lo hi:Option MV}{tl th:TO}{pos p2:Od}
theorem sL:PO X MA zK:=by
 intro a s b H Q I h;rw[evalPart_none];exact Mu ⟨MA,H,I,.none,h⟩
theorem sM(h:PE X e te):PO X (Mt e) (F9 te):=by
 intro a s c H Q I hw;rw[evalPart_some];refine aU (h a s c H _ I hw) λu s1 b=>?_;obtain⟨x,j,g,d,f⟩:=b;obtain⟨i,rfl,q⟩:=f;obtain⟨t,rfl⟩:=d;exact⟨Mt i,j,g,.int i t,q⟩
noncomputable def JV(X:Cx)(r:V->Option Int->Option Int->Hp->VK->Prop):Prop:=∀(a:List (MD×NF))(s:Mx)(b:St)(H:Hp)(x:V)(v d c:Mv)(lo hi:Option Int)(f:MD)(Q:VK),Inv X a b H s->RelV x v->s.heap.IsSliceOf f d c .none->Ub d lo->Ub c hi->r x lo hi H Q->∃T id,O6 (.type T) "__getitem__"=pure (Mt (.builtin id))/\s.TypeIs v T/\wpAny (MO X.prog X.w) X.A (Uc v (.ref f)) (EP X a b Q) X.xe s
noncomputable def LP(r:V->Option Int->Option Int->Hp->VK->Prop)(te:TE)(tl th:TO):TE:=λa H Q=>te a H λx d=>tl a d λl c=>th a c λu b=>r x l u b Q
theorem ou{r:V->Option Int->Option Int->Hp->VK->Prop}(z:JV X r)(D:PE X e te)(B:PO X lo tl)(hu:PO X hi th):PE X (.Subscript e (.Slice lo hi MA p2) pos) (LP r te tl th):=by
 intro a s g H Q I h;refine Subscript_ (aU (D a s g H _ I h) λv s1 f=>?_);obtain⟨x,M,K,m,p⟩:=f;refine wpAny_Slice (aU (B a s1 g M _ K p) λj s2⟨l,L,J,t,o⟩=>aU (hu a s2 g L _ J o) λi s3 f=>?_);obtain⟨u,k,G,pu,n⟩:=f;rw[evalPart_none];refine Mu ?_;have F:Inv X a g k {s3 with heap:=s3.heap.push {cls:=.type "slice",data:=.fields #[j,i,.none]}}:=G.kept (t':=s3.toks) λb ob q=>Mw _ q;obtain⟨T,id,E,y,C⟩:=z a {s3 with heap:=s3.heap.push {cls:=.type "slice",data:=.fields #[j,i,.none]}} g k x v j i l u s3.heap.objs.size Q F m (Heap.IsSliceOf.new ..) t pu n;show wpAny (MO X.prog X.w) X.A (Vf e (.Slice lo hi MA p2) v (.ref s3.heap.objs.size)) (EP X a g Q) X.xe {s3 with heap:=s3.heap.push {cls:=.type "slice",data:=.fields #[j,i,.none]}};exact tail_any (ops:=[.ref s3.heap.objs.size,v]) y E C (by with_unfolding_all rfl)
noncomputable def mH(xs:List V)(lo hi:Option Int):List V:=(xs.drop (HT.bL xs.length 0 lo)).take (HT.bL xs.length xs.length hi-HT.bL xs.length 0 lo)
theorem iF(xs:List V)(lo hi:Option Int):(mH xs lo hi).length<=xs.length:=by
 unfold mH;rw[P9,Q3];omega
theorem ak.sN{xs:List V}{us:List Mv}(r:ak xs us):us=[]↔xs=[]:=by cases r with
 |nil=>simp|cons _ _=>simp
end
end L2
namespace L2
open PySem PySem.Spec PyProof.Rows
noncomputable def BS(n:Nat)(i:Int):Option Nat:=if 0<=i then(if i<n then Mt i.toNat else MA)else if-(n:Int)<=i then Mt (i+n).toNat else MA
noncomputable def lQ{a:Type}(xs:List a)(i:Int):Option a:=(BS xs.length i).bind λj=>xs[j]?
theorem sO{n:Nat}{i:Int}{j:Nat}(h:BS n i=Mt j):seqIndex? i n=Mt j/\j<n/\-(n:Int)<=i/\i<n:=by
 unfold BS at h;by_cases b:0<=i
 .rw[if_pos b]at h;by_cases a:i<n
  .rw[if_pos a]at h;have e:i.toNat=j:=MI h;exact⟨by rw[V7 b a,e],by omega,by omega,a⟩
  .rw[if_neg a]at h;cases h
 .rw[if_neg b]at h;by_cases a:-(n:Int)<=i
  .rw[if_pos a]at h;have e:(i+n).toNat=j:=MI h;exact⟨by rw[VH (by omega) a,e],by omega,a,by omega⟩
  .rw[if_neg a]at h;cases h
theorem mJ{a:Type}{xs:List a}{i:Int}{v:a}(h:lQ xs i=Mt v):∃j,seqIndex? i xs.length=Mt j/\xs[j]?=Mt v/\j<xs.length/\-(xs.length:Int)<=i/\i<xs.length:=by
 unfold lQ at h;cases e:BS xs.length i with
 |none=>rw[e]at h;cases h|some j=>
  rw[e]at h;obtain⟨f,d,c,b⟩:=sO e;exact⟨j,f,h,d,c,b⟩
theorem jm{a:Type}{xs:List a}{j:Nat}{v:a}(h:xs[j]?=Mt v):lQ xs (j:Int)=Mt v:=by
 have b:j<xs.length:=(List.getElem?_eq_some_iff.mp h).1;have e:BS xs.length (j:Int)=Mt j:=by
  unfold BS;rw[if_pos (by omega),if_pos (by omega)];simp
 unfold lQ;rw[e];exact h
noncomputable def mK(b:MV):Prop:=∀o i,V8 b My o i=operate [o,i] (Uc o i)
noncomputable def zd(X:Cx)(r:R2):Prop:=∀(c a:MV)(b:List (MD×NF))(s:Mx)(d:St)(H:Hp)(x y:V)(v u:Mv)(Q:VK),Inv X b d H s->RelV x v->RelV y u->r x y H Q->V8 a My v u=operate [v,u] (Uc v u)->wpAny (MO X.prog X.w) X.A (Vf c a v u) (EP X b d Q) X.xe s
noncomputable def F_(X:Cx)(id:String)(r:V->List V->Hp->VK->Prop):Prop:=∀(a:List (MD×NF))(s:Mx)(b:St)(H:Hp)(x:V)(c:List V)(v:Mv)(d:List Mv)(Q:VK),Inv X a b H s->RelV x v->ak c d->r x c H Q->wpAny (MO X.prog X.w) X.A (call (.builtin id) (v::d)) (EP X a b Q) X.xe s
section
variable{X:Cx}{a b:MV}{ta tb:TE}{pos:Od}
theorem zd.or{r j:R2}(h:zd X r)(h':zd X j):zd X (λx y H Q=>r x y H Q\/j x y H Q):=by
 intro c d e s f H x y v u Q I i g q k;rcases q with q|q;.exact h c d e s f H x y v u Q I i g q k
 .exact h' c d e s f H x y v u Q I i g q k
theorem fE{r:R2}(i:zd X r)(k:PE X a ta)(j:PE X b tb)(g:mK b):PE X (.Subscript a b pos) (F0 r ta tb):=by
 intro c s d H Q I h;exact Subscript_ (CQ k j I h λv u s2 x y m l f e q=>i a b c s2 d m x y v u Q l f e q (g _ _))
noncomputable def Ga(K:ME):R2:=λx y H Q=>∃p c i v,x=.ref p/\y=.int i/\cP K H p c/\lQ c i=Mt v/\Q v H
noncomputable def Gb(K:ME):R2:=λx y H Q=>∃p c i v,x=.ref p/\y=.int i/\iE K H p c/\lQ c i=Mt v/\Q v H
noncomputable def Gc:R2:=λx y H Q=>∃z i c,x=.str z/\y=.int i/\z.length<=MP/\lQ z.cps.toList i=Mt c/\Q (.str ⟨#[c]⟩) H
theorem b9:zd X (Ga X.K):=by
 intro e f c s n H x y v u Q I E D h o;obtain⟨p,O,i,z,rfl,rfl,F,J,q⟩:=h;cases E;obtain⟨t,rfl⟩:=D;obtain⟨l,r,k,P⟩:=I.list F;obtain⟨j,d,N,S,M,L⟩:=mJ J;obtain⟨w,B,g⟩:=r.get N;have G:=r.length;have R:=fM;have fin:EP X c n Q w s:=⟨z,H,I,g,q⟩;by_cases A:0<=i
 .have m:i.toNat=j:=by
   rw[V7 A L]at d;exact MI d
  exact item_listR k.isList A (by omega) (by rw[m];simpa using B) fin o
 .have m:(i+(l.toArray.size:Int)).toNat=j:=by
   rw[VH (by omega) M]at d;rw[MR,<-G];exact MI d
  exact Ud (x:=w) k.isList.typeIs slot_list_getitem.lookup (wpAny_getItem_list_neg (Q:=λr C=>r=w/\EP X c n Q r C) k.isList (by omega) (by rw[MR]<;>omega) (by omega) (by rw[m];simpa using B) ⟨rfl,fin⟩) o
theorem C2:zd X (Gb X.K):=by
 intro d e c s g H x y v u Q I n m h A;obtain⟨p,J,i,z,rfl,rfl,B,D,q⟩:=h;cases n;obtain⟨t,rfl⟩:=m;obtain⟨o,r,k,L⟩:=I.tuple B;obtain⟨j,F,E,P,O,N⟩:=mJ D;obtain⟨w,G,f⟩:=r.get E;have C:=r.length;have M:=fM;have fin:EP X c g Q w s:=⟨z,H,I,f,q⟩;exact Ud (x:=w) k.typeIs slot_tuple_getitem.lookup (getItem_tuple (j:=j) (Q:=λr l=>r=w/\EP X c g Q r l) k (by omega) (by omega) (by rw[MR,<-C];exact F) (by simpa using G) ⟨rfl,fin⟩) A
theorem C3:zd X Gc:=by
 intro d e f s A H x y v u Q I l k h m;obtain⟨z,i,c,rfl,rfl,C,o,q⟩:=h;obtain⟨t,rfl⟩:=l;obtain⟨B,rfl⟩:=k;obtain⟨j,g,w,E,r,p⟩:=mJ o;have n:z.cps.toList.length=z.length:=by simp[Str.length]
 rw[n]at g r p;have D:=fM;exact tail_any (R0 s z t) slot_str_getitem.lookup (getItem_str (c:=c) (by
  have e1:decide (i< -(2^63:Int))=My:=decide_eq_false (by omega);have e2:decide (i>=2^63)=My:=decide_eq_false (by omega);rw[e1,e2,Bool.or_false]) (by rw[g];simpa using w) ⟨.str ⟨#[c]⟩,H,I.tok _,⟨_,rfl⟩,q⟩) m
noncomputable def LQ(K:ME):R2:=λx y H Q=>Ga K x y H Q\/Gb K x y H Q\/Gc x y H Q
theorem C4:zd X (LQ X.K):=b9.or (C2.or C3)
theorem qJ(its:List Mv)(n j:Nat)(u:Mv):NP (·.setIfInBounds j u) {cls:=.type "list",data:=.seq its.toArray n}={cls:=.type "list",data:=.seq (its.set j u).toArray n}:=by simp[NP]
theorem Inv.lst{pins:List (MD×NF)}{σ:St}{H:Hp}{s:Mx}{p:MD}{xs:List V}(I:Inv X pins σ H s)(h:H p=Mt (.lst xs)):∃(its:List Mv)(n:Nat),ak xs its/\s.heap.get? p=Mt {cls:=.type "list",data:=.seq its.toArray n}/\xs.length<=MP:=by
 obtain⟨z,its,n,r,e⟩:=I.ay p _ h;exact⟨its,n,r,e,z⟩
theorem Inv.C5{pins:List (MD×NF)}{σ:St}{H:Hp}{s:Mx}{p:MD}{xs ys:List V}{its its':List Mv}{n c:Nat}{f:NF->NF}(I:Inv X pins σ H s)(h:H p=Mt (.lst xs))(g:s.heap.get? p=Mt {cls:=.type "list",data:=.seq its.toArray n})(d:f {cls:=.type "list",data:=.seq its.toArray n}={cls:=.type "list",data:=.seq its'.toArray c})(r:ak ys its')(hz:ys.length<=MP)(t:Nat):Inv X pins σ (upd H p (.lst ys)) {s with heap:=s.heap.update p f,toks:=t}:=by
 have e:(s.heap.update p f).get? p=Mt {cls:=.type "list",data:=.seq its'.toArray c}:=by rw[M6 f g (by rw[d]<;>rfl),d]
 refine I.write (x:=p) (e:=p) (by rw[h];trivial) (.inl rfl) (λb u i q=>(MQ _ _ (NO i)).trans q) ⟨_,e⟩ ?_;exact⟨hz,its',c,r,e⟩
noncomputable def Gd:V->V->V->Hp->(Hp->Prop)->Prop:=λo i v H Q=>∃p c k j,o=.ref p/\i=.int k/\H p=Mt (.lst c)/\BS c.length k=Mt j/\Q (upd H p (.lst (c.set j v)))
theorem set_list:FX X Gd:=by
 intro c s B H o i v K L u Q I E F D h;obtain⟨p,C,k,j,rfl,rfl,m,J,q⟩:=h;cases E;obtain⟨t,rfl⟩:=F;obtain⟨d,n,r,f,G⟩:=I.lst m;obtain⟨e,N,y,x⟩:=sO J;have g:=r.length;have M:=fM;have A:Inv X c B (upd H p (.lst (C.set j v))) {s with heap:=s.heap.update p (NP (·.setIfInBounds j u))}:=I.C5 m f (qJ d n j u) (r.set D j) (by rw[Uw];exact G) s.toks;by_cases z:0<=k
 .have l:k.toNat=j:=by
   rw[V7 z x]at e;exact MI e
  exact PySem.W.ki_setAt f z (by omega) (by rw[MR,<-g];exact x) (by rw[l];exact⟨_,A,q⟩)
 .have l:(k+(d.toArray.size:Int)).toNat=j:=by
   rw[VH (by omega) y]at e;rw[MR,<-g];exact MI e
  exact PySem.W.ki_setBack f (by omega) (by rw[MR,<-g];exact y) (by omega) (by rw[l];exact⟨_,A,q⟩)
theorem mL(lo c:Option Int)(n:Nat):(RG lo c MA n).1=((HT.bL n 0 lo:Nat):Int)/\(RG lo c MA n).2.1=((HT.bL n n c:Nat):Int)/\(RG lo c MA n).2.2=1:=by
 refine⟨?_,?_,rfl⟩;.cases lo with
  |none=>simp[RG,HT.bL]|some i=>
   simp only[RG,HT.bL,TK,show(1:Int)>0 by decide,if_true];by_cases h:i<0;.simp only[h,if_true]<;>omega
   .simp only[h,if_false]<;>omega
 .cases c with
  |none=>simp[RG,HT.bL]|some i=>
   simp only[RG,HT.bL,TK,show(1:Int)>0 by decide,if_true];by_cases h:i<0;.simp only[h,if_true]<;>omega
   .simp only[h,if_false]<;>omega
theorem kZ(its:List Mv)(lo c:Option Int):slicePick its.toArray lo c MA=((its.drop (HT.bL its.length 0 lo)).take (HT.bL its.length its.length c-HT.bL its.length 0 lo)).toArray:=by
 obtain⟨f,e,d⟩:=mL lo c its.toArray.size;unfold slicePick;rw[f,e,d];simp only[sliceRange_one,pick_run,MR]<;>rfl
noncomputable def JW(K:ME):V->Option Int->Option Int->Hp->VK->Prop:=λx lo d H Q=>∃a c,x=.ref a/\cP K H a c/\∀p,H p=MA->Q (.ref p) (upd H p (.lst (mH c lo d)))
theorem sP:JV X (JW X.K):=by
 intro f s p H x v u t lo e w Q I i n j pu h;obtain⟨a,c,rfl,m,q⟩:=h;cases i;obtain⟨k,r,g,l⟩:=I.list m;have d:=r.length;refine⟨"list",_,slot_list_getitem.lookup,g.isList.typeIs,?_⟩;refine wpAny_getItem_list_slice g.isList n j pu .none (by simp) ?_ (by rw[MR]<;>omega);rw[kZ,<-d];refine⟨.ref s.heap.objs.size,_,I.laid (t':=s.toks) (o:=.lst (mH c lo e)) (λb ob q=>Mw _ q) (MN _) ?_,rfl,q _ (I.ay.fresh (MN _))⟩;exact⟨Nw (iF c lo e) l,_,0,(r.drop (HT.bL c.length 0 lo)).take (HT.bL c.length c.length e-HT.bL c.length 0 lo),MJ _ rfl⟩
theorem dR:cf X (.builtin "len") (λxs H Q=>∃p ys,xs=[.ref p]/\(cP X.K H p ys\/iE X.K H p ys)/\Q (.int ys.length) H):=by
 intro i s l H xs m Q I r h;obtain⟨p,ys,rfl,d,q⟩:=h;obtain⟨u,rfl,j⟩:=vals1 r;cases j;have n:=fM;rcases d with d|d
 .obtain⟨g,e,f,k⟩:=I.list d;have c:=e.length;exact U_ f.isList (by simp only[MR]<;>omega) ⟨.int ys.length,H,I.tok _,⟨s.toks+1,by rw[MR,c]⟩,q⟩
 .obtain⟨g,e,f,k⟩:=I.tuple d;have c:=e.length;exact len_tuple f (by simp only[MR]<;>omega) ⟨.int ys.length,H,I.tok _,⟨s.toks+1,by rw[MR,c]⟩,q⟩
theorem gq:cf X (.type "list") (λxs H Q=>∃p ys,xs=[.ref p]/\(cP X.K H p ys\/iE X.K H p ys)/\∀l,H l=MA->Q (.ref l) (upd H l (.lst ys))):=by
 intro i s z H xs B Q I r h;obtain⟨p,ys,rfl,k,q⟩:=h;obtain⟨u,rfl,A⟩:=vals1 r;cases A;have fin:∀(c:List Mv),ak ys c->ys.length<=MP->∀(d:Na)(g:Nat),(∀b y,s.heap.get? b=Mt y->d.get? b=Mt y)->d.get? s.heap.objs.size=Mt {cls:=.type "list",dict:=MA,data:=.seq c.toArray g,slots:=#[]}->EP X i z Q (.ref s.heap.objs.size) {s with heap:=d}:=λc f j d g kp e=>⟨.ref s.heap.objs.size,_,I.laid (t':=s.toks) kp (MN _) (show aQ X.prog X.w _ d _ (.lst ys)from⟨j,c,g,f,e⟩),rfl,q _ (I.ay.fresh (MN _))⟩;rcases k with k|k
 .obtain⟨c,f,t,j⟩:=I.list k;have m:=f.length;obtain⟨o,v,x,n,hd⟩:=t.isList;exact call_list_seq p (.inl rfl) v x hd (λd g kp e=>fin c f j d g kp e) (by simp only[MR]<;>omega)
 .obtain⟨c,f,t,j⟩:=I.tuple k;have m:=f.length;obtain⟨o,v,x,n,hd⟩:=t;exact call_list_seq p (.inr rfl) v x hd (λd g kp e=>fin c f j d g kp e) (by simp only[MR]<;>omega)
theorem k_:cf X (.type "tuple") (λxs H Q=>∃p ys,xs=[.ref p]/\((cP X.K H p ys/\∀l,H l=MA->Q (.ref l) (upd H l (.tup ys)))\/(iE X.K H p ys/\Q (.ref p) H))):=by
 intro c s m H xs A Q I r h;obtain⟨p,ys,rfl,h⟩:=h;obtain⟨u,rfl,y⟩:=vals1 r;cases y;rcases h with⟨k,q⟩|⟨k,q⟩
 .obtain⟨d,i,j,n⟩:=I.list k;have t:=i.length;refine call_tuple_list j.isList (λg kp=>?_) (by simp only[MR]<;>omega);have x:Inv X c m H {s with heap:=g}:=I.kept (t':=s.toks) kp;have z:Inv X c m (upd H g.objs.size (.tup ys)) {s with heap:=g.push {cls:=.type "tuple",data:=.seq d.toArray}}:=x.laid (t':=s.toks) (λb o e=>Mw _ e) (MN _) (show aQ X.prog X.w _ _ _ (.tup ys)from⟨n,d,i,IsTup.new _ _⟩);exact⟨.ref g.objs.size,_,z,rfl,q _ (x.ay.fresh (MN _))⟩
 .obtain⟨d,i,j,n⟩:=I.tuple k;exact call_tuple_same j ⟨.ref p,H,I,rfl,q⟩
noncomputable def JX(K:ME)(T:String)(x:V)(H:Hp):Prop:=match x with
 |.str _=>T="str"|.int _=>T="int"|.ref p=>(T="list"/\∃d,cP K H p d)\/(T="tuple"/\∃o,K.lookup p=Mt o/\o.cls=.type "tuple"/\o.dict=MA)\/(T="dict"/\((∃c,H p=Mt (.dK c))\/∃c,H p=Mt (.dT c)))\/(T="set"/\∃S n,H p=Mt (.set S n))|_=>False
theorem v9{pins:List (MD×NF)}{σ:St}{H:Hp}{s:Mx}{T:String}{x:V}{v:Mv}(I:Inv X pins σ H s)(r:RelV x v)(ty:JX X.K T x H):s.TypeIs v T/\∀a,v=.ref a->∃ob,s.heap.get? a=Mt ob/\ob.dict=MA:=by cases x with
 |str z=>
  obtain⟨t,rfl⟩:=r;cases(show T="str"from ty);exact⟨R0 s z t,λ_ e=>nomatch e⟩|int i=>
  obtain⟨t,rfl⟩:=r;cases(show T="int"from ty);exact⟨typeIs_int s i t,λ_ e=>nomatch e⟩|ref p=>
  cases r;rcases ty with⟨rfl,l,j⟩|⟨rfl,o,d,k,hd⟩|⟨rfl,d⟩|⟨rfl,S,n,d⟩
  .obtain⟨h,_,g,_⟩:=I.list j;refine⟨g.isList.typeIs,λa e=>?_⟩;cases e;obtain⟨o,n,e,c,hd,_⟩:=g;exact⟨o,e,hd⟩
  .refine⟨⟨o,I.fB p o d,k⟩,λa e=>?_⟩;cases e;exact⟨o,I.fB _ o d,hd⟩
  .have z:∃o,s.heap.get? p=Mt o/\o.ExactDict:=by
    rcases d with⟨f,d⟩|⟨f,d⟩
    .obtain⟨_,_,_,_,o,_,_,e,ex,_⟩:=I.ay p _ d;exact⟨o,e,ex⟩
    .obtain⟨_,_,_,_,o,_,_,e,ex,_⟩:=I.ay p _ d;exact⟨o,e,ex⟩
   obtain⟨o,e,ex⟩:=z;refine⟨⟨o,e,ex.1⟩,λa e2=>?_⟩;cases e2;exact⟨o,e,ex.2.1⟩
  .obtain⟨o,_,_,_,e,ex,_⟩:=I.ay p _ d;refine⟨⟨o,e,ex.1⟩,λa e2=>?_⟩;cases e2;exact⟨o,e,ex.2.1⟩|_=>exact N7 ty
noncomputable def JY(K:ME)(T:String)(r:V->List V->Hp->VK->Prop)(to:TE):TE:=λd H Q=>to d H λx c=>JX K T x c/\r x [] c Q
noncomputable def LR(K:ME)(T:String)(r:V->List V->Hp->VK->Prop)(to:TE)(t:TA):TE:=λc H Q=>to c H λx d=>JX K T x d/\t c d λe f=>r x e f Q
variable{o e:MV}{es:List MV}{to:TE}{t:TA}{name:M3}{apos cpos:Od}{T id:String}{r:V->List V->Hp->VK->Prop}
theorem C6(pa:Vr T)(slot:Slot T name id)(i:V3 (.builtin id)=pure (.type "method_descriptor"))(p:F_ X id r)(n:PE X o to)(f:Pw o name X.env (N2 o X.env)=N2 o X.env:=by rfl)(d:(apos.endLine==cpos.line)=Mz:=by rfl):PE X (.Call (.Attribute o name apos) [] [] cpos) (JY X.K T r to):=by
 intro c s j H Q I h;refine wpAny_Call_method0_late f d (aU (n c s j H _ I h) λv s1 g=>?_);obtain⟨x,w,l,k,ty,m⟩:=g;obtain⟨u,q⟩:=v9 l k ty;exact⟨T,id,pa,slot,i,u,q,RP rfl (PySem.evalArgs_none (p c s1 j w x [] v [] Q l k .nil m))⟩
theorem Ge(pa:Vr T)(slot:Slot T name id)(l:V3 (.builtin id)=pure (.type "method_descriptor"))(C:F_ X id r)(B:PE X o to)(D:PA X (e::es) t)(g:Pw o name X.env (N2 o X.env)=N2 o X.env:=by rfl)(i:((Og cpos (MS (e::es) X.env)).all (λx=>!x.1)&&(UP cpos (R7 [] X.env)).all (λx=>x.1.isSome)&&decide ((e::es).length+([]:List Q7).length+(if([]:List Q7).isEmpty then 0 else 1)<30))=Mz:=by rfl)(f:(apos.endLine==cpos.line)=Mz:=by rfl)(A:MS (e::es) X.env=(My,N2 e X.env)::MS es X.env:=by rfl)(d:(Og cpos (MS es X.env)).any (·.1)=My:=by rfl):PE X (.Call (.Attribute o name apos) (e::es) [] cpos) (LR X.K T r to t):=by
 intro c s j H Q I h;refine Ue g i f rfl (aU (B c s j H _ I h) λv s1 k=>?_);obtain⟨x,L,p,m,ty,z⟩:=k;obtain⟨F,E⟩:=v9 p m ty;refine⟨T,id,pa,slot,l,F,E,?_⟩;have n:=D cpos c s1 j L _ p z;rw[A]at n⊢;refine RP (by show(My||(Og cpos (MS es X.env)).any (·.1))=My;rw[d]<;>rfl) (QR ?_);exact aU n λu s2⟨q,J,G,w,y⟩=>C c s2 j J x q v u Q G m w y
end
end L2
namespace L2
open PySem PySem.Spec PyProof.Rows
noncomputable def JZ(X:Cx)(id:String)(r:V->List V->Hp->VK->Prop):Prop:=∀(a:List (MD×NF))(s:Mx)(b:St)(H:Hp)(x:V)(c:List V)(v:Mv)(d:List Mv)(Q:VK),Inv X a b H s->RelV x v->ak c d->r x c H Q->wpAny (MO X.prog X.w) X.A (call (.builtin id) (v::d)) (EP X a b Q) X.xe s
theorem ak.one:∀{x:V}{us:List Mv},ak [x] us->∃u,us=[u]/\RelV x u|_,_,.cons r .nil=>⟨_,rfl,r⟩
theorem ak.zero:∀{us:List Mv},ak [] us->us=[]|_,.nil=>rfl
theorem ak.dropLast{xs:List V}{us:List Mv}(h:ak xs us):ak xs.dropLast us.dropLast:=by induction h with
 |nil=>exact .nil|cons r t a=>cases t with
  |nil=>exact .nil|cons q b=>exact .cons r a
theorem qK{c:Type}(l:List c):l.eraseIdx (l.length-1)=l.dropLast:=by induction l with
 |nil=>rfl|cons a r d=>cases r with
  |nil=>rfl|cons b r=>
   have e:(a::b::r).length-1=((b::r).length-1)+1:=by
    have g:(a::b::r).length=r.length+2:=rfl;have f:(b::r).length=r.length+1:=rfl;omega
   rw[e,TL,d];all_goals rfl
section
variable{X:Cx}{pins:List (MD×NF)}{σ:St}{H:Hp}{s:Mx}{l b:MD}{xs ys zs:List V}
theorem Inv.Gf{its its':List Mv}{n:Nat}{f:Array Mv->Array Mv}{t':Nat}(I:Inv X pins σ H s)(g:H l=Mt (.lst xs))(e:s.heap.get? l=Mt {cls:=.type "list",data:=.seq its.toArray n})(c:f its.toArray=its'.toArray)(a:ak ys its')(hz:ys.length<=MP):Inv X pins σ (upd H l (.lst ys)) {s with heap:=s.heap.update l (NP f),toks:=t'}:=by
 have q:=PySem.IsL.update e f;rw[c]at q;refine I.write (x:=l) (e:=l) (by rw[g];exact trivial) (.inl rfl) (λh u d hu=>(MQ s.heap (NP f) (NO d)).trans hu) ⟨_,q⟩ ?_;exact⟨hz,its',_,a,q⟩
theorem Inv.Gg{its:List Mv}{t':Nat}(I:Inv X pins σ H s)(a:ak ys its)(hz:ys.length<=MP):Inv X pins σ (upd H s.heap.objs.size (.lst ys)) {s with heap:=s.heap.push {cls:=.type "list",data:=.seq its.toArray},toks:=t'}:=I.laid (λ_ _ q=>Mw _ q) (MN _) ⟨hz,its,0,a,MJ _ rfl⟩
theorem Inv.fresh(I:Inv X pins σ H s):H s.heap.objs.size=MA:=I.ay.fresh (MN _)
theorem Inv.Gh(I:Inv X pins σ H s)(a:H l=Mt (.lst xs)):xs.length<=MP/\∃(its:List Mv)(n:Nat),ak xs its/\xs.length=its.length/\s.heap.get? l=Mt {cls:=.type "list",data:=.seq its.toArray n}:=by
 obtain⟨z,its,n,r,e⟩:=I.ay l _ a;exact⟨z,its,n,r,r.length,e⟩
end
section
variable{X:Cx}
noncomputable def zL:V->List V->Hp->VK->Prop:=λx b H Q=>∃l a y,x=.ref l/\b=[y]/\H l=Mt (.lst a)/\a.length<MP/\Q .aJ (upd H l (.lst (a++[y])))
theorem um:JZ X "list.append" zL:=by
 intro b s i H x k v m Q I d f h;obtain⟨l,j,y,rfl,rfl,c,o,q⟩:=h;cases d;obtain⟨u,rfl,g⟩:=f.one;obtain⟨z,a,n,r,p,e⟩:=I.Gh c;refine SJ F.slot_list_append ⟨_,e,rfl⟩ F.entry_list_append (F.args_list_append_2 _ _) (PySem.list_append l a.toArray n u (by rw[MR];omega)) ⟨e,?_⟩;refine⟨.aJ,_,I.Gf (its':=a++[u]) c e (by simp) (r.append (.cons g .nil)) ?_,rfl,q⟩;rw[Of,List.length_singleton];omega
noncomputable def J3:V->List V->Hp->VK->Prop:=λx b H Q=>∃l a y,x=.ref l/\b=[]/\H l=Mt (.lst a)/\a[a.length-1]?=Mt y/\Q y (upd H l (.lst a.dropLast))
theorem C7:JZ X "list.pop" J3:=by
 intro d s o H x t v w Q I g i h;obtain⟨l,p,y,rfl,rfl,f,k,q⟩:=h;cases g;have c:=i.zero;subst c;obtain⟨z,a,n,r,m,e⟩:=I.Gh f;obtain⟨u,hu,j⟩:=r.get k;have b:a.toArray[a.toArray.size-1]?=Mt u:=by
  show a.toArray[a.length-1]?=Mt u;rw[<-Ol,<-m];exact hu
 refine SJ F.slot_list_pop ⟨_,e,rfl⟩ F.entry_list_pop (F.args_list_pop_1 _) (MeetsSeq.list_pop_last l a.toArray n u b (by rw[MR];omega)) ⟨e,?_⟩;refine⟨y,_,I.Gf (its':=a.dropLast) f e ?_ r.dropLast ?_,j,q⟩
 .show a.toArray.eraseIdxIfInBounds (a.toArray.size-1)=a.dropLast.toArray;rw[MR,List.eraseIdxIfInBounds_toArray,qK]
 .rw[List.length_dropLast];omega
end
end L2
namespace L2
open PySem PySem.Spec PyProof.Rows
section
variable{κ:Type}[DecidableEq κ]
noncomputable def ja(a:List (κ×V))(k:κ):Option V:=(a.find? λb=>decide (b.1=k)).map (·.2)
noncomputable def putK(a:List (κ×V))(k:κ)(v:V):List (κ×V):=if(a.any λb=>decide (b.1=k))=Mz then a.map (λb=>if b.1=k then(b.1,v)else b)else a++[(k,v)]
theorem ox{p:κ×V}{r:List (κ×V)}{k:κ}(e:p.1=k):ja (p::r) k=Mt p.2:=by simp[ja,Qo,e]
theorem oy{p:κ×V}{r:List (κ×V)}{k:κ}(e:¬p.1=k):ja (p::r) k=ja r k:=by simp[ja,Qo,e]
theorem jK(k:κ):∀a:List (κ×V),(a.any λb=>decide (b.1=k))=(ja a k).isSome
 |[]=>rfl|p::r=>by
  rw[Rl];by_cases e:p.1=k;.simp only[ox e,decide_eq_true e,Bool.true_or,Option.isSome_some]
  .rw[oy e,decide_eq_false e,Bool.false_or];exact jK k r
theorem jD.lR{o:Option V}{u:Option Mv}(r:jD o u):o.isSome=u.isSome:=by cases o with
 |none=>cases u with
  |none=>rfl|some _=>exact(show False from r).elim
 |some _=>cases u with
  |none=>exact(show False from r).elim|some _=>rfl
theorem KV.val{a:List (κ×V)}{vs:List (κ×Mv)}(r:KV a vs)(k:κ):jD (ja a k) (U6 vs k):=by
 unfold KV at r;induction r with
 |nil=>exact SH|@cons p q ps c h t g=>
  obtain⟨f,i⟩:=h;by_cases e:p.1=k
  .have d:q.1=k:=f.symm.trans e;have b:U6 (q::c) k=Mt q.2:=by simp[U6,Qo,d]
   rw[ox e,b];exact i
  .have d:¬q.1=k:=λz=>e (f.trans z);have b:U6 (q::c) k=U6 c k:=by simp[U6,Qo,d]
   rw[oy e,b];exact g
theorem KV.any{a:List (κ×V)}{vs:List (κ×Mv)}(r:KV a vs)(k:κ):(a.any λb=>decide (b.1=k))=vs.any λb=>decide (b.1=k):=by
 unfold KV at r;induction r with
 |nil=>rfl|cons h t c=>rw[Rl,Rl,c,h.1]
theorem KV.zM{b:List (κ×V)}{vs:List (κ×Mv)}(r:KV b vs)(k:κ){y:V}{u:Mv}(d:RelV y u):KV (b.map λa=>if a.1=k then(a.1,y)else a) (vs.map λa=>if a.1=k then(a.1,u)else a):=by
 unfold KV at r⊢;induction r with
 |nil=>exact .nil|@cons p q ps i h t f=>
  rw[M9,M9];refine .cons ?_ f;obtain⟨c,g⟩:=h;by_cases e:p.1=k;.rw[if_pos e,if_pos (c.symm.trans e)];exact⟨c,d⟩
  .rw[if_neg e,if_neg (λz=>e (c.trans z))];exact⟨c,g⟩
theorem KV.put{a:List (κ×V)}{vs:List (κ×Mv)}(r:KV a vs)(k:κ){y:V}{u:Mv}(b:RelV y u):KV (putK a k y) (stored vs k u):=by
 unfold putK stored;rw[r.any k];by_cases e:(vs.any λc=>decide (c.1=k))=Mz;.rw[if_pos e,if_pos e];exact r.zM k b
 .rw[if_neg e,if_neg e];exact Paired.snoc r ⟨rfl,b⟩
end
theorem iG{P:MX}{w:M_}{k:Key}{u:Mv}(r:RelV (kV k) u):(ao P w).is k u=Mz:=by cases k with
 |inl i=>obtain⟨t,e⟩:=(show∃t,u=Qt i t from r);subst e;exact oj P w i t|inr x=>obtain⟨t,e⟩:=(show∃t,u=Sy x t from r);subst e;exact om P w x t
theorem lS{P:MX}{w:M_}:∀{ks:List Key}{us:List Mv},ak (ks.map kV) us->ItemsAre (ao P w) ks us
 |[],_,r=>by rw[Q6]at r;cases r;exact .nil|k::ks,_,r=>by
  rw[M9]at r;cases r with|cons h t=>exact .cons (iG h) (lS t)
section
variable{X:Cx}{pins:List (MD×NF)}{σ:St}{H:Hp}{s:Mx}{a:MD}{y v:V}{u r:Mv}{o:Option V}{A:Nc}{E:Mv->Mx->Prop}
theorem Inv.J4(I:Inv X pins σ H s):Pn<s.heap.objs.size:=by
 have h:NA<s.heap.objs.size:=(I.mod.glob.keeps I.bk).lt;exact Nat.lt_trans (by decide) h
end
end L2
namespace Att
open PySem PySem.W PySem.Calls PyProof.Rows
theorem jb{P:R1}{h:Na}:∀(ns:List Int)(vs:List Mv),WellAll P h vs (ns.map WData.int)->PY vs ns:=by
 intro ns;induction ns with
 |nil=>
  intro vs w;rw[Q6]at w;cases w;exact .nil|cons n ns c=>
  intro vs w;rw[M9]at w;cases w with|cons a b=>
   cases a;exact .cons _ _ (c _ b)
theorem uo{l:OpenLaw}{n:Nat}(v:l.most=Mt n){P:R1}{h:Na}{b:List WData}{c:List Mv}(e:l.row.toRowW.claim.pre b=Mz)(k:WellAll P h c b):∃a vs ns,c=[MW a]/\b=[WData.list (ns.map WData.int)]/\h.get? a=Mt {cls:=.type "list",data:=.seq vs.toArray}/\PY vs ns/\ns.length<=n:=by
 have m:WShape.hasAll [] b [.list .int]=Mz:=(pre_splitW e).1;have o:l.pre.holds [] {args:=b}=Mz:=(pre_splitW e).2;obtain⟨d,r,rfl,y,x⟩:=hasAllW_cons m;obtain rfl:=hasAllW_nil x;obtain⟨z,rfl,w⟩:=hasW_list y;obtain⟨ns,rfl⟩:=items_int w;have f:ns.length<=n:=by
  unfold OpenLaw.pre at o;have j:(WTm.not (.lt (.lit (.int (n:Int))) (.len (.arg 0)))).holds [] {args:=[.list (ns.map .int)]}=Mz:=by
   have j:=(holds_andW o).1;rw[v]at j;exact j
  have i:=condW_of j (w_not (w_lt w_lit (w_len_list (w_arg rfl))));rw[MT]at i;refine Nat.le_of_not_lt λq=>?_;have t:(n:Int)<((ns.length:Nat):Int):=by omega
  first
   |(rw[decide_eq_true t]at i;exact absurd i (by decide))|(simp at i;omega)
 cases k with|cons s p=>
  cases p;cases s with|list u g=>exact⟨_,_,ns,rfl,rfl,u,jb ns _ g,f⟩
theorem uq(l:OpenLaw)(a:List WData):l.row.toRowW.claim.post a (.bool Mz) a=Mz:=postW_of (r:=l.row.toRowW) (X:=(Mz==Mz)) (show WShape.has [] (.bool Mz) .bool=Mz by first|rfl|decide|simp[WShape.has,WShape.arms,WShape.armsAll]) (show(WTm.eq .res (.lit (.bool Mz))).value [] {args:=a,res:=Mt (.bool Mz),after:=a}=Mt (.bool (Mz==Mz))from w_eq_bool (w_res rfl) w_lit) rfl
theorem oz{l:OpenLaw}{n:Nat}{q:MX}{c:List M3}{C:(M3->Option Mv)->Na->Prop}{B:M_->Na->Prop}{d:DefRec}(H:l.most=Mt n)(u:d.params.defaults=[])(call:∀(w:M_)(bA b:Mx)(mg p:M3->Option Mv)(k:MD)(o:NF)(m cd g:Mv)(a:MD)(vs:List Mv)(ns:List Int),Ground q c [] C w bA mg p b.heap->B w b.heap->b.heap.get? k=Mt o->o.data=.func (docDef d.name d.params d.body d.scope m cd g)->b.heap.CodeRec cd d.name->mg d.name=Mt (.ref k)->b.heap.get? a=Mt {cls:=.type "list",data:=.seq vs.toArray}->PY vs ns->ns.length<=n->b.gens=#[]->codeAny (MO l.prog w) U7 (.call (.ref k) ⟨[.ref a],[]⟩) (λr s'=>r=.ok (.ret (.bool Mz))/\OldK b.heap s'.heap/\s'.os=b.os/\R5 s'.gens) b):WalkO q c C B l.row.toRowW d [] (λf vs=>QV f vs):=by
 intro w bA b mg p G Y k o m cd g O kV F hd v z t K A x as h y D s J;obtain rfl:O=.none:=Dflts.none z u;obtain rfl:kV=.none:=Dflts.noKw z;obtain⟨a,vs,ns,rfl,rfl,i,e,j⟩:=uo H h s;refine enter_call (OH (call w bA b mg p k o m cd g a vs ns G Y F (fd_plain hd) v t i e j K) λr s' E=>?_);obtain⟨rfl,N,M,L⟩:=E;exact⟨.inl ⟨.bool Mz,.bool Mz,[],rfl,λ_=>rfl,.bool Mz,uq l _,λ_=>⟨List.Pairwise.nil,λ_ I=>(nomatch I)⟩⟩,N,M,L⟩
end Att
namespace L2
open PySem PySem.Spec PyProof.Rows
theorem lT:∀{vs:List Mv}{ns:List Int},PY vs ns->ak (ns.map V.int) vs
 |_,_,.nil=>.nil|_,_,.cons n t h=>.cons ⟨t,rfl⟩ (lT h)
noncomputable def C8(H:Hp):Prop:=∀b,H b=MA\/∃o a,H b=Mt (.bo o (.lst a))
theorem v_{P:MX}{w:M_}{K:ME}{mg I:M3->Option Mv}{CX:sI}{k:Nat}{O a:MD}{fd:N8}{x:M3}{sp:Sp}{c:Mx}{vs:List Mv}{ns:List Int}(X:K.In c.heap)(y:c.heap.Ns NA mg)(f:c.heap.Ns Vk I)(M:∀x:M3,x≠"__name__"->I x=OB x)(A:c.heap.NoLimit)(hg:c.gens=#[])(E:c.heap.get? a=Mt {cls:=.type "list",data:=.seq vs.toArray})(T:PY vs ns)(S:ns.length<=MP)(hr:bT k U7)(F:∀base:Na,K.In base->base.Ns NA mg->cw P w K mg base CX k O fd [x] sp)(j:∀(s:Mx)(u:Mv),WB s fd ⟨[u],[]⟩ [(x,u)])(J:∀H:Hp,C8 H->cP K H a (ns.map V.int)->sp [.ref a] H (λv _=>v=.bl Mz) λ_ _ _=>False)(N:∀H e s',CX [] H c (λ_ _ _=>False) e s'->False):codeAny (MO P w) U7 (.call (.ref O) ⟨[.ref a],[]⟩) (λr s'=>r=.ok (.ret (.bool Mz))/\OldK c.heap s'.heap/\s'.os=c.os/\R5 s'.gens) c:=by
 have R:=lT T;have p:=T.length;have i:∀H:Hp,C8 H->cP K H a (ns.map V.int)->fH P w H c.heap->(∀b,H b≠MA->b=a)->(H a≠MA->K.lookup a=MA)->codeAny (MO P w) U7 (.call (.ref O) ⟨[.ref a],[]⟩) (λr s'=>r=.ok (.ret (.bool Mz))/\OldK c.heap s'.heap/\s'.os=c.os/\R5 s'.gens) c:=by
  intro H U hS ay W hK;have dS:∀{b:MD}{o:NF},c.heap.get? b=Mt o->H b=MA->(mD c.heap H).get? b=Mt o:=λe n=>vL e n;have G:∀{b:MD}{o:NF}{C:Array Q8}{D:Nat},c.heap.get? b=Mt o->o.data=.dict C D->H b=MA:=λ{b o C D}e d=>by cases q:H b with
   |none=>rfl|some u=>
    have Q:b=a:=W b (by rw[q];simp);subst Q;rw[E]at e;cases e;have d':Data.seq vs.toArray _=Data.dict C D:=d;cases d'
  have g:∀{b:MD}{m:M3->Option Mv},c.heap.Ns b m->(mD c.heap H).Ns b m:=λ{b m}⟨o,C,D,e,d,r⟩=>⟨o,C,D,dS e (G e d),d,r⟩;have B:K.In (mD c.heap H):=λb o e=>dS (X b o e) (by cases q:H b with
   |none=>rfl|some u=>
    have Q:b=a:=W b (by rw[q];simp);subst Q;rw[hK (by rw[q];simp)]at e;cases e);have hM:Mod K mg (mD c.heap H):=⟨B,g y,⟨I,g f,M⟩,let⟨mc,h1,h2⟩:=A;⟨mc,g h1,h2⟩⟩;have e0:qD P w K mg (mD c.heap H) U7 [] c H:=⟨rfl,hM,λb o e=>zr e,Ug (t_ _ _),trivial,λb f=>absurd (show b∈([]:List MD)from f) (by simp),ay,.of_eq hg⟩;refine OH ((F _ B (g y)).run U7 [] c H ⟨[.ref a],[]⟩ [.ref a] [.ref a] _ _ hr e0 (j c (.ref a)) (.cons rfl .nil) (J H U hS)) λr s' h=>?_;cases r with
  |error e=>exact(N H e s' h).elim|ok fl=>cases fl with
   |next=>exact N7 h|brk=>exact N7 h|cont=>exact N7 h|ret u=>
    obtain⟨v,H',os,bare,un,t,Z,q⟩:=h;have q':v=.bl Mz:=q;subst q';obtain rfl:u=Rw Mz:=Z;refine⟨rfl,OldK.of_keep λb o e=>?_,os,bare⟩;cases q:H b with
    |none=>exact un.keep b o e q (by intro z;exact absurd (show b∈([]:List MD)from z) (by simp)) (by simp)|some u=>
     rcases U b with z|⟨ob,xs,z⟩;.rw[q]at z;cases z
     .have Y:=un.eB b ob _ z;obtain⟨e1,_⟩:=ay b _ z;obtain⟨e2,_⟩:=t b _ Y;rw[e]at e1;cases e1;exact e2
 cases L:K.lookup a with
 |some o=>
  have e:=X a o L;rw[E]at e;cases e;refine i (λ_=>MA) (λ_=>.inl rfl) (.inr ⟨_,vs.toArray,_,L,rfl,rfl,rfl,by rw[MR,p];exact S,by simpa using R⟩) (λb u z=>by have l:(MA:Option HO)=Mt u:=z;cases l) (λb z=>absurd rfl z) λz=>absurd rfl z|none=>
  refine i (λb=>if b=a then Mt (.bo {cls:=.type "list",data:=.seq vs.toArray} (.lst (ns.map V.int)))else MA) (λb=>?_) (.inl (.inr ⟨{cls:=.type "list",data:=.seq vs.toArray},if_pos rfl⟩)) (λb u z=>?_) (λb z=>?_) λ_=>L
  .by_cases f:b=a;.exact .inr ⟨_,_,if_pos f⟩
   .exact .inl (if_neg f)
  .by_cases f:b=a
   .have l:=(if_pos f).symm.trans z;cases l;subst f;exact⟨E,by rw[MT];exact S,vs,_,R,E⟩
   .have l:=(if_neg f).symm.trans z;cases l
  .by_cases f:b=a;.exact f
   .exact absurd (if_neg f) z
end L2
namespace L2
open PySem PySem.Spec PyProof.Rows
theorem zN{l:PySem.W.OpenLaw}{n k:Nat}{q:MX}{i:List M3}{S:(M3->Option Mv)->Na->Prop}{C:M_->Na->Prop}{d:DefRec}{K:R1->ME}{CX:M_->sI}{sp:M_->Sp}{x:M3}(I:l.most=Mt n)(y:n<=MP)(A:d.params.defaults=[])(E:bT k U7)(N:∀(w:M_)(h:Na),C w h->(K w.params).In h)(F:∀(w:M_)(mg:M3->Option Mv)(r:MD)(h:Na),(K w.params).In h->h.Ns NA mg->mg d.name=Mt (.ref r)->∃fd:N8,(∀(s:Mx)(u:Mv),WB s fd ⟨[u],[]⟩ [(x,u)])/\∀base:Na,(K w.params).In base->base.Ns NA mg->cw l.prog w (K w.params) mg base (CX w) k r fd [x] (sp w))(t:∀(w:M_)(H:Hp)(a:MD)(ns:List Int),ns.length<=n->C8 H->cP (K w.params) H a (ns.map V.int)->sp w [.ref a] H (λv _=>v=.bl Mz) λ_ _ _=>False)(B:∀(w:M_)(H:Hp)(s:Mx)(e:Mv)(s':Mx),CX w [] H s (λ_ _ _=>False) e s'->False):PySem.W.WalkO q i S C l.row.toRowW d [] (λf vs=>QV f vs):=by
 refine Att.oz I A λw bA m mg X r o U cd R a vs ns G Y Z hd L z p j c J=>?_;have D:=N w _ Y;obtain⟨fd,M,Q⟩:=F w mg r _ D G.T.g z;exact v_ D G.T.g G.T.b G.T.builtins G.T.nolimit J p j (Nw c y) E Q M (λH P O=>t w H a ns c P O) λH e s'=>B w H m e s'
end L2
namespace L2
open PySem PySem.Spec PyProof.Rows
noncomputable def cB(s:OM):TH:=match s with
 |.FunctionDef _ a _ _ _ _ _ _ _ _=>a|_=>{posonlyargs:=[],args:=[],vararg:=MA,kwonlyargs:=[],kw_defaults:=[],kwarg:=MA,defaults:=[]}
noncomputable def bD(s:OM):List OM:=match s with
 |.FunctionDef _ _ b _ _ _ _ _ _ _=>b|_=>[]
noncomputable def aj(s:OM):OJ:=match s with
 |.FunctionDef _ _ _ _ _ _ sc _ _ _=>sc|_=>{kind:=.function,names:=[],isGenerator:=My,isCoroutine:=My}
noncomputable abbrev qp:sI:=λ_ _ _ _ _ _=>False
noncomputable abbrev E0:XK:=λ_ _ _=>False
theorem Gi{X:Cx}:qF qp X E0:=λ_ _ _ _ _ _ _ h=>h.elim
structure ur(K:ME)(x qual:M3)(st:OM)(f:MD)(fd:N8):Prop where
 ex:∃(oc:Mv)(od:Option MD)(kV doc pm:Mv)(an:Option MD)(cdv ct:Mv)(osl:Array (Option Mv)),fd=Ua x qual (cB st) (bD st) (aj st) .none kV doc pm an cdv ct/\K.lookup f=Mt ⟨oc,od,.func fd,osl⟩/\Oy K cdv qual=Mz
 kp:QP K (.ref f)=Mz
section
variable{P:MX}{w:M_}{K:ME}{mg:M3->Option Mv}{base:Na}
theorem ur.ok{x a:M3}{st:OM}{f:MD}{fd:N8}{N ps:List M3}{k:Nat}{sp:Sp}(F:ur K x a st f fd)(S:bI N ps (aj st))(len:∀vs H Q E,sp vs H Q E->vs.length=ps.length)(c:∀(b:Mv)(A:Nc)(outer:List Sl)(s:Mx)(H:Hp)(vs:List V)(Q:VK)(E:XK),bT k (A.deeper (Tp a (aj st) s.heap.objs.size f b))->sp vs H Q E->∃t,n9 (g9 qp P w K mg base N a (aj st) f b A outer s H E).FU (bD st) t/\t {nx:=λ_ H'=>Q .aJ H',rt:=Q} (start N vs) H):cw P w K mg base qp (k+1) f fd ps sp:=by
 obtain⟨n,m,kV,j,l,o,b,ct,g,rfl,lk,e⟩:=F.ex;refine v5 lk e S len λA outer s H vs Q E i d=>?_;obtain⟨t,h,q⟩:=c b A outer s H vs Q E i d;exact⟨t,h.FU,q⟩
end
theorem Gj{A:Nc}{k:Nat}(a:bT k A):A.units+1<NV:=Nat.lt_of_le_of_lt (Nat.add_le_add_left (by decide:1<=64) _) a.units
section
variable{X:Cx}
theorem pv(i:Nat){x:M3}{pos:Od}(hN:X.N[i]?=Mt x:=by rfl)(b:n6 X.env.scope x:=by first|exact RQ rfl|exact SK (RQ rfl)|exact SK (SK rfl))(hd:(x==("__debug__":M3))=My:=by decide)(a:(x==("__classdict__":M3))=My:=by decide):PE X (.Name x pos) (FK i):=cv hN b hd a
end
theorem J5{A B:Prop}(h:B):if My=Mz then A else B:=by
 rw[if_neg Nx];exact h
theorem zO{c A B:Prop}[Decidable c](b:c->A)(a:¬c->B):if c then A else B:=by
 by_cases h:c
 .rw[if_pos h];exact b h
 .rw[if_neg h];exact a h
noncomputable def oA(H H':Hp):Prop:=∀b o,H b=Mt o->H' b=Mt o
end L2
namespace L2
open PySem PySem.Spec PyProof.Rows
end L2
end
section
namespace ST
open PySem PyProof.Rows
noncomputable def bH(es:Array (Int×Mv))(i:Nat):Int:=(es[i]?.map (·.1)).getD 0
section
variable{prog:MX}{w:M_}{K:Type}[DecidableEq K]{kk:Pa prog w K}{A:Nc}{E:Mv->Mx->Prop}{s:Mx}
noncomputable def jL(kk:Pa prog w K)(x:List K×MD):Int×Mv:=(Nb kk x.1,.ref x.2)
structure aI(kk:Pa prog w K)(h:Na)(a:MD)(xs:List (List K×MD))(t:Nk):Prop where
 ob:∃o es ep,h.get? a=Mt o/\o.ExactSet/\o.data=.set es ep t/\es.toList=xs.map (jL kk)tab:mC t (xs.map λx=>Nb kk x.1)n0:xs.length*5<t.mask*3
 nd:(xs.map (·.1)).Nodup
 led:t.led=!w.params.followText "set-order"
noncomputable def dh(kk:Pa prog w K)(h:Na)(xs:List (List K×MD)):Prop:=∀x∈xs,Om kk h x.1 x.2
theorem iH{ks:List K}{a:MD}{Q:Bool->Mx->Prop}(i:Om kk s.heap ks a)(h:Q My s):wpAny (MO prog w) A (Th 8 (.ref a)) Q E s:=by
 have m:=i.typeIs;obtain⟨o,items,n,k,_,hd,l⟩:=i;unfold Th;refine Ms (Q5 m ?_);simp only[beq_self_eq_true,if_true];refine Ms (Mu ?_);simp only[Pb,M0,if_false];refine Ms (NH k hd ?_);refine Ms ?_;show wpAny _ _ (forIn items _ _) _ _ s;rw[<-Qj];refine Pz _ (λb r d=>r.1=MA/\d=s/\∀v∈b,carriedByValue v=Mz) _ ?_ ?_ _ _ ⟨rfl,rfl,l.byValue⟩
 .rintro v b r d⟨g,rfl,c⟩;have j:=c v MG;have e:Th 7 v=pure My:=by cases v<;>first|rfl|cases j
  rw[e];refine Ms (Mu ?_);simp only[M0,if_false];exact Mu ⟨rfl,rfl,λu f=>c u (MM _ f)⟩
 .rintro⟨q,p⟩d⟨g,rfl,_⟩;simp only at g;subst g;exact Mu h
theorem zP{ks:List K}{b:MD}(k:Om kk s.heap ks b){Q:Bool->Mx->Prop}(ys:List Mv)(m:∀y∈ys,∃f c,y=.ref c/\Om kk s.heap f c)(h:Q My s):wpAny (MO prog w) A (VI (.ref b) ys) Q E s:=by
 unfold VI;refine Ms (Pz _ (λd r g=>r.1=MA/\g=s/\∀y∈d,∃f c,y=.ref c/\Om kk s.heap f c) _ ?_ ?_ _ _ ⟨rfl,rfl,m⟩)
 .rintro y d r g⟨j,rfl,e⟩;obtain⟨f,c,rfl,l⟩:=e y MG;have a:∀y∈d,∃f c,y=.ref c/\Om kk g.heap f c:=λu i=>e u (MM _ i);dsimp only;split;.exact Mu ⟨rfl,rfl,a⟩
  .refine Ms (UA k ?_);simp only[Pb,M0,if_false];refine Ms (UA l ?_);simp only[Pb,M0,if_false];refine Ms (iH k ?_);simp only[M0,if_false];refine Ms (iH l ?_);simp only[M0,if_false];exact Mu ⟨rfl,rfl,a⟩
 .rintro⟨o,n⟩g⟨j,rfl,_⟩;simp only at j;subst j;exact Mu h
noncomputable def bc(h:Na)(b:MD):Prop:=∃o items n,h.get? b=Mt o/\o.data=.seq items n/\∀v∈items.toList,R8 7 v=pure Mz
theorem qL{ks:List K}{a:MD}{Q:Bool->Mx->Prop}(x:Om kk s.heap ks a)(h:∀b,(bc s.heap a->b=Mz)->Q b s):wpAny (MO prog w) A (R8 8 (.ref a)) Q E s:=by
 have H:=x.typeIs;obtain⟨o,items,n,t,_,hd,G⟩:=x;unfold R8;refine Ms (Qp H PySem.F.slot_tuple_hash.lookup ?_);dsimp only;refine Ms (NH t hd ?_);refine Ms ?_;show wpAny _ _ (forIn items _ _) _ _ s;rw[<-Qj];have B:bc s.heap a->∀v∈items.toList,R8 7 v=pure Mz:=λl=>by
  obtain⟨J,j,L,f,g,D⟩:=l;rw[t]at f;cases f;rw[hd]at g;cases g;exact D
 refine Pz _ (λd r i=>i=s/\(∀v∈d,carriedByValue v=Mz/\v∈items.toList)/\(bc s.heap a->r.1=MA\/r.1=Mt Mz)) _ ?_ ?_ _ _ ⟨rfl,λv k=>⟨G.byValue v k,k⟩,λ_=>.inl rfl⟩
 .rintro v d r i⟨rfl,c,p⟩;have k:=(c v MG).1;have e:∃b,R8 7 v=pure b:=by cases v<;>first|exact⟨_,rfl⟩|cases k
  obtain⟨b,e⟩:=e;have C:bc i.heap a->b=Mz:=λq=>by
   have:=B q v (c v MG).2;rw[e]at this;injection this
  rw[e];refine Ms (Mu ?_);cases b with
  |true=>exact Mu ⟨rfl,λu m=>c u (MM _ m),λ_=>.inl rfl⟩|false=>exact Mu (Mu (h _ C))
 .rintro⟨y,I⟩i⟨rfl,_,p⟩;cases y with
  |none=>exact Mu (h _ λ_=>rfl)|some b=>exact Mu (h _ λq=>by
    rcases p q with z|z;.cases z
    .exact MI z)
theorem fN{a b:MD}{xs:List (List K×MD)}{t:Nk}{k:List K}{d:Bool}(hu:A.units<NV)(S:aI kk s.heap a xs t)(hK:dh kk s.heap xs)(W:Om kk s.heap k b){N:Nat}(F:oh t (Nb kk k) N)(hN:N<10*OO t.mask){Q:SetFound->Mx->Prop}(yes:k∈xs.map (·.1)->∀o,(o.isSome=Mz\/d=Mz)->Q (.there o) s)(no:k∉xs.map (·.1)->Q (.free (bC t.mask (MU (Nb kk k)) N).j My) s):∀(fuel n:Nat),n<=N->N<n+fuel->(∀m,m<n->∀(i:Nat)(x:List K×MD),t.place[i]?=Mt (bC t.mask (MU (Nb kk k)) m).j->xs[i]?=Mt x->x.1≠k)->∀f:Option Pd,f.getD (t.probeStart (Nb kk k))=bC t.mask (MU (Nb kk k)) n->wpAny (MO prog w) A (setSearchFrom a (.ref b) (Nb kk k) d fuel f) Q E s
 |0,n,h1,h2,_,_,_=>by omega|fuel+1,n,h1,h2,L,f,R=>by
  obtain⟨o,B,ep,ho,hex,hd,D⟩:=S.ob;have T:=S.tab;have P:B.size=xs.length:=by have:=congrArg Oc D;simpa using this
  have hf:t.fits B.size=Mz:=by
   unfold Tq R6;have h3:=T.len;have h4:=T.n0;simp only[MT]at h3 h4;rw[T.zo,P];simp[h3];omega
  have g:∀(i:Nat)(x:List K×MD),xs[i]?=Mt x->B[i]?=Mt (jL kk x):=λi x e=>by
   have:B.toList[i]?=Mt (jL kk x):=by rw[D,Nq,e];rfl
   simpa using this
  unfold setSearchFrom;refine Ms (Ob ho hd hf ?_);dsimp only;rw[T.odd];simp only[M0,if_false];rw[R];have at_:∀i,(C:i<xs.length)->xs[i].1=k->∃m,m<N/\t.place[i]?=Mt (bC t.mask (MU (Nb kk k)) m).j:=λi C hk=>by
   have r:i<t.place.size:=by rw[T.len];simpa using C
   obtain⟨m,M,U⟩:=T.way i (Nb kk k) t.place[i] (by rw[Nq,MZ C];simp[hk]) (M8 r);refine⟨m,?_,by rw[M];exact M8 r⟩;rcases QJ m N with c|c|c;.exact c
   .subst c;exact absurd (by rw[M];exact M8 r) (F.1 i)
   .obtain⟨J,q⟩:=U N c;exact absurd q (F.1 J)
  have hash:∀(i:Nat)(x:List K×MD),xs[i]?=Mt x->bH B i=Nb kk x.1:=λi x p=>by
   unfold bH;rw[g i x p];rfl
  have O:∀(i j:Nat),t.place[i]?=Mt j->∃x,xs[i]?=Mt x:=λi j e=>by
   have:=(Array.getElem?_eq_some_iff.mp e).1;rw[T.len]at this;simp only[MT]at this;exact⟨xs[i],MZ this⟩
  have G:N<n+10*OO t.mask:=by omega
  rcases jC T F (bH B) (10*OO t.mask) n h1 G with⟨I,i,a1,a2,a3,a4,Z,Y⟩|⟨Z,Y⟩
  .have e:t.probe (bH B) (Nb kk k) (bC t.mask (MU (Nb kk k)) n)=Mt (.candidate (bC t.mask (MU (Nb kk k)) I).j i (bC t.mask (MU (Nb kk k)) (I+1))):=Y;erw[e];dsimp only;obtain⟨x,p⟩:=O i _ a3;have l:=hK x (Nz p);cases hl:t.led;simp only[Bool.not_false,if_true];refine Ms (zP W _ (λy hy=>?_) ?_)
   .simp only[List.mem_map,UQ,Array.mem_filter]at hy;obtain⟨en,⟨V,_⟩,rfl⟩:=hy;have:en∈xs.map (jL kk):=by rw[<-D];exact Array.mem_toList_iff.mpr V
    obtain⟨H,h,rfl⟩:=List.mem_map.mp this;exact⟨H.1,H.2,rfl,hK H h⟩
   all_goals
    simp only[Pb,M0,if_false];rw[g i x p];dsimp only[jL];refine Ms (M2 (wpAny_eqBool_tuple hu l W ?_));refine Ms (Ob ho hd hf ?_);dsimp only;have sm:t.sameMemory t.moves t.mask=Mt Mz:=by unfold SetTable.sameMemory;simp
    have sl:t.slot (bC t.mask (MU (Nb kk k)) I).j=.live i:=lI T.rise a3;by_cases u:x.1=k
    .have v:k∈xs.map (·.1):=List.mem_map.mpr ⟨x,Nz p,u⟩;rw[decide_eq_true u];cases d with
     |true=>exact Mu (yes v MA (.inr rfl))|false=>
      simp only[UN,M0,if_false,sm,if_true,sl,g i x p,jL];refine Ms ?_;unfold isSame;simp only[beq_self_eq_true,if_true];refine Mu (Ms (Mu ?_));simp only[if_true];exact Mu (yes v (Mt i) (.inl rfl))
    .rw[decide_eq_false u];simp only[Bool.and_false,M0,if_false,sm,if_true,sl,g i x p,jL];refine Ms ?_;unfold isSame;simp only[beq_self_eq_true,if_true];refine Mu (Ms (Mu ?_));simp only[if_true];refine fN hu S hK W F hN yes no fuel (I+1) (by omega) (by omega) (λm hm J H r h=>?_) _ rfl;by_cases X:m<n;.exact L m X J H r h
     .by_cases c2:m<I
      .intro z;have:=Z m (by omega) c2 J r;rw[hash J H h,z]at this;exact this rfl
      .have:m=I:=by omega
       subst this;have:J=i:=by rw[<-below_at T.rise r,below_at T.rise a3]
       subst this;rw[p]at h;cases h;exact u
  .have e:t.probe (bH B) (Nb kk k) (bC t.mask (MU (Nb kk k)) n)=Mt (.empty (bC t.mask (MU (Nb kk k)) N).j MA):=Y;erw[e];dsimp only;refine Mu (no λv=>?_);obtain⟨x,p,l⟩:=List.mem_map.mp v;obtain⟨i,C,rfl⟩:=List.mem_iff_getElem.mp p;obtain⟨m,hm,r⟩:=at_ i C l;by_cases X:m<n;.exact L m X i xs[i] r (MZ C) l
   .have:=Z m (by omega) hm i r;rw[hash i xs[i] (MZ C),l]at this;exact this rfl
end
end ST
end
section
namespace ST
open PySem PyProof.Rows
section
variable{prog:MX}{w:M_}{K:Type}[DecidableEq K]{kk:Pa prog w K}{A:Nc}{E:Mv->Mx->Prop}{s:Mx}
theorem aF{a:Type}{m m':U5 a}{Q:a->Mx->Prop}(e:m=m')(h:wpAny (MO prog w) A m' Q E s):wpAny (MO prog w) A m Q E s:=e▸h
theorem aI.fits{a:MD}{h:Na}{xs:List (List K×MD)}{t:Nk}(S:aI kk h a xs t):t.fits xs.length=Mz:=by
 have T:=S.tab;have b:=T.len;have c:=T.n0;simp only[MT]at b c;unfold Tq R6;rw[T.zo];simp[b];omega
theorem wa{t:Nk}{a:List Int}(T:mC t a)(b:Bool):mC {t with plain:=b} a:=⟨T.mask,T.rise,T.zo,T.len,T.low,T.n0,T.way⟩
theorem fits_of{t:Nk}{a:List Int}(T:mC t a){n:Nat}(e:n=a.length):t.fits n=Mz:=by
 unfold Tq R6;have b:=T.len;have c:=T.n0;rw[T.zo,e];simp[b];omega
theorem oB{t:Nk}{a:List Int}(T:mC t a):10*OO t.mask<100000:=by rcases T.mask with e|e|e|e<;>rw[e]<;>decide
theorem mM{a b:MD}{xs:List (List K×MD)}{t:Nk}{k:List K}(hu:A.units<NV)(S:aI kk s.heap a xs t)(hK:dh kk s.heap xs)(U:Om kk s.heap k b)(hn:xs.length<4){Q:Bool->Mx->Prop}(old:k∈xs.map (·.1)->Q My s)(new:k∉xs.map (·.1)->∀h' r t',NW a s.heap h'->aI kk h' a r t'->r.Perm ((k,b)::xs)->(t.plain=Mz->bc s.heap b->t'.plain=Mz)->Q Mz {s with heap:=h'}):wpAny (MO prog w) A (UR a (.ref b) (Nb kk k) 100000) Q E s:=by
 obtain⟨o,i,ep,B,hex,hd,y⟩:=id S.ob;have T:=S.tab;have I:i.size=xs.length:=by have:=congrArg Oc y;simpa using this
 have R:t.fits i.size=Mz:=by rw[I];exact S.fits
 unfold UR;refine Ms (Ob B hd R ?_);dsimp only;have J:byScan (.ref b) i=My:=by unfold byScan;simp[Value.scannable]
 rw[J];simp only[M0,if_false];obtain⟨N,hN,F⟩:=T.first (Nb kk k);unfold setSearch;have tl:=oB T;refine Ms (fN hu S hK U F hN (λO o _=>Mu (old O)) (λl=>?_) 100000 0 (Nv _) (by omega) (λm hm=>absurd hm (Ro _)) MA rfl);dsimp only;refine Ms (Ob B hd R ?_);dsimp only;have n:(xs.map λx=>Nb kk x.1).length+1<=t.mask:=by
  have:=S.n0;simp only[MT];rcases T.mask with e|e|e|e<;>rw[e]at this⊢<;>omega
 obtain⟨hp,C⟩:=T.put F n;have ed:(t.put (bC t.mask (MU (Nb kk k)) N).j).1.plain=t.plain:=rfl;have W:(t.put (bC t.mask (MU (Nb kk k)) N).j).1.mask=t.mask:=rfl;have el:(t.put (bC t.mask (MU (Nb kk k)) N).j).1.led=t.led:=rfl;generalize(t.put (bC t.mask (MU (Nb kk k)) N).j).2=p at*;generalize(t.put (bC t.mask (MU (Nb kk k)) N).j).1=g at*;simp only[MT]at hp;have eh:((xs.take p++(k,b)::xs.drop p).map λx=>Nb kk x.1)=((xs.map λx=>Nb kk x.1).take p++Nb kk k::(xs.map λx=>Nb kk x.1).drop p):=by rw[OZ,M9,Tr,Ts]
 rw[<-eh]at C;have G:(xs.take p++(k,b)::xs.drop p).Perm ((k,b)::xs):=by
  have:=TM (a:=(k,b)) (l₁:=xs.take p) (l₂:=xs.drop p);rwa[RW]at this
 have z:(Nm i p (Nb kk k,.ref b)).toList=(xs.take p++(k,b)::xs.drop p).map (jL kk):=by
  rw[b8 i p _ (by omega),y,OZ,M9,Tr,Ts];rfl
 generalize Z:xs.take p++(k,b)::xs.drop p=d at*;have oE:d.length=xs.length+1:=by rw[G.length_eq];rfl
 have H:(d.map (·.1)).Nodup:=by
  refine(G.map (·.1)).nodup_iff.mpr ?_;exact List.nodup_cons.mpr ⟨l,S.nd⟩
 have h:∀f:Bool,(t.plain=Mz->bc s.heap b->f=Mz)->wpAny (MO prog w) A (storeSet a (Nm i p (Nb kk k,.ref b)) {g with plain:=f}>>=λ_=>(if(!false&&({g with plain:=f}:Nk).tooFull)=Mz then setRelay a (SetTable.grown (i.size+1))>>=λ_=>pure Mz else pure Mz)) Q E s:=by
  intro f M;have T2:=wa C f;have D:(Nm i p (Nb kk k,.ref b)).size=d.length:=by have:=congrArg Oc z;simpa using this
  refine Ms (VJ B hd ?_ (by rw[D,NR];omega));have u:=M6 (Obj.putSet (Nm i p (Nb kk k,.ref b)) {g with plain:=f}) B (by rw[V4 _ _ hd];rfl);rw[V4 _ _ hd]at u;have Y:({g with plain:=f}:Nk).tooFull=decide (¬d.length*5<t.mask*3):=by
   unfold SetTable.tooFull R6;have V:=C.len;have h4:=C.zo;simp only[MT]at V;simp only[V,h4,W];simp
  have v:({o with data:=.set (Nm i p (Nb kk k,.ref b)) (ep+1) {g with plain:=f}}:NF).ExactSet:=hex;rw[Y];have c:d.length*5<t.mask*3:=by
   rw[oE];rcases T.mask with e|e|e|e<;>rw[e]<;>omega
  rw[if_neg (by simpa using c)];exact Mu (new l _ d {g with plain:=f} (NX ..) ⟨⟨_,_,_,u,v,rfl,z⟩,T2,by rw[show({g with plain:=f}:Nk).mask=t.mask from W];exact c,H,by rw[show({g with plain:=f}:Nk).led=t.led from el];exact S.led⟩ G M)
 cases L:g.plain with
 |true=>
  simp only[if_true];refine Ms (qL U λf P=>?_);cases f with
  |true=>exact h g.plain (λ_ _=>L)|false=>exact h My (λ_ q=>P q)
 |false=>
  simp only[M0,if_false];refine Ms (Mu ?_);exact h g.plain (λq _=>by rw[<-ed]at q;exact q)
end
end ST
end
section
namespace ST
open PySem PyProof.Rows
theorem oF{t:Nk}{a:List Int}(T:mC t a){h:Int}{N:Nat}(F:oh t h N)(hN:N<10*OO t.mask):t.freeSlot h=Mt ((bC t.mask (MU h) N).j,My):=by
 unfold SetTable.freeSlot;have e:t.probe (λ_=>h+1) h (t.probeStart h)=Mt (.empty (bC t.mask (MU h) N).j MA):=by
  rcases jC T F (λ_=>h+1) (10*OO t.mask) 0 (Nv _) (by omega)with⟨b,i,_,_,_,c,_⟩|⟨_,g⟩;.omega
  .exact g
 rw[e];rfl
section
variable{prog:MX}{w:M_}{A:Nc}{E:Mv->Mx->Prop}{s:Mx}
noncomputable def qM(prog:MX)(w:M_)(x:Int×Ut):Int×Mv:=((NS prog w).hash x.1,.int x.1 x.2)
structure mO(prog:MX)(w:M_)(h:Na)(a:MD)(xs:List (Int×Ut))(t:Nk):Prop where
 ob:∃o es ep,h.get? a=Mt o/\o.ExactSet/\o.data=.set es ep t/\es.toList=xs.map (qM prog w)tab:mC t (xs.map λx=>(NS prog w).hash x.1)n0:xs.length*5<t.mask*3
 nd:(xs.map (·.1)).Nodup
 led:t.led=!w.params.followText "set-order"plain:t.plain=Mz
theorem sQ(xs:List (Int×Ut)):ElemsOf (NS prog w) (xs.map (qM prog w)):=λe a=>by
 obtain⟨x,_,rfl⟩:=List.mem_map.mp a;exact⟨⟨x.1,QX _ _ _ _,rfl⟩,rfl⟩
theorem sR{a:MD}{xs:List (Int×Ut)}{t:Nk}{i:Int}{b:Ut}(S:mO prog w s.heap a xs t)(hn:xs.length<4){Q:Bool->Mx->Prop}(old:i∈xs.map (·.1)->Q My s)(new:i∉xs.map (·.1)->∀h' n t',NW a s.heap h'->mO prog w h' a n t'->n.Perm ((i,b)::xs)->Q Mz {s with heap:=h'}):wpAny (MO prog w) A (RR a (.int i b) ((NS prog w).hash i)) Q E s:=by
 obtain⟨o,d,ep,C,hex,hd,f⟩:=id S.ob;have T:=S.tab;have J:d.size=xs.length:=by have:=congrArg Oc f;simpa using this
 have v:ElemsOf (NS prog w) d.toList:=by rw[f];exact sQ xs
 have O:t.fits d.size=Mz:=fits_of T (by rw[J,MT]);have hb:d.size<scanBound:=by unfold scanBound;omega
 unfold RR UR;refine M2 (Ms (Ob C hd O ?_));dsimp only;rw[byScan_of (knd:=NS prog w) rfl hb v];simp only[↓reduceIte];unfold setAddByScan;refine Ms (Ms (Qk (Ms (wpAny_setScan_of (knd:=NS prog w) (QX _ _ _ _) C hd O v ?_))));cases M:List.findIdx? (λe=>(NS prog w).is i e.2) d.toList with
 |some j=>
  obtain⟨Z,K,_⟩:=List.findIdx?_eq_some_iff_getElem.mp M;have Y:∃e∈xs.map (qM prog w),(NS prog w).is i e.2=Mz:=⟨_,f▸List.getElem_mem Z,K⟩;obtain⟨e,he,L⟩:=Y;obtain⟨x,I,rfl⟩:=List.mem_map.mp he;have:i=x.1:=(NS prog w).inj _ _ _ L (QX _ _ _ _);exact Mu (Mu (old (by rw[this];exact Np I)))|none=>
  have h:i∉xs.map (·.1):=λz=>by
   obtain⟨x,I,rfl⟩:=List.mem_map.mp z;have:=List.findIdx?_eq_none_iff.mp M (qM prog w x) (by rw[f];exact Np I);rw[show(NS prog w).is x.1 (qM prog w x).2=Mz from QX _ _ _ _]at this;cases this
  dsimp only;obtain⟨N,hN,F⟩:=T.first ((NS prog w).hash i);have m:(xs.map λx=>(NS prog w).hash x.1).length+1<=t.mask:=by
   have:=S.n0;simp only[MT];rcases T.mask with e|e|e|e<;>rw[e]at this⊢<;>omega
  obtain⟨L,B⟩:=T.put F m;have U:(t.put (bC t.mask (MU ((NS prog w).hash i)) N).j).1.plain=t.plain:=rfl;have R:(t.put (bC t.mask (MU ((NS prog w).hash i)) N).j).1.mask=t.mask:=rfl;have el:(t.put (bC t.mask (MU ((NS prog w).hash i)) N).j).1.led=t.led:=rfl;have eL:layNew t d ((NS prog w).hash i) (.int i b)=(Nm d (t.put (bC t.mask (MU ((NS prog w).hash i)) N).j).2 ((NS prog w).hash i,.int i b),(t.put (bC t.mask (MU ((NS prog w).hash i)) N).j).1.orStandIn (Nm d (t.put (bC t.mask (MU ((NS prog w).hash i)) N).j).2 ((NS prog w).hash i,.int i b)).size,My,!(t.put (bC t.mask (MU ((NS prog w).hash i)) N).j).1.fits (Nm d (t.put (bC t.mask (MU ((NS prog w).hash i)) N).j).2 ((NS prog w).hash i,.int i b)).size):=by
   unfold layNew;rw[oF T F hN]
  generalize(t.put (bC t.mask (MU ((NS prog w).hash i)) N).j).2=p at*;generalize(t.put (bC t.mask (MU ((NS prog w).hash i)) N).j).1=l at*;simp only[MT]at L;have eh:((xs.take p++(i,b)::xs.drop p).map λx=>(NS prog w).hash x.1)=((xs.map λx=>(NS prog w).hash x.1).take p++(NS prog w).hash i::(xs.map λx=>(NS prog w).hash x.1).drop p):=by rw[OZ,M9,Tr,Ts]
  rw[<-eh]at B;have D:(xs.take p++(i,b)::xs.drop p).Perm ((i,b)::xs):=by
   have:=TM (a:=(i,b)) (l₁:=xs.take p) (l₂:=xs.drop p);rwa[RW]at this
  have y:(Nm d p ((NS prog w).hash i,.int i b)).toList=(xs.take p++(i,b)::xs.drop p).map (qM prog w):=by
   rw[b8 d p _ (by omega),f,OZ,M9,Tr,Ts];rfl
  generalize X:xs.take p++(i,b)::xs.drop p=xs1 at*;generalize Nm d p ((NS prog w).hash i,.int i b)=g at*;have oE:xs1.length=xs.length+1:=by rw[D.length_eq];rfl
  have q:g.size=xs1.length:=by have:=congrArg Oc y;simpa using this
  have k:l.fits g.size=Mz:=fits_of B (by rw[q,MT]);have G:l.orStandIn g.size=l:=by unfold SetTable.orStandIn;rw[k];rfl
  rw[eL,G,k];have H:(xs1.map (·.1)).Nodup:=(D.map (·.1)).nodup_iff.mpr (List.nodup_cons.mpr ⟨h,S.nd⟩);dsimp only;refine Ms (Mu ?_);rw[U,S.plain];simp only[if_true];refine Ms (Mu ?_);simp only[if_true];refine Ms (VJ C hd ?_ (by rw[q,NR];omega));have r:=M6 (Obj.putSet g l) C (by rw[V4 _ _ hd];rfl);rw[V4 _ _ hd]at r;have u:({o with data:=.set g (ep+1) l}:NF).ExactSet:=hex;have W:l.tooFull=decide (¬xs1.length*5<t.mask*3):=by
   unfold SetTable.tooFull R6;have P:=B.len;have h4:=B.zo;simp only[MT]at P;simp only[P,h4,R];simp
  rw[W];have c:xs1.length*5<t.mask*3:=by
   rw[oE];rcases T.mask with e|e|e|e<;>rw[e]<;>omega
  rw[if_neg (by simpa using c)];exact Mu (Mu (new h _ xs1 l (NX ..) ⟨⟨_,_,_,r,u,rfl,y⟩,B,by rw[R];exact c,H,by rw[el];exact S.led,by rw[U];exact S.plain⟩ D))
end
end ST
end
section
namespace SortM
open PySem PySem.W PyProof.Rows
structure Ord(N:Nat)(lt:Nat->Nat->Bool)(cmp:Nat->Nat->(Bool->Mx->Prop)->Mx->Prop)(s:Mx):Prop where
 ask:∀(i j:Nat)(C:Bool->Mx->Prop),i<N->j<N->C (lt i j) s->cmp i j C s
 Gk:∀a b,lt a b=Mz->lt b a=My
 Mr:∀a b c,lt a b=My->lt b c=My->lt a c=My
noncomputable abbrev at'(p:Array Nat)(k:Nat):Nat:=p.getD k 0
noncomputable def Ok(N:Nat)(p:Array Nat):Prop:=p.size=N/\p.toList.Perm (N6 N)
section
variable{N:Nat}{lt:Nat->Nat->Bool}{cmp:Nat->Nat->(Bool->Mx->Prop)->Mx->Prop}{s:Mx}
noncomputable def Up(lt:Nat->Nat->Bool)(p:Array Nat)(k:Nat):Prop:=∀i j,i<=j->j<k->lt (at' p j) (at' p i)=My
theorem Ord.refl(O:Ord N lt cmp s)(a:Nat):lt a a=My:=by cases h:lt a a with
 |false=>rfl|true=>
  have:=O.Gk a a h;rw[h]at this;cases this
theorem wb{p:Array Nat}(O:Ord 2 lt cmp s)(h:lt (at' p 1) (at' p 0)=My):Up lt p 2:=by
 intro i j a b;have:j=0\/j=1:=by omega
 rcases this with rfl|rfl
 .have:i=0:=by omega
  subst this;exact O.refl _
 .have:i=0\/i=1:=by omega
  rcases this with rfl|rfl;.exact h
  .exact O.refl _
theorem zQ(O:Ord N lt cmp s)(a:N=2){Q:Array Nat->Mx->Prop}(q:∀p,Ok N p->Up lt p N->Q p s):(kas_sort N).kasWp cmp Q s:=by
 subst a;show cmp 1 0 _ s;refine O.ask 1 0 _ (by decide) (by decide) ?_;cases h:lt 1 0 with
 |true=>exact q #[1,0] ⟨rfl,by decide⟩ (wb O (O.Gk 1 0 h))|false=>exact q #[0,1] ⟨rfl,by decide⟩ (wb O h)
end
end SortM
end
section
namespace SortM
open PySem PySem.W PyProof.Rows
noncomputable def Kept(a:MD)(h h':Na):Prop:=∀b o,b≠a->h.get? b=Mt o->h'.get? b=Mt o
theorem wc(n:Nat):Ok n (N4 (N6 n)):=⟨by simp,by simp⟩
theorem g_(vs:List Mv):((N4 (N6 vs.length)).toList.map λi=>vs.getD i M5)=vs:=by
 show(N6 vs.length).map (λi=>vs.getD i M5)=vs;apply List.ext_getElem;.simp
 .intro i a b;simp at a;simp[Oz,a]
section
variable{prog:MX}{w:M_}{A:Nc}{E:Mv->Mx->Prop}{s:Mx}
theorem mP{a:MD}{vs:List Mv}{n:Nat}{P:PySem.Fin->Mx->Prop}{D:Wq}{lt:Nat->Nat->Bool}(B:s.heap.get? a=Mt (Rb "list" vs.toArray n))(I:vs.length<3)(F:∀i,lt i i=My)(R:2<=vs.length->∀h',Kept a s.heap h'->(∀L:Wq->Mx->Prop,L D {s with heap:=h'}->wpAny (MO prog w) A (keyKind' vs.toArray) L (λ_ _=>False) {s with heap:=h'})/\Ord vs.length lt (WD prog w A D vs) {s with heap:=h'})(h:∀(p:Array Nat)(h':Na)(c:Nat),Ok vs.length p->Up lt p vs.length->Kept a s.heap h'->h'.get? a=Mt (Rb "list" (N4 (p.toList.map λi=>vs.getD i M5)) c)->P (.done (.ret .none)) {s with heap:=h'}):wpAny (MO prog w) A (Builtin.«list.sort» ⟨[.ref a],[]⟩) P E s:=by
 have Y:a<s.heap.objs.size:=MH B;have s1:=NX s.heap a (NP λ_=>(#[]:Array Mv));obtain⟨e1,t⟩:∃e1,(s.heap.update a (NP λ_=>(#[]:Array Mv))).get? a=Mt (Rb "list" #[] e1):=⟨_,Ux B λ_=>#[]⟩;rw[list_sort_plain];refine Ms (listItems_at B rfl ?_);refine Ms (Vg B rfl ?_ (by rw[MR,NR];omega) (Nv _));refine Ms (V9 t rfl ?_);refine Ms (US ?_ (by show vs.length<=_;rw[NR];omega));refine Ms (wpAny_newList ?_ (Nv _));refine M2 ?_;show wpAny (MO prog w) A _ P E {s with heap:=((s.heap.update a (NP λ_=>(#[]:Array Mv))).push (Rb "tuple" vs.toArray 0)).push (Rb "list" #[] 0)};generalize y:((s.heap.update a (NP λ_=>(#[]:Array Mv))).push (Rb "tuple" vs.toArray 0)).push (Rb "list" #[] 0)=h6;have J:Kept a s.heap h6:=λb o C e=>by
  rw[<-y];exact Mw _ (Mw _ ((s1.2 b C).trans e))
 have d:h6.get? a=Mt (Rb "list" #[] e1):=by
  rw[<-y];exact Mw _ (Mw _ t)
 dsimp only;have fin:∀(p:Array Nat),Ok vs.length p->Up lt p vs.length->∀c2,(h6.update a (NP λ_=>N4 (p.toList.map λi=>vs.getD i M5))).get? a=Mt (Rb "list" (N4 (p.toList.map λi=>vs.getD i M5)) c2)->P (.done (.ret .none)) {s with heap:=h6.update a (NP λ_=>N4 (p.toList.map λi=>vs.getD i M5))}:=λp v u c2 e2=>h p _ c2 v u (λb o C e=>((NX h6 a _).2 b C).trans (J b o C e)) e2;by_cases m:vs.toArray.size<2
 .rw[if_pos m,if_pos m];refine Ms (Mu ?_);rw[StateT.run_pure];refine Ms (Mu ?_);dsimp only;have f:(arrOf (SortSt.mk' general' (vs.toArray.zip vs.toArray) #[] 7 MA)).map (·.2)=N4 ((N4 (N6 vs.length)).toList.map λi=>vs.getD i M5):=by
   rw[g_];show(vs.toArray.zip vs.toArray).map (·.2)=vs.toArray;apply Array.toList_inj.mp;rw[Array.toList_map,Array.toList_zip];exact List.map_snd_zip (MN _)
  rw[f];obtain⟨c2,l⟩:∃c2,(h6.update a (NP λ_=>N4 ((N4 (N6 vs.length)).toList.map λi=>vs.getD i M5))).get? a=Mt (Rb "list" (N4 ((N4 (N6 vs.length)).toList.map λi=>vs.getD i M5)) c2):=⟨_,Ux d λ_=>_⟩;refine Ms (V9 d rfl ?_);refine Ms (Vg d rfl ?_ (Nv _) (by rw[g_,MR,NR];omega));simp only[bne_self_eq_false,M0,if_false];refine Mu (fin _ (wc _) (λi j S X=>?_) c2 l);have r:vs.length<2:=by simpa using m
  have e1:i=0:=by omega
  have e2:j=0:=by omega
  subst e1;subst e2;exact F _
 .rw[if_neg m,if_neg m];have z:2<=vs.length:=by
   have:¬vs.length<2:=by simpa using m
   omega
  obtain⟨M,O⟩:=R z h6 J;refine Ms (N3 (M (λq k=>q=D/\k={s with heap:=h6}) ⟨rfl,rfl⟩) (λq W e0=>?_) λ_ _ x=>x.elim);obtain⟨rfl,rfl⟩:=e0;refine Ms (N3 (kat_run (Q:=λg k=>∃p:Array Nat,k={s with heap:=h6}/\arrOf g=p.map (kas_item (vs.toArray.zip vs.toArray))/\failedOf g=MA/\Ok vs.length p/\Up lt p vs.length) (G:=λp k=>k={s with heap:=h6}/\Ok vs.length p/\Up lt p vs.length) rfl z (M7 I (by decide)) (λN g k Z V U K=>⟨N,K.1,V,U,K.2⟩) (zQ O (by omega) λp v u=>⟨rfl,v,u⟩)) ?_ λ_ _ e=>e);rintro⟨⟨⟩,g⟩k⟨p,rfl,H,T,v,u⟩;dsimp only;have f:=kat_snds rfl H;rw[f];have r:(N4 (p.toList.map λi=>vs.getD i M5)).size=vs.length:=by rw[MR,MT,OW,v.1]
  obtain⟨c2,l⟩:∃c2,(h6.update a (NP λ_=>N4 (p.toList.map λi=>vs.getD i M5))).get? a=Mt (Rb "list" (N4 (p.toList.map λi=>vs.getD i M5)) c2):=⟨_,Ux d λ_=>_⟩;refine Ms (V9 d rfl ?_);refine Ms (Vg d rfl ?_ (Nv _) (Nw (Ug r) (by rw[NR];omega)));rw[T];simp only[bne_self_eq_false,M0,if_false];exact Mu (fin p v u c2 l)
end
end SortM
end
section
namespace SortM
open PySem PySem.W PyProof.Rows L2
noncomputable abbrev dA(h h':Na):Prop:=∀b o,h.get? b=Mt o->h'.get? b=Mt o
section
variable{prog:MX}{w:M_}{A:Nc}{E:Mv->Mx->Prop}{s:Mx}
structure qN(prog:MX)(w:M_)(A:Nc)(vals:List Mv)(κ:Wq)(lt:Nat->Nat->Bool)(s:Mx):Prop where
 rf:∀i,lt i i=My
 kind:2<=vals.length->∀h',dA s.heap h'->∀Q':Wq->Mx->Prop,Q' κ {s with heap:=h'}->wpAny (MO prog w) A (keyKind' vals.toArray) Q' (λ_ _=>False) {s with heap:=h'}ord:2<=vals.length->∀h',dA s.heap h'->Ord vals.length lt (WD prog w A κ vals) {s with heap:=h'}
theorem hI{v:Mv}{Q:Mv->Mx->Prop}(h:wpAny (MO prog w) A.in1 (U8 v) (λa s1=>a.length<3/\∃f lt,qN prog w A.in1.in1 a f lt s1/\∀(p:Array Nat)(h':Na)(c:Nat),Ok a.length p->Up lt p a.length->dA s1.heap h'->h'.get? s1.heap.objs.size=Mt (Rb "list" (N4 (p.toList.map λi=>a.getD i M5)) c)->Q (.ref s1.heap.objs.size) {s1 with heap:=h'}) E s):wpAny (MO prog w) A (call (.builtin "sorted") [v]) Q E s:=by
 refine Calls.call_function_entry kind_sorted plain_sorted entry_sorted (args_sorted1 _) ?_;unfold Builtin.«sorted»;refine Ms (m:=checkCount "sorted" 1 1 _) (Mu ?_);refine Ms (N3 h (λa s1⟨j,f,lt,K,q⟩=>?_) λ_ _ e=>e);refine Ms (wpAny_newList ?_ (by rw[NR];omega));have d:(s1.heap.push (Rb "list" a.toArray 0)).get? s1.heap.objs.size=Mt (Rb "list" a.toArray 0):=MJ _ rfl;have keep:∀h',Kept s1.heap.objs.size (s1.heap.push (Rb "list" a.toArray 0)) h'->dA s1.heap h':=λh' k b o e=>k b o (M4 (MH e)) (Mw _ e);refine Ms (M2 (Ni slot_list_sort ⟨_,d,rfl⟩ entry_list_sort ?body (args_list_sort _)));case body=>
  refine mP (s:={s1 with heap:=s1.heap.push (Rb "list" a.toArray 0)}) d j K.rf (λg h' k=>⟨K.kind g h' (keep h' k),K.ord g h' (keep h' k)⟩) λp h' c v u k e=>⟨_,rfl,?_⟩;exact Mu ⟨_,rfl,q p h' c v u (keep h' k) e⟩
theorem sS:∀a:List Int,HT.lexLt a a=My
 |[]=>rfl|x::b=>by rw[HT.cV,if_pos rfl];exact sS b
theorem jM:∀a b:List Int,HT.lexLt a b=Mz->HT.lexLt b a=My
 |[],[],h=>by cases h|[],_::_,_=>rfl|_::_,[],h=>by cases h|x::d,y::c,h=>by
  rw[HT.cV]at h⊢;by_cases e:x=y;.rw[if_pos e]at h;rw[if_pos e.symm];exact jM d c h
  .rw[if_neg e]at h;rw[if_neg (NO e)];have:=of_decide_eq_true h;exact decide_eq_false (by omega)
theorem mQ:∀a b c:List Int,HT.lexLt a b=My->HT.lexLt b c=My->HT.lexLt a c=My
 |[],[],_,_,h=>h|[],_::_,_,h,_=>by cases h|_::_,[],[],_,_=>rfl|_::_,[],_::_,_,h=>by cases h|_::_,_::_,[],_,_=>rfl|x::j,y::i,z::g,f,d=>by
  rw[HT.cV]at f d⊢;by_cases e:x=y
  .subst e;rw[if_pos rfl]at f;by_cases e2:x=z;.subst e2;rw[if_pos rfl]at d⊢;exact mQ j i g f d
   .rw[if_neg e2]at d⊢;exact d
  .rw[if_neg e]at f;have k:=of_decide_eq_false f;by_cases e2:y=z
   .subst e2;rw[if_neg e];exact decide_eq_false k
   .rw[if_neg e2]at d;have l:=of_decide_eq_false d;rw[if_neg (by omega)];exact decide_eq_false (by omega)
theorem lU:∀a b:List Int,HT.lexLt a b=My->HT.lexLt b a=My->a=b
 |[],[],_,_=>rfl|[],_::_,h,_=>by cases h|_::_,[],_,h=>by cases h|x::g,y::f,d,c=>by
  rw[HT.cV]at d c;by_cases e:x=y
  .subst e;rw[if_pos rfl]at d c;rw[lU g f d c]
  .rw[if_neg e]at d;rw[if_neg (NO e)]at c;have j:=of_decide_eq_false d;have i:=of_decide_eq_false c;exact absurd (by omega) e
theorem sT{Q:Bool->Mx->Prop}{fin:Bool}:∀(xs ys:List Mv)(ns b:List Int)(i:Nat),PY xs ns->PY ys b->(ns.length<b.length↔fin=Mz)->Q (HT.lexLt ns b) s->KatLex prog w A Mz fin Q (xs.zip ys) i s
 |[],[],[],[],i,_,_,a,q=>by
  have:fin=My:=by cases fin with|false=>rfl|true=>exact absurd (a.mpr rfl) (by simp)
  subst this;exact q|[],y::ys,[],m::b,i,_,_,a,q=>by
  have:fin=Mz:=a.mp (by simp);subst this;exact q|x::xs,[],n::ns,[],i,_,_,a,q=>by
  have:fin=My:=by cases fin with|false=>rfl|true=>exact absurd (a.mpr rfl) (by simp)
  subst this;exact q|x::xs,y::ys,n::ns,m::b,i,g,f,a,q=>by cases g with|cons _ k d=>cases f with|cons _ j c=>
    rw[HT.cV]at q;refine kat_cons (wpAny_eqBool_int ?_);by_cases e:n=m
    .rw[if_pos e]at q;rw[show(n==m)=Mz by simp[e]];exact kat_yes (sT xs ys ns b (i+1) d c (by simpa using a) q)
    .rw[if_neg e]at q;rw[show(n==m)=My by simp[e]];refine kat_no ?_;cases i with
     |zero=>exact oneLt_int q|succ i=>exact kat_one _ _ (lt_int q)
 |[],_,n::_,_,_,h,_,_,_=>by cases h|_::_,_,[],_,_,h,_,_,_=>by cases h|_,[],_,m::_,_,_,h,_,_=>by cases h|_,_::_,_,[],_,_,h,_,_=>by cases h
noncomputable def dm(h:Na)(b:List Mv)(ks:List (List Int)):Prop:=Paired (λ(v:Mv)(k:List Int)=>k≠[]/\∃a c,v=.ref a/\V6 h a (N4 c)/\PY c k) b ks
theorem dm.grown{h h':Na}{b:List Mv}{ks:List (List Int)}(t:dm h b ks)(g:dA h h'):dm h' b ks:=L2.Paired.Cz t λv k⟨f,a,c,e,⟨o,d,r⟩,i⟩=>⟨f,a,c,e,⟨o,g _ _ d,r⟩,i⟩
theorem lV{M:RL}{h:Na}(n:Int)(t:Ut):Looks M h (V3 (.int n t)) (.type "int"):=λA Q E s _ q=>Mu q
theorem dm.wd{h:Na}{M:RL}:∀{b:List Mv}{ks:List (List Int)},dm h b ks->∃fs:List Mv,KatTups h b fs/\fs.length=b.length/\∀v∈fs,Looks M h (V3 v) (.type "int")
 |_,_,.nil=>⟨[],trivial,rfl,λv c=>by cases c⟩|_,_,.cons ⟨j,a,f,e,⟨o,g,l,n,hd⟩,k⟩ t=>by
  obtain⟨fs,q,p,m⟩:=dm.wd (M:=M) t;subst e;cases k with
  |nil=>exact absurd rfl j|cons i d r=>
   refine⟨.int i d::fs,KatTups.cons g l hd (by simp) q,by simp[p],λv c=>?_⟩;rcases List.mem_cons.mp c with z|z;.rw[z];exact lV i d
   .exact m v z
theorem dU{b a:Type}{F:b->a->Prop}{da:b}{db:a}:∀{l₁:List b}{l₂:List a},Paired F l₁ l₂->∀i,i<l₁.length->F (l₁.getD i da) (l₂.getD i db)
 |_,_,.nil,i,h=>absurd h (by simp)|_,_,.cons r _,0,_=>r|_,_,.cons _ t,i+1,h=>dU t i (by simpa using h)
theorem qO{d:List Mv}{ks:List (List Int)}(t:dm s.heap d ks):qN prog w A d (tuples' Mz) (λi j=>HT.lexLt (ks.getD i []) (ks.getD j [])) s where
 rf:=λi=>sS _;kind:=λz l g J q=>by
  obtain⟨fs,B,I,y⟩:=(t.grown g).wd (M:=MO prog w);exact kat_kind (s:={s with heap:=l}) B (by omega) y (by decide) q
 ord:=λz l g=>⟨λi j C v u q=>by
   obtain⟨_,a,p,F,⟨o,r,H,n,hd⟩,f⟩:=dU (da:=M5) (db:=[]) (t.grown g) i v;obtain⟨_,b,m,D,⟨G,h,x,n2,k⟩,e⟩:=dU (da:=M5) (db:=[]) (t.grown g) j u;unfold WD;rw[F,D];refine kat_lt (s:={s with heap:=l}) r hd h k (sT _ _ _ _ 0 f e ?_ q);rw[MR,MR,f.length,e.length,decide_eq_true_iff],λa b=>jM _ _,λa b c=>mQ _ _ _⟩
theorem qP{f:List Mv}{ns:List Int}(t:PY f ns):qN prog w A f oneType' (λi j=>decide (ns.getD i 0<ns.getD j 0)) s where
 rf:=λi=>decide_eq_false (Int.lt_irrefl _);kind:=λn p g F q=>by
  refine kas_kind (s:={s with heap:=p}) n (T:=.type "int") (λv m=>?_) (by decide) (by decide) q;have:∀{d:List Mv}{ns:List Int},PY d ns->v∈d->Looks (MO prog w) p (V3 v) (.type "int"):=λ{d ns}t m=>by induction t with
   |nil=>cases m|cons i l _ o=>
    rcases List.mem_cons.mp m with z|z;.rw[z];exact lV i l
    .exact o z
  exact this t m
 ord:=λn p g=>⟨λi j C x r q=>by
   have:∀{d:List Mv}{ns:List Int},PY d ns->∀i,i<d.length->∃l,d.getD i M5=.int (ns.getD i 0) l:=λ{d ns}t=>by induction t with
    |nil=>intro i h;exact absurd h (by simp)|cons k l _ o=>
     intro i h;cases i with
     |zero=>exact⟨l,rfl⟩|succ i=>
      obtain⟨u,e⟩:=o i (by simpa using h);exact⟨u,e⟩
   obtain⟨D,e1⟩:=this t i x;obtain⟨B,e2⟩:=this t j r;unfold WD;rw[e1,e2,keyLt'_oneType];exact oneLt_int q,λa b h=>by have:=of_decide_eq_true h;exact decide_eq_false (by omega),λa b c y n=>by
   have:=of_decide_eq_false y;have:=of_decide_eq_false n;exact decide_eq_false (by omega)⟩
end
end SortM
end
section
namespace L2
open PySem PySem.Spec PyProof.Rows
structure C9(X:Cx)(scope:OJ)(cl:List (M3×MD)):Prop where
 Gm:Wr scope X.env=pure cl
 sub:∀x c,cl.lookup x=Mt c->X.env.cells.lookup x=Mt c
 has:∀x,scope.names.lookup x=Mt .free->(∃c,cl.lookup x=Mt c)/\(X.env.kindOf x=Mt .cell\/X.env.kindOf x=Mt .free)kind:scope.kind=.function
 eE:∀y∈scope.names,y.2≠.cell
 names:∀y∈scope.names,y.2=.local->scope.names.lookup y.1=Mt .local
noncomputable def aV(X:Cx)(pins:List (MD×NF))(a:OJ)(N:List M3)(cl:List (M3×MD))(C:MD)(fp:List MD)(s:Mx)(H:Hp):Cx:={X with N:=N,bA:=s,fJ:=H,env:=compEnvC a cl C X.env,outer:=X.stack,stack:=X.stack,ex:=fp,fn:=λ_=>My,pn:=X.pn++pins,xe:=λ_ _=>False}
theorem cX{env:Sl}:∀{names:List (M3×Qa)}{x:M3}{k:Qa},(names.map λ(n,k)=>if(k==OA&&env.scope.kind==.function&&env.kindOf n==Mt .cell)then(n,Qx)else(n,k)).lookup x=Mt k->(k=.cell\/k=.free)->names.lookup x=Mt .free\/names.lookup x=Mt .cell
 |[],_,_,h,_=>by simp at h|(n,b)::r,x,k,h,d=>by
  have e:=@cX env r x k;have h:V_ x ((if(b==OA&&env.scope.kind==.function&&env.kindOf n==Mt .cell)=Mz then(n,Qx)else(n,b))::_)=Mt k:=h;cases c:x==n with
  |true=>
   by_cases a:(b==OA&&env.scope.kind==.function&&env.kindOf n==Mt .cell)=Mz
   .rw[if_pos a]at h;simp only[ML,beq_iff_eq]at a;simp only[NC,c];exact .inl (by rw[a.1.1])
   .rw[if_neg a]at h;simp only[NC,c]at h⊢;cases h;rcases d with z|z;.exact .inr (by rw[z])
    .exact .inl (by rw[z])|false=>
   by_cases a:(b==OA&&env.scope.kind==.function&&env.kindOf n==Mt .cell)=Mz
   .rw[if_pos a]at h;simp only[NC,c]at h⊢;exact e h d
   .rw[if_neg a]at h;simp only[NC,c]at h⊢;exact e h d
section
variable{X:Cx}{pins:List (MD×NF)}{σ:St}{H H':Hp}{s s':Mx}{fp:List MD}{scope:OJ}{cl:List (M3×MD)}{own fr:List M3}{js:List Nat}{C:MD}{h':Na}
noncomputable def bB(σ:St)(n:Nat)(js:List Nat):St:=OQ n MA++js.map λj=>(σ[j]?).join
theorem mR(I:Inv X pins σ H s)(a:∀b∈fp,cz X pins H b):∀b∈fp,b∉fA X.stack:=λb c z=>by
 obtain⟨_,f,d,_⟩:=a b c;rcases List.mem_cons.mp (I.fK b z)with e|e;.exact f e
 .exact d e
theorem C_(I:Inv X pins σ H s)(d:∀b∈fp,cz X pins H b)(h:∀b∈fp,b<s.heap.objs.size)(c:C9 X scope cl)(i:s.heap.objs.size<=C){N:List M3}:(aV X pins scope N cl C fp s H).Ok where
 mod:=I.mod;kind:=c.kind;glob:=I.ok.glob;blt:=I.ok.blt;above:=i;inj:=λx y a l k=>I.ok.inj x y a (c.sub x a l) (c.sub y a k);has:=λx f=>by
  have j:scope.names.lookup x=Mt .free\/scope.names.lookup x=Mt .cell:=by
   rcases f with f|f;.exact cX f (.inl rfl)
   .exact cX f (.inr rfl)
  rcases j with z|z;.exact(c.has x z).1
  .exact absurd rfl (c.eE _ (OE z))
 CA:=λx a z=>nomatch z;hd:=I.ok.hd;frames:=I.ok.frames;Fu:=.inl rfl;I_:=λb g=>⟨M4 (M7 (h b g) i),λx a e=>(d b g).2.2.2.2.1 x a (c.sub x a e)⟩;bs:=I.bs;vM:=Nw I.ok.vM I.sz;qu:=λb o e g=>by
  rcases(d b g).2.2.2.1 with z|z;.exact I.ok.qu b o e z
  .exact absurd (M7 (M7 (MH e) I.ok.vM) z) (Nh _)
 ua:=mR I d;gi:=I.stack;zu:=I.ji
theorem lW(I:Inv X pins σ H s)(K:∀b∈fp,cz X pins H b)(L:∀b∈fp,b<s.heap.objs.size)(c:C9 X scope cl)(R:js.map (λj=>X.N[j]?)=fr.map Mt)(J:∀x∈fr,scope.names.lookup x=Mt .free){t':Nat}(M:s.heap.objs.size<=C)(k:∀b o,s.heap.get? b=Mt o->h'.get? b=Mt o){m:M3->Option Mv}(Z:h'.Ns C m):Inv (aV X pins scope (own++fr) cl C fp s H) [] (bB σ own.length js) H {s with heap:=h',toks:=t'}:=by
 have W:js.length=fr.length:=by simpa using congrArg Oc R
 refine⟨C_ I K L c M,rfl,I.bare,Un.kept k,⟨m,Z,λi x v h f _=>?_⟩,λx a e=>?_,I.ay.fresh M,λx a e=>I.bS x a (c.sub x a e),λp E=>?_,I.ay.kept k,?_⟩
 .unfold bB at f;have h:(own++fr)[i]?=Mt x:=h;by_cases G:i<own.length
  .rw[Oe (by simpa using G),Pj,if_pos G]at f;cases f
  .rw[Nt (by simpa using G)]at f;rw[Nt (by omega)]at h;rw[O2]at f;generalize i-own.length=t at h f;have D:=congrArg (λl=>l[t]?) R;rw[Nq,Nq,h]at D;rw[Nq]at f;cases T:js[t]? with
   |none=>rw[T]at f;cases f|some j=>
    rw[T]at f D;have g:X.N[j]?=Mt x:=MI D;have Y:σ[j]?=Mt (Mt v):=by
     have f:(σ[j]?).join=Mt v:=MI f;cases S:σ[j]? with
     |none=>rw[S]at f;cases f|some o=>
      rw[S]at f;have f:o=Mt v:=f;rw[f]
    have A:=J x (Nz h);obtain⟨⟨a,U⟩,O⟩:=c.has x A;obtain⟨m0,_,hl⟩:=I.loc;obtain⟨u,r,lk⟩:=hl j x v g Y (.inr O);refine⟨u,r,.inr ⟨?_,a,U,?_⟩⟩
    .show(WE scope X.env).names.lookup x=Mt .cell\/(WE scope X.env).names.lookup x=Mt .free;have gen:∀names:List (M3×Qa),names.lookup x=Mt .free->(names.map λ(n,k)=>if(k==OA&&X.env.scope.kind==.function&&X.env.kindOf n==Mt .cell)then(n,Qx)else(n,k)).lookup x=Mt .cell\/(names.map λ(n,k)=>if(k==OA&&X.env.scope.kind==.function&&X.env.kindOf n==Mt .cell)then(n,Qx)else(n,k)).lookup x=Mt .free:=by
      intro names;induction names with
      |nil=>intro z;simp at z|cons y r Q=>
       obtain⟨n,w⟩:=y;intro z;show V_ x ((if(w==OA&&X.env.scope.kind==.function&&X.env.kindOf n==Mt .cell)=Mz then(n,Qx)else(n,w))::_)=_\/V_ x ((if(w==OA&&X.env.scope.kind==.function&&X.env.kindOf n==Mt .cell)=Mz then(n,Qx)else(n,w))::_)=_;cases g:x==n with
       |true=>
        simp only[NC,g]at z;cases z;by_cases B:(OA==OA&&X.env.scope.kind==.function&&X.env.kindOf n==Mt .cell)=Mz;.rw[if_pos B];exact .inl (by simp[NC,g])
        .rw[if_neg B];exact .inr (by simp[NC,g])|false=>
        simp only[NC,g]at z;by_cases B:(w==OA&&X.env.scope.kind==.function&&X.env.kindOf n==Mt .cell)=Mz;.rw[if_pos B];simp only[NC,g];exact Q z
        .rw[if_neg B];simp only[NC,g];exact Q z
     exact gen scope.names A
    .rcases lk with⟨P,_⟩|⟨_,b,eb,z⟩
     .rcases O with q|q;.rw[P]at q;cases q
      .rw[P]at q;cases q
     .have e:=c.sub x a U;rw[eb]at e;cases e;obtain⟨o,F,hd⟩:=z;exact⟨o,k _ _ F,hd⟩
 .obtain⟨v,o,F,hd⟩:=I.cell x a (c.sub x a e);exact⟨v,o,k _ _ F,hd⟩
 .have E:p∈X.pn++pins:=by simpa[aV]using E
  obtain⟨e,n,ne,V,d⟩:=I.pin p E;refine⟨k _ _ e,n,M4 (M7 (MH e) M),λz=>?_,d⟩;rcases List.mem_cons.mp (I.fK _ z)with q|q;.exact ne q
  .exact V q
 .show(bB σ own.length js).length=(own++fr).length;unfold bB;simp[W]
theorem zR{a:St}{d:List (MD×NF)}{N:List M3}(I:Inv X pins σ H s)(c:∀b∈fp,cz X pins H b)(J:Inv (aV X pins scope N cl C fp s H) d a H' s'):Inv X pins σ H' s':=by
 refine I.sC (ch:=fp) J.os J.base J.ay J.bare λb e=>?_;obtain⟨_,i,_,h,g,f⟩:=c b e;exact⟨h,i,g,f⟩
theorem we{g:St}{k:List (MD×NF)}{N:List M3}(I:Inv X pins σ H s)(h:∀b∈fp,cz X pins H b)(J:Inv (aV X pins scope N cl C fp s H) k g H' s')(p:s.heap.objs.size<=C)(f:NW C s'.heap h'):Inv X pins σ H' {s' with heap:=h'}:=by
 have ne:∀b o,s.heap.get? b=Mt o->b≠C:=λb o e=>M4 (M7 (MH e) p);have i:H' C=MA:=J.free;refine I.sC (s':={s' with heap:=h'}) (ch:=fp) J.os ⟨λb o e n d a=>(f.2 b (ne b o e)).trans (J.base.keep b o e n d a),λb o e n d a=>?_,J.base.free,λb o e a=>?_,J.base.fx,J.base.eB,J.base.fy⟩ (λb ob e=>?_) J.bare λb d=>?_
 .obtain⟨j,e1⟩:=J.base.slot b o e n d a;exact⟨j,(f.2 b (ne b o e)).trans e1⟩
 .obtain⟨l,e1⟩:=J.base.there b o e a;exact⟨l,(f.2 b (ne b o e)).trans e1⟩
 .refine(J.ay b ob e).fw (λc w m q=>(f.2 c ?_).trans q) (λ_ q=>q) λ_ _ q=>q;rintro rfl;rcases m with z|z;.rw[<-z,i]at e;cases e
  .rw[i]at z;cases z
 .obtain⟨_,v,_,u,t,r⟩:=h b d;exact⟨u,v,t,r⟩
theorem Inv.fF{a:MD}{o:HO}(I:Inv X pins σ H s)(m:X.bA.heap.objs.size<=a)(f:H a=MA)(t:a≠X.env.locals)(l:∀x c,X.env.cells.lookup x=Mt c->c≠a)(k:∀p∈X.pn++pins,p.1≠a)(new:aQ X.prog X.w (upd H a o) s.heap a o):Inv X pins σ (upd H a o) s:=by
 refine⟨I.ok,I.os,I.bare,⟨I.base.keep,I.base.slot,λb ob e n j=>?_,I.base.there,λb g e=>?_,λb ob u e=>?_,λb ps e=>?_⟩,I.loc,I.cell,?_,λx c e=>?_,λp h=>?_,λb u e=>?_,I.len⟩
 .rw[ai (M4 (M7 (MH e) m))];exact I.base.free b ob e n j
 .have q:=I.base.fx b g e;rw[ai (ar q f)];exact q
 .have q:=I.base.eB b ob u e;rw[ai (ar q f)];exact q
 .obtain⟨d,q⟩:=I.base.fy b ps e;exact⟨d,by rw[ai (ar q f)];exact q⟩
 .rw[ai (NO t)];exact I.free
 .rw[ai (l x c e)];exact I.bS x c e
 .obtain⟨e,n,r⟩:=I.pin p h;exact⟨e,by rw[ai (k p h)];exact n,r⟩
 .by_cases i:b=a
  .subst i;rw[ah]at e;cases e;exact new
  .rw[ai i]at e;exact(I.ay b u e).fw (λ_ _ _ q=>q) (λc q=>by rw[ai (ar q f)];exact q) λc g q=>by rw[ai (ar q f)];exact q
end
noncomputable def lb(Y:Cx)(ifs:List MV)(t:TT):Prop:=∀(a:List (MD×NF))(s:Mx)(b:St)(H:Hp)(Q:Bool->Hp->Prop),Inv Y a b H s->t b H Q->wpAny (MO Y.prog Y.w) Y.A (forIn ifs Mz λc r=>if r=Mz then do let ok<-Sd c Y.env (N2 c Y.env);pure (PQ ok)else pure (PQ r)) (TP Y a b Q) Y.xe s
noncomputable def J6:TT:=λ_ H Q=>Q Mz H
theorem wg{Y:Cx}:lb Y [] J6:=λa s b H Q I h=>wpAny_tests_nil ⟨H,I,h⟩
theorem wj{Y:Cx}{c:MV}{t:TT}(h:PT Y c t):lb Y [c] t:=λa s b H Q I q=>wpAny_tests_one (h a s b H Q I q)
noncomputable abbrev RB(a:Type):=St->Hp->a->(a->St->Hp->Prop)->Prop
noncomputable def Body(Y:Cx){e:Type}(ok:e->NF->Prop)(D:MD)(body:U5 Unit)(rd:RB e):Prop:=∀(b:List (MD×NF))(s:Mx)(f:St)(H:Hp)(a:e)(ob:NF)(Q:e->St->Hp->Prop),Inv Y ((D,ob)::b) f H s->(∀p∈Y.pn++b,p.1≠D)->ok a ob->rd f H a Q->wpAny (MO Y.prog Y.w) Y.A body (λ_ i=>∃g d c h,Inv Y ((D,d)::b) c h i/\ok g d/\Q g c h) Y.xe s
noncomputable def iI{j:Type}(J:It)(g:TG)(e:TT)(rd:RB j):RB j:=λd H a Q=>∃W:Nat->Nat->j->St->Hp->Prop,(∃m,W 0 m a d H)/\∀i m a d H,W i m a d H->(J.stop i H/\Q a d H)\/(J.go i H/\∀x l,J.Jc i H x l->g x d l λc p=>e c p λb k=>if b=Mz then rd c k a λn h o=>∃f,f<m/\W (i+1) f n h o else∃f,f<m/\W (i+1) f a c k)
theorem eG{Y:Cx}{V:Type}{ok:V->NF->Prop}{D it:MD}{e tg:MV}{d:Nat}{ifs:List MV}{body:U5 Unit}{pos0:Od}{J:It}{fp:List MD}{tn:Nat->Na->Prop}{g:TG}{E:TT}{rd:RB V}(hc:Y.calm=Mz)(hx:∀x s',¬Y.xe x s')(a4:(MO Y.prog Y.w).den (.compLoop e d (.ref it) (.ref D) Y.env)=(Rm e d (.ref it) (.ref D) Y.env).onRaise (λx=>do Q9 x Y.env;Sf x))(a0:Y.A.under (.compLoop e d (.ref it) (.ref D) Y.env)=Y.A)(a7:Rm e d (.ref it) (.ref D) Y.env=(do
   PV pos0;match<-OC (.ref it)with
   |none=>pure (.done .next)|some v=>
    OG tg (.ref it) v;Ra tg Y.env v;let mut ok:=Mz;for c in ifs do if ok then ok<-Sd c Y.env (N2 c Y.env)
    if ok then body
    TF (.compLoop e d (.ref it) (.ref D) Y.env)))(T:Turn Y.prog Y.w Y.K tg J fp it tn)(hg:PG Y tg g)(hi:lb Y ifs E)(C:Body Y ok D body rd){pins:List (MD×NF)}{ob:NF}{a:V}{σ:St}{H:Hp}{s:Mx}{Q:V->St->Hp->Prop}(I:Inv Y ((D,ob)::pins) σ H s)(a2:∀p∈Y.pn++pins,p.1≠D)(ay:ok a ob)(M:∀b∈fp,cz Y ((D,ob)::pins) H b)(a6:tn 0 s.heap)(h:iI J g E rd σ H a Q):codeAny (MO Y.prog Y.w) Y.A (.compLoop e d (.ref it) (.ref D) Y.env) (λr s'=>∃a' B U H',r=.ok .next/\Inv Y ((D,B)::pins) U H' s'/\ok a' B/\Q a' U H'/\∀b∈fp,H' b=MA) s:=by
 obtain⟨W,⟨m0,w0⟩,X⟩:=h;have y:∀{H':Hp}{B:NF},(∀b∈fp,H' b=MA)->∀b∈fp,cz Y ((D,B)::pins) H' b:=λ{H' B}hn b C=>by
  obtain⟨_,h1,h2,h3,h4,h5⟩:=M b C;refine⟨hn b C,h1,h2,h3,h4,λp hp=>?_⟩;rcases List.mem_append.mp hp with z|z;.exact h5 p (Ox _ z)
  .rcases List.mem_cons.mp z with q|q;.rw[q];exact h5 (D,ob) (M1 _ MG)
   .exact h5 p (M1 _ (MM _ q))
 have a1:∀h:Na,∀p∈Y.pn++(pins++dP fp h),p.1≠D:=λh p hp=>by
  rcases List.mem_append.mp hp with z|z;.exact a2 p (Ox _ z)
  .rcases List.mem_append.mp z with q|q;.exact a2 p (M1 _ q)
   .exact NO ((M p.1 (lK q).1).2.2.2.2.2 (D,ob) (M1 _ MG))
 have t:∀{R:Mv->Mx->Prop}(x:Mv)(s':Mx),Y.xe x s'->R x s':=λx s' z=>(hx x s' z).elim;refine codeAny_loop rfl (λn s'=>∃i a ob σ H,Inv Y ((D,ob)::pins) σ H s'/\ok a ob/\tn i s'.heap/\(∀b∈fp,H b=MA)/\W i n a σ H) ?_ m0 ⟨0,a,ob,σ,H,I,ay,a6,λb C=>(M b C).1,w0⟩;rintro n s3⟨i,a3,L,k,H3,I3,Gn,Z,N,w3⟩;rw[a4,a0];refine wpAny_noted ?_;rw[a7];refine Ms (Oa (Ms ?_));rcases X i n a3 k H3 w3 with⟨stop,qn⟩|⟨go,step⟩
 .refine N3 (T.done Y rfl rfl rfl hc i _ s3 k H3 Y.xe I3 (y N) Z stop) (λr s4⟨hr,I4⟩=>?_) t;subst hr;exact Mu ⟨a3,L,k,H3,rfl,I4,Gn,qn,N⟩
 .refine N3 (T.item Y rfl rfl rfl hc i _ s3 k H3 Y.xe I3 (y N) Z go) (λr s4⟨u,hr,h4⟩=>?_) t;subst hr;refine Ms (N3 h4 (λ_ s5⟨x,H5,I5,r5,y5,G,a9⟩=>?_) t);have b1:Inv Y ((D,L)::(pins++dP fp s5.heap)) k H5 s5:=I5.pinned (y a9) (T.obj _ _ G);refine Ms (N3 (hg _ s5 k H5 x u _ b1 r5 (step x H5 y5)) (λ_ s6⟨S,H6,I6,q6⟩=>?_) t);refine Ms (N3 (hi _ s6 S H6 _ I6 q6) (λb s7⟨H7,I7,q7⟩=>?_) t);have f:∀{a8:V}{l:NF}{j:St}{P:Hp}{O:Mx},Inv Y ((D,l)::(pins++dP fp s5.heap)) j P O->ok a8 l->(∃m',m'<n/\W (i+1) m' a8 j P)->∃m,m<n/\∃i a ob σ H,Inv Y ((D,ob)::pins) σ H O/\ok a ob/\tn i O.heap/\(∀b∈fp,H b=MA)/\W i m a σ H:=λ{a8 l j P O}I8 Gp a5=>by
   obtain⟨m',hm,w8⟩:=a5;have F:=λ(b:MD)(o:NF)(z:(b,o)∈dP fp s5.heap)=>I8.pin (b,o) (M1 _ (MM _ (M1 _ z)));have b0:Inv Y (((D,l)::pins)++dP fp s5.heap) j P O:=I8;refine⟨m',hm,i+1,a8,l,j,P,b0.gk,Gp,T.keep _ _ _ G λb C o e=>(F b o (dQ C e)).1,λb C=>?_,w8⟩;obtain⟨o,e,_⟩:=T.obj _ _ G b C;exact(F b o (dQ C e)).2.1
  cases b with
  |false=>
   rw[if_neg Nx]at q7;exact Mu ⟨rfl,f I7 Gn q7⟩|true=>
   rw[if_pos rfl]at q7;refine Ms (N3 (C _ s7 S H7 a3 L _ I7 (a1 _) Gn q7) (λ_ O⟨a8,l,j,P,I8,Gp,q8⟩=>?_) t);exact Mu ⟨rfl,f I8 Gp q8⟩
noncomputable def Fv(b:List V)(ob:NF):Prop:=b.length<=MP/\∃(a:List Mv)(n:Nat),ak b a/\ob={cls:=.type "list",data:=.seq a.toArray n}
noncomputable def dW(c:TE):RB (List V):=λb H a Q=>c b H λy d=>a.length<MP/\Q (a++[y]) b d
theorem ak.snoc{xs:List V}{us:List Mv}{x:V}{u:Mv}(r:ak xs us)(q:RelV x u):ak (xs++[x]) (us++[u]):=r.append (.cons q .nil)
theorem Inv.wm{Y:Cx}{pins:List (MD×NF)}{σ:St}{H:Hp}{s:Mx}{D:MD}{ob a:NF}{h':Na}(I:Inv Y ((D,ob)::pins) σ H s)(m:Y.bA.heap.objs.size<=D)(h:∀x c,Y.env.cells.lookup x=Mt c->c≠D)(l:∀p∈Y.pn++pins,p.1≠D)(k:∀b o,b≠D->s.heap.get? b=Mt o->h'.get? b=Mt o)(e:h'.get? D=Mt a)(hd:∀v,a.data≠.cell v){t':Nat}:Inv Y ((D,a)::pins) σ H {s with heap:=h',toks:=t'}:=by
 obtain⟨_,n,ne,j,_⟩:=I.pin (D,ob) (M1 _ MG);have q:Inv Y pins σ H s:=I.dk λp g=>I.pin p (M1 _ (MM _ g));have i:Inv Y pins σ H {s with heap:=h',toks:=t'}:=q.turned (it:=D) k n ne (.inr m) h l;refine i.dk λp g=>?_;rcases List.mem_cons.mp g with z|z;.rw[z];exact⟨e,n,ne,j,hd⟩
 .exact i.pin p (M1 _ z)
structure zS(Y:Cx)(D:MD):Prop where
 young:Y.bA.heap.objs.size<=D
 cells:∀x c,Y.env.cells.lookup x=Mt c->c≠D
theorem fj{Y:Cx}{D:MD}{c:MV}{j:TE}(o:zS Y D)(h:PE Y c j):Body Y Fv D (do let _<-call (.builtin "list.append") [.ref D,<-N2 c Y.env]) (dW j):=by
 intro m s i H g ob Q I f ay q;refine Ms (aU (h _ s i H _ I q) λu s1 d=>?_);obtain⟨y,F,p,r,G,t⟩:=d;obtain⟨A,a,n,k,rfl⟩:=ay;have C:=(p.pin _ (M1 _ MG)).1;refine Ms (wpAny_list_append_plain (l:=D) (items:=a.toArray) ⟨n,C⟩ (λJ⟨w,E⟩x=>Mu ?_) (by rw[MR,<-k.length];exact A));refine⟨g++[y],_,i,F,p.wm o.young o.cells f (λb ob B e=>(x.2 b B).trans e) E (λv z=>nomatch z),⟨by simp;omega,a++[u],w,k.snoc r,by simp⟩,t⟩
end L2
end
section
namespace L2
open PySem PySem.W PyProof.Rows SortM
noncomputable abbrev Dc(a b:List Int):Prop:=HT.lexLt b a=My
theorem lX{a:Type}{p:Array Nat}{n:Nat}(v:Ok n p)(xs:List a)(d:a)(h:xs.length=n):(p.toList.map λi=>xs.getD i d).Perm xs:=by
 have e:(N6 n).map (λi=>xs.getD i d)=xs:=by
  subst h;apply List.ext_getElem;.simp
  .intro i b c;simp at b;simp[Oz,b]
 exact(v.2.map λi=>xs.getD i d).trans (by rw[e])
theorem iJ{b:Type}{p:Array Nat}{n:Nat}{lt:Nat->Nat->Bool}(v:Ok n p)(u:Up lt p n){f:Nat->b}{R:b->b->Prop}(k:∀i j,lt j i=My->R (f i) (f j)):(p.toList.map f).Pairwise R:=by
 rw[List.pairwise_iff_getElem];intro i j g e c;have d:i<p.size:=by simpa using g
 have a:j<p.size:=by simpa using e
 rw[List.getElem_map,List.getElem_map];refine k _ _ ?_;have h:=u i j (Ss c) (by rw[<-v.1];exact a);unfold at' at h;rw[Su,Su,M8 d,M8 a]at h;simpa using h
theorem eI{c b:Type}{F:c->b->Prop}{da:c}{db:b}{l₁:List c}{l₂:List b}(r:Paired F l₁ l₂):∀(a:List Nat),(∀i∈a,i<l₁.length)->Paired F (a.map λi=>l₁.getD i da) (a.map λi=>l₂.getD i db)
 |[],_=>.nil|i::a,h=>.cons (dU r i (h i MG)) (eI r a λj d=>h j (MM _ d))
section
variable{X:Cx}
theorem Inv.newList{pins:List (MD×NF)}{σ:St}{H:Hp}{s:Mx}{h':Na}{D c:Nat}{ys:List V}{us:List Mv}(I:Inv X pins σ H s)(g:dA s.heap h')(a:s.heap.objs.size<=D)(r:ak ys us)(hz:ys.length<=MP)(e:h'.get? D=Mt (Rb "list" us.toArray c)){t:Nat}:Inv X pins σ (upd H D (.lst ys)) {s with heap:=h',toks:=t}:=I.laid g a ⟨hz,us,c,r,e⟩
end
end L2
end
section
namespace DictIt
open PySem PySem.W PyProof.Rows
section
variable{prog:MX}{w:M_}{A:Nc}{E:Mv->Mx->Prop}{s:Mx}
theorem zT{d:MD}{o:NF}{es:Array Q8}{e:Nat}{Q:Mv->Mx->Prop}(a:(d==Pn)=My)(b:s.heap.get? d=Mt o)(f:o.cls=.type "dict")(hd:o.data=.dict es e)(g:Q (.ref s.heap.objs.size) {s with heap:=s.heap.push {cls:=.type "dict_keyiterator",data:=.fields #[.ref d,.int 0 0,.int es.size 0,.int e 0]}}):wpAny (MO prog w) A (RZ (.ref d)) Q E s:=by
 have c:s.TypeIs (.ref d) "dict":=⟨o,b,f⟩;refine RS c F.slot_dict_iter (Ni F.slot_dict_iter c F.entry_dict_iter ?_ (F.args_dict_iter_1 _));unfold Builtin.«dict.__iter__»;refine Ms ?_;unfold Builtin.Dict.dictSlotNone;refine Ms (wpAny_notOrdered_dict c ?_);show wpAny _ _ (pure (MW d)) _ _ s;refine Mu ?_;show wpAny _ _ (UB d>>=_) _ _ s;unfold UB;rw[if_neg (by rw[a];exact Nx)];refine Ms (Mu ?_);refine Ms (Ti b hd ?_);refine Ms (Uy b hd ?_);refine Ms (Nd (Mu ⟨_,rfl,"dict_keyiterator",_,⟨_,MJ _ rfl,rfl⟩,F.slot_dict_keyiterator_next.lookup,?_⟩));simpa[Po]using g
theorem zU{it d:MD}{i g:Nat}{k:NF}{es:Array Q8}{Q:Option Mv->Mx->Prop}(a:s.heap.IsKeyIter it d i es.size g)(e:s.heap.get? d=Mt k)(f:k.data=.dict es g)(j:i<es.size)(m:∀h',h'.IsKeyIter it d (i+1) es.size g->NW it s.heap h'->Q (Mt es[i].key) {s with heap:=h'}):wpAny (MO prog w) A (OC (.ref it)) Q E s:=by
 obtain⟨o,h,l,hd⟩:=id a;unfold OC;refine Ms (P2 (NB (name:=MF "__next__") a.typeIs Pp (Ni Pp a.typeIs R9 ?_ (R3 _))));refine Ms (Mu ?_);refine Ms ?_;refine Ms ?_;first|refine Ms (Pe a.typeIs (Mu ?_))|refine Ms (P4 a.typeIs (Mu ?_))
 refine Ms (SM h hd ?_);have c:Sg "dict_keyiterator"=My:=by decide
 simp only[c,M0,if_false];show wpAny _ _ (if(MW d==M5)=Mz then _ else _) _ _ s;rw[if_neg (show¬((MW d==M5)=Mz)from Nx)];refine Ms (Mu ?_);refine Ms (Ti e f ?_);rw[if_neg (by simp)];refine Ms (Mu ?_);refine Ms (Uy e f ?_);rw[if_neg (by simp)];refine Mu ?_;simp only[show¬((i:Int)<0)from by omega,if_false,Pk,M8 j];refine Ms ?_;first|refine Ms (Pe a.typeIs (Mu ?_))|refine Ms (P4 a.typeIs (Mu ?_))
 refine Ms (UC a.typeIs ?_);show wpAny _ _ (TQ (.ref it) 1 (Po ((i:Int)+1))>>=_) _ _ s;refine Ms (OR h hd (by simp) ?_);have b:(s.heap.update it (ON (·.setIfInBounds 1 (Po ((i:Int)+1))))).IsKeyIter it d (i+1) es.size g:=⟨_,M6 _ h (Oo (NL hd _)),(QL ..).trans l,by rw[NL hd];simp[Po]⟩;refine Ms (M2 ?_);refine Ms (UC (s:={s with heap:=s.heap.update it (ON (·.setIfInBounds 1 (Po ((i:Int)+1))))}) b.typeIs ?_);show wpAny _ _ (pure es[i].key) _ _ _;exact Mu (Mu ⟨_,rfl,Mu (m _ b (NX ..))⟩)
theorem Dd{it d:MD}{i l:Nat}{j:NF}{es:Array Q8}{Q:Option Mv->Mx->Prop}(n:A.handled=MA)(c:s.heap.IsKeyIter it d i es.size l)(f:s.heap.get? d=Mt j)(g:j.data=.dict es l)(h:es.size<=i)(p:∀h',Tj it s.heap h'->Q MA {s with heap:=h'}):wpAny (MO prog w) A (OC (.ref it)) Q E s:=by
 obtain⟨o,k,q,hd⟩:=id c;unfold OC;refine Ms (P2 (NB (name:=MF "__next__") c.typeIs Pp (Ni Pp c.typeIs R9 ?_ (R3 _))));refine Ms (Mu ?_);refine Ms ?_;refine Ms ?_;first|refine Ms (Pe c.typeIs (Mu ?_))|refine Ms (P4 c.typeIs (Mu ?_))
 refine Ms (SM k hd ?_);have e:Sg "dict_keyiterator"=My:=by decide
 simp only[e,M0,if_false];show wpAny _ _ (if(MW d==M5)=Mz then _ else _) _ _ s;rw[if_neg (show¬((MW d==M5)=Mz)from Nx)];refine Ms (Mu ?_);refine Ms (Ti f g ?_);rw[if_neg (by simp)];refine Ms (Mu ?_);refine Ms (Uy f g ?_);rw[if_neg (by simp)];refine Mu ?_;simp only[show¬((i:Int)<0)from by omega,if_false,Pk,Pu h];refine Ms ?_;first|refine Ms (Pe c.typeIs (Mu ?_))|refine Ms (P4 c.typeIs (Mu ?_))
 show wpAny _ _ (TQ (.ref it) 0 .none>>=_) _ _ s;refine Ms (OR k hd (by simp) ?_);show wpAny _ _ (Ws (.type "StopIteration") []>>=_) _ _ _;refine Ms ?_;simp only[Ws,UT];refine Ms (Nd ?_ (by size_fits));refine Ms (m:=QY _ _) (Px (a:=M5) (by first|rfl|(simp only[QY];rfl)) ?_);refine Nd ?_ (by size_fits);simp only[raiseNew];refine Ms (Vh ?_);rw[show A.in1.handled=MA from n];refine Ms (Mu (Wa ?_));refine Ms (OK (T:="StopIteration") (b:=Mz) ⟨_,MJ _ rfl,rfl⟩ SN ?_);exact Mu (p _ (((NX ..).extBut.push _).push _))
end
end DictIt
end
section
namespace ST
open PySem PySem.W PyProof.Rows
theorem wo:Manifest.owners.lookup (String.ofList ['r','o','t','a','r','e','t','i','_','t','e','s'].reverse)=Mt Manifest.sig_set_iterator:=by kernel_rfl
theorem bE:Slot "set_iterator" "__next__" "set_iterator.__next__":=.of (owner:="set_iterator") (n:="__next__") (by rw[Rr,PH];kernel_rfl) (by decide+kernel) (by decide+kernel) (by decide+kernel) (by first|exact .inl (by decide+kernel)|exact .inr (by decide+kernel)) (by rw[Qc];kernel_rfl)
theorem gr:Slot "set_iterator" "__iter__" "set_iterator.__iter__":=.of (owner:="set_iterator") (n:="__iter__") (by rw[Rr,PH];kernel_rfl) (by decide+kernel) (by decide+kernel) (by decide+kernel) (by first|exact .inl (by decide+kernel)|exact .inr (by decide+kernel)) (by rw[Qc];kernel_rfl)
theorem fG:Wt table "set_iterator.__next__"=Mt Builtin.«set_iterator.__next__»:=entryFor_of_tree (by kernel_rfl)
theorem lg:Wt table "set_iterator.__iter__"=Mt Builtin.«dict_keyiterator.__iter__»:=UU (id':="dict_keyiterator.__iter__") (by kernel_rfl) rfl (by decide+kernel) (by kernel_rfl)
theorem mS:Wt table "set.__iter__"=Mt Builtin.«frozenset.__iter__»:=UU (id':="frozenset.__iter__") (by kernel_rfl) rfl (by decide+kernel) (by kernel_rfl)
theorem gu(a:Mv):WG "set_iterator.__next__" ⟨[a],[]⟩:=by unfold WG;rw[signature?_of (id:="set_iterator.__next__") (n:=['_','_','t','x','e','n','_','_']) (o:=['r','o','t','a','r','e','t','i','_','t','e','s']) (by kernel_rfl) wo];kernel_rfl
theorem mT(a:Mv):WG "set_iterator.__iter__" ⟨[a],[]⟩:=by unfold WG;rw[signature?_of (id:="set_iterator.__iter__") (n:=['_','_','r','e','t','i','_','_']) (o:=['r','o','t','a','r','e','t','i','_','t','e','s']) (by kernel_rfl) wo];kernel_rfl
theorem jN{a:Type}:∀{l:List a}{i:Nat}{x:a},l[i]?=Mt x->(x::l.eraseIdx i).Perm l
 |[],i,x,h=>by simp at h|y::l,0,x,h=>by simp at h;subst h;exact .refl _|y::l,i+1,x,h=>by
  rw[TL];exact(List.Perm.swap _ _ _).trans ((jN (by simpa using h)).cons y)
theorem sU{b:Type}(TC:Nat->Nat):∀(fuel k:Nat)(left:List b)(a:Array b),left.length<=fuel->(VL TC fuel k left a).toList.Perm (a.toList++left)
 |0,k,left,a,h=>by
  have:left=[]:=List.length_eq_zero_iff.mp (by omega);subst this;unfold VL;simp|fuel+1,k,left,a,h=>by
  unfold VL;cases e:left[TC k%left.length]? with
  |none=>
   have:left=[]:=by cases left with
    |nil=>rfl|cons y l=>
     have:TC k%(y::l).length<(y::l).length:=T6 _ (by simp);rw[MZ this]at e;cases e
   subst this;simp|some x=>
   have c:=(List.getElem?_eq_some_iff.mp e).1;have:=sU TC fuel (k+1) (left.eraseIdx (TC k%left.length)) (a.push x) (by rw[List.length_eraseIdx_of_lt c];omega);refine this.trans ?_;rw[Array.toList_push,Pl];exact(jN e).append_left _
theorem uv{a:Type}(TC:Nat->Nat)(xs:Array a):(SA TC xs).toList.Perm xs.toList:=by
 have:=sU TC xs.size 0 xs.toList #[] (by simp);simpa[SA]using this
structure Wk(w:M_)(o:NF)(es:Array (Int×Mv))(ep:Nat)(t:Nk):Prop where
 ex:o.ExactSet
 dat:o.data=.set es ep t
 ze:t.fits es.size=Mz
 rise:bw t.place.toList
 plain:t.plain=Mz
 led:t.led=!w.params.followText "set-order"
noncomputable def cg(w:M_)(a:MD)(es:Array (Int×Mv))(b:Nat):Array (Int×Mv):=if w.params.followText "set-order"then SA (w.params.setOrder a b) es else es
theorem jO(w:M_)(a:MD)(es:Array (Int×Mv))(b:Nat):(cg w a es b).toList.Perm es.toList:=by
 unfold cg;split;.exact uv _ _
 .exact .refl _
theorem seq_size(w:M_)(a:MD)(es:Array (Int×Mv))(b:Nat):(cg w a es b).size=es.size:=by
 have:=(jO w a es b).length_eq;simpa using this
noncomputable def gw(h:Na)(it a:MD)(b i n c:Nat):Prop:=∃o,h.get? it=Mt o/\o.cls=.type "set_iterator"/\o.data=.fields #[.int b 0,.int i 0,.ref a,.int n 0,.int c 0]
theorem gw.typeIs{s:Mx}{it a:MD}{b i n e:Nat}(h:gw s.heap it a b i n e):s.TypeIs (.ref it) "set_iterator":=let⟨o,c,d,_⟩:=h;⟨o,c,d⟩
section
variable{prog:MX}{w:M_}{A:Nc}{E:Mv->Mx->Prop}{s:Mx}{a it:MD}{o:NF}{es:Array (Int×Mv)}{ep:Nat}{t:Nk}
theorem wq(W:Wk w o es ep t)(b:s.heap.get? a=Mt o){Q:Mv->Mx->Prop}(d:Q (.ref s.heap.objs.size) {s with heap:=s.heap.push {cls:=.type "set_iterator",data:=.fields #[.int 0 0,.int 0 0,.ref a,.int es.size 0,.int ep 0]}}):wpAny (MO prog w) A (RZ (.ref a)) Q E s:=by
 have c:s.TypeIs (.ref a) "set":=⟨o,b,W.ex.1⟩;refine RS c UD (Ni UD c mS ?_ (PySem.F.args_set_iter_1 _));unfold Builtin.«frozenset.__iter__»Builtin.Frozenset.slot0 Wu;simp only[O7,Pb,M0,↓reduceIte,bind_assoc,NG,bne_self_eq_false];unfold OF Tt setDrawn Uh;refine Ms (Mu ?_);try dsimp only
 refine Ms (Mu ?_);refine Ms (Ms (P7 b W.dat W.ze (Mu ?_)));refine Ms (Ms (Ob b W.dat W.ze ?_));dsimp only;refine Ms (Ms (N9 (Mu (Mu ?_))));refine aF (if_neg ?_) ?_
 .show¬((!w.params.followText "set-order"&&(!t.plain&&decide (es.size>1)))=Mz);rw[W.plain];simp
 refine Ms (Mu (Ms (Tn b W.dat W.ze ?_)));refine Ms (Nd (Mu ⟨_,rfl,"set_iterator",_,⟨_,MJ _ rfl,rfl⟩,bE.lookup,?_⟩));simpa[Po]using d
noncomputable def jP(w:M_)(t:Nk)(b i:Nat):Prop:=w.params.followText "set-order"=Mz\/MY t.place b=i
theorem qQ(w:M_){t:Nk}(h:bw t.place.toList):jP w t 0 0:=by
 refine .inr ?_;obtain⟨e,b,d⟩:=eA h 0;by_cases c:MY t.place 0=0;.exact c
 .have:0<t.place.size:=by omega
  exact absurd (b 0 t.place[0] (by omega) (M8 this)) (Ro _)
theorem qR{w:M_}{t:Nk}(h:bw t.place.toList){i j:Nat}(e:t.place[i]?=Mt j):MY t.place (j+1)=i+1:=by
 obtain⟨k,f,d⟩:=eA h (j+1);have g:=(Array.getElem?_eq_some_iff.mp e).1;rcases QJ (MY t.place (j+1)) (i+1)with c|c|c
 .have:=d i j (by omega) e;omega
 .exact c
 .have b:i+1<t.place.size:=by omega
  have m:=f (i+1) t.place[i+1] c (M8 b);have l:=bw.get h (i:=i) (j:=i+1) (x:=j) (y:=t.place[i+1]) (by simpa using e) (by simp[b]) (NZ _);omega
theorem oG(W:Wk w o es ep t){j i:Nat}(k:jP w t j i)(m:s.heap.get? a=Mt o){Q:Option (Mv×Nat)->Mx->Prop}(sV:∀(d:i<es.size)f,jP w t f (i+1)->Q (Mt (((cg w a es ep)[i]'(by rw[seq_size];exact d)).2,f)) s)(c:es.size<=i->Q MA s):wpAny (MO prog w) A (setNext a j i ep) Q E s:=by
 unfold setNext setWalk Uh;refine Ms (Ob m W.dat W.ze ?_);dsimp only;refine Ms (Ms (N9 (Mu ?_)));have g:=seq_size w a es ep;cases b:w.params.followText "set-order"with
 |true=>
  refine aF (if_pos b) ?_;refine aF (if_neg (by simp)) ?_;refine Ms (Ms (Ob m W.dat W.ze ?_));dsimp only;refine Ms (Ms (N9 (Mu ?_)));refine aF (if_pos b) ?_;refine Ms (N9 (Mu (Mu ?_)));have e:SA (w.params.setOrder a ep) es=cg w a es ep:=by unfold cg;rw[if_pos b]
  show Q (((SA (w.params.setOrder a ep) es)[i]?).map λe=>(e.2,j)) s;rw[e];by_cases d:i<es.size
  .rw[M8 (by rw[g];exact d)];exact sV d j (.inl b)
  .rw[Pu (by rw[g];omega)];exact c (by omega)|false=>
  refine aF (if_neg (by rw[show({program:=(MO prog w).prog,params:=(MO prog w).w.params}:Setting).params.followText "set-order"=My from b];exact Nx)) ?_;refine aF (if_neg ?_) ?_
  .show¬((!t.plain&&decide (es.size>1))=Mz);rw[W.plain];simp
  refine Ms (aF (if_neg ?_) (Mu ?_))
  .show¬((!t.led&&!es.isEmpty)=Mz);rw[W.led,b];simp
  refine Mu ?_;rcases k with z|z;.rw[b]at z;cases z
  have e:cg w a es ep=es:=by unfold cg;rw[b];rfl
  have l:t.place.size=es.size:=by
   have:=W.ze;unfold Tq at this;rw[ML]at this;exact beq_iff_eq.mp this.1
  rw[z];by_cases d:i<es.size
  .have h:i<t.place.size:=by rw[l];exact d
   have:=sV d (t.place[i]+1) (.inr (qR (w:=w) W.rise (M8 h)));rw[M8 d,M8 h];simpa only[e]using this
  .rw[Pu (by omega:es.size<=i)];exact c (by omega)
end
end ST
end
section
namespace ST
open PySem PySem.W PyProof.Rows
section
variable{prog:MX}{w:M_}{A:Nc}{E:Mv->Mx->Prop}{s:Mx}{a it:MD}{o:NF}{es:Array (Int×Mv)}{ep:Nat}{t:Nk}
theorem zV(W:Wk w o es ep t){n i:Nat}(j:jP w t n i)(e:gw s.heap it a n i es.size ep)(p:s.heap.get? a=Mt o)(h:i<es.size){Q:Option Mv->Mx->Prop}(r:∀h' b,jP w t b (i+1)->gw h' it a b (i+1) es.size ep->NW it s.heap h'->Q (Mt ((cg w a es ep)[i]'(by rw[seq_size];exact h)).2) {s with heap:=h'}):wpAny (MO prog w) A (OC (.ref it)) Q E s:=by
 obtain⟨u,d,q,hd⟩:=id e;unfold OC;refine Ms (P2 (NB (name:=MF "__next__") e.typeIs bE (Ni bE e.typeIs fG ?_ (gu _))));unfold Builtin.«set_iterator.__next__»Wu;simp only[O7,Pb,M0,↓reduceIte,bind_assoc,NG,bne_self_eq_false];refine Ms (Mu ?_);refine Ms (SM d hd ?_);show wpAny _ _ (setEntries a>>=_) _ _ s;refine Ms (P7 p W.dat W.ze ?_);rw[if_neg (by simp)];refine Ms (oG W (by simpa using j) p (λx b c=>?_) λz=>absurd h (Nat.not_lt.mpr (by simpa using z)));simp only[Pk]at c;show wpAny _ _ (TQ (.ref it) 0 (Po (b:Int))>>=_) _ _ s;refine Ms (OR d hd (by simp) ?_);have l:gw (s.heap.update it (ON (·.setIfInBounds 0 (Po (b:Int))))) it a b i es.size ep:=⟨_,M6 _ d (Oo (NL hd _)),(QL ..).trans q,by rw[NL hd];simp[Po]⟩;obtain⟨v,g,m,f⟩:=id l;show wpAny _ _ (TQ (.ref it) 1 (Po ((i:Int)+1))>>=_) _ _ _;refine Ms (OR (s:={s with heap:=_}) g f (by simp) ?_);have k:gw ((s.heap.update it (ON (·.setIfInBounds 0 (Po (b:Int))))).update it (ON (·.setIfInBounds 1 (Po ((i:Int)+1))))) it a b (i+1) es.size ep:=⟨_,M6 _ g (Oo (NL f _)),(QL ..).trans m,by rw[NL f];simp[Po]⟩;have:=r _ b c k ((NX ..).trans (NX ..));exact Mu ⟨_,rfl,Mu this⟩
theorem De(n:A.handled=MA)(W:Wk w o es ep t){g i:Nat}(e:jP w t g i)(c:gw s.heap it a g i es.size ep)(j:s.heap.get? a=Mt o)(f:es.size<=i){Q:Option Mv->Mx->Prop}(p:∀h',Tj it s.heap h'->Q MA {s with heap:=h'}):wpAny (MO prog w) A (OC (.ref it)) Q E s:=by
 obtain⟨q,d,r,hd⟩:=id c;unfold OC;refine Ms (P2 (NB (name:=MF "__next__") c.typeIs bE (Ni bE c.typeIs fG ?_ (gu _))));unfold Builtin.«set_iterator.__next__»Wu;simp only[O7,Pb,M0,↓reduceIte,bind_assoc,NG,bne_self_eq_false];refine Ms (Mu ?_);refine Ms (SM d hd ?_);show wpAny _ _ (setEntries a>>=_) _ _ s;refine Ms (P7 j W.dat W.ze ?_);rw[if_neg (by simp)];refine Ms (oG W (by simpa using e) j (λl k h=>absurd l (Nat.not_lt.mpr (by simpa using f))) λ_=>?_);show wpAny _ _ (TQ (.ref it) 2 .none>>=_) _ _ s;refine Ms (OR d hd (by simp) ?_);show wpAny _ _ (Ws (.type "StopIteration") []>>=_) _ _ _;refine Ms ?_;simp only[Ws,UT];refine Ms (Nd ?_ (by size_fits));refine Ms (m:=QY _ _) (Px (a:=M5) (by first|rfl|(simp only[QY];rfl)) ?_);refine Nd ?_ (by size_fits);simp only[raiseNew];refine Ms (Vh ?_);rw[show A.in1.handled=MA from n];refine Ms (Mu (Wa ?_));refine Ms (OK (T:="StopIteration") (b:=Mz) ⟨_,MJ _ rfl,rfl⟩ SN ?_);exact Mu (p _ (((NX ..).extBut.push _).push _))
theorem zW{c i n:Nat}(b:gw s.heap it a c i n ep){Q:Mv->Mx->Prop}(h:Q (.ref it) s):wpAny (MO prog w) A (RZ (.ref it)) Q E s:=by
 refine RS b.typeIs gr (Ni gr b.typeIs lg ?_ (mT _));show wpAny _ _ (Wf (.ref it)) _ _ s;exact Mu ⟨_,rfl,"set_iterator",_,b.typeIs,bE.lookup,h⟩
theorem wt{r:MD}{Q:Bool->Mx->Prop}(e:s.TypeIs (.ref r) "set")(h:Q My s):wpAny (MO prog w) A (QM (.ref r)) Q E s:=by
 unfold QM;refine Ms (Qp e PySem.F.slot_set_len.lookup ?_);generalize d:("set.__len__":String)=id0;wp_delta;rw[show splitId id0=Mt ("set","__len__")from by subst d;decide+kernel];subst d;refine Ms (OK (T:="set") (b:=Mz) e (by rw[Qc];kernel_rfl) ?_);refine wpAny_ite_split (λc=>absurd c (by decide)) (λ_=>?_);refine wpAny_ite_split (λ_=>?_) (λc=>absurd (by decide+kernel) c);refine Ms (Q5 e ?_);exact Mu h
noncomputable def Gq(w:M_)(a:MD)(es:Array (Int×Mv))(ep:Nat)(i:Nat)(v:Mv):Prop:=∃e,(cg w a es ep)[i]?=Mt e/\v=e.2
theorem wu(y:A.handled=MA)(I:MD)(p:a≠I)(W:Wk w o es ep t):Wv prog w A I [I,a] [I] es.size (Gq w a es ep) (λi h=>(∃c,jP w t c i/\gw h I a c i es.size ep)/\h.get? a=Mt o)where
 sub:=λb f=>by simp at f;simp[f]
 frame:=λ_ _ _⟨⟨c,g,x,d,z⟩,st⟩u=>⟨⟨c,g,x,u I (by simp) _ d,z⟩,u a (by simp) o st⟩;item:=λi s Q E v⟨⟨c,g,d⟩,st⟩m=>zV W g d st v λr n j l k=>m _ r s.toks ⟨_,M8 (by rw[seq_size];exact v),rfl⟩ ⟨⟨n,j,l⟩,(k.2 a p).trans st⟩ λb o f e=>k.extBut b o (λh=>f (by simp[h])) e;done:=λs Q E⟨⟨c,g,d⟩,st⟩m=>De y W g d st (MN _) λr q=>m r s.toks λb o f e=>q b o (λh=>f (by simp[h])) e;self:=λ_ _ _ _⟨⟨c,g,d⟩,st⟩m=>zW d m
theorem zX(W:Wk w o es ep t):KdlSrc prog w "set" a a es.size (Gq w a es ep) (λh=>h.get? a=Mt o)where
 type:=λ_ b=>⟨o,b,W.ex.1⟩;there:=λ_ b=>⟨MH b,MH b⟩;keep:=λ_ _ b d=>d a (.inl rfl) o b;notList:=by decide
 notTuple:=by decide
 hint:=λ_ _ s _ b c=>wt ⟨o,b,W.ex.1⟩ c;iter:=λ_ _ e b=>⟨_,_,(λ_ _ c=>wq W b c),wu e _ (M4 (MH b)) W,⟨⟨0,qQ w W.rise,_,MJ _ rfl,rfl,rfl⟩,Mw _ b⟩⟩
theorem dq(W:Wk w o es ep t)(p:A.handled=MA)(l:s.heap.get? a=Mt o)(m:es.size<=MP){R:List Mv->Mx->Prop}(h:∀(h':Na)(j:Nat)(vs:List Mv),(∀b o,s.heap.get? b=Mt o->h'.get? b=Mt o)->vs.Perm (es.toList.map (·.2))->R vs {s with heap:=h',toks:=j}):wpAny (MO prog w) A (U8 (.ref a)) R E s:=by
 refine kdu_collect (zX (prog:=prog) W) p l m λh' j d g c=>?_;have k:=seq_size w a es ep;have e:d.toList=(cg w a es ep).toList.map (·.2):=by
  apply List.ext_getElem?;intro i;rw[Nq];by_cases n:i<es.size
  .have f:i<d.size:=by rw[c.1];exact n
   obtain⟨e,r,q⟩:=c.2 i d[i] (by simp[f]);simp only[Ol,r,M8 f,q,Rt]
  .have f:d.size<=i:=by rw[c.1];omega
   simp only[Ol,Pu f,Pu (show(cg w a es ep).size<=i by omega),Option.map_none]
 exact h h' j d.toList g (by rw[e];exact(jO w a es ep).map _)
end
end ST
end
section
namespace L2
open PySem PySem.Spec PyProof.Rows
noncomputable def gx(ks:List Key):Bool:=ks.all λk=>k.isLeft
noncomputable def cj(P:MX)(w:M_)(o:NF)(xs:List (List Key×MD)):Prop:=o.data≠.freed/\(∀v,o.data≠.cell v)/\∀(h:Na)(a:MD),h.get? a=Mt o->∃t,ST.aI (ao P w) h a xs t/\((∀x∈xs,gx x.1=Mz)->t.plain=Mz)
theorem cj.of{P:MX}{w:M_}{h:Na}{a:MD}{o:NF}{xs:List (List Key×MD)}{t:Nk}(S:ST.aI (ao P w) h a xs t)(e:h.get? a=Mt o)(d:(∀x∈xs,gx x.1=Mz)->t.plain=Mz):cj P w o xs:=by
 obtain⟨j,f,g,c,hex,hd,b⟩:=S.ob;rw[e]at c;cases c;exact⟨λz=>(by rw[hd]at z;cases z),λv z=>(by rw[hd]at z;cases z),λk l i=>⟨t,⟨⟨o,f,g,i,hex,hd,b⟩,S.tab,S.n0,S.nd,S.led⟩,d⟩⟩
noncomputable def Gr(K:ME)(H:Hp)(xs:List (List Key×MD)):Prop:=∀x∈xs,iE K H x.2 (x.1.map kV)
theorem bG{X:Cx}{pins:List (MD×NF)}{σ:St}{H:Hp}{s:Mx}{a:MD}{ks:List Key}(I:Inv X pins σ H s)(h:iE X.K H a (ks.map kV)):Om (ao X.prog X.w) s.heap ks a:=by
 obtain⟨b,r,⟨o,e,d,n,c⟩,_⟩:=I.tuple h;exact⟨o,b.toArray,n,e,d,c,by simpa using lS r⟩
theorem jQ:∀{ks:List Key}{its:List Mv},ak (ks.map kV) its->gx ks=Mz->∀v∈its,R8 7 v=pure Mz
 |[],_,r,_,v,a=>by cases r;cases a|k::ks,_,r,h,v,a=>by cases r with|cons c b=>
   unfold gx at h;rw[Qy,ML]at h;rcases List.mem_cons.mp a with z|z
   .subst z;cases k with
    |inl i=>obtain⟨t,e⟩:=(show∃t,v=Qt i t from c);subst e;rfl|inr x=>cases h.1
   .exact jQ b h.2 v z
theorem eJ{X:Cx}{pins:List (MD×NF)}{σ:St}{H:Hp}{s:Mx}{a:MD}{ks:List Key}(I:Inv X pins σ H s)(h:iE X.K H a (ks.map kV))(d:gx ks=Mz):ST.bc s.heap a:=by
 obtain⟨b,r,⟨o,f,g,n,e⟩,_⟩:=I.tuple h;exact⟨o,b.toArray,n,f,e,λv c=>jQ r d v (by simpa using c)⟩
noncomputable def jR(P:MX)(w:M_)(o:NF)(xs:List (Int×Ut)):Prop:=o.data≠.freed/\(∀v,o.data≠.cell v)/\∀(h:Na)(a:MD),h.get? a=Mt o->∃t,ST.mO P w h a xs t
theorem jR.of{P:MX}{w:M_}{h:Na}{a:MD}{o:NF}{xs:List (Int×Ut)}{t:Nk}(S:ST.mO P w h a xs t)(e:h.get? a=Mt o):jR P w o xs:=by
 obtain⟨i,d,f,c,hex,hd,b⟩:=S.ob;rw[e]at c;cases c;exact⟨λz=>(by rw[hd]at z;cases z),λv z=>(by rw[hd]at z;cases z),λj k g=>⟨t,⟨o,d,f,g,hex,hd,b⟩,S.tab,S.n0,S.nd,S.led,S.plain⟩⟩
inductive D where|aJ|bl(b:Bool)|int(i:Int)|str(x:M3)|tup(xs:List D)|lst(xs:List D)|bR(ks vs:List D)|set(ks:List D)|exc(c:MD)(nm:List D)|fn(f:MD)
inductive W where|d(x:D)|feed|own(d:D)
noncomputable abbrev ag:=List (Option W)
structure Xc where
 x:D
 en:ag
structure M(α:Type)where
 run:Nat->(α->Nat->Prop)->(Xc->Nat->Prop)->Prop
 mono:∀{k Q Q' E E'},run k Q E->(∀a k,Q a k->Q' a k)->(∀x k,E x k->E' x k)->run k Q' E'
namespace M
variable{α β:Type}
protected def pure(a:α):M α:=⟨λk Q _=>Q a k,λh q _=>q _ _ h⟩
protected def bind(m:M α)(f:α->M β):M β:=⟨λk Q E=>m.run k (λa k'=>(f a).run k' Q E) E,λh q e=>m.mono h (λa k' h=>(f a).mono h q e) e⟩
instance:Monad M where
 pure:=M.pure;bind:=M.bind
noncomputable def fail:M α:=⟨λ_ _ _=>False,λh _ _=>h⟩
noncomputable def need(P:Prop):M Unit:=⟨λk Q _=>P/\Q () k,λh q _=>⟨h.1,q _ _ h.2⟩⟩
noncomputable def any(P:α->Prop):M α:=⟨λk Q _=>∀a,P a->Q a k,λh q _ a p=>q _ _ (h a p)⟩
noncomputable def throw(x:Xc):M α:=⟨λk _ E=>E x k,λh _ e=>e _ _ h⟩
noncomputable def tick(n:Nat):M Unit:=⟨λk Q _=>k+n<=1000000/\∀c,k<=c->c<=k+n->Q () c,λh q _=>⟨h.1,λc a b=>q _ _ (h.2 c a b)⟩⟩
noncomputable def get(o:Option α):M α:=match o with
 |some a=>pure a|none=>fail
theorem run_bind{m:M α}{f:α->M β}{k Q E}:(m>>=f).run k Q E=m.run k (λa k'=>(f a).run k' Q E) E:=rfl
theorem run_get{o:Option α}{k Q E}:(get o).run k Q E↔∃a,o=Mt a/\Q a k:=by cases o with
 |none=>exact⟨λh=>h.elim,λ⟨a,h,_⟩=>nomatch h⟩|some a=>exact⟨λh=>⟨a,rfl,h⟩,λ⟨b,h,q⟩=>by cases h;exact q⟩
end M
structure bU(H:Hp)(p q:MD)(ns:List Int)(i r:Int):Prop where
 ob:H p=Mt (.lst [.ref q,.int i,.int r])cs:∃o,H q=Mt (.bo o (.lst (ns.map V.int)))ne:q≠p
 i0:0<=i
 r0:0<=r
 ln:ns.length<=63
noncomputable def jS(H:Hp)(p q:MD)(k:Nat):Prop:=∃ns i r,bU H p q ns i r/\i<=(k:Int)
noncomputable def Fw(H:Hp)(p:MD)(k:Nat):Prop:=∃q,jS H p q k
theorem jS.same{H H':Hp}{p q:MD}{k:Nat}(F:jS H p q k)(h:oA H H'):jS H' p q k:=by
 obtain⟨ns,i,r,⟨g,⟨o,f⟩,e,d,c,b⟩,a⟩:=F;exact⟨ns,i,r,⟨h _ _ g,⟨o,h _ _ f⟩,e,d,c,b⟩,a⟩
structure Fb where
 K:ME
 p:MD
 P:MX
 w:M_
structure Fx extends Fb where
 H0:Hp
 k0:Nat
 E:Xc->Nat->Prop
 Hs:Hp
 ks:Nat
noncomputable def Dg(H:Hp)(a:MD)(xs:List V):Prop:=∃o,H a=Mt (.bo o (.lst xs))
theorem Dg.sq{K:ME}{H:Hp}{a:MD}{xs:List V}(h:Dg H a xs):cP K H a xs:=.inl (.inr h)
noncomputable def TupAt(F:Fb)(H:Hp)(a:MD)(xs:List V):Prop:=a≠F.p/\iE F.K H a xs
noncomputable def LstAt(F:Fb)(H:Hp)(a:MD)(xs:List V):Prop:=a≠F.p/\Dg H a xs
noncomputable def kD:Key->D
 |.inl i=>.int i|.inr x=>.str x
noncomputable def hU(P:MX)(w:M_)(o:NF)(us:List (Key×Mv)):Prop:=∃a b,o.ExactDict/\o.data=.dict a b/\KeysOf (ao P w) a/\Pairs (ao P w) a.toList us/\(us.map (·.1)).Nodup
noncomputable def hV(P:MX)(w:M_)(o:NF)(xs:List (List Key×MD×Mv)):Prop:=∃a b,o.ExactDict/\o.data=.dict a b/\a.toList=xs.map (Wi (RY (ao P w)))/\(xs.map (·.1)).Nodup
noncomputable def KA:List (List Key×MD×V)->List (List Key×MD×Mv)->Prop:=Paired λp q=>p.1=q.1/\p.2.1=q.2.1/\RelV p.2.2 q.2.2
noncomputable def bM(F:Fb)(H:Hp)(o:NF)(ks:List D)(vs:List V):Prop:=ks.length<=MP/\((∃(a:List (Key×V))(c:List (Key×Mv)),KV a c/\hU F.P F.w o c/\ks=a.map (λx=>kD x.1)/\vs=a.map (·.2))\/(∃(a:List (List Key×MD×V))(b:List (List Key×MD×Mv)),KA a b/\hV F.P F.w o b/\(∀x∈a,TupAt F H x.2.1 (x.1.map kV))/\ks=a.map (λx=>D.tup (x.1.map kD))/\vs=a.map (·.2.2)))
noncomputable def uw(F:Fb)(H:Hp)(a:MD)(o:NF):Prop:=a≠F.p/\(a==Pn)=My/\((∃u,H a=Mt (.bo o u))\/F.K.lookup a=Mt o)
noncomputable def sW(F:Fb)(H:Hp)(a:MD)(ks:List D)(vs:List V):Prop:=∃o,uw F H a o/\bM F H o ks vs
noncomputable def cD(a:MD)(o:NF):HO:=.ext λh=>h.get? a=Mt o
noncomputable def dX(F:Fb)(H:Hp)(a:MD)(ks:List D):Prop:=a≠F.p/\∃ob u,H a=Mt (.bo ob u)/\((∃b,cj F.P F.w ob b/\ks=b.map (λx=>D.tup (x.1.map kD))/\∀x∈b,TupAt F H x.2 (x.1.map kV))\/(∃b,jR F.P F.w ob b/\ks=b.map (λx=>D.int x.1)))
noncomputable def sX(F:Fb)(H:Hp)(a:MD)(ks:List D):Prop:=∃l,l.Perm ks/\dX F H a l
noncomputable def zY(F:Fb)(H:Hp)(a c:MD):List V->Prop
 |[]=>a≠F.p/\∃ob u,H a=Mt (.bo ob u)/\ob.cls=.ref c/\(∃b,ob.data=.fields b)|[v]=>a≠F.p/\∃ob u d e,H a=Mt (.bo ob u)/\ob.cls=.ref c/\(∃b,ob.data=.fields b)/\ob.dict=Mt d/\d≠F.p/\H d=Mt (.bo e (.xd [("name",v)]))|_=>False
mutual
noncomputable def Is(F:Fb)(H:Hp):V->D->Prop
 |v,.aJ=>v=.aJ|v,.bl b=>v=.bl b|v,.int i=>v=.int i|v,.str x=>v=.str x|v,.tup e=>∃a d,v=.ref a/\TupAt F H a d/\af F H d e|v,.lst e=>∃a d,v=.ref a/\LstAt F H a d/\af F H d e|v,.bR ks e=>∃a d,v=.ref a/\sW F H a ks d/\af F H d e|v,.set ks=>∃a,v=.ref a/\sX F H a ks|v,.exc c e=>∃a d,v=.ref a/\zY F H a c d/\af F H d e|v,.fn f=>v=.ref f
noncomputable def af(F:Fb)(H:Hp):List V->List D->Prop
 |xs,[]=>xs=[]|xs,d::b=>∃x a,xs=x::a/\Is F H x d/\af F H a b
end
noncomputable def HO.lY:HO->Bool
 |.tup _=>Mz|.bo _ _=>Mz|_=>My
structure Kp(F:Fb)(H:Hp)(k:Nat)(H':Hp)(k':Nat):Prop where
 keep:∀a o,a≠F.p->o.lY=Mz->H a=Mt o->H' a=Mt o
 live:H F.p≠MA->H' F.p≠MA
 le:k<=k'
 cY:∀q,jS H F.p q k->jS H' F.p q k'
structure Ext(F:Fb)(H:Hp)(k:Nat)(H':Hp)(k':Nat):Prop where
 keep:∀a o,a≠F.p->H a=Mt o->H' a=Mt o
 live:H F.p≠MA->H' F.p≠MA
 le:k<=k'
 cY:∀q,jS H F.p q k->jS H' F.p q k'
section
variable{F:Fb}{H H1 H2 H':Hp}{k k1 k2 k':Nat}
theorem Ext.kp(e:Ext F H k H' k'):Kp F H k H' k':=⟨λa o h _ q=>e.keep a o h q,e.live,e.le,e.cY⟩
theorem Ext.feed(e:Ext F H k H' k'):Fw H F.p k->Fw H' F.p k':=λ⟨q,h⟩=>⟨q,e.cY q h⟩
theorem Kp.feed(e:Kp F H k H' k'):Fw H F.p k->Fw H' F.p k':=λ⟨q,h⟩=>⟨q,e.cY q h⟩
theorem Ext.refl:Ext F H k H k:=⟨λ_ _ _ h=>h,λh=>h,MN _,λ_ h=>h⟩
theorem Kp.refl:Kp F H k H k:=Ext.refl.kp
theorem Ext.trans(a:Ext F H k H1 k1)(b:Ext F H1 k1 H2 k2):Ext F H k H2 k2:=⟨λc o d h=>b.keep c o d (a.keep c o d h),λh=>b.live (a.live h),Nw a.le b.le,λq h=>b.cY q (a.cY q h)⟩
theorem Kp.trans(a:Kp F H k H1 k1)(b:Kp F H1 k1 H2 k2):Kp F H k H2 k2:=⟨λc o d s h=>b.keep c o d s (a.keep c o d s h),λh=>b.live (a.live h),Nw a.le b.le,λq h=>b.cY q (a.cY q h)⟩
theorem ux(h:oA H H'):H F.p≠MA->H' F.p≠MA:=λn z=>n (by cases e:H F.p with
 |none=>rfl|some o=>rw[h _ _ e]at z;cases z)
theorem Ext.of(h:oA H H'):Ext F H k H' k:=⟨λa o _ e=>h a o e,ux h,MN _,λ_ f=>f.same h⟩
theorem wx{a:MD}{o:HO}(h:H a=MA):oA H (upd H a o):=λb u e=>by rw[ai (ar e h)];exact e
theorem Ext.new{a:MD}{o:HO}(h:H a=MA):Ext F H k (upd H a o) k:=.of (wx h)
theorem bY{a:MD}(l:H F.p≠MA)(h:H a=MA):a≠F.p:=λz=>l (z▸h)
theorem TupAt.mono{a:MD}{xs:List V}(h:TupAt F H a xs)(e:Kp F H k H' k'):TupAt F H' a xs:=by
 refine⟨h.1,?_⟩;rcases h.2 with b|b
 .refine .inl ?_;rcases b with b|⟨o,b⟩;.exact .inl (e.keep _ _ h.1 rfl b)
  .exact .inr ⟨o,e.keep _ _ h.1 rfl b⟩
 .exact .inr b
theorem LstAt.mono{a:MD}{xs:List V}(h:LstAt F H a xs)(e:Kp F H k H' k'):LstAt F H' a xs:=by
 refine⟨h.1,?_⟩;obtain⟨o,b⟩:=h.2;exact⟨o,e.keep _ _ h.1 rfl b⟩
theorem uw.mono{a:MD}{o:NF}(h:uw F H a o)(e:Kp F H k H' k'):uw F H' a o:=by
 obtain⟨c,d,b⟩:=h;refine⟨c,d,?_⟩;rcases b with⟨u,b⟩|b;.exact .inl ⟨u,e.keep _ _ c rfl b⟩
 .exact .inr b
theorem bM.mono{o:NF}{ks:List D}{xs:List V}(h:bM F H o ks xs)(e:Kp F H k H' k'):bM F H' o ks xs:=by
 obtain⟨b,h⟩:=h;refine⟨b,?_⟩;rcases h with h|⟨a,xs,i,g,f,d⟩;.exact .inl h
 .exact .inr ⟨a,xs,i,g,λx c=>(f x c).mono e,d⟩
theorem sW.mono{a:MD}{ks:List D}{xs:List V}(h:sW F H a ks xs)(e:Kp F H k H' k'):sW F H' a ks xs:=let⟨o,c,b⟩:=h;⟨o,c.mono e,b.mono e⟩
theorem dX.mono{a:MD}{ks:List D}(h:dX F H a ks)(e:Kp F H k H' k'):dX F H' a ks:=by
 obtain⟨c,ob,u,l,b⟩:=h;refine⟨c,ob,u,e.keep _ _ c rfl l,?_⟩;rcases b with⟨d,i,g,f⟩|b;.exact .inl ⟨d,i,g,λx j=>(f x j).mono e⟩
 .exact .inr b
theorem sX.mono{a:MD}{ks:List D}(h:sX F H a ks)(e:Kp F H k H' k'):sX F H' a ks:=let⟨l,p,q⟩:=h;⟨l,p,q.mono e⟩
theorem zY.mono{a c:MD}{xs:List V}(h:zY F H a c xs)(e:Kp F H k H' k'):zY F H' a c xs:=by match xs,h with
 |[],⟨b,ob,u,f,d⟩=>exact⟨b,ob,u,e.keep _ _ b rfl f,d⟩|[v],⟨b,ob,u,n,i,f,d,m,l,g,j⟩=>exact⟨b,ob,u,n,i,e.keep _ _ b rfl f,d,m,l,g,e.keep _ _ g rfl j⟩
mutual
theorem Is.mono(e:Kp F H k H' k'):∀{v:V}{d:D},Is F H v d->Is F H' v d
 |_,.aJ,h=>by simp only[Is]at h⊢;exact h|_,.bl _,h=>by simp only[Is]at h⊢;exact h|_,.int _,h=>by simp only[Is]at h⊢;exact h|_,.str _,h=>by simp only[Is]at h⊢;exact h|_,.tup _,h=>by
  simp only[Is]at h⊢;obtain⟨a,f,c,b,g⟩:=h;exact⟨a,f,c,b.mono e,af.mono e g⟩|_,.lst _,h=>by
  simp only[Is]at h⊢;obtain⟨a,f,c,b,g⟩:=h;exact⟨a,f,c,b.mono e,af.mono e g⟩|_,.bR _ _,h=>by
  simp only[Is]at h⊢;obtain⟨a,f,c,b,g⟩:=h;exact⟨a,f,c,b.mono e,af.mono e g⟩|_,.set _,h=>by
  simp only[Is]at h⊢;obtain⟨a,c,b⟩:=h;exact⟨a,c,b.mono e⟩|_,.exc _ _,h=>by
  simp only[Is]at h⊢;obtain⟨a,f,c,b,g⟩:=h;exact⟨a,f,c,b.mono e,af.mono e g⟩|_,.fn _,h=>by simp only[Is]at h⊢;exact h
theorem af.mono(e:Kp F H k H' k'):∀{xs:List V}{ds:List D},af F H xs ds->af F H' xs ds
 |_,[],h=>by simp only[af]at h⊢;exact h|_,d::ds,h=>by
  simp only[af]at h⊢;obtain⟨x,a,f,c,b⟩:=h;exact⟨x,a,f,Is.mono e c,af.mono e b⟩
end
theorem af.nil:af F H [] []:=by simp only[af]
theorem af.cons{x:V}{xs:List V}{d:D}{ds:List D}(h:Is F H x d)(t:af F H xs ds):af F H (x::xs) (d::ds):=by simp only[af];exact⟨x,xs,rfl,h,t⟩
theorem af.length:∀{xs:List V}{ds:List D},af F H xs ds->xs.length=ds.length
 |_,[],h=>by simp only[af]at h;rw[h];rfl|_,d::ds,h=>by
  simp only[af]at h;obtain⟨x,b,rfl,_,a⟩:=h;simp[af.length a]
theorem af.append:∀{xs ys:List V}{ds es:List D},af F H xs ds->af F H ys es->af F H (xs++ys) (ds++es)
 |_,_,[],_,h,t=>by simp only[af]at h;rw[h];exact t|_,_,d::ds,_,h,t=>by
  simp only[af]at h;obtain⟨x,ys,rfl,b,a⟩:=h;exact .cons b (af.append a t)
theorem af.get:∀{xs:List V}{ds:List D}{i:Nat}{d:D},af F H xs ds->ds[i]?=Mt d->∃x,xs[i]?=Mt x/\Is F H x d
 |_,[],_,_,_,e=>by simp at e|_,c::ds,i,d,h,e=>by
  simp only[af]at h;obtain⟨x,f,rfl,b,a⟩:=h;cases i with
  |zero=>simp at e;subst e;exact⟨x,rfl,b⟩|succ i=>simpa using af.get (i:=i) a (by simpa using e)
theorem af.at:∀{xs:List V}{ds:List D}{i:Nat}{x:V},af F H xs ds->xs[i]?=Mt x->∃d,ds[i]?=Mt d/\Is F H x d
 |_,[],_,_,h,e=>by simp only[af]at h;rw[h]at e;simp at e|_,c::ds,i,d,h,e=>by
  simp only[af]at h;obtain⟨x,f,rfl,b,a⟩:=h;cases i with
  |zero=>simp at e;subst e;exact⟨c,rfl,b⟩|succ i=>simpa using af.at (i:=i) a (by simpa using e)
theorem af.drop:∀{xs:List V}{ds:List D}(n:Nat),af F H xs ds->af F H (xs.drop n) (ds.drop n)
 |_,_,0,h=>by simpa using h|_,[],n+1,h=>by simp only[af]at h;rw[h];exact .nil|_,d::ds,n+1,h=>by
  simp only[af]at h;obtain⟨x,b,rfl,_,a⟩:=h;simpa using af.drop n a
theorem af.take:∀{xs:List V}{ds:List D}(n:Nat),af F H xs ds->af F H (xs.take n) (ds.take n)
 |_,_,0,h=>by simpa using af.nil|_,[],n+1,h=>by simp only[af]at h;rw[h];exact .nil|_,d::ds,n+1,h=>by
  simp only[af]at h;obtain⟨x,c,rfl,b,a⟩:=h;simpa using af.cons b (af.take n a)
end
noncomputable def SetOf(F:Fb)(H:Hp)(o:NF)(l:List D):Prop:=(∃a,cj F.P F.w o a/\l=a.map (λx=>D.tup (x.1.map kD))/\∀x∈a,TupAt F H x.2 (x.1.map kV))\/(∃a,jR F.P F.w o a/\l=a.map (λx=>D.int x.1))
noncomputable def jT(F:Fb)(H:Hp)(a:MD):D->Prop
 |.lst c=>∃b,H a=Mt (.lst b)/\af F H b c|.bR ks c=>∃o b,H a=Mt (cD a o)/\(a==Pn)=My/\bM F H o ks b/\af F H b c|.set ks=>∃o l,H a=Mt (cD a o)/\l.Perm ks/\SetOf F H o l|_=>False
noncomputable def gy(F:Fx)(H:Hp)(a:MD)(d:D):Prop:=a≠F.p/\F.H0 a=MA/\jT F.toFb H a d
noncomputable def Fy(F:Fx)(H:Hp)(k:Nat):V->W->Prop
 |v,.d x=>Is F.toFb H v x|v,.feed=>v=.ref F.p/\Fw H F.p k|v,.own d=>∃a,v=.ref a/\gy F H a d
inductive A where|d(x:D)|feed
noncomputable def A.w:A->W
 |.d x=>.d x|.feed=>.feed
noncomputable def Fz(F:Fb)(H:Hp)(k:Nat):V->A->Prop
 |v,.d x=>Is F H v x|v,.feed=>v=.ref F.p/\Fw H F.p k
noncomputable abbrev uy(F:Fb)(H:Hp)(k:Nat):List V->List A->Prop:=Paired (Fz F H k)
section
variable{F:Fx}{H H1 H2 H':Hp}{k k1 k2 k':Nat}
theorem SetOf.mono{B:Fb}{o:NF}{l:List D}(h:SetOf B H o l)(e:Kp B H k H' k'):SetOf B H' o l:=by
 rcases h with⟨a,d,c,b⟩|h;.exact .inl ⟨a,d,c,λx f=>(b x f).mono e⟩
 .exact .inr h
theorem jT.keep{B:Fb}{a:MD}{d:D}(h:jT B H a d)(e:Kp B H k H' k')(g:∀o,H a=Mt o->H' a=Mt o):jT B H' a d:=by cases d with
 |lst m=>obtain⟨f,c,b⟩:=h;exact⟨f,g _ c,b.mono e⟩|bR ks m=>obtain⟨o,f,c,b,i,j⟩:=h;exact⟨o,f,g _ c,b,i.mono e,j.mono e⟩|set ks=>obtain⟨o,l,c,b,i⟩:=h;exact⟨o,l,g _ c,b,i.mono e⟩|_=>exact h.elim
theorem gy.mono{a:MD}{d:D}(h:gy F H a d)(e:Ext F.toFb H k H' k'):gy F H' a d:=⟨h.1,h.2.1,h.2.2.keep e.kp λo q=>e.keep a o h.1 q⟩
theorem Fy.mono{v:V}{x:W}(h:Fy F H k v x)(e:Ext F.toFb H k H' k'):Fy F H' k' v x:=by cases x with
 |d x=>exact Is.mono e.kp h|feed=>exact⟨h.1,e.feed h.2⟩|own d=>
  obtain⟨a,c,b⟩:=h;exact⟨a,c,b.mono e⟩
theorem Fz.w{v:V}{x:A}(h:Fz F.toFb H k v x):Fy F H k v x.w:=by cases x<;>exact h
end
noncomputable def W.wy:W->Bool
 |.own _=>Mz|_=>My
structure bp(F:Fx)(ρ:ag)(k:Nat)(σ:St)(H:Hp):Prop where
 len:ρ.length=σ.length
 at_:∀(i:Nat)(d:W),ρ[i]?=Mt (Mt d)->∃v,σ[i]?=Mt (Mt v)/\Fy F H k v d
 apart:∀(i j:Nat)(d e:W)(v:V),i≠j->ρ[i]?=Mt (Mt d)->ρ[j]?=Mt (Mt e)->d.wy=Mz->e.wy=Mz->σ[i]?=Mt (Mt v)->σ[j]?≠Mt (Mt v)live:H F.p≠MA
 ext:Ext F.toFb F.H0 F.k0 H k
 jn:Kp F.toFb F.Hs F.ks H k
theorem bp.mono{F:Fx}{a:ag}{k k':Nat}{σ:St}{H H':Hp}(h:bp F a k σ H)(e:Ext F.toFb H k H' k'):bp F a k' σ H' where
 len:=h.len;at_:=λi d q=>let⟨v,c,b⟩:=h.at_ i d q;⟨v,c,b.mono e⟩;apart:=h.apart;live:=e.live h.live;ext:=h.ext.trans e;jn:=h.jn.trans e.kp
noncomputable def qE(F:Fb)(H:Hp)(k:Nat)(Q:V->Hp->Prop):D->Nat->Prop:=λd b=>∀v a,Ext F H k a b->Is F a v d->Q v a
noncomputable def qT(F:Fb)(H:Hp)(k:Nat)(Q:Bool->Hp->Prop):Bool->Nat->Prop:=λb c=>∀a,Ext F H k a c->Q b a
noncomputable def qA(F:Fb)(H:Hp)(k:Nat)(Q:List V->Hp->Prop):List A->Nat->Prop:=λd c=>∀b a,Ext F H k a c->uy F a c b d->Q b a
noncomputable def bK(F:Fx)(t:ag->M D):TE:=λb H Q=>∃a k,bp F a k b H/\(t a).run k (qE F.toFb H k Q) F.E
noncomputable def fO(F:Fx)(t:ag->M Bool):TT:=λb H Q=>∃a k,bp F a k b H/\(t a).run k (qT F.toFb H k Q) F.E
noncomputable def mU(F:Fx)(t:ag->M (List A)):TA:=λb H Q=>∃a k,bp F a k b H/\(t a).run k (qA F.toFb H k Q) F.E
structure DE(X:Cx)(F:Fx)(e:MV)(t:ag->M D):Prop where
 hK:X.K=F.K
 pe:PE X e (bK F t)
structure DT(X:Cx)(F:Fx)(e:MV)(t:ag->M Bool):Prop where
 hK:X.K=F.K
 pt:PT X e (fO F t)
structure DA(X:Cx)(F:Fx)(es:List MV)(t:ag->M (List A)):Prop where
 hK:X.K=F.K
 pa:PA X es (mU F t)
inductive Fl where|nx(ρ:ag)|rt(d:D)|bk(ρ:ag)|ct(ρ:ag)
noncomputable def uz(F:Fx)(Z:Ends)(H:Hp)(k:Nat)(e:Fl)(k':Nat):Prop:=match e with
 |.nx c=>∀b a,Kp F.toFb H k a k'->bp F c k' b a->Z.nx b a|.rt d=>∀v a,Ext F.toFb F.H0 F.k0 a k'->Is F.toFb a v d->Z.rt v a|.bk c=>∀b a,Kp F.toFb H k a k'->bp F c k' b a->Z.bk b a|.ct c=>∀b a,Kp F.toFb H k a k'->bp F c k' b a->Z.ct b a
noncomputable def J7(F:Fx)(t:ag->M Fl):TS:=λZ b H=>∃a k,bp F a k b H/\(t a).run k (uz F Z H k) F.E
structure DS(X:Cx)(F:Fx)(st:OM)(t:ag->M Fl):Prop where
 hK:X.K=F.K
 ps:PS X st (J7 F t)
structure uA(X:Cx)(F:Fx)(st:List OM)(t:ag->M Fl):Prop where
 hK:X.K=F.K
 ps:n9 X st (J7 F t)
theorem uz.mono{F:Fx}{Z:Ends}{H H':Hp}{k k' j:Nat}{c:Fl}(e:Kp F.toFb H k H' k')(h:uz F Z H k c j):uz F Z H' k' c j:=by cases c with
 |nx f=>exactλa b q S=>h a b (e.trans q) S|rt d=>exact h|bk f=>exactλa b q S=>h a b (e.trans q) S|ct f=>exactλa b q S=>h a b (e.trans q) S
section
variable{X:Cx}
theorem PE.imp{e:MV}{t t':TE}(h:PE X e t)(q:∀σ H Q,t' σ H Q->t σ H Q):PE X e t':=λa s σ H Q I z=>h a s σ H Q I (q σ H Q z)
theorem PT.imp{e:MV}{t t':TT}(h:PT X e t)(q:∀σ H Q,t' σ H Q->t σ H Q):PT X e t':=λa s σ H Q I z=>h a s σ H Q I (q σ H Q z)
theorem PW.imp{e:MV}{t t':TT}(h:PW X e t)(q:∀σ H Q,t' σ H Q->t σ H Q):PW X e t':=λw a s σ H Q I z=>h w a s σ H Q I (q σ H Q z)
theorem PA.imp{e:List MV}{t t':TA}(h:PA X e t)(q:∀σ H Q,t' σ H Q->t σ H Q):PA X e t':=λb a s σ H Q I z=>h b a s σ H Q I (q σ H Q z)
theorem PS.imp{e:OM}{t t':TS}(h:PS X e t)(q:∀D σ H,t' D σ H->t D σ H):PS X e t':=λa s σ H D I z=>h a s σ H D I (q D σ H z)
theorem n9.imp{e:List OM}{t t':TS}(h:n9 X e t)(q:∀D σ H,t' D σ H->t D σ H):n9 X e t':=λa s σ H D I z=>h a s σ H D I (q D σ H z)
end
theorem bK.next{F:Fx}{t:ag->M D}{σ:St}{H:Hp}{a:ag}{k:Nat}{R:D->Nat->Prop}{Q:V->Hp->Prop}(S:bp F a k σ H)(h:(t a).run k R F.E)(q:∀d k' v H',Ext F.toFb H k H' k'->bp F a k' σ H'->Is F.toFb H' v d->R d k'->Q v H'):bK F t σ H Q:=⟨a,k,S,(t a).mono h (λd k' r v H' e i=>q d k' v H' e (S.mono e) i r) λ_ _ z=>z⟩
theorem fO.next{F:Fx}{t:ag->M Bool}{σ:St}{H:Hp}{a:ag}{k:Nat}{R:Bool->Nat->Prop}{Q:Bool->Hp->Prop}(S:bp F a k σ H)(h:(t a).run k R F.E)(q:∀b k' H',Ext F.toFb H k H' k'->bp F a k' σ H'->R b k'->Q b H'):fO F t σ H Q:=⟨a,k,S,(t a).mono h (λb k' r H' e=>q b k' H' e (S.mono e) r) λ_ _ z=>z⟩
theorem mU.next{F:Fx}{t:ag->M (List A)}{σ:St}{H:Hp}{a:ag}{k:Nat}{R:List A->Nat->Prop}{Q:List V->Hp->Prop}(S:bp F a k σ H)(h:(t a).run k R F.E)(q:∀ds k' vs H',Ext F.toFb H k H' k'->bp F a k' σ H'->uy F.toFb H' k' vs ds->R ds k'->Q vs H'):mU F t σ H Q:=⟨a,k,S,(t a).mono h (λds k' r vs H' e i=>q ds k' vs H' e (S.mono e) i r) λ_ _ z=>z⟩
noncomputable def lh(a:ag)(i:Nat):Option D:=match a[i]? with
 |some (Mt (.d x))=>Mt x|_=>MA
theorem mV{a:ag}{i:Nat}{x:D}(h:lh a i=Mt x):a[i]?=Mt (Mt (.d x)):=by
 unfold lh at h;split at h;.rename_i y e;cases h;exact e
 .cases h
noncomputable def eK:D->M Bool
 |.bl b=>pure b|_=>M.fail
noncomputable def d7:D->M Int
 |.int i=>pure i|_=>M.fail
theorem cZ{d:D}{k Q E}:(eK d).run k Q E↔∃b,d=.bl b/\Q b k:=by cases d with
 |bl b=>exact⟨λh=>⟨b,rfl,h⟩,λ⟨c,e,h⟩=>by cases e;exact h⟩|_=>exact⟨λh=>h.elim,λ⟨c,e,h⟩=>nomatch e⟩
theorem bq{d:D}{k Q E}:(d7 d).run k Q E↔∃b,d=.int b/\Q b k:=by cases d with
 |int b=>exact⟨λh=>⟨b,rfl,h⟩,λ⟨c,e,h⟩=>by cases e;exact h⟩|_=>exact⟨λh=>h.elim,λ⟨c,e,h⟩=>nomatch e⟩
section
variable{X:Cx}{F:Fx}{a b c e:MV}{es rest:List MV}{pos:Od}{ta tb tc:ag->M D}
theorem wz(i:Nat){x:M3}{pos:Od}(hN:X.N[i]?=Mt x:=by rfl)(j:n6 X.env.scope x:=by first|exact RQ rfl|exact SK (RQ rfl)|exact SK (SK rfl))(hd:(x==("__debug__":M3))=My:=by decide)(f:(x==("__classdict__":M3))=My:=by decide)(hK:X.K=F.K:=by rfl):DE X F (.Name x pos) (λg=>M.get (lh g i)):=by
 refine⟨hK,(cv hN j hd f).imp λp H Q⟨g,k,S,h⟩=>?_⟩;obtain⟨d,o,n⟩:=M.run_get.mp h;obtain⟨v,m,l⟩:=S.at_ i _ (mV o);exact⟨v,m,n v H .refl l⟩
theorem Dh{i j pos}(hK:X.K=F.K:=by rfl):DE X F (.Constant (.int i) j pos) (λ_=>pure (.int i)):=⟨hK,aD.imp λd H Q⟨f,k,S,h⟩=>h _ H .refl (by simp only[Is])⟩
theorem Gs{i j pos}(hK:X.K=F.K:=by rfl):DE X F (.Constant (.bool i) j pos) (λ_=>pure (.bl i)):=⟨hK,FL.imp λd H Q⟨f,k,S,h⟩=>h _ H .refl (by simp only[Is])⟩
theorem Di{j pos}(hK:X.K=F.K:=by rfl):DE X F (.Constant .none j pos) (λ_=>pure .aJ):=⟨hK,CB.imp λd H Q⟨f,k,S,h⟩=>h _ H .refl (by simp only[Is])⟩
theorem Dj{i j pos}(hK:X.K=F.K:=by rfl):DE X F (.Constant (.str i) j pos) (λ_=>pure (.str i)):=⟨hK,CC.imp λd H Q⟨f,k,S,h⟩=>h _ H .refl (by simp only[Is])⟩
structure eN(X:Cx)(F:Fx)(f:Mv->Mv->U5 Mv)(m:D->D->M D):Prop where
 op:∀(pins:List (MD×NF))(s:Mx)(σ:St)(H:Hp)(k:Nat)(x y:V)(v u:Mv)(d e:D)(Q:VK),Inv X pins σ H s->RelV x v->RelV y u->H F.p≠MA->X.K=F.K->Is F.toFb H x d->Is F.toFb H y e->(m d e).run k (qE F.toFb H k Q) F.E->wpAny (MO X.prog X.w) X.A (f v u) (EP X pins σ Q) X.xe s
noncomputable def Gu(F:Fx)(m:D->D->M D):R2:=λx y H Q=>∃k d e,H F.p≠MA/\Is F.toFb H x d/\Is F.toFb H y e/\(m d e).run k (qE F.toFb H k Q) F.E
theorem eN.Gw{f:Mv->Mv->U5 Mv}{m:D->D->M D}(h:eN X F f m)(hK:X.K=F.K):jG X f (Gu F m):=λg s i H x y v u Q I n j⟨k,d,e,l,o,i2,q⟩=>h.op g s i H k x y v u d e Q I n j l hK o i2 q
theorem eN.of{f:Mv->Mv->U5 Mv}{m:D->D->M D}{r:R2}(h:jG X f r)(q:X.K=F.K->∀H k x y d e Q,H F.p≠MA->Is F.toFb H x d->Is F.toFb H y e->(m d e).run k (qE F.toFb H k Q) F.E->r x y H Q):eN X F f m:=⟨λg s i H k x y v u d e Q I n j l hK o i2 z=>h g s i H x y v u Q I n j (q hK H k x y d e Q l o i2 z)⟩
theorem qE.ext{B:Fb}{H f:Hp}{k k1:Nat}{Q:V->Hp->Prop}{d:D}{j:Nat}(e:Ext B H k f k1)(h:qE B H k Q d j):qE B f k1 Q d j:=λv l g i=>h v l (e.trans g) i
theorem qT.ext{B:Fb}{H f:Hp}{k k1:Nat}{Q:Bool->Hp->Prop}{d:Bool}{j:Nat}(e:Ext B H k f k1)(h:qT B H k Q d j):qT B f k1 Q d j:=λi g=>h i (e.trans g)
theorem M.wk{d:Type}{m:M d}{k Q Q' E}(h:m.run k Q E)(q:∀a k,Q a k->Q' a k):m.run k Q' E:=m.mono h q λ_ _ z=>z
theorem sY{m:D->D->M D}{σ:St}{H:Hp}{Q:VK}(h:bK F (λf=>do let d<-ta f;let e<-tb f;m d e) σ H Q):F0 (Gu F m) (bK F ta) (bK F tb) σ H Q:=by
 obtain⟨f,k,S,h⟩:=h;refine bK.next S h λd r v t e1 p i l=>?_;refine bK.next p l λn g q s e2 o i2 j=>?_;exact⟨g,d,n,o.live,i.mono e2.kp,i2,M.wk j λ_ _ z=>z.ext (e1.trans e2)⟩
theorem Gx{op:Rj}{m:D->D->M D}(i:eN X F (PC op) m)(f:DE X F a ta)(j:DE X F b tb):DE X F (.BinOp a op b pos) (λg=>do let d<-ta g;let e<-tb g;m d e):=⟨f.hK,(bg (i.Gw f.hK) f.pe j.pe).imp λk H Q h=>sY h⟩
theorem Dl{op:PX}{m:D->D->M D}(i:eN X F (NI op) m)(f:DE X F a ta)(k:DE X F b tb)(j:Qw op b=My:=by first|exact g6 _|with_unfolding_all rfl):DE X F (.Compare a [op] [b] pos) (λg=>do let d<-ta g;let e<-tb g;m d e):=⟨f.hK,(zE (i.Gw f.hK) f.pe k.pe j).imp λl H Q h=>sY h⟩
theorem zZ{t:ag->M D}{σ:St}{H:Hp}{Q:Bool->Hp->Prop}(h:fO F (λg=>do eK (<-t g)) σ H Q):BR (bK F t) σ H Q:=by
 obtain⟨g,k,S,h⟩:=h;refine bK.next S h λd l v j e1 m i f=>?_;obtain⟨c,rfl,f⟩:=cZ.mp f;simp only[Is]at i;exact⟨c,i,f j e1⟩
theorem Dm{op:PX}{m:D->D->M D}(i:eN X F (NI op) m)(g:DE X F a ta)(l:DE X F b tb)(j:Qw op b=My:=by first|exact g6 _|with_unfolding_all rfl):DT X F (.Compare a [op] [b] pos) (λf=>do eK (<-(do let d<-ta f;let e<-tb f;m d e))):=⟨g.hK,(gm (i.Gw g.hK) g.pe l.pe j).imp λn H Q h=>by
  obtain⟨f,k,S,h⟩:=zZ (t:=λf=>do let d<-ta f;let e<-tb f;m d e) h;exact sY ⟨f,k,S,h⟩⟩
noncomputable def wA(m m':D->D->M D)(ta tb tc:ag->M D)(g:ag):M D:=do
 let d<-ta g;let e<-tb g;let r<-m d e;let y<-eK r;if y then do let f<-tc g;m' e f else pure (.bl My)
theorem wB{m m':D->D->M D}{σ:St}{H:Hp}{Q:VK}(h:bK F (wA m m' ta tb tc) σ H Q):vW (Gu F m) (Gu F m') (bK F ta) (bK F tb) (bK F tc) σ H Q:=by
 obtain⟨A,k,S,h⟩:=h;refine bK.next S h λd I v L e1 x p t=>?_;refine bK.next x t λi n E K e2 j i2 s=>?_;refine⟨n,d,i,j.live,p.mono e2.kp,i2,M.wk s λr G f C y e3 g=>?_⟩;obtain⟨c,rfl,f⟩:=cZ.mp f;simp only[Is]at g;refine⟨c,g,?_⟩;cases c with
 |false=>exact f _ y ((e1.trans e2).trans e3) (by simp only[Is])|true=>
  refine bK.next (j.mono e3) f λu l B J e4 w o q=>?_;exact⟨l,i,u,w.live,i2.mono (e3.trans e4).kp,o,M.wk q λ_ _ z=>z.ext (((e1.trans e2).trans e3).trans e4)⟩
theorem wC{op d:PX}{m m':D->D->M D}(i:eN X F (NI op) m)(g:eN X F (NI d) m')(f:DE X F a ta)(l:DE X F b tb)(k:DE X F c tc)(j:lastMarks [op,d] [b,c]=My:=by with_unfolding_all rfl):DE X F (.Compare a [op,d] [b,c] pos) (wA m m' ta tb tc):=⟨f.hK,(vX (i.Gw f.hK) (g.Gw f.hK) f.pe l.pe k.pe j).imp λn H Q h=>wB h⟩
noncomputable def mI(C:Int->Int->Prop)(g:Int->Int->D):D->D->M D:=λd e=>do
 let i<-d7 d;let j<-d7 e;M.need (C i j)pure (g i j)
noncomputable def Jf(g:Int->Int->D):D->D->M D:=λd e=>do
 let i<-d7 d;let j<-d7 e;pure (g i j)
theorem wD{f:Mv->Mv->U5 Mv}{C:Int->Int->Prop}{g:Int->Int->Int}(h:jG X f (rI C λi j=>.int (g i j))):eN X F f (mI C λi j=>.int (g i j)):=.of h λhK H k x y d e Q l m i2 q=>by
  obtain⟨i,rfl,q⟩:=bq.mp q;obtain⟨j,rfl,q⟩:=bq.mp q;simp only[Is]at m i2;exact⟨i,j,m,i2,q.1,q.2 _ H .refl (by simp only[Is])⟩
theorem qS{f:Mv->Mv->U5 Mv}{g:Int->Int->Bool}(h:jG X f (BP λi j=>.bl (g i j))):eN X F f (Jf λi j=>.bl (g i j)):=.of h λhK H k x y d e Q l m i2 q=>by
  obtain⟨i,rfl,q⟩:=bq.mp q;obtain⟨j,rfl,q⟩:=bq.mp q;simp only[Is]at m i2;exact⟨i,j,m,i2,q _ H .refl (by simp only[Is])⟩
theorem Dn:eN X F (PC .Mult) (mI zC λi j=>.int (i*j)):=wD fL
theorem z0:eN X F (PC .FloorDiv) (mI F2 λi j=>.int (i/j)):=wD jk
theorem Dp:eN X F (PC .Mod) (mI (λ_ j=>0<j) λi j=>.int (i%j)):=wD du
theorem Gy:eN X F (NI .LtE) (Jf λi j=>.bl (decide (i<=j))):=qS F4
theorem Gz:eN X F (NI .Gt) (Jf λi j=>.bl (decide (j<i))):=qS vV
theorem GA:eN X F (NI .GtE) (Jf λi j=>.bl (decide (j<=i))):=qS BQ
noncomputable def gz:D->Bool
 |.aJ=>Mz|_=>My
theorem oH{B:Fb}{H:Hp}{v:V}{d:D}(h:Is B H v d):decide (v=.aJ)=gz d:=by cases d with
 |aJ=>simp only[Is]at h;rw[h];rfl|bl b=>simp only[Is]at h;rw[h];rfl|int i=>simp only[Is]at h;rw[h];rfl|str x=>simp only[Is]at h;rw[h];rfl|tup j=>simp only[Is]at h;obtain⟨a,g,h,_⟩:=h;rw[h];rfl|lst j=>simp only[Is]at h;obtain⟨a,g,h,_⟩:=h;rw[h];rfl|bR ks j=>simp only[Is]at h;obtain⟨a,g,h,_⟩:=h;rw[h];rfl|set ks=>simp only[Is]at h;obtain⟨a,h,_⟩:=h;rw[h];rfl|exc c j=>simp only[Is]at h;obtain⟨a,g,h,_⟩:=h;rw[h];rfl|fn f=>simp only[Is]at h;rw[h];rfl
noncomputable def GB(neg:Bool):D->D->M D:=λd e=>do
 M.need (gz e=Mz)pure (.bl (if neg then !gz d else gz d))
theorem oJ{B:Fb}{H:Hp}{v:V}{e:D}(h:gz e=Mz)(i:Is B H v e):v=.aJ:=by cases e<;>first|(simp only[Is]at i;exact i)|cases h
theorem Dq:eN X F (NI .Is) (GB My):=.of CU λhK H k x y d e Q l f i2 q=>⟨oJ q.1 i2,by rw[oH f];exact q.2 _ H .refl (by simp only[Is];rfl)⟩
theorem z9:eN X F (NI .IsNot) (GB Mz):=.of zD λhK H k x y d e Q l f i2 q=>⟨oJ q.1 i2,by rw[oH f];exact q.2 _ H .refl (by simp only[Is];rfl)⟩
noncomputable def J8(ta tb:ag->M D)(d:ag):M D:=do
 let b<-eK (<-ta d)if b then tb d else pure (.bl My)
noncomputable def LS(ta tb:ag->M D)(d:ag):M D:=do
 let b<-eK (<-ta d)if b then pure (.bl Mz)else tb d
theorem Dr{op}(h:DE X F a ta):DE X F (.BoolOp op [a] pos) ta:=⟨h.hK,CG h.pe⟩
theorem Ds(j:DE X F a ta)(n:DE X F (.BoolOp .And (b::rest) pos) tb):DE X F (.BoolOp .And (a::b::rest) pos) (J8 ta tb):=⟨j.hK,(CH j.pe n.pe).imp λq H Q g=>by
  obtain⟨l,k,S,h⟩:=g;refine bK.next S h λd m v p e1 o i f=>?_;obtain⟨c,rfl,f⟩:=cZ.mp f;simp only[Is]at i;refine⟨c,i,?_⟩;cases c with
  |true=>exact⟨l,m,o,M.wk f λ_ _ z=>z.ext e1⟩|false=>exact f _ p e1 (by simp only[Is])⟩
theorem GC(j:DE X F a ta)(n:DE X F (.BoolOp .Or (b::rest) pos) tb):DE X F (.BoolOp .Or (a::b::rest) pos) (LS ta tb):=⟨j.hK,(FT j.pe n.pe).imp λq H Q g=>by
  obtain⟨l,k,S,h⟩:=g;refine bK.next S h λd m v p e1 o i f=>?_;obtain⟨c,rfl,f⟩:=cZ.mp f;simp only[Is]at i;refine⟨c,i,?_⟩;cases c with
  |false=>exact⟨l,m,o,M.wk f λ_ _ z=>z.ext e1⟩|true=>exact f _ p e1 (by simp only[Is])⟩
theorem Dt(l:DE X F a ta):DE X F (.UnaryOp .Not a pos) (λi=>do let b<-eK (<-ta i);pure (.bl (!b))):=⟨l.hK,(CI l.pe).imp λn H Q f=>by
  obtain⟨i,k,S,h⟩:=f;refine bK.next S h λd o v m e1 p j g=>?_;obtain⟨c,rfl,g⟩:=cZ.mp g;simp only[Is]at j;exact⟨c,j,g _ m e1 (by simp only[Is])⟩⟩
structure vE(X:Cx)(F:Fx)(e:MV)(t:ag->M Bool):Prop where
 hK:X.K=F.K
 pw:PW X e (fO F t)
theorem vE.dt{t:ag->M Bool}(h:vE X F e t):DT X F e t:=⟨h.hK,h.pw.pt⟩
variable{tA tB:ag->M Bool}
noncomputable def J9(ta tb:ag->M Bool)(d:ag):M Bool:=do
 let b<-ta d;if b then tb d else pure My
noncomputable def LU(ta tb:ag->M Bool)(d:ag):M Bool:=do
 let b<-ta d;if b then pure Mz else tb d
theorem z_(d:DT X F a tA):vE X F (.BoolOp .And [a] pos) tA:=⟨d.hK,sD d.pt⟩
theorem Du(d:DT X F a tA):vE X F (.BoolOp .Or [a] pos) tA:=⟨d.hK,CD d.pt⟩
theorem Dv(f:DT X F a tA)(l:vE X F (.BoolOp .And (b::rest) pos) tB):vE X F (.BoolOp .And (a::b::rest) pos) (J9 tA tB):=⟨f.hK,(vO f.pt l.pw).imp λo H Q d=>by
  obtain⟨i,k,S,h⟩:=d;refine fO.next S h λc j n e1 m g=>?_;cases c with
  |true=>exact⟨i,j,m,M.wk g λ_ _ z=>z.ext e1⟩|false=>exact g n e1⟩
theorem GD(f:DT X F a tA)(l:vE X F (.BoolOp .Or (b::rest) pos) tB):vE X F (.BoolOp .Or (a::b::rest) pos) (LU tA tB):=⟨f.hK,(FP f.pt l.pw).imp λo H Q d=>by
  obtain⟨i,k,S,h⟩:=d;refine fO.next S h λc j n e1 m g=>?_;cases c with
  |false=>exact⟨i,j,m,M.wk g λ_ _ z=>z.ext e1⟩|true=>exact g n e1⟩
theorem Dw(g:DT X F a tA):DT X F (.UnaryOp .Not a pos) (λf=>do let b<-tA f;pure (!b)):=⟨g.hK,(CF g.pt).imp λl H Q d=>by
  obtain⟨f,k,S,h⟩:=d;refine fO.next S h λc m j e1 n i=>?_;exact i j e1⟩
noncomputable def LV(t:ag->M Bool)(ta tb:ag->M D)(d:ag):M D:=do
 let b<-t d;if b then ta d else tb d
theorem GF(n:DT X F c tA)(j:DE X F a ta)(o:DE X F b tb):DE X F (.IfExp c a b pos) (LV tA ta tb):=⟨j.hK,(vP n.pt j.pe o.pe).imp λp H Q f=>by
  obtain⟨g,k,S,h⟩:=f;refine fO.next S h λd i q e1 m l=>?_;cases d with
  |true=>exact⟨g,i,m,M.wk l λ_ _ z=>z.ext e1⟩|false=>exact⟨g,i,m,M.wk l λ_ _ z=>z.ext e1⟩⟩
variable{tas:ag->M (List A)}
theorem Dx(hK:X.K=F.K:=by rfl):DA X F [] (λ_=>pure []):=⟨hK,cR.imp λd H Q⟨f,k,S,h⟩=>h [] H .refl .nil⟩
theorem Aa(i:DE X F e ta)(o:DA X F es tas)(n:MS (e::es) X.env=(My,N2 e X.env)::MS es X.env:=by rfl):DA X F (e::es) (λf=>do let d<-ta f;let r<-tas f;pure (.d d::r)):=⟨i.hK,(a_ i.pe o.pa n).imp λt H Q g=>by
  obtain⟨f,k,S,h⟩:=g;refine bK.next S h λd w v z e1 s m q=>?_;refine mU.next s q λx l u j e2 y i2 p=>?_;exact p _ j (e1.trans e2) (.cons (show Fz F.toFb j l v (.d d)from m.mono e2.kp) i2)⟩
theorem Ab(i:Nat){x:M3}{pos:Od}(j:DA X F es tas)(hN:X.N[i]?=Mt x:=by rfl)(o:n6 X.env.scope x:=by first|exact RQ rfl|exact SK (RQ rfl)|exact SK (SK rfl))(hd:(x==("__debug__":M3))=My:=by decide)(g:(x==("__classdict__":M3))=My:=by decide)(p:MS (.Name x pos::es) X.env=(My,N2 (.Name x pos) X.env)::MS es X.env:=by rfl):DA X F (.Name x pos::es) (λd=>do M.need (d[i]?=Mt (Mt .feed));let r<-tas d;pure (.feed::r)):=⟨j.hK,(a_ (cv hN o hd g) j.pa p).imp λt H Q f=>by
  obtain⟨d,k,S,h⟩:=f;obtain⟨v,q,l⟩:=S.at_ i _ h.1;refine⟨v,q,?_⟩;refine mU.next S h.2 λw n u m e2 y i2 s=>?_;exact s _ m e2 (.cons (show Fz F.toFb m n v .feed from⟨l.1,e2.feed l.2⟩) i2)⟩
noncomputable def dB:List A->M (List D)
 |[]=>pure []|.d x::r=>do let f<-dB r;pure (x::f)|.feed::_=>M.fail
theorem bh:∀{as:List A}{k Q E},(dB as).run k Q E->∃ds,as=ds.map A.d/\Q ds k
 |[],_,_,_,h=>⟨[],rfl,h⟩|.d x::r,k,Q,E,h=>by
  obtain⟨ds,e,q⟩:=bh (as:=r) h;exact⟨x::ds,by rw[e];rfl,q⟩|.feed::_,_,_,_,h=>h.elim
theorem bj{B:Fb}{H:Hp}{k:Nat}:∀{vs:List V}{ds:List D},uy B H k vs (ds.map A.d)->af B H vs ds
 |_,[],h=>by cases h;exact .nil|_,d::ds,h=>by cases h with|cons r t=>exact .cons r (bj t)
theorem Dy{x1}(h:DA X F es tas):DE X F (.Tuple es x1 pos) (λi=>do let ds<-dB (<-tas i);M.need (ds.length<=MP);pure (.tup ds)):=⟨h.hK,(CY h.pa).imp λp H Q f=>by
  obtain⟨i,k,S,h⟩:=f;refine mU.next S h λas m l q e1 o d n=>?_;obtain⟨ds,rfl,j⟩:=bh n;have d:=bj d;refine⟨by rw[d.length];exact j.1,λt g=>j.2 _ _ (e1.trans (.new g)) ?_⟩;simp only[Is];exact⟨t,l,rfl,⟨bY o.live g,.of ah⟩,d.mono (Ext.new (k:=m) g).kp⟩⟩
end
end L2
end
section
namespace L2
open PySem PySem.Spec PySem.W PyProof.Rows SortM
section
variable{X:Cx}{pins:List (MD×NF)}{σ:St}{H:Hp}{s:Mx}
theorem jU:∀{a:List (Key×V)}{vs:List (Key×Mv)}{es:List Q8}{prog:MX}{w:M_},KV a vs->Pairs (ao prog w) es vs->ak (a.map λc=>kV c.1) (es.map (·.key))
 |_,_,_,_,_,.nil,.nil=>.nil|_,_,_,_,_,.cons ⟨e,_⟩ t,.cons h _ r=>by
  refine .cons ?_ (jU t r);dsimp only;rw[e];obtain⟨i,b,e1,e2⟩|⟨x,b,e1,e2⟩:=aN h;.rw[e1,e2];exact⟨b,rfl⟩
  .rw[e1,e2];exact⟨b,rfl⟩
theorem Inv.freeze{a:MD}{o:NF}{u:HO}(I:Inv X pins σ H s)(hu:H a=Mt u)(m:s.heap.get? a=Mt o)(nt:∀xs,u≠.tup xs)(i:∀b v,u≠.bo b v)(j:∀ps,u≠.t9 ps)(no:∀x,u≠.own x):Inv X pins σ (upd H a (.bo o u)) s:=by
 have ne:∀{b:MD},H b=MA->b≠a:=λ{b}n z=>by rw[z,hu]at n;cases n
 have f:∀b xs,H b=Mt (.tup xs)->(upd H a (.bo o u)) b=Mt (.tup xs):=λb xs e=>by rw[ai (λz=>by rw[z,hu]at e;cases e;exact nt _ rfl)];exact e
 have g:∀b x,H b=Mt (.own x)->(upd H a (.bo o u)) b=Mt (.own x):=λb x e=>by rw[ai (λz=>by rw[z,hu]at e;cases e;exact no _ rfl)];exact e
 refine⟨I.ok,I.os,I.bare,⟨I.base.keep,I.base.slot,λb ob e n k=>?_,I.base.there,λb xs e=>f b xs (I.base.fx b xs e),λb ob v e=>?_,λb ps e=>?_⟩,I.loc,I.cell,?_,λx c e=>?_,λp l=>?_,λb v e=>?_,I.len⟩
 .have:=I.base.free b ob e n k;rw[ai (ne this)];exact this
 .have q:=I.base.eB b ob v e;rw[ai (λz=>by rw[z,hu]at q;cases q;exact i _ _ rfl)];exact q
 .obtain⟨d,q⟩:=I.base.fy b ps e;exact⟨d,by rw[ai (λz=>by rw[z,hu]at q;cases q;exact j _ rfl)];exact q⟩
 .rw[ai (ne I.free)];exact I.free
 .rw[ai (ne (I.bS x c e))];exact I.bS x c e
 .obtain⟨e,n,r⟩:=I.pin p l;exact⟨e,by rw[ai (ne n)];exact n,r⟩
 .by_cases h:b=a
  .subst h;rw[ah]at e;cases e;exact⟨m,(I.ay b u hu).fw (λ_ _ _ q=>q) (λc q=>g c _ q) f⟩
  .rw[ai h]at e;exact(I.ay b v e).fw (λ_ _ _ q=>q) (λc q=>g c _ q) f
end
section
variable{X:Cx}{F:Fx}{a b c e:MV}{es rest:List MV}{pos:Od}{ta tb tc:ag->M D}{tas:ag->M (List A)}
theorem qU{t:TE}(h:PE X e t):PE X e (λσ H Q=>t σ H λv g=>∃a xs,v=.ref a/\g a=Mt (.lst xs)/\∀o,Q v (upd g a (.bo o (.lst xs)))):=by
 intro d s σ H Q I q;refine aU (h d s σ H _ I q) λu s1 f=>?_;obtain⟨v,g,j,r,a,xs,e,i,k⟩:=f;obtain⟨_,l,n,p,m⟩:=j.ay a _ i;exact⟨v,_,j.freeze i m (λ_ z=>nomatch z) (λ_ _ z=>nomatch z) (λ_ z=>nomatch z) (λ_ z=>nomatch z),r,k _⟩
theorem cf.bo{f:Mv}{r:List V->Hp->VK->Prop}(h:cf X f r):cf X f (λvs H Q=>r vs H λv i=>∃a xs,v=.ref a/\i a=Mt (.lst xs)/\∀o,Q v (upd i a (.bo o (.lst xs)))):=by
 intro d s m H xs p Q I j q;refine aU (h d s m H xs p _ I j q) λu s1 g=>?_;obtain⟨v,i,l,r,a,xs,e,k,t⟩:=g;obtain⟨_,w,n,j,x⟩:=l.ay a _ k;exact⟨v,_,l.freeze k x (λ_ z=>nomatch z) (λ_ _ z=>nomatch z) (λ_ z=>nomatch z) (λ_ z=>nomatch z),r,t _⟩
theorem aR{B:Fb}{H:Hp}{k:Nat}{l:MD}{vs:List V}{ds:List D}{o:NF}(f:H B.p≠MA)(d:H l=MA)(i:af B H vs ds):Is B (upd H l (.bo o (.lst vs))) (.ref l) (.lst ds):=by
 simp only[Is];exact⟨l,vs,rfl,⟨bY f d,⟨o,ah⟩⟩,i.mono (Ext.new (k:=k) d).kp⟩
theorem bZ{B:Fb}{H:Hp}{k:Nat}{l:MD}{vs:List V}{ds:List D}(f:H B.p≠MA)(d:H l=MA)(i:af B H vs ds):Is B (upd H l (.tup vs)) (.ref l) (.tup ds):=by
 simp only[Is];exact⟨l,vs,rfl,⟨bY f d,.of ah⟩,i.mono (Ext.new (k:=k) d).kp⟩
theorem Dz(h:DA X F es tas):DE X F (.List es pos) (λg=>do let ds<-dB (<-tas g);M.need (ds.length<=MP);pure (.lst ds)):=⟨h.hK,(qU (qC h.pa)).imp λq H Q f=>by
  obtain⟨g,k,S,h⟩:=f;refine mU.next S h λas m l r e1 p d n=>?_;obtain⟨ds,rfl,j⟩:=bh n;have d:=bj d;refine⟨by rw[d.length];exact j.1,λt i=>⟨t,l,rfl,ah,λo=>?_⟩⟩;rw[aT];exact j.2 _ _ (e1.trans (.new i)) (aR (k:=m) p.live i d)⟩
noncomputable def items:D->Option (List D)
 |.tup d=>Mt d|.lst d=>Mt d|_=>MA
theorem DB{B:Fb}{H:Hp}{v:V}{d:D}{ds:List D}(h:Is B H v d)(e:items d=Mt ds):∃a vs,v=.ref a/\(cP B.K H a vs\/iE B.K H a vs)/\af B H vs ds:=by
 cases d<;>first|cases e|skip
 .simp only[Is]at h;obtain⟨a,vs,i,g,f⟩:=h;exact⟨a,vs,i,.inr g.2,f⟩
 .simp only[Is]at h;obtain⟨a,vs,i,g,f⟩:=h;exact⟨a,vs,i,.inl g.2.sq,f⟩
theorem wF{B:Fb}{H:Hp}{vs:List V}{ds:List D}{i:Int}{d:D}(h:af B H vs ds)(e:lQ ds i=Mt d):∃v,lQ vs i=Mt v/\Is B H v d:=by
 unfold lQ at e⊢;rw[h.length];cases q:BS ds.length i with
 |none=>rw[q]at e;cases e|some j=>
  rw[q]at e;exact h.get e
noncomputable def DC(x:M3)(i:Int):Option D:=(lQ x.cps.toList i).map λc=>.str ⟨#[c]⟩
noncomputable def Ls:D->D->M D:=λd e=>do
 let i<-d7 e;match d with
 |.tup f=>M.get (lQ f i)|.lst f=>M.get (lQ f i)|.str x=>do M.need (x.length<=MP);M.get (DC x i)|_=>M.fail
structure Jg(X:Cx)(F:Fx)(m:D->D->M D):Prop where ix:X.K=F.K->zd X (Gu F m)
theorem Ac:Jg X F Ls:=⟨λhK g j n s B H x y v u Q I G E h K=>by
 refine C4 g j n s B H x y v u Q I G E ?_ K;obtain⟨k,d,e,l,m,i2,q⟩:=h;obtain⟨i,rfl,q⟩:=bq.mp q;simp only[Is]at i2;cases d with
 |tup C=>
  obtain⟨z,f,o⟩:=M.run_get.mp q;simp only[Is]at m;obtain⟨a,p,e1,e2,e3⟩:=m;obtain⟨w,t,r⟩:=wF e3 f;exact .inr (.inl ⟨a,p,i,w,e1,i2,by rw[hK];exact e2.2,t,o w H .refl r⟩)|lst C=>
  obtain⟨z,f,o⟩:=M.run_get.mp q;simp only[Is]at m;obtain⟨a,p,e1,e2,e3⟩:=m;obtain⟨w,t,r⟩:=wF e3 f;exact .inl ⟨a,p,i,w,e1,i2,by rw[hK];exact e2.2.sq,t,o w H .refl r⟩|str x=>
  obtain⟨J,q⟩:=q;obtain⟨z,f,o⟩:=M.run_get.mp q;simp only[Is]at m;unfold DC at f;cases q:lQ x.cps.toList i with
  |none=>rw[q]at f;cases f|some c=>
   rw[q]at f;cases f;exact .inr (.inr ⟨x,i,c,m,i2,J,q,o _ H .refl (by simp only[Is])⟩)
 |_=>exact q.elim⟩
theorem GG{m:D->D->M D}(j:Jg X F m)(f:DE X F a ta)(k:DE X F b tb)(i:mK b:=by intro _ _;rfl):DE X F (.Subscript a b pos) (λg=>do let d<-ta g;let e<-tb g;m d e):=⟨f.hK,(fE (j.ix f.hK) f.pe k.pe i).imp λl H Q h=>sY h⟩
structure aY(X:Cx)(F:Fx)(f:Mv)(m:List D->M D):Prop where
 call:∀(pins:List (MD×NF))(s:Mx)(σ:St)(H:Hp)(k:Nat)(xs:List V)(us:List Mv)(ds:List D)(Q:VK),Inv X pins σ H s->ak xs us->H F.p≠MA->X.K=F.K->af F.toFb H xs ds->(m ds).run k (qE F.toFb H k Q) F.E->wpAny (MO X.prog X.w) X.A (QV f us) (EP X pins σ Q) X.xe s
noncomputable def BU(F:Fx)(m:List D->M D):List V->Hp->VK->Prop:=λf H Q=>∃k d,H F.p≠MA/\af F.toFb H f d/\(m d).run k (qE F.toFb H k Q) F.E
theorem aY.BV{f:Mv}{m:List D->M D}(h:aY X F f m)(hK:X.K=F.K):cf X f (BU F m):=λd s g H j n Q I r⟨k,o,l,i,q⟩=>h.call d s g H k j n o Q I r l hK i q
theorem aY.of{f:Mv}{m:List D->M D}{r:List V->Hp->VK->Prop}(h:cf X f r)(q:X.K=F.K->∀H k xs ds Q,H F.p≠MA->af F.toFb H xs ds->(m ds).run k (qE F.toFb H k Q) F.E->r xs H Q):aY X F f m:=⟨λd s g H k xs j ds Q I n l hK i z=>h d s g H xs j Q I n (q hK H k xs ds Q l i z)⟩
theorem sZ{m:List D->M D}{σ:St}{H:Hp}{Q:VK}(h:bK F (λd=>do m (<-dB (<-tas d))) σ H Q):Je (BU F m) (mU F tas) σ H Q:=by
 obtain⟨d,k,S,h⟩:=h;refine mU.next S h λas f o p e1 n g j=>?_;obtain⟨l,rfl,i⟩:=bh j;exact⟨f,l,n.live,bj g,M.wk i λ_ _ z=>z.ext e1⟩
theorem wG{id:String}{x:M3}{m:List D->M D}{p:Od}(q:aY X F (.builtin id) m)(l:X.mg x=MA)(j:OB x=Mt (.builtin id))(g:DA X F (e::es) tas)(n:Gl X x:=by rfl)(k:x≠"__name__":=by decide)(f:(x==("__debug__":M3))=My:=by decide)(o:MS (e::es) X.env=(My,N2 e X.env)::MS es X.env:=by rfl)(d:(Og pos (MS es X.env)).any (·.1)=My:=by rfl):DE X F (.Call (.Name x p) (e::es) [] pos) (λi=>do m (<-dB (<-tas i))):=⟨g.hK,(dy (q.BV g.hK) n l j g.pa k f o d).imp λr H Q h=>sZ h⟩
theorem uB{T:String}{x:M3}{m:List D->M D}{p:Od}(q:aY X F (.type T) m)(l:X.mg x=MA)(j:OB x=Mt (.type T))(g:DA X F (e::es) tas)(n:Gl X x:=by rfl)(k:x≠"__name__":=by decide)(f:(x==("__debug__":M3))=My:=by decide)(o:MS (e::es) X.env=(My,N2 e X.env)::MS es X.env:=by rfl)(d:(Og pos (MS es X.env)).any (·.1)=My:=by rfl):DE X F (.Call (.Name x p) (e::es) [] pos) (λi=>do m (<-dB (<-tas i))):=⟨g.hK,(lP (q.BV g.hK) n l j g.pa k f o d).imp λr H Q h=>sZ h⟩
noncomputable def one(f:D->M D):List D->M D
 |[d]=>f d|_=>M.fail
theorem cF{f:D->M D}{ds:List D}{k Q E}(h:(one f ds).run k Q E):∃d,ds=[d]/\(f d).run k Q E:=by match ds,h with|[d],h=>exact⟨d,rfl,h⟩
theorem af.one{B:Fb}{H:Hp}{vs:List V}{d:D}(h:af B H vs [d]):∃v,vs=[v]/\Is B H v d:=by
 simp only[af]at h;obtain⟨x,g,rfl,f,rfl⟩:=h;exact⟨x,rfl,f⟩
theorem af.two{B:Fb}{H:Hp}{vs:List V}{d e:D}(h:af B H vs [d,e]):∃v u,vs=[v,u]/\Is B H v d/\Is B H u e:=by
 simp only[af]at h;obtain⟨x,j,rfl,g,y,i,rfl,f,rfl⟩:=h;exact⟨x,y,rfl,g,f⟩
noncomputable def J_(d:D):M D:=match d with
 |.tup f=>pure (.int f.length)|.lst f=>pure (.int f.length)|.str x=>do M.need (x.length<=MP);pure (.int x.length)|_=>M.fail
theorem qV:aY X F (.builtin "len") (one J_):=.of vZ λhK H k j o Q l n m=>by
 obtain⟨d,rfl,q⟩:=cF m;obtain⟨v,rfl,i⟩:=n.one;cases d with
 |tup j=>
  simp only[Is]at i;obtain⟨a,f,rfl,h,g⟩:=i;exact⟨_,f.length,rfl,.inr ⟨f,by rw[hK];exact h.2,rfl⟩,q _ H .refl (by simp only[Is];rw[g.length])⟩|lst j=>
  simp only[Is]at i;obtain⟨a,f,rfl,h,g⟩:=i;exact⟨_,f.length,rfl,.inl ⟨f,by rw[hK];exact h.2.sq,rfl⟩,q _ H .refl (by simp only[Is];rw[g.length])⟩|str x=>
  simp only[Is]at i;subst i;exact⟨_,x.length,rfl,⟨q.1,rfl⟩,q.2 _ H .refl (by simp only[Is])⟩|_=>exact q.elim
theorem wH:aY X F (.type "tuple") (one λd=>do pure (.tup (<-M.get (items d)))):=.of k_ λhK H k p o Q l n m=>by
 obtain⟨d,rfl,q⟩:=cF m;obtain⟨v,rfl,i⟩:=n.one;obtain⟨o,e,q⟩:=M.run_get.mp q;cases d<;>first|cases e|skip
 .simp only[Is]at i;obtain⟨a,f,rfl,g,h⟩:=i;exact⟨a,f,rfl,.inr ⟨by rw[hK];exact g.2,q _ H .refl (by simp only[Is];exact⟨a,f,rfl,g,h⟩)⟩⟩
 .simp only[Is]at i;obtain⟨a,f,rfl,g,h⟩:=i;exact⟨a,f,rfl,.inl ⟨by rw[hK];exact g.2.sq,λt j=>q _ _ (.new j) (bZ (k:=k) l j h)⟩⟩
theorem Ad:aY X F (.type "list") (one λd=>do pure (.lst (<-M.get (items d)))):=.of gq.bo λhK H k r p Q l j h=>by
 obtain⟨d,rfl,q⟩:=cF h;obtain⟨v,rfl,i⟩:=j.one;obtain⟨p,e,q⟩:=M.run_get.mp q;obtain⟨a,f,rfl,n,m⟩:=DB i e;refine⟨a,f,rfl,by rw[hK];exact n,λt g=>⟨t,f,rfl,ah,λo=>?_⟩⟩;rw[aT];exact q _ _ (.new g) (aR (k:=k) l g m)
theorem fP:∀{bs:List Bool}{us:List Mv},ak (bs.map V.bl) us->LSm.BoolsAre us bs
 |[],_,.nil=>.nil|b::bs,_,.cons r t=>by
  cases r;exact .cons _ (fP t)
theorem wI(x:X.calm=Mz):cf X (.builtin "all") (λxs H Q=>∃(a:MD)(bs:List Bool),xs=[.ref a]/\cP X.K H a (bs.map V.bl)/\Q (.bl (bs.all id)) H):=by
 intro j s y H xs z Q I r h;obtain⟨a,bs,rfl,p,q⟩:=h;obtain⟨u,rfl,m⟩:=vals1 r;cases m;obtain⟨d,n,o,E⟩:=I.list p;have k:=fP n;have g:=o.isList;have f:a<s.heap.objs.size:=by obtain⟨_,e,_⟩:=g;exact MH e
 have w:=I.ok.hd x;refine call_all_walk (PZ g ?_);refine⟨s.heap.objs.size,[s.heap.objs.size,a],[s.heap.objs.size],d.toArray.size,_,_,λi=>(bs[i]?).getD Mz,rfl,Vs (A:=X.A.in1) w _ a (M4 f) d.toArray,⟨⟨_,MJ _ rfl,rfl,rfl⟩,g.push _⟩,λi v C J L hP l=>?_,λG B t=>?_⟩
 .obtain⟨b,e,rfl⟩:=k.get i v (by simpa using hP);simp only[e,Option.getD_some]at l;exact N_ l
 .have e:((N6 d.toArray.size).all λi=>(bs[i]?).getD Mz)=bs.all id:=by rw[MR,k.length];exact LSm.range_all bs
  rw[e];exact⟨.bl _,H,I.kept (LSm.kept_iter t),rfl,q⟩
theorem wJ(x:X.calm=Mz):cf X (.builtin "any") (λxs H Q=>∃(a:MD)(bs:List Bool),xs=[.ref a]/\cP X.K H a (bs.map V.bl)/\Q (.bl (bs.any id)) H):=by
 intro j s y H xs z Q I r h;obtain⟨a,bs,rfl,p,q⟩:=h;obtain⟨u,rfl,m⟩:=vals1 r;cases m;obtain⟨d,n,o,E⟩:=I.list p;have k:=fP n;have g:=o.isList;have f:a<s.heap.objs.size:=by obtain⟨_,e,_⟩:=g;exact MH e
 have w:=I.ok.hd x;refine call_any_walk (PZ g ?_);refine⟨s.heap.objs.size,[s.heap.objs.size,a],[s.heap.objs.size],d.toArray.size,_,_,λi=>(bs[i]?).getD My,rfl,Vs (A:=X.A.in1) w _ a (M4 f) d.toArray,⟨⟨_,MJ _ rfl,rfl,rfl⟩,g.push _⟩,λi v C J L hP l=>?_,λG B t=>?_⟩
 .obtain⟨b,e,rfl⟩:=k.get i v (by simpa using hP);simp only[e,Option.getD_some]at l;exact N_ l
 .have e:((N6 d.toArray.size).any λi=>(bs[i]?).getD My)=bs.any id:=by rw[MR,k.length];exact LSm.range_any bs
  rw[e];exact⟨.bl _,H,I.kept (LSm.kept_iter t),rfl,q⟩
noncomputable def bools:List D->Option (List Bool)
 |[]=>Mt []|.bl b::r=>(bools r).map (b::·)|_=>MA
theorem jV{B:Fb}{H:Hp}:∀{ds:List D}{vs:List V}{bs:List Bool},af B H vs ds->bools ds=Mt bs->vs=bs.map V.bl
 |[],_,bs,h,e=>by simp only[af]at h;cases e;exact h|d::ds,vs,bs,h,e=>by
  simp only[af]at h;obtain⟨x,i,rfl,f,g⟩:=h;cases d with
  |bl b=>
   simp only[bools,RT]at e;obtain⟨cs,e1,rfl⟩:=e;simp only[Is]at f;rw[f,jV g e1];rfl|_=>cases e
noncomputable def Ka(d:D):M D:=match d with
 |.lst f=>do let bs<-M.get (bools f);pure (.bl (bs.all id))|_=>M.fail
noncomputable def Kb(d:D):M D:=match d with
 |.lst f=>do let bs<-M.get (bools f);pure (.bl (bs.any id))|_=>M.fail
theorem DD(m:X.calm=Mz):aY X F (.builtin "all") (one Ka):=.of (wI m) λhK H k f r Q l h g=>by
 obtain⟨d,rfl,q⟩:=cF g;obtain⟨v,rfl,i⟩:=h.one;cases d with
 |lst f=>
  obtain⟨bs,e,q⟩:=M.run_get.mp q;simp only[Is]at i;obtain⟨a,p,rfl,o,n⟩:=i;have j:=jV n e;subst j;exact⟨a,bs,rfl,by rw[hK];exact o.2.sq,q _ H .refl (by simp only[Is])⟩|_=>exact q.elim
theorem DF(m:X.calm=Mz):aY X F (.builtin "any") (one Kb):=.of (wJ m) λhK H k f r Q l h g=>by
 obtain⟨d,rfl,q⟩:=cF g;obtain⟨v,rfl,i⟩:=h.one;cases d with
 |lst f=>
  obtain⟨bs,e,q⟩:=M.run_get.mp q;simp only[Is]at i;obtain⟨a,p,rfl,o,n⟩:=i;have j:=jV n e;subst j;exact⟨a,bs,rfl,by rw[hK];exact o.2.sq,q _ H .refl (by simp only[Is])⟩|_=>exact q.elim
noncomputable def DH:D->Option String
 |.aJ=>Mt "NoneType"|.bl _=>Mt "bool"|.int _=>Mt "int"|.str _=>Mt "str"|.tup _=>Mt "tuple"|.lst _=>Mt "list"|.bR _ _=>MA|.set _=>MA|.exc _ _=>MA|.fn _=>MA
theorem wK{pins:List (MD×NF)}{σ:St}{H:Hp}{s:Mx}{Q:Mv->Mx->Prop}{E:Mv->Mx->Prop}{A:Nc}{d:D}{t:String}{c:Mv}{b:Bool}{v:V}{u:Mv}(I:Inv X pins σ H s)(r:RelV v u)(hK:X.K=F.K)(i:Is F.toFb H v d)(g:DH d=Mt t)(e:Oi X.K (.type t) c=Mt b)(h:∀x,Q (.bool b) {s with toks:=x}):wpAny (MO X.prog X.w) A (QV (.builtin "isinstance") [u,c]) Q E s:=by cases d with
 |aJ=>cases g;simp only[Is]at i;subst i;exact fi I r .aJ e h|bl y=>cases g;simp only[Is]at i;subst i;exact fi I r (.bl _) e h|int y=>cases g;simp only[Is]at i;subst i;exact fi I r (.int _) e h|str y=>cases g;simp only[Is]at i;subst i;exact fi I r (.str _) e h|tup q=>
  cases g;simp only[Is]at i;obtain⟨a,p,rfl,l,G⟩:=i;cases(show u=MW a from r);obtain⟨j,B,⟨o,m,k,_⟩,_⟩:=I.tuple (by rw[hK];exact l.2);exact NY Vm I.fB ⟨o,m,k⟩ e (λz=>nomatch z) h|lst q=>
  cases g;simp only[Is]at i;obtain⟨a,p,rfl,l,G⟩:=i;cases(show u=MW a from r);obtain⟨j,B,C,_⟩:=I.list (by rw[hK];exact l.2.sq);obtain⟨o,n,m,k,_⟩:=C;exact NY Tf I.fB ⟨o,m,k⟩ e (λz=>nomatch z) h|bR ks p=>cases g|set ks=>cases g|exc c J=>cases g|fn f=>cases g
end
noncomputable def eO(N:List M3)(as:List A):ag:=as.map (λa=>Mt a.w)++OQ (N.length-as.length) MA
noncomputable def GH(Q:D->Nat->Prop)(a:Fl)(k:Nat):Prop:=match a with
 |.rt d=>Q d k|.nx _=>Q .aJ k|_=>False
section
variable{P:MX}{w:M_}{K:ME}{mg:M3->Option Mv}{base:Na}
theorem Paired.DJ{b a:Type}{R:b->a->Prop}:∀{l:List b}{r:List a},Paired R l r->∀{i:Nat}{y:a},r[i]?=Mt y->∃x,l[i]?=Mt x/\R x y
 |_,_,.nil,i,y,e=>by simp at e|_,_,.cons h t,0,y,e=>by simp at e;subst e;exact⟨_,rfl,h⟩|_,_,.cons h t,i+1,y,e=>by simpa using Paired.DJ t (i:=i) (by simpa using e)
theorem uC{B:Fb}{H:Hp}{k:Nat}{E:Xc->Nat->Prop}{N:List M3}{vs:List V}{as:List A}(l:H B.p≠MA)(i:uy B H k vs as):bp ⟨B,H,k,E,H,k⟩ (eO N as) k (start N vs) H:=by
 have n:=Paired.length i;refine⟨by simp[eO,start,n],λj d e=>?_,λi j d e v m b g h o=>?_,l,.refl,.refl⟩
 .unfold eO at e;by_cases f:j<as.length
  .rw[Oe (by simpa using f),Nq]at e;cases c:as[j]? with
   |none=>rw[c]at e;cases e|some a=>
    rw[c]at e;cases e;obtain⟨v,b,g⟩:=Paired.DJ i c;refine⟨v,?_,Fz.w (F:=⟨B,H,k,E,H,k⟩) g⟩;unfold start;rw[Oe (by simp;omega),Nq,b];rfl
  .rw[Nt (by simpa using f),Pj]at e;split at e<;>cases e
 .exfalso;unfold eO at b;by_cases f:i<as.length
  .rw[Oe (by simpa using f),Nq]at b;cases c:as[i]? with
   |none=>rw[c]at b;cases b|some a=>
    rw[c]at b;cases b;cases a<;>cases h
  .rw[Nt (by simpa using f),Pj]at b;split at b<;>cases b
end
section
variable{F:Fx}{ρ:ag}{σ:St}{H H':Hp}{k k':Nat}
theorem bp.set{v:V}{d:D}(S:bp F ρ k σ H)(i:Nat)(h:Is F.toFb H v d):bp F (ρ.set i (Mt (.d d))) k (σ.set i (Mt v)) H where
 len:=by simp[S.len]
 at_:=λj x e=>by
  rw[Ou]at e⊢;by_cases l:i=j
  .subst l;rw[if_pos rfl]at e⊢;split at e
   .rename_i m;cases e;rw[if_pos (by rw[<-S.len];exact m)];exact⟨v,rfl,h⟩
   .cases e
  .rw[if_neg l]at e⊢;exact S.at_ j x e
 apart:=λg f x y u a e1 e2 c b s1=>by
  rw[Ou]at e1 e2 s1⊢;have n1:i≠g:=by
   rintro rfl;rw[if_pos rfl]at e1;split at e1;.cases e1;cases c
   .cases e1
  have n2:i≠f:=by
   rintro rfl;rw[if_pos rfl]at e2;split at e2;.cases e2;cases b
   .cases e2
  rw[if_neg n1]at e1 s1;rw[if_neg n2]at e2⊢;exact S.apart g f x y u a e1 e2 c b s1
 live:=S.live;ext:=S.ext;jn:=S.jn
end
noncomputable def qW(F:Fx)(t:D->ag->M ag):TG:=λv g H Q=>∃e k d,bp F e k g H/\Is F.toFb H v d/\(t d e).run k (λb f=>∀a c,Ext F.toFb H k c f->bp F b f a c->Q a c) F.E
noncomputable def Kc(F:Fx)(t:List D->ag->M ag):zy:=λh g H Q=>∃d k f,bp F d k g H/\af F.toFb H h f/\(t f d).run k (λb e=>∀a c,Ext F.toFb H k c e->bp F b e a c->Q a c) F.E
structure DG(X:Cx)(F:Fx)(tg:MV)(t:D->ag->M ag):Prop where
 hK:X.K=F.K
 pg:PG X tg (qW F t)
structure BW(X:Cx)(F:Fx)(tgs:List MV)(t:List D->ag->M ag):Prop where
 hK:X.K=F.K
 pg:BO X tgs (Kc F t)
section
variable{X:Cx}{F:Fx}{a b c e tg:MV}{es tgs:List MV}{pos:Od}{ta tb tc:ag->M D}{tas:ag->M (List A)}{g:D->ag->M ag}{gs:List D->ag->M ag}
theorem PG.imp{t t':TG}(h:PG X tg t)(q:∀v σ H Q,t' v σ H Q->t v σ H Q):PG X tg t':=λd s σ H v u Q I r z=>h d s σ H v u Q I r (q v σ H Q z)
theorem BO.imp{t t':zy}(h:BO X tgs t)(q:∀v σ H Q,t' v σ H Q->t v σ H Q):BO X tgs t':=λd s σ H v u Q I r z=>h d s σ H v u Q I r (q v σ H Q z)
noncomputable def gN(i:Nat)(d:D)(f:ag):M ag:=pure (f.set i (Mt (.d d)))
theorem Ae(i:Nat){x:M3}{pos:Od}(hN:X.N.Nodup)(l:X.N[i]?=Mt x:=by rfl)(j:Loc X.env.scope x:=by first|exact RQ rfl|exact SK rfl)(m:X.fn x=Mz\/X.env.scope.names.lookup x=Mt .local:=by first|exact RQ rfl|exact SK rfl)(hK:X.K=F.K:=by rfl):DG X F (.Name x pos) (gN i):=⟨hK,(sF (i:=i) hN l j m).imp λv n H Q⟨o,k,d,S,f,h⟩=>h _ H .refl (S.set i f)⟩
noncomputable def GI:List D->ag->M ag
 |[],d=>pure d|_::_,_=>M.fail
noncomputable def DK(g:D->ag->M ag)(gs:List D->ag->M ag):List D->ag->M ag
 |[],_=>M.fail|d::h,f=>do gs h (<-g d f)
theorem Af(hK:X.K=F.K:=by rfl):BW X F [] GI:=⟨hK,zz.imp λv l H Q f=>by
 obtain⟨m,k,j,S,i,h⟩:=f;cases j with
 |nil=>simp only[af]at i;exact⟨i,h l H .refl S⟩|cons d j=>exact h.elim⟩
theorem wL(m:DG X F e g)(w:BW X F es gs)(u:(OP (e::es) X.env).map (·.2)=Ra e X.env::(OP es X.env).map (·.2):=by rfl):BW X F (e::es) (DK g gs):=by
 refine⟨m.hK,(vR m.pg w.pg u).imp λv E H Q⟨p,k,l,S,i,h⟩=>?_⟩;cases l with
 |nil=>exact h.elim|cons d l=>
  simp only[af]at i;obtain⟨x,r,rfl,t,i2⟩:=i;refine⟨x,r,rfl,p,k,d,S,t,M.wk h λj s q n I e1 B=>?_⟩;exact⟨j,s,l,B,i2.mono e1.kp,M.wk q λo G z f C e2 y=>z f C (e1.trans e2) y⟩
noncomputable def gT(n:Nat)(gs:List D->ag->M ag):D->ag->M ag
 |.tup d,f=>do M.need (d.length=n);gs d f|_,_=>M.fail
theorem DL{n:Nat}{j:Nat}(s:X.calm=Mz)(h:BW X F es gs)(r:(OP es X.env).length=n:=by rfl)(l:(OP es X.env).findIdx? (·.1)=MA:=by rfl):DG X F (.Tuple es j pos) (gT n gs):=⟨h.hK,(CK s h.pg r l).imp λv w H Q f=>by
  obtain⟨p,k,d,S,i,m⟩:=f;cases d with
  |tup u=>
   simp only[Is]at i;obtain⟨a,q,rfl,t,o⟩:=i;exact⟨a,q,rfl,by rw[h.hK];exact t.2,by rw[o.length];exact m.1,p,k,u,S,o,m.2⟩|_=>exact m.elim⟩
theorem DM(n:DE X F e ta)(t:DG X F tg g)(s:Vd [tg] e pos.line X.env=pure My:=by rfl)(hw:Qu [tg] e X.env=pure MA:=by rfl)(m:(OP [tg] X.env).map (·.2)=[Ra tg X.env]:=by rfl):DS X F (.Assign [tg] e pos) (λf=>do let d<-ta f;let j<-g d f;pure (.nx j)):=⟨n.hK,(mG n.pe t.pg s hw m).imp λZ y H l=>by
  obtain⟨f,k,S,h⟩:=l;refine bK.next S h λd p v B e1 w r m=>?_;exact⟨f,p,d,w,r,M.wk m λo z q i x e2 u=>q i x (e1.trans e2).kp u⟩⟩
theorem wM(i:Nat){x:M3}{f:Od}(hN:X.N.Nodup)(m:DE X F e ta)(q:X.N[i]?=Mt x:=by rfl)(o:Loc X.env.scope x:=by first|exact RQ rfl|exact SK rfl)(p:O4 e (Mt (.Name x f)) pos.line X.env=pure My:=by rfl)(r:X.fn x=Mz\/X.env.scope.names.lookup x=Mt .local:=by first|exact .inl rfl|exact .inr rfl):DS X F (.Assign [.Name x f] e pos) (λj=>do let d<-ta j;pure (.nx (j.set i (Mt (.d d))))):=⟨m.hK,(bX (i:=i) hN q o m.pe p r).imp λZ w H l=>by
  obtain⟨j,k,S,h⟩:=l;refine bK.next S h λd y v u e1 t n s=>?_;exact s _ u e1.kp (t.set i n)⟩
theorem Ag(j:DE X F e ta)(m:O4 e MA pos.line X.env=pure My:=by rfl):DS X F (.Expr e pos) (λf=>do let _<-ta f;pure (.nx f)):=⟨j.hK,(mF j.pe m).imp λZ l H i=>by
  obtain⟨f,k,S,h⟩:=i;refine bK.next S h λd q v p e1 o r n=>?_;exact n l p e1.kp o⟩
theorem DN(j:DE X F e ta):DS X F (.Return (Mt e) pos) (λi=>do let d<-ta i;pure (.rt d)):=⟨j.hK,(jF j.pe).imp λZ p H f=>by
  obtain⟨i,k,S,h⟩:=f;refine bK.next S h λd q v o e1 n l m=>?_;exact m v o n.ext l⟩
variable{st:OM}{sts sts':List OM}{t u:ag->M Fl}{tA:ag->M Bool}
noncomputable def Kd(t u:ag->M Fl)(f:ag):M Fl:=do match<-t f with
 |.nx d=>u d|h=>pure h
theorem Ah(hK:X.K=F.K:=by rfl):uA X F [] (λd=>pure (.nx d)):=⟨hK,jj.imp λZ f H⟨d,k,S,h⟩=>h f H .refl S⟩
theorem wN(j:DS X F st t)(o:uA X F sts u):uA X F (st::sts) (Kd t u):=⟨j.hK,(bb j.ps o.ps).imp λZ v H i=>by
  obtain⟨m,k,S,h⟩:=i;refine⟨m,k,S,M.wk h λr n q=>?_⟩;cases r with
  |nx f=>exactλl x e1 s=>⟨f,n,s,M.wk q λp w z=>z.mono e1⟩|rt d=>exact q|bk f=>exact q|ct f=>exact q⟩
theorem GJ{m:MV}(j:DT X F m tA)(q:uA X F sts t)(p:uA X F sts' u):DS X F (.If m sts sts' pos) (λd=>do let b<-tA d;if b then t d else u d):=⟨j.hK,(sE j.pt q.ps p.ps).imp λZ s H f=>by
  obtain⟨d,k,S,h⟩:=f;refine fO.next S h λb i v e1 n l=>?_;cases b with
  |true=>exact⟨d,i,n,M.wk l λr o z=>z.mono e1.kp⟩|false=>exact⟨d,i,n,M.wk l λr o z=>z.mono e1.kp⟩⟩
structure jW(F:Fb)(J:It)(ds:List D)(H0:Hp)(k0:Nat):Prop where
 step:∀(i:Nat)(d:D)(H:Hp)(k:Nat),ds[i]?=Mt d->Kp F H0 k0 H k->H F.p≠MA->J.go i H/\∀x H',J.Jc i H x H'->Ext F H k H' k/\Is F H' x d
 stop:∀(H:Hp)(k:Nat),Kp F H0 k0 H k->H F.p≠MA->J.stop ds.length H
 len:ds.length<=MP
noncomputable def zf(F:Fx)(t:ag->M (List D)):TI:=λi H R=>∃f k,bp F f k i H/\(t f).run k (λj h=>∀J d,Ext F.toFb H k d h->jW F.toFb J j d h->R J d) F.E
structure DI(X:Cx)(F:Fx)(tg iter:MV)(t:ag->M (List D)):Prop where
 hK:X.K=F.K
 pi:PI X tg iter (zf F t)
noncomputable def uD(g:D->ag->M ag)(body:ag->M Fl):List D->ag->M Fl
 |[],i=>pure (.nx i)|d::j,i=>do
  let h<-g d i;match<-body h with
  |.nx f=>uD g body j f|.ct f=>uD g body j f|.bk f=>pure (.nx f)|.rt r=>pure (.rt r)
theorem fk{d:Type}{l:List d}{i:Nat}(h:i<l.length):∃x,l[i]?=Mt x/\l.drop i=x::l.drop (i+1):=⟨l[i],MZ h,PK h⟩
theorem DP{iter:MV}{Y:ag->M (List D)}(hp:Sz (MO X.prog X.w) X.A X.env X.xe)(hc:X.calm=Mz)(hi:DI X F tg iter Y)(hg:DG X F tg g)(hb:uA X F sts t)(hs:∀x,Ny iter X.env x=pure x:=by intro _;rfl):DS X F (.For tg iter sts [] pos) (λC=>do uD g t (<-Y C) C):=⟨hi.hK,(CP hp hc hi.pi hg.pg hb.ps hs).imp λZ σ H Q=>by
  obtain⟨C,k,S,h⟩:=Q;refine⟨C,k,S,M.wk h λl N q J W e1 it=>?_⟩;refine⟨λi m o v=>m=l.length-i/\i<=l.length/\∃j p,bp F j p o v/\Kp F.toFb W N v p/\(uD g t (l.drop i) j).run p (uz F Z H k) F.E,⟨l.length,rfl,Nv _,C,N,S.mono e1,.refl,q⟩,?_⟩;rintro i m o v⟨rfl,a1,j,p,O,e2,L⟩;by_cases G:i<l.length
  .obtain⟨d,hd,T⟩:=fk G;rw[T]at L;obtain⟨go,yl⟩:=it.step i d v p hd e2 O.live;refine .inr ⟨go,λz V=>∃B R,bp F B R z V/\Kp F.toFb W N V R/\(uD g t (l.drop (i+1)) B).run R (uz F Z H k) F.E,λz V h3=>⟨l.length-(i+1),by omega,rfl,G,h3⟩,λx H' y=>?_⟩;obtain⟨e3,i3⟩:=yl x H' y;refine⟨j,p,d,O.mono e3,i3,M.wk L λP k4 q4 a0 H4 e4 S4=>?_⟩;have s:Kp F.toFb W N H4 k4:=e2.trans (e3.trans e4).kp;refine⟨P,k4,S4,M.wk q4 λfl k5 K=>?_⟩;cases fl with
   |nx f=>exactλn U e5 I=>⟨f,k5,I,s.trans e5,K⟩|ct f=>exactλn U e5 I=>⟨f,k5,I,s.trans e5,K⟩|bk f=>exactλn U e5 I=>K n U ((e1.kp.trans s).trans e5) I|rt r=>exact K
  .have e:i=l.length:=by omega
   subst e;rw[PB]at L;exact .inl ⟨it.stop v p e2 O.live,L o v (e1.kp.trans e2) O⟩⟩
noncomputable def dY(c:ag->M Bool)(body:ag->M Fl):Nat->ag->M Fl
 |0,_=>M.fail|n+1,f=>do
  let b<-c f;if b then do match<-body f with
   |.nx d=>dY c body n d|.ct d=>dY c body n d|.bk d=>pure (.nx d)|.rt r=>pure (.rt r)else pure (.nx f)
noncomputable def DQ(c:ag->M Bool)(body:ag->M Fl)(d:ag):M Fl:=⟨λk Q E=>∃n,(dY c body n d).run k Q E,λ⟨n,h⟩q e=>⟨n,(dY c body n d).mono h q e⟩⟩
theorem wO{N:MV}(R:Sz (MO X.prog X.w) X.A X.env X.xe)(L:DT X F N tA)(T:uA X F sts t):DS X F (.While N sts [] pos) (DQ tA t):=⟨L.hK,(vS R L.pt T.ps).imp λZ Y H x=>by
  obtain⟨Q,k,S,n,h⟩:=x;refine⟨λm j C=>∃f v,bp F f v j C/\Kp F.toFb H k C v/\(dY tA t m f).run v (uz F Z H k) F.E,⟨n,Q,k,S,.refl,h⟩,?_⟩;rintro m j C⟨f,v,W,e2,I⟩;cases m with
  |zero=>exact I.elim|succ m=>
   refine fO.next W I λb K P e3 O G=>?_;cases b with
   |false=>exact G j P (e2.trans e3.kp) O|true=>
    refine⟨λo B=>∃p y,bp F p y o B/\Kp F.toFb H k B y/\(dY tA t m p).run y (uz F Z H k) F.E,λo B U=>⟨m,NZ _,U⟩,f,K,O,M.wk G λV J s=>?_⟩;have l:Kp F.toFb H k P K:=e2.trans e3.kp;cases V with
    |nx d=>exactλi z e5 q=>⟨d,J,q,l.trans e5,s⟩|ct d=>exactλi z e5 q=>⟨d,J,q,l.trans e5,s⟩|bk d=>exactλi z e5 q=>s i z (l.trans e5) q|rt r=>exact s⟩
theorem PI.imp{iter:MV}{t t':TI}(h:PI X tg iter t)(q:∀σ H R,t' σ H R->t σ H R):PI X tg iter t':=λd s σ H R I z=>h d s σ H R I (q σ H R z)
noncomputable def DR{h:Type}(f:D->M h):List D->M h
 |[d]=>f d|_=>M.fail
theorem oK{i:Type}{f:D->M i}{ds:List D}{k Q E}(h:(DR f ds).run k Q E):∃d,ds=[d]/\(f d).run k Q E:=by match ds,h with|[d],h=>exact⟨d,rfl,h⟩
noncomputable def dv(n:Nat):List D:=(N6 n).map λ(i:Nat)=>D.int (i:Int)
noncomputable def DV(d:D):M (List D):=do
 let j<-d7 d;M.need (-(2^62)<=j/\j<=1000000)pure (dv j.toNat)
theorem uE{p:Od}(E:X.mg "range"=MA)(w:DA X F [a] tas)(G:Gl X "range":=by rfl)(C:MS [a] X.env=[(My,N2 a X.env)]:=by rfl):DI X F tg (.Call (.Name "range" p) [a] [] pos) (λq=>do DR DV (<-dB (<-tas q))):=⟨w.hK,(uh G E w.pa C).imp λO H R m=>by
  obtain⟨q,k,S,h⟩:=m;refine mU.next S h λas T P N e1 V B K=>?_;obtain⟨U,rfl,J⟩:=bh K;obtain⟨d,rfl,I⟩:=oK J;obtain⟨j,rfl,l⟩:=bq.mp I;obtain⟨v,rfl,r⟩:=(bj B).one;simp only[Is]at r;subst r;refine⟨j,rfl,l.1.1,Int.lt_of_le_of_lt l.1.2 (by decide),l.2 _ N e1 ⟨λi d L z hd e2 Q=>?_,λL z e2 _=>?_,?_⟩⟩
  .unfold dv at hd;rw[Nq]at hd;cases o:(N6 j.toNat)[i]? with
   |none=>rw[o]at hd;cases hd|some n=>
    rw[o]at hd;cases hd;obtain⟨f,s⟩:=List.getElem?_eq_some_iff.mp o;rw[List.getElem_range]at s;subst s;rw[VM]at f;refine⟨f,λx W y=>?_⟩;obtain⟨rfl,rfl⟩:=y;exact⟨.refl,by simp only[Is];simp⟩
  .show j.toNat<=_;simp[dv]
  .have:=l.1.2;simp only[dv,MT,VM,NR];omega⟩
theorem wQ{B:Fb}{H:Hp}{k:Nat}{a:MD}{vs:List V}{ds:List D}(h:LstAt B H a vs)(i:af B H vs ds)(hz:vs.length<=MP):jW B (Lq B.K a) ds H k where
 step:=λj d n o hd e l=>by
  obtain⟨x,m,p⟩:=(i.mono e).get hd;have f:cP B.K n a vs:=(h.mono e).2.sq;refine⟨⟨vs,x,f,m⟩,λy q z=>?_⟩;obtain⟨rfl,z⟩:=z;have:=z vs f;rw[m]at this;cases this;exact⟨.refl,p⟩
 stop:=λn o e l=>⟨vs,(h.mono e).2.sq,Ug i.length⟩;len:=by rw[<-i.length];exact hz
theorem wR{B:Fb}{H:Hp}{k:Nat}{a:MD}{vs:List V}{ds:List D}(h:TupAt B H a vs)(i:af B H vs ds)(hz:vs.length<=MP):jW B (Lr B.K a) ds H k where
 step:=λj d p n hd e l=>by
  obtain⟨x,m,o⟩:=(i.mono e).get hd;have f:=(h.mono e).2;refine⟨⟨vs,x,f,m⟩,λy q z=>?_⟩;obtain⟨rfl,z⟩:=z;have:=z vs f;rw[m]at this;cases this;exact⟨.refl,o⟩
 stop:=λp n e l=>⟨vs,(h.mono e).2,Ug i.length⟩;len:=by rw[<-i.length];exact hz
end
noncomputable def gA(outer inner:OJ):Bool:=(inner.kind==.function)&&inner.names.all λy=>(y.2 !=.cell)&&((y.2 !=.local)||(inner.names.lookup y.1==Mt .local))&&((y.2 !=.free)||(outer.names.lookup y.1==Mt .cell)||(outer.names.lookup y.1==Mt .free))
noncomputable def qY(env:Sl)(y:M3×Qa)(cs:List (M3×MD)):U5 (ForInStep (List (M3×MD))):=do if y.2==.free then pure (PQ ((y.1,<-cellOf env y.1)::cs))else pure (PQ cs)
theorem qZ{a:OJ}{env:Sl}{cl:List (M3×MD)}(h:forIn a.names [] (qY env)=(pure cl:U5 _)):Wr a env=pure cl:=by
 have e:Wr a env=(forIn a.names [] (qY env)>>=λs=>pure s):=rfl;rw[e,h];rfl
theorem q_{env:Sl}:∀(names:List (M3×Qa)),(∀y∈names,y.2=.free->∃c,env.cells.lookup y.1=Mt c)->∀a:List (M3×MD),(∀x c,a.lookup x=Mt c->env.cells.lookup x=Mt c)->∃cl,forIn names a (qY env)=(pure cl:U5 _)/\(∀x c,cl.lookup x=Mt c->env.cells.lookup x=Mt c)/\(∀x c,a.lookup x=Mt c->∃b,cl.lookup x=Mt b)/\∀y∈names,y.2=.free->∃c,cl.lookup y.1=Mt c
 |[],_,a,j=>⟨a,rfl,j,λx c e=>⟨c,e⟩,λy d=>nomatch d⟩|(n,g)::r,l,a,j=>by
  by_cases m:g=.free
  .subst m;obtain⟨c,t⟩:=l (n,.free) MG rfl;have o:∀x b,((n,c)::a).lookup x=Mt b->env.cells.lookup x=Mt b:=λx b e=>by
    rw[NC]at e;cases h:x==n with
    |true=>
     rw[h]at e;cases e;rw[beq_iff_eq.mp h];exact t|false=>
     rw[h]at e;exact j x b e
   obtain⟨cl,s,q,k,p⟩:=q_ r (λy d=>l y (MM _ d)) ((n,c)::a) o;have keep:∀x b,a.lookup x=Mt b->∃f,((n,c)::a).lookup x=Mt f:=λx b e=>by
    rw[NC];cases h:x==n with
    |true=>exact⟨c,rfl⟩|false=>exact⟨b,e⟩
   refine⟨cl,?_,q,λx b e=>?_,λy d i=>?_⟩
   .rw[Pq];have e:qY env (n,.free) a=(pure (PQ ((n,c)::a)):U5 _):=by
     unfold qY cellOf;rw[t];rfl
    rw[e];exact s
   .obtain⟨f,u⟩:=keep x b e;exact k x f u
   .rcases List.mem_cons.mp d with z|z
    .subst z;exact k n c (by rw[NC,beq_self_eq_true])
    .exact p y z i
  .obtain⟨cl,s,q,k,p⟩:=q_ r (λy d=>l y (MM _ d)) a j;refine⟨cl,?_,q,k,λy d i=>?_⟩
   .rw[Pq];have e:qY env (n,g) a=(pure (PQ a):U5 _):=by
     unfold qY;have:(g==OA)=My:=by cases g<;>first|rfl|exact absurd rfl m
     rw[this];rfl
    rw[e];exact s
   .rcases List.mem_cons.mp d with z|z
    .subst z;exact absurd i m
    .exact p y z i
theorem jX{X:Cx}(ok:X.Ok){a:OJ}(h:gA X.env.scope a=Mz):∃cl,C9 X a cl:=by
 unfold gA at h;rw[ML,O3]at h;obtain⟨i,g⟩:=h;have b:∀y∈a.names,y.2=.free->X.env.kindOf y.1=Mt .cell\/X.env.kindOf y.1=Mt .free:=λy d f=>by
  have:=g y d;simp only[ML,Qq,bne_iff_ne,beq_iff_eq,ne_eq]at this;rcases this.2 with(z|z)|z;.exact absurd f z
  .exact .inl z
  .exact .inr z
 obtain⟨cl,l,k,m,j⟩:=q_ (env:=X.env) a.names (λy d f=>ok.has y.1 (b y d f)) [] (λx c e=>nomatch e);refine⟨cl,qZ l,k,λx e=>⟨j (x,.free) (OE e) rfl,b (x,.free) (OE e) rfl⟩,beq_iff_eq.mp i,λy d z=>?_,λy d z=>?_⟩
 .have:=g y d;simp[z]at this
 .have:=g y d;rw[z]at this;simpa using this
noncomputable def fQ(a:ag)(n:Nat)(js:List Nat):ag:=OQ n MA++js.map λj=>(a[j]?).join
theorem mW{a:ag}{n:Nat}{js:List Nat}{i:Nat}{w:W}(h:(fQ a n js)[i]?=Mt (Mt w)):n<=i/\∃j,js[i-n]?=Mt j/\a[j]?=Mt (Mt w):=by
 unfold fQ at h;by_cases b:i<n
 .rw[Oe (by simpa using b),Pj,if_pos b]at h;cases h
 .rw[Nt (by simpa using b),O2,Nq]at h;refine⟨by omega,?_⟩;cases d:js[i-n]? with
  |none=>rw[d]at h;cases h|some j=>
   rw[d]at h;refine⟨j,rfl,?_⟩;have h:(a[j]?).join=Mt w:=MI h;cases c:a[j]? with
   |none=>rw[c]at h;cases h|some o=>
    rw[c]at h;have h:o=Mt w:=h;rw[h]
theorem eP{σ:St}{n:Nat}{js:List Nat}{i j:Nat}{v:V}(b:n<=i)(a:js[i-n]?=Mt j)(h:σ[j]?=Mt (Mt v)):(bB σ n js)[i]?=Mt (Mt v):=by
 unfold bB;rw[Nt (by simpa using b),O2,Nq,a];show Mt ((σ[j]?).join)=_;rw[h];rfl
theorem bp.aV{F:Fx}{r:ag}{k:Nat}{σ:St}{H:Hp}(S:bp F r k σ H)(n:Nat){js:List Nat}(C:js.Nodup):bp F (fQ r n js) k (bB σ n js) H where
 len:=by simp[fQ,bB]
 at_:=λi w e=>by
  obtain⟨q,j,d,g⟩:=mW e;obtain⟨v,f,t⟩:=S.at_ j w g;exact⟨v,eP q d f,t⟩
 apart:=λi B w s v l e E o A s1 s2=>by
  obtain⟨q,j,d,g⟩:=mW e;obtain⟨p,h,c,b⟩:=mW E;obtain⟨u,f,t⟩:=S.at_ j w g;obtain⟨G,a,D⟩:=S.at_ h s b;have y:=eP q d f;have x:=eP p c a;rw[s1]at y;rw[s2]at x;cases y;cases x;have m:j≠h:=λz=>by
   subst z;have:i-n=B-n:=(List.getElem?_inj (List.getElem?_eq_some_iff.mp d).1 C).mp (d.trans c.symm);exact l (by omega)
  exact S.apart j h w s v m g b o A f a
 live:=S.live;ext:=S.ext;jn:=S.jn
structure fC(X:Cx)(F:Fx)(ifs:List MV)(t:ag->M Bool):Prop where
 hK:X.K=F.K
 pi:lb X ifs (fO F t)
section
variable{X:Cx}{F:Fx}{elt tg iter c:MV}{ifs:List MV}{pos:Od}{scope:OJ}{own fr:List M3}{js:List Nat}{g:D->ag->M ag}{tc:ag->M Bool}{te:ag->M D}{tI:ag->M (List D)}
theorem wU(hK:X.K=F.K:=by rfl):fC X F [] (λ_=>pure Mz):=⟨hK,λa s b H Q I⟨d,k,S,h⟩=>wg a s b H Q I (h H .refl)⟩
theorem wV(h:DT X F c tc):fC X F [c] tc:=⟨h.hK,wj h.pt⟩
noncomputable def lZ(g:D->ag->M ag)(tc:ag->M Bool)(te:ag->M D):List D->ag->M (List D)
 |[],_=>pure []|d::e,f=>do
  let a<-g d f;let b<-tc a;if b then do
   let x<-te a;let r<-lZ g tc te e a;pure (x::r)else lZ g tc te e a
theorem Ai{σ:St}{w:ag}{t:Hp}{k1:Nat}{J:It}{ds:List D}{Q:List D->Nat->Prop}{K:List V->St->Hp->Prop}(it:jW F.toFb J ds t k1)(S:bp F w k1 σ t)(h:(lZ g tc te ds w).run k1 Q F.E)(q:∀vs xs u H' k',Ext F.toFb t k1 H' k'->af F.toFb H' vs xs->Q xs k'->vs.length<=MP->K vs u H'):iI J (qW F g) (fO F tc) (dW (bK F te)) σ t [] K:=by
 refine⟨λi m k n l=>m=ds.length-i/\i<=ds.length/\k.length<=i/\∃f a as,bp F f a n l/\Ext F.toFb t k1 l a/\af F.toFb l k as/\(lZ g tc te (ds.drop i) f).run a (λr k'=>Q (as++r) k') F.E,⟨ds.length,rfl,Nv _,MN _,w,k1,[],S,.refl,.nil,h⟩,?_⟩;rintro i m k n l⟨rfl,Y,Z,f,a,as,C,e2,A,o⟩;by_cases p:i<ds.length
 .obtain⟨d,hd,B⟩:=fk p;rw[B]at o;obtain⟨go,N⟩:=it.step i d l a hd e2.kp C.live;refine .inr ⟨go,λx H3 y=>?_⟩;obtain⟨e3,W⟩:=N x H3 y;refine⟨f,a,d,C.mono e3,W,M.wk o λs k4 R L H4 e4 S4=>?_⟩;refine fO.next S4 R λb H H5 e5 I G=>?_;have j:Ext F.toFb l a H5 H:=(e3.trans e4).trans e5;cases b with
  |false=>exact⟨ds.length-(i+1),by omega,rfl,p,by omega,s,H,as,I,e2.trans j,A.mono j.kp,G⟩|true=>
   rw[if_pos rfl];refine bK.next I G λO T v H6 e6 S6 U P=>?_;have hz:=it.len;refine⟨by omega,ds.length-(i+1),by omega,rfl,p,by simp;omega,s,T,as++[O],S6,e2.trans (j.trans e6),(A.mono (j.trans e6).kp).append (.cons U .nil),M.wk P λr k7 z=>?_⟩;rw[Pl];exact z
 .have e:i=ds.length:=by omega
  subst e;rw[PB]at o;have o:Q (as++[]) a:=o;rw[NT]at o;exact .inl ⟨it.stop l a e2.kp C.live,q k as n l a e2 A o (by have:=it.len;omega)⟩
end
noncomputable def bV(e a:MV)(b:Mv)(env:Sl):U5 Unit:=do
 let x<-N2 a env;PV a.pos;let x<-Ny a env x;let _<-runOwn (.compStart e 1 (<-RN [x] (RZ x)) b env) env
noncomputable def fR{d:Type}(e:TI)(g:TG)(b:TT)(rd:RB d):RB d:=λc H a Q=>e c H λJ f=>iI J g b rd c f a Q
noncomputable def mX(e:MV)(d:Nat):Prop:=∀{prog:MX}{w:M_}{A:Nc}{R:Wn->Mx->Prop}{s:Mx}{it a:Mv}{env:Sl},codeAny (MO prog w) A (.compLoop e d it a env) R s->wpAny (MO prog w) A (RZ it) (λc b=>codeAny (MO prog w) A (.compLoop e d c a env) R b) (notedBy (MO prog w) A env λx b=>R (.error x) b) s->codeAny (MO prog w) A (.compStart e d it a env) R s
theorem fT{Y:Cx}{L:Type}{ok:L->NF->Prop}{D:MD}{e tg2 b:MV}{h:List MV}{body:U5 Unit}{pos0:Od}{M:TI}{g:TG}{k:TT}{rd:RB L}(o:zS Y D)(Z:Y.calm=Mz)(R:∀x s',¬Y.xe x s')(E:mX e 1)(V:Y.A.mark MA=Y.A)(t:∀it,(MO Y.prog Y.w).den (.compLoop e 1 (.ref it) (.ref D) Y.env)=(Rm e 1 (.ref it) (.ref D) Y.env).onRaise (λx=>do Q9 x Y.env;Sf x))(p:∀it,Y.A.under (.compLoop e 1 (.ref it) (.ref D) Y.env)=Y.A)(K:∀it,Rm e 1 (.ref it) (.ref D) Y.env=(do
   PV pos0;match<-OC (.ref it)with
   |none=>pure (.done .next)|some v=>
    OG tg2 (.ref it) v;Ra tg2 Y.env v;let mut ok:=Mz;for c in h do if ok then ok<-Sd c Y.env (N2 c Y.env)
    if ok then body
    TF (.compLoop e 1 (.ref it) (.ref D) Y.env)))(W:PI Y tg2 b M)(X:PG Y tg2 g)(G:lb Y h k)(hb:Body Y ok D body rd)(S:∀x,Ny b Y.env x=pure x):Body Y ok D (bV e b (.ref D) Y.env) (fR M g k rd):=by
 intro m s N H a ob Q I F ay q;unfold bV;refine Ms (aU (W _ s N H _ I q) λx s1 h1=>?_);refine Ms (Oa ?_);rw[S];refine Ms (Mu (Ms (M2 (aU h1 λP s2 h2=>?_))));obtain⟨it,fp,tn,J,H2,rfl,I2,T,l,f2,B⟩:=h2;refine Ms (wpAny_runOwn ?_);rw[V];have n:=eG (Y:=Y) (ok:=ok) (D:=D) (it:=it) (e:=e) (d:=1) (tg:=tg2) (ifs:=h) (pos0:=pos0) (body:=body) Z R (t it) (p it) (K it) T X G hb I2 F ay f2 l B;have fin:codeAny (MO Y.prog Y.w) Y.A (.compLoop e 1 (.ref it) (.ref D) Y.env) (λr s'=>match r with
   |.ok f=>wpAny (MO Y.prog Y.w) Y.A (pure ()) (λ_ s'=>∃u j i y,Inv Y ((D,j)::m) i y s'/\ok u j/\Q u i y) Y.xe s'|.error e=>cameBackBy (MO Y.prog Y.w) Y.A Y.env Y.xe e s') s2:=OH n λr s' z=>by
  obtain⟨u,j,i,y,U,I',C,O,_⟩:=z;subst U;exact Mu ⟨u,j,i,y,I',C,O⟩
 exact E fin (T.self _ 0 _ _ _ l fin)
noncomputable def iK{c:Type}(n:Nat)(js:List Nat)(f:TI)(g:TG)(b:TT)(rd:RB c)(a0:c)(o:c->HO):TE:=λd H Q=>f d H λJ h=>iI J g b rd (bB d n js) h a0 λa _ e=>∀p,e p=MA->(p==Pn)=My->Q (.ref p) (upd e p (o a))
theorem gB{X:Cx}{S:Type}{e tg iter:MV}{ifs:List MV}{Z:List Qz}{f:OJ}{pos:Od}{cl:List (M3×MD)}{own fr:List M3}{js:List Nat}{wi:TI}{g:TG}{E:TT}{rd:RB S}{ok:S->NF->Prop}{a0:S}{ob0:NF}{o:S->HO}{newAcc:U5 Mv}{body:MD->Sl->U5 Unit}(O:X.calm=Mz)(c:C9 X f cl)(hj:js.map (λj=>X.N[j]?)=fr.map Mt)(d1:∀x∈fr,f.names.lookup x=Mt .free)(hw:PI X tg iter wi)(d2:N2 e X.env=comprehension e f X.env pos newAcc My (N2 iter X.env) MA)(a8:clausesOf e=⟨tg,iter,ifs,0⟩::Z)(c3:mX e 0)(a4:∀{Q:Mv->Mx->Prop}{s:Mx},Q (.ref s.heap.objs.size) {s with heap:=s.heap.push ob0}->wpAny (MO X.prog X.w) X.A newAcc Q X.xe s)(c5:∀a ob v,ok a ob->ob.data≠.cell v)(DW:ok a0 ob0)(c4:ob0.data≠.freed)(a7:∀it D env,(MO X.prog X.w).den (.compLoop e 0 (.ref it) (.ref D) env)=(Rm e 0 (.ref it) (.ref D) env).onRaise (λx=>do Q9 x env;Sf x))(a2:∀it D env,X.A.under (.compLoop e 0 (.ref it) (.ref D) env)=X.A)(d4:∀it D env,Rm e 0 (.ref it) (.ref D) env=(do
   PV iter.pos;match<-OC (.ref it)with
   |none=>pure (.done .next)|some v=>
    OG tg (.ref it) v;Ra tg env v;let mut ok:=Mz;for c in ifs do if ok then ok<-Sd c env (N2 c env)
    if ok then body D env
    TF (.compLoop e 0 (.ref it) (.ref D) env)))(hg:∀pins C fp s H,PG (aV X pins f (own++fr) cl C fp s H) tg g)(hi:∀pins C fp s H,lb (aV X pins f (own++fr) cl C fp s H) ifs E)(n:∀pins C fp s H D,zS (aV X pins f (own++fr) cl C fp s H) D->Body (aV X pins f (own++fr) cl C fp s H) ok D (body D (aV X pins f (own++fr) cl C fp s H).env) rd)(a6:∀(a:S)(ob:NF)(H:Hp)(h:Na)(D:MD),ok a ob->h.get? D=Mt ob->fH X.prog X.w H h->aQ X.prog X.w (upd H D (o a)) h D (o a))(hs:∀x,Ny iter X.env x=pure x:=by intro _;rfl):PE X e (iK own.length js wi g E rd a0 o):=by
 intro pins s σ H Q I h;rw[d2];refine Tu (use:=MA) a8 hs c.Gm c.kind c.names (aU (hw pins s σ H _ I h) λv s1 h1=>aU h1 λf4 s2 h2=>?_);obtain⟨it,fp,tn,J,u,e1,m,T,V,f2,b5⟩:=h2;subst e1;refine a4 (UW c.eE (by intro y hy;simp at hy) (λl k i=>?_) c.kind);dsimp only at k i⊢;generalize P:s2.heap.push ob0=h3 at k i⊢;have hC:h3.objs.size=s2.heap.objs.size+1:=by rw[<-P,ND]
 have R:s2.heap.objs.size≠h3.objs.size:=by rw[hC];exact M4 (NZ _)
 have L:s2.heap.objs.size<=h3.objs.size:=by rw[hC];exact Qh _
 have t:∀b,b<s2.heap.objs.size->b≠h3.objs.size:=λb n=>by rw[hC];exact M4 (OS n)
 have old:∀b o,s2.heap.get? b=Mt o->l.get? b=Mt o:=λb o e=>i.extBut b o (t b (MH e)) (Mw _ (P▸Mw _ e));have a9:l.get? s2.heap.objs.size=Mt ob0:=i.extBut _ _ R (Mw _ (P▸MJ _ (by cases ob0;rename_i c d b0 sl;cases b0<;>first|rfl|exact absurd rfl c4)));have M:∀b∈fp,b<s2.heap.objs.size:=λb n=>by
  obtain⟨o,e,_⟩:=T.obj _ _ V b n;exact MH e
 have J0:=lW (own:=own) (fr:=fr) (t':=s2.toks+([]:List (M3×Mv)).length) m f2 M c hj d1 L old k;have oD:zS (aV X pins f (own++fr) cl h3.objs.size fp s2 u) s2.heap.objs.size:=⟨MN _,λx a e z=>by
  obtain⟨v,q⟩:=m.cell x a (c.sub x a e);exact absurd q.lt (by rw[z];exact Nh _)⟩;have e9:u s2.heap.objs.size=MA:=m.ay.fresh (MN _);have c1:s2.heap.objs.size∉fA X.stack:=λz=>by
  rcases List.mem_cons.mp (m.fK _ z)with q|q;.exact absurd m.lt (by rw[<-q];exact Nh _)
  .exact m.zw (MN _) q
 have F:∀p∈(X.pn++pins)++([]:List (MD×NF)),p.1≠s2.heap.objs.size:=λp B z=>by
  rw[NT]at B;exact absurd (MH (m.pin p B).1) (by rw[z];exact Nh _)
 have J1:Inv (aV X pins f (own++fr) cl h3.objs.size fp s2 u) [(s2.heap.objs.size,ob0)] (bB σ own.length js) u {s2 with heap:=l,toks:=s2.toks+([]:List (M3×Mv)).length}:=J0.dk λp B=>by
   have B:=List.mem_singleton.mp B;rw[B];exact⟨a9,e9,R,c1,λv=>c5 a0 ob0 v DW⟩
 have a5:∀b∈fp,cz (aV X pins f (own++fr) cl h3.objs.size fp s2 u) [(s2.heap.objs.size,ob0)] u b:=λb n=>by
  obtain⟨q0,q1,q2,q3,q4,q5⟩:=f2 b n;refine⟨q0,t b (M b n),mR m f2 b n,.inl n,λx a e=>q4 x a (c.sub x a e),λp B=>?_⟩;rcases List.mem_append.mp B with z|z;.exact q5 p z
  .have z:=List.mem_singleton.mp z;rw[z];exact NO (M4 (M b n))
 have W:tn 0 l:=T.keep _ _ _ V λb n o e=>old b o e;have a1:=eG (Y:=aV X pins f (own++fr) cl h3.objs.size fp s2 u) (ok:=ok) (D:=s2.heap.objs.size) (it:=it) (e:=e) (d:=0) (tg:=tg) (ifs:=ifs) (pos0:=iter.pos) (body:=body s2.heap.objs.size (aV X pins f (own++fr) cl h3.objs.size fp s2 u).env) O (λ_ _ z=>z) (a7 _ _ _) (a2 _ _ _) (d4 _ _ _) T (hg pins _ fp s2 u) (hi pins _ fp s2 u) (n pins _ fp s2 u _ oD) J1 F (a:=a0) DW a5 W b5;have fin:codeAny (MO X.prog X.w) X.A (.compLoop e 0 (.ref it) (.ref s2.heap.objs.size) (compEnvC f cl h3.objs.size X.env)) (compPost (MO X.prog X.w) X.A X.xe MA (EP X pins σ Q) (.ref s2.heap.objs.size) h3.objs.size) {s2 with heap:=l,toks:=s2.toks+([]:List (M3×Mv)).length}:=by
  refine OH a1 λr s' b2=>?_;obtain⟨a,c0,f1,H',hr,I',a3,q',_⟩:=b2;subst hr;obtain⟨m',d0,_⟩:=I'.loc;refine⟨m',d0,λf0 G=>?_⟩;obtain⟨eD,nD,f3,_,_⟩:=I'.pin _ (M1 _ MG);have b1:=we m f2 I' L G;refine⟨.ref s2.heap.objs.size,upd H' s2.heap.objs.size (o a),b1.fF m.sz nD (N0 m.lt) (λx a e z=>?_) (λp B=>F p (by rw[NT];exact B)) (a6 a c0 H' f0 _ a3 ((G.2 _ R).trans eD) b1.ay),rfl,q' _ nD (beq_eq_false_iff_ne.mpr (NO (M4 m.J4)))⟩;obtain⟨v,q⟩:=m.cell x a e;exact absurd q.lt (by rw[z];exact Nh _)
 exact c3 fin (T.self _ 0 _ _ _ W fin)
theorem jo{X:Cx}{α:Type}{e tg iter:MV}{ifs:List MV}{a8:List Qz}{f:OJ}{pos:Od}{cl:List (M3×MD)}{own fr:List M3}{js:List Nat}{wi:TI}{g:TG}{K:TT}{rd:RB α}{ok:α->NF->Prop}{a0:α}{ob0:NF}{o:α->HO}{newAcc:U5 Mv}{body:MD->Sl->U5 Unit}(V:X.calm=Mz)(c:C9 X f cl)(hj:js.map (λj=>X.N[j]?)=fr.map Mt)(g4:∀x∈fr,f.names.lookup x=Mt .free)(hw:PI X tg iter wi)(g5:∀u,evalThenUse e X.env u=(do let _<-comprehension e f X.env pos newAcc My (N2 iter X.env) (Mt u)))(c5:clausesOf e=⟨tg,iter,ifs,0⟩::a8)(f4:mX e 0)(b5:∀{Q:Mv->Mx->Prop}{s:Mx},Q (.ref s.heap.objs.size) {s with heap:=s.heap.push ob0}->wpAny (MO X.prog X.w) X.A newAcc Q X.xe s)(g1:∀a ob v,ok a ob->ob.data≠.cell v)(DW:ok a0 ob0)(f8:ob0.data≠.freed)(c3:∀it D env,(MO X.prog X.w).den (.compLoop e 0 (.ref it) (.ref D) env)=(Rm e 0 (.ref it) (.ref D) env).onRaise (λx=>do Q9 x env;Sf x))(b1:∀it D env,X.A.under (.compLoop e 0 (.ref it) (.ref D) env)=X.A)(g7:∀it D env,Rm e 0 (.ref it) (.ref D) env=(do
   PV iter.pos;match<-OC (.ref it)with
   |none=>pure (.done .next)|some v=>
    OG tg (.ref it) v;Ra tg env v;let mut ok:=Mz;for c in ifs do if ok then ok<-Sd c env (N2 c env)
    if ok then body D env
    TF (.compLoop e 0 (.ref it) (.ref D) env)))(hg:∀pins C fp s H,PG (aV X pins f (own++fr) cl C fp s H) tg g)(hi:∀pins C fp s H,lb (aV X pins f (own++fr) cl C fp s H) ifs K)(B:∀pins C fp s H D,zS (aV X pins f (own++fr) cl C fp s H) D->Body (aV X pins f (own++fr) cl C fp s H) ok D (body D (aV X pins f (own++fr) cl C fp s H).env) rd)(c1:∀(a:α)(ob:NF)(H:Hp)(h:Na)(D:MD),ok a ob->h.get? D=Mt ob->fH X.prog X.w H h->aQ X.prog X.w (upd H D (o a)) h D (o a))(hs:∀x,Ny iter X.env x=pure x:=by intro _;rfl):∀(pins:List (MD×NF))(s:Mx)(σ:St)(H:Hp)(x:M3)(S p2:Od)(gt:TG)(D:Ends),Inv X pins σ H s->O4 e (Mt (.Name x S)) p2.line X.env=pure Mz->PG X (.Name x S) gt->zA (iK own.length js wi g K rd a0 o) gt D σ H->wpAny (MO X.prog X.w) X.A (exec (.Assign [.Name x S] e p2) X.env) (SP X pins D) X.xe s:=by
 intro pins s σ H x S p2 gt Z I f3 g3 h;rw[exec_Assign_Name_used _ _ _ _ f3];refine Ms (Oa ?_);rw[g5];refine Ms (Ms ?_);refine Tu (use:=Mt (Ra (.Name x S) X.env)) (Q:=λ_ G=>wpAny (MO X.prog X.w) X.A (pure Ui) (λ_ R=>wpAny (MO X.prog X.w) X.A (pure Flow.next) (SP X pins Z) X.xe R) X.xe G) c5 hs c.Gm c.kind c.names (aU (hw pins s σ H _ I h) λv s1 h1=>aU h1 λh8 s2 h2=>?_);obtain⟨it,fp,tn,J,F,e1,m,T,a6,f2,d4⟩:=h2;subst e1;refine b5 (UW c.eE (by intro y hy;simp at hy) (λn l i=>?_) c.kind);dsimp only at l i⊢;generalize W:s2.heap.push ob0=h3 at l i⊢;have hC:h3.objs.size=s2.heap.objs.size+1:=by rw[<-W,ND]
 have a1:s2.heap.objs.size≠h3.objs.size:=by rw[hC];exact M4 (NZ _)
 have k:s2.heap.objs.size<=h3.objs.size:=by rw[hC];exact Qh _
 have E:∀b,b<s2.heap.objs.size->b≠h3.objs.size:=λb B=>by rw[hC];exact M4 (OS B)
 have old:∀b o,s2.heap.get? b=Mt o->n.get? b=Mt o:=λb o e=>i.extBut b o (E b (MH e)) (Mw _ (W▸Mw _ e));have d0:n.get? s2.heap.objs.size=Mt ob0:=i.extBut _ _ a1 (Mw _ (W▸MJ _ (by cases ob0;rename_i c d d1 sl;cases d1<;>first|rfl|exact absurd rfl f8)));have U:∀b∈fp,b<s2.heap.objs.size:=λb B=>by
  obtain⟨o,e,_⟩:=T.obj _ _ a6 b B;exact MH e
 have J0:=lW (own:=own) (fr:=fr) (t':=s2.toks+([]:List (M3×Mv)).length) m f2 U c hj g4 k old l;have oD:zS (aV X pins f (own++fr) cl h3.objs.size fp s2 F) s2.heap.objs.size:=⟨MN _,λx a e z=>by
  obtain⟨v,q⟩:=m.cell x a (c.sub x a e);exact absurd q.lt (by rw[z];exact Nh _)⟩;have g8:F s2.heap.objs.size=MA:=m.ay.fresh (MN _);have f0:s2.heap.objs.size∉fA X.stack:=λz=>by
  rcases List.mem_cons.mp (m.fK _ z)with q|q;.exact absurd m.lt (by rw[<-q];exact Nh _)
  .exact m.zw (MN _) q
 have L:∀p∈(X.pn++pins)++([]:List (MD×NF)),p.1≠s2.heap.objs.size:=λp t z=>by
  rw[NT]at t;exact absurd (MH (m.pin p t).1) (by rw[z];exact Nh _)
 have J1:Inv (aV X pins f (own++fr) cl h3.objs.size fp s2 F) [(s2.heap.objs.size,ob0)] (bB σ own.length js) F {s2 with heap:=n,toks:=s2.toks+([]:List (M3×Mv)).length}:=J0.dk λp t=>by
   have t:=List.mem_singleton.mp t;rw[t];exact⟨d0,g8,a1,f0,λv=>g1 a0 ob0 v DW⟩
 have c0:∀b∈fp,cz (aV X pins f (own++fr) cl h3.objs.size fp s2 F) [(s2.heap.objs.size,ob0)] F b:=λb B=>by
  obtain⟨q0,q1,q2,q3,q4,q5⟩:=f2 b B;refine⟨q0,E b (U b B),mR m f2 b B,.inl B,λx a e=>q4 x a (c.sub x a e),λp t=>?_⟩;rcases List.mem_append.mp t with z|z;.exact q5 p z
  .have z:=List.mem_singleton.mp z;rw[z];exact NO (M4 (U b B))
 have a7:tn 0 n:=T.keep _ _ _ a6 λb B o e=>old b o e;have b0:=eG (Y:=aV X pins f (own++fr) cl h3.objs.size fp s2 F) (ok:=ok) (D:=s2.heap.objs.size) (it:=it) (e:=e) (d:=0) (tg:=tg) (ifs:=ifs) (pos0:=iter.pos) (body:=body s2.heap.objs.size (aV X pins f (own++fr) cl h3.objs.size fp s2 F).env) V (λ_ _ z=>z) (c3 _ _ _) (b1 _ _ _) (g7 _ _ _) T (hg pins _ fp s2 F) (hi pins _ fp s2 F) (B pins _ fp s2 F _ oD) J1 L (a:=a0) DW c0 a7 d4;have fin:codeAny (MO X.prog X.w) X.A (.compLoop e 0 (.ref it) (.ref s2.heap.objs.size) (compEnvC f cl h3.objs.size X.env)) (compPost (MO X.prog X.w) X.A X.xe (Mt (Ra (.Name x S) X.env)) (λ_ G=>wpAny (MO X.prog X.w) X.A (pure Ui) (λ_ R=>wpAny (MO X.prog X.w) X.A (pure Flow.next) (SP X pins Z) X.xe R) X.xe G) (.ref s2.heap.objs.size) h3.objs.size) {s2 with heap:=n,toks:=s2.toks+([]:List (M3×Mv)).length}:=by
  refine OH b0 λr G P=>?_;obtain⟨a,e9,h5,H',hr,I',b2,q',_⟩:=P;subst hr;show wpAny (MO X.prog X.w) X.A (Ra (.Name x S) X.env (.ref s2.heap.objs.size)) _ X.xe G;obtain⟨m',g2,_⟩:=I'.loc;obtain⟨oC,h0,h4,f9,c4,f7⟩:=id g2;have nC:H' h3.objs.size=MA:=I'.free;obtain⟨eD,nD,h7,_,_⟩:=I'.pin _ (M1 _ MG);have d2:Inv X pins σ H' G:=zR m f2 I';have a2:∀y c,X.env.cells.lookup y=Mt c->c≠s2.heap.objs.size:=λy c e z=>by
   obtain⟨v,q⟩:=m.cell y c e;exact absurd q.lt (by rw[z];exact Nh _)
  have a3:∀y c,X.env.cells.lookup y=Mt c->c≠h3.objs.size:=λy c e z=>by
   obtain⟨v,q⟩:=m.cell y c e;exact absurd (M7 q.lt k) (by rw[z];exact Nh _)
  have a9:∀p∈X.pn++pins,p.1≠h3.objs.size:=λp t z=>absurd (M7 (MH (m.pin p t).1) k) (by rw[z];exact Nh _);have M:h3.objs.size≠X.env.locals:=N0 (M7 m.lt k);have f1:h3.objs.size∉X.fs:=m.zw k;have I3:Inv X pins σ (upd H' s2.heap.objs.size (o a)) G:=d2.fF m.sz nD (N0 m.lt) a2 (λp t=>L p (by rw[NT];exact t)) (c1 a e9 H' G.heap _ b2 eD d2.ay);have I4:Inv X ((h3.objs.size,oC)::pins) σ (upd H' s2.heap.objs.size (o a)) G:=I3.dk λp t=>by
   rcases List.mem_cons.mp t with z|z
   .rw[z];exact⟨f9,by rw[ai (NO a1)];exact nC,M,f1,λv q=>by rw[c4]at q;cases q⟩
   .exact I3.pin p (M1 _ z)
  refine aU (g3 _ G σ _ (.ref s2.heap.objs.size) (.ref s2.heap.objs.size) Z.nx I4 rfl (q' _ nD (beq_eq_false_iff_ne.mpr (NO (M4 m.J4))))) λ_ s5 P=>?_;obtain⟨a4,H5,I5,q5⟩:=P;obtain⟨e5,n5,_,_,_⟩:=I5.pin (h3.objs.size,oC) (M1 _ MG);refine⟨m',⟨oC,h0,h4,e5,c4,f7⟩,λh6 f6=>Mu (Mu ?_)⟩;have I6:Inv X pins a4 H5 s5:=I5.dk λp t=>I5.pin p (M1 _ (MM _ t));exact⟨a4,H5,I6.turned (t':=s5.toks) (it:=h3.objs.size) (λb ob B e=>(f6.2 b B).trans e) n5 M (.inr (Nw m.sz k)) a3 a9,q5⟩
 exact f4 fin (T.self _ 0 _ _ _ a7 fin)
theorem aW{e:MV}{d:Nat}{g:Qz}(j:(clausesOf e)[d]?=Mt g)(k:(g.is_async !=0)=My)(c:∀prog w it a env,(MO prog w).den (.compStart e d it a env)=(compStart e d it a env).onRaise (λx=>do Q9 x env;PV theWindowsPlace):=by intros;rfl)(b:∀(A:Nc)it a env,A.under (.compStart e d it a env)=A:=by intros;rfl):mX e d:=by
 intro prog w A R s it a env f h;refine PR ?_;rw[c,b];refine wpAny_notedAt ?_;unfold compStart;rw[j];simp only[Option.elim,k,M0,if_false];refine Ms (N9 (wpAny_ite ?_));split;.first
   |exact Ms (Mu (Mu (And.intro rfl f)))|exact Mu (And.intro rfl f)
 .refine Ms (Qk (Ms (Oa (Ms (N3 h (λi m l=>Mu (And.intro rfl l)) λ_ _ x=>x)))))
section
variable{X:Cx}{elt tg iter tg2 iter2:MV}{ifs ifs2:List MV}{scope:OJ}{pos:Od}{cl:List (M3×MD)}{own fr:List M3}{js:List Nat}{wi wi2:TI}{g g2:TG}{tifs tifs2:TT}{te:TE}
theorem gC{P:MX}{w:M_}(a:List V)(ob:NF)(H:Hp)(h:Na)(D:MD)(ok:Fv a ob)(e:h.get? D=Mt ob)(_:fH P w H h):aQ P w (upd H D (.lst a)) h D (.lst a):=by
 obtain⟨d,b,n,c,rfl⟩:=ok;exact⟨d,b,n,c,e⟩
theorem jY(it a:Mv)(env:Sl):Rm (.ListComp elt [⟨tg,iter,ifs,0⟩,⟨tg2,iter2,ifs2,0⟩] scope pos) 0 it a env=(do
   PV iter.pos;match<-OC it with
   |none=>pure (.done .next)|some v=>
    OG tg it v;Ra tg env v;let mut ok:=Mz;for c in ifs do if ok then ok<-Sd c env (N2 c env)
    if ok then bV (.ListComp elt [⟨tg,iter,ifs,0⟩,⟨tg2,iter2,ifs2,0⟩] scope pos) iter2 a env
    TF (.compLoop (.ListComp elt [⟨tg,iter,ifs,0⟩,⟨tg2,iter2,ifs2,0⟩] scope pos) 0 it a env)):=by
 unfold bV;simp only[bind_assoc];rfl
theorem mY(b:X.calm=Mz)(c:C9 X scope cl)(p:js.map (λj=>X.N[j]?)=fr.map Mt)(l:∀x∈fr,scope.names.lookup x=Mt .free)(n:X.A.mark MA=X.A)(hw:PI X tg iter wi)(r:∀pins C fp s H,PG (aV X pins scope (own++fr) cl C fp s H) tg g)(q:∀pins C fp s H,lb (aV X pins scope (own++fr) cl C fp s H) ifs tifs)(d:∀pins C fp s H,PI (aV X pins scope (own++fr) cl C fp s H) tg2 iter2 wi2)(k:∀pins C fp s H,PG (aV X pins scope (own++fr) cl C fp s H) tg2 g2)(i:∀pins C fp s H,lb (aV X pins scope (own++fr) cl C fp s H) ifs2 tifs2)(t:∀pins C fp s H,PE (aV X pins scope (own++fr) cl C fp s H) elt te)(m:∀x,Ny iter X.env x=pure x:=by intro _;rfl)(f:∀env x,Ny iter2 env x=pure x:=by intro _ _;rfl):PE X (.ListComp elt [⟨tg,iter,ifs,0⟩,⟨tg2,iter2,ifs2,0⟩] scope pos) (iK own.length js wi g tifs (fR wi2 g2 tifs2 (dW te)) [] .lst):=gB (ok:=Fv) (ob0:={cls:=.type "list",dict:=MA,data:=.seq ([]:List Mv).toArray}) (newAcc:=V5 (.type "list") (.seq #[])) (body:=λD env=>bV (.ListComp elt [⟨tg,iter,ifs,0⟩,⟨tg2,iter2,ifs2,0⟩] scope pos) iter2 (.ref D) env) b c p l hw rfl rfl (aW rfl rfl) (λh=>Nd h) (λa ob v⟨_,_,_,_,e⟩z=>by rw[e]at z;cases z) ⟨Nv _,[],_,.nil,rfl⟩ (λz=>nomatch z) (λ_ _ _=>rfl) (λ_ _ _=>rfl) (λ_ _ _=>jY _ _ _) r q (λpins C fp s H D o=>fT (pos0:=iter2.pos) o b (λ_ _ z=>z) (aW rfl rfl) n (λ_=>rfl) (λ_=>rfl) (λ_=>rfl) (d pins C fp s H) (k pins C fp s H) (i pins C fp s H) (fj o (t pins C fp s H)) (f _)) gC m
end
section
variable{prog:MX}{w:M_}{K:Type}[DecidableEq K]{kk:Pa prog w K}{A:Nc}{E:Mv->Mx->Prop}{s:Mx}
open ST
theorem aI.typeIs{a:MD}{xs:List (List K×MD)}{t:Nk}(S:aI kk s.heap a xs t):s.TypeIs (.ref a) "set":=let⟨o,_,_,b,c,_⟩:=S.ob;⟨o,b,c.1⟩
theorem gD{a b:MD}{xs:List (List K×MD)}{t:Nk}{k:List K}{Q:Mv->Mx->Prop}(hu:A.units+1<NV)(S:aI kk s.heap a xs t)(hK:dh kk s.heap xs)(g:Om kk s.heap k b)(j:xs.length<4)(old:k∈xs.map (·.1)->∀e,Q .none {s with toks:=e})(new:k∉xs.map (·.1)->∀h' c t' e,NW a s.heap h'->aI kk h' a c t'->c.Perm ((k,b)::xs)->(t.plain=Mz->bc s.heap b->t'.plain=Mz)->Q .none {s with heap:=h',toks:=e}):wpAny (MO prog w) A (call (.builtin "set.add") [.ref a,.ref b]) Q E s:=by
 refine Ni R_ (aI.typeIs S) UE ?_ (Uj _ _);unfold Builtin.«set.add»QZ;simp only[O7,bind_assoc];unfold OF UX RR;refine Ms (Mu ?_);try dsimp only
 refine Ms (Mu ?_);try dsimp only
 refine Ms (M2 (Ms (SO hu g (M2 ?_))));refine mM (A:=A.in1) (s:={s with toks:=s.toks+(k.length+1)}) hu S hK g j (λf=>?_) λd h' c t' sb l h i=>?_
 .show wpAny _ _ (Wf M5) _ _ _;exact Mu ⟨_,rfl,old f _⟩
 .show wpAny _ _ (Wf M5) _ _ _;exact Mu ⟨_,rfl,new d h' c t' _ sb l h i⟩
theorem oM{a b:MD}{xs:List (List K×MD)}{t:Nk}{k:List K}{Q:Option Nat->Mx->Prop}(hu:A.units<NV)(S:aI kk s.heap a xs t)(hK:dh kk s.heap xs)(p:Om kk s.heap k b)(h:∀r:Option Nat,r.isSome=decide (k∈xs.map (·.1))->Q r s):wpAny (MO prog w) A (setFind a (.ref b) (Nb kk k)) Q E s:=by
 obtain⟨o,j,u,f,hex,hd,i⟩:=id S.ob;have T:=S.tab;have d:j.size=xs.length:=by have:=congrArg Oc i;simpa using this
 have n:t.fits j.size=Mz:=by rw[d];exact S.fits
 unfold setFind setFindIn;refine Ms (Ob f hd n ?_);dsimp only;have e:byScan (.ref b) j=My:=by unfold byScan;simp[Value.scannable]
 rw[e];simp only[M0,if_false];obtain⟨N,hN,F⟩:=T.first (Nb kk k);unfold setSearch;have q:=oB T;refine Ms (fN hu S hK p F hN (λg o f=>?_) (λc=>?_) 100000 0 (Nv _) (by omega) (λm l=>absurd l (Ro _)) MA rfl)
 .dsimp only;refine Mu (h _ ?_);rw[decide_eq_true g];rcases f with z|z;.exact z
  .cases z
 .exact Mu (h _ (by rw[decide_eq_false c];rfl))
theorem mZ{a b:MD}{xs:List (List K×MD)}{t:Nk}{k:List K}{Q:Bool->Mx->Prop}(hu:A.units+1<NV)(S:aI kk s.heap a xs t)(hK:dh kk s.heap xs)(d:Om kk s.heap k b)(h:∀e,Q (decide (k∈xs.map (·.1))) {s with toks:=e}):wpAny (MO prog w) A (VN (.ref a) (.ref b)) Q E s:=by
 have c:=aI.typeIs S;unfold VN;try with_reducible refine M2 ?_
 refine Ms (Qp c PySem.F.slot_set_contains.lookup ?_);show wpAny _ _ (if(Mt (NM "set.__contains__")==Mt M5)=Mz then _ else _) _ E s;rw[if_neg (by rw[beq_builtin_none];exact Nx)];refine Ms (wpAny_callSpecialUnlessNone?_slot (name:=MF "__contains__") c SY (Ni SY c entry_set_contains ?_ (PySem.F.args_set_contains_2 _ _)));unfold Builtin.«frozenset.__contains__»QZ;simp only[O7,bind_assoc];unfold OF Builtin.Frozenset.withSetAsKey setContains;refine Ms (Mu ?_);try dsimp only
 refine Ms (Mu ?_);try dsimp only
 refine Ms (Pf ?_);refine M2 ?_;refine Ms (SO hu d ?_);refine Ms (oM (A:=A.in1) (s:={s with toks:=s.toks+(k.length+1)}) hu S hK d λr f=>?_);refine Mu ?_;show wpAny _ _ (Wf (Rw r.isSome)) _ _ _;rw[f];exact Mu ⟨_,rfl,N_ (h _)⟩
end
noncomputable def Ke(P:MX)(w:M_)(a:List (List Key×MD)×NF)(ob:NF):Prop:=a.2=ob/\cj P w ob a.1
noncomputable def wW(P:MX)(w:M_)(K:ME)(g:TE):RB (List (List Key×MD)×NF):=λf H a Q=>g f H λy e=>∃b k,y=.ref b/\iE K e b (k.map kV)/\Gr K e a.1/\a.1.length<4/\(k∈a.1.map (·.1)->Q a f e)/\(k∉a.1.map (·.1)->∀c d,c.Perm ((k,b)::a.1)->cj P w d c->Q (c,d) f e)
theorem wX{Y:Cx}{D:MD}{c:MV}{J:TE}(o:zS Y D)(hu:Y.A.units+1<NV)(h:PE Y c J):Body Y (Ke Y.prog Y.w) D (do let v<-N2 c Y.env;PV c.pos;let _<-call (.builtin "set.add") [.ref D,v]) (wW Y.prog Y.w Y.K J):=by
 intro L s p H d ob Q I F ay q;refine Ms (aU (h _ s p H _ I q) λu s1 r=>?_);obtain⟨y,N,f,P,b,k,W,n,hK,V,R,T⟩:=r;refine Ms (Oa ?_);obtain⟨rfl,l⟩:=ay;have eD:=(f.pin _ (M1 _ MG)).1;subst W;cases(show u=MW b from P);obtain⟨t,S,B⟩:=l.2.2 _ _ eD;have i:ST.dh (ao Y.prog Y.w) s1.heap d.1:=λx E=>bG f (hK x E);refine Ms (gD hu S i (bG f n) V (λG O=>?_) λj h' g t' O sb M z U=>?_);.exact Mu ⟨d,d.2,p,N,f.tok _,⟨rfl,l⟩,R G⟩
 .obtain⟨C,X,Z,m,_⟩:=id M.ob;have a:=cj.of M m λq=>U (B λx E=>q x (z.mem_iff.mpr (MM _ E))) (eJ f n (q (k,b) (z.mem_iff.mpr MG)));exact Mu ⟨(g,C),C,p,N,f.wm o.young o.cells F (λb ob n e=>(sb.2 b n).trans e) m a.2.1,⟨rfl,a⟩,T j g C z a⟩
section
variable{prog:MX}{w:M_}{A:Nc}{E:Mv->Mx->Prop}{s:Mx}
open ST
theorem mO.typeIs{a:MD}{xs:List (Int×Ut)}{t:Nk}(S:mO prog w s.heap a xs t):s.TypeIs (.ref a) "set":=let⟨o,_,_,b,c,_⟩:=S.ob;⟨o,b,c.1⟩
theorem m6{a:MD}{xs:List (Int×Ut)}{t:Nk}{i:Int}{d:Ut}{Q:Mv->Mx->Prop}(S:mO prog w s.heap a xs t)(h:xs.length<4)(old:i∈xs.map (·.1)->∀d,Q .none {s with toks:=d})(new:i∉xs.map (·.1)->∀h' b t' e,NW a s.heap h'->mO prog w h' a b t'->b.Perm ((i,d)::xs)->Q .none {s with heap:=h',toks:=e}):wpAny (MO prog w) A (call (.builtin "set.add") [.ref a,.int i d]) Q E s:=by
 refine Ni R_ (mO.typeIs S) UE ?_ (Uj _ _);unfold Builtin.«set.add»QZ;simp only[O7,bind_assoc];unfold OF UX;refine Ms (Mu ?_);try dsimp only
 refine Ms (Mu ?_);try dsimp only
 refine Ms (M2 (Ms ((NS prog w).pyHash (QX _ _ _ _) ?_)));refine sR (A:=A.in1) (s:={s with toks:=s.toks+1}) S h (λf=>?_) λc h' b t' sb j g=>?_
 .show wpAny _ _ (Wf M5) _ _ _;exact Mu ⟨_,rfl,old f _⟩
 .show wpAny _ _ (Wf M5) _ _ _;exact Mu ⟨_,rfl,new c h' b t' _ sb j g⟩
end
noncomputable def aB(w:M_):NF:={cls:=.type "set",dict:=MA,data:=.set #[] 0 (.fresh 0 0 (!w.params.followText "set-order"))}
theorem m9{prog:MX}{w:M_}{A:Nc}{E:Mv->Mx->Prop}{s:Mx}{Q:Mv->Mx->Prop}(h:Q (.ref s.heap.objs.size) {s with heap:=s.heap.push (aB w)}):wpAny (MO prog w) A (newSet (.type "set")) Q E s:=by
 unfold newSet Uh;refine Ms (Ms (N9 (Mu ?_)));dsimp only;simp only[V5];exact Ms (Wb (Mu h))
theorem m_(P:MX)(w:M_):cj P w (aB w) []:=by
 refine⟨(λz=>nomatch z),(λv z=>nomatch z),λh a e=>⟨_,⟨⟨_,_,_,e,⟨rfl,rfl,rfl⟩,rfl,rfl⟩,?_,(by show 0*5<7*3;omega),.nil,rfl⟩,λ_=>rfl⟩⟩;exact⟨.inl rfl,.nil,rfl,rfl,λi j e=>(by simp[SetTable.fresh]at e),Nv _,λi h j e=>(by simp at e)⟩
section
variable{X:Cx}{elt tg iter tg2 iter2:MV}{ifs ifs2:List MV}{scope:OJ}{pos:Od}{cl:List (M3×MD)}{own fr:List M3}{js:List Nat}{wi wi2:TI}{g g2:TG}{tifs tifs2:TT}{te:TE}
noncomputable def oS(a:List (List Key×MD)×NF):HO:=.bo a.2 (.ext λ_=>True)
theorem Aj{P:MX}{w:M_}(a:List (List Key×MD)×NF)(ob:NF)(H:Hp)(h:Na)(D:MD)(ok:Ke P w a ob)(e:h.get? D=Mt ob)(_:fH P w H h):aQ P w (upd H D (oS a)) h D (oS a):=by
 obtain⟨rfl,_⟩:=ok;exact⟨e,trivial,⟨_,e⟩,λ_ _ _ _=>trivial⟩
theorem rg(b:X.calm=Mz)(hu:X.A.units+1<NV)(c:C9 X scope cl)(f:js.map (λj=>X.N[j]?)=fr.map Mt)(d:∀x∈fr,scope.names.lookup x=Mt .free)(hw:PI X tg iter wi)(k:∀pins C fp s H,PG (aV X pins scope (own++fr) cl C fp s H) tg g)(i:∀pins C fp s H,lb (aV X pins scope (own++fr) cl C fp s H) ifs tifs)(l:∀pins C fp s H,PE (aV X pins scope (own++fr) cl C fp s H) elt te)(e:∀x,Ny iter X.env x=pure x:=by intro _;rfl):PE X (.SetComp elt [⟨tg,iter,ifs,0⟩] scope pos) (iK own.length js wi g tifs (wW X.prog X.w X.K te) ([],aB X.w) oS):=gB (ok:=Ke X.prog X.w) (ob0:=aB X.w) (newAcc:=newSet (.type "set")) (body:=λD env=>do let v<-N2 elt env;PV elt.pos;let _<-call (.builtin "set.add") [.ref D,v]) b c f d hw rfl rfl (aW rfl rfl) (λh=>m9 h) (λa ob v ok=>ok.2.2.1 v) ⟨rfl,m_ _ _⟩ (λz=>nomatch z) (λ_ _ _=>rfl) (λ_ _ _=>rfl) (λ_ _ _=>rfl) k i (λpins C fp s H D o=>wX o hu (l pins C fp s H)) Aj e
end
noncomputable def Fills(prog:MX)(w:M_)(A:Nc)(S:MD)(e:Na)(J:Nat->NF->Prop)(P:Nat->Mv->Prop)(n:Nat):Prop:=∀(i:Nat)(v:Mv)(s:Mx)(ob:NF),i<n->P i v->(∀b o,b<S->e.get? b=Mt o->s.heap.get? b=Mt o)->s.heap.get? S=Mt ob->J i ob->∀(Q:Bool->Mx->Prop)(E:Mv->Mx->Prop),(∀b c d a,s.toks<=d->NW S s.heap c->c.get? S=Mt a->J (i+1) a->Q b {s with heap:=c,toks:=d})->wpAny (MO prog w) A (UX S v) Q E s
section
variable{prog:MX}{w:M_}{A:Nc}{R:Wn->Mx->Prop}{I:MD}{fp wr:List MD}{G:Array RK->Array RK->Prop}{n:Nat}{P:Nat->Mv->Prop}{St:Nat->Mx->Prop}
theorem oN(W:WalksS prog w A.in1 I fp wr G n P St)(S:MD)(x:S∉fp)(hw:∀b∈wr,S<b){M:Na}{J:Nat->NF->Prop}(F:Fills prog w A.in1 S M J P n):∀(k i:Nat)(s:Mx)(ob:NF),n-i=k->i<=n->St i s->(∀b o,b<S->M.get? b=Mt o->s.heap.get? b=Mt o)->s.heap.get? S=Mt ob->J i ob->(∀s' d,Moved (S::wr) G s s'->s'.heap.get? S=Mt d->J n d->R (.ok (.ret .none)) s')->codeAny (MO prog w) A (.builtin "set.update.loop" ⟨[.ref S,.ref I],[]⟩) R s:=by
 have u:S∉wr:=λh=>x (W.sub _ h);have c:∀b,b<S->b∉wr:=λb a z=>absurd (hw b z) (Nat.lt_asymm a);intro k;induction k with
 |zero=>
  intro i s ob O Q f l D L H;have E:i=n:=by omega
  subst E;refine NU Rc ?_;rw[NN Pt _];show wpAny _ A.in1 (OC (.ref I)>>=_) _ _ s;refine Ms (W.done s _ _ f λs' g=>?_);show wpAny _ A.in1 (Wf M5) _ _ s';exact Mu (H s' ob (g.mono λb a=>MM _ a) (g.heap S _ u D) L)|succ k N=>
  intro i s ob O Q f l D L H;have j:i<n:=by omega
  refine NU Rc ?_;rw[NN Pt _];show wpAny _ A.in1 (OC (.ref I)>>=_) _ _ s;refine Ms (W.item i s _ _ j f λv s' hP q g=>?_);show wpAny _ A.in1 (RN [v] (UX S v)>>=_) _ _ s';refine Ms (M2 (F i v s' ob j hP (λb o a e=>g.heap b o (c b a) (l b o a e)) (g.heap S _ u D) L _ _ λ_ T U d p sb C K=>?_));refine Mu ⟨Oj Pt _,N (i+1) _ d (by omega) j (W.frame _ s' _ _ q p λb a o e=>?_) (λb o a e=>?_) C K λB m t r y=>?_⟩;.rw[sb.2 b (λh:b=S=>x (by rw[<-h];exact a))];exact e
  .show T.get? b=Mt o;rw[sb.2 b (M4 a)];exact g.heap b o (c b a) (l b o a e)
  .refine H B m (Moved.trans W.gtrans ((g.mono λb a=>MM _ a).then_heap p λb o a e=>?_) t) r y;rw[sb.2 b (λh:b=S=>a (by rw[h];exact MG))];exact e
end
section
variable{prog:MX}{w:M_}{A:Nc}{E:Mv->Mx->Prop}{s:Mx}
theorem code_set_new(a:Mv){Q₁:Mv->Mx->Prop}(h:Q₁ (.ref s.heap.objs.size) {s with heap:=s.heap.push (aB w)}):codeAny (MO prog w) A (.call (.builtin "set.__new__") ⟨[.type "set",a],[]⟩) (wants Q₁ E) s:=by
 refine PR ?_;show wpAny _ A.in1 (do Qd "set.__new__" ⟨[.type "set",a],[]⟩;TF (.builtin "set.__new__" ⟨[.type "set",a],[]⟩)) _ _ s;refine Ms (Px (PySem.F.newCall_set_1 a) (Mu ⟨Oj QB _,NU UG ?_⟩));rw[NN QB _];unfold Builtin.«set.__new__»SQ;have b:=sub_set_self;obtain⟨e,g,d,c,os⟩:=s;dsimp only;wp_walk;refine N9 (Mu ?_);dsimp only;simp only[V5];refine Ms (Wb (Mu ?_));exact Mu h
end
section
variable{prog:MX}{w:M_}{A:Nc}{E:Mv->Mx->Prop}{s:Mx}
theorem oO{l:MD}{items:Array Mv}{J:Nat->NF->Prop}{Q:Mv->Mx->Prop}(hh:A.handled=MA)(hl:s.heap.IsList l items)(J0:J 0 (aB w))(F:Fills prog w A.in1.in1.in1 s.heap.objs.size s.heap J (λi v=>items[i]?=Mt v) items.size)(h:∀(h':Na)(C:Nat)(ob:NF),h'.get? s.heap.objs.size=Mt ob->J items.size ob->(∀b o,b<s.heap.objs.size->s.heap.get? b=Mt o->h'.get? b=Mt o)->Q (.ref s.heap.objs.size) {s with heap:=h',toks:=C}):wpAny (MO prog w) A (call (.type "set") [.ref l]) Q E s:=by
 obtain⟨c,tl,a1⟩:=PySem.F.called_set.mro;have M:=PySem.F.called_set.made;have Y:=PySem.F.called_set.sub;refine Ry (PR ?_);show wpAny _ _ (WH (.type "set") _) _ _ _;refine Mu ⟨O8 _ (by decide+kernel),NU TR ?_⟩;rw[Vt (UH "set" [.ref l] []) rfl];have h1:=PySem.F.called_set.notType;have h2:=PySem.F.called_set.canCreate;have a4:=PySem.F.typeCall_set_1 (.ref l);repeat(any_goals(first|assumption|wp_step))
 refine OH (code_set_new (.ref l) (E:=E) (Q₁:=λobj j=>obj=.ref s.heap.objs.size/\j={s with heap:=s.heap.push (aB w)}) ⟨rfl,rfl⟩) λr j K=>?_;cases r with
 |error e=>exact K|ok fl=>cases fl with
  |ret obj=>
   obtain⟨rfl,rfl⟩:=K;have hS:(s.heap.push (aB w)).get? s.heap.objs.size=Mt (aB w):=MJ _ rfl;have hT:Shared.TypeIs {s with heap:=s.heap.push (aB w)} (.ref s.heap.objs.size) "set":=⟨_,hS,rfl⟩;have a3:=PySem.F.called_set.init.lookup;have a5:=PySem.F.called_set.init.bind (.ref s.heap.objs.size);repeat(any_goals(first|assumption|wp_step))
   refine OH (OL (R:=wants (λr g=>r=.none/\∃h' C ob,g={s with heap:=h',toks:=C}/\h'.get? s.heap.objs.size=Mt ob/\J items.size ob/\(∀b o,b<s.heap.objs.size->s.heap.get? b=Mt o->h'.get? b=Mt o)) E) PySem.F.called_set.init.plain Uk (check_set_init_1 hT ?_)) λn g a=>?_
   .obtain⟨ol,q,z,X,y⟩:=hl;obtain⟨W,k,I,f⟩:=ol;simp only at z y;subst z;subst y;have p:(s.heap.push (aB w)).get? l=Mt {cls:=.type "list",dict:=k,data:=.seq items X,slots:=f}:=Mw _ q;have Z:=PySem.F.sub_list_set;have a0:=PySem.F.sub_list_frozenset;have a2:(Rx "list"==Rx "dict")=My:=by decide
    have x:(s.heap.push (aB w)).IsList l items:=⟨_,p,rfl,X,rfl⟩;unfold Builtin.«set.__init__»noKeywords Builtin.Frozenset.updateFrom;generalize U:RZ=PI;wp_walk;subst U;refine PZ x ?_;refine Ms (wpAny_runValue ?_);have u:l<s.heap.objs.size:=MH q;have O:A.in1.in1.in1.handled=MA:=by simp[hh]
    have t:l≠(s.heap.push (aB w)).objs.size:=by rw[ND];exact M4 (OS u)
    have T:s.heap.objs.size∉[(s.heap.push (aB w)).objs.size,l]:=by
     rw[ND];simp only[Nl,PD,Nj,or_false,not_or];exact⟨M4 (NZ _),N0 u⟩
    refine oN ((Vs O _ l t items).toS) s.heap.objs.size T (λb B=>?_) F (items.size-0) 0 _ (aB w) (by omega) (Nv _) ⟨⟨_,MJ _ rfl,rfl,rfl⟩,(x.push _)⟩ (λb o B e=>Mw _ (Mw _ e)) (Mw _ hS) J0 ?hR
    .rw[List.mem_singleton.mp B,ND];exact NZ _
    case hR=>
     intro s' ob D L V;obtain⟨h',g',d',G,H⟩:=s';have eg:g'=s.gens:=D.gens;have ed:d'=s.drawn:=D.drawn;have eo:H=s.os:=D.os;subst eg;subst ed;subst eo;show wpAny _ _ _ _ _ _;refine Mu ?_;show wpAny _ _ (Wf M5) _ _ _;refine Mu ⟨rfl,h',G,ob,rfl,L,V,λb o B e=>?_⟩;have S:b≠s.heap.objs.size:=M4 B;have P:b≠(s.heap.push (aB w)).objs.size:=by rw[ND];exact M4 (OS B)
     exact D.heap b o (by simp only[Nl,PD,Nj,or_false,not_or];exact⟨S,P⟩) (Mw _ (Mw _ e))
   .cases n with
    |error e=>exact a|ok m=>cases m with
     |ret r=>
      obtain⟨rfl,h',C,ob,rfl,L,V,N⟩:=a;repeat(any_goals(first|assumption|wp_step))
      exact h _ _ _ L V N|_=>exact a.elim
  |_=>exact K.elim
end
mutual
noncomputable def aE(h:Na):Mv->D->Prop
 |u,.aJ=>u=.none|u,.bl b=>u=.bool b|u,.int i=>∃t,u=.int i t|u,.str x=>∃t,u=.str x t|u,.tup d=>∃a c,u=.ref a/\h.IsTuple a c/\aG h c.toList d|u,.lst d=>∃a c,u=.ref a/\h.IsList a c/\aG h c.toList d|u,.bR _ _=>∃a,u=.ref a|u,.set _=>∃a,u=.ref a|u,.exc _ _=>∃a,u=.ref a|u,.fn _=>∃a,u=.ref a
noncomputable def aG(h:Na):List Mv->List D->Prop
 |us,[]=>us=[]|us,d::a=>∃u r,us=u::r/\aE h u d/\aG h r a
end
theorem aG.length{h:Na}:∀{us:List Mv}{ds:List D},aG h us ds->us.length=ds.length
 |_,[],q=>by simp only[aG]at q;rw[q];rfl|_,d::ds,q=>by
  simp only[aG]at q;obtain⟨u,r,rfl,_,q⟩:=q;simp[aG.length q]
theorem aG.get{h:Na}:∀{us:List Mv}{ds:List D}{i:Nat}{u:Mv},aG h us ds->us[i]?=Mt u->∃d,ds[i]?=Mt d/\aE h u d
 |_,[],_,_,q,e=>by simp only[aG]at q;rw[q]at e;simp at e|_,c::ds,i,u,q,e=>by
  simp only[aG]at q;obtain⟨x,r,rfl,a,q⟩:=q;cases i with
  |zero=>simp at e;subst e;exact⟨c,rfl,a⟩|succ i=>simpa using aG.get (i:=i) q (by simpa using e)
section
variable{X:Cx}{pins:List (MD×NF)}{σ:St}{H:Hp}{s:Mx}{B:Fb}
mutual
theorem c6(I:Inv X pins σ H s)(hK:X.K=B.K):∀{v:V}{u:Mv}{d:D},RelV v u->Is B H v d->aE s.heap u d
 |_,_,.aJ,r,i=>by simp only[Is]at i;subst i;simp only[aE];exact r|_,_,.bl _,r,i=>by simp only[Is]at i;subst i;simp only[aE];exact r|_,_,.int _,r,i=>by simp only[Is]at i;subst i;simp only[aE];exact r|_,_,.str _,r,i=>by simp only[Is]at i;subst i;simp only[aE];exact r|_,_,.tup k,r,i=>by
  simp only[Is]at i;obtain⟨a,j,rfl,h,g⟩:=i;obtain⟨b,c,e,_⟩:=I.tuple (by rw[hK];exact h.2);simp only[aE];exact⟨a,b.toArray,r,e,fm I hK c g⟩|_,_,.lst k,r,i=>by
  simp only[Is]at i;obtain⟨a,j,rfl,h,g⟩:=i;obtain⟨b,c,e,_⟩:=I.list (by rw[hK];exact h.2.sq);simp only[aE];exact⟨a,b.toArray,r,e.isList,fm I hK c g⟩|_,_,.bR _ _,r,i=>by
  simp only[Is]at i;obtain⟨a,j,rfl,_⟩:=i;simp only[aE];exact⟨a,r⟩|_,_,.set _,r,i=>by
  simp only[Is]at i;obtain⟨a,rfl,_⟩:=i;simp only[aE];exact⟨a,r⟩|_,_,.exc _ _,r,i=>by
  simp only[Is]at i;obtain⟨a,l,rfl,_⟩:=i;simp only[aE];exact⟨a,r⟩|_,_,.fn f,r,i=>by
  simp only[Is]at i;subst i;simp only[aE];exact⟨f,r⟩
theorem fm(I:Inv X pins σ H s)(hK:X.K=B.K):∀{vs:List V}{us:List Mv}{ds:List D},ak vs us->af B H vs ds->aG s.heap us ds
 |_,_,[],r,i=>by
  simp only[af]at i;subst i;cases r;simp only[aG]|_,_,d::ds,r,i=>by
  simp only[af]at i;obtain⟨x,f,rfl,e,c⟩:=i;cases r with|cons b a=>
   simp only[aG];exact⟨_,_,rfl,c6 I hK b e,fm I hK a c⟩
end
end
noncomputable def bx(f:D->D->Option Bool):List D->List D->Option Bool
 |x::d,y::c=>match f x y,bx f d c with
  |some a,Mt b=>Mt (a&&b)|_,_=>MA
 |_,_=>Mt Mz
noncomputable def di:Nat->D->D->Option Bool
 |0=>λ_ _=>MA|n+1=>λd e=>match d,e with
  |.tup f,.tup c=>(bx (di n) f c).map λb=>b&&f.length==c.length|.lst f,.lst c=>(bx (di n) f c).map λb=>b&&f.length==c.length|.aJ,.aJ=>Mt Mz|.bl a,.bl b=>Mt (a==b)|.bl a,.int b=>Mt ((if a then 1 else 0)==b)|.int a,.bl b=>Mt (a==(if b then 1 else 0))|.int a,.int b=>Mt (a==b)|.str a,.str b=>Mt (a==b)|.bR _ _,_=>MA|.set _,_=>MA|.exc _ _,_=>MA|.fn _,_=>MA|_,.bR _ _=>MA|_,.set _=>MA|_,.exc _ _=>MA|_,.fn _=>MA|_,_=>Mt My
theorem ck{f:D->D->Option Bool}:∀{xs ys:List D}{b:Bool},bx f xs ys=Mt b->(∀(j:Nat)(x y:D),xs[j]?=Mt x->ys[j]?=Mt y->∃c,f x y=Mt c)/\∀g:Nat->Bool,(∀(j:Nat)(x y:D),xs[j]?=Mt x->ys[j]?=Mt y->f x y=Mt (g j))->(N6 (min xs.length ys.length)).all g=b
 |[],ys,b,h=>by cases ys<;>(simp[bx]at h;subst h;exact⟨λj x y e=>absurd e (by simp),λg _=>(by simp)⟩)|x::xs,[],b,h=>by
  simp[bx]at h;subst h;exact⟨λj x y e d=>by simp at d,λg _=>by simp⟩|x::xs,y::ys,b,h=>by
  simp only[bx]at h;cases i:f x y with
  |none=>rw[i]at h;simp at h|some a=>cases m:bx f xs ys with
   |none=>rw[i,m]at h;simp at h|some c=>
    rw[i,m]at h;simp only[Ov]at h;obtain⟨p,o⟩:=ck m;refine⟨λj l k e d=>?_,λg n=>?_⟩;.cases j with
     |zero=>simp at e d;subst e d;exact⟨a,i⟩|succ j=>exact p j l k (by simpa using e) (by simpa using d)
    .have e0:g 0=a:=by
      have:=n 0 x y rfl rfl;rw[i]at this;exact(MI this).symm
     have q:=o (λj=>g (j+1)) λj l k e d=>n (j+1) l k (by simpa using e) (by simpa using d);rw[<-h,<-q,<-e0];have:min (x::xs).length (y::ys).length=min xs.length ys.length+1:=by simp only[Nn];omega
     rw[this,List.range_succ_eq_map,Qy,List.all_map];rfl
theorem eQ{h:Na}{a:MD}{its its':Array Mv}(p:h.IsTuple a its)(q:h.IsTuple a its'):its=its':=by
 obtain⟨o,e,c,n,d⟩:=p;obtain⟨g,b,j,i,f⟩:=q;rw[e]at b;cases b;rw[d]at f;cases f;rfl
theorem fU{h:Na}{a:MD}{its its':Array Mv}(p:h.IsList a its)(q:h.IsList a its'):its=its':=by
 obtain⟨o,e,c,n,d⟩:=p;obtain⟨g,b,j,i,f⟩:=q;rw[e]at b;cases b;rw[d]at f;cases f;rfl
theorem l4{h:Na}{a:MD}{its its':Array Mv}(p:h.IsList a its)(q:h.IsTuple a its'):False:=by
 obtain⟨o,e,c,n,d⟩:=p;obtain⟨g,b,f,i,j⟩:=q;rw[e]at b;cases b;rw[c]at f;exact absurd (Value.type.inj f) (by decide)
theorem jZ{h:Na}:∀(n:Nat){u:Mv}{d e:D}{b:Bool},aE h u d->aE h u e->di n d e=Mt b->b=Mz
  |0,_,_,_,_,_,_,q=>by cases q|n+1,u,d,e,b,p,g,q=>by
    have step:∀{its:List Mv}{xs ys:List D}{c:Bool},aG h its xs->aG h its ys->bx (di n) xs ys=Mt c->(c&&xs.length==ys.length)=Mz:=λ{its xs ys c}m i2 k=>by
      obtain⟨B,A⟩:=ck k;have:=A (λ_=>Mz) λj x y ex w=>by
        obtain⟨z,r⟩:=B j x y ex w;have v:j<its.length:=by rw[m.length];exact(List.getElem?_eq_some_iff.mp ex).1
        obtain⟨G,e1,C⟩:=m.get (MZ v);obtain⟨F,e2,c2⟩:=i2.get (MZ v);rw[ex]at e1;rw[w]at e2;cases e1;cases e2;rw[r,jZ n C c2 r]
      rw[<-this,<-m.length,<-i2.length];simp
    cases d<;>first
      |exact nomatch(show(MA:Option Bool)=Mt b from q)|(cases e<;>first
          |exact nomatch(show(MA:Option Bool)=Mt b from q)
          | (simp only[aE]at p g;first
               | (exfalso;(first|(obtain⟨_,rfl⟩:=p)|(obtain⟨_,_,rfl,_⟩:=p)|subst p)<;>(first|(obtain⟨_,z⟩:=g;cases z;done)|(obtain⟨_,_,z,_⟩:=g;cases z;done)|(cases g;done)))|(subst p;cases g;have q:=MI (show Mt _=Mt b from q);rw[<-q];try simp;done)|(obtain⟨t,rfl⟩:=p;obtain⟨E,z⟩:=g;cases z;have q:=MI (show Mt _=Mt b from q);rw[<-q];try simp;done)|skip))
    all_goals
      obtain⟨a,its,rfl,l,s⟩:=p;obtain⟨H,o,z,f,i⟩:=g;cases z
    · obtain rfl:=eQ l f;obtain⟨c,k,rfl⟩:=Option.map_eq_some_iff.mp (show(bx (di n) _ _).map _=Mt b from q);exact step s i k
    ·exact(l4 f l).elim
    ·exact(l4 l f).elim
    · obtain rfl:=fU l f;obtain⟨c,k,rfl⟩:=Option.map_eq_some_iff.mp (show(bx (di n) _ _).map _=Mt b from q);exact step s i k
theorem l5{h:Na}{n:Nat}{its its':Array Mv}{xs ys:List D}{b:Bool}{A:Nc}{s:Mx}(k:aG s.heap its.toList xs)(a:aG s.heap its'.toList ys)(q:(bx (di n) xs ys).map (λb=>b&&xs.length==ys.length)=Mt b)(B:∀{u v:Mv}{d e:D}{c:Bool},aE s.heap u d->aE s.heap v e->di n d e=Mt c->Ql A s u v c):∃e:Nat->Bool,(∀j(m:j<its.size)(l:j<its'.size),Ql A s its[j] its'[j] (e j))/\((N6 (min its.size its'.size)).all e&&its.size==its'.size)=b:=by
 simp only[RT]at q;obtain⟨c,G,rfl⟩:=q;obtain⟨r,p⟩:=ck G;have w:its.size=xs.length:=by have:=k.length;simpa using this
 have t:its'.size=ys.length:=by have:=a.length;simpa using this
 have all:∀j:Nat,∃g:Bool,∀(x y:D),xs[j]?=Mt x->ys[j]?=Mt y->di n x y=Mt g:=λj=>by cases E:xs[j]? with
  |none=>exact⟨Mz,λx y z=>nomatch z⟩|some x=>cases C:ys[j]? with
   |none=>exact⟨Mz,λx y _ z=>nomatch z⟩|some y=>
    obtain⟨g,f⟩:=r j x y E C;exact⟨g,λJ I z o=>by cases z;cases o;exact f⟩
 obtain⟨g,f⟩:∃g:Nat->Bool,∀(j:Nat)(x y:D),xs[j]?=Mt x->ys[j]?=Mt y->di n x y=Mt (g j):=⟨λj=>(all j).choose,λj=>(all j).choose_spec⟩;refine⟨g,λj m l=>?_,?_⟩
 .obtain⟨d,hd,H⟩:=k.get (i:=j) (u:=its[j]) (by simp[m]);obtain⟨e,F,c2⟩:=a.get (i:=j) (u:=its'[j]) (by simp[l]);exact B H c2 (f j d e hd F)
 .rw[w,t,p g f]
theorem DX{n:Nat}{A:Nc}{s:Mx}{i l:MD}{f a:Array Mv}{xs ys:List D}{b:Bool}(p:aG s.heap f.toList xs)(o:aG s.heap a.toList ys)(k:s.heap.IsTuple i f)(j:s.heap.IsTuple l a)(m:A.units<NV)(q:di (n+1) (.tup xs) (.tup ys)=Mt b)(z:∀{u v:Mv}{d e:D}{c:Bool},aE s.heap u d->aE s.heap v e->di n d e=Mt c->Ql A.in1 s u v c):Ul A s (.ref i) (.ref l) b/\Sv A s (.ref i) (.ref l) (!b)/\Ql A s (.ref i) (.ref l) b:=by
 obtain⟨g,w,x⟩:=l5 (h:=s.heap) p o q z;have r:Ul A s (.ref i) (.ref l) b:=x▸SeqAt.RcAt.tuples k j m w;have y:Sv A s (.ref i) (.ref l) (!b):=x▸SeqAt.RcNeAt.tuples k j m w;refine⟨r,y,?_⟩;by_cases t:i=l
 .subst t;have:b=Mz:=jZ (h:=s.heap) (n+1) (u:=.ref i) (by simp only[aE];exact⟨i,f,rfl,k,p⟩) (by simp only[aE];exact⟨i,a,rfl,j,o⟩) q;subst this;exact .same _
 .exact .of_refs t r
theorem DY{n:Nat}{A:Nc}{s:Mx}{k o:MD}{a f:Array Mv}{xs ys:List D}{b:Bool}(t:aG s.heap a.toList xs)(r:aG s.heap f.toList ys)(j:s.heap.IsList k a)(i:s.heap.IsList o f)(l:A.units<NV)(q:di (n+1) (.lst xs) (.lst ys)=Mt b)(E:∀{u v:Mv}{d e:D}{c:Bool},aE s.heap u d->aE s.heap v e->di n d e=Mt c->Ql A.in1 s u v c):Ul A s (.ref k) (.ref o) b/\Sv A s (.ref k) (.ref o) (!b)/\Ql A s (.ref k) (.ref o) b:=by
 obtain⟨g,B,x⟩:=l5 (h:=s.heap) t r q E;have w:Ul A s (.ref k) (.ref o) b/\Sv A s (.ref k) (.ref o) (!b):=by
  by_cases p:a.size=f.size
  .have m:(N6 a.size).all g=b:=by rw[<-p]at x;simpa using x
   exact⟨m▸SeqAt.RcAt.lists j i p l B,m▸SeqAt.RcNeAt.lists j i p l B⟩
  .have m:b=My:=by rw[<-x];simp[p]
   subst m;exact⟨SeqAt.RcAt.lists_lengths j i (by simpa using p) l,SeqAt.RcNeAt.lists_lengths j i (by simpa using p) l⟩
 obtain⟨y,C⟩:=w;refine⟨y,C,?_⟩;by_cases z:k=o
 .subst z;have:b=Mz:=jZ (h:=s.heap) (n+1) (u:=.ref k) (by simp only[aE];exact⟨k,a,rfl,j,t⟩) (by simp only[aE];exact⟨k,f,rfl,i,r⟩) q;subst this;exact .same _
 .exact .of_refs z y
theorem hW:∀(n:Nat){A:Nc}{s:Mx}{u v:Mv}{d e:D}{b:Bool},aE s.heap u d->aE s.heap v e->A.units+n<NV->di n d e=Mt b->Ul A s u v b/\Sv A s u v (!b)/\Ql A s u v b
 |0,_,_,_,_,_,_,_,_,_,_,q=>by cases q|n+1,A,s,u,v,d,e,b,p,i,hu,q=>by
  have a:A.units<NV:=by omega
  have H:∀{u v:Mv}{d e:D}{c:Bool},aE s.heap u d->aE s.heap v e->di n d e=Mt c->Ql A.in1 s u v c:=λK c2 J=>(hW n K c2 (by rw[Qe];omega) J).2.2;have G:=q;cases d with
  |aJ=>cases e with
   |aJ=>
    simp only[aE]at p i;subst p;subst i;have q:=MI (show Mt _=Mt b from q);subst q;exact⟨SeqAt.RcAt.none_none,SeqAt.RcNeAt.none_none,SeqAt.EqAt.same _⟩|bl y=>
    simp only[aE]at p i;subst p;subst i;have q:=MI (show Mt _=Mt b from q);subst q;exact⟨SeqAt.RcAt.none_bool _,SeqAt.RcNeAt.none_bool _,SeqAt.EqAt.none_bool _⟩|int y=>
    simp only[aE]at p i;subst p;obtain⟨w,rfl⟩:=i;have q:=MI (show Mt _=Mt b from q);subst q;exact⟨SeqAt.RcAt.none_int _ _,SeqAt.RcNeAt.none_int _ _,SeqAt.EqAt.none_int _ _⟩|str y=>
    simp only[aE]at p i;subst p;obtain⟨w,rfl⟩:=i;have q:=MI (show Mt _=Mt b from q);subst q;exact⟨SeqAt.RcAt.none_str _ _,SeqAt.RcNeAt.none_str _ _,SeqAt.EqAt.none_str _ _⟩|tup r=>
    simp only[aE]at p i;subst p;obtain⟨C,j,rfl,g,l⟩:=i;have q:=MI (show Mt _=Mt b from q);subst q;exact⟨SeqAt.RcAt.none_tuple g a,SeqAt.RcNeAt.none_tuple g a,SeqAt.EqAt.none_tuple g a⟩|lst r=>
    simp only[aE]at p i;subst p;obtain⟨C,j,rfl,g,l⟩:=i;have q:=MI (show Mt _=Mt b from q);subst q;exact⟨SeqAt.RcAt.none_list g a,SeqAt.RcNeAt.none_list g a,SeqAt.EqAt.none_list g a⟩|bR o t=>exact nomatch(show(MA:Option Bool)=Mt b from q)|set o=>exact nomatch(show(MA:Option Bool)=Mt b from q)|exc c2 B=>exact nomatch(show(MA:Option Bool)=Mt b from q)|fn F=>exact nomatch(show(MA:Option Bool)=Mt b from q)
  |bl x=>cases e with
   |aJ=>
    simp only[aE]at p i;subst p;subst i;have q:=MI (show Mt _=Mt b from q);subst q;exact⟨SeqAt.RcAt.bool_none _,SeqAt.RcNeAt.bool_none _,SeqAt.EqAt.bool_none _⟩|bl y=>
    simp only[aE]at p i;subst p;subst i;have q:=MI (show Mt _=Mt b from q);subst q;exact⟨SeqAt.RcAt.bool_bool _ _,SeqAt.RcNeAt.bool_bool _ _,SeqAt.EqAt.bool_bool _ _⟩|int y=>
    simp only[aE]at p i;subst p;obtain⟨w,rfl⟩:=i;have q:=MI (show Mt _=Mt b from q);subst q;exact⟨SeqAt.RcAt.bool_int _ _ _,SeqAt.RcNeAt.bool_int _ _ _,SeqAt.EqAt.bool_int _ _ _⟩|str y=>
    simp only[aE]at p i;subst p;obtain⟨w,rfl⟩:=i;have q:=MI (show Mt _=Mt b from q);subst q;exact⟨SeqAt.RcAt.bool_str _ _ _,SeqAt.RcNeAt.bool_str _ _ _,SeqAt.EqAt.bool_str _ _ _⟩|tup r=>
    simp only[aE]at p i;subst p;obtain⟨C,j,rfl,g,l⟩:=i;have q:=MI (show Mt _=Mt b from q);subst q;exact⟨SeqAt.RcAt.bool_tuple _ g a,SeqAt.RcNeAt.bool_tuple _ g a,SeqAt.EqAt.bool_tuple _ g a⟩|lst r=>
    simp only[aE]at p i;subst p;obtain⟨C,j,rfl,g,l⟩:=i;have q:=MI (show Mt _=Mt b from q);subst q;exact⟨SeqAt.RcAt.bool_list _ g a,SeqAt.RcNeAt.bool_list _ g a,SeqAt.EqAt.bool_list _ g a⟩|bR o t=>exact nomatch(show(MA:Option Bool)=Mt b from q)|set o=>exact nomatch(show(MA:Option Bool)=Mt b from q)|exc c2 B=>exact nomatch(show(MA:Option Bool)=Mt b from q)|fn F=>exact nomatch(show(MA:Option Bool)=Mt b from q)
  |int x=>cases e with
   |aJ=>
    simp only[aE]at p i;obtain⟨z,rfl⟩:=p;subst i;have q:=MI (show Mt _=Mt b from q);subst q;exact⟨SeqAt.RcAt.int_none _ _,SeqAt.RcNeAt.int_none _ _,SeqAt.EqAt.int_none _ _⟩|bl y=>
    simp only[aE]at p i;obtain⟨z,rfl⟩:=p;subst i;have q:=MI (show Mt _=Mt b from q);subst q;exact⟨SeqAt.RcAt.int_bool _ _ _,SeqAt.RcNeAt.int_bool _ _ _,SeqAt.EqAt.int_bool _ _ _⟩|int y=>
    simp only[aE]at p i;obtain⟨z,rfl⟩:=p;obtain⟨w,rfl⟩:=i;have q:=MI (show Mt _=Mt b from q);subst q;exact⟨SeqAt.RcAt.int_int _ _ _ _,SeqAt.RcNeAt.int_int _ _ _ _,SeqAt.EqAt.int_int _ _ _ _⟩|str y=>
    simp only[aE]at p i;obtain⟨z,rfl⟩:=p;obtain⟨w,rfl⟩:=i;have q:=MI (show Mt _=Mt b from q);subst q;exact⟨SeqAt.RcAt.int_str _ _ _ _,SeqAt.RcNeAt.int_str _ _ _ _,Vi _ _ _ _⟩|tup r=>
    simp only[aE]at p i;obtain⟨z,rfl⟩:=p;obtain⟨C,j,rfl,g,l⟩:=i;have q:=MI (show Mt _=Mt b from q);subst q;exact⟨SeqAt.RcAt.int_tuple _ _ g a,SeqAt.RcNeAt.int_tuple _ _ g a,SeqAt.EqAt.int_tuple _ _ g a⟩|lst r=>
    simp only[aE]at p i;obtain⟨z,rfl⟩:=p;obtain⟨C,j,rfl,g,l⟩:=i;have q:=MI (show Mt _=Mt b from q);subst q;exact⟨SeqAt.RcAt.int_list _ _ g a,SeqAt.RcNeAt.int_list _ _ g a,SeqAt.EqAt.int_list _ _ g a⟩|bR o t=>exact nomatch(show(MA:Option Bool)=Mt b from q)|set o=>exact nomatch(show(MA:Option Bool)=Mt b from q)|exc c2 B=>exact nomatch(show(MA:Option Bool)=Mt b from q)|fn F=>exact nomatch(show(MA:Option Bool)=Mt b from q)
  |str x=>cases e with
   |aJ=>
    simp only[aE]at p i;obtain⟨z,rfl⟩:=p;subst i;have q:=MI (show Mt _=Mt b from q);subst q;exact⟨SeqAt.RcAt.str_none _ _,SeqAt.RcNeAt.str_none _ _,SeqAt.EqAt.str_none _ _⟩|bl y=>
    simp only[aE]at p i;obtain⟨z,rfl⟩:=p;subst i;have q:=MI (show Mt _=Mt b from q);subst q;exact⟨SeqAt.RcAt.str_bool _ _ _,SeqAt.RcNeAt.str_bool _ _ _,SeqAt.EqAt.str_bool _ _ _⟩|int y=>
    simp only[aE]at p i;obtain⟨z,rfl⟩:=p;obtain⟨w,rfl⟩:=i;have q:=MI (show Mt _=Mt b from q);subst q;exact⟨SeqAt.RcAt.str_int _ _ _ _,SeqAt.RcNeAt.str_int _ _ _ _,Vj _ _ _ _⟩|str y=>
    simp only[aE]at p i;obtain⟨z,rfl⟩:=p;obtain⟨w,rfl⟩:=i;have q:=MI (show Mt _=Mt b from q);subst q;exact⟨SeqAt.RcAt.str_str _ _ _ _,SeqAt.RcNeAt.str_str _ _ _ _,SeqAt.EqAt.str_str _ _ _ _⟩|tup r=>
    simp only[aE]at p i;obtain⟨z,rfl⟩:=p;obtain⟨C,j,rfl,g,l⟩:=i;have q:=MI (show Mt _=Mt b from q);subst q;exact⟨SeqAt.RcAt.str_tuple _ _ g a,SeqAt.RcNeAt.str_tuple _ _ g a,SeqAt.EqAt.str_tuple _ _ g a⟩|lst r=>
    simp only[aE]at p i;obtain⟨z,rfl⟩:=p;obtain⟨C,j,rfl,g,l⟩:=i;have q:=MI (show Mt _=Mt b from q);subst q;exact⟨SeqAt.RcAt.str_list _ _ g a,SeqAt.RcNeAt.str_list _ _ g a,SeqAt.EqAt.str_list _ _ g a⟩|bR o t=>exact nomatch(show(MA:Option Bool)=Mt b from q)|set o=>exact nomatch(show(MA:Option Bool)=Mt b from q)|exc c2 B=>exact nomatch(show(MA:Option Bool)=Mt b from q)|fn F=>exact nomatch(show(MA:Option Bool)=Mt b from q)
  |tup I=>cases e with
   |aJ=>
    simp only[aE]at p i;obtain⟨E,k,rfl,h,m⟩:=p;subst i;have q:=MI (show Mt _=Mt b from q);subst q;exact⟨SeqAt.RcAt.tuple_none h a,SeqAt.RcNeAt.tuple_none h a,SeqAt.EqAt.tuple_none h a⟩|bl y=>
    simp only[aE]at p i;obtain⟨E,k,rfl,h,m⟩:=p;subst i;have q:=MI (show Mt _=Mt b from q);subst q;exact⟨SeqAt.RcAt.tuple_bool _ h a,SeqAt.RcNeAt.tuple_bool _ h a,SeqAt.EqAt.tuple_bool _ h a⟩|int y=>
    simp only[aE]at p i;obtain⟨E,k,rfl,h,m⟩:=p;obtain⟨w,rfl⟩:=i;have q:=MI (show Mt _=Mt b from q);subst q;exact⟨SeqAt.RcAt.tuple_int _ _ h a,SeqAt.RcNeAt.tuple_int _ _ h a,SeqAt.EqAt.tuple_int _ _ h a⟩|str y=>
    simp only[aE]at p i;obtain⟨E,k,rfl,h,m⟩:=p;obtain⟨w,rfl⟩:=i;have q:=MI (show Mt _=Mt b from q);subst q;exact⟨SeqAt.RcAt.tuple_str _ _ h a,SeqAt.RcNeAt.tuple_str _ _ h a,SeqAt.EqAt.tuple_str _ _ h a⟩|tup r=>
    simp only[aE]at p i;obtain⟨E,k,rfl,h,m⟩:=p;obtain⟨C,j,rfl,g,l⟩:=i;exact DX m l h g a G H|lst r=>
    simp only[aE]at p i;obtain⟨E,k,rfl,h,m⟩:=p;obtain⟨C,j,rfl,g,l⟩:=i;have q:=MI (show Mt _=Mt b from q);subst q;exact⟨SeqAt.RcAt.tuple_list h g a,SeqAt.RcNeAt.tuple_list h g a,SeqAt.EqAt.tuple_list h g a⟩|bR o t=>exact nomatch(show(MA:Option Bool)=Mt b from q)|set o=>exact nomatch(show(MA:Option Bool)=Mt b from q)|exc c2 B=>exact nomatch(show(MA:Option Bool)=Mt b from q)|fn F=>exact nomatch(show(MA:Option Bool)=Mt b from q)
  |lst I=>cases e with
   |aJ=>
    simp only[aE]at p i;obtain⟨E,k,rfl,h,m⟩:=p;subst i;have q:=MI (show Mt _=Mt b from q);subst q;exact⟨SeqAt.RcAt.list_none h a,SeqAt.RcNeAt.list_none h a,SeqAt.EqAt.list_none h a⟩|bl y=>
    simp only[aE]at p i;obtain⟨E,k,rfl,h,m⟩:=p;subst i;have q:=MI (show Mt _=Mt b from q);subst q;exact⟨SeqAt.RcAt.list_bool _ h a,SeqAt.RcNeAt.list_bool _ h a,SeqAt.EqAt.list_bool _ h a⟩|int y=>
    simp only[aE]at p i;obtain⟨E,k,rfl,h,m⟩:=p;obtain⟨w,rfl⟩:=i;have q:=MI (show Mt _=Mt b from q);subst q;exact⟨SeqAt.RcAt.list_int _ _ h a,SeqAt.RcNeAt.list_int _ _ h a,SeqAt.EqAt.list_int _ _ h a⟩|str y=>
    simp only[aE]at p i;obtain⟨E,k,rfl,h,m⟩:=p;obtain⟨w,rfl⟩:=i;have q:=MI (show Mt _=Mt b from q);subst q;exact⟨SeqAt.RcAt.list_str _ _ h a,SeqAt.RcNeAt.list_str _ _ h a,SeqAt.EqAt.list_str _ _ h a⟩|tup r=>
    simp only[aE]at p i;obtain⟨E,k,rfl,h,m⟩:=p;obtain⟨C,j,rfl,g,l⟩:=i;have q:=MI (show Mt _=Mt b from q);subst q;exact⟨SeqAt.RcAt.list_tuple h g a,SeqAt.RcNeAt.list_tuple h g a,SeqAt.EqAt.list_tuple h g a⟩|lst r=>
    simp only[aE]at p i;obtain⟨E,k,rfl,h,m⟩:=p;obtain⟨C,j,rfl,g,l⟩:=i;exact DY m l h g a G H|bR o t=>exact nomatch(show(MA:Option Bool)=Mt b from q)|set o=>exact nomatch(show(MA:Option Bool)=Mt b from q)|exc c2 B=>exact nomatch(show(MA:Option Bool)=Mt b from q)|fn F=>exact nomatch(show(MA:Option Bool)=Mt b from q)
  |bR ks L=>exact nomatch(show(MA:Option Bool)=Mt b from q)|set ks=>exact nomatch(show(MA:Option Bool)=Mt b from q)|exc c M=>exact nomatch(show(MA:Option Bool)=Mt b from q)|fn f=>exact nomatch(show(MA:Option Bool)=Mt b from q)
theorem j0{h:Na}{n:Nat}{its:List Mv}{xs ys e:List D}{a b:Bool}(l:aG h its xs)(i2:aG h its ys)(q:bx (di n) xs e=Mt a)(B:bx (di n) ys e=Mt b)(G:∀{u:Mv}{d d' x:D}{a b:Bool},aE h u d->aE h u d'->di n d x=Mt a->di n d' x=Mt b->a=b):(a&&xs.length==e.length)=(b&&ys.length==e.length):=by
 obtain⟨o,C⟩:=ck q;obtain⟨k,i⟩:=ck B;have p:xs.length=ys.length:=l.length.symm.trans i2.length;have same:∀j x y z,xs[j]?=Mt x->ys[j]?=Mt y->e[j]?=Mt z->di n x z=di n y z:=λj x y z e1 e2 e3=>by
  obtain⟨N,s⟩:=o j x z e1 e3;obtain⟨c2,r⟩:=k j y z e2 e3;have c:j<its.length:=by rw[l.length];exact(List.getElem?_eq_some_iff.mp e1).1
  obtain⟨M,v,F⟩:=l.get (MZ c);obtain⟨L,t,E⟩:=i2.get (MZ c);rw[e1]at v;rw[e2]at t;cases v;cases t;rw[s,r,G F E s r]
 have all:∀j:Nat,∃g:Bool,∀(x z:D),xs[j]?=Mt x->e[j]?=Mt z->di n x z=Mt g:=λj=>by cases I:xs[j]? with
  |none=>exact⟨Mz,λx y z=>nomatch z⟩|some x=>cases H:e[j]? with
   |none=>exact⟨Mz,λx y _ z=>nomatch z⟩|some z=>
    obtain⟨g,f⟩:=o j x z I H;exact⟨g,λK J w A=>by cases w;cases A;exact f⟩
 obtain⟨g,f⟩:∃g:Nat->Bool,∀(j:Nat)(x z:D),xs[j]?=Mt x->e[j]?=Mt z->di n x z=Mt (g j):=⟨λj=>(all j).choose,λj=>(all j).choose_spec⟩;have m:∀(j:Nat)(y z:D),ys[j]?=Mt y->e[j]?=Mt z->di n y z=Mt (g j):=λj y z e2 e3=>by
  have c:j<xs.length:=by rw[p];exact(List.getElem?_eq_some_iff.mp e2).1
  rw[<-same j xs[j] y z (MZ c) e2 e3];exact f j _ z (MZ c) e3
 rw[<-C g f,<-i g m,p]
theorem j3{h:Na}:∀(n:Nat){u:Mv}{d d' x:D}{a b:Bool},aE h u d->aE h u d'->di n d x=Mt a->di n d' x=Mt b->a=b
  |0,_,_,_,_,_,_,_,_,q,_=>by cases q|n+1,u,d,d',x,a,b,p,g,q,e=>by
    cases d<;>first
      |exact nomatch(show(MA:Option Bool)=Mt a from q)|(cases d'<;>first
          |exact nomatch(show(MA:Option Bool)=Mt b from e)
          | (simp only[aE]at p g;first
               | (exfalso;(first|(obtain⟨_,rfl⟩:=p)|(obtain⟨_,_,rfl,_⟩:=p)|subst p)<;>(first|(obtain⟨_,z⟩:=g;cases z;done)|(obtain⟨_,_,z,_⟩:=g;cases z;done)|(cases g;done)))|(subst p;cases g;rw[q]at e;exact MI e)|(obtain⟨t,rfl⟩:=p;obtain⟨t',z⟩:=g;cases z;rw[q]at e;exact MI e)|skip))
    all_goals
      obtain⟨C,its,rfl,k,w⟩:=p;obtain⟨B,v,z,f,j⟩:=g;cases z
    · obtain rfl:=eQ k f;cases x with
      |tup y=>
        obtain⟨c,o,rfl⟩:=Option.map_eq_some_iff.mp (show(bx (di n) _ _).map _=Mt a from q);obtain⟨A,i,rfl⟩:=Option.map_eq_some_iff.mp (show(bx (di n) _ _).map _=Mt b from e);exact j0 w j o i λm l s r=>j3 n m l s r|bR _ _=>exact nomatch(show(MA:Option Bool)=Mt a from q)|set _=>exact nomatch(show(MA:Option Bool)=Mt a from q)|exc _ _=>exact nomatch(show(MA:Option Bool)=Mt a from q)|fn _=>exact nomatch(show(MA:Option Bool)=Mt a from q)|_=>exact(MI (show Mt My=Mt a from q)).symm.trans (MI (show Mt My=Mt b from e))
    ·exact(l4 f k).elim
    ·exact(l4 k f).elim
    · obtain rfl:=fU k f;cases x with
      |lst y=>
        obtain⟨c,o,rfl⟩:=Option.map_eq_some_iff.mp (show(bx (di n) _ _).map _=Mt a from q);obtain⟨A,i,rfl⟩:=Option.map_eq_some_iff.mp (show(bx (di n) _ _).map _=Mt b from e);exact j0 w j o i λm l s r=>j3 n m l s r|bR _ _=>exact nomatch(show(MA:Option Bool)=Mt a from q)|set _=>exact nomatch(show(MA:Option Bool)=Mt a from q)|exc _ _=>exact nomatch(show(MA:Option Bool)=Mt a from q)|fn _=>exact nomatch(show(MA:Option Bool)=Mt a from q)|_=>exact(MI (show Mt My=Mt a from q)).symm.trans (MI (show Mt My=Mt b from e))
noncomputable def aS:Nat:=60
noncomputable def LW:D->D->M D:=λd e=>do
 let b<-M.get (di aS d e)pure (.bl b)
noncomputable def LX:D->D->M D:=λd e=>do
 let b<-M.get (di aS d e)pure (.bl (!b))
noncomputable def wY(x:D):List D->Option Bool
 |[]=>Mt My|y::c=>match di 50 y x,wY x c with
  |some a,Mt b=>Mt (a||b)|_,_=>MA
noncomputable def Lu(neg:Bool):D->D->M D:=λd e=>do
 let a<-M.get (items e)let b<-M.get (wY d a)pure (.bl (if neg then !b else b))
section
variable{X:Cx}{F:Fx}
theorem GK(hu:X.A.units+64<NV):eN X F (NI .Eq) LW:=⟨λa s i H k x y v u d e Q I f c l hK g i2 q=>by
 obtain⟨b,h,q⟩:=M.run_get.mp q;exact EqBoolInt.of_rc (hW aS (c6 I hK f g) (c6 I hK c i2) (by unfold aS;omega) h).1 ⟨.bl b,H,I,rfl,q _ H .refl (by simp only[Is])⟩⟩
theorem GL(hu:X.A.units+64<NV):eN X F (NI .NotEq) LX:=⟨λa s i H k x y v u d e Q I f c l hK g i2 q=>by
 obtain⟨b,h,q⟩:=M.run_get.mp q;exact EqBoolInt.of_rcne (hW aS (c6 I hK f g) (c6 I hK c i2) (by unfold aS;omega) h).2.1 ⟨.bl (!b),H,I,rfl,q _ H .refl (by simp only[Is])⟩⟩
theorem oP{x:D}:∀{ys:List D}{b:Bool},wY x ys=Mt b->(∀y∈ys,∃c,di 50 y x=Mt c)/\(b=Mz↔∃y∈ys,di 50 y x=Mt Mz)
 |[],b,h=>by
  simp only[wY,Ov]at h;subst h;exact⟨λy j=>(nomatch j),⟨λz=>(nomatch z),λ⟨y,j,_⟩=>(nomatch j)⟩⟩|y::ys,b,h=>by
  simp only[wY]at h;cases f:di 50 y x with
  |none=>rw[f]at h;simp at h|some a=>cases k:wY x ys with
   |none=>rw[f,k]at h;simp at h|some c=>
    rw[f,k]at h;simp only[Ov]at h;obtain⟨m,l⟩:=oP k;refine⟨λz i=>?_,?_⟩
    .rcases List.mem_cons.mp i with rfl|i;.exact⟨a,f⟩
     .exact m z i
    .rw[<-h,Qq,l];constructor
     .rintro(z|⟨g,d,e⟩);.exact⟨y,MG,by rw[f,z]⟩
      .exact⟨g,MM _ d,e⟩
     .rintro⟨g,d,e⟩;rcases List.mem_cons.mp d with rfl|d;.rw[f]at e;exact .inl (MI e)
      .exact .inr ⟨g,d,e⟩
theorem gE{s:Mx}{A:Nc}{its:Array Mv}{ys:List D}{x:D}{v:Mv}{b:Bool}(o:aG s.heap its.toList ys)(z:aE s.heap v x)(hu:A.units+51<NV)(q:wY x ys=Mt b):∃e:Mv->Bool,(∀y,y∈its->Ql A.in1 s y v (e y))/\its.any e=b:=by classical
 obtain⟨w,t⟩:=oP q;refine⟨λu=>decide (∃y∈ys,aE s.heap u y/\di 50 y x=Mt Mz),λu n=>?_,?_⟩
 .obtain⟨i,j,rfl⟩:=Array.mem_iff_getElem.mp n;obtain⟨y,a,l⟩:=o.get (i:=i) (u:=its[i]) (by simp[j]);obtain⟨c,p⟩:=w y (Nz a);have:decide (∃y∈ys,aE s.heap its[i] y/\di 50 y x=Mt Mz)=c:=by cases c with
   |true=>exact decide_eq_true ⟨y,Nz a,l,p⟩|false=>
    refine decide_eq_false λm=>?_;obtain⟨r,_,k,e⟩:=m;have:=j3 50 l k p e;cases this
  show Ql A.in1 s its[i] v (decide (∃y∈ys,aE s.heap its[i] y/\di 50 y x=Mt Mz));rw[this];exact(hW 50 l z (by rw[Qe];omega) p).2.2
 .have d:its.any (λu=>decide (∃y∈ys,aE s.heap u y/\di 50 y x=Mt Mz))=Mz↔b=Mz:=by
   rw[t,Array.any_eq_true];constructor
   .rintro⟨i,j,h⟩;obtain⟨y,a,_,e⟩:=of_decide_eq_true h;exact⟨y,a,e⟩
   .rintro⟨y,a,e⟩;obtain⟨i,j⟩:=List.mem_iff_getElem?.mp a;have g:i<its.size:=by have:=o.length;have:=(List.getElem?_eq_some_iff.mp j).1;simp at*;omega
    refine⟨i,g,decide_eq_true ⟨y,a,?_,e⟩⟩;obtain⟨r,f,l⟩:=o.get (i:=i) (u:=its[i]) (by simp[g]);rw[j]at f;cases f;exact l
  cases b with
  |true=>exact d.mpr rfl|false=>cases B:its.any (λu=>decide (∃y∈ys,aE s.heap u y/\di 50 y x=Mt Mz))with
   |false=>rfl|true=>exact absurd (d.mp B) (by decide)
theorem GN(hu:X.A.units+64<NV):eN X F (NI .In) (Lu My):=⟨λm s B H k x y v u d e Q I r p l hK w i2 q=>by
 obtain⟨C,z,t⟩:=M.run_get.mp q;obtain⟨b,n,j⟩:=M.run_get.mp t;have o:=c6 I hK r w;have c2:=c6 I hK p i2;cases e<;>first|cases z|skip
 .simp only[aE]at c2;obtain⟨a,c,rfl,f,g⟩:=c2;obtain⟨e,i,h⟩:=gE (A:=X.A) g o (by omega) n;exact SeqAt.in_tupleAt e f i (by rw[h];exact⟨.bl b,H,I,rfl,j _ H .refl (by simp only[Is];rfl)⟩)
 .simp only[aE]at c2;obtain⟨a,c,rfl,f,g⟩:=c2;obtain⟨e,i,h⟩:=gE (A:=X.A) g o (by omega) n;exact SeqAt.in_listAt e f i (by rw[h];exact⟨.bl b,H,I,rfl,j _ H .refl (by simp only[Is];rfl)⟩)⟩
theorem wZ(hu:X.A.units+64<NV):eN X F (NI .NotIn) (Lu Mz):=⟨λm s B H k x y v u d e Q I r p l hK w i2 q=>by
 obtain⟨C,z,t⟩:=M.run_get.mp q;obtain⟨b,n,j⟩:=M.run_get.mp t;have o:=c6 I hK r w;have c2:=c6 I hK p i2;cases e<;>first|cases z|skip
 .simp only[aE]at c2;obtain⟨a,c,rfl,f,g⟩:=c2;obtain⟨e,i,h⟩:=gE (A:=X.A) g o (by omega) n;exact SeqAt.notIn_tupleAt e f i (by rw[h];exact⟨.bl (!b),H,I,rfl,j _ H .refl (by simp only[Is];rfl)⟩)
 .simp only[aE]at c2;obtain⟨a,c,rfl,f,g⟩:=c2;obtain⟨e,i,h⟩:=gE (A:=X.A) g o (by omega) n;exact SeqAt.notIn_listAt e f i (by rw[h];exact⟨.bl (!b),H,I,rfl,j _ H .refl (by simp only[Is];rfl)⟩)⟩
end
noncomputable def uF:PX->Int->Int->Bool
 |.Lt,i,j=>decide (i<j)|.LtE,i,j=>decide (i<=j)|.Gt,i,j=>decide (j<i)|_,i,j=>decide (j<=i)
noncomputable def jc(op:PX)(b:D->D->Option Bool)(lt:D->D->Option Bool):List D->List D->Option Bool
 |x::xs,y::a=>match b x y with
  |some Mz=>jc op b lt xs a|some My=>lt x y|none=>MA
 |xs,a=>Mt (uF op xs.length a.length)
noncomputable def jd(op:PX):Nat->D->D->Option Bool
 |0=>λ_ _=>MA|n+1=>λd e=>match d,e with
  |.int i,.int j=>Mt (uF op i j)|.tup b,.tup a=>jc op (di n) (jd op n) b a|_,_=>MA
noncomputable def w4(op:PX)(A:Nc)(s:Mx)(u v:Mv)(b:Bool):Prop:=∀(prog:MX)(w:M_)(E:Mv->Mx->Prop)(Q:Mv->Mx->Prop),Q (.bool b) s->wpAny (MO prog w) A (Pg op u v) Q E s
section
open PySem.SeqAt
open PySem.AutoSeq1 (wpAny_loadPart')
open PySem.MeetsSeq PySem.MeetsSeq2 PySem.MeetsSeq3
theorem rh(l b:MD)(items a:Array Mv)(n n2:Nat)(dd S:Option MD)(sl H:Array (Option Mv))(xs ys:List D)(G lt:D->D->Option Bool)(c:Bool)(hc:jc .Lt G lt xs ys=Mt c):Meets (Builtin.«tuple.__lt__» ⟨[.ref l,.ref b],[]⟩) (λA R s=>s.heap.get? l=Mt {cls:=.type "tuple",dict:=dd,data:=.seq items n,slots:=sl}/\s.heap.get? b=Mt {cls:=.type "tuple",dict:=S,data:=.seq a n2,slots:=H}/\aG s.heap items.toList xs/\aG s.heap a.toList ys/\(∀u v d e z,aE s.heap u d->aE s.heap v e->G d e=Mt z->EqAt A.in1 s u v z)/\(∀u v d e z,aE s.heap u d->aE s.heap v e->lt d e=Mt z->w4 .Lt A.in1 s u v z)/\R (.ok (.ret (.bool c))) s):=.of_wp λprog w A R s h=>by
  obtain⟨N,g,d,Z,os⟩:=s;obtain⟨hl,hb,W,V,P,O,h⟩:=h;have f2:=Tv;have z1:items.size=xs.length:=by rw[<-W.length];simp
  have z2:a.size=ys.length:=by rw[<-V.length];simp
  wp_walk using Ru hl,Ru hb,Pz _ (λq b I=>b.1=MA/\I=⟨N,g,d,Z,os⟩/\∃(F E:List Mv)(i f:List D),q=F.zip E/\aG N F i/\aG N E f/\i.length+a.size=f.length+items.size/\jc .Lt G lt i f=Mt c) _;case turn=>
   rintro⟨y,x⟩q b I⟨C,rfl,F,E,i,f,p,k,j,m,o⟩;cases i with
   |nil=>simp only[aG]at k;subst k;rw[VO]at p;cases p|cons U i=>cases f with
    |nil=>simp only[aG]at j;subst j;rw[SR]at p;cases p|cons T f=>
     simp only[aG]at k j;obtain⟨Y,r1,rfl,K,t⟩:=k;obtain⟨X,r2,rfl,J,r⟩:=j;rw[O9]at p;injection p with L B;injection L with hy hx;subst hy hx;simp only[jc]at o;simp only[Nn]at m;cases Q:G U T with
     |none=>rw[Q]at o;cases o|some z=>
      rw[Q]at o;refine Ms (P _ _ _ _ z K J Q prog w _ _ ?_);cases z with
      |true=>
       wp_walk;exact⟨rfl,rfl,_,_,_,_,B,t,r,by omega,o⟩|false=>
       have M:=O _ _ _ _ c K J o prog w;wp_walk using M;exact⟨_,rfl,by simpa using h⟩
  case fin=>
   rintro⟨b1,b2⟩I⟨C,rfl,F,E,i,f,p,k,j,m,o⟩;simp only at C;subst C;have hv:c=uF .Lt items.size a.size:=by cases i with
    |nil=>
     simp only[jc,Ov]at o;rw[<-o];simp only[NG]at m;simp only[uF,NG];exact decide_eq_decide.mpr (by omega)|cons U i=>cases f with
     |nil=>
      simp only[jc,Ov]at o;rw[<-o];simp only[NG]at m;simp only[uF,NG];exact decide_eq_decide.mpr (by omega)|cons T f=>
      simp only[aG]at k j;obtain⟨Y,r1,rfl,K,t⟩:=k;obtain⟨X,r2,rfl,J,r⟩:=j;rw[O9]at p;cases p
   rw[hv]at h;wp_walk;refine⟨_,rfl,?_⟩;have e:O1 .Lt items.size a.size=.bool (uF .Lt items.size a.size):=by
    simp only[O1,uF,Value.bool.injEq];exact decide_eq_decide.mpr (by omega)
   rw[e];exact h
  case h=>exact⟨rfl,rfl,items.toList,a.toList,xs,ys,rfl,W,V,by omega,hc⟩
theorem rj(l b:MD)(items a:Array Mv)(n n2:Nat)(dd S:Option MD)(sl H:Array (Option Mv))(xs ys:List D)(G lt:D->D->Option Bool)(c:Bool)(hc:jc .Gt G lt xs ys=Mt c):Meets (Builtin.«tuple.__gt__» ⟨[.ref l,.ref b],[]⟩) (λA R s=>s.heap.get? l=Mt {cls:=.type "tuple",dict:=dd,data:=.seq items n,slots:=sl}/\s.heap.get? b=Mt {cls:=.type "tuple",dict:=S,data:=.seq a n2,slots:=H}/\aG s.heap items.toList xs/\aG s.heap a.toList ys/\(∀u v d e z,aE s.heap u d->aE s.heap v e->G d e=Mt z->EqAt A.in1 s u v z)/\(∀u v d e z,aE s.heap u d->aE s.heap v e->lt d e=Mt z->w4 .Gt A.in1 s u v z)/\R (.ok (.ret (.bool c))) s):=.of_wp λprog w A R s h=>by
  obtain⟨N,g,d,Z,os⟩:=s;obtain⟨hl,hb,W,V,P,O,h⟩:=h;have f2:=Tv;have z1:items.size=xs.length:=by rw[<-W.length];simp
  have z2:a.size=ys.length:=by rw[<-V.length];simp
  wp_walk using Ru hl,Ru hb,Pz _ (λq b I=>b.1=MA/\I=⟨N,g,d,Z,os⟩/\∃(F E:List Mv)(i f:List D),q=F.zip E/\aG N F i/\aG N E f/\i.length+a.size=f.length+items.size/\jc .Gt G lt i f=Mt c) _;case turn=>
   rintro⟨y,x⟩q b I⟨C,rfl,F,E,i,f,p,k,j,m,o⟩;cases i with
   |nil=>simp only[aG]at k;subst k;rw[VO]at p;cases p|cons U i=>cases f with
    |nil=>simp only[aG]at j;subst j;rw[SR]at p;cases p|cons T f=>
     simp only[aG]at k j;obtain⟨Y,r1,rfl,K,t⟩:=k;obtain⟨X,r2,rfl,J,r⟩:=j;rw[O9]at p;injection p with L B;injection L with hy hx;subst hy hx;simp only[jc]at o;simp only[Nn]at m;cases Q:G U T with
     |none=>rw[Q]at o;cases o|some z=>
      rw[Q]at o;refine Ms (P _ _ _ _ z K J Q prog w _ _ ?_);cases z with
      |true=>
       wp_walk;exact⟨rfl,rfl,_,_,_,_,B,t,r,by omega,o⟩|false=>
       have M:=O _ _ _ _ c K J o prog w;wp_walk using M;exact⟨_,rfl,by simpa using h⟩
  case fin=>
   rintro⟨b1,b2⟩I⟨C,rfl,F,E,i,f,p,k,j,m,o⟩;simp only at C;subst C;have hv:c=uF .Gt items.size a.size:=by cases i with
    |nil=>
     simp only[jc,Ov]at o;rw[<-o];simp only[NG]at m;simp only[uF,NG];exact decide_eq_decide.mpr (by omega)|cons U i=>cases f with
     |nil=>
      simp only[jc,Ov]at o;rw[<-o];simp only[NG]at m;simp only[uF,NG];exact decide_eq_decide.mpr (by omega)|cons T f=>
      simp only[aG]at k j;obtain⟨Y,r1,rfl,K,t⟩:=k;obtain⟨X,r2,rfl,J,r⟩:=j;rw[O9]at p;cases p
   rw[hv]at h;wp_walk;refine⟨_,rfl,?_⟩;have e:O1 .Gt items.size a.size=.bool (uF .Gt items.size a.size):=by
    simp only[O1,uF,Value.bool.injEq];exact decide_eq_decide.mpr (by omega)
   rw[e];exact h
  case h=>exact⟨rfl,rfl,items.toList,a.toList,xs,ys,rfl,W,V,by omega,hc⟩
end
theorem oQ(op:PX)(a:op=.Lt\/op=.LtE\/op=.Gt\/op=.GtE)(A:Nc)(s:Mx)(i j:Int)(t u:Ut):w4 op A s (.int i t) (.int j u) (uF op i j):=λprog w E Q h=>by
 rcases a with rfl|rfl|rfl|rfl;.exact(PyProof.Rows.lt_int h:wpAny (MO prog w) A (NI .Lt (.int i t) (.int j u)) Q E s)
 .exact(PyProof.Rows.le_int h:wpAny (MO prog w) A (NI .LtE (.int i t) (.int j u)) Q E s)
 .exact(PyProof.Rows.gt_int h:wpAny (MO prog w) A (NI .Gt (.int i t) (.int j u)) Q E s)
 .exact(PyProof.Rows.ge_int h:wpAny (MO prog w) A (NI .GtE (.int i t) (.int j u)) Q E s)
theorem rk:∀(n:Nat){A:Nc}{s:Mx}{u v:Mv}{d e:D}{b:Bool},aE s.heap u d->aE s.heap v e->A.units+n<NV->jd .Lt n d e=Mt b->w4 .Lt A s u v b
 |0,_,_,_,_,_,_,_,_,_,_,q=>by cases q|n+1,A,s,u,v,d,e,b,p,j,hu,q=>by
  cases d<;>cases e<;>simp only[jd,reduceCtorEq]at q
  .simp only[aE]at p j;obtain⟨t,rfl⟩:=p;obtain⟨P,rfl⟩:=j;cases q;exact oQ .Lt (by decide) A s _ _ _ _
  .simp only[aE]at p j;obtain⟨O,c,rfl,y,C⟩:=p;obtain⟨N,a,rfl,r,B⟩:=j;obtain⟨⟨cls,M,J,L⟩,H,I,n1,hd⟩:=id y;obtain⟨⟨K,G,data2,k⟩,f,i,n2,g⟩:=id r;simp only at I hd i g;subst I hd i g;intro prog w E Q h;exact Um (op:=.Lt) ⟨_,H,rfl⟩ ⟨_,f,rfl⟩ PySem.F.slot_tuple_lt PySem.F.entry_tuple_lt (PySem.F.args_tuple_lt_2 _ _) (rh O N c a n1 n2 M G L k _ _ _ _ b q) ⟨H,f,C,B,λu v d e z m l o=>(hW n m l (by rw[Qe];omega) o).2.2,λu v d e z m l o=>rk n m l (by rw[Qe];omega) o,show Rw b≠UY/\Q (.bool b) s from⟨(λx=>nomatch x),h⟩⟩ (by omega)
theorem w5:∀(n:Nat){A:Nc}{s:Mx}{u v:Mv}{d e:D}{b:Bool},aE s.heap u d->aE s.heap v e->A.units+n<NV->jd .Gt n d e=Mt b->w4 .Gt A s u v b
 |0,_,_,_,_,_,_,_,_,_,_,q=>by cases q|n+1,A,s,u,v,d,e,b,p,j,hu,q=>by
  cases d<;>cases e<;>simp only[jd,reduceCtorEq]at q
  .simp only[aE]at p j;obtain⟨t,rfl⟩:=p;obtain⟨P,rfl⟩:=j;cases q;exact oQ .Gt (by decide) A s _ _ _ _
  .simp only[aE]at p j;obtain⟨O,c,rfl,y,C⟩:=p;obtain⟨N,a,rfl,r,B⟩:=j;obtain⟨⟨cls,M,J,L⟩,H,I,n1,hd⟩:=id y;obtain⟨⟨K,G,data2,k⟩,f,i,n2,g⟩:=id r;simp only at I hd i g;subst I hd i g;intro prog w E Q h;exact Um (op:=.Gt) ⟨_,H,rfl⟩ ⟨_,f,rfl⟩ PySem.F.slot_tuple_gt PySem.F.entry_tuple_gt (PySem.F.args_tuple_gt_2 _ _) (rj O N c a n1 n2 M G L k _ _ _ _ b q) ⟨H,f,C,B,λu v d e z m l o=>(hW n m l (by rw[Qe];omega) o).2.2,λu v d e z m l o=>w5 n m l (by rw[Qe];omega) o,show Rw b≠UY/\Q (.bool b) s from⟨(λx=>nomatch x),h⟩⟩ (by omega)
noncomputable def Kf(op:PX):D->D->M D:=λd e=>do
 let b<-M.get (jd op aS d e)pure (.bl b)
section
variable{X:Cx}{F:Fx}
theorem DZ(hu:X.A.units+64<NV):eN X F (NI .Lt) (Kf .Lt):=⟨λa s j H k x y v u d e Q I f c l hK h i2 q=>by
 obtain⟨b,i,g⟩:=M.run_get.mp q;exact rk aS (A:=X.A) (c6 I hK f h) (c6 I hK c i2) (by unfold aS;omega) i X.prog X.w X.xe _ ⟨.bl b,H,I,rfl,g _ H .refl (by simp only[Is])⟩⟩
end
end L2
end
section
namespace HT
open PySem PyProof.Rows
section
variable{prog:MX}{w:M_}{A:Nc}{E:Mv->Mx->Prop}{s:Mx}
theorem gF{t b:MD}{items:Array Mv}{i g:Mv}{lo d:Option Int}{Q:Mv->Mx->Prop}(a:V6 s.heap t items)(j:s.heap.IsSliceOf b i g .none)(k:Ub i lo)(pu:Ub g d)(hw:bL items.size 0 lo=0/\bL items.size items.size d=items.size)(h:Q (.ref t) s):wpAny (MO prog w) A (Uc (.ref t) (.ref b)) Q E s:=by
 obtain⟨os,c,e,l⟩:=id j;have f:s.TypeIs (.ref b) "slice":=⟨os,c,e⟩;unfold Uc;try with_reducible refine M2 ?_
 first|refine Ms (Mu ?_)|skip
 refine Ms (VG a.typeIs (by decide) ?_);refine Ms (NB (name:=MF "__getitem__") a.typeIs O0 (Ni O0 a.typeIs entry_tuple_getitem ?_ (Vq _ _)));show wpAny _ _ (QQ (.ref t)>>=_) _ _ s;refine Ms (tupleItemsOf_ a ?_);refine Ms (Q5 f ?_);rw[if_pos (by decide)];refine Ms (dz j k pu ?_);show wpAny _ _ (if(((bL items.size 0 lo:Nat):Int)==0&&(1:Int)==1&&(bL items.size items.size d-bL items.size 0 lo)==items.size)=Mz then _ else _) _ _ s;rw[if_pos (by rw[hw.1,hw.2];simp)];unfold Builtin.Tuple.tupleIsExact;refine Ms (Ms (Q5 a.typeIs (Mu ?_)));rw[if_pos (by decide)];first
  |exact Ms (Qk (Ms (Mu (Mu ⟨_,rfl,Mu h⟩))))|exact Ms (Qk (Ms (Mu ⟨_,rfl,Mu h⟩)))|exact Ms (Qk (Mu ⟨_,rfl,Mu h⟩))
theorem w6{t b:MD}{g:List Mv}{Q:Mv->Mx->Prop}(m:V6 s.heap t ([]:List Mv).toArray)(o:V6 s.heap b g.toArray)(p:Q (.ref b) s):wpAny (MO prog w) A (PC .Add (.ref t) (.ref b)) Q E s:=by
 obtain⟨⟨cls,q,j,l⟩,h,i,n,hd⟩:=id m;obtain⟨⟨k,f,data2,e⟩,a,d,n2,c⟩:=id o;simp only at i hd d c;subst i hd d c;exact VF ⟨_,h,rfl⟩ ⟨_,a,rfl⟩ TJ Ve RO RF (Rk _ _) (tuple_addW0 t b ([]:List Mv).toArray g.toArray n n2 q f l e (by rfl)) ⟨h,a,p⟩
end
end HT
namespace L2
open PySem PySem.Spec PyProof.Rows
noncomputable def cutD(xs:List D)(lo a:Option Int):List D:=(xs.drop (HT.bL xs.length 0 lo)).take (HT.bL xs.length xs.length a-HT.bL xs.length 0 lo)
noncomputable def GO(F:Fx)(t:ag->M (Option Int)):TO:=λc H Q=>∃a k,bp F a k c H/\(t a).run k (λo d=>∀b,Ext F.toFb H k b d->Q o b) F.E
structure DO(X:Cx)(F:Fx)(e:Option MV)(t:ag->M (Option Int)):Prop where
 hK:X.K=F.K
 po:PO X e (GO F t)
section
variable{X:Cx}{F:Fx}{e:MV}{te:ag->M D}{lo hi:Option MV}{tl th:ag->M (Option Int)}{pos p2:Od}
theorem PO.imp{o:Option MV}{t t':TO}(h:PO X o t)(q:∀σ H Q,t' σ H Q->t σ H Q):PO X o t':=λa s σ H Q I z=>h a s σ H Q I (q σ H Q z)
theorem Ak(hK:X.K=F.K:=by rfl):DO X F MA (λ_=>pure MA):=⟨hK,sL.imp λa H Q⟨b,k,S,h⟩=>h H .refl⟩
theorem Al(h:DE X F e te):DO X F (Mt e) (λc=>do let i<-d7 (<-te c);pure (Mt i)):=⟨h.hK,(sM h.pe).imp λj H Q a=>by
  obtain⟨c,k,S,h⟩:=a;refine bK.next S h λd l v g e1 m f b=>?_;obtain⟨i,rfl,b⟩:=bq.mp b;simp only[Is]at f;exact⟨i,f,b g e1⟩⟩
theorem GO.next{t:ag->M (Option Int)}{σ:St}{H:Hp}{a:ag}{k:Nat}{R:Option Int->Nat->Prop}{Q:Option Int->Hp->Prop}(S:bp F a k σ H)(h:(t a).run k R F.E)(q:∀b k' H',Ext F.toFb H k H' k'->bp F a k' σ H'->R b k'->Q b H'):GO F t σ H Q:=⟨a,k,S,(t a).mono h (λb k' r H' e=>q b k' H' e (S.mono e) r) λ_ _ z=>z⟩
theorem af.cut{B:Fb}{H:Hp}{vs:List V}{ds:List D}(h:af B H vs ds)(lo hi:Option Int):af B H (mH vs lo hi) (cutD ds lo hi):=by
 unfold mH cutD;rw[h.length];exact(h.drop _).take _
noncomputable def GP(lo hi:Option Int):D->M D
 |.tup a=>pure (.tup (cutD a lo hi))|.lst a=>pure (.lst (cutD a lo hi))|_=>M.fail
noncomputable def LY(F:Fx):V->Option Int->Option Int->Hp->VK->Prop:=λx lo hi H Q=>∃k d,H F.p≠MA/\Is F.toFb H x d/\(GP lo hi d).run k (qE F.toFb H k Q) F.E
theorem Kg(hK:X.K=F.K):JV X (LY F):=by
 intro j s P H x v S R lo hi U Q I E A w pu h;obtain⟨k,d,l,i,q⟩:=h;cases d with
 |tup B=>
  simp only[Is]at i;obtain⟨a,c,rfl,t,g⟩:=i;cases E;obtain⟨m,r,y,G⟩:=I.tuple (by rw[hK];exact t.2);have f:m.toArray.size=c.length:=by rw[MR];exact r.length.symm
  refine⟨"tuple",_,PyProof.Rows.slot_tuple_getitem.lookup,y.typeIs,?_⟩;by_cases hw:HT.bL c.length 0 lo=0/\HT.bL c.length c.length hi=c.length
  .refine HT.gF y A w pu (by rw[f];exact hw) ⟨.ref a,H,I,rfl,q _ H .refl ?_⟩;simp only[Is];refine⟨a,c,rfl,t,?_⟩;have e:cutD B lo hi=B:=by
    unfold cutD;rw[<-g.length,hw.1,hw.2,g.length];simp
   rw[e];exact g
  .refine HT.gp y A w pu (by rw[f];exact hw) ?_ (by rw[f];exact G);rw[f];have L:=I.ay.fresh (MN _);refine⟨.ref s.heap.objs.size,_,I.laid (t':=s.toks) (o:=.tup (mH c lo hi)) (λb ob q=>Mw _ q) (MN _) ?_,rfl,q _ _ (.new L) (bZ (k:=k) l L (g.cut lo hi))⟩;exact⟨Nw (iF c lo hi) G,_,(r.drop (HT.bL c.length 0 lo)).take (HT.bL c.length c.length hi-HT.bL c.length 0 lo),IsTup.new _ _⟩|lst B=>
  simp only[Is]at i;obtain⟨a,c,rfl,t,g⟩:=i;obtain⟨T,id,Z,ty,Y⟩:=sP j s P H (.ref a) v S R lo hi U (λv C=>∃a c,v=.ref a/\C a=Mt (.lst c)/\∀o,Q v (upd C a (.bo o (.lst c)))) I E A w pu ⟨a,c,rfl,by rw[hK];exact t.2.sq,λp J=>⟨p,_,rfl,ah,λo=>by
   rw[aT];exact q _ _ (.new J) (aR (k:=k) l J (g.cut lo hi))⟩⟩;refine⟨T,id,Z,ty,aU Y λu s1⟨v,C,O,r,a,c,e,N,V⟩=>?_⟩;obtain⟨_,m,n,rv,W⟩:=O.ay a _ N;exact⟨v,_,O.freeze N W (λ_ z=>nomatch z) (λ_ _ z=>nomatch z) (λ_ z=>nomatch z) (λ_ z=>nomatch z),r,V _⟩|_=>exact q.elim
theorem w9(c:DE X F e te)(i:DO X F lo tl)(hu:DO X F hi th):DE X F (.Subscript e (.Slice lo hi MA p2) pos) (λa=>do let d<-te a;let l<-tl a;let u<-th a;GP l u d):=⟨c.hK,(ou (Kg c.hK) c.pe i.po hu.po).imp λr H Q b=>by
  obtain⟨a,k,S,h⟩:=b;refine bK.next S h λd t v y e1 q g n=>?_;refine GO.next q n λl s x e2 p m=>?_;refine GO.next p m λu f w e3 o j=>?_;exact⟨f,d,o.live,g.mono (e2.trans e3).kp,M.wk j λ_ _ z=>z.ext ((e1.trans e2).trans e3)⟩⟩
noncomputable def GQ:D->D->M D
 |.int i,.int j=>pure (.int (i+j))|.tup b,.tup a=>do M.need (b.length+a.length<=MP);pure (.tup (b++a))|.lst b,.lst a=>do M.need (b.length+a.length<=MP);pure (.lst (b++a))|_,_=>M.fail
theorem Am:eN X F (PC .Add) GQ:=⟨λE s σ H k x y v u d e Q I N L l hK C i2 q=>by cases d with
 |int i=>cases e with
  |int j=>
   simp only[Is]at C i2;subst C i2;obtain⟨t,rfl⟩:=N;obtain⟨t',rfl⟩:=L;exact add_int ⟨.int (i+j),H,I.tok _,⟨_,rfl⟩,q _ H .refl (by simp only[Is])⟩|_=>exact q.elim
 |tup w=>cases e with
  |tup V=>
   simp only[Is]at C i2;obtain⟨a,A,rfl,J,p⟩:=C;obtain⟨K,f,rfl,m,c⟩:=i2;cases N;cases L;obtain⟨h,O,W,_⟩:=I.tuple (by rw[hK];exact J.2);obtain⟨g,B,p2,_⟩:=I.tuple (by rw[hK];exact m.2);by_cases Y:h=[]
   .subst Y;have S:A=[]:=O.sN.mp rfl;subst S;have hd:w=[]:=List.length_eq_zero_iff.mp (by rw[<-p.length];rfl);subst hd;exact HT.w6 W p2 ⟨.ref K,H,I,rfl,q.2 _ H .refl (by simp only[Is];exact⟨K,f,rfl,m,c⟩)⟩
   .have R:A.length+f.length<=MP:=by rw[p.length,c.length];exact q.1
    refine HT.zI W p2 Y (λz=>?_) (λz=>?_) (by rw[<-O.length,<-B.length];exact R)
    .have S:f=[]:=B.sN.mp z;subst S;have hd:V=[]:=List.length_eq_zero_iff.mp (by rw[<-c.length];rfl);subst hd;exact⟨.ref a,H,I,rfl,q.2 _ H .refl (by simp only[Is];exact⟨a,A,rfl,J,by rw[NT];exact p⟩)⟩
    .have Z:=I.ay.fresh (MN _);refine⟨.ref s.heap.objs.size,_,I.laid (t':=s.toks) (o:=.tup (A++f)) (λb ob q=>Mw _ q) (MN _) ?_,rfl,q.2 _ _ (.new Z) (bZ (k:=k) l Z (p.append c))⟩;exact⟨by rw[Of];exact R,_,O.append B,IsTup.new _ _⟩|_=>exact q.elim
 |lst w=>cases e with
  |lst V=>
   simp only[Is]at C i2;obtain⟨a,A,rfl,J,p⟩:=C;obtain⟨K,f,rfl,m,c⟩:=i2;cases N;cases L;obtain⟨o,T⟩:=J.2;obtain⟨o',G⟩:=m.2;obtain⟨_,z,h,n,r,e⟩:=I.ay a _ T;obtain⟨_,z2,g,n2,B,e2⟩:=I.ay K _ G;have l1:=r.length;have l2:=B.length;have R:A.length+f.length<=MP:=by rw[p.length,c.length];exact q.1
   refine aU (PySem.P.add_list e e2 (Q:=EP X E σ λv U=>∃a w,v=.ref a/\U a=Mt (.lst w)/\∀o,Q v (upd U a (.bo o (.lst w)))) ?_ (by rw[MR,MR];omega)) λu s1⟨v,U,I1,r,a,w,e,ha,q1⟩=>?_
   .have ea:h.toArray++g.toArray=(h++g).toArray:=by simp
    rw[ea];refine⟨.ref _,_,I.Gg (t':=s.toks) (r.append B) (by rw[Of];omega),rfl,_,_,rfl,ah,λo=>?_⟩;rw[aT];exact q.2 _ _ (.new I.fresh) (aR (k:=k) l I.fresh (p.append c))
   .obtain⟨_,h,n,rv,ho⟩:=I1.ay a _ ha;exact⟨v,_,I1.freeze ha ho (λ_ z=>nomatch z) (λ_ _ z=>nomatch z) (λ_ z=>nomatch z) (λ_ z=>nomatch z),r,q1 _⟩|_=>exact q.elim
 |_=>exact q.elim⟩
noncomputable def D0:D->D->M D
 |.int i,.int j=>pure (.int (i-j))|_,_=>M.fail
theorem s_:eN X F (PC .Sub) D0:=⟨λa s g H k x y v u d e Q I f c l hK b i2 q=>by cases d with
 |int i=>cases e with
  |int j=>
   simp only[Is]at b i2;subst b i2;obtain⟨t,rfl⟩:=f;obtain⟨h,rfl⟩:=c;exact sub_int ⟨.int (i-j),H,I.tok _,⟨_,rfl⟩,q _ H .refl (by simp only[Is])⟩|_=>exact q.elim
 |_=>exact q.elim⟩
theorem D1(g:DE X F e te):DE X F (.UnaryOp .USub e pos) (λc=>do let i<-d7 (<-te c);pure (.int (-i))):=⟨g.hK,(F1 CT g.pe).imp λl H Q a=>by
  obtain⟨c,k,S,h⟩:=a;refine bK.next S h λd m v j e1 n f b=>?_;obtain⟨i,rfl,b⟩:=bq.mp b;simp only[Is]at f;exact⟨i,f,b _ j e1 (by simp only[Is])⟩⟩
end
end L2
end
section
namespace ZP
open PySem PyProof.Rows
inductive gh(h:Na)(i a:MD)(k:Nat)(xs:Array Mv):Prop where|list(p:h.IsListIter i a k)(q:h.IsList a xs)|tup(p:h.IsTupleIter i a k)(q:h.IsTuple a xs)
theorem gh.keep{h h':Na}{i a:MD}{k:Nat}{xs:Array Mv}(x:gh h i a k xs)(d:∀o,h.get? i=Mt o->h'.get? i=Mt o)(f:∀o,h.get? a=Mt o->h'.get? a=Mt o):gh h' i a k xs:=by cases x with
 |list p q=>
  obtain⟨o,e,r⟩:=p;obtain⟨b,e2,c⟩:=q;exact .list ⟨o,d o e,r⟩ ⟨b,f b e2,c⟩|tup p q=>
  obtain⟨o,e,r⟩:=p;obtain⟨b,e2,c⟩:=q;exact .tup ⟨o,d o e,r⟩ ⟨b,f b e2,c⟩
theorem gh.ext{h h':Na}{i a b:MD}{k:Nat}{xs:Array Mv}(x:gh h i a k xs)(e:Tj b h h')(n1:i≠b)(n2:a≠b):gh h' i a k xs:=x.keep (λo q=>e i o n1 q) (λo q=>e a o n2 q)
theorem gh.lt{h:Na}{i a:MD}{k:Nat}{xs:Array Mv}(x:gh h i a k xs):i<h.objs.size/\a<h.objs.size:=by cases x with
 |list p q=>
  obtain⟨o,e,r⟩:=p;obtain⟨c,e2,b⟩:=q;exact⟨MH e,MH e2⟩|tup p q=>
  obtain⟨o,e,r⟩:=p;obtain⟨c,e2,b⟩:=q;exact⟨MH e,MH e2⟩
section
variable{prog:MX}{w:M_}{A:Nc}{E:Mv->Mx->Prop}{s:Mx}
theorem w_{it t:MD}{i:Nat}{xs:Array Mv}{x:Mv}{Q:Mv->Mx->Prop}(c:s.heap.IsTupleIter it t i)(h:s.heap.IsTuple t xs)(g:xs[i]?=Mt x)(j:∀h',h'.IsTupleIter it t (i+1)->NW it s.heap h'->Q x {s with heap:=h'}):wpAny (MO prog w) A (Nf (.ref it)) Q E s:=by
 obtain⟨o,a,e,hd⟩:=id c;obtain⟨k,b,_,l,d⟩:=h;have f:s.TypeIs (.ref it) "tuple_iterator":=⟨o,a,e⟩;unfold Nf;refine Ms (NB (name:=MF "__next__") f OT (Ni OT f RJ ?_ (Rz _)));show wpAny _ _ (Uz (.ref it) 0>>=_) _ _ s;refine Ms (NJ a hd (x:=.ref t) rfl ?_);show wpAny _ _ (if(MW t==M5)=Mz then _ else _) _ _ s;rw[if_neg (show¬((MW t==M5)=Mz)from Nx)];show wpAny _ _ (Uz (.ref it) 1>>=_) _ _ s;refine Ms (NJ a hd (x:=.int i 0) rfl ?_);show wpAny _ _ (RH (.ref t)>>=_) _ _ s;refine Ms (NH b d ?_);simp only[Pk,g];refine Ms (OR a hd (by simp) (Mu ⟨x,rfl,Mu (j _ ?_ (NX ..))⟩));exact⟨_,M6 _ a (Oo (NL hd _)),(QL ..).trans e,by rw[NL hd];simp[Po]⟩
theorem An{it t:MD}{i:Nat}{xs:Array Mv}{Q:Mv->Mx->Prop}(g:A.handled=MA)(d:s.heap.IsTupleIter it t i)(k:s.heap.IsTuple t xs)(j:xs[i]?=MA)(n:∀h' e,Tj it s.heap h'->(∃o,h'.get? e=Mt o/\o.cls=.type "StopIteration")->E (.ref e) {s with heap:=h'}):wpAny (MO prog w) A (Nf (.ref it)) Q E s:=by
 obtain⟨o,b,l,hd⟩:=id d;obtain⟨p,c,_,q,f⟩:=k;have h:s.TypeIs (.ref it) "tuple_iterator":=⟨o,b,l⟩;unfold Nf;refine Ms (NB (name:=MF "__next__") h OT (Ni OT h RJ ?_ (Rz _)));show wpAny _ _ (Uz (.ref it) 0>>=_) _ _ s;refine Ms (NJ b hd (x:=.ref t) rfl ?_);show wpAny _ _ (if(MW t==M5)=Mz then _ else _) _ _ s;rw[if_neg (show¬((MW t==M5)=Mz)from Nx)];show wpAny _ _ (Uz (.ref it) 1>>=_) _ _ s;refine Ms (NJ b hd (x:=.int i 0) rfl ?_);show wpAny _ _ (RH (.ref t)>>=_) _ _ s;refine Ms (NH c f ?_);simp only[Pk,j];refine Ms (Qk (Ms (OR b hd (by simp) ?_)));show wpAny _ _ (Ws (.type "StopIteration") []>>=_) _ _ _;refine Ms ?_;simp only[Ws,UT];refine Ms (Nd ?_ (by size_fits));refine Ms (m:=QY _ _) (Px (a:=M5) (by first|rfl|(simp only[QY];rfl)) ?_);refine Nd ?_ (by size_fits);simp only[raiseNew];refine Ms (Vh ?_);first|rw[show A.in1.handled=MA from g]|rw[g]
 refine Ms (Mu (Wa ?_));exact n _ _ (((NX ..).extBut.push _).push _) ⟨_,MJ _ rfl,rfl⟩
theorem dC{i a:MD}{k:Nat}{xs:Array Mv}{x:Mv}{Q:Mv->Mx->Prop}(c:a≠i)(e:gh s.heap i a k xs)(f:xs[k]?=Mt x)(g:∀h',gh h' i a (k+1) xs->NW i s.heap h'->Q x {s with heap:=h'}):wpAny (MO prog w) A (Nf (.ref i)) Q E s:=by cases e with
 |list p q=>exact wpAny_nextOf_list_item p q f λh' d b=>g h' (.list d (q.extBut b.extBut c)) b|tup p q=>exact w_ p q f λh' d b=>g h' (.tup d (q.extBut b.extBut c)) b
theorem jq{i a:MD}{k:Nat}{xs:Array Mv}{Q:Mv->Mx->Prop}(d:A.handled=MA)(b:gh s.heap i a k xs)(c:xs[k]?=MA)(f:∀h' e,Tj i s.heap h'->(∃o,h'.get? e=Mt o/\o.cls=.type "StopIteration")->E (.ref e) {s with heap:=h'}):wpAny (MO prog w) A (Nf (.ref i)) Q E s:=by cases b with
 |list p q=>exact wpAny_nextOf_list_end d p q c f|tup p q=>exact An d p q c f
structure Ao(h:Na)(z TI TO i1 i2 a1 a2:MD)(k:Nat)(xs ys:Array Mv)(f0:Mv):Prop where
 zp:VP h z TI TO f0
 ti:QF h TI (.ref i1) (.ref i2)to:∃a b,QF h TO a b
 s1:gh h i1 a1 k xs
 s2:gh h i2 a2 k ys
theorem xa{z TI TO f i2 F u:MD}{k:Nat}{xs ys:Array Mv}{x y:Mv}{Q:Mv->Mx->Prop}(D:Q0 z TI TO f i2 F u)(Z:Ao s.heap z TI TO f i2 F u k xs ys .none)(hx:xs[k]?=Mt x)(hy:ys[k]?=Mt y)(hQ:∀h',Ao h' z TI TO f i2 F u (k+1) xs ys (Po s.heap.objs.size)->QF h' s.heap.objs.size x y->h'.objs.size=s.heap.objs.size+1->(∀c o,c≠z->c≠TO->c≠f->c≠i2->s.heap.get? c=Mt o->h'.get? c=Mt o)->Q (.ref s.heap.objs.size) {s with heap:=h'}):wpAny (MO prog w) A (Builtin.«zip.__next__» ⟨[.ref z],[]⟩) (λfin s'=>∃v,fin=.done (.ret v)/\Q v s') E s:=by
 obtain⟨q,r,⟨a,b,M⟩,h1,h2⟩:=Z;show wpAny _ _ (Uz (.ref z) 2>>=_) _ _ _;refine Ms (NJ q rfl (x:=.bool My) rfl ?_);show wpAny _ _ (Uz (.ref z) 3>>=_) _ _ _;refine Ms (NJ q rfl (x:=.ref TI) rfl ?_);refine Ms (NH r rfl ?_);show wpAny _ _ (Nu (.ref z)>>=_) _ _ _;refine Ms ?_;unfold Nu;refine Ms (NJ q rfl (x:=.none) rfl (Mu ?_));simp only[if_true];refine Ms (Qk ?_);refine Ms (NJ q rfl (x:=.ref TO) rfl ?_);refine Ms (O_ q (by simp) λg1 H n=>?_);replace H:VP g1 z TI TO .ellipsis:=H;refine Ms ?_;simp only[List.zipIdx_cons,List.zipIdx_nil,Pq,PF];refine Ms (Ms (Tw ?_));show wpAny _ _ (Nf (.ref f)>>=_) _ _ _;refine Ms (dC D.l1i1 (h1.ext n.extBut D.i1z D.l1z) hx λg2 p2 m=>Mu ?_);have S:QF g2 TO a b:=m.extBut _ _ D.TOi1 (n.extBut _ _ D.TOz M);refine Ms (NH S rfl ?_);refine Ms (Sa S λX J l=>?_);replace J:QF X TO x b:=J;refine Ms (Ph (Mu ?_));refine Ms (Ms (Tw ?_));show wpAny _ _ (Nf (.ref i2)>>=_) _ _ _;have q3:gh X i2 u k ys:=((h2.ext n.extBut D.i2z D.l2z).ext m.extBut D.i12.symm D.l2i1).ext l.extBut D.TOi2.symm D.l2TO;refine Ms (dC D.l2i2 q3 hy λg4 p4 j=>Mu ?_);have R:QF g4 TO x b:=j.extBut _ _ D.TOi2 J;refine Ms (NH R rfl ?_);refine Ms (Sa R λd C i=>?_);replace C:QF d TO x y:=C;refine Ms (Ph (Mu (Mu ?_)));refine Ms (NH C rfl ?_);refine Ms (US ?_);have V:d.objs.size=s.heap.objs.size:=by rw[i.1,j.1,l.1,m.1,n.1]
 have P:VP d z TI TO .ellipsis:=i.extBut _ _ D.TOz.symm (j.extBut _ _ D.i2z.symm (l.extBut _ _ D.TOz.symm (m.extBut _ _ D.i1z.symm H)));have W:∀c o,c≠z->c≠TO->c≠f->c≠i2->s.heap.get? c=Mt o->d.get? c=Mt o:=λc o h c2 O N e=>i.extBut _ _ c2 (j.extBut _ _ N (l.extBut _ _ c2 (m.extBut _ _ O (n.extBut _ _ h e))));have u1:gh d f F (k+1) xs:=((p2.ext l.extBut D.TOi1.symm D.l1TO).ext j.extBut D.i12 D.l1i2).ext i.extBut D.TOi1.symm D.l1TO;have u2:gh d i2 u (k+1) ys:=p4.ext i.extBut D.TOi2.symm D.l2TO;have I:QF d TI (.ref f) (.ref i2):=W _ _ D.TIz D.TITO D.TIi1 D.TIi2 r;have p:z<d.objs.size:=MH P;show wpAny _ _ (Rf (.ref z) (.ref d.objs.size)>>=_) _ _ _;refine Ms ?_;unfold Rf;have Y:VP (d.push {cls:=.type "tuple",data:=.seq #[x,y]}) z TI TO .ellipsis:=Mw _ P;refine Ms (O_ Y (by simp) λg7 G L=>?_);replace G:VP g7 z TI TO (Po d.objs.size):=G;refine O_ G (by simp) λt B K=>?_;replace B:VP t z TI TO (Po d.objs.size):=B;have g:∀c o,c≠z->d.get? c=Mt o->t.get? c=Mt o:=λc o h e=>K.extBut _ _ h (L.extBut _ _ h (Mw _ e));have T:QF t d.objs.size x y:=K.extBut _ _ (N0 p) (L.extBut _ _ (N0 p) (MJ _ rfl));have U:t.objs.size=d.objs.size+1:=by rw[K.1,L.1,ND]
 rw[V]at B T U;refine Mu ⟨_,rfl,?_⟩;show Q (.ref d.objs.size) _;rw[V];exact hQ t ⟨B,g _ _ D.TIz I,⟨_,_,g _ _ D.TOz C⟩,u1.keep (λo e=>g _ o D.i1z e) (λo e=>g _ o D.l1z e),u2.keep (λo e=>g _ o D.i2z e) (λo e=>g _ o D.l2z e)⟩ T U λc o h c2 O N e=>g c o h (W c o h c2 O N e)
theorem Ap{z TI TO r i2 R H:MD}{k:Nat}{xs ys:Array Mv}{Q:Fin->Mx->Prop}(N:A.handled=MA)(D:Q0 z TI TO r i2 R H)(Z:Ao s.heap z TI TO r i2 R H k xs ys .none)(n:xs[k]?=MA\/ys[k]?=MA)(O:∀h' e,(∀c o,c≠z->c≠TO->c≠r->c≠i2->s.heap.get? c=Mt o->h'.get? c=Mt o)->(∃o,h'.get? e=Mt o/\o.cls=.type "StopIteration")->E (.ref e) {s with heap:=h'}):wpAny (MO prog w) A (Builtin.«zip.__next__» ⟨[.ref z],[]⟩) Q E s:=by
 obtain⟨m,B,⟨a,b,y⟩,P,U⟩:=Z;show wpAny _ _ (Uz (.ref z) 2>>=_) _ _ _;refine Ms (NJ m rfl (x:=.bool My) rfl ?_);show wpAny _ _ (Uz (.ref z) 3>>=_) _ _ _;refine Ms (NJ m rfl (x:=.ref TI) rfl ?_);refine Ms (NH B rfl ?_);show wpAny _ _ (Nu (.ref z)>>=_) _ _ _;refine Ms ?_;unfold Nu;refine Ms (NJ m rfl (x:=.none) rfl (Mu ?_));simp only[if_true];refine Ms (Qk ?_);refine Ms (NJ m rfl (x:=.ref TO) rfl ?_);refine Ms (O_ m (by simp) λX q l=>?_);replace q:VP X z TI TO .ellipsis:=q;refine Ms ?_;simp only[List.zipIdx_cons,List.zipIdx_nil,Pq,PF];refine Ms (Ms (Tw ?_));show wpAny _ _ (Nf (.ref r)>>=_) _ _ _;cases u:xs[k]? with
 |none=>
  refine Ms (jq N (P.ext l.extBut D.i1z D.l1z) u λF e g v=>?_);obtain⟨t,d,f⟩:=v;have J:VP F z TI TO .ellipsis:=g _ _ D.i1z.symm q;have i:e≠z:=λx=>by subst x;rw[J]at d;cases d;simp at f
  exact O_ J (by simp) λC _ j=>O C e (λc o p _ G _ x=>j.extBut _ _ p (g _ _ G (l.extBut _ _ p x))) ⟨t,j.extBut _ _ i d,f⟩|some x=>
  have T:ys[k]?=MA:=by rcases n with h|h;rw[u]at h;cases h;exact h
  refine Ms (dC D.l1i1 (P.ext l.extBut D.i1z D.l1z) u λF p2 g=>Mu ?_);have K:QF F TO a b:=g.extBut _ _ D.TOi1 (l.extBut _ _ D.TOz y);refine Ms (NH K rfl ?_);refine Ms (Sa K λC t3 j=>?_);refine Ms (Ph (Mu ?_));refine Ms (Ms (Tw ?_));show wpAny _ _ (Nf (.ref i2)>>=_) _ _ _;have S:gh C i2 H k ys:=((U.ext l.extBut D.i2z D.l2z).ext g.extBut D.i12.symm D.l2i1).ext j.extBut D.TOi2.symm D.l2TO;refine Ms (jq N S T λW e M v=>?_);obtain⟨t,d,f⟩:=v;have I:VP W z TI TO .ellipsis:=M _ _ D.i2z.symm (j.extBut _ _ D.TOz.symm (g.extBut _ _ D.i1z.symm q));have i:e≠z:=λx=>by subst x;rw[I]at d;cases d;simp at f
  exact O_ I (by simp) λV _ L=>O V e (λc o p c2 G Y x=>L.extBut _ _ p (M _ _ Y (j.extBut _ _ c2 (g.extBut _ _ G (l.extBut _ _ p x))))) ⟨t,L.extBut _ _ i d,f⟩
theorem d8{z TI TO a i2 d b:MD}{k:Nat}{xs ys:Array Mv}{x y:Mv}{Q:Option Mv->Mx->Prop}(D:Q0 z TI TO a i2 d b)(Z:Ao s.heap z TI TO a i2 d b k xs ys .none)(g:xs[k]?=Mt x)(f:ys[k]?=Mt y)(h:∀h',Ao h' z TI TO a i2 d b (k+1) xs ys (Po s.heap.objs.size)->QF h' s.heap.objs.size x y->h'.objs.size=s.heap.objs.size+1->(∀c o,c≠z->c≠TO->c≠a->c≠i2->s.heap.get? c=Mt o->h'.get? c=Mt o)->Q (Mt (.ref s.heap.objs.size)) {s with heap:=h'}):wpAny (MO prog w) A (OC (.ref z)) Q E s:=by
 have e:s.TypeIs (.ref z) "zip":=⟨_,Z.zp,rfl⟩;unfold OC;exact Ms (P2 (NB (name:=MF "__next__") e Oq (Ni Oq e Qm (xa D Z g f λh' l c2 j i=>Mu (h h' l c2 j i)) (Qf _))))
theorem eR{z TI TO d i2 h g:MD}{k:Nat}{xs ys:Array Mv}{Q:Option Mv->Mx->Prop}(l:A.handled=MA)(D:Q0 z TI TO d i2 h g)(Z:Ao s.heap z TI TO d i2 h g k xs ys .none)(a:xs[k]?=MA\/ys[k]?=MA)(p:∀h',(∀c o,c≠z->c≠TO->c≠d->c≠i2->s.heap.get? c=Mt o->h'.get? c=Mt o)->Q MA {s with heap:=h'}):wpAny (MO prog w) A (OC (.ref z)) Q E s:=by
 have f:s.TypeIs (.ref z) "zip":=⟨_,Z.zp,rfl⟩;unfold OC;refine Ms (P2 (NB (name:=MF "__next__") f Oq (Ni Oq f Qm (Ap l D Z a λh' e j m=>?_) (Qf _))));obtain⟨o,i,n⟩:=m;exact Ms (OK (T:="StopIteration") (b:=Mz) ⟨o,i,n⟩ SN (Mu (p _ j)))
end
noncomputable def j4(tup:Bool)(a:MD):NF:={cls:=.type (if tup then"tuple_iterator"else"list_iterator"),data:=.fields #[.ref a,.int 0 0]}
inductive Sq(h:Na)(a:MD)(xs:Array Mv):Bool->Prop where|list(q:h.IsList a xs):Sq h a xs My|tup(q:h.IsTuple a xs):Sq h a xs Mz
theorem Sq.keep{h h':Na}{a:MD}{xs:Array Mv}{t:Bool}(x:Sq h a xs t)(b:∀o,h.get? a=Mt o->h'.get? a=Mt o):Sq h' a xs t:=by cases x with
 |list q=>obtain⟨o,e,r⟩:=q;exact .list ⟨o,b o e,r⟩|tup q=>obtain⟨o,e,r⟩:=q;exact .tup ⟨o,b o e,r⟩
theorem Sq.lt{h:Na}{a:MD}{xs:Array Mv}{t:Bool}(x:Sq h a xs t):a<h.objs.size:=by cases x with
 |list q=>obtain⟨o,e,r⟩:=q;exact MH e|tup q=>obtain⟨o,e,r⟩:=q;exact MH e
theorem Sq.D2{h:Na}{a i:MD}{xs:Array Mv}{t:Bool}(x:Sq h a xs t)(e:h.get? i=Mt (j4 t a)):gh h i a 0 xs:=by cases x with
 |list q=>exact .list ⟨_,e,rfl,rfl⟩ q|tup q=>exact .tup ⟨_,e,rfl,rfl⟩ q
theorem l6{prog:MX}{w:M_}{A:Nc}{E:Mv->Mx->Prop}{s:Mx}{a:MD}{xs:Array Mv}{t:Bool}{Q:Mv->Mx->Prop}(x:Sq s.heap a xs t)(h:Q (.ref s.heap.objs.size) {s with heap:=s.heap.push (j4 t a)}):wpAny (MO prog w) A (RZ (.ref a)) Q E s:=by cases x with
 |list q=>exact PZ q h|tup q=>exact RA q h
noncomputable abbrev Jh(h:Na)(a:Bool)(b:MD):Na:=h.push (j4 a b)
noncomputable abbrev Ji(h:Na)(b a:Bool)(d c:MD):Na:=(Jh h b d).push (j4 a c)
noncomputable abbrev Jj(h:Na)(a c:Bool)(b d:MD):Na:=(Ji h a c b d).push {cls:=.type "tuple",data:=.seq #[.ref h.objs.size,.ref (Jh h a b).objs.size]}
noncomputable abbrev Jk(h:Na)(b a:Bool)(d c:MD):Na:=(Jj h b a d c).push {cls:=.type "tuple",data:=.seq #[.none,.none]}
noncomputable abbrev D3(h:Na)(b a:Bool)(d c:MD):Na:=(Jk h b a d c).push {cls:=.type "zip",data:=.fields #[.none,.bool My,.bool My,.ref (Ji h b a d c).objs.size,.ref (Jj h b a d c).objs.size]}
theorem Aq(a c:MD)(xs ys:Array Mv)(b f:Bool):Meets (Builtin.«zip.__new__» ⟨[.type "zip",.ref a,.ref c],[]⟩) (λ_ R s=>Sq s.heap a xs b/\Sq s.heap c ys f/\R (.ok (.ret (.ref (Jk s.heap b f a c).objs.size))) {s with heap:=D3 s.heap b f a c}):=.of_wp λprog w A R s h=>by
  obtain⟨k,g,d,i,os⟩:=s;obtain⟨p,n,h⟩:=h;have j:=sub_zip;have m:Sq (Shared.heap ⟨k,g,d,i,os⟩) a xs b:=p;have l:Sq (Shared.heap ⟨k.push (j4 b a),g,d,i,os⟩) c ys f:=n.keep λo e=>Mw _ e;wp_walk using l6 m,l6 l;exact⟨_,rfl,h⟩
theorem oR{prog:MX}{w:M_}{A:Nc}{E:Mv->Mx->Prop}{s:Mx}{a d:MD}{xs ys:Array Mv}{f g:Bool}{Q:Mv->Mx->Prop}(p:Sq s.heap a xs f)(n:Sq s.heap d ys g)(h:∀h' z TI TO m i2,Q0 z TI TO m i2 a d->Ao h' z TI TO m i2 a d 0 xs ys .none->(∀c o,s.heap.get? c=Mt o->h'.get? c=Mt o)->(∀b∈[z,TI,TO,m,i2],s.heap.objs.size<=b)->Q (.ref z) {s with heap:=h'}):wpAny (MO prog w) A (call (.type "zip") [.ref a,.ref d]) Q E s:=by
 refine callType_new PySem.F.called_zip (by decide) (PySem.F.typeCall_zip_2 _ _) (PySem.F.newCall_zip_2 _ _) (λobj=>PySem.F.args_object_init_3 obj _ _) PySem.F.entry_zip_new (Aq a d xs ys f g) ⟨p,n,?_⟩;have k:(Jh s.heap f a).objs.size=s.heap.objs.size+1:=ND ..;have j:(Ji s.heap f g a d).objs.size=s.heap.objs.size+2:=by rw[ND,k]
 have i:(Jj s.heap f g a d).objs.size=s.heap.objs.size+3:=by rw[ND,j]
 have r:(Jk s.heap f g a d).objs.size=s.heap.objs.size+4:=by rw[ND,i]
 have l:∀c o,s.heap.get? c=Mt o->(D3 s.heap f g a d).get? c=Mt o:=λc o x=>Mw _ (Mw _ (Mw _ (Mw _ (Mw _ x))));have q:(D3 s.heap f g a d).get? (Jk s.heap f g a d).objs.size=Mt _:=MJ _ rfl;have u:(D3 s.heap f g a d).get? (Jj s.heap f g a d).objs.size=Mt _:=Mw _ (MJ _ rfl);have v:(D3 s.heap f g a d).get? (Ji s.heap f g a d).objs.size=Mt _:=Mw _ (Mw _ (MJ _ rfl));have y:(D3 s.heap f g a d).get? (Jh s.heap f a).objs.size=Mt (j4 g d):=Mw _ (Mw _ (Mw _ (MJ _ rfl)));have B:(D3 s.heap f g a d).get? s.heap.objs.size=Mt (j4 f a):=Mw _ (Mw _ (Mw _ (Mw _ (MJ _ rfl))));show _/\_;rw[j,i,r]at q;rw[k,j]at v;rw[i]at u;rw[k]at y;rw[r];refine⟨⟨_,q,rfl⟩,h _ _ _ _ _ _ (zipApart_new p.lt n.lt) ⟨q,v,⟨_,_,u⟩,(p.keep λo e=>l _ o e).D2 B,(n.keep λo e=>l _ o e).D2 y⟩ l λb t=>?_⟩;simp only[Nl,Nj,or_false]at t;rcases t with rfl|rfl|rfl|rfl|rfl<;>first|exact MN _|exact P8 _ _
end ZP
namespace L2
open PySem PySem.Spec PyProof.Rows ZP
noncomputable def td(K:ME)(H:Hp)(a:MD)(xs:List V):Bool->Prop
 |false=>cP K H a xs|true=>iE K H a xs
noncomputable def GR(K:ME)(f e:MD)(d c:Bool):It:=⟨λi H=>∃b a x y,td K H f b d/\td K H e a c/\b[i]?=Mt x/\a[i]?=Mt y,λi H x g=>∃t v u,H t=MA/\x=.ref t/\g=upd H t (.tup [v,u])/\(∀b,td K H f b d->b[i]?=Mt v)/\∀a,td K H e a c->a[i]?=Mt u,λi H=>∃b a,td K H f b d/\td K H e a c/\(b.length<=i\/a.length<=i)⟩
section
variable{X:Cx}{pins:List (MD×NF)}{σ:St}{H:Hp}{s:Mx}
theorem Inv.nc{a:MD}{xs:List V}{t:Bool}(I:Inv X pins σ H s)(h:td X.K H a xs t):∃its:List Mv,ak xs its/\Sq s.heap a its.toArray t/\xs.length<=MP:=by cases t with
 |false=>obtain⟨its,r,p,z⟩:=I.list h;exact⟨its,r,.list p.isList,z⟩|true=>obtain⟨its,r,p,z⟩:=I.tuple h;exact⟨its,r,.tup p,z⟩
theorem Sq.inj{h:Na}{a:MD}{xs ys:Array Mv}{t:Bool}(p:Sq h a xs t)(q:Sq h a ys t):xs=ys:=by cases p with
 |list p=>cases q with|list q=>exact fU p q
 |tup p=>cases q with|tup q=>exact eQ p q
theorem Inv.j5{fp:List MD}{h':Na}{t':Nat}(I:Inv X pins σ H s)(d:∀b∈fp,cz X pins H b)(keep:∀c o,c∉fp->s.heap.get? c=Mt o->h'.get? c=Mt o):Inv X pins σ H {s with heap:=h',toks:=t'}:=I.call (h':=h') (g':=s.gens) (d':=s.drawn) (t':=t') (ch:=fp) (H':=H) ⟨λb o e n g a=>keep b o a e,λb o e n g a=>⟨o.slots,keep b o a e⟩,λb o e n a=>n,λb o e a=>⟨o,keep b o a e⟩,λb m e=>e,λb o u e=>e,λb ps e=>⟨#[],by rw[Array.append_empty];exact e⟩⟩ (λb o e=>(I.ay b o e).fw (λc v f q=>keep c v (λi=>by
   have h:=(d c i).1;rcases f with rfl|f;.rw[h]at e;cases e
   .rw[h]at f;cases f) q) (λ_ q=>q) λ_ _ q=>q) I.bare (λb g=>by
   obtain⟨_,l,p,k,j,f5⟩:=d b g;exact⟨k,l,j,f5⟩)
noncomputable def lj(h:Na)(i a:MD)(k:Nat):Bool->Prop
 |false=>h.IsListIter i a k|true=>h.IsTupleIter i a k
theorem lj.keep{h h':Na}{i a:MD}{k:Nat}{t:Bool}(x:lj h i a k t)(b:∀o,h.get? i=Mt o->h'.get? i=Mt o):lj h' i a k t:=by cases t with
 |false=>obtain⟨o,e,r⟩:=x;exact⟨o,b o e,r⟩|true=>obtain⟨o,e,r⟩:=x;exact⟨o,b o e,r⟩
theorem lj.obj{h:Na}{i a:MD}{k:Nat}{t:Bool}(x:lj h i a k t):∃o,h.get? i=Mt o/\∀v,o.data≠.cell v:=by cases t with
 |false=>obtain⟨o,e,_,r⟩:=x;exact⟨o,e,λv z=>by rw[r]at z;cases z⟩|true=>obtain⟨o,e,_,r⟩:=x;exact⟨o,e,λv z=>by rw[r]at z;cases z⟩
theorem lj.D2{h:Na}{i a:MD}{k:Nat}{t:Bool}{xs:Array Mv}(x:lj h i a k t)(q:Sq h a xs t):gh h i a k xs:=by cases q with
 |list q=>exact .list x q|tup q=>exact .tup x q
theorem gh.Ar{h:Na}{i a:MD}{k:Nat}{t:Bool}{xs ys:Array Mv}(x:gh h i a k xs)(q:Sq h a ys t):lj h i a k t:=by cases x with
 |list p b=>cases q with
  |list q=>exact p|tup q=>exact(l4 b q).elim
 |tup p b=>cases q with
  |list q=>exact(l4 q b).elim|tup q=>exact p
structure LZ(h:Na)(z TI TO i1 i2 a1 a2:MD)(t1 t2:Bool)(k:Nat):Prop where
 zp:VP h z TI TO .none
 ti:QF h TI (.ref i1) (.ref i2)to:∃a b,QF h TO a b
 s1:lj h i1 a1 k t1
 s2:lj h i2 a2 k t2
theorem xb{P:MX}{w:M_}{K:ME}{elts:List MV}{x1:Nat}{pos:Od}{z TI TO g i2 R O:MD}{Y W:Bool}(D:Q0 z TI TO g i2 R O):Turn P w K (.Tuple elts x1 pos) (GR K R O Y W) [z,TI,TO,g,i2] z (λk h=>LZ h z TI TO g i2 R O Y W k)where
 mem:=by simp
 obj:=λi h st b m=>by
  simp only[Nl,Nj,or_false]at m;rcases m with rfl|rfl|rfl|rfl|rfl;.exact⟨_,st.zp,λv q=>nomatch q⟩
  .exact⟨_,st.ti,λv q=>nomatch q⟩
  .obtain⟨a,b,q⟩:=st.to;exact⟨_,q,λv q=>nomatch q⟩
  .exact st.s1.obj
  .exact st.s2.obj
 keep:=λi h B st k=>by
  obtain⟨a,b,q⟩:=st.to;exact⟨k z (by simp) _ st.zp,k TI (by simp) _ st.ti,⟨a,b,k TO (by simp) _ q⟩,st.s1.keep λo e=>k g (by simp) o e,st.s2.keep λo e=>k i2 (by simp) o e⟩
 item:=λX hP hw hK f i pins s σ H E I j st go=>by
  subst hP hw hK;obtain⟨xs,ys,x,y,hx,hy,ex,ey⟩:=go;obtain⟨M,T,G,_⟩:=I.nc hx;obtain⟨l,S,F,_⟩:=I.nc hy;obtain⟨u,eu,ru⟩:=T.get ex;obtain⟨V,a4,a0⟩:=S.get ey;refine d8 D ⟨st.zp,st.ti,st.to,st.s1.D2 G,st.s2.D2 F⟩ (x:=u) (y:=V) (by simpa using eu) (by simpa using a4) λB Z pr hz N=>⟨_,rfl,?_⟩;refine wpAny_letOwnedTupleGo_zip Z.zp λC z2 n=>?_;have hf:H s.heap.objs.size=MA:=I.ay.fresh (MN _);have nz:∀b∈[z,TI,TO,g,i2],b<s.heap.objs.size:=λb m=>by
   obtain⟨o,e,_⟩:∃o,s.heap.get? b=Mt o/\∀v,o.data≠.cell v:=by
    simp only[Nl,Nj,or_false]at m;rcases m with rfl|rfl|rfl|rfl|rfl;.exact⟨_,st.zp,λv q=>nomatch q⟩
    .exact⟨_,st.ti,λv q=>nomatch q⟩
    .obtain⟨a,b,q⟩:=st.to;exact⟨_,q,λv q=>nomatch q⟩
    .exact st.s1.obj
    .exact st.s2.obj
   exact MH e
  have d:∀c o,c∉[z,TI,TO,g,i2]->s.heap.get? c=Mt o->C.get? c=Mt o:=λc o f e=>by
   simp only[Nl,Nj,or_false,not_or]at f;exact n.extBut _ _ f.1 (N c o f.1 f.2.2.1 f.2.2.2.1 f.2.2.2.2 e)
  have a3:QF C s.heap.objs.size u V:=n.extBut _ _ (N0 (nz z (by simp))) pr;have I2:Inv X pins σ H {s with heap:=C}:=I.j5 (t':=s.toks) j d;have a6:C.objs.size=s.heap.objs.size+1:=n.1.trans hz;refine⟨.ref s.heap.objs.size,upd H s.heap.objs.size (.tup [x,y]),I2.fF (a:=s.heap.objs.size) I.sz hf (N0 I.lt) (λv c e q=>?_) (λp hp q=>?_) ⟨by show 2<=MP;decide,[u,V],.cons ru (.cons a0 .nil),⟨_,a3,rfl,_,rfl⟩⟩,rfl,⟨_,x,y,hf,rfl,rfl,λU r=>?_,λU r=>?_⟩,?_,λb m=>?_⟩
  .obtain⟨w',J⟩:=I.cell v c e;exact absurd J.lt (by rw[q];exact Nh _)
  .exact absurd (MH (I.pin p hp).1) (by rw[q];exact Nh _)
  .obtain⟨L,r',J,_⟩:=I.nc r;have e0:=congrArg T9 (Sq.inj G J);simp only[]at e0;subst e0;have e:U=xs:=ak.inj r' T;rw[e];exact ex
  .obtain⟨L,r',J,_⟩:=I.nc r;have e0:=congrArg T9 (Sq.inj F J);simp only[]at e0;subst e0;have e:U=ys:=ak.inj r' S;rw[e];exact ey
  .have c1:∀o,B.get? g=Mt o->C.get? g=Mt o:=λo e=>n.extBut _ _ D.i1z e;have c2:∀o,B.get? i2=Mt o->C.get? i2=Mt o:=λo e=>n.extBut _ _ D.i2z e;obtain⟨a,b,q⟩:=Z.to;have k1:Sq B R M.toArray Y:=G.keep λo e=>N R o D.l1z D.l1TO D.l1i1 D.l1i2 e;have k2:Sq B O l.toArray W:=F.keep λo e=>N O o D.l2z D.l2TO D.l2i1 D.l2i2 e;exact⟨z2,n.extBut _ _ D.TIz Z.ti,⟨a,b,n.extBut _ _ D.TOz q⟩,(gh.Ar Z.s1 k1).keep c1,(gh.Ar Z.s2 k2).keep c2⟩
  .rw[ai (M4 (nz b m))];exact(j b m).1
 done:=λX hP hw hK f i pins s σ H E I j st stop=>by
  subst hP hw hK;obtain⟨xs,ys,hx,hy,t⟩:=stop;obtain⟨M,T,G,_⟩:=I.nc hx;obtain⟨l,S,F,_⟩:=I.nc hy;refine eR (I.ok.hd f) D ⟨st.zp,st.ti,st.to,st.s1.D2 G,st.s2.D2 F⟩ ?_ λB N=>⟨rfl,?_⟩
  .rcases t with t|t;.left;rw[T.length]at t;simpa using t
   .right;rw[S.length]at t;simpa using t
  .have d:∀c o,c∉[z,TI,TO,g,i2]->s.heap.get? c=Mt o->B.get? c=Mt o:=λc o f e=>by
    simp only[Nl,Nj,or_false,not_or]at f;exact N c o f.1 f.2.2.1 f.2.2.2.1 f.2.2.2.2 e
   exact I.j5 (t':=s.toks) j d
 self:=λA i s Q E st q=>TU st.zp q
end
noncomputable def Kh(K:ME)(j:TA):TI:=λh H R=>j h H λi c=>∃b a g f e d,i=[.ref b,.ref a]/\td K c b e g/\td K c a d f/\(e.length<=MP->d.length<=MP->R (GR K b a g f) c)
theorem D4{X:Cx}{elts:List MV}{x1:Nat}{F:Od}{a b:MV}{G:TA}{p pos:Od}(hg:Gl X "zip")(hm:X.mg "zip"=MA)(ha:PA X [a,b] G)(hs:MS [a,b] X.env=(My,N2 a X.env)::MS [b] X.env:=by rfl)(C:(Og pos (MS [b] X.env)).any (·.1)=My:=by rfl):PI X (.Tuple elts x1 F) (.Call (.Name "zip" p) [a,b] [] pos) (Kh X.K G):=by
 intro c s l H R I h;have hc:∀(y:List V)(g:List Mv)(s1:Mx)(d:Hp),Inv X c l d s1->ak y g->(∃k j n m B x,y=[.ref k,.ref j]/\td X.K d k B n/\td X.K d j x m/\(B.length<=MP->x.length<=MP->R (GR X.K k j n m) d))->wpAny (MO X.prog X.w) X.A (call (.type "zip") g) (λv s1=>wpAny (MO X.prog X.w) X.A (RZ v) (JK X c l (.Tuple elts x1 F) R) X.xe s1) X.xe s1:=by
  rintro y g s1 d f r⟨k,j,n,m,B,x,rfl,h1,h2,q⟩;obtain⟨u,v,rfl,U,T⟩:=vals2 r;cases U;cases T;obtain⟨W,J,t,Q⟩:=f.nc h1;obtain⟨M,r2,L,P⟩:=f.nc h2;refine oR t L λh' z TI TO Y i2 D Z E i=>?_;refine TU Z.zp ?_;have I2:Inv X c l d {s1 with heap:=h'}:=f.kept (t':=s1.toks) E;refine⟨z,[z,TI,TO,Y,i2],_,GR X.K k j n m,d,rfl,I2,xb D,⟨Z.zp,Z.ti,Z.to,gh.Ar Z.s1 (t.keep λo e=>E _ o e),gh.Ar Z.s2 (L.keep λo e=>E _ o e)⟩,λb O=>?_,q Q P⟩;exact f.uf (i b O) (f.ay.fresh (i b O))
 exact Call_ (dO I hg hm boot_zip (Ot (aU (ha pos c s l H _ I h) λg s1⟨S,d,f,J,t⟩=>hc S g s1 d f J t) hs C))
noncomputable def As{a:Type}(f:D->D->M a):List D->M a
 |[d,e]=>f d e|_=>M.fail
theorem oU{a:Type}{f:D->D->M a}{ds:List D}{k Q E}(h:(As f ds).run k Q E):∃d e,ds=[d,e]/\(f d e).run k Q E:=by match ds,h with|[d,e],h=>exact⟨d,e,rfl,h⟩
noncomputable def j6(xs ys:List D):List D:=List.zipWith (λx y=>D.tup [x,y]) xs ys
noncomputable def xf(d e:D):M (List D):=do
 let b<-M.get (items d)let a<-M.get (items e)pure (j6 b a)
noncomputable def isTup:D->Bool
 |.tup _=>Mz|_=>My
noncomputable def oV(B:Fb)(H:Hp)(a:MD)(vs:List V):Bool->Prop
 |true=>TupAt B H a vs|false=>LstAt B H a vs
theorem oV.mono{B:Fb}{H H':Hp}{k k':Nat}{a:MD}{vs:List V}{t:Bool}(h:oV B H a vs t)(e:Kp B H k H' k'):oV B H' a vs t:=by cases t with
 |true=>exact TupAt.mono h e|false=>exact LstAt.mono h e
theorem oV.nc{B:Fb}{H:Hp}{a:MD}{vs:List V}{t:Bool}(h:oV B H a vs t):td B.K H a vs t:=by cases t with
 |true=>exact h.2|false=>exact h.2.sq
theorem jr{B:Fb}{H:Hp}{v:V}{d:D}{ds:List D}(h:Is B H v d)(e:items d=Mt ds):∃a vs,v=.ref a/\oV B H a vs (isTup d)/\af B H vs ds:=by
 cases d<;>first|cases e|skip
 .simp only[Is]at h;obtain⟨a,vs,f,c,b⟩:=h;exact⟨a,vs,f,c,b⟩
 .simp only[Is]at h;obtain⟨a,vs,f,c,b⟩:=h;exact⟨a,vs,f,c,b⟩
theorem Au{xs ys:List D}{i:Nat}{d:D}(h:(j6 xs ys)[i]?=Mt d):∃x y,xs[i]?=Mt x/\ys[i]?=Mt y/\d=.tup [x,y]:=by
 unfold j6 at h;rw[List.getElem?_zipWith]at h;cases a:xs[i]? with
 |none=>rw[a]at h;simp at h|some x=>cases b:ys[i]? with
  |none=>rw[a,b]at h;simp at h|some y=>
   rw[a,b]at h;exact⟨x,y,rfl,rfl,(MI h).symm⟩
theorem xg{B:Fb}{H:Hp}{k:Nat}{r q:MD}{a b:List V}{xs ys:List D}{g f:Bool}(n:oV B H r a g)(m:oV B H q b f)(c:af B H a xs)(i2:af B H b ys)(hz:a.length<=MP):jW B (GR B.K r q g f) (j6 xs ys) H k where
 step:=λj d G h hd e l=>by
  obtain⟨x,y,A,w,rfl⟩:=Au hd;obtain⟨v,e1,F⟩:=(c.mono e).get A;obtain⟨u,e2,c2⟩:=(i2.mono e).get w;have s1:=(n.mono e).nc;have s2:=(m.mono e).nc;refine⟨⟨a,b,v,u,s1,s2,e1,e2⟩,λz L s=>?_⟩;obtain⟨t,I,J,i,rfl,rfl,E,C⟩:=s;have p:=E a s1;have o:=C b s2;rw[e1]at p;rw[e2]at o;cases p;cases o;exact⟨.new i,bZ (k:=h) l i (.cons F (.cons c2 .nil))⟩
 stop:=λG h e l=>⟨a,b,(n.mono e).nc,(m.mono e).nc,by
  rw[c.length,i2.length];simp only[j6,Sm];omega⟩;len:=by
  rw[c.length]at hz;simp only[j6,Sm];omega
section
variable{X:Cx}{F:Fx}{a b:MV}{elts:List MV}{x1:Nat}{tp p pos:Od}{tas:ag->M (List A)}
theorem D5(s:X.mg "zip"=MA)(j:DA X F [a,b] tas)(t:Gl X "zip":=by rfl)(r:MS [a,b] X.env=(My,N2 a X.env)::MS [b] X.env:=by rfl)(i:(Og pos (MS [b] X.env)).any (·.1)=My:=by rfl):DI X F (.Tuple elts x1 tp) (.Call (.Name "zip" p) [a,b] [] pos) (λl=>do As xf (<-dB (<-tas l))):=⟨j.hK,(D4 t s j.pa r i).imp λJ H R c=>by
  obtain⟨l,k,S,h⟩:=c;refine mU.next S h λas P O I e1 T q B=>?_;obtain⟨Q,rfl,z⟩:=bh B;obtain⟨d,e,rfl,y⟩:=oU z;obtain⟨v,u,rfl,o,n⟩:=(bj q).two;obtain⟨N,ex,x⟩:=M.run_get.mp y;obtain⟨L,C,w⟩:=M.run_get.mp x;obtain⟨G,g,rfl,s1,D⟩:=jr o ex;obtain⟨E,f,rfl,s2,c2⟩:=jr n C;rw[j.hK];exact⟨G,E,isTup d,isTup e,g,f,rfl,s1.nc,s2.nc,λm K=>w _ I e1 (xg s1 s2 D c2 m)⟩⟩
end
end L2
end
section
namespace L2
open PySem PySem.Spec PyProof.Rows ZP
noncomputable def Jl(K:ME)(a:MD):It:=⟨λi H=>∃b x,cP K H a b/\b[i]?=Mt x,λi H x c=>∃t v,H t=MA/\x=.ref t/\c=upd H t (.tup [.int i,v])/\∀b,cP K H a b->b[i]?=Mt v,λi H=>∃b,cP K H a b/\b.length<=i⟩
structure Lv(h:Na)(e it a:MD)(k:Nat):Prop where
 en:∃old,IsEnum h e it (k:Int) old
 ii:h.IsListIter it a k
theorem uG{P:MX}{w:M_}{K:ME}{elts:List MV}{x1:Nat}{pos:Od}{e it a:MD}(n:e≠it):Turn P w K (.Tuple elts x1 pos) (Jl K a) [e,it] e (λk h=>Lv h e it a k)where
 mem:=by simp
 obj:=λi h st b j=>by
  simp only[Nl,Nj,or_false]at j;rcases j with rfl|rfl;.obtain⟨old,q⟩:=st.en;exact⟨_,q,λv q=>nomatch q⟩
  .obtain⟨o,q,_,r⟩:=st.ii;exact⟨o,q,λv z=>by rw[r]at z;cases z⟩
 keep:=λi h O st k=>by
  obtain⟨old,q⟩:=st.en;obtain⟨o,q2,r⟩:=st.ii;exact⟨⟨old,k e (by simp) _ q⟩,⟨o,k it (by simp) _ q2,r⟩⟩
 item:=λX hP hw hK f i g s R H E I d st go=>by
  subst hP hw hK;obtain⟨Y,x,t,ex⟩:=go;obtain⟨G,B,D,_⟩:=I.list t;obtain⟨u,eu,Z⟩:=B.get ex;obtain⟨old,en⟩:=st.en;refine wpAny_pyNext_enum_item en st.ii D.isList (x:=u) (by simpa using eu) n λO eo M pr hz L=>⟨_,rfl,?_⟩;refine wpAny_letOwnedTupleGo_enum eo λy e2 m=>?_;have m:NW e O y:=m;have V:H s.heap.objs.size=MA:=I.ay.fresh (MN _);have T:∀b∈[e,it],b<s.heap.objs.size:=λb j=>by
   simp only[Nl,Nj,or_false]at j;rcases j with rfl|rfl;.exact MH en
   .obtain⟨o,q,_⟩:=st.ii;exact MH q
  have l:∀c o,c∉[e,it]->s.heap.get? c=Mt o->y.get? c=Mt o:=λc o f q=>by
   simp only[Nl,Nj,or_false,not_or]at f;exact m.extBut _ _ f.1 (L c o f.1 f.2 q)
  have C:y.get? s.heap.objs.size=Mt {cls:=.type "tuple",data:=.seq #[.int i s.toks,u]}:=m.extBut _ _ (N0 (T e (by simp))) pr;have I2:Inv X g R H {s with heap:=y,toks:=s.toks+1}:=I.j5 (t':=s.toks+1) d l;refine⟨.ref s.heap.objs.size,upd H s.heap.objs.size (.tup [.int i,x]),I2.fF (a:=s.heap.objs.size) I.sz V (N0 I.lt) (λv c q z=>?_) (λp hp z=>?_) ⟨by show 2<=MP;decide,[.int i s.toks,u],.cons ⟨_,rfl⟩ (.cons Z .nil),⟨_,C,rfl,_,rfl⟩⟩,rfl,⟨_,x,V,rfl,rfl,λzs J=>?_⟩,?_,λb j=>?_⟩
  .obtain⟨w',q'⟩:=I.cell v c q;exact absurd q'.lt (by rw[z];exact Nh _)
  .exact absurd (MH (I.pin p hp).1) (by rw[z];exact Nh _)
  .rw[I.oo J t];exact ex
  .refine⟨⟨_,by rw[show((i+1:Nat):Int)=(i:Int)+1 from by push_cast;rfl];exact e2⟩,?_⟩;obtain⟨o,q,r⟩:=M;exact⟨o,m.extBut _ _ n.symm q,r⟩
  .rw[ai (M4 (T b j))];exact(d b j).1
 done:=λX hP hw hK f i g s R H E I d st stop=>by
  subst hP hw hK;obtain⟨Y,t,U⟩:=stop;obtain⟨G,B,D,_⟩:=I.list t;obtain⟨old,en⟩:=st.en;refine wpAny_pyNext_enum_end (I.ok.hd f) en st.ii D.isList (by rw[B.length]at U;simpa using U) λO L=>⟨rfl,?_⟩;exact I.j5 (t':=s.toks) d λc o f q=>L c o (λz=>f (by simp[z])) q
 self:=λA i s Q E st q=>by
  obtain⟨old,en⟩:=st.en;have N:s.TypeIs (.ref e) "enumerate":=⟨_,en,rfl⟩;refine RS N Sw (Ni Sw N PySem.F.entry_enumerate_iter ?_ (PySem.F.args_enumerate_iter_1 _));show wpAny _ _ (Wf (.ref e)) _ _ s;exact Mu ⟨_,rfl,"enumerate",_,N,PySem.F.slot_enumerate_next.lookup,q⟩
noncomputable def GS(K:ME)(f:TA):TI:=λd H R=>f d H λe c=>∃a b,e=[.ref a]/\cP K c a b/\(b.length<=MP->R (Jl K a) c)
theorem Av{X:Cx}{elts:List MV}{x1:Nat}{i:Od}{a:MV}{k:TA}{p pos:Od}(B:Gl X "enumerate")(z:X.mg "enumerate"=MA)(C:PA X [a] k)(y:MS [a] X.env=[(My,N2 a X.env)]:=by rfl):PI X (.Tuple elts x1 i) (.Call (.Name "enumerate" p) [a] [] pos) (GS X.K k):=by
 intro c s m H R I h;refine Call_ (dO I B z (by decide+kernel:OB "enumerate"=Mt (.type "enumerate")) (Ot (aU (C pos c s m H _ I h) λL s1⟨J,F,e,r,t⟩=>?_) y rfl));obtain⟨g,G,rfl,D,q⟩:=t;obtain⟨u,rfl,o⟩:=vals1 r;cases o;obtain⟨x,M,v,n⟩:=e.list D;refine call_enumerate_list v.isList λE en f N A=>?_;have T:Lv E (s1.heap.objs.size+1) s1.heap.objs.size g 0:=⟨⟨_,en⟩,f⟩;have j:=uG (P:=X.prog) (w:=X.w) (K:=X.K) (elts:=elts) (x1:=x1) (pos:=i) (a:=g) (show s1.heap.objs.size+1≠s1.heap.objs.size by omega);refine j.self _ 0 _ _ _ T ?_;refine⟨s1.heap.objs.size+1,[s1.heap.objs.size+1,s1.heap.objs.size],_,Jl X.K g,F,rfl,e.kept (t':=s1.toks) A,j,T,λb l=>?_,q n⟩;have d:s1.heap.objs.size<=b:=by
  simp only[Nl,Nj,or_false]at l;rcases l with rfl|rfl;.exact P8 _ _
  .exact MN _
 exact e.uf d (e.ay.fresh d)
noncomputable def gG(xs:List D):List D:=xs.zipIdx.map λx=>D.tup [.int (x.2:Nat),x.1]
noncomputable def GU(d:D):M (List D):=match d with
 |.lst a=>pure (gG a)|_=>M.fail
theorem xh{xs:List D}{i:Nat}{d:D}(h:(gG xs)[i]?=Mt d):∃x,xs[i]?=Mt x/\d=.tup [.int (i:Nat),x]:=by
 unfold gG at h;rw[Nq,List.getElem?_zipIdx]at h;cases a:xs[i]? with
 |none=>rw[a]at h;simp at h|some x=>
  rw[a]at h;simp at h;exact⟨x,rfl,h.symm⟩
theorem uH{B:Fb}{H:Hp}{k:Nat}{a:MD}{vs:List V}{xs:List D}(h:LstAt B H a vs)(i:af B H vs xs)(hz:vs.length<=MP):jW B (Jl B.K a) (gG xs) H k where
 step:=λj d g b hd e l=>by
  obtain⟨x,n,rfl⟩:=xh hd;obtain⟨v,e1,p⟩:=(i.mono e).get n;have s1:cP B.K g a vs:=(h.mono e).2.sq;refine⟨⟨vs,v,s1,e1⟩,λz r m=>?_⟩;obtain⟨t,q,c,rfl,rfl,o⟩:=m;have f:=o vs s1;rw[e1]at f;cases f;exact⟨.new c,bZ (k:=b) l c (.cons (by simp only[Is]) (.cons p .nil))⟩
 stop:=λg b e l=>⟨vs,(h.mono e).2.sq,by rw[i.length];simp[gG]⟩;len:=by rw[i.length]at hz;simpa[gG]using hz
section
variable{X:Cx}{F:Fx}{a:MV}{elts:List MV}{x1:Nat}{tp p pos:Od}{tas:ag->M (List A)}
theorem Aw(n:X.mg "enumerate"=MA)(c:DA X F [a] tas)(o:Gl X "enumerate":=by rfl)(m:MS [a] X.env=[(My,N2 a X.env)]:=by rfl):DI X F (.Tuple elts x1 tp) (.Call (.Name "enumerate" p) [a] [] pos) (λe=>do DR GU (<-dB (<-tas e))):=⟨c.hK,(Av o n c.pa m).imp λu H R b=>by
  obtain⟨e,k,S,h⟩:=b;refine mU.next S h λas y x t e1 B l r=>?_;obtain⟨z,rfl,q⟩:=bh r;obtain⟨d,rfl,g⟩:=oK q;obtain⟨v,rfl,f⟩:=(bj l).one;rw[c.hK];cases d with
  |lst w=>
   simp only[Is]at f;obtain⟨a,j,rfl,s1,s⟩:=f;exact⟨a,j,rfl,s1.2.sq,λi=>g _ t e1 (uH s1 s i)⟩|_=>exact g.elim⟩
end
section
variable{X:Cx}{F:Fx}{elt tg iter tg2 iter2:MV}{ifs ifs2:List MV}{pos:Od}{scope:OJ}{own fr:List M3}{js:List Nat}{g g2:D->ag->M ag}{tc tc2:ag->M Bool}{te:ag->M D}{tI tI2:ag->M (List D)}
noncomputable def gH(g:D->ag->M ag)(tc:ag->M Bool)(e:ag->M (List D×ag)):List D->ag->M (List D×ag)
 |[],c=>pure ([],c)|d::f,c=>do
  let a<-g d c;let b<-tc a;if b then do
   let x<-e a;let r<-gH g tc e f x.2;pure (x.1++r.1,r.2)else gH g tc e f a
noncomputable def xi(te:ag->M D)(a:ag):M (List D×ag):=do let x<-te a;pure ([x],a)
noncomputable def Ax(tI2:ag->M (List D))(g2:D->ag->M ag)(tc2:ag->M Bool)(te:ag->M D)(a:ag):M (List D×ag):=do
 let b<-tI2 a;M.need (b.length<=1000)gH g2 tc2 (xi te) b a
theorem xj{σ:St}{C:ag}{t:Hp}{k1:Nat}{J:It}{ds:List D}{a:List V}{s:List D}{Q:List D×ag->Nat->Prop}{O:List V->St->Hp->Prop}(it:jW F.toFb J ds t k1)(S:bp F C k1 σ t)(i0:af F.toFb t a s)(a0:a.length+ds.length<=MP)(h:(gH g tc (xi te) ds C).run k1 Q F.E)(q:∀vs xs A u H' k',Ext F.toFb t k1 H' k'->bp F A k' u H'->af F.toFb H' vs (s++xs)->vs.length<=a.length+ds.length->Q (xs,A) k'->O vs u H'):iI J (qW F g) (fO F tc) (dW (bK F te)) σ t a O:=by
 refine⟨λi m k n l=>m=ds.length-i/\i<=ds.length/\k.length<=a.length+i/\∃c f as,bp F c f n l/\Ext F.toFb t k1 l f/\af F.toFb l k (s++as)/\(gH g tc (xi te) (ds.drop i) c).run f (λr k'=>Q (as++r.1,r.2) k') F.E,⟨ds.length,rfl,Nv _,MN _,C,k1,[],S,.refl,by rw[NT];exact i0,h⟩,?_⟩;rintro i m k n l⟨rfl,a1,I,c,f,as,B,e2,G,o⟩;by_cases p:i<ds.length
 .obtain⟨d,hd,H⟩:=fk p;rw[H]at o;obtain⟨go,R⟩:=it.step i d l f hd e2.kp B.live;refine .inr ⟨go,λx H3 y=>?_⟩;obtain⟨e3,i3⟩:=R x H3 y;refine⟨c,f,d,B.mono e3,i3,M.wk o λw k4 W P H4 e4 S4=>?_⟩;refine fO.next S4 W λb L H5 e5 N K=>?_;have j:Ext F.toFb l f H5 L:=(e3.trans e4).trans e5;cases b with
  |false=>exact⟨ds.length-(i+1),by omega,rfl,p,by omega,w,L,as,N,e2.trans j,G.mono j.kp,K⟩|true=>
   rw[if_pos rfl];refine bK.next N K λT Y v H6 e6 S6 Z U=>?_;refine⟨by omega,ds.length-(i+1),by omega,rfl,p,by simp;omega,w,Y,as++[T],S6,e2.trans (j.trans e6),?_,M.wk U λr k7 z=>?_⟩
   .rw[<-Pl];exact(G.mono (j.trans e6).kp).append (.cons Z .nil)
   .rw[Pl];exact z
 .have e:i=ds.length:=by omega
  subst e;rw[PB]at o;have o:Q (as++[],c) f:=o;rw[NT]at o;exact .inl ⟨it.stop l f e2.kp B.live,q k as c n l f e2 B G I o⟩
theorem xk{σ:St}{w:ag}{u:Hp}{k1:Nat}{J:It}{ds:List D}{Q:List D×ag->Nat->Prop}{L:List V->St->Hp->Prop}(it:jW F.toFb J ds u k1)(S:bp F w k1 σ u)(Y:ds.length<=1000)(h:(gH g tc (Ax tI2 g2 tc2 te) ds w).run k1 Q F.E)(q:∀vs xs f o H' k',Ext F.toFb u k1 H' k'->bp F f k' o H'->af F.toFb H' vs xs->Q (xs,f) k'->vs.length<=MP->L vs o H'):iI J (qW F g) (fO F tc) (fR (zf F tI2) (qW F g2) (fO F tc2) (dW (bK F te))) σ u [] L:=by
 have sl:MP=16777216:=NR;refine⟨λi m k n l=>m=ds.length-i/\i<=ds.length/\k.length<=i*1000/\∃a c as,bp F a c n l/\Ext F.toFb u k1 l c/\af F.toFb l k as/\(gH g tc (Ax tI2 g2 tc2 te) (ds.drop i) a).run c (λr k'=>Q (as++r.1,r.2) k') F.E,⟨ds.length,rfl,Nv _,Nv _,w,k1,[],S,.refl,.nil,h⟩,?_⟩;rintro i m k n l⟨rfl,a0,a1,a,c,as,v,e2,G,p⟩;by_cases s:i<ds.length
 .obtain⟨d,hd,H⟩:=fk s;rw[H]at p;obtain⟨go,O⟩:=it.step i d l c hd e2.kp v.live;refine .inr ⟨go,λx H3 y=>?_⟩;obtain⟨e3,U⟩:=O x H3 y;refine⟨a,c,d,v.mono e3,U,M.wk p λt k4 R N H4 e4 S4=>?_⟩;refine fO.next S4 R λb B H5 e5 I K=>?_;have j:Ext F.toFb l c H5 B:=(e3.trans e4).trans e5;cases b with
  |false=>exact⟨ds.length-(i+1),by omega,rfl,s,by omega,t,B,as,I,e2.trans j,G.mono j.kp,K⟩|true=>
   rw[if_pos rfl];refine⟨t,B,I,M.wk K λa2 k6 A J2 H6 e6 C=>?_⟩;obtain⟨W,A⟩:=A;refine xj C (I.mono e6) (G.mono (j.trans e6).kp) (by omega) A λvs xs f o H' k' e7 S7 T Z P=>?_;refine⟨ds.length-(i+1),by omega,rfl,s,by omega,f,k',as++xs,S7,e2.trans ((j.trans e6).trans e7),T,M.wk P λr k8 z=>?_⟩;rw[Pl];exact z
 .have e:i=ds.length:=by omega
  subst e;rw[PB]at p;have p:Q (as++[],a) c:=p;rw[NT]at p;exact .inl ⟨it.stop l c e2.kp v.live,q k as a n l c e2 v G p (by omega)⟩
end
noncomputable def c7(x:D):Prop:=∃k:List Key,x=.tup (k.map kD)
noncomputable def fV(x:D):Prop:=∃i:Int,x=.int i
theorem D6{a b:Key}(e:kD a=kD b):a=b:=by cases a with
 |inl i=>cases b with
  |inl j=>have c:D.int i=D.int j:=e;injection c with c;rw[c]|inr y=>exact nomatch(show D.int i=D.str y from e)
 |inr x=>cases b with
  |inl j=>exact nomatch(show D.str x=D.int j from e)|inr y=>have c:D.str x=D.str y:=e;injection c with c;rw[c]
theorem cJ:∀{a b:List Key},a.map kD=b.map kD->a=b
 |[],[],_=>rfl|[],_::_,e=>by simp at e|_::_,[],e=>by simp at e|x::a,y::b,e=>by
  simp only[M9,PU]at e;rw[D6 e.1,cJ e.2]
theorem fW{B:Fb}{H:Hp}{v:V}{k:Key}(h:Is B H v (kD k)):v=kV k:=by cases k with
 |inl i=>simp only[kD,Is]at h;exact h|inr x=>simp only[kD,Is]at h;exact h
theorem bJ{B:Fb}{H:Hp}:∀{vs:List V}{ks:List Key},af B H vs (ks.map kD)->vs=ks.map kV
 |_,[],h=>by simp only[Q6,af]at h;rw[h];rfl|_,k::ks,h=>by
  simp only[M9,af]at h;obtain⟨x,c,rfl,b,a⟩:=h;rw[fW b,bJ a];rfl
noncomputable def Ay(r:List D):M D:=M.any λd=>∃l,d=.set l/\l.Nodup/\∀x,x∈l↔x∈r
noncomputable def l7(g:D->ag->M ag)(e:ag->M Bool)(f:List D->ag->M (List D×ag)):List D->List D->ag->M (List D×ag)
 |acc,[],c=>pure (acc,c)|acc,d::h,c=>do
  let a<-g d c;let b<-e a;if b then do
   let r<-f acc a;l7 g e f r.1 h r.2;else l7 g e f acc h a
noncomputable def tj(ok:D->Prop)(c:ag->M D)(a:List D)(b:ag):M (List D×ag):=do
 let x<-c b;M.need (a.length<4/\ok x)pure (a++[x],b)
structure BX(F:Fx){α:Type}(ok:D->Prop)(post:α->(α->St->Hp->Prop)->St->V->Hp->Prop)(So:Hp->α->List D->Prop):Prop where
 mono:∀{H H':Hp}{k k':Nat}{a:α}{r:List D},So H a r->Kp F.toFb H k H' k'->So H' a r
 emit:∀{H:Hp}{a:α}{r:List D}{Q:α->St->Hp->Prop}{σ:St}{v:V}{d:D},So H a r->ok d->Is F.toFb H v d->r.length<4->(∀a',So H a' (r++[d])->Q a' σ H)->post a Q σ v H
section
variable{F:Fx}{α:Type}{ok:D->Prop}{post:α->(α->St->Hp->Prop)->St->V->Hp->Prop}{So:Hp->α->List D->Prop}{g g2:D->ag->M ag}{tc tc2:ag->M Bool}{te:ag->M D}{tI2:ag->M (List D)}
theorem D7(B:BX F ok post So){σ:St}{z:ag}{p:Hp}{k1:Nat}{J:It}{ds:List D}{a0:α}{o:List D}{Q:List D×ag->Nat->Prop}{O:α->St->Hp->Prop}(it:jW F.toFb J ds p k1)(S:bp F z k1 σ p)(i0:So p a0 o)(h:(l7 g tc (tj ok te) o ds z).run k1 Q F.E)(q:∀a xs t r H' k',Ext F.toFb p k1 H' k'->bp F t k' r H'->So H' a xs->Q (xs,t) k'->O a r H'):iI J (qW F g) (fO F tc) (λσ H a Q=>bK F te σ H (post a Q σ)) σ p a0 O:=by
 refine⟨λi m a l k=>m=ds.length-i/\i<=ds.length/\∃c f as,bp F c f l k/\Ext F.toFb p k1 k f/\So k a as/\(l7 g tc (tj ok te) as (ds.drop i) c).run f Q F.E,⟨ds.length,rfl,Nv _,z,k1,o,S,.refl,i0,h⟩,?_⟩;rintro i m a l k⟨rfl,a1,c,f,as,w,e2,G,u⟩;by_cases n:i<ds.length
 .obtain⟨d,hd,I⟩:=fk n;rw[I]at u;obtain⟨go,R⟩:=it.step i d k f hd e2.kp w.live;refine .inr ⟨go,λx H3 y=>?_⟩;obtain⟨e3,Y⟩:=R x H3 y;refine⟨c,f,d,w.mono e3,Y,M.wk u λs k4 U P H4 e4 S4=>?_⟩;refine fO.next S4 U λb L H5 e5 N K=>?_;have j:Ext F.toFb k f H5 L:=(e3.trans e4).trans e5;cases b with
  |false=>exact⟨ds.length-(i+1),by omega,rfl,n,s,L,as,N,e2.trans j,B.mono G j.kp,K⟩|true=>
   rw[if_pos rfl];refine bK.next N K λT W v H6 e6 S6 X A=>?_;obtain⟨⟨Z,ay⟩,A⟩:=A;exact B.emit (B.mono G (j.trans e6).kp) ay X Z λa' C=>⟨ds.length-(i+1),by omega,rfl,n,s,W,as++[T],S6,e2.trans (j.trans e6),C,A⟩
 .have e:i=ds.length:=by omega
  subst e;rw[PB]at u;exact .inl ⟨it.stop k f e2.kp w.live,q a as c l k f e2 w G u⟩
end
section
variable{X:Cx}{F:Fx}{elt tg iter c:MV}{ifs:List MV}{pos:Od}{scope:OJ}{own fr:List M3}{js:List Nat}{g:D->ag->M ag}{tc:ag->M Bool}{te:ag->M D}{tI:ag->M (List D)}
structure n_(F:Fb)(H:Hp)(a:List (List Key×MD)×NF)(r:List D):Prop where
 ob:cj F.P F.w a.2 a.1
 nd:(a.1.map (·.1)).Nodup
 mem:∀k,k∈a.1.map (·.1)↔D.tup (k.map kD)∈r
 all:∀x∈r,c7 x
 tup:∀x∈a.1,TupAt F H x.2 (x.1.map kV)le:a.1.length<=r.length
theorem n_.mono{B:Fb}{H H':Hp}{k k':Nat}{a:List (List Key×MD)×NF}{r:List D}(h:n_ B H a r)(e:Kp B H k H' k'):n_ B H' a r:=⟨h.ob,h.nd,h.mem,h.all,λx b=>(h.tup x b).mono e,h.le⟩
theorem n_.nil{B:Fb}{H:Hp}:n_ B H ([],aB B.w) []:=⟨m_ _ _,.nil,λk=>by simp,λx a=>(nomatch a),λx a=>(nomatch a),MN _⟩
theorem n_.old{B:Fb}{H:Hp}{a:List (List Key×MD)×NF}{r:List D}{k:List Key}(h:n_ B H a r)(d:k∈a.1.map (·.1)):n_ B H a (r++[.tup (k.map kD)]):=by
 refine⟨h.ob,h.nd,λe=>?_,λx b=>?_,h.tup,by have:=h.le;simp;omega⟩
 .rw[h.mem,Sh,PD];constructor;.exact .inl
  .rintro(z|z);.exact z
   .rw[z];exact(h.mem k).mp d
 .rcases List.mem_append.mp b with z|z;.exact h.all x z
  .exact⟨k,List.mem_singleton.mp z⟩
theorem n_.new{B:Fb}{H:Hp}{a:List (List Key×MD)×NF}{r:List D}{k:List Key}{b:MD}{d:List (List Key×MD)}{f:NF}(h:n_ B H a r)(m:k∉a.1.map (·.1))(i:d.Perm ((k,b)::a.1))(so:cj B.P B.w f d)(l:TupAt B H b (k.map kV)):n_ B H (d,f) (r++[.tup (k.map kD)]):=by
 have e:(d.map (·.1)).Perm (k::a.1.map (·.1)):=i.map (·.1);refine⟨so,e.nodup_iff.mpr (List.nodup_cons.mpr ⟨m,h.nd⟩),λn=>?_,λx j=>?_,λx j=>?_,by have:=h.le;rw[i.length_eq];simp;omega⟩
 .rw[e.mem_iff,Nl,h.mem,Sh,PD];constructor
  .rintro(z|z);.exact .inr (by rw[z])
   .exact .inl z
  .rintro(z|z);.exact .inr z
   .refine .inl (cJ ?_);injection z
 .rcases List.mem_append.mp j with z|z;.exact h.all x z
  .exact⟨k,List.mem_singleton.mp z⟩
 .rcases List.mem_cons.mp (i.mem_iff.mp j)with z|z;.rw[z];exact l
  .exact h.tup x z
theorem n_.fin{B:Fb}{H:Hp}{a:List (List Key×MD)×NF}{r:List D}{p:MD}{u:HO}(h:n_ B H a r)(e:H p=Mt (.bo a.2 u))(i:p≠B.p):∃l,(l.Nodup/\∀x,x∈l↔x∈r)/\Is B H (.ref p) (.set l):=by
 refine⟨a.1.map (λx=>D.tup (x.1.map kD)),⟨?_,λx=>?_⟩,?_⟩
 .have:a.1.map (λx=>D.tup (x.1.map kD))=(a.1.map (·.1)).map (λk=>D.tup (k.map kD)):=by rw[N5];rfl
  rw[this];exact To _ (λx y f z=>f (cJ (by injection z))) h.nd
 .constructor
  .intro b;obtain⟨y,d,rfl⟩:=List.mem_map.mp b;exact(h.mem y.1).mp (Np d)
  .intro b;obtain⟨k,rfl⟩:=h.all x b;obtain⟨y,d,e⟩:=List.mem_map.mp ((h.mem k).mpr b);exact List.mem_map.mpr ⟨y,d,by rw[e]⟩
 .simp only[Is];exact⟨p,rfl,_,.refl _,i,a.2,u,e,.inl ⟨a.1,h.ob,rfl,h.tup⟩⟩
noncomputable def GV(P:MX)(w:M_)(K:ME)(a:List (List Key×MD)×NF)(Q:List (List Key×MD)×NF->St->Hp->Prop)(σ:St)(y:V)(f:Hp):Prop:=∃b k,y=.ref b/\iE K f b (k.map kV)/\Gr K f a.1/\a.1.length<4/\(k∈a.1.map (·.1)->Q a σ f)/\(k∉a.1.map (·.1)->∀d e,d.Perm ((k,b)::a.1)->cj P w e d->Q (d,e) σ f)
theorem GW(F:Fx):BX F c7 (GV F.P F.w F.K) (n_ F.toFb)where
 mono:=λh e=>h.mono e;emit:=λ{H a r Q s v d}h p i u q=>by
  obtain⟨k,rfl⟩:=p;simp only[Is]at i;obtain⟨b,t,rfl,l,n⟩:=i;have:=bJ n;subst this;exact⟨b,k,rfl,l.2,λx o=>(h.tup x o).2,by have:=h.le;omega,λz=>q a (h.old z),λz f j m so=>q (f,j) (h.new z m so l)⟩
theorem uI(own fr:List M3)(js:List Nat)(b:X.calm=Mz)(hu:X.A.units+1<NV)(n:gA X.env.scope scope=Mz)(O:js.map (λj=>X.N[j]?)=fr.map Mt)(m:∀x∈fr,scope.names.lookup x=Mt .free)(i:js.Nodup)(hw:DI X F tg iter tI)(T:∀pins cl C fp s H,DG (aV X pins scope (own++fr) cl C fp s H) F tg g)(R:∀pins cl C fp s H,fC (aV X pins scope (own++fr) cl C fp s H) F ifs tc)(U:∀pins cl C fp s H,DE (aV X pins scope (own++fr) cl C fp s H) F elt te)(K:∀x,Ny iter X.env x=pure x:=by intro _;rfl)(hP:X.prog=F.P:=by rfl)(e:X.w=F.w:=by rfl):DE X F (.SetComp elt [⟨tg,iter,ifs,0⟩] scope pos) (λd=>do let ds<-tI d;let r<-l7 g tc (tj c7 te) [] ds (fQ d own.length js);Ay r.1):=by
 refine⟨hw.hK,λpins s y H Q I⟨d,k,S,h⟩=>?_⟩;obtain⟨cl,c⟩:=jX I.ok n;refine rg (own:=own) (fr:=fr) (js:=js) (cl:=cl) b hu c O m hw.pi (λpins C fp s H=>(T pins cl C fp s H).pg) (λpins C fp s H=>(R pins cl C fp s H).pi) (λpins C fp s H=>(U pins cl C fp s H).pe) K pins s y H Q I ?_;refine⟨d,k,S,M.wk h λds W q J Z e1 it=>?_⟩;have t:=(S.mono e1).aV own.length i;rw[hP,e,hw.hK];refine D7 (GW F) it t n_.nil q λa V z v H' E e2 Y so B p f _=>?_;have ne:=bY (e2.live t.live) f;obtain⟨l,L,G⟩:=(so.mono (Ext.new (o:=oS a) (k:=E) f).kp).fin (u:=.ext λ_=>True) ah ne;exact B _ ⟨l,rfl,L⟩ _ _ ((e1.trans e2).trans (.new f)) G
end
section
variable{prog:MX}{w:M_}{K:Type}[DecidableEq K]{kk:Pa prog w K}{A:Nc}{E:Mv->Mx->Prop}{s:Mx}
open ST
theorem j7{a b:MD}{xs:List (List K×MD)}{t:Nk}{k:List K}{Q:Bool->Mx->Prop}(hu:A.units<NV)(S:aI kk s.heap a xs t)(hK:dh kk s.heap xs)(e:Om kk s.heap k b)(h:xs.length<4)(old:k∈xs.map (·.1)->Q My {s with toks:=s.toks+(k.length+1)})(new:k∉xs.map (·.1)->∀h' c t',NW a s.heap h'->aI kk h' a c t'->c.Perm ((k,b)::xs)->(t.plain=Mz->bc s.heap b->t'.plain=Mz)->Q Mz {s with heap:=h',toks:=s.toks+(k.length+1)}):wpAny (MO prog w) A (UX a (.ref b)) Q E s:=by
 unfold UX RR;refine M2 (Ms (SO hu e (M2 ?_)));exact mM (s:={s with toks:=s.toks+(k.length+1)}) hu S hK e h old λd h' c t' sb i f g=>new d h' c t' sb i f g
theorem rl{a:MD}{xs:List (Int×Ut)}{t:Nk}{i:Int}{d:Ut}{Q:Bool->Mx->Prop}(S:mO prog w s.heap a xs t)(f:xs.length<4)(old:i∈xs.map (·.1)->Q My {s with toks:=s.toks+1})(new:i∉xs.map (·.1)->∀h' b t',NW a s.heap h'->mO prog w h' a b t'->b.Perm ((i,d)::xs)->Q Mz {s with heap:=h',toks:=s.toks+1}):wpAny (MO prog w) A (UX a (.int i d)) Q E s:=by
 unfold UX;refine M2 (Ms ((NS prog w).pyHash (QX _ _ _ _) ?_));exact sR (s:={s with toks:=s.toks+1}) S f old λc h' b t' sb g e=>new c h' b t' sb g e
end
theorem xm{P:MX}{w:M_}{h h':Na}{ks:List Key}{b:MD}(x:Om (ao P w) h ks b)(kp:∀o,h.get? b=Mt o->h'.get? b=Mt o):Om (ao P w) h' ks b:=by
 obtain⟨o,items,n,a,r⟩:=x;exact⟨o,items,n,kp o a,r⟩
theorem rn{h h':Na}{b:MD}(x:ST.bc h b)(kp:∀o,h.get? b=Mt o->h'.get? b=Mt o):ST.bc h' b:=by
 obtain⟨o,items,n,a,r⟩:=x;exact⟨o,items,n,kp o a,r⟩
theorem tm{a:Type}{l:List a}{i:Nat}{x:a}(h:l[i]?=Mt x):l.take (i+1)=l.take i++[x]:=by rw[List.take_succ,h];rfl
section
variable{X:Cx}{F:Fx}
theorem Az{pins:List (MD×NF)}{σ:St}{H:Hp}{s:Mx}{vs:List V}{us:List Mv}{ds:List D}(hu:X.A.units+3<NV)(I:Inv X pins σ H s)(hK:X.K=F.K)(hP:X.prog=F.P)(hw:X.w=F.w)(u:ak vs us)(C:af F.toFb H vs ds)(hn:ds.length<=4)(ok:∀x∈ds,c7 x):Fills X.prog X.w X.A.in1.in1.in1 s.heap.objs.size s.heap (λi ob=>∃xs,n_ F.toFb H (xs,ob) (ds.take i)) (λi v=>us.toArray[i]?=Mt v) us.length:=by
 intro i v s1 ob hi Y kp J⟨xs,so⟩Q E G;have L:us.length=ds.length:=(u.length.symm.trans C.length);obtain⟨x,W,R⟩:=Paired.DJ u (i:=i) (y:=v) (by simpa using Y);obtain⟨d,hd,id⟩:=C.at W;obtain⟨k,rfl⟩:=ok d (Nz hd);simp only[Is]at id;obtain⟨b,ws,rfl,l,U⟩:=id;have:=bJ U;subst this;cases(show v=MW b from R);have B:∀(ks:List Key)(c:MD),TupAt F.toFb H c (ks.map kV)->Om (ao X.prog X.w) s1.heap ks c:=λks c O=>by
  have q:=bG I (by rw[hK];exact O.2);exact xm q λo e=>kp c o (MH e) e
 obtain⟨t,S,T⟩:=so.ob.2.2 s1.heap s.heap.objs.size J;rw[<-hP,<-hw]at S;have g:ST.dh (ao X.prog X.w) s1.heap xs:=λy p=>B y.1 y.2 (so.tup y p);have le:=so.le;have Z:(ds.take i).length<=i:=by rw[P9];omega
 refine j7 hu S g (B k b l) (by have le:xs.length<=(ds.take i).length:=so.le;show xs.length<4;omega) (λr=>?_) λh h' a t' sb N m n=>?_
 .have e:s1={s1 with heap:=s1.heap}:=rfl;exact G My s1.heap _ ob (P8 _ _) (VQ _ _) J ⟨xs,by rw[tm hd];exact so.old r⟩
 .obtain⟨z,a0,a1,j,_⟩:=N.ob;have f:cj X.prog X.w z a:=cj.of N j λq=>n (T λy p=>q y (m.mem_iff.mpr (MM _ p))) (rn (eJ I (by rw[hK];exact l.2) (q (k,b) (m.mem_iff.mpr MG))) λo e=>kp b o (MH e) e);rw[hP,hw]at f;exact G Mz h' _ z (P8 _ _) sb j ⟨a,by rw[tm hd];exact so.new h m f l⟩
noncomputable def xp(ok:D->Prop):D->M D
 |.lst a=>do
  M.need (a.length<=4/\∀x∈a,ok x)Ay a|_=>M.fail
theorem uJ{ok:D->Prop}{d:D}{k:Nat}{Q:D->Nat->Prop}{E:Xc->Nat->Prop}(h:(xp ok d).run k Q E):∃ds,d=.lst ds/\(ds.length<=4/\∀x∈ds,ok x)/\∀l,l.Nodup->(∀x,x∈l↔x∈ds)->Q (.set l) k:=by cases d with
 |lst ds=>exact⟨ds,rfl,h.1,λl b a=>h.2 _ ⟨l,rfl,b,a⟩⟩|_=>exact h.elim
theorem AA(N:X.calm=Mz)(hu:X.A.units+3<NV)(hP:X.prog=F.P:=by rfl)(hw:X.w=F.w:=by rfl):aY X F (.type "set") (one (xp c7))where
 call:=λr s R H k c T n Q I B l hK L C=>by
  obtain⟨d,rfl,q⟩:=cF C;obtain⟨v,rfl,i⟩:=L.one;obtain⟨n,rfl,⟨M,ok⟩,q⟩:=uJ q;obtain⟨u,rfl,z⟩:=vals1 B;simp only[Is]at i;obtain⟨a,S,rfl,E,t⟩:=i;cases(show u=MW a from z);obtain⟨f,p,D,U⟩:=I.list (by rw[hK];exact E.2.sq);have g:f.length=n.length:=p.length.symm.trans t.length;refine oO (items:=f.toArray) (J:=λi ob=>∃c,n_ F.toFb H (c,ob) (n.take i)) (I.ok.hd N) D.isList ⟨[],?_⟩ (by simpa using Az hu I hK hP hw p t M ok) λO y ob x⟨c,so⟩kp=>?_;.rw[hw];simpa using n_.nil
  .rw[MR,g,List.take_length]at so;have h:H s.heap.objs.size=MA:=I.ay.fresh (MN _);obtain⟨G,⟨m,j⟩,K⟩:=(so.mono (Ext.new (o:=oS (c,ob)) (k:=k) h).kp).fin (u:=.ext λ_=>True) ah (bY l h);exact⟨.ref s.heap.objs.size,_,I.laid (t':=y) (λb o e=>kp b o (MH e) e) (MN _) (show aQ X.prog X.w _ O _ (oS (c,ob))from⟨x,trivial,⟨_,x⟩,λ_ _ _ _=>trivial⟩),rfl,q G m j _ _ (.new h) K⟩
end
end L2
end
section
namespace L2
open PySem PySem.Spec PyProof.Rows SortM
section
variable{X:Cx}{F:Fx}
theorem xq{pins:List (MD×NF)}{σ:St}{H:Hp}{s:Mx}{a:MD}{ks:List D}(I:Inv X pins σ H s)(hP:X.prog=F.P)(hw:X.w=F.w)(h:dX F.toFb H a ks):∃ob es i t,s.heap.get? a=Mt ob/\ob.ExactSet/\ob.data=.set es i t/\ST.bw t.place.toList/\t.fits es.size=Mz/\t.led=(!X.w.params.followText "set-order")/\es.size=ks.length/\ks.length<=511/\((∃xs:List (List Key×MD),es.toList=xs.map (ST.jL (ao X.prog X.w))/\ks=xs.map (λx=>D.tup (x.1.map kD))/\(∀x∈xs,TupAt F.toFb H x.2 (x.1.map kV))/\((∀x∈xs,gx x.1=Mz)->t.plain=Mz))\/(∃xs:List (Int×Ut),es.toList=xs.map (ST.qM X.prog X.w)/\ks=xs.map (λx=>D.int x.1)/\t.plain=Mz)):=by
  obtain⟨p,ob,u,e,h⟩:=h;have f:s.heap.get? a=Mt ob:=(I.ay a _ e).1;have g:∀{t:Nk}{k:List Int},ST.mC t k->k.length<=511:=λT=>by
    have n:=T.n0;rcases T.mask with e|e|e|e<;>rw[e]at n<;>omega
  rcases h with⟨xs,so,rfl,l⟩|⟨xs,so,rfl⟩
  · obtain⟨t,S,m⟩:=so.2.2 s.heap a f;rw[<-hP,<-hw]at S;obtain⟨o,es,i,c,hex,hd,d⟩:=S.ob;rw[f]at c;cases c;have b:es.size=xs.length:=by have:=congrArg Oc d;simpa using this
    have j:=g S.tab;exact⟨ob,es,i,t,f,hex,hd,S.tab.rise,ST.fits_of S.tab (by rw[b,MT]),S.led,by rw[b,MT],by simpa using j,.inl ⟨xs,d,rfl,l,m⟩⟩
  · obtain⟨t,S⟩:=so.2.2 s.heap a f;rw[<-hP,<-hw]at S;obtain⟨o,es,i,c,hex,hd,d⟩:=S.ob;rw[f]at c;cases c;have b:es.size=xs.length:=by have:=congrArg Oc d;simpa using this
    have j:=g S.tab;exact⟨ob,es,i,t,f,hex,hd,S.tab.rise,ST.fits_of S.tab (by rw[b,MT]),S.led,by rw[b,MT],by simpa using j,.inr ⟨xs,d,rfl,S.plain⟩⟩
theorem aH{c j:Type}{f:c->j}{vs l':List j}(p:vs.Perm l'):∀{l:List c},l'=l.map f->∃m:List c,m.Perm l/\vs=m.map f:=by induction p with
 |nil=>intro l e;exact⟨[],by cases l with
   |nil=>exact .nil|cons=>simp at e,rfl⟩|cons x p n=>
  intro l e;cases l with
  |nil=>simp at e|cons y l=>
   simp only[M9,PU]at e;obtain⟨m,g,rfl⟩:=n e.2;exact⟨y::m,g.cons y,by rw[e.1];rfl⟩
 |swap x y s=>
  intro l e;cases l with
  |nil=>simp at e|cons a l=>cases l with
   |nil=>simp at e|cons b l=>
    simp only[M9,PU]at e;exact⟨b::a::l,.swap _ _ _,by rw[e.1,e.2.1,e.2.2];rfl⟩
 |trans r q i h=>
  intro l e;obtain⟨m,g,rfl⟩:=h e;obtain⟨k,d,o⟩:=i rfl;exact⟨k,d.trans g,o⟩
theorem oW:∀(xs:List (Int×Ut)),PY (xs.map λx=>Qt x.1 x.2) (xs.map (·.1))
 |[]=>.nil|x::xs=>.cons _ _ (oW xs)
noncomputable def eS:D->Option (List D)
 |.lst a=>Mt a|.set a=>Mt a|_=>MA
noncomputable def xt(d:D):M D:=do
 let a<-M.get (eS d)M.need (a.length<3/\∀x∈a,fV x)M.any λr=>∃ns:List Int,r=.lst (ns.map D.int)/\(ns.map D.int).Perm a/\ns.Pairwise (·<=·)
theorem tq:∀{ds:List D},(∀x∈ds,fV x)->∃ns:List Int,ds=ns.map D.int
 |[],_=>⟨[],rfl⟩|d::ds,h=>by
  obtain⟨i,rfl⟩:=h d MG;obtain⟨ns,rfl⟩:=tq λx a=>h x (MM _ a);exact⟨i::ns,rfl⟩
theorem fX{B:Fb}{H:Hp}:∀{vs:List V}{ns:List Int},af B H vs (ns.map D.int)->vs=ns.map V.int
 |_,[],h=>by simp only[Q6,af]at h;rw[h];rfl|_,n::ns,h=>by
  simp only[M9,af,Is]at h;obtain⟨x,b,rfl,rfl,a⟩:=h;rw[fX a];rfl
theorem fY{B:Fb}{H:Hp}:∀{ns:List Int},af B H (ns.map V.int) (ns.map D.int)
 |[]=>.nil|n::ns=>.cons (by simp only[Is]) fY
theorem tu{s:Mx}{ob:NF}{es:Array (Int×Mv)}{a:Nat}{t:Nk}(hex:ob.ExactSet)(hd:ob.data=.set es a t)(b:ST.bw t.place.toList)(e:t.fits es.size=Mz)(d:t.led=(!X.w.params.followText "set-order"))(c:t.plain=Mz):ST.Wk X.w ob es a t:=⟨hex,hd,e,b,c,d⟩
theorem ng{pins:List (MD×NF)}{σ:St}{H:Hp}{s:Mx}{v:Mv}{ns:List Int}{Q:VK}(I:Inv X pins σ H s)(E:ns.length<3)(o:∀{R:List Mv->Mx->Prop},(∀(h':Na)(p:Nat)(vs:List Mv)(a:List Int),dA s.heap h'->PY vs a->a.Perm ns->R vs {s with heap:=h',toks:=p})->wpAny (MO X.prog X.w) X.A.in1 (U8 v) R X.xe s)(q:∀(a:List Int)(l:MD),a.Perm ns->a.Pairwise (·<=·)->H l=MA->Q (.ref l) (upd H l (.lst (a.map V.int)))):wpAny (MO X.prog X.w) X.A (QV (.builtin "sorted") [v]) (EP X pins σ Q) X.xe s:=by
 refine hI (o λG p vs a J t u=>?_);have x:Inv X pins σ H {s with heap:=G,toks:=p}:=I.kept J;have b:vs.length=a.length:=IntsAre.length t;have L:a.length=ns.length:=u.length_eq;refine⟨by omega,_,_,qP t,λd h' c v B g e=>?_⟩;have WA:∀i∈d.toList,i<vs.length:=λi k=>List.mem_range.mp (v.2.mem_iff.mp k);have C:ak (a.map V.int) vs:=by
  have:∀{vs:List Mv}{a:List Int},PY vs a->ak (a.map V.int) vs:=λ{vs a}t=>by induction t with
   |nil=>exact .nil|cons n p t D=>exact .cons ⟨_,rfl⟩ D
  exact this t
 have h:ak (d.toList.map λi=>(a.map V.int).getD i .aJ) (d.toList.map λi=>vs.getD i M5):=eI C _ λi k=>by rw[MT,<-b];exact WA i k
 have K:(d.toList.map λi=>(a.map V.int).getD i .aJ)=(d.toList.map λi=>a.getD i 0).map V.int:=by
  rw[N5];refine OY λi k=>?_;have r:i<a.length:=by rw[<-b];exact WA i k
  simp[Oz,r]
 rw[K]at h;have y:SortM.Ok a.length d:=by rw[<-b];exact v
 refine⟨.ref _,_,x.newList g (MN _) h ?_ e,rfl,?_⟩
 .rw[MT,MT,OW,v.1,NR];omega
 .refine q _ _ ((lX y _ _ rfl).trans u) (iJ v B λi j z=>?_) ?_
  .have:=of_decide_eq_false z;omega
  .exact x.ay.fresh (MN _)
theorem hX{pins:List (MD×NF)}{σ:St}{H:Hp}{s:Mx}{a:MD}{vs:List V}{R:List Mv->Mx->Prop}(I:Inv X pins σ H s)(k:cP X.K H a vs)(h:∀(h':Na)(g:Nat)(us:List Mv),dA s.heap h'->ak vs us->R us {s with heap:=h',toks:=g}):wpAny (MO X.prog X.w) X.A.in1 (U8 (.ref a)) R X.xe s:=by
 obtain⟨d,f,i,j⟩:=I.list k;have c:=f.length;refine collect_list i.isList ?_ (by simpa[c]using j);refine h _ s.toks d (λb o e=>?_) f;rw[Sn _ _ _ _ (M4 (MH e))];exact Mw _ e
theorem xu(hc:X.calm=Mz)(hP:X.prog=F.P:=by rfl)(hw:X.w=F.w:=by rfl):aY X F (.builtin "sorted") (one xt)where
 call:=λa6 s σ H k B us ds Q I rv l hK ia qa=>by
  obtain⟨d,rfl,q⟩:=cF qa;obtain⟨v,rfl,i⟩:=ia.one;obtain⟨ds,e,q⟩:=M.run_get.mp q;obtain⟨⟨a1,Z⟩,q⟩:=q;obtain⟨ns,rfl⟩:=tq Z;obtain⟨u,rfl,rx⟩:=vals1 rv;have fin:∀(b:List Int)(N:MD),b.Perm ns->b.Pairwise (·<=·)->H N=MA->∀o,Q (.ref N) (upd H N (.bo o (.lst (b.map V.int)))):=λb N E pw S o=>q (.lst (b.map D.int)) ⟨b,rfl,E.map _,pw⟩ _ _ (.new S) (aR (k:=k) l S fY);have K:ns.length<3:=by simpa using a1
  have L:∃a,u=.ref a/\∀{R:List Mv->Mx->Prop},(∀(c:Na)(y:Nat)(j:List Mv)(b:List Int),dA s.heap c->PY j b->b.Perm ns->R j {s with heap:=c,toks:=y})->wpAny (MO X.prog X.w) X.A.in1 (U8 u) R X.xe s:=by cases d with
   |lst a5=>
    cases e;simp only[Is]at i;obtain⟨a,j,rfl,la,iv⟩:=i;cases(show u=MW a from rx);have:=fX iv;subst this;exact⟨a,rfl,λ{R}U=>hX I (by rw[hK];exact la.2.sq) λc y us g rv=>U c y us ns g (intsAre_of rv) (.refl _)⟩|set a5=>
    cases e;simp only[Is]at i;obtain⟨a,rfl,l0,a3,si⟩:=i;cases(show u=MW a from rx);obtain⟨C,W,rfl⟩:=aH a3 (f:=D.int) (l:=ns) rfl;obtain⟨ob,es,ep,t,ho,hex,hd,hr,hf,S,Y,a8,h⟩:=xq I hP hw si;have a0:∀{R:List Mv->Mx->Prop},(∀(c:Na)(y:Nat)(j:List Mv)(b:List Int),dA s.heap c->PY j b->b.Perm ns->R j {s with heap:=c,toks:=y})->∀(c:Na)(y:Nat)(j:List Mv)(b:List Int),dA s.heap c->PY j b->b.Perm C->R j {s with heap:=c,toks:=y}:=λU c y j b g t p=>U c y j b g t (p.trans W);have a1:(C.map D.int).length<3:=by rw[MT,W.length_eq];exact K
    rcases h with⟨B,T,e,_,O⟩|⟨B,T,e,O⟩
    .have:B=[]/\C=[]:=by cases B with
      |nil=>exact⟨rfl,List.map_eq_nil_iff.mp e⟩|cons x B=>cases C with
       |nil=>simp at e|cons n ns=>simp at e
     obtain⟨rfl,rfl⟩:=this;refine⟨a,rfl,λ{R}U=>ST.dq (tu (X:=X) (s:=s) hex hd hr hf S (O λx hx=>nomatch hx)) (show X.A.in1.handled=MA from I.ok.hd hc) ho (by rw[Y,NR];simp) λc y j g E=>?_⟩;rw[T]at E;have:j=[]:=List.perm_nil.mp (by simpa using E);subst this;exact a0 U c y [] [] g .nil .nil
    .have e':C=B.map (·.1):=by
      have:=congrArg (List.map λd=>match d with|D.int i=>i|_=>0) e;simpa[N5,Function.comp_def]using this
     subst e';refine⟨a,rfl,λ{R}U=>ST.dq (tu (X:=X) (s:=s) hex hd hr hf S O) (show X.A.in1.handled=MA from I.ok.hd hc) ho (by rw[Y,NR];omega) λc y j g E=>?_⟩;rw[T,N5]at E;obtain⟨m,a4,rfl⟩:=aH E (f:=λx:Int×Ut=>Qt x.1 x.2) (l:=B) rfl;exact a0 U c y _ _ g (oW m) (a4.map _)|_=>cases e
  obtain⟨a,rfl,L⟩:=L;refine aU (ng (Q:=λv H1=>∃a B,v=.ref a/\H1 a=Mt (.lst B)/\∀o,Q v (upd H1 a (.bo o (.lst B)))) I K L λb N E pw S=>⟨N,b.map V.int,rfl,ah,λo=>by rw[aT];exact fin b N E pw S o⟩) λu s1 a2=>?_;obtain⟨v,H1,I1,r,a,B,e,ha,q1⟩:=a2;obtain⟨_,a7,n,rv,ho⟩:=I1.ay a _ ha;exact⟨v,_,I1.freeze ha ho (λ_ z=>nomatch z) (λ_ _ z=>nomatch z) (λ_ z=>nomatch z) (λ_ z=>nomatch z),r,q1 _⟩
end
end L2
end
section
namespace L2
open PySem PySem.Spec PyProof.Rows SortM
noncomputable def tupI(k:List Int):D:=.tup (k.map D.int)
noncomputable def iL(x:D):Prop:=∃k:List Int,k≠[]/\x=tupI k
noncomputable def xv(d:D):M D:=do
 let a<-M.get (eS d)M.need (a.length<3/\∀x∈a,iL x)M.any λr=>∃ks:List (List Int),r=.lst (ks.map tupI)/\(ks.map tupI).Perm a/\ks.Pairwise Dc
theorem oX:∀{ds:List D},(∀x∈ds,iL x)->∃ks:List (List Int),ds=ks.map tupI/\∀k∈ks,k≠[]
 |[],_=>⟨[],rfl,λ_ h=>nomatch h⟩|d::ds,h=>by
  obtain⟨k,c,rfl⟩:=h d MG;obtain⟨ks,rfl,b⟩:=oX λx a=>h x (MM _ a);exact⟨k::ks,rfl,λj e=>by
   rcases List.mem_cons.mp e with z|z;.rw[z];exact c
   .exact b j z⟩
section
variable{X:Cx}{F:Fx}
theorem j8{pins:List (MD×NF)}{σ:St}{H:Hp}{s:Mx}(I:Inv X pins σ H s)(hK:X.K=F.K):∀{vs:List V}{us:List Mv}{ks:List (List Int)},af F.toFb H vs (ks.map tupI)->(∀k∈ks,k≠[])->ak vs us->dm s.heap us ks
 |_,_,[],i,_,r=>by simp only[Q6,af]at i;subst i;cases r;exact .nil|_,_,k::ks,i,c,r=>by
  simp only[M9,af,tupI,Is]at i;obtain⟨x,n,rfl,⟨a,o,rfl,e,l⟩,it⟩:=i;cases r with|cons h g=>
   cases(show _=MW a from h);have:=fX l;subst this;obtain⟨b,f,d,_⟩:=I.tuple (by rw[hK];exact e.2);exact .cons ⟨c k MG,a,b,rfl,d,intsAre_of f⟩ (j8 I hK it (λj m=>c j (MM _ m)) g)
theorem j9{B:Fb}{H:Hp}{vs:List V}{ds:List D}(i:af B H vs ds):∀(a:List Nat),(∀j∈a,j<ds.length)->af B H (a.map λj=>vs.getD j .aJ) (a.map λj=>ds.getD j .aJ)
 |[],_=>.nil|j::a,h=>by
  have c:=h j MG;obtain⟨x,e,ix⟩:=i.get (MZ c);refine .cons ?_ (j9 i a λd b=>h d (MM _ b));have e1:vs.getD j .aJ=x:=by rw[Oz,e];rfl
  have e2:ds.getD j .aJ=ds[j]:=by rw[Oz,MZ c];rfl
  show Is B H (vs.getD j .aJ) (ds.getD j .aJ);rw[e1,e2];exact ix
theorem nh{pins:List (MD×NF)}{σ:St}{H:Hp}{s:Mx}{v:Mv}{a:List (List Int)}{Q:VK}(I:Inv X pins σ H s)(hK:X.K=F.K)(L:a.length<3)(x:∀k∈a,k≠[])(n:∀{R:List Mv->Mx->Prop},(∀(h':Na)(o:Nat)(us:List Mv)(vs:List V)(ks:List (List Int)),dA s.heap h'->ak vs us->af F.toFb H vs (ks.map tupI)->ks.Perm a->R us {s with heap:=h',toks:=o})->wpAny (MO X.prog X.w) X.A.in1 (U8 v) R X.xe s)(q:∀(ks:List (List Int))(vs:List V)(l:MD),af F.toFb H vs (ks.map tupI)->ks.Perm a->ks.Pairwise Dc->H l=MA->Q (.ref l) (upd H l (.lst vs))):wpAny (MO X.prog X.w) X.A (QV (.builtin "sorted") [v]) (EP X pins σ Q) X.xe s:=by
 refine hI (n λM o us vs ks N r u t=>?_);have B:Inv X pins σ H {s with heap:=M,toks:=o}:=I.kept N;have C:us.length=vs.length:=r.length.symm;have G:vs.length=ks.length:=by have:=u.length;simpa using this
 have P:ks.length=a.length:=t.length_eq;have T:=j8 (F:=F) B hK u (λk J=>x k (t.mem_iff.mp J)) r;refine⟨by omega,_,_,qO T,λb h' c v E g e=>?_⟩;have WA:∀i∈b.toList,i<us.length:=λi d=>List.mem_range.mp (v.2.mem_iff.mp d);have p:ak (b.toList.map λi=>vs.getD i .aJ) (b.toList.map λi=>us.getD i M5):=eI r _ λi d=>by rw[<-C];exact WA i d
 have h:=j9 u b.toList λi d=>by rw[MT];have:=WA i d;omega
 have O:(b.toList.map λi=>(ks.map tupI).getD i .aJ)=(b.toList.map λi=>ks.getD i []).map tupI:=by
  rw[N5];refine OY λi d=>?_;have y:i<ks.length:=by have:=WA i d;omega
  simp[Oz,y]
 rw[O]at h;have D:Ok ks.length b:=by rw[<-G,<-C];exact v
 refine⟨.ref _,_,B.newList g (MN _) p ?_ e,rfl,q _ _ _ h ((lX D _ _ rfl).trans t) (iJ v E λi j z=>z) (B.ay.fresh (MN _))⟩;rw[MT,OW,v.1,NR];omega
theorem j_:∀{k:List Key}{j:List Int},k.map kD=j.map D.int->k=j.map Rq
 |[],[],_=>rfl|[],_::_,e=>by simp at e|_::_,[],e=>by simp at e|x::k,y::j,e=>by
  simp only[M9,PU]at e;rw[j_ e.2];cases x with
  |inl i=>
   have a:D.int i=D.int y:=e.1;injection a with a;rw[a];rfl|inr z=>exact nomatch(show D.str z=D.int y from e.1)
theorem l8(j:List Int):gx (j.map Rq)=Mz:=by
 unfold gx;rw[List.all_map];simp
theorem oY{B:Fb}{H:Hp}:∀{xs:List (List Key×MD)},(∀x∈xs,TupAt B H x.2 (x.1.map kV))->(∀x∈xs,∃j:List Int,x.1=j.map Rq)->∃ks:List (List Int),xs.map (λx=>D.tup (x.1.map kD))=ks.map tupI/\af B H (xs.map λx=>V.ref x.2) (ks.map tupI)
 |[],_,_=>⟨[],rfl,.nil⟩|x::xs,h,b=>by
  obtain⟨j,c⟩:=b x MG;obtain⟨ks,e,i⟩:=oY (λy a=>h y (MM _ a)) (λy a=>b y (MM _ a));have t:=h x MG;rw[c]at t;have e1:(j.map Rq).map kV=j.map V.int:=by rw[N5];rfl
  have e2:(j.map Rq).map kD=j.map D.int:=by rw[N5];rfl
  refine⟨j::ks,by rw[M9,M9,e,c,e2];rfl,.cons ?_ i⟩;simp only[tupI,Is];exact⟨x.2,j.map V.int,rfl,by rw[<-e1];exact t,fY⟩
theorem l9:∀(xs:List (List Key×MD)),ak (xs.map λx=>V.ref x.2) (xs.map λx=>MW x.2)
 |[]=>.nil|x::xs=>.cons rfl (l9 xs)
theorem oZ{a b:List Int}(h:tupI a=tupI b):a=b:=by
 unfold tupI at h;injection h with h;have:∀{a b:List Int},a.map D.int=b.map D.int->a=b:=by
  intro a;induction a with
  |nil=>intro b e;cases b with
   |nil=>rfl|cons=>simp at e
  |cons x a c=>intro b e;cases b with
   |nil=>simp at e|cons y b=>
    simp only[M9,PU,D.int.injEq]at e;rw[e.1,c e.2]
 exact this h
theorem hZ:∀{a b:List (List Int)},a.map tupI=b.map tupI->a=b
 |[],[],_=>rfl|[],_::_,e=>by simp at e|_::_,[],e=>by simp at e|x::a,y::b,e=>by
  simp only[M9,PU]at e;rw[oZ e.1,hZ e.2]
theorem xw(hc:X.calm=Mz)(hP:X.prog=F.P:=by rfl)(hw:X.w=F.w:=by rfl):aY X F (.builtin "sorted") (one xv)where
 call:=λa9 s σ H k p Y ds Q I rv l hK ia qa=>by
  obtain⟨d,rfl,q⟩:=cF qa;obtain⟨v,rfl,i⟩:=ia.one;obtain⟨ds,e,q⟩:=M.run_get.mp q;obtain⟨⟨a2,a1⟩,q⟩:=q;obtain⟨y,rfl,a6⟩:=oX a1;obtain⟨u,rfl,rx⟩:=vals1 rv;have fin:∀(ks:List (List Int))(b:List V)(N:MD),af F.toFb H b (ks.map tupI)->ks.Perm y->ks.Pairwise Dc->H N=MA->∀o,Q (.ref N) (upd H N (.bo o (.lst b))):=λks b N Z B pw T o=>q (.lst (ks.map tupI)) ⟨ks,rfl,B.map _,pw⟩ _ _ (.new T) (aR (k:=k) l T Z);have C:y.length<3:=by simpa using a2
  have J:∃a,u=.ref a/\∀{R:List Mv->Mx->Prop},(∀(E:Na)(G:Nat)(Y:List Mv)(b:List V)(ks:List (List Int)),dA s.heap E->ak b Y->af F.toFb H b (ks.map tupI)->ks.Perm y->R Y {s with heap:=E,toks:=G})->wpAny (MO X.prog X.w) X.A.in1 (U8 u) R X.xe s:=by cases d with
   |lst a7=>
    cases e;simp only[Is]at i;obtain⟨a,b,rfl,la,Z⟩:=i;cases(show u=MW a from rx);exact⟨a,rfl,λ{R}hR=>hX I (by rw[hK];exact la.2.sq) λE G Y g rv=>hR E G Y b y g rv Z (.refl _)⟩|set a7=>
    cases e;simp only[Is]at i;obtain⟨a,rfl,l0,a5,si⟩:=i;cases(show u=MW a from rx);obtain⟨c,K,rfl⟩:=aH a5 (f:=tupI) (l:=y) rfl;have a2:(c.map tupI).length<3:=by rw[MT,K.length_eq];exact C
    obtain⟨ob,es,ep,t,ho,hex,hd,hr,hf,T,a0,b2,h⟩:=xq I hP hw si;rcases h with⟨p,U,e,tp,S⟩|⟨p,U,e,S⟩
    .have hj:∀x∈p,∃j:List Int,x.1=j.map Rq:=λx O=>by
      have:D.tup (x.1.map kD)∈c.map tupI:=by rw[e];exact List.mem_map.mpr ⟨x,O,rfl⟩
      obtain⟨j,_,W⟩:=List.mem_map.mp this;unfold tupI at W;injection W with W;exact⟨j,j_ W.symm⟩
     refine⟨a,rfl,λ{R}hR=>ST.dq (tu (X:=X) (s:=s) hex hd hr hf T (S λx O=>by obtain⟨j,W⟩:=hj x O;rw[W];exact l8 j)) (show X.A.in1.handled=MA from I.ok.hd hc) ho (by rw[a0,NR];omega) λE G b g B=>?_⟩;rw[U,N5]at B;obtain⟨m,L,rfl⟩:=aH B (f:=λx:List Key×MD=>MW x.2) (l:=p) rfl;obtain⟨ks,ek,ik⟩:=oY (λx O=>tp x (L.mem_iff.mp O)) (λx O=>hj x (L.mem_iff.mp O));refine hR E G _ _ ks g (l9 m) ik ?_;have p2:(ks.map tupI).Perm (c.map tupI):=by rw[<-ek,e];exact L.map _
     obtain⟨m2,a4,e2⟩:=aH p2 (f:=tupI) (l:=c) rfl;rw[hZ e2];exact a4.trans K
    .have:p=[]/\c=[]:=by cases p with
      |nil=>exact⟨rfl,List.map_eq_nil_iff.mp e⟩|cons x p=>cases c with
       |nil=>simp at e|cons n ns=>simp[tupI]at e
     obtain⟨rfl,rfl⟩:=this;refine⟨a,rfl,λ{R}hR=>ST.dq (tu (X:=X) (s:=s) hex hd hr hf T S) (show X.A.in1.handled=MA from I.ok.hd hc) ho (by rw[a0,NR];simp) λE G b g B=>?_⟩;rw[U]at B;have:b=[]:=List.perm_nil.mp (by simpa using B);subst this;exact hR E G [] [] [] g .nil .nil K|_=>cases e
  obtain⟨a,rfl,J⟩:=J;refine aU (nh (F:=F) (Q:=λv H1=>∃a p,v=.ref a/\H1 a=Mt (.lst p)/\∀o,Q v (upd H1 a (.bo o (.lst p)))) I hK C a6 J λks b N Z B pw T=>⟨N,b,rfl,ah,λo=>by rw[aT];exact fin ks b N Z B pw T o⟩) λu s1 a3=>?_;obtain⟨v,H1,I1,r,a,p,e,ha,q1⟩:=a3;obtain⟨_,b1,n,rv,ho⟩:=I1.ay a _ ha;exact⟨v,_,I1.freeze ha ho (λ_ z=>nomatch z) (λ_ _ z=>nomatch z) (λ_ z=>nomatch z) (λ_ z=>nomatch z),r,q1 _⟩
end
open ST (aF)
section
variable{prog:MX}{w:M_}{A:Nc}{E:Mv->Mx->Prop}{s:Mx}
open ST in
theorem mO.setOf{h:Na}{a:MD}{xs:List (Int×Ut)}{t:Nk}(S:ST.mO prog w h a xs t)(p:xs.length<=511):h.SetOf (NS prog w) a (λi=>decide (i∈xs.map (·.1))) xs.length:=by
 obtain⟨o,f,n,j,hex,hd,b⟩:=S.ob;have c:f.size=xs.length:=by have:=congrArg Oc b;simpa using this
 refine⟨o,f,n,t,j,hex,hd,by rw[b];exact ST.sQ xs,λk=>?_,by unfold scanBound;omega,ST.fits_of S.tab (by rw[c,MT]),c⟩;rw[decide_eq_true_eq,b];constructor
 .intro l;obtain⟨x,d,rfl⟩:=List.mem_map.mp l;exact⟨_,Np d,QX _ _ _ _⟩
 .rintro⟨e,m,g⟩;obtain⟨x,d,rfl⟩:=List.mem_map.mp m;have:k=x.1:=(NS prog w).inj _ _ _ g (QX _ _ _ _);rw[this];exact Np d
end
section
variable{X:Cx}{F:Fx}
theorem int_at{pins:List (MD×NF)}{σ:St}{H:Hp}{s:Mx}{a:MD}{ks:List D}(I:Inv X pins σ H s)(hP:X.prog=F.P)(hw:X.w=F.w)(h:dX F.toFb H a ks)(l:∀x∈ks,fV x):∃xs t,ST.mO X.prog X.w s.heap a xs t/\ks=xs.map (λx=>D.int x.1)/\xs.length<=511:=by
 obtain⟨r,ob,u,e,h⟩:=h;have g:s.heap.get? a=Mt ob:=(I.ay a _ e).1;have b:∀{t:Nk}{f:List Int},ST.mC t f->f.length<=511:=λT=>by
  have m:=T.n0;rcases T.mask with e|e|e|e<;>rw[e]at m<;>omega
 rcases h with⟨xs,so,rfl,q⟩|⟨xs,so,rfl⟩
 .have:xs=[]:=by cases xs with
   |nil=>rfl|cons x xs=>
    obtain⟨i,z⟩:=l _ MG;cases z
  subst this;obtain⟨t,S,j⟩:=so.2.2 s.heap a g;rw[<-hP,<-hw]at S;obtain⟨o,n,p,c,hex,hd,d⟩:=S.ob;exact⟨[],t,⟨⟨o,n,p,c,hex,hd,d⟩,S.tab,S.n0,.nil,S.led,j λx k=>nomatch k⟩,rfl,Nv _⟩
 .obtain⟨t,S⟩:=so.2.2 s.heap a g;rw[<-hP,<-hw]at S;have:=b S.tab;exact⟨xs,t,S,rfl,by simpa using this⟩
end
theorem ll{prog:MX}{w:M_}{K:Type}[DecidableEq K]{e:Pa prog w K}{A:Nc}{E:Mv->Mx->Prop}{s:Mx}{a b:MD}{xs:List (List K×MD)}{t:Nk}{k:List K}{Q:Bool->Mx->Prop}(hu:A.units+1<NV)(S:ST.aI e s.heap a xs t)(hK:ST.dh e s.heap xs)(f:Om e s.heap k b)(h:∀c d,(c=Mz↔k∈xs.map (·.1))->Q c {s with toks:=d}):wpAny (MO prog w) A (VN (.ref a) (.ref b)) Q E s:=mZ hu S hK f λd=>h _ d decide_eq_true_iff
section
variable{X:Cx}{F:Fx}
noncomputable def Ki(neg:Bool):D->D->M D
 |d,.set l=>do
  M.need (c7 d/\(∀x∈l,c7 x)\/fV d/\∀x∈l,fV x)M.any λr=>∃c:Bool,r=.bl c/\((c !=neg)=Mz↔d∈l)|_,_=>M.fail
theorem xx{pins:List (MD×NF)}{σ:St}{H:Hp}{s:Mx}{a:MD}{ks:List D}(I:Inv X pins σ H s)(hK:X.K=F.K)(hP:X.prog=F.P)(hw:X.w=F.w)(h:dX F.toFb H a ks)(j:∀x∈ks,c7 x):∃xs t,ST.aI (ao X.prog X.w) s.heap a xs t/\ks=xs.map (λx=>D.tup (x.1.map kD))/\ST.dh (ao X.prog X.w) s.heap xs:=by
 obtain⟨n,ob,u,e,h⟩:=h;have f:s.heap.get? a=Mt ob:=(I.ay a _ e).1;rcases h with⟨xs,so,rfl,g⟩|⟨xs,so,rfl⟩
 .obtain⟨t,S,m⟩:=so.2.2 s.heap a f;rw[<-hP,<-hw]at S;exact⟨xs,t,S,rfl,λx b=>bG I (by rw[hK];exact(g x b).2)⟩
 .have:xs=[]:=by cases xs with
   |nil=>rfl|cons x xs=>
    obtain⟨i,z⟩:=j _ MG;cases z
  subst this;obtain⟨t,S⟩:=so.2.2 s.heap a f;rw[<-hP,<-hw]at S;obtain⟨o,k,l,c,hex,hd,d⟩:=S.ob;exact⟨[],t,⟨⟨o,k,l,c,hex,hd,d⟩,S.tab,S.n0,.nil,S.led⟩,rfl,λx b=>nomatch b⟩
theorem D8{pins:List (MD×NF)}{σ:St}{H:Hp}{s:Mx}{a:MD}{ks:List D}{d:D}{x:V}{v:Mv}{l:Bool->Mx->Prop}(hu:X.A.units+1<NV)(I:Inv X pins σ H s)(hK:X.K=F.K)(hP:X.prog=F.P)(hw:X.w=F.w)(h:dX F.toFb H a ks)(hd:c7 d)(o:∀x∈ks,c7 x)(i:Is F.toFb H x d)(r:RelV x v)(q:∀c g,(c=Mz↔d∈ks)->l c {s with toks:=g}):wpAny (MO X.prog X.w) X.A (VN (.ref a) v) l X.xe s:=by
 obtain⟨k,rfl⟩:=hd;simp only[Is]at i;obtain⟨b,z,rfl,m,n⟩:=i;have:=bJ n;subst this;cases(show v=MW b from r);obtain⟨u,t,S,rfl,K⟩:=xx I hK hP hw h o;refine ll hu S K (bG I (by rw[hK];exact m.2)) λc g p=>q c g (p.trans ?_);constructor
 .intro f;obtain⟨y,j,e⟩:=List.mem_map.mp f;exact List.mem_map.mpr ⟨y,j,by rw[e]⟩
 .intro f;obtain⟨y,j,e⟩:=List.mem_map.mp f;injection e with e;rw[<-cJ e];exact Np j
theorem uK(hu:X.A.units+1<NV)(hP:X.prog=F.P:=by rfl)(hw:X.w=F.w:=by rfl):eN X F (NI .NotIn) (Ki Mz):=⟨λB s L H k x y v u d e Q I r E l hK h i2 q=>by cases e with
 |set ks=>
  simp only[Is]at i2;obtain⟨a,rfl,M,f,sa⟩:=i2;cases(show u=MW a from E);obtain⟨J,q⟩:=q;rcases J with⟨p,o⟩|⟨p,o⟩
  .show wpAny _ _ (VN (.ref a) v>>=λb=>pure (Rw (!b))) _ _ _;refine Ms (D8 hu I hK hP hw sa p (λx m=>o x (f.mem_iff.mp m)) h r λc D n=>have K:=n.trans f.mem_iff;Mu ⟨.bl (!c),H,I.tok _,rfl,q (.bl (!c)) ⟨!c,rfl,by rw[Bool.bne_true,Bool.not_not];exact K⟩ _ H .refl (by simp only[Is])⟩)
  .obtain⟨i,rfl⟩:=p;simp only[Is]at h;subst h;obtain⟨D,rfl⟩:=(show∃t,v=Qt i t from r);obtain⟨C,t,S,rfl,G⟩:=int_at I hP hw sa λx m=>o x (f.mem_iff.mp m);refine wpAny_notInSet_of (knd:=NS X.prog X.w) (QX _ _ _ _) rfl (mO.setOf S G) ⟨.bl _,H,I.tok _,rfl,q (.bl (!decide (i∈C.map (·.1)))) ⟨_,rfl,?_⟩ _ H .refl (by simp only[Is])⟩;rw[Bool.bne_true,Bool.not_not,decide_eq_true_eq,<-f.mem_iff];constructor
   .intro g;obtain⟨z,j,e⟩:=List.mem_map.mp g;exact List.mem_map.mpr ⟨z,j,by rw[e]⟩
   .intro g;obtain⟨z,j,e⟩:=List.mem_map.mp g;injection e with e;rw[<-e];exact Np j|_=>exact q.elim⟩
end
inductive T(α:Type)where|ok(a:α)|exc(x:Xc)|stuck|draw(n:Int)(k:Int->T α)
namespace T
variable{α β:Type}
protected def bind:T α->(α->T β)->T β
 |.ok a,f=>f a|.exc x,_=>.exc x|.stuck,_=>.stuck|.draw n k,f=>.draw n λi=>(k i).bind f
instance:Monad T where
 pure:=T.ok;bind:=T.bind
noncomputable def get:Option α->T α
 |some a=>.ok a|none=>.stuck
noncomputable def need(b:Bool):T Unit:=if b then .ok ()else .stuck
noncomputable def at'(b:ag):T α->T α
 |.ok a=>.ok a|.exc x=>.exc ⟨x.x,b⟩|.stuck=>.stuck|.draw n k=>.draw n λi=>(k i).at' b
noncomputable def calm:T α->T α
 |.ok a=>.ok a|.exc _=>.stuck|.stuck=>.stuck|.draw n k=>.draw n λi=>(k i).calm
noncomputable def gI(n:Int):M Int:=do
 M.need (0<n/\n<1073741824)M.tick 1;M.any λi=>0<=i/\i<n
noncomputable def au:T α->M α
 |.ok a=>pure a|.exc x=>M.throw x|.stuck=>M.fail|.draw n k=>do let i<-gI n;(k i).au
end T
theorem M.ext{a:Type}{m m':M a}(h:∀k Q E,m.run k Q E=m'.run k Q E):m=m':=by
 obtain⟨r,p⟩:=m;obtain⟨b,c⟩:=m';have:r=b:=by funext k Q E;exact h k Q E
 subst this;rfl
theorem M.bind_assoc{c b d:Type}(m:M c)(f:c->M b)(g:b->M d):(m>>=f)>>=g=m>>=λa=>f a>>=g:=M.ext λ_ _ _=>rfl
namespace T
variable{α β:Type}
theorem ax(t:T α)(f:α->T β):(t>>=f).au=t.au>>=λa=>(f a).au:=by
 show(T.bind t f).au=_;induction t with
 |ok a=>rfl|exc x=>rfl|stuck=>rfl|draw n k b=>
  show(gI n>>=λi=>((k i).bind f).au)=(gI n>>=λi=>(k i).au)>>=_;rw[M.bind_assoc];congr 1;funext i;exact b i
theorem fo(o:Option α):(T.get o).au=M.get o:=by cases o<;>rfl
end T
noncomputable def Ref{a:Type}(t m:M a):Prop:=∀k Q E,t.run k Q E->m.run k Q E
theorem Ref.refl{a:Type}(m:M a):Ref m m:=λ_ _ _ h=>h
theorem Ref.of_eq{a:Type}{t m:M a}(h:t=m):Ref t m:=h▸.refl _
theorem Ref.bind{b c:Type}{t m:M b}{f g:b->M c}(h:Ref t m)(q:∀a,Ref (f a) (g a)):Ref (t>>=f) (m>>=g):=λk Q E z=>by
 refine h k _ E ?_;exact t.mono z (λa d y=>q a d Q E y) λ_ _ y=>y
theorem Ref.fail{a:Type}{m:M a}:Ref M.fail m:=λ_ _ _ h=>h.elim
theorem Ref.need{b:Bool}{P:Prop}(h:b=Mz->P):Ref (T.need b).au (M.need P):=λk Q E z=>by
 unfold T.need at z;split at z;.rename_i a;exact⟨h a,z⟩
 .exact z.elim
theorem Ref.get{a:Type}{o:Option a}:Ref (T.get o).au (M.get o):=.of_eq (T.fo o)
section
variable{X:Cx}{F:Fx}{e:MV}{es:List MV}{st:OM}{sts:List OM}
theorem DE.ref{t m:ag->M D}(h:DE X F e m)(r:∀a,Ref (t a) (m a)):DE X F e t:=⟨h.hK,h.pe.imp λb H Q⟨a,k,S,z⟩=>⟨a,k,S,r a _ _ _ z⟩⟩
theorem DT.ref{t m:ag->M Bool}(h:DT X F e m)(r:∀a,Ref (t a) (m a)):DT X F e t:=⟨h.hK,h.pt.imp λb H Q⟨a,k,S,z⟩=>⟨a,k,S,r a _ _ _ z⟩⟩
theorem vE.ref{t m:ag->M Bool}(h:vE X F e m)(r:∀a,Ref (t a) (m a)):vE X F e t:=⟨h.hK,h.pw.imp λb H Q⟨a,k,S,z⟩=>⟨a,k,S,r a _ _ _ z⟩⟩
theorem DA.ref{t m:ag->M (List A)}(h:DA X F es m)(r:∀a,Ref (t a) (m a)):DA X F es t:=⟨h.hK,h.pa.imp λb H Q⟨a,k,S,z⟩=>⟨a,k,S,r a _ _ _ z⟩⟩
theorem DS.ref{t m:ag->M Fl}(h:DS X F st m)(r:∀a,Ref (t a) (m a)):DS X F st t:=⟨h.hK,h.ps.imp λZ b H⟨a,k,S,z⟩=>⟨a,k,S,r a _ _ _ z⟩⟩
theorem uA.ref{t m:ag->M Fl}(h:uA X F sts m)(r:∀a,Ref (t a) (m a)):uA X F sts t:=⟨h.hK,h.ps.imp λZ b H⟨a,k,S,z⟩=>⟨a,k,S,r a _ _ _ z⟩⟩
theorem DG.ref{tg:MV}{t m:D->ag->M ag}(h:DG X F tg m)(r:∀d a,Ref (t d a) (m d a)):DG X F tg t:=⟨h.hK,h.pg.imp λv b H Q⟨a,k,d,S,i,z⟩=>⟨a,k,d,S,i,r d a _ _ _ z⟩⟩
theorem BW.ref{b:List MV}{t m:List D->ag->M ag}(h:BW X F b m)(r:∀d a,Ref (t d a) (m d a)):BW X F b t:=⟨h.hK,h.pg.imp λv c H Q⟨a,k,d,S,i,z⟩=>⟨a,k,d,S,i,r d a _ _ _ z⟩⟩
theorem DI.ref{tg iter:MV}{t m:ag->M (List D)}(h:DI X F tg iter m)(r:∀a,Ref (t a) (m a)):DI X F tg iter t:=⟨h.hK,h.pi.imp λb H R⟨a,k,S,z⟩=>⟨a,k,S,r a _ _ _ z⟩⟩
theorem fC.ref{ifs:List MV}{t m:ag->M Bool}(h:fC X F ifs m)(r:∀a,Ref (t a) (m a)):fC X F ifs t:=⟨h.hK,λb s c H Q I⟨a,k,S,z⟩=>h.pi b s c H Q I ⟨a,k,S,r a _ _ _ z⟩⟩
theorem DE.stuck(hK:X.K=F.K):DE X F e (λ_=>M.fail):=⟨hK,λa s b H Q I⟨c,k,S,z⟩=>z.elim⟩
theorem DT.stuck(hK:X.K=F.K):DT X F e (λ_=>M.fail):=⟨hK,λa s b H Q I⟨c,k,S,z⟩=>z.elim⟩
theorem DS.stuck(hK:X.K=F.K):DS X F st (λ_=>M.fail):=⟨hK,λa s b H Q I⟨c,k,S,z⟩=>z.elim⟩
theorem DI.stuck{tg iter:MV}(hK:X.K=F.K):DI X F tg iter (λ_=>M.fail):=⟨hK,λa s b H R I⟨c,k,S,z⟩=>z.elim⟩
theorem eN.ref{f:Mv->Mv->U5 Mv}{t:D->D->M D}(h:∀d e,∃m,eN X F f m/\Ref (t d e) (m d e)):eN X F f t:=⟨λa s b H k x y v u d e Q I g c l hK i i2 q=>by
 obtain⟨m,o,r⟩:=h d e;exact o.op a s b H k x y v u d e Q I g c l hK i i2 (r _ _ _ q)⟩
theorem aY.ref{f:Mv}{t:List D->M D}(h:∀ds,∃m,aY X F f m/\Ref (t ds) (m ds)):aY X F f t:=⟨λa s b H k c d ds Q I g l hK i q=>by
 obtain⟨m,o,r⟩:=h ds;exact o.call a s b H k c d ds Q I g l hK i (r _ _ _ q)⟩
end
structure kb(lo:Nat)(h:Na)(H:Hp)(a c:MD)(dx:Option MD):Prop where
 un:H a=MA
 ge:lo<=a
 ob:∃oe vs,h.get? a=Mt oe/\oe.cls=.ref c/\oe.dict=dx/\oe.data=.fields vs/\(vs[1]?=Mt .none\/∃T oT ts,vs[1]?=Mt (.ref T)/\T≠a/\lo<=T/\H T=MA/\h.get? T=Mt oT/\oT.data=.fields ts/\ts[3]?=Mt .none)
theorem kb.mono{lo b:Nat}{h:Na}{H:Hp}{a c:MD}{g:Option MD}(f:kb lo h H a c g)(e:b<=lo):kb b h H a c g:=by
 obtain⟨u,l,p,i,v,t,s,r,d⟩:=f;refine⟨u,Nw e l,p,i,v,t,s,r,?_⟩;rcases d with d|⟨T,q,j,o,n,m,k⟩;.exact .inl d
 .exact .inr ⟨T,q,j,o,n,Nw e m,k⟩
section
variable{M:RL}{A:Nc}{E:Mv->Mx->Prop}{s:Mx}
theorem o6{base:Na}{env:Sl}{outer:List Sl}{L e:MD}{z:NF}{vs:Array Mv}{head:Mv}{l:Bool}{Q:Unit->Mx->Prop}(J:A.frames=Mt (env::outer))(R:s.heap.FunFrames base (env::outer))(W:env.frame=Mt L)(S:s.heap.get? e=Mt z)(hd:z.data=.fields vs)(hsz:1<vs.size)(h:∀h',(∀b o,s.heap.get? b=Mt o->b≠e->b∉fA (env::outer)->h'.get? b=Mt o)->(∀b o,s.heap.get? b=Mt o->b∈fA (env::outer)->∃H,h'.get? b=Mt {o with slots:=H})->(∃n B T O N,h'.get? e=Mt n/\n.cls=z.cls/\n.dict=z.dict/\n.data=.fields B/\B[1]?=Mt (.ref T)/\T≠e/\s.heap.objs.size<=T/\h'.get? T=Mt O/\O.data=.fields N/\N[3]?=Mt .none)->Q () {s with heap:=h'}):wpAny M A (do let a<-frameOf env;let y<-entryPlaceOf L l;let b<-Va head a .none (Po L) .none y;TQ (.ref e) 1 b) (λ_ s'=>wpAny M A (SD (.ref e) MA) Q E s') E s:=by
 have p:e∉(env::outer).filterMap (·.frame):=λV=>by
  obtain⟨_,o,G,I⟩:=R.mem V;rw[S]at G;injection G with G;subst G;exact I vs hd
 refine Ms (wpAny_frameOf_fun J R W λc d=>?_);refine Ms (wpAny_entryPlaceOf λy C=>?_);unfold Va newFields;refine Ms (Nd ?_ (C.sizeOk5 _ _ _ _ _));have j:c.get? e=Mt z:=(d.2.1 e p).trans S;generalize D:({cls:=.type "traceback",dict:=MA,data:=.fields ([head,.ref L,.none,Po L,.none]++(if y.isEmpty then OQ 6 M5 else y)).toArray}:NF)=ob;have i:=Mw (h:=c) ob j;have k:ob.data=.fields ([head,.ref L,.none,Po L,.none]++(if y.isEmpty then OQ 6 M5 else y)).toArray:=by rw[<-D]
 have r:ob.isFreed=My:=by rw[<-D];rfl
 refine OR i hd hsz ?_;have w:c.objs.size≠e:=N0 (MH j);have f:=NL hd (·.setIfInBounds 1 (MW c.objs.size));have g:=M6 (ON (·.setIfInBounds 1 (MW c.objs.size))) i (Oo f);have m:=(MQ (c.push ob) (ON (·.setIfInBounds 1 (MW c.objs.size))) (NO w)).trans (MJ c r);unfold SD;refine Ms (NJ g f (x:=.ref c.objs.size) (by simp[hsz]) ?_);rw[if_pos (show(MW c.objs.size !=M5)=Mz from by simp)];refine OR m k (by simp only[MR,Of,Nn,NG]<;>omega) (h _ ?_ ?_ ?_)
 .intro b o K u t;have F:c.get? b=Mt o:=(d.2.1 b t).trans K;have v:c.objs.size≠b:=N0 (MH F);show Heap.get? _ b=Mt o;rw[MQ _ _ v,MQ _ _ (NO u)];exact Mw _ F
 .intro b o K t;obtain⟨H,P⟩:=d.2.2 b o K;have u:b≠e:=λq=>p (q▸t);have v:c.objs.size≠b:=N0 (MH P);refine⟨H,?_⟩;show Heap.get? _ b=_;rw[MQ _ _ v,MQ _ _ (NO u)];exact Mw _ P
 .refine⟨_,_,c.objs.size,_,_,?_,QL _ _,?_,f,by simp[hsz],w,by rw[d.1];exact MN _,M6 _ m (Oo (NL k _)),NL k _,by first|(simp;done)|(rcases C with rfl|⟨_,_,_,_,_,_,_,rfl⟩<;>simp)⟩
  .show Heap.get? _ e=_;rw[MQ _ _ w];exact g
  .obtain⟨Y,X,dt,U⟩:=z;cases dt<;>rfl
structure Kj(lo:Nat)(fs:List MD)(H:Hp)(a c:MD)(dx:Option MD)(h h':Na)(ch:List MD):Prop where
 keep:∀b o,h.get? b=Mt o->b∉ch->b∉fs->h'.get? b=Mt o
 slot:∀b o,h.get? b=Mt o->b∈fs->∃sl,h'.get? b=Mt {o with slots:=sl}there:∀b o,h.get? b=Mt o->∃o',h'.get? b=Mt o'
 un:∀b∈ch,H b=MA
 ge:∀b∈ch,lo<=b
 Lw:kb lo h' H a c dx
theorem tw{base:Na}{env:Sl}{outer:List Sl}{L a c lo:MD}{S:Option MD}{H:Hp}{Q:Unit->Mx->Prop}(u:A.frames=Mt (env::outer))(K:s.heap.FunFrames base (env::outer))(N:env.frame=Mt L)(J:lo<=s.heap.objs.size)(Ww:∀b,s.heap.objs.size<=b->H b=MA)(fl:kb lo s.heap H a c S)(h:∀h' ch,Kj lo (fA (env::outer)) H a c S s.heap h' ch->Q () {s with heap:=h'}):wpAny M A (Q9 (.ref a) env) (λ_ s'=>wpAny M A (SD (.ref a) MA) Q E s') E s:=by
 obtain⟨un,Z,X,vs,C,hc,O,hd,I⟩:=fl;unfold Q9;simp only[N];have fin:∀(l h':Na)(ch:List MD),(∀b o,s.heap.get? b=Mt o->b∉ch->l.get? b=Mt o)->(∀b o,s.heap.get? b=Mt o->b∈fA (env::outer)->l.get? b=Mt o)->(∀b o,s.heap.get? b=Mt o->∃o',l.get? b=Mt o')->l.objs.size=s.heap.objs.size->(∀b∈ch,H b=MA)->(∀b∈ch,lo<=b)->(∀b o,l.get? b=Mt o->b≠a->b∉fA (env::outer)->h'.get? b=Mt o)->(∀b o,l.get? b=Mt o->b∈fA (env::outer)->∃U,h'.get? b=Mt {o with slots:=U})->(∃i k T t m,h'.get? a=Mt i/\i.cls=X.cls/\i.dict=X.dict/\i.data=.fields k/\k[1]?=Mt (.ref T)/\T≠a/\l.objs.size<=T/\h'.get? T=Mt t/\t.data=.fields m/\m[3]?=Mt .none)->Kj lo (fA (env::outer)) H a c S s.heap h' (a::ch):=by
  intro l h' ch k1 k2 k3 hz c1 c2 r p⟨i,k,T,t,m,W,q2,q3,q4,q5,q6,V,q8,q9,D⟩;refine⟨λb o e d g=>?_,λb o e g=>p b o (k2 b o e g) g,λb o e=>?_,λb d=>?_,λb d=>?_,⟨un,Z,i,k,W,q2.trans hc,q3.trans O,q4,.inr ⟨T,t,m,q5,q6,Nw J (by rw[<-hz];exact V),Ww T (by rw[<-hz];exact V),q8,q9,D⟩⟩⟩
  .rw[Nl,not_or]at d;exact r b o (k1 b o e d.2) d.1 g
  .obtain⟨Y,e1⟩:=k3 b o e;by_cases v:b=a;.subst v;exact⟨_,W⟩
   .by_cases g:b∈fA (env::outer)
    .obtain⟨U,e2⟩:=p b Y e1 g;exact⟨_,e2⟩
    .exact⟨_,r b Y e1 v g⟩
  .rcases List.mem_cons.mp d with z|z;.rw[z];exact un
   .exact c1 b z
  .rcases List.mem_cons.mp d with z|z;.rw[z];exact Z
   .exact c2 b z
 rcases I with y|⟨T,t,m,y,R,w,P,x,j,h3⟩
 .refine Ms (NJ C hd y ?_);rw[if_neg (by decide)];exact o6 u K N C hd (Array.getElem?_eq_some_iff.mp y).1 λh' r p G=>h h' _ (fin s.heap h' [] (λb o e _=>e) (λb o e _=>e) (λb o e=>⟨o,e⟩) rfl (λb d=>nomatch d) (λb d=>nomatch d) r p G)
 .refine Ms (NJ C hd y ?_);rw[if_pos (show(MW T !=M5)=Mz from by simp)];refine Ms (NJ x j h3 ?_);rw[if_neg (show¬((M5==Po L)=Mz)from by simp[Po])];refine Ms (OR x j (Array.getElem?_eq_some_iff.mp h3).1 ?_);have f:∀b,b≠T->(s.heap.update T (ON (·.setIfInBounds 3 M5))).get? b=s.heap.get? b:=λb d=>MQ _ _ (NO d);have F:∀b,b∈fA (env::outer)->b≠T:=λb d q=>by
   obtain⟨_,o,B,n⟩:=K.mem d;rw[q,x]at B;injection B with B;subst B;exact n m j
  refine o6 (s:={s with heap:=s.heap.update T (ON (·.setIfInBounds 3 M5))}) u (K.of_keeps λb o d n=>⟨o,(f b λq=>by rw[q,x]at d;injection d with d;subst d;exact n m j).trans d,rfl⟩) N ((f a (NO R)).trans C) hd (Array.getElem?_eq_some_iff.mp y).1 λh' r p G=>h h' _ (fin _ h' [T] (λb o e d=>(f b λz=>d (by rw[z];exact List.mem_singleton_self _)).trans e) (λb o e d=>(f b (F b d)).trans e) (λb o e=>?_) (Heap.size_after_update ..) (λb d=>by rw[List.mem_singleton.mp d];exact P) (λb d=>by rw[List.mem_singleton.mp d];exact w) r p G);by_cases d:b=T
  .subst d;exact⟨_,M6 _ x (Oo (NL j _))⟩
  .exact⟨o,(f b d).trans e⟩
theorem xy{base:Na}{env:Sl}{outer:List Sl}{L a c lo:MD}{f:Option MD}{H:Hp}{Q:Unit->Mx->Prop}(e:A.frames=Mt (env::outer))(g:s.heap.FunFrames base (env::outer))(i:env.frame=Mt L)(d:lo<=s.heap.objs.size)(Ww:∀b,s.heap.objs.size<=b->H b=MA)(j:kb lo s.heap H a c f)(h:∀h' ch,Kj lo (fA (env::outer)) H a c f s.heap h' ch->Q () {s with heap:=h'}):wpAny M A (WC env (.ref a)) Q E s:=by
 unfold WC;exact Ms (tw e g i d Ww j h)
end
noncomputable def o7(F:Fb)(H:Hp)(b:Option MD):List D->Prop
 |[]=>True|[d]=>∃x a v,b=Mt x/\x≠F.p/\H x=Mt (.bo a (.xd [("name",v)]))/\Is F H v d|_=>False
theorem o7.mono{F:Fb}{H H':Hp}{k k':Nat}{b:Option MD}{nm:List D}(h:o7 F H b nm)(e:Kp F H k H' k'):o7 F H' b nm:=by match nm,h with
 |[],_=>trivial|[d],⟨x,c,v,i,a,g,f⟩=>exact⟨x,c,v,i,a,e.keep _ _ a rfl g,f.mono e⟩
noncomputable def D9(P:MX)(w:M_):sI:=λouter H s E e b=>∃a c f d,e=.ref a/\b.os=s.os/\R5 b.gens/\Un (fA outer) [] H d s.heap b.heap/\fH P w d b.heap/\kb s.heap.objs.size b.heap d a c f/\E (.ref c) f d
section
variable{X:Cx}{F:Fx}{pins:List (MD×NF)}{σ:St}{H:Hp}{s s':Mx}
noncomputable def rp(X:Cx)(pins:List (MD×NF))(σ:St)(h:Na)(H:Hp)(a c:MD)(d:Option MD):Prop:=∃b H0,Inv X pins σ H0 b/\kb b.heap.objs.size h H a c d
noncomputable def uL(X:Cx)(F:Fx):Prop:=∀(pins:List (MD×NF))(σ:St)(b:ag)(H:Hp)(k:Nat)(s:Mx)(a c:MD)(d:Option MD)(nm:List D),Inv X pins σ H s->bp F b k σ H->rp X pins σ s.heap H a c d->o7 F.toFb H d nm->F.E ⟨.exc c nm,b⟩ k->X.xe (.ref a) s
theorem uL.never(h:∀x k,¬F.E x k):uL X F:=λ_ _ _ _ _ _ _ _ _ _ _ _ _ _ z=>(h _ _ z).elim
theorem Inv.GX{E:XK}{e:Mv}(I:Inv X pins σ H s)(h:D9 X.prog X.w X.stack H s E e s'):∃a c d H',e=.ref a/\Inv X pins σ H' s'/\kb s.heap.objs.size s'.heap H' a c d/\E (.ref c) d H':=by
 obtain⟨a,c,d,H',rfl,os,bare,un,ay,f,q⟩:=h;exact⟨a,c,d,H',rfl,I.sC os un ay bare λb z=>absurd z (by simp),f,q⟩
theorem Inv.leave{A:Nc}{outer:List Sl}{a c:MD}{C:Option MD}{M:RL}{Q:Unit->Mx->Prop}{E:Mv->Mx->Prop}(I:Inv X pins σ H s)(D:A.frames=Mt X.stack)(j:X.stack=X.env::outer)(r:X.env.frame=Mt X.env.locals)(x:X.outer=outer)(hex:X.ex=[])(y:rp X pins σ s.heap H a c C)(h:∀s',s'.os=X.bA.os->R5 s'.gens->Un (fA outer) [] X.fJ H X.bA.heap s'.heap->fH X.prog X.w H s'.heap->kb X.bA.heap.objs.size s'.heap H a c C->Q () s'):wpAny M A (WC X.env (.ref a)) Q E s:=by
 have i:=I.stack;obtain⟨S,H0,P,B⟩:=y;have B:kb X.bA.heap.objs.size s.heap H a c C:=B.mono P.sz;rw[j]at D i;refine xy D i r I.sz (λb f=>I.ay.fresh f) B λO J L=>?_;have l:∀b o,X.bA.heap.get? b=Mt o->b∉J:=λb o e z=>absurd (MH e) (Nat.not_lt.mpr (L.ge b z));have k:∀b,H b≠MA->b∉J:=λb n z=>n (L.un b z);have p:X.fs=fA outer:=by show fA X.outer=_;rw[x]
 have v:∀b,b∈fA (X.env::outer)->H b=MA:=λb f=>I.ji b (by rw[j];exact f);have mem:∀b,b∈fA (X.env::outer)->b=X.env.locals\/b∈fA outer:=λb f=>by
  have:=I.fK b (by rw[j];exact f);rw[p]at this;exact List.mem_cons.mp this
 have old:∀b o,X.bA.heap.get? b=Mt o->b<X.bA.heap.objs.size:=λb o e=>MH e;have N:∀b o,X.bA.heap.get? b=Mt o->b≠X.env.locals:=λb o e z=>by
  have G:=old b o e;rw[z]at G;exact absurd I.ok.above (Nat.not_le.mpr G)
 have g:=I.base;rw[p,hex]at g;refine h {s with heap:=O} I.os I.bare ⟨λb o e n f m=>?_,λb o e n f m=>?_,g.free,λb o e m=>?_,g.fx,g.eB,g.fy⟩ (λb o e=>?_) L.Lw
 .refine L.keep b o (g.keep b o e n f m) (l b o e) λz=>?_;rcases mem b z with q|q;.exact N b o e q
  .exact f q
 .obtain⟨R,e1⟩:=g.slot b o e n f m;have:b∈fA (X.env::outer):=by
   show b∈List.filterMap _ _;rw[OX,r];exact MM _ f
  obtain⟨t,e2⟩:=L.slot b _ e1 this;exact⟨t,e2⟩
 .obtain⟨K,e1⟩:=g.there b o e m;exact L.there b K e1
 .refine(I.ay b o e).fw (λd u hd q=>L.keep d u q (k d ?_) λz=>?_) (λ_ q=>q) λ_ _ q=>q
  .rcases hd with z|z;.rw[z,e];exact(λq=>nomatch q)
   .rw[z];exact(λq=>nomatch q)
  .have n:=v d z;rcases hd with q|q;.rw[q,e]at n;cases n
   .rw[q]at n;cases n
end
noncomputable def qX(B:Fb)(H:Hp)(k:Nat)(E:XK):Xc->Nat->Prop:=λx d=>∀a c nm b,Ext B H k a d->x.x=.exc c nm->o7 B a b nm->E (.ref c) b a
noncomputable def spT(P:MX)(w:M_)(K:ME)(n:Nat)(m:List A->M D):Sp:=λa H Q E=>∃p k as,H p≠MA/\uy ⟨K,p,P,w⟩ H k a as/\as.length=n/\(m as).run k (qE ⟨K,p,P,w⟩ H k Q) (qX ⟨K,p,P,w⟩ H k E)
noncomputable def kc(P:MX)(w:M_)(K:ME)(mg:M3->Option Mv)(base:Na)(x:M3)(n:Nat)(k:Nat)(m:List A->M D):Prop:=∃ps:List M3,ps.length=n/\∃f fd,cw P w K mg base (D9 P w) k f fd ps (spT P w K n m)/\mg x=Mt (.ref f)/\QP K (.ref f)=Mz/\Binds K fd ps []
section
variable{X:Cx}{F:Fx}{e:MV}{es:List MV}{pos:Od}{tas:ag->M (List A)}
theorem AB(hK:X.K=F.K)(hP:X.prog=F.P)(hw:X.w=F.w):(⟨X.K,F.p,X.prog,X.w⟩:Fb)=F.toFb:=by
 have:F.toFb=⟨F.K,F.p,F.P,F.w⟩:=rfl;rw[this,hK,hP,hw]
noncomputable def Kk{a:Type}(c:ag)(m:M a):M a:=⟨λk Q E=>m.run k Q (λx b=>E ⟨x.x,c⟩ b),λh q e=>m.mono h q λx b z=>e _ _ z⟩
theorem T.D_{c:Type}(b:ag)(t:T c):(t.at' b).au=Kk b t.au:=by induction t with
 |ok a=>rfl|exc x=>rfl|stuck=>rfl|draw n k d=>
  refine M.ext λj Q E=>?_;show((T.gI n)>>=λi=>((k i).at' b).au).run j Q E=((T.gI n)>>=λi=>(k i).au).run j Q _;rw[M.run_bind,M.run_bind];simp only[d];rfl
theorem AD{x:M3}{n k:Nat}{m:List A->M D}{p:Od}(Df:kc X.prog X.w X.K X.mg X.base x n k m)(hr:bT k X.A)(ho:uL X F)(V:DA X F (e::es) tas)(hg:Gl X x)(hP:X.prog=F.P)(hw:X.w=F.w)(U:(x==("__debug__":M3))=My)(he:MS (e::es) X.env=(My,N2 e X.env)::MS es X.env)(R:(Og pos (MS es X.env)).any (·.1)=My):DE X F (.Call (.Name x p) (e::es) [] pos) (λi=>do let as<-tas i;M.need (as.length=n);Kk i (m as)):=by
 obtain⟨ps,hl,f,fd,FN,hm,hk,hb⟩:=Df;refine⟨V.hK,λj s L H Q I⟨i,k0,S,h⟩=>?_⟩;refine O5 (fg I hg hm ?_ U);refine Vo (h₀:=X.base) I.ok.mod.zt hk (aU (V.pa pos j s L H _ I (mU.next (Q:=λy g=>∃as b,Ext F.toFb H k0 g b/\bp F i b L g/\uy F.toFb g b y as/\as.length=n/\(Kk i (m as)).run b (qE F.toFb H k0 Q) F.E) S h λas b y g e1 J O Z=>⟨as,b,e1,J,O,Z.1,Z.2⟩)) λG s1⟨y,g,v,r,as,b,e1,J,O,hn,q⟩=>⟨v.fB,?_⟩) he R;have eF:=AB (X:=X) (F:=F) V.hK hP hw;have B:spT X.prog X.w X.K n m y g Q (λcl t l=>∃c nm o,cl=.ref c/\Ext F.toFb g b l o/\o7 F.toFb l t nm/\F.E ⟨.exc c nm,i⟩ o):=by
  refine⟨F.p,b,as,J.live,?_,hn,?_⟩;.rw[eF];exact O
  .rw[eF];refine(m as).mono q (λd Y z=>z.ext e1) λx Y z=>?_;intro l c nm t e2 ex N;exact⟨c,nm,Y,rfl,e2,N,by rw[<-ex];exact z⟩
 have T:G.length=ps.length:=by rw[<-r.length];exact FN.len _ _ _ _ B
 refine Ry (OH (FN.run X.A X.stack s1 g ⟨G,[]⟩ G y Q _ hr v.uj ?_ r B) λr s' C=>?_)
 .have:=hb s1 G v.fB (by rw[NT];exact T);rw[NT]at this;exact this
 .cases r with
  |error e=>
   obtain⟨a,c,t,l,rfl,I2,W,c',nm,o,ec,e2,N,z⟩:=v.GX (E:=λcl t l=>∃c nm o,cl=.ref c/\Ext F.toFb g b l o/\o7 F.toFb l t nm/\F.E ⟨.exc c nm,i⟩ o) (e:=e) (s':=s') C;cases ec;exact ho j L i l o s' a c t nm I2 (J.mono e2) ⟨s1,g,v,W⟩ N z|ok W=>cases W with
   |ret u=>exact v.after C|next=>exact N7 C|brk=>exact N7 C|cont=>exact N7 C
end
section
variable{P:MX}{w:M_}{K:ME}{mg:M3->Option Mv}{base:Na}
theorem ur.L0{x b:M3}{st:OM}{f:MD}{fd:N8}{N ps:List M3}{n k:Nat}{m:List A->M D}(Fn:ur K x b st f fd)(S:bI N ps (aj st))(hn:ps.length=n)(l:∀(g:Mv)(o:Nc)(outer:List Sl)(s:Mx)(H:Hp)(p:MD)(k0:Nat)(E:XK)(y:Xc->Nat->Prop),bT k (o.deeper (Tp b (aj st) s.heap.objs.size f g))->Oy K g b=Mz->uL (g9 (D9 P w) P w K mg base N b (aj st) f g o outer s H E) ⟨⟨K,p,P,w⟩,H,k0,y,H,k0⟩->∃t,uA (g9 (D9 P w) P w K mg base N b (aj st) f g o outer s H E) ⟨⟨K,p,P,w⟩,H,k0,y,H,k0⟩ (bD st) t/\∀(as:List A)(Q:D->Nat->Prop),as.length=n->(m as).run k0 Q y->(t (eO N as)).run k0 (GH Q) y):cw P w K mg base (D9 P w) (k+1) f fd ps (spT P w K n m):=by
 obtain⟨oc,od,kV,a0,pm,an,g,ct,V,rfl,lk,u⟩:=Fn.ex;refine v5 lk u S (λU H Q E h=>?_) λo outer s H U Q E Z h=>?_
 .obtain⟨p,j,as,_,i,C,_⟩:=h;rw[Paired.length i,C,hn]
 .obtain⟨p,j,as,W,i,C,q⟩:=h;have F:uL (g9 (D9 P w) P w K mg base N b (aj st) f g o outer s H E) ⟨⟨K,p,P,w⟩,H,j,qX ⟨K,p,P,w⟩ H j E,H,j⟩:=by
   intro L R B r X s' a c O nm I S' J T z;refine I.leave (A:=o.deeper (Tp b (aj st) s.heap.objs.size f g)) (outer:=outer) I.ok.frames rfl rfl rfl rfl J λs2 os bare un ay G=>?_;exact⟨a,c,O,r,rfl,os,bare,un,ay,G,z r c nm O S'.ext rfl T⟩
  obtain⟨t,Y,hq⟩:=l g o outer s H p j E (qX ⟨K,p,P,w⟩ H j E) Z u F;refine⟨_,Y.ps,eO N as,j,uC W i,M.wk (hq as _ C q) λJ X z=>?_⟩;cases J with
  |nx B=>exactλR r kp S=>z .aJ r S.ext (by simp only[Is])|rt d=>exactλv r e i=>z v r e i|bk B=>exact z.elim|ct B=>exact z.elim
end
open PySem (wpAny_loadPart_at wpAny_madeBy_exc)
noncomputable def h9:List Mv:=[.type "ValueError",.type "Exception",.type "BaseException",.type "object"]
noncomputable def bF(C t:MD):NF:={cls:=.ref C,data:=.fields #[.ref t,.none,.none,.none,.bool My,.none]}
structure o8(h h':Na)(e C:MD):Prop where
 keeps:∀b o,h.get? b=Mt o->h'.get? b=Mt o
 ge:h.objs.size<=e
 there:∃t,h'.get? e=Mt (bF C t)
section
variable{prog:MX}{w:M_}{A:Nc}{E:Mv->Mx->Prop}{h:Na}{g:Array RK}{d:Wj}{t:Nat}{os:VR}
variable{nm q:M3}{C N:MD}{bs bm bmB:List Mv}{hdct:Bool}{sn:List M3}{sub:List Mv}{ab:Bool}{col:Option Bool}{dd:Option MD}{k0 k1 k2 k3 k5:Option Mv}{B newId initId:String}
theorem kf(F:Uo B newId initId bmB)(T:VS h bmB bm){m:M3->Option Mv}{a:List Mv}{Q:Fin->Mx->Prop}(l:h.get? C=Mt (Py nm q C N bs bm hdct sn sub ab col dd k0 k1 k2 k3 k5 newId))(v:h.Ns N m)(n:m "__init__"=MA)(u:∀h' e,o8 h h' e C->Q (.done (.ret (.ref e))) ⟨h',g,d,t,os⟩)(j:a.length<=MP):wpAny (MO prog w) A (Builtin.«type.__call__» ⟨.ref C::a,[]⟩) Q E ⟨h,g,d,t,os⟩:=by
 repeat(first|with_reducible refine Ng l ?_|with_reducible refine TV l ?_|wp_step)
 refine S_ (O8 _ F.quiet) (UZ F T l ?_);refine U0 F T l ?_ j;show wpAny _ _ _ _ _ _;have c:=Mw {cls:=.ref C,data:=.fields #[.ref h.objs.size,.none,.none,.none,.bool My,.none]} (Mw {cls:=.type "tuple",data:=.seq a.toArray} l);have k:((h.push {cls:=.type "tuple",data:=.seq a.toArray}).push {cls:=.ref C,data:=.fields #[.ref h.objs.size,.none,.none,.none,.bool My,.none]}).Ns N m:=let⟨o,x,y,e,r⟩:=v;⟨o,x,y,Mw _ (Mw _ e),r⟩;have f:((h.push {cls:=.type "tuple",data:=.seq a.toArray}).push {cls:=.ref C,data:=.fields #[.ref h.objs.size,.none,.none,.none,.bool My,.none]}).get? (h.objs.size+1)=Mt {cls:=.ref C,data:=.fields #[.ref h.objs.size,.none,.none,.none,.bool My,.none]}:=by heap_get
 have p:(MW C::bm).contains (.ref C)=Mz:=by simp
 have i:=T.keeps (h':=(h.push {cls:=.type "tuple",data:=.seq a.toArray}).push {cls:=.ref C,data:=.fields #[.ref h.objs.size,.none,.none,.none,.bool My,.none]}) λb o e=>Mw _ (Mw _ e);unfold RC;repeat(first|with_reducible refine Ng f ?_|(with_reducible refine Rg c ?_;rw[p])|wp_step)
 show wpAny _ _ (O6 (.ref C) _) _ _ _;refine UI c k i F.mroIs F.init.lookup ?_;rw[n];refine M2 (Ms (Px (F.init.bind _) ?_));refine Ms (Ry (OL F.init.plain F.initEntry (wpAny_check_init_subT F i c f rfl ?_)));wp_walk;refine u _ _ ⟨λb o s=>?_,Qh _,h.objs.size+2,?_⟩
 .rw[MQ _ _ (N0 (OS (MH s)))];exact Mw _ (Mw _ (Mw _ s))
 .rw[M6 _ (Mw _ f) rfl];simp only[ND];rfl
theorem uM(F:Uo B newId initId bmB)(T:VS h bmB bm){i:M3->Option Mv}{a:List Mv}{Q:Mv->Mx->Prop}(c:h.get? C=Mt (Py nm q C N bs bm hdct sn sub ab col dd k0 k1 k2 k3 k5 newId))(k:h.Ns N i)(f:i "__init__"=MA)(j:∀h' e,o8 h h' e C->Q (.ref e) ⟨h',g,d,t,os⟩)(b:a.length<=MP):wpAny (MO prog w) A (call (.ref C) a) Q E ⟨h,g,d,t,os⟩:=by
 have o:=tc_lookup;have n:=tc_bind (.ref C);have m:(⟨h,g,d,t,os⟩:Mx).TypeIs (.ref C) "type":=⟨_,c,rfl⟩;refine Ry (PR ?_);show wpAny _ _ (WH (.ref C) _) _ _ _;repeat(any_goals(first|assumption|with_reducible refine Ng c ?_|wp_step))
 refine⟨rfl,?_⟩;exact TX (O8 _ (by decide+kernel)) entry_typeCall (Ta c (kf F T c k f (λh' e l=>j h' e l) b))
theorem iM{s:Mx}{M:RL}{env:Sl}{x:U5 Mv}{Q:Flow->Mx->Prop}(b:bm.contains (.type "BaseException")=Mz)(k:A.handled=MA)(h:wpAny M A x (λv a=>∃e t j,v=.ref e/\a.heap.get? C=Mt (Py nm q C N bs bm hdct sn sub ab col dd k0 k1 k2 k3 k5 newId)/\a.heap.get? e=Mt {cls:=.ref C,dict:=j,data:=.fields #[.ref t,.none,.none,.none,.bool My,.none]}/\E (.ref e) a) E s):wpAny M A (raiseStmt env (Mt x) MA) Q E s:=by
 have f:(MW C::bm).contains (.type "BaseException")=Mz:=by rw[SS,b,VT]
 unfold raiseStmt;refine Ms (N3 h (λv a c=>?_) λ_ _ x=>x);obtain⟨e,t,j,rfl,i,l,m⟩:=c;obtain⟨o,g,d,n,os⟩:=a;repeat(first|with_reducible refine Ng l ?_|with_reducible refine Ng i ?_|(with_reducible refine Rg i ?_;rw[f])|wp_step)
 exact wpAny_raiseNew_none k m
end
noncomputable def ni(K:ME)(C:MD):Bool:=PySem.W.excIn K C h9 "ValueError.__new__"
theorem tx{K:ME}{h:Na}{C:MD}(X:K.In h)(q:ni K C=Mz):∃bm N nm q bs hdct sn sub ab col dd k0 k1 k2 k3 k5 e,h.get? C=Mt (Py nm q C N bs bm hdct sn sub ab col dd k0 k1 k2 k3 k5 "ValueError.__new__")/\h.Ns N e/\e "__init__"=MA/\VS h h9 bm:=by
 unfold ni PySem.W.excIn at q;split at q
 .rename_i dd cd d m;split at q
  .rename_i p bm k0 k1 k2 k3 n k5 g f;simp only[ML,beq_iff_eq,N1]at q;obtain⟨⟨⟨⟨⟨rfl,rfl⟩,a⟩,k⟩,ay⟩,b⟩:=q;obtain⟨nm,bs,j,ns,i,hd,sn,sub,ab,col,o⟩:=cd;dsimp only at g a ay b;subst g a;have c:d=#[k0,k1,k2,k3,Mt (.builtin "ValueError.__new__"),k5]:=by
    obtain⟨l⟩:=d;simp only at f;rw[f]
   subst c;exact⟨bm,ns,nm,i,bs,hd,sn,sub,ab,col,dd,k0,k1,k2,k3,k5,_,X _ _ m,.of_isNs (SU X ay),Pc X ay b,Vu X k⟩
  .cases q
 .cases q
section
variable{X:Cx}{F:Fx}{e:MV}{es:List MV}{tas:ag->M (List A)}
theorem xA{x:M3}{C:MD}{np cpos:Od}{pins:List (MD×NF)}{s:Mx}{σ:St}{H:Hp}{g:ag}{k:Nat}{R:Nat->Prop}{Q:Mv->Mx->Prop}(I:Inv X pins σ H s)(S:bp F g k σ H)(Y:DA X F (e::es) tas)(h:(do let as<-tas g;M.need (as.length<=MP):M Unit).run k (λ_ k'=>R k') F.E)(W:Gl X x)(U:X.mg x=Mt (.ref C))(P:ni X.K C=Mz)(o:(x==("__debug__":M3))=My)(v:MS (e::es) X.env=(My,N2 e X.env)::MS es X.env)(m:(Og cpos (MS es X.env)).any (·.1)=My)(q:∀k1 b s1 h' a t,Inv X pins σ b s1->Ext F.toFb H k b k1->bp F g k1 σ b->R k1->o8 s1.heap h' a C->h'.get? a=Mt (bF C t)->Q (.ref a) {s1 with heap:=h'}):wpAny (MO X.prog X.w) X.A (N2 (.Call (.Name x np) (e::es) [] cpos) X.env) Q X.xe s:=by
 obtain⟨bm,N,nm,q0,bs,y,sn,sub,ab,a0,dd,k0,k1,k2,k3,k5,mN,Z,hN,n,T⟩:=tx I.ok.mod.zt P;refine VU (fg I W U ?_ o);unfold callWith;rw[v];have u:=Y.pa cpos pins s σ H _ I (mU.next (Q:=λj b=>∃as k1,j.length=as.length/\Ext F.toFb H k b k1/\bp F g k1 σ b/\as.length<=MP/\R k1) S h λas k1 j b e1 p J B=>⟨as,k1,Paired.length J,e1,p,B.1,B.2⟩);rw[v]at u;have c:(Og cpos ((My,N2 e X.env)::MS es X.env)).any (·.1)=My:=by
  show(My||(Og cpos (MS es X.env)).any (·.1))=My;rw[m];rfl
 refine Ms (M2 (QR (aU u λG s1⟨j,b,i,r,as,l,V,e1,p,L,z⟩=>Ms (Oa ?_))));obtain⟨hh,gg,d,tk,os⟩:=s1;have D:=i.bk _ _ Z;have c2:=hN.keeps i.bk;have c3:=T.keeps i.bk;simp only[c];refine Ms (Vv D ?_);refine Ms (uM SV c3 D c2 n (λh' a f=>Ms (M2 (wpAny_point (Mu ?_)))) (by show G.length<=MP;rw[<-r.length,V];exact L));obtain⟨t,O⟩:=f.there;exact q l b _ h' a t i e1 p z f O
theorem xB{x:M3}{C:MD}{np cpos pos:Od}(L:X.calm=Mz)(y:uL X F)(r:DA X F (e::es) tas)(G:Gl X x)(D:X.mg x=Mt (.ref C))(o:ni X.K C=Mz)(j:(x==("__debug__":M3))=My)(J:MS (e::es) X.env=(My,N2 e X.env)::MS es X.env)(i:(Og cpos (MS es X.env)).any (·.1)=My):DS X F (.Raise (Mt (.Call (.Name x np) (e::es) [] cpos)) MA pos) (λd=>do let as<-tas d;M.need (as.length<=MP);M.throw ⟨.exc C [],d⟩):=by
 refine⟨r.hK,λb s m H Z I⟨d,k,S,h⟩=>?_⟩;obtain⟨bm,N,nm,q,bs,hdct,sn,sub,ab,col,dd,k0,k1,k2,k3,k5,R,O,hN,B,T⟩:=tx I.ok.mod.zt o;rw[arm_exec_Raise];refine Ms (Oa ?_);refine iM (C:=C) (nm:=nm) (q:=q) (N:=N) (bs:=bs) (bm:=bm) (hdct:=hdct) (sn:=sn) (sub:=sub) (ab:=ab) (col:=col) (dd:=dd) (k0:=k0) (k1:=k1) (k2:=k2) (k3:=k3) (k5:=k5) (newId:="ValueError.__new__") (T.hasType PySem.F.excBase_ValueError.hasBase) (I.ok.hd L) ?_;have w:(do let as<-tas d;M.need (as.length<=MP):M Unit).run k (λ_ v=>F.E ⟨.exc C [],d⟩ v) F.E:=h;refine Ms (xA I S r w G D o j J i λg f s1 P a t l e1 Q z c n=>Ms (Oa (Mu ?_)));have un:f a=MA:=l.ay.fresh c.ge;have u:Inv X b m f {s1 with heap:=P}:=l.kept (t':=s1.toks) c.keeps;exact⟨a,t,MA,rfl,u.bk _ _ O,n,y b m d f g _ a C MA [] u Q ⟨s1,f,l,un,c.ge,_,_,n,rfl,rfl,rfl,.inl rfl⟩ trivial z⟩
end
noncomputable def fZ(K:ME)(c P:MD):Option Bool:=if Q1 K (.ref P) (.type "BaseException")=Mt Mz then(match Q1 K (.ref P) (.ref P)with
  |some _=>Q1 K (.ref c) (.ref P)|none=>MA)else MA
theorem o9{K:ME}{M:RL}{A:Nc}{E:Mv->Mx->Prop}{s:Mx}{e c P:MD}{i:NF}{b:Bool}{Q:Bool->Mx->Prop}(X:K.In s.heap)(m:s.heap.get? e=Mt i)(n:i.cls=.ref c)(a:fZ K c P=Mt b)(q:Q b s):wpAny M A (excMatches (.ref e) (.ref P)) Q E s:=by
 unfold fZ at a;split at a
 .rename_i r;split at a
  .rename_i v p;obtain⟨l,k,u⟩:=Qr (M:=M) X p;obtain⟨_,_,j⟩:=Qr (M:=M) X r;obtain⟨_,_,h⟩:=Qr (M:=M) X a;have f:∀b o,s.heap.get? b=Mt o->s.heap.get? b=Mt o:=λ_ _ e=>e;unfold excMatches RC isExcClass;refine Ms (Ms (l A _ _ s f ?_));refine Px tc_notTuple ?_;rw[if_neg (by decide)];refine Ms (Mu ?_);refine Ms ?_;rw[Pq];refine Ms (Ms (Ms (k A _ _ s f ?_)));rw[if_pos rfl];refine j A _ _ s f ?_;rw[if_neg (by decide)];obtain⟨w,g,d,t,os⟩:=s;repeat(first|(with_reducible refine Ng m ?_;rw[n])|(with_reducible refine h A _ _ _ f ?_)|wp_step)
   refine h A _ _ _ f ?_;cases b with
   |true=>exact Mu (Mu (Mu q))|false=>exact Mu (Mu (Mu q))
  .cases a
 .cases a
section
variable{X:Cx}{F:Fx}{pins:List (MD×NF)}{σ:St}{H:Hp}{s s':Mx}
theorem Inv.GY{a c:MD}{J:Option MD}{M:RL}{Q:Unit->Mx->Prop}{E:Mv->Mx->Prop}(I:Inv X pins σ H s)(i:X.stack=X.env::X.outer)(v:X.env.frame=Mt X.env.locals)(w:rp X pins σ s.heap H a c J)(q:∀s',Inv X pins σ H s'->rp X pins σ s'.heap H a c J->Q () s'):wpAny M X.A (Q9 (.ref a) X.env) (λ_ s'=>wpAny M X.A (SD (.ref a) MA) Q E s') E s:=by
 obtain⟨m,H0,l,G⟩:=w;have C:=I.ok.frames;have g:=I.stack;rw[i]at C g;have t:m.heap.objs.size<=s.heap.objs.size:=by
  obtain⟨_,K,V,U,O,_⟩:=G;exact Nw K (Ss (MH O))
 refine tw C g v t (λb f=>I.ay.fresh f) G λD ch L=>?_;have r:∀b,b∈fA (X.env::X.outer)->H b=MA:=λb f=>I.ji b (by rw[i];exact f);have j:∀b,H b≠MA->b∉ch:=λb n z=>n (L.un b z);have h:∀{b:MD},b<m.heap.objs.size->b∉ch:=λf z=>absurd f (Nat.not_lt.mpr (L.ge _ z));have S:Inv X pins σ H {s with heap:=D}:=by
  refine I.sC (s':={s with heap:=D}) (ch:=ch) rfl ?_ (λb o e=>?_) I.bare λb f=>⟨.inr (Nw l.sz (L.ge b f)),λz=>?_,λx R e z=>?_,λp N z=>?_⟩
  .rw[i];exact⟨λb o e n f B=>L.keep b o e B f,λb o e n f B=>L.slot b o e f,λ_ _ _ n _=>n,λb o e _=>L.there b o e,λ_ _ z=>z,λ_ _ _ z=>z,λb ps z=>⟨#[],by rw[z];simp⟩⟩
  .refine(I.ay b o e).fw (λd u hd z=>L.keep d u z (j d ?_) λy=>?_) (λ_ z=>z) λ_ _ z=>z
   .rcases hd with y|y;.rw[y,e];exact(λz=>nomatch z)
    .rw[y];exact(λz=>nomatch z)
   .have n:=r d y;rcases hd with y|y;.rw[y,e]at n;cases n
    .rw[y]at n;cases n
  .exact h (z▸l.lt) f
  .obtain⟨T,P⟩:=l.cell x R e;exact h (z▸P.lt) f
  .exact h (z▸MH (l.pin p N).1) f
 exact q _ S ⟨m,H0,l,L.Lw⟩
theorem Inv.hold{a c:MD}{g:Option MD}(I:Inv X pins σ H s)(d:rp X pins σ s.heap H a c g):∃ob,Inv X pins σ (upd H a (.bo ob (.ext λ_=>True))) s/\ob.cls=.ref c/\ob.dict=g/\(∃vs,ob.data=.fields vs)/\H a=MA:=by
 obtain⟨o,H0,b,un,ge,h,vs,f,k,hd,j,_⟩:=d;refine⟨h,I.fF (Nw b.sz ge) un (λz=>?_) (λx m e z=>?_) (λp i z=>?_) ⟨f,trivial,⟨_,f⟩,λ_ _ _ _=>trivial⟩,k,hd,⟨vs,j⟩,un⟩;.exact absurd (z▸b.lt) (Nat.not_lt.mpr ge)
 .obtain⟨n,l⟩:=b.cell x m e;exact absurd (z▸l.lt) (Nat.not_lt.mpr ge)
 .exact absurd (z▸MH (b.pin p i).1) (Nat.not_lt.mpr ge)
theorem Inv.landed{a c:MD}{J:Option MD}{M:RL}{A:Nc}{Q:Unit->Mx->Prop}{E:Mv->Mx->Prop}(I:Inv X pins σ H s)(w:rp X pins σ s.heap H a c J)(q:∀s',Inv X pins σ H s'->rp X pins σ s'.heap H a c J->Q () s'):wpAny M A (SD (.ref a) MA) Q E s:=by
 obtain⟨u,H0,i,un,ge,B,y,t,D,hd,r,v⟩:=w;rcases v with n|⟨T,U,K,n,m,f,l,G,h,N⟩
 .unfold SD;refine Ms (NJ t r n ?_);rw[if_neg (by decide)];exact Mu (q s I ⟨u,H0,i,un,ge,B,y,t,D,hd,r,.inl n⟩)
 .have j:3<K.size:=(Array.getElem?_eq_some_iff.mp N).1;refine wpAny_setFlight_none t r n G h j ?_;have d:∀b,b≠T->(s.heap.update T (ON (·.setIfInBounds 3 M5))).get? b=s.heap.get? b:=λb k=>MQ _ _ (NO k);have g:∀{b:MD},b<u.heap.objs.size->b≠T:=λk z=>absurd (z▸k) (Nat.not_lt.mpr f);have R:Inv X pins σ H {s with heap:=s.heap.update T (ON (·.setIfInBounds 3 M5))}:=I.turned (t':=s.toks) (it:=T) (λb o k e=>(d b k).trans e) l (NO (g i.lt)) (.inr (Nw i.sz f)) (λx P e=>by obtain⟨S,O⟩:=i.cell x P e;exact g O.lt) (λp L=>g (MH (i.pin p L).1));exact q _ R ⟨u,H0,i,un,ge,B,y,(d a (NO m)).trans t,D,hd,r,.inr ⟨T,_,_,n,m,f,l,M6 _ G (Oo (NL h _)),NL h _,by simp[Array.getElem?_setIfInBounds,j]⟩⟩
theorem Inv.AE{i:Nat}{n:M3}{h:Od}{M:RL}{A:Nc}{Q:Unit->Mx->Prop}{E:Mv->Mx->Prop}(I:Inv X pins σ H s)(hN:X.N.Nodup)(W:X.N[i]?=Mt n)(S:X.env.scope.names.lookup n=Mt .local)(q:∀s',Inv X pins (σ.set i MA) H s'->Q () s'):wpAny M A (do bindName X.env n .none;U1 X.env n h) Q E s:=by
 obtain⟨m,U,V⟩:=id I.loc;have l:(X.env.scope.kind==.class||(X.env.scope.kind==.module&&X.env.locals !=X.env.globals))=My:=by rw[I.ok.kind];rfl
 refine wpAny_nameGoes_keeps S U l λZ v J f=>q _ ?_;have vN:=I.vN;have L:=I.free;have d:∀b o,X.bA.heap.get? b=Mt o->b≠X.env.locals:=λb o e=>M4 (M7 (MH e) I.ok.above);refine⟨I.ok,I.os,I.bare,⟨λb o e g K a=>(f.2 b (d b o e)).trans (I.base.keep b o e g K a),λb o e g K a=>?_,I.base.free,λb o e a=>?_,I.base.fx,I.base.eB,I.base.fy⟩,⟨_,J,λj y w e1 e2 e3=>?_⟩,λx c e=>?_,I.free,I.bS,λp T=>?_,λb ob e=>?_,?_⟩
 .obtain⟨O,e1⟩:=I.base.slot b o e g K a;exact⟨O,(f.2 b (d b o e)).trans e1⟩
 .obtain⟨P,e1⟩:=I.base.there b o e a;exact⟨P,(f.2 b (d b o e)).trans e1⟩
 .have k:i≠j:=by
   rintro rfl;rw[Ou]at e2;rw[if_pos rfl]at e2;split at e2<;>cases e2
  rw[Ou,if_neg k]at e2;have D:y≠n:=λz=>k (jE hN W (z▸e1));obtain⟨u,r,lk⟩:=V j y w e1 e2 e3;refine⟨u,r,?_⟩;rcases lk with⟨C,t⟩|⟨C,c,t,R⟩;.exact .inl ⟨C,(if_neg D).trans t⟩
  .obtain⟨o,G,hd⟩:=R;exact .inr ⟨C,c,t,o,(f.2 c (vN y c t)).trans G,hd⟩
 .obtain⟨w,o,G,hd⟩:=I.cell x c e;exact⟨w,o,(f.2 c (vN x c e)).trans G,hd⟩
 .obtain⟨e,g,ne,r⟩:=I.pin p T;exact⟨(f.2 p.1 ne).trans e,g,ne,r⟩
 .refine(I.ay b ob e).fw (λc Y B z=>(f.2 c ?_).trans z) (λ_ z=>z) λ_ _ z=>z;rintro rfl;rcases B with rfl|B;.rw[L]at e;cases e
  .rw[L]at B;cases B
 .rw[Uw];exact I.len
end
inductive Hd where|slot(j:Nat)|cst(d:D)
noncomputable def Jm(h:Hd)(a:ag):Option D:=match h with
 |.slot j=>lh a j|.cst d=>Mt d
noncomputable def tz(i:Option Nat)(x:D)(a:ag):ag:=match i with
 |some i=>a.set i (Mt (.d x))|none=>a
noncomputable def Lx(i:Option Nat)(a:ag):ag:=match i with
 |some i=>a.set i MA|none=>a
noncomputable def o_(K:ME)(P:MD)(i:Option Nat)(y:Nat)(h:Hd)(x:Xc):M Fl:=match x.x with
 |.exc c nm=>do
  M.need (fZ K c P=Mt Mz)let d<-M.get (Jm h (tz i (.exc c nm) x.en))pure (.nx (Lx i ((tz i (.exc c nm) x.en).set y (Mt (.d d)))))|_=>M.fail
noncomputable def AF(m:M Fl)(h:Xc->M Fl):M Fl:=⟨λk Q E=>m.run k Q (λx a=>(h x).run a Q E),λz q e=>m.mono z q λx a y=>(h x).mono y q e⟩
section
variable{X:Cx}{F:Fx}{pins:List (MD×NF)}{σ:St}{H:Hp}{s s':Mx}
noncomputable abbrev Cx.as(X:Cx)(A:Nc)(calm:Bool)(pn:List (MD×NF))(xe:Mv->Mx->Prop):Cx:={X with A:=A,calm:=calm,pn:=pn,xe:=xe}
theorem Cx.Ok.as(h:X.Ok){A:Nc}{calm:Bool}{pn:List (MD×NF)}{xe:Mv->Mx->Prop}(a:A.frames=X.A.frames)(hd:calm=Mz->A.handled=MA):(X.as A calm pn xe).Ok:=⟨h.mod,h.kind,h.glob,h.blt,h.above,h.inj,h.has,h.CA,hd,a.trans h.frames,h.Fu,h.I_,h.bs,h.vM,h.qu,h.ua,h.gi,h.zu⟩
theorem Inv.as{A:Nc}{calm:Bool}{pn pins':List (MD×NF)}{xe:Mv->Mx->Prop}(I:Inv X pins σ H s)(b:A.frames=X.A.frames)(hd:calm=Mz->A.handled=MA)(a:∀p∈pn++pins',p∈X.pn++pins):Inv (X.as A calm pn xe) pins' σ H s:=⟨I.ok.as b hd,I.os,I.bare,I.base,I.loc,I.cell,I.free,I.bS,λp h=>I.pin p (a p h),I.ay,I.len⟩
theorem Inv.xC{A:Nc}{calm:Bool}{pn pins':List (MD×NF)}{xe:Mv->Mx->Prop}(ok:X.Ok)(I:Inv (X.as A calm pn xe) pins' σ H s)(a:∀p∈X.pn++pins,p∈pn++pins'):Inv X pins σ H s:=⟨ok,I.os,I.bare,I.base,I.loc,I.cell,I.free,I.bS,λp h=>I.pin p (a p h),I.ay,I.len⟩
theorem bp.unset{b:ag}{k:Nat}(S:bp F b k σ H)(i:Nat):bp F (b.set i MA) k (σ.set i MA) H where
 len:=by simp[S.len]
 at_:=λj x e=>by
  rw[Ou]at e⊢;by_cases f:i=j
  .subst f;rw[if_pos rfl]at e;split at e<;>cases e
  .rw[if_neg f]at e⊢;exact S.at_ j x e
 apart:=λd c x y u a e1 e2 h g s1=>by
  rw[Ou]at e1 e2 s1⊢;have n1:i≠d:=by
   rintro rfl;rw[if_pos rfl]at e1;split at e1<;>cases e1
  have n2:i≠c:=by
   rintro rfl;rw[if_pos rfl]at e2;split at e2<;>cases e2
  rw[if_neg n1]at e1 s1;rw[if_neg n2]at e2⊢;exact S.apart d c x y u a e1 e2 h g s1
 live:=S.live;ext:=S.ext;jn:=S.jn
theorem Ea{B:Fb}{a c:MD}{h:Option MD}{nm:List D}{ob:NF}{u:HO}(b:a≠B.p)(e:H a=Mt (.bo ob u))(g:ob.cls=.ref c)(hd:ob.dict=h)(f:∃vs,ob.data=.fields vs)(i:o7 B H h nm):Is B H (.ref a) (.exc c nm):=by
 simp only[Is];match nm,i with
 |[],_=>exact⟨a,[],rfl,⟨b,ob,u,e,g,f⟩,.nil⟩|[d],⟨x,j,v,n,m,l,k⟩=>exact⟨a,[v],rfl,⟨b,ob,u,x,j,e,g,f,hd.trans n,m,l⟩,.cons k .nil⟩
end
section
variable{X:Cx}{F:Fx}{body:List OM}{tb:ag->M Fl}
theorem xD{cn n J:M3}{P:MD}{np C pos yp ap:Od}{i y:Nat}{hd:Hd}{ex:MV}(a8:X.stack=X.env::X.outer)(b1:X.env.frame=Mt X.env.locals)(hK:X.K=F.K)(hN:X.N.Nodup)(hc:X.calm=Mz)(hb:∀(xe:Mv->Mx->Prop)(pn:List (MD×NF))(E':Xc->Nat->Prop)(Hs:Hp)(ks:Nat),Sz (MO X.prog X.w) X.A X.env xe->uL (X.as X.A Mz pn xe) {F with E:=E',Hs:=Hs,ks:=ks}->uA (X.as X.A Mz pn xe) {F with E:=E',Hs:=Hs,ks:=ks} body tb)(hg:Gl X cn)(hm:X.mg cn=Mt (.ref P))(b5:(cn==("__debug__":M3))=My)(hi:X.N[i]?=Mt n)(V:X.env.scope.names.lookup n=Mt .local)(hy:X.N[y]?=Mt J)(a9:Loc X.env.scope J)(b0:X.fn J=Mz\/X.env.scope.names.lookup J=Mt .local)(a7:O4 ex (Mt (.Name J yp)) ap.line X.env=pure My)(hex:∀(A:Nc)(pn:List (MD×NF))(xe:Mv->Mx->Prop),DE (X.as A My pn xe) F ex (λρ=>M.get (Jm hd ρ)))(he:X.env.kindOf n=Mt .local):DS X F (.Try body [.ExceptHandler (Mt (.Name cn np)) (Mt n) [.Assign [.Name J yp] ex ap] C] [] [] pos) (λρ=>AF (tb ρ) (o_ X.K P (Mt i) y hd)):=by
 refine⟨hK,λg s σ H Z I⟨ρ,k,S,h⟩=>?_⟩;refine wpAny_Try_except ?_;have hA:X.A.handled=MA:=I.ok.hd hc;let L:Mv->Mx->Prop:=λe a3=>wpAny (MO X.prog X.w) X.A (Q9 e X.env) (λ_ a2=>wpAny (MO X.prog X.w) X.A (SD e MA) (λ_ a1=>wpAny (MO X.prog X.w) X.A (handleBy e X.env [.ExceptHandler (Mt (.Name cn np)) (Mt n) [.Assign [.Name J yp] ex ap] C]) (SP X g Z) X.xe a1) X.xe a2) X.xe a3;have c3:uL (X.as X.A Mz (X.pn++g) L) {F with E:=λx u=>(o_ X.K P (Mt i) y hd x).run u (uz F Z H k) F.E,Hs:=H,ks:=k}:=by
  intro pins' t R Q u T a c dx nm I' D c4 xn z;have l:∀{t:St}{Q:Hp}{T:Mx},Inv (X.as X.A Mz (X.pn++g) L) pins' t Q T->Inv X g t Q T:=λI'=>I'.xC I.ok λp O=>Ox _ O;obtain⟨s0,H0,I0,fl⟩:=c4;have S2:bp F R u t Q:=⟨D.len,D.at_,D.apart,D.live,D.ext,S.jn.trans D.jn⟩;show wpAny (MO X.prog X.w) X.A (Q9 (.ref a) X.env) _ X.xe T;refine(l I').GY a8 b1 ⟨s0,H0,l I0,fl⟩ λs3 I3 f3=>?_;obtain⟨a5,z⟩:=z;obtain⟨d,c0,z⟩:=M.run_get.mp z;have z:uz F Z H k (.nx (((R.set i (Mt (.d (.exc c nm)))).set y (Mt (.d d))).set i MA)) u:=z;refine wpAny_handleBy_cons (codeAny_handlers_test ?_) (by intro q;cases q);have a4:(X.A.mark (Mt (.ref a))).frames=X.A.frames:=rfl;have I4:=I3.as (A:=X.A.mark (Mt (.ref a))) (calm:=My) (pn:=X.pn) (pins':=g) (xe:=λ_ _=>False) a4 (λq=>nomatch q) (λp O=>O);refine fg (X:=X.as (X.A.mark (Mt (.ref a))) My X.pn (λ_ _=>False)) I4 hg hm ?_ b5;obtain⟨f2,f8,f7,f0,f6,oe,vs,b2,c1,d4,f4,d2⟩:=id f3;refine o9 I3.fB b2 c1 a5 ?_;rw[if_pos rfl];refine codeAny_handlers_suite_as ?_;refine I3.landed f3 λs5 I5 f5=>?_;obtain⟨ob,I6,o1,o2,o3,un⟩:=I5.hold f5;have ne:a≠F.p:=λe=>S2.live (e▸un);have ix:Is F.toFb (upd Q a (.bo ob (.ext λ_=>True))) (.ref a) (.exc c nm):=Ea ne ah o1 o2 o3 (xn.mono (Ext.new (k:=u) un).kp);have S6:=S2.mono (Ext.new (F:=F.toFb) (k:=u) (o:=.bo ob (.ext λ_=>True)) un);have I7:=I6.as (A:=X.A.mark (Mt (.ref a))) (calm:=My) (pn:=X.pn) (pins':=g) (xe:=λ_ _=>False) a4 (λq=>nomatch q) (λp O=>O);refine gj (X:=X.as (X.A.mark (Mt (.ref a))) My X.pn (λ_ _=>False)) I7 hN hi (.inl V) (v:=.ref a) rfl (λs8 I8=>?_) (.inr V);have S8:=S6.set i ix;have c5:DS (X.as (X.A.mark (Mt (.ref a))) My X.pn (λ_ _=>False)) F (.Assign [.Name J yp] ex ap) _:=wM (X:=X.as (X.A.mark (Mt (.ref a))) My X.pn (λ_ _=>False)) y hN (hex _ _ _) hy a9 a7 b0;have run:=c5.ps g s8 _ _ ⟨λG Y=>∃k9,Kp F.toFb Q u Y k9/\bp F ((R.set i (Mt (.d (.exc c nm)))).set y (Mt (.d d))) k9 G Y/\k9=u,λ_ _=>False,λ_ _=>False,λ_ _=>False⟩ I8 ⟨_,u,S8,by
   refine M.run_get.mpr ⟨d,c0,?_⟩;exactλG Y e9 S9=>⟨u,((Ext.new (F:=F.toFb) (k:=u) (o:=.bo ob (.ext λ_=>True)) un).kp).trans e9,S9,rfl⟩⟩;have go:wpAny (MO X.prog X.w) (X.A.mark (Mt (.ref a))) (execs [.Assign [.Name J yp] ex ap] X.env) (λf s9=>wpAny (MO X.prog X.w) X.A (do bindName X.env n .none;U1 X.env n C) (λ_ a6=>SP X g Z f a6) X.xe s9) (λ_ _=>False) s8:=by
   refine Ms (N3 run (λf s9 q9=>?_) λ_ _ q=>q);cases f with
   |next=>
    obtain⟨G,Y,I9,k9,e9,S9,rfl⟩:=q9;refine Mu ?_;have d1:Inv X g G Y s9:=I9.xC I.ok λp O=>O;refine d1.AE hN hi V λf1 d0=>⟨_,Y,d0,?_⟩;refine z _ Y ?_ (S9.unset i);exact⟨λb o hb st e=>e9.keep b o hb st (D.jn.keep b o hb st e),λq=>e9.live (D.jn.live q),Nw D.jn.le e9.le,λq f=>e9.cY q (D.jn.cY q f)⟩|ret v=>obtain⟨_,_,_,_,_,q⟩:=q9;exact q.elim|brk=>obtain⟨_,_,_,q⟩:=q9;exact q.elim|cont=>obtain⟨_,_,_,q⟩:=q9;exact q.elim
  exact N3 go (λ_ _ q=>q) λ_ _ q=>q.elim
 have S0:bp {F with E:=λx u=>(o_ X.K P (Mt i) y hd x).run u (uz F Z H k) F.E,Hs:=H,ks:=k} ρ k σ H:=⟨S.len,S.at_,S.apart,S.live,S.ext,.refl⟩;have pb:=(hb L (X.pn++g) _ H k PassesOwn.looking c3).ps [] s σ H Z (I.as rfl (λ_=>hA) (by simp)) ⟨ρ,k,S0,M.wk h λfl u q=>by cases fl with
  |nx a0=>exactλj B e1 m=>q j B e1 ⟨m.len,m.at_,m.apart,m.live,m.ext,S.jn.trans m.jn⟩|rt d=>exact q|bk a0=>exactλj B e1 m=>q j B e1 ⟨m.len,m.at_,m.apart,m.live,m.ext,S.jn.trans m.jn⟩|ct a0=>exactλj B e1 m=>q j B e1 ⟨m.len,m.at_,m.apart,m.live,m.ext,S.jn.trans m.jn⟩⟩;refine N3 pb (λf s1 q=>?_) λ_ _ q=>q;have l:∀{t:St}{Q:Hp}{T:Mx},Inv (X.as X.A Mz (X.pn++g) L) [] t Q T->Inv X g t Q T:=λI'=>I'.xC I.ok λp O=>Ox _ O;cases f with
 |next=>
  obtain⟨j,B,W,U⟩:=q;exact Mu ⟨j,B,l W,U⟩|ret v=>
  obtain⟨w,j,B,W,r,U⟩:=q;exact⟨w,j,B,l W,r,U⟩|brk=>
  obtain⟨j,B,W,U⟩:=q;exact⟨j,B,l W,U⟩|cont=>
  obtain⟨j,B,W,U⟩:=q;exact⟨j,B,l W,U⟩
end
noncomputable def rq:D->Bool
 |.int _=>Mz|_=>My
noncomputable def BY:D->Bool
 |.int _=>Mz|.str _=>Mz|_=>My
noncomputable def f_:D->Bool
 |.tup a=>a.all BY|_=>My
noncomputable def iN:D->D->Bool
 |.int i,.int j=>decide (i=j)|.str x,.str y=>decide (x=y)|_,_=>My
noncomputable def dZ:List D->List D->Bool
 |[],[]=>Mz|x::b,y::a=>iN x y&&dZ b a|_,_=>My
noncomputable def be:D->D->Bool
 |.tup b,.tup a=>dZ b a|x,y=>iN x y
noncomputable def rz(x:D):Prop:=∃k:Key,x=kD k
theorem jt{x:D}(h:BY x=Mz):∃k:Key,x=kD k:=by cases x<;>first|exact⟨.inl _,rfl⟩|exact⟨.inr _,rfl⟩|cases h
theorem l_:∀{xs:List D},xs.all BY=Mz->∃ks:List Key,xs=ks.map kD
 |[],_=>⟨[],rfl⟩|x::xs,h=>by
  rw[Qy,ML]at h;obtain⟨k,rfl⟩:=jt h.1;obtain⟨ks,rfl⟩:=l_ h.2;exact⟨k::ks,rfl⟩
theorem eT{x:D}(h:f_ x=Mz):c7 x:=by cases x<;>first|(obtain⟨ks,rfl⟩:=l_ h;exact⟨ks,rfl⟩)|cases h
theorem dD{l:List D}(h:l.all f_=Mz):∀x∈l,c7 x:=λx a=>eT (List.all_eq_true.mp h x a)
theorem tD{l:List D}(h:l.all BY=Mz):∀x∈l,rz x:=λx a=>jt (List.all_eq_true.mp h x a)
theorem gJ(a b:Key):iN (kD a) (kD b)=Mz↔a=b:=by cases a<;>cases b<;>simp[kD,iN]
theorem h_:∀(a b:List Key),dZ (a.map kD) (b.map kD)=Mz↔a=b
 |[],[]=>by simp[dZ]|[],_::_=>by simp[dZ]|_::_,[]=>by simp[dZ]|x::a,y::b=>by simp[dZ,gJ,h_ a b]
theorem kg(a b:Key):be (kD a) (kD b)=decide (a=b):=by
 have:be (kD a) (kD b)=iN (kD a) (kD b):=by cases a<;>cases b<;>rfl
 rw[this,Bool.eq_iff_iff,gJ,decide_eq_true_iff]
theorem dE(a b:List Key):be (.tup (a.map kD)) (.tup (b.map kD))=decide (a=b):=by
 show dZ _ _=_;rw[Bool.eq_iff_iff,h_,decide_eq_true_iff]
noncomputable def iO:List D->List D->D->Option D
 |k::ks,v::a,d=>if be k d then Mt v else iO ks a d|_,_,_=>MA
noncomputable def ib(ks:List D)(d:D):Bool:=ks.any λk=>be k d
section
variable{P:MX}{w:M_}{o:NF}{us:List (Key×Mv)}{xs:List (List Key×MD×Mv)}{hp:Na}{a:MD}
theorem hU.at(h:hU P w o us)(e:hp.get? a=Mt o):hp.DictOf (ao P w) a us:=let⟨i,j,g,f,d,c,b⟩:=h;⟨o,i,j,e,g,f,d,c,b⟩
theorem hU.of(h:hp.DictOf (ao P w) a us):∃o,hp.get? a=Mt o/\hU P w o us:=let⟨o,i,j,e,g,f,d,c,b⟩:=h;⟨o,e,i,j,g,f,d,c,b⟩
theorem hV.at(h:hV P w o xs)(e:hp.get? a=Mt o)(k:∀x∈xs,(RY (ao P w)).is hp x.1 x.2.1):hp.DictOfH (RY (ao P w)) a xs:=let⟨g,i,f,d,c,b⟩:=h;⟨o,g,i,e,f,d,c,k,b⟩
theorem hV.of(h:hp.DictOfH (RY (ao P w)) a xs):∃o,hp.get? a=Mt o/\hV P w o xs:=let⟨o,g,i,e,f,d,c,_,b⟩:=h;⟨o,e,g,i,f,d,c,b⟩
theorem GZ(h:hU P w o []):hV P w o []:=by
 obtain⟨c,f,e,d,i,b,g⟩:=h;refine⟨c,f,e,d,?_,.nil⟩;generalize c.toList=l at b;cases b;rfl
theorem G0(h:hV P w o []):hU P w o []:=by
 obtain⟨c,i,g,f,d,j⟩:=h;have e:c.toList=[]:=d;refine⟨c,i,g,f,λk b=>?_,by rw[e];exact .nil,.nil⟩;rw[<-UQ,e]at b;exact nomatch b
theorem hU.eE(h:hU P w o us):∀v,o.data≠.cell v:=λv z=>by obtain⟨d,e,c,b,_⟩:=h;rw[b]at z;cases z
theorem hV.eE(h:hV P w o xs):∀v,o.data≠.cell v:=λv z=>by obtain⟨d,e,c,b,_⟩:=h;rw[b]at z;cases z
end
section
variable{B:Fb}{H:Hp}{o:NF}{ks:List D}{vs:List V}
theorem bM.G2(h:bM B H o ks vs)(b:∀x∈ks,rz x):∃(a:List (Key×V))(us:List (Key×Mv)),KV a us/\hU B.P B.w o us/\ks=a.map (λx=>kD x.1)/\vs=a.map (·.2):=by
 rcases h.2 with h|⟨a,f,d,c,g,rfl,rfl⟩;.exact h
 .cases a with
  |nil=>cases d;exact⟨[],[],.nil,G0 c,rfl,rfl⟩|cons x r=>
   obtain⟨k,e⟩:=b _ MG;cases k<;>cases e
theorem bM.BZ(h:bM B H o ks vs)(d:∀x∈ks,c7 x):∃(a:List (List Key×MD×V))(xs:List (List Key×MD×Mv)),KA a xs/\hV B.P B.w o xs/\(∀x∈a,TupAt B H x.2.1 (x.1.map kV))/\ks=a.map (λx=>D.tup (x.1.map kD))/\vs=a.map (·.2.2):=by
 rcases h.2 with⟨a,j,g,f,rfl,rfl⟩|h;.cases a with
  |nil=>cases g;exact⟨[],[],.nil,GZ f,λx c=>(nomatch c),rfl,rfl⟩|cons x r=>
   obtain⟨k,e⟩:=d _ MG;obtain⟨b,i⟩:=x;cases b<;>cases e
 .exact h
theorem ma{a:Type}[DecidableEq a]{k0 k:a}{v:V}{r:List (a×V)}:ja ((k0,v)::r) k=if k0=k then Mt v else ja r k:=by
 unfold ja;rw[Qo];by_cases h:k0=k;.simp[h]
 .simp[h]
theorem B0{k:Key}{e:D}:∀{a:List (Key×V)}{ds:List D},af B H (a.map (·.2)) ds->iO (a.map λx=>kD x.1) ds (kD k)=Mt e->∃v,ja a k=Mt v/\Is B H v e
 |[],ds,_,q=>by cases ds<;>cases q|(k0,c)::r,[],h,_=>by simp[af]at h|(k0,c)::r,d::ds,h,q=>by
  simp only[M9,af]at h;obtain⟨x,i,e1,g,f⟩:=h;cases e1;simp only[M9,iO,kg]at q;rw[ma];by_cases b:k0=k
  .simp only[b,decide_true,if_true]at q⊢;cases q;exact⟨_,rfl,g⟩
  .simp only[b,decide_false,if_false]at q⊢;exact B0 f q
theorem xE{k:Key}:∀(a:List (Key×V)),ib (a.map λx=>kD x.1) (kD k)=(ja a k).isSome
 |[]=>rfl|(k0,d)::r=>by
  have b:=xE (k:=k) r;unfold ib at b⊢;rw[M9,Rl,b,ma,kg];by_cases c:k0=k<;>simp[c]
theorem kh{k0 k:List Key}{p:MD×Mv}{r:List (List Key×MD×Mv)}:WJ ((k0,p)::r) k=if k0=k then Mt p else WJ r k:=by
 unfold WJ;rw[Qo];by_cases h:k0=k;.simp[h]
 .simp[h]
theorem B1{k:List Key}{e:D}:∀{a:List (List Key×MD×V)}{xs:List (List Key×MD×Mv)}{ds:List D},KA a xs->af B H (a.map (·.2.2)) ds->iO (a.map λx=>D.tup (x.1.map kD)) ds (.tup (k.map kD))=Mt e->∃p v,WJ xs k=Mt p/\RelV v p.2/\Is B H v e
 |[],_,ds,_,_,q=>by cases ds<;>cases q|_::_,_,[],_,h,_=>by simp[af]at h|(k0,w,m)::r,(s,u,n)::xs,d::ds,.cons z t,h,q=>by
  obtain⟨c,g,b⟩:=z;simp only at c g b;subst c;simp only[M9,af]at h;obtain⟨x,l,e1,j,i⟩:=h;cases e1;simp only[M9,iO,dE]at q;rw[kh];by_cases f:k0=k
  .simp only[f,decide_true,if_true]at q⊢;cases q;exact⟨_,_,rfl,b,j⟩
  .simp only[f,decide_false,if_false]at q⊢;exact B1 t i q
theorem AG{k:List Key}:∀{a:List (List Key×MD×V)}{xs:List (List Key×MD×Mv)},KA a xs->ib (a.map λx=>D.tup (x.1.map kD)) (.tup (k.map kD))=(WJ xs k).isSome
 |[],_,.nil=>rfl|(k0,l,g)::r,(i,j,h)::xs,.cons z t=>by
  obtain⟨b,f,e⟩:=z;simp only at b;subst b;have c:=AG (k:=k) t;unfold ib at c⊢;rw[M9,Rl,c,kh,dE];by_cases d:k0=k<;>simp[d]
end
section
variable{X:Cx}{F:Fx}{pins:List (MD×NF)}{σ:St}{H:Hp}{s:Mx}{a:MD}{o:NF}{ks ds:List D}{vs:List V}{d e:D}{x:V}{v:Mv}{A:Nc}{E:Mv->Mx->Prop}
theorem uw.get(I:Inv X pins σ H s)(hK:X.K=F.K)(h:uw F.toFb H a o):s.heap.get? a=Mt o:=by
 obtain⟨_,_,⟨u,h⟩|h⟩:=h;.exact(I.ay a _ h).1
 .exact I.fB _ _ (by rw[hK];exact h)
theorem ft(I:Inv X pins σ H s)(hK:X.K=F.K):∀{b:List (List Key×MD×V)}{xs:List (List Key×MD×Mv)},KA b xs->(∀x∈b,TupAt F.toFb H x.2.1 (x.1.map kV))->∀x∈xs,(RY (ao X.prog X.w)).is s.heap x.1 x.2.1
 |_,_,.nil,_,x,c=>nomatch c|(k0,p,k)::r,(m,n,l)::xs,.cons z t,h,x,c=>by
  obtain⟨g,f,j⟩:=z;simp only at g f;subst g f;rcases List.mem_cons.mp c with rfl|c;.exact bG I (by rw[hK];exact(h _ MG).2)
  .exact ft I hK t (λy i=>h y (MM _ i)) x c
noncomputable def kinds(ks:List D)(d:D):Prop:=(∀x∈ks,rz x)/\rz d\/(∀x∈ks,c7 x)/\c7 d
theorem xF(h:bM F.toFb H o ks vs)(c:s.heap.get? a=Mt o):s.TypeIs (.ref a) "dict":=by
 rcases h.2 with⟨_,_,_,⟨f,g,b,_⟩,_⟩|⟨_,_,_,⟨f,g,b,_⟩,_⟩;.exact⟨o,c,b.1⟩
 .exact⟨o,c,b.1⟩
theorem AH{Q:Mv->Mx->Prop}(hu:A.units+1<NV)(I:Inv X pins σ H s)(hK:X.K=F.K)(hP:X.prog=F.P)(hw:X.w=F.w)(h:bM F.toFb H o ks vs)(z:s.heap.get? a=Mt o)(t:af F.toFb H vs ds)(i:Is F.toFb H x d)(r:RelV x v)(c:kinds ks d)(B:iO ks ds d=Mt e)(q:∀y u s',Inv X pins σ H s'->RelV y u->Is F.toFb H y e->Q u s'):wpAny (MO X.prog X.w) A (Uc (.ref a) v) Q E s:=by
 rcases c with⟨c,k,rfl⟩|⟨c,k,rfl⟩
 .obtain⟨g,C,M,ob,rfl,rfl⟩:=h.G2 c;rw[<-hP,<-hw]at ob;obtain⟨y,m,l⟩:=B0 t B;have:=fW i;subst this;obtain⟨G,j,f⟩:=jD.some_of (v:=y) (o:=U6 C k) (by rw[<-m];exact M.val k);exact wpAny_getItem_of (iG r) (ob.at z).mapOf j (q y G _ (I.tok _) f l)
 .obtain⟨g,R,n,ob,J,rfl,rfl⟩:=h.BZ c;rw[<-hP,<-hw]at ob;obtain⟨p,y,m,l,O⟩:=B1 n t B;simp only[Is]at i;obtain⟨b,S,rfl,L,N⟩:=i;have:=bJ N;subst this;cases(show v=MW b from r);exact wpAny_getItem_heap (RD hu) (bG I (by rw[hK];exact L.2)) (ob.at z (ft I hK n J)) m (q y _ _ (I.tok _) l O)
theorem Eb{Q:Mv->Mx->Prop}(hu:A.units+1<NV)(I:Inv X pins σ H s)(hK:X.K=F.K)(hP:X.prog=F.P)(hw:X.w=F.w)(h:bM F.toFb H o ks vs)(l:s.heap.get? a=Mt o)(c:(a==Pn)=My)(i:Is F.toFb H x d)(r:RelV x v)(f:kinds ks d)(q:∀s',Inv X pins σ H s'->Q (.bool (ib ks d)) s'):wpAny (MO X.prog X.w) A (NI .In v (.ref a)) Q E s:=by
 rcases f with⟨f,k,rfl⟩|⟨f,k,rfl⟩
 .obtain⟨g,z,p,ob,rfl,rfl⟩:=h.G2 f;rw[<-hP,<-hw]at ob;have:=fW i;subst this;refine wpAny_in_of (iG r) c (ob.at l).mapOf ?_;rw[<-(p.val k).lR,<-xE];exact q _ (I.tok _)
 .obtain⟨g,u,j,ob,m,rfl,rfl⟩:=h.BZ f;rw[<-hP,<-hw]at ob;simp only[Is]at i;obtain⟨b,y,rfl,n,t⟩:=i;have:=bJ t;subst this;cases(show v=MW b from r);refine wpAny_in_heap (RD hu) (bG I (by rw[hK];exact n.2)) c (ob.at l (ft I hK j m)) ?_;rw[<-AG j];exact q _ (I.tok _)
theorem uN{Q:Mv->Mx->Prop}(hu:A.units+1<NV)(I:Inv X pins σ H s)(hK:X.K=F.K)(hP:X.prog=F.P)(hw:X.w=F.w)(h:bM F.toFb H o ks vs)(l:s.heap.get? a=Mt o)(c:(a==Pn)=My)(i:Is F.toFb H x d)(r:RelV x v)(f:kinds ks d)(q:∀s',Inv X pins σ H s'->Q (.bool (!ib ks d)) s'):wpAny (MO X.prog X.w) A (NI .NotIn v (.ref a)) Q E s:=by
 rcases f with⟨f,k,rfl⟩|⟨f,k,rfl⟩
 .obtain⟨g,z,p,ob,rfl,rfl⟩:=h.G2 f;rw[<-hP,<-hw]at ob;have:=fW i;subst this;refine wpAny_notIn_of (iG r) c (ob.at l).mapOf ?_;rw[<-(p.val k).lR,<-xE];exact q _ (I.tok _)
 .obtain⟨g,u,j,ob,m,rfl,rfl⟩:=h.BZ f;rw[<-hP,<-hw]at ob;simp only[Is]at i;obtain⟨b,y,rfl,n,t⟩:=i;have:=bJ t;subst this;cases(show v=MW b from r);refine wpAny_notIn_heap (RD hu) (bG I (by rw[hK];exact n.2)) c (ob.at l (ft I hK j m)) ?_;rw[<-AG j];exact q _ (I.tok _)
end
theorem Kp.own{B:Fb}{H:Hp}{k:Nat}{a:MD}{u o':HO}(j:a≠B.p)(hu:H a=Mt u)(ns:u.lY=My):Kp B H k (upd H a o') k where
 keep:=λb o x st e=>by
  by_cases c:b=a;.subst c;rw[hu]at e;cases e;rw[ns]at st;cases st
  .rw[ai c];exact e
 live:=λh=>by rw[ai (NO j)];exact h
 le:=MN _;cY:=λq d=>by
  obtain⟨f,i,r,⟨w,⟨o,g⟩,v,t,s,n⟩,m⟩:=d;have l:q≠a:=λz=>by rw[z,hu]at g;cases g;cases ns
  exact⟨f,i,r,⟨by rw[ai (NO j)];exact w,⟨o,by rw[ai l];exact g⟩,v,t,s,n⟩,m⟩
section
variable{X:Cx}{F:Fx}{pins:List (MD×NF)}{σ:St}{H:Hp}{s:Mx}{ρ:ag}{k:Nat}
theorem bp.d3{i:Nat}{d:D}{a:MD}{u o':HO}{w':W}(S:bp F ρ k σ H)(n:ρ[i]?=Mt (Mt (.own d)))(C:σ[i]?=Mt (Mt (.ref a)))(K:a≠F.p)(M:F.H0 a=MA)(hu:H a=Mt u)(ns:u.lY=My)(hw:Fy F (upd H a o') k (.ref a) w'):bp F (ρ.set i (Mt w')) k σ (upd H a o'):=by
 have kp:Kp F.toFb H k (upd H a o') k:=Kp.own K hu ns;have J:i<ρ.length:=(List.getElem?_eq_some_iff.mp n).1;refine⟨by simp[S.len],λj x e=>?_,λt r x y v c e1 e2 B A s1=>?_,kp.live S.live,⟨λb o L e=>?_,λh=>kp.live (S.ext.live h),S.ext.le,λq f=>kp.cY q (S.ext.cY q f)⟩,S.jn.trans kp⟩
 .rw[Ou]at e;by_cases w:i=j
  .subst w;rw[if_pos rfl,if_pos J]at e;cases e;exact⟨_,C,hw⟩
  .rw[if_neg w]at e;obtain⟨v,m,l⟩:=S.at_ j x e;refine⟨v,m,?_⟩;cases x with
   |d x=>exact Is.mono kp l|feed=>exact⟨l.1,kp.feed l.2⟩|own N=>
    obtain⟨b,rfl,I,G,E⟩:=l;have g:b≠a:=λz=>by
     subst z;exact S.apart i j _ _ _ w n e rfl rfl C m
    exact⟨b,rfl,I,G,E.keep kp λo e=>by rw[ai g];exact e⟩
 .rw[Ou]at e1 e2;by_cases m:i=t
  .subst m;rw[if_neg c]at e2;exact S.apart i r _ _ v c n e2 rfl A s1
  .rw[if_neg m]at e1;by_cases l:i=r
   .subst l;exact S.apart t i _ _ v c e1 n B rfl s1
   .rw[if_neg l]at e2;exact S.apart t r _ _ v c e1 e2 B A s1
 .have g:b≠a:=λz=>by rw[z,M]at e;cases e
  rw[ai g];exact S.ext.keep b o L e
structure G3(X:Cx)(F:Fx)(pins:List (MD×NF))(σ:St)(H:Hp)(s:Mx)(k:Nat)(a:MD)(d:D)(u:HO)(o:NF):Prop where
 hu:H a=Mt u
 ns:u.lY=My
 nt:∀xs,u≠.tup xs
 inv:Inv X pins σ (upd H a (.bo o u)) s
 uO:Is F.toFb (upd H a (.bo o u)) (.ref a) d
 n1:∀xs,X.fJ a≠Mt (.tup xs)n2:∀ob v,X.fJ a≠Mt (.bo ob v)n3:∀ps,X.fJ a≠Mt (.t9 ps)
theorem gy.xG{d:D}{a:MD}(I:Inv X pins σ H s)(h:gy F H a d):∃u o,G3 X F pins σ H s k a d u o:=by
  obtain⟨g,C,h⟩:=h;have base:∀{u:HO},H a=Mt u->u.lY=My->(∀f,u≠.tup f)->(∀b v,u≠.bo b v)->(∀ps,u≠.t9 ps)->(∀f,X.fJ a≠Mt (.tup f))/\(∀ob v,X.fJ a≠Mt (.bo ob v))/\∀ps,X.fJ a≠Mt (.t9 ps):=λ{u}hu ns nt t w=>⟨λf e=>by have:=I.base.fx a f e;rw[hu]at this;cases this;exact nt _ rfl,λob v e=>by have:=I.base.eB a ob v e;rw[hu]at this;cases this;exact t _ _ rfl,λps e=>by obtain⟨m,this⟩:=I.base.fy a ps e;rw[hu]at this;cases this;exact w _ rfl⟩;cases d with
  |lst A=>
    obtain⟨f,c,j⟩:=h;obtain⟨_,x,n,B,i⟩:=I.ay a _ c;obtain⟨q,p,b3⟩:=base c rfl (λ_ z=>nomatch z) (λ_ _ z=>nomatch z) (λ_ z=>nomatch z);refine⟨_,_,c,rfl,(λ_ z=>nomatch z),I.freeze c i (λ_ z=>nomatch z) (λ_ _ z=>nomatch z) (λ_ z=>nomatch z) (λ_ z=>nomatch z),?_,q,p,b3⟩;simp only[Is];exact⟨a,f,rfl,⟨g,_,ah⟩,j.mono (Kp.own (k:=k) g c rfl)⟩|bR ks A=>
    obtain⟨o,f,c,j,r,y⟩:=h;have i:s.heap.get? a=Mt o:=(I.ay a _ c).1;obtain⟨q,p,b3⟩:=base c rfl (λ_ z=>nomatch z) (λ_ _ z=>nomatch z) (λ_ z=>nomatch z);refine⟨_,o,c,rfl,(λ_ z=>nomatch z),I.freeze c i (λ_ z=>nomatch z) (λ_ _ z=>nomatch z) (λ_ z=>nomatch z) (λ_ z=>nomatch z),?_,q,p,b3⟩;simp only[Is];exact⟨a,f,rfl,⟨o,⟨g,j,.inl ⟨_,ah⟩⟩,r.mono (Kp.own (k:=k) g c rfl)⟩,y.mono (Kp.own (k:=k) g c rfl)⟩|set ks=>
    obtain⟨o,l,c,j,r⟩:=h;have i:s.heap.get? a=Mt o:=(I.ay a _ c).1;obtain⟨q,p,b3⟩:=base c rfl (λ_ z=>nomatch z) (λ_ _ z=>nomatch z) (λ_ z=>nomatch z);refine⟨_,o,c,rfl,(λ_ z=>nomatch z),I.freeze c i (λ_ z=>nomatch z) (λ_ _ z=>nomatch z) (λ_ z=>nomatch z) (λ_ z=>nomatch z),?_,q,p,b3⟩;simp only[Is];exact⟨a,rfl,l,j,g,o,_,ah,r.mono (Kp.own (k:=k) g c rfl)⟩|_=>exact h.elim
theorem Inv.ie{a:MD}{o:NF}{u:HO}(I:Inv X pins σ H s)(hz:H a=Mt (.bo o u))(n1:∀xs,X.fJ a≠Mt (.tup xs))(n2:∀ob v,X.fJ a≠Mt (.bo ob v))(n3:∀ps,X.fJ a≠Mt (.t9 ps)):Inv X pins σ (upd H a u) s:=by
 have ne:∀{b:MD},H b=MA->b≠a:=λ{b}n z=>by rw[z,hz]at n;cases n
 have f:∀b xs,H b=Mt (.tup xs)->(upd H a u) b=Mt (.tup xs):=λb xs e=>by rw[ai (λz=>by rw[z,hz]at e;cases e)];exact e
 have g:∀b x,H b=Mt (.own x)->(upd H a u) b=Mt (.own x):=λb x e=>by rw[ai (λz=>by rw[z,hz]at e;cases e)];exact e
 refine⟨I.ok,I.os,I.bare,⟨I.base.keep,I.base.slot,λb ob e n i=>?_,I.base.there,λb xs e=>f b xs (I.base.fx b xs e),λb ob v e=>?_,λb ps e=>?_⟩,I.loc,I.cell,?_,λx c e=>?_,λp j=>?_,λb v e=>?_,I.len⟩
 .have:=I.base.free b ob e n i;rw[ai (ne this)];exact this
 .have q:=I.base.eB b ob v e;rw[ai (λz=>by rw[z]at e;exact n2 _ _ e)];exact q
 .obtain⟨d,q⟩:=I.base.fy b ps e;exact⟨d,by rw[ai (λz=>by rw[z]at e;exact n3 _ e)];exact q⟩
 .rw[ai (ne I.free)];exact I.free
 .rw[ai (ne (I.bS x c e))];exact I.bS x c e
 .obtain⟨e,n,r⟩:=I.pin p j;exact⟨e,by rw[ai (ne n)];exact n,r⟩
 .by_cases h:b=a
  .subst h;rw[ah]at e;cases e;exact(I.ay b _ hz).2.fw (λ_ _ _ q=>q) (λc q=>g c _ q) f
  .rw[ai h]at e;exact(I.ay b v e).fw (λ_ _ _ q=>q) (λc q=>g c _ q) f
end
mutual
noncomputable def flat:D->Bool
 |.aJ=>Mz|.bl _=>Mz|.int _=>Mz|.str _=>Mz|.tup a=>tE a|_=>My
noncomputable def tE:List D->Bool
 |[]=>Mz|x::a=>flat x&&tE a
end
section
variable{B:Fb}{H:Hp}{a:MD}{o:NF}{u u':HO}
theorem TupAt.ie{b:MD}{xs:List V}(hz:H a=Mt (.bo o u))(nt:∀xs,u≠.tup xs)(h:TupAt B H b xs):TupAt B (upd H a u') b xs:=by
 refine⟨h.1,?_⟩;rcases h.2 with(c|⟨d,c⟩)|c;.exact .inl (.inl (by rw[ai (λz=>by rw[z,hz]at c;cases c)];exact c))
 .exact .inl (.inr ⟨d,by rw[ai (λz=>by rw[z,hz]at c;cases c;exact nt _ rfl)];exact c⟩)
 .exact .inr c
mutual
theorem Is.ie(hz:H a=Mt (.bo o u))(nt:∀xs,u≠.tup xs):∀{d:D}{v:V},flat d=Mz->Is B H v d->Is B (upd H a u') v d
 |.aJ,_,_,h=>by simp only[Is]at h⊢;exact h|.bl _,_,_,h=>by simp only[Is]at h⊢;exact h|.int _,_,_,h=>by simp only[Is]at h⊢;exact h|.str _,_,_,h=>by simp only[Is]at h⊢;exact h|.tup _,_,f,h=>by
  simp only[Is]at h⊢;simp only[flat]at f;obtain⟨b,xs,g,e,c⟩:=h;exact⟨b,xs,g,e.ie hz nt,af.ie hz nt f c⟩|.lst _,_,f,_=>by simp[flat]at f|.bR _ _,_,f,_=>by simp[flat]at f|.set _,_,f,_=>by simp[flat]at f|.exc _ _,_,f,_=>by simp[flat]at f|.fn _,_,f,_=>by simp[flat]at f
theorem af.ie(hz:H a=Mt (.bo o u))(nt:∀xs,u≠.tup xs):∀{ds:List D}{xs:List V},tE ds=Mz->af B H xs ds->af B (upd H a u') xs ds
 |[],_,_,h=>by simp only[af]at h⊢;exact h|d::ds,_,f,h=>by
  simp only[af]at h⊢;simp only[tE,ML]at f;obtain⟨x,b,g,e,c⟩:=h;exact⟨x,b,g,Is.ie hz nt f.1 e,af.ie hz nt f.2 c⟩
end
end
noncomputable def vF(i:Nat)(a:ag):ag:=match a[i]? with
 |some (Mt (.own d))=>a.set i (Mt (.d d))|_=>a
section
variable{X:Cx}{F:Fx}{e:MV}{st:OM}
theorem nj{a:ag}{i:Nat}{d:D}(h:a[i]?=Mt (Mt (.own d))):vF i a=a.set i (Mt (.d d)):=by unfold vF;rw[h]
theorem rA{a:ag}{i:Nat}(h:∀d,a[i]?≠Mt (Mt (.own d))):vF i a=a:=by
 unfold vF;split;.rename_i d e;exact absurd e (h d)
 .rfl
theorem rB(a:ag)(i:Nat):(∃d,a[i]?=Mt (Mt (.own d)))\/∀d,a[i]?≠Mt (Mt (.own d)):=by
 by_cases h:∃d,a[i]?=Mt (Mt (.own d));.exact .inl h
 .exact .inr λd e=>h ⟨d,e⟩
theorem DS.fz(i:Nat){t:ag->M Fl}(h:DS X F st t):DS X F st (λg=>t (vF i g)):=by
 refine⟨h.hK,λb s l H Z I⟨g,k,S,z⟩=>?_⟩;rcases rB g i with⟨d,f⟩|f
 .obtain⟨v,m,a,rfl,j⟩:=S.at_ i _ f;obtain⟨u,o,c⟩:=gy.xG (k:=k) I j;have n:=S.d3 (w':=.d d) f m j.1 j.2.1 c.hu c.ns c.uO;dsimp only at z;rw[nj f]at z;exact h.ps b s l _ Z c.inv ⟨_,k,n,M.wk z λr p q=>q.mono (Kp.own j.1 c.hu c.ns)⟩
 .dsimp only at z;rw[rA f]at z;exact h.ps b s l H Z I ⟨g,k,S,z⟩
theorem Ext.ie{H m:Hp}{k k2:Nat}{a:MD}{u:HO}{o:NF}(h:a≠F.p)(hu:H a=Mt u)(ns:u.lY=My)(e:Ext F.toFb (upd H a (.bo o u)) k m k2):Ext F.toFb H k (upd m a u) k2:=by
 have C:m a=Mt (.bo o u):=e.keep a _ h ah;have kp:Kp F.toFb H k (upd H a (.bo o u)) k:=Kp.own h hu ns;refine⟨λb n v q=>?_,λq=>by rw[ai (NO h)];exact e.live (kp.live q),e.le,λq f=>?_⟩
 .by_cases c:b=a;.subst c;rw[ah,<-hu];exact q
  .rw[ai c];exact e.keep b n v (by rw[ai c];exact q)
 .have s:q≠a:=λz=>by
   obtain⟨_,_,_,g,_⟩:=f;obtain⟨d,j⟩:=g.cs;rw[z,hu]at j;cases j;cases ns
  obtain⟨l,i,r,⟨B,⟨d,j⟩,A,y,x,w⟩,t⟩:=e.cY q (kp.cY q f);exact⟨l,i,r,⟨by rw[ai (NO h)];exact B,⟨d,by rw[ai s];exact j⟩,A,y,x,w⟩,t⟩
theorem DE.pd(i:Nat){t:ag->M D}(h:DE X F e t):DE X F e (λf=>do let d<-t (vF i f);M.need (flat d=Mz);pure d):=by
 refine⟨h.hK,λc s r H Q I⟨f,k,S,z⟩=>?_⟩;rcases rB f i with⟨d,m⟩|m
 .obtain⟨v,B,a,rfl,l⟩:=S.at_ i _ m;obtain⟨u,o,b⟩:=gy.xG (k:=k) I l;have G:=S.d3 (w':=.d d) m B l.1 l.2.1 b.hu b.ns b.uO;have z:(t (vF i f)).run k (λd g=>flat d=Mz/\qE F.toFb H k Q d g) F.E:=z;rw[nj m]at z;refine aU (h.pe c s r _ (λv j=>∃p d,Ext F.toFb (upd H a (.bo o u)) k j p/\Is F.toFb j v d/\flat d=Mz/\qE F.toFb H k Q d p) b.inv ⟨_,k,G,M.wk z λd g q v j e i2=>⟨g,d,e,i2,q.1,q.2⟩⟩) λv s1 n=>?_;obtain⟨x,j,J,y,p,K,e2,i2,C,A⟩:=n;have w:j a=Mt (.bo o u):=e2.keep a _ l.1 ah;exact⟨x,upd j a u,J.ie w b.n1 b.n2 b.n3,y,A x _ (e2.ie l.1 b.hu b.ns) (Is.ie w b.nt C i2)⟩
 .have z:(t (vF i f)).run k (λd g=>flat d=Mz/\qE F.toFb H k Q d g) F.E:=z;rw[rA m]at z;exact h.pe c s r H Q I ⟨f,k,S,M.wk z λd g q=>q.2⟩
theorem DT.pd(i:Nat){t:ag->M Bool}(h:DT X F e t):DT X F e (λm=>t (vF i m)):=by
 refine⟨h.hK,λf s r H Q I⟨m,k,S,z⟩=>?_⟩;dsimp only at z;rcases rB m i with⟨d,j⟩|j
 .obtain⟨v,y,a,rfl,g⟩:=S.at_ i _ j;obtain⟨u,o,c⟩:=gy.xG (k:=k) I g;have B:=S.d3 (w':=.d d) j y g.1 g.2.1 c.hu c.ns c.uO;rw[nj j]at z;refine aU (h.pt f s r _ (λb l=>∃p,Ext F.toFb (upd H a (.bo o u)) k l p/\qT F.toFb H k Q b p) c.inv ⟨_,k,B,M.wk z λb x q l e=>⟨x,e,q⟩⟩) λb s1 n=>?_;obtain⟨l,C,p,e2,w⟩:=n;have A:l a=Mt (.bo o u):=e2.keep a _ g.1 ah;exact⟨upd l a u,C.ie A c.n1 c.n2 c.n3,w _ (e2.ie g.1 c.hu c.ns)⟩
 .rw[rA j]at z;exact h.pt f s r H Q I ⟨m,k,S,z⟩
end
section
variable{X:Cx}{F:Fx}
noncomputable def G4:D->D->M D
 |.bR ks a,d=>do M.need (kinds ks d);M.get (iO ks a d)|_,_=>M.fail
theorem AI(hu:X.A.units+1<NV)(hP:X.prog=F.P)(hw:X.w=F.w):Jg X F G4:=⟨λhK f g c s m H x y v u Q I J G h R=>by
 obtain⟨k,d,e,l,t,i2,q⟩:=h;cases d with
 |bR ks Z=>
  obtain⟨S,q⟩:=q;obtain⟨z,U,T⟩:=M.run_get.mp q;simp only[Is]at t;obtain⟨a,W,rfl,⟨o,L,D⟩,N⟩:=t;cases(show v=MW a from J);have B:=L.get I hK;have j:=AH (A:=X.A) (E:=X.xe) (Q:=λr p=>EP X c m Q r p) hu I hK hP hw D B N i2 G S U λn Y p V K O=>⟨n,H,V,K,T n H .refl O⟩;have C:=xF D B;unfold Vf;refine Ms ?_;rw[getitemInPython_of_ne C.not_modules];refine Ms (Qp C PySem.F.slot_dict_getitem.lookup ?_);have fin:wpAny (MO X.prog X.w) X.A (V8 g My (.ref a) u) (λr b=>wpAny (MO X.prog X.w) X.A (letTemporaryGo f (.ref a) r>>=λ_=>pure r) (EP X c m Q) X.xe b) X.xe s:=by
   rw[R];exact wpAny_operating (N3 j (λr b i=>Ms (wpAny_letTemporaryGo (Mu i))) λ_ _ x=>x)
  first
   |exact Mu (Ms fin)|exact Ms (Mu (Ms fin))|exact Ms fin
 |_=>exact q.elim⟩
noncomputable def G5(neg:Bool):D->D->M D
 |d,.bR ks _=>do M.need (kinds ks d);pure (.bl (if neg then !ib ks d else ib ks d))|_,_=>M.fail
theorem Ec(hu:X.A.units+1<NV)(hP:X.prog=F.P)(hw:X.w=F.w):eN X F (NI .In) (G5 My):=⟨λb s n H k x y v u d e Q I g f l hK h i2 q=>by cases e with
 |bR ks z=>
  obtain⟨i,q⟩:=q;simp only[Is]at i2;obtain⟨a,p,rfl,⟨o,c,j⟩,t⟩:=i2;cases(show u=MW a from f);exact Eb hu I hK hP hw j (c.get I hK) c.2.1 h g i λr m=>⟨.bl (ib ks d),H,m,rfl,q _ H .refl (by simp only[Is];rfl)⟩|_=>exact q.elim⟩
theorem uP(hu:X.A.units+1<NV)(hP:X.prog=F.P)(hw:X.w=F.w):eN X F (NI .NotIn) (G5 Mz):=⟨λb s n H k x y v u d e Q I g f l hK h i2 q=>by cases e with
 |bR ks z=>
  obtain⟨i,q⟩:=q;simp only[Is]at i2;obtain⟨a,p,rfl,⟨o,c,j⟩,t⟩:=i2;cases(show u=MW a from f);exact uN hu I hK hP hw j (c.get I hK) c.2.1 h g i λr m=>⟨.bl (!ib ks d),H,m,rfl,q _ H .refl (by simp only[Is];rfl)⟩|_=>exact q.elim⟩
noncomputable def Km(K:ME)(H:Hp)(a:MD)(o:NF):Prop:=(∃u,H a=Mt (.bo o u))\/K.lookup a=Mt o
noncomputable def L1(K:ME)(a:MD)(o:NF)(b:List V):It:=⟨λi H=>Km K H a o/\i<b.length,λi H x c=>c=H/\b[i]?=Mt x,λi H=>Km K H a o/\b.length<=i⟩
theorem rC{P:MX}{w:M_}{K:ME}{tg:MV}{a it:MD}{o:NF}{f:List V}{es:Array Q8}{R:Nat}(hd:o.data=.dict es R)(t:ak f (es.toList.map (·.key)))(T:a≠it):Turn P w K tg (L1 K a o f) [it] it (λi h=>h.IsKeyIter it a i es.size R)where
 mem:=by simp
 obj:=λi h st b l=>by
  have e:b=it:=by simpa using l
  subst e;obtain⟨o,e,c,d⟩:=st;exact⟨o,e,λv z=>by rw[d]at z;cases z⟩
 keep:=λi h r st k=>st.at λo e=>k it (by simp) o e;item:=by
  intro X hP hw hK Q i j s L H E I q st B;obtain⟨g,O⟩:=B;have U:f.length=es.size:=by simpa using t.length
  have A:s.heap.get? a=Mt o:=by
   rcases g with⟨u,g⟩|g;.exact(I.ay a _ g).1
   .exact I.fB _ _ (by rw[hK];exact g)
  obtain⟨x,N⟩:∃x,f[i]?=Mt x:=⟨f[i],by simp[O]⟩;obtain⟨y,M,S⟩:=t.get N;have n:i<es.size:=by omega
  have Y:y=es[i].key:=by
   rw[Nq,Ol,M8 n]at M;exact(MI M).symm
  obtain⟨J,G,W,D,C,f5⟩:=q it (by simp);refine DictIt.zU st A hd n λr m sb=>?_;have I1:Inv X j L H {s with heap:=r}:=I.turned (t':=s.toks) (λb o l e=>(sb.2 b l).trans e) J G D C f5;obtain⟨o',e,c,d⟩:=id m;exact⟨_,rfl,sH (s:={s with heap:=r}) e c d (by decide) ⟨x,H,I1,by rw[<-Y];exact S,⟨rfl,N⟩,m,λb l=>(q b l).1⟩⟩
 done:=by
  intro X hP hw hK Q i j s L H E I q st B;obtain⟨g,O⟩:=B;have U:f.length=es.size:=by simpa using t.length
  have A:s.heap.get? a=Mt o:=by
   rcases g with⟨u,g⟩|g;.exact(I.ay a _ g).1
   .exact I.fB _ _ (by rw[hK];exact g)
  obtain⟨J,G,W,D,C,f5⟩:=q it (by simp);exact DictIt.Dd (I.ok.hd Q) st A hd (by omega) λr Z=>⟨rfl,I.turned (t':=s.toks) (λb o l e=>Z b o l e) J G D C f5⟩
 self:=λ_ _ _ _ _ st h=>wpAny_pyIter_keyiter st h
theorem md{P:MX}{w:M_}:∀{a:List (List Key×MD×V)}{xs:List (List Key×MD×Mv)},KA a xs->ak (a.map λx=>V.ref x.2.1) ((xs.map (Wi (RY (ao P w)))).map (·.key))
 |_,_,.nil=>.nil|_,_,.cons z t=>.cons (show MW _=_ by rw[z.2.1]) (md t)
theorem ki{B:Fb}{H:Hp}:∀{a:List (List Key×MD×V)},(∀x∈a,TupAt B H x.2.1 (x.1.map kV))->af B H (a.map λx=>V.ref x.2.1) (a.map λx=>D.tup (x.1.map kD))
 |[],_=>.nil|x::r,h=>.cons (by
   simp only[Is];refine⟨_,_,rfl,h x MG,isKeys_all⟩) (ki λy b=>h y (MM _ b))where isKeys_all{B:Fb}{H:Hp}:∀{ks:List Key},af B H (ks.map kV) (ks.map kD)
 |[]=>.nil|k::ks=>.cons (by cases k<;>simp only[kD,kV,Is]) isKeys_all
theorem kj{B:Fb}{H:Hp}:∀{a:List (Key×V)},af B H (a.map λx=>kV x.1) (a.map λx=>kD x.1)
 |[]=>.nil|(k,v)::ks=>.cons (by cases k<;>simp only[kD,kV,Is]) kj
theorem xH{H:Hp}{o:NF}{ks:List D}{vs:List V}(h:bM F.toFb H o ks vs):∃a es b,o.ExactDict/\o.data=.dict es b/\ak a (es.toList.map (·.key))/\af F.toFb H a ks:=by
 rcases h.2 with⟨c,m,g,⟨es,b,e,d,_,j,_⟩,rfl,_⟩|⟨c,l,i,⟨es,b,e,d,k,_⟩,f,rfl,_⟩;.exact⟨_,es,b,e,d,jU g j,kj⟩
 .exact⟨_,es,b,e,d,by rw[k];exact md i,ki f⟩
end
noncomputable def km(X:Cx)(e:MV)(t:TE)(pins:List (MD×NF))(s:Mx)(σ:St)(H:Hp):Prop:=(∀Q,t σ H Q->wpAny (MO X.prog X.w) X.A (N2 e X.env) (EP X pins σ Q) X.xe s)/\∀(x:M3)(a b:Od)(c:TG)(D:Ends),O4 e (Mt (.Name x a)) b.line X.env=pure Mz->PG X (.Name x a) c->zA t c D σ H->wpAny (MO X.prog X.w) X.A (exec (.Assign [.Name x a] e b) X.env) (SP X pins D) X.xe s
structure DU(X:Cx)(F:Fx)(e:MV)(t:ag->M D):Prop where
 hK:X.K=F.K
 pu:∀pins s σ H,Inv X pins σ H s->km X e (bK F t) pins s σ H
section
variable{X:Cx}{F:Fx}{e:MV}{pins:List (MD×NF)}{s:Mx}{σ:St}{H:Hp}
theorem DU.de{t:ag->M D}(h:DU X F e t):DE X F e t:=⟨h.hK,λpins s σ H Q I q=>(h.pu pins s σ H I).1 Q q⟩
theorem DU.ref{t m:ag->M D}(h:DU X F e m)(r:∀a,Ref (t a) (m a)):DU X F e t:=⟨h.hK,λpins s σ H I=>⟨λQ⟨a,k,S,z⟩=>(h.pu pins s σ H I).1 Q ⟨a,k,S,r a _ _ _ z⟩,λx c b g D d f⟨a,k,S,z⟩=>(h.pu pins s σ H I).2 x c b g D d f ⟨a,k,S,r a _ _ _ z⟩⟩⟩
theorem km.imp{t t':TE}(h:km X e t pins s σ H)(q:∀Q,t' σ H Q->t σ H Q):km X e t' pins s σ H:=⟨λQ z=>h.1 Q (q Q z),λx b a f D c d z=>h.2 x b a f D c d (q _ z)⟩
noncomputable def Kn(t:TE):TE:=λσ H Q=>t σ H λv c=>∃a b,v=.ref a/\c a=Mt (.lst b)/\∀o,Q v (upd c a (.bo o (.lst b)))
theorem Ed{tg:MV}{c:TG}(h:PG X tg c):PG X tg (λv σ H Q=>∃a xs,v=.ref a/\H a=Mt (.lst xs)/\∀o,c v σ (upd H a (.bo o (.lst xs))) Q):=by
 intro pins s σ H v u Q I r⟨a,xs,e,b,q⟩;obtain⟨_,d,n,g,f⟩:=I.ay a _ b;exact h pins s σ _ v u Q (I.freeze b f (λ_ z=>nomatch z) (λ_ _ z=>nomatch z) (λ_ z=>nomatch z) (λ_ z=>nomatch z)) r (q _)
theorem km.bo{t:TE}(I:Inv X pins σ H s)(h:km X e t pins s σ H):km X e (Kn t) pins s σ H:=by
 refine⟨λQ z=>?_,λx i g q D k m z=>h.2 x i g _ D k (Ed m) z⟩;refine aU (h.1 _ z) λu s1 b=>?_;obtain⟨v,w,d,r,a,o,e,c,f⟩:=b;obtain⟨_,j,n,p,l⟩:=d.ay a _ c;exact⟨v,_,d.freeze c l (λ_ z=>nomatch z) (λ_ _ z=>nomatch z) (λ_ z=>nomatch z) (λ_ z=>nomatch z),r,f _⟩
theorem AJ(i:Nat){x:M3}{b pos:Od}{c:ag->M D}(hN:X.N.Nodup)(f:DU X F e c)(m:X.N[i]?=Mt x)(j:Loc X.env.scope x)(l:O4 e (Mt (.Name x b)) pos.line X.env=pure Mz)(n:X.fn x=Mz\/X.env.scope.names.lookup x=Mt .local):DS X F (.Assign [.Name x b] e pos) (λa=>do let d<-c a;pure (.nx (a.set i (Mt (.d d))))):=by
 refine⟨f.hK,λpins s σ H Z I⟨a,k,S,h⟩=>(f.pu pins s σ H I).2 x b pos (vQ i) Z l (sF (i:=i) hN m j n) ?_⟩;refine bK.next S h λd r v q e1 p g o=>?_;exact o _ q e1.kp (p.set i g)
end
section
variable{X:Cx}{F:Fx}{elt tg iter tg2 iter2:MV}{ifs ifs2:List MV}{pos:Od}{scope:OJ}{g g2:D->ag->M ag}{tc tc2:ag->M Bool}{te:ag->M D}{tI tI2:ag->M (List D)}
theorem xI(own fr:List M3)(js:List Nat)(b:X.calm=Mz)(u:gA X.env.scope scope=Mz)(A:js.map (λj=>X.N[j]?)=fr.map Mt)(d:∀x∈fr,scope.names.lookup x=Mt .free)(n:js.Nodup)(hw:DI X F tg iter tI)(E:∀pins cl C fp s H,DG (aV X pins scope (own++fr) cl C fp s H) F tg g)(B:∀pins cl C fp s H,fC (aV X pins scope (own++fr) cl C fp s H) F ifs tc)(G:∀pins cl C fp s H,DE (aV X pins scope (own++fr) cl C fp s H) F elt te)(w:∀x,Ny iter X.env x=pure x):DU X F (.ListComp elt [⟨tg,iter,ifs,0⟩] scope pos) (λf=>do let ds<-tI f;let r<-lZ g tc te ds (fQ f own.length js);pure (.lst r)):=by
  refine⟨hw.hK,λpins s i H I=>?_⟩;obtain⟨cl,c⟩:=jX I.ok u;have P:km X (.ListComp elt [⟨tg,iter,ifs,0⟩] scope pos) (iK own.length js (zf F tI) (qW F g) (fO F tc) (dW (bK F te)) [] .lst) pins s i H:=⟨λQ z=>gB (ok:=Fv) (ob0:={cls:=.type "list",dict:=MA,data:=.seq ([]:List Mv).toArray}) (newAcc:=V5 (.type "list") (.seq #[])) (o:=HO.lst) (a0:=[]) (rd:=dW (bK F te)) (body:=λD env=>do let _<-call (.builtin "list.append") [.ref D,<-N2 elt env]) b c A d hw.pi rfl rfl (aW rfl rfl) (λh=>Nd h) (λa ob v⟨_,_,_,_,e⟩z=>by rw[e]at z;cases z) ⟨Nv _,[],_,.nil,rfl⟩ (λz=>nomatch z) (λ_ _ _=>rfl) (λ_ _ _=>rfl) (λ_ _ _=>rfl) (λpins C fp s H=>(E pins cl C fp s H).pg) (λpins C fp s H=>(B pins cl C fp s H).pi) (λpins C fp s H D o=>fj o (G pins cl C fp s H).pe) gC w pins s i H Q I z,λx U T W D m t z=>jo (ok:=Fv) (ob0:={cls:=.type "list",dict:=MA,data:=.seq ([]:List Mv).toArray}) (newAcc:=V5 (.type "list") (.seq #[])) (o:=HO.lst) (a0:=[]) (rd:=dW (bK F te)) (body:=λD env=>do let _<-call (.builtin "list.append") [.ref D,<-N2 elt env]) b c A d hw.pi (λ_=>rfl) rfl (aW rfl rfl) (λh=>Nd h) (λa ob v⟨_,_,_,_,e⟩z=>by rw[e]at z;cases z) ⟨Nv _,[],_,.nil,rfl⟩ (λz=>nomatch z) (λ_ _ _=>rfl) (λ_ _ _=>rfl) (λ_ _ _=>rfl) (λpins C fp s H=>(E pins cl C fp s H).pg) (λpins C fp s H=>(B pins cl C fp s H).pi) (λpins C fp s H D o=>fj o (G pins cl C fp s H).pe) gC w pins s i H x U T W D I m t z⟩;refine(P.bo I).imp λQ l=>?_;obtain⟨f,k,S,h⟩:=l;refine⟨f,k,S,M.wk h λds Z q J H1 e1 it=>?_⟩;have K:=(S.mono e1).aV own.length n;refine Ai it K q λO Y L H' V e2 i2 R hz p y _=>⟨p,O,rfl,ah,λo=>?_⟩;rw[aT];exact R _ _ ((e1.trans e2).trans (.new y)) (aR (k:=V) (e2.live K.live) y i2)
theorem uQ(own fr:List M3)(js:List Nat)(b:X.calm=Mz)(E:gA X.env.scope scope=Mz)(O:js.map (λj=>X.N[j]?)=fr.map Mt)(m:∀x∈fr,scope.names.lookup x=Mt .free)(y:js.Nodup)(L:X.A.mark MA=X.A)(hw:DI X F tg iter tI)(T:∀pins cl C fp s H,DG (aV X pins scope (own++fr) cl C fp s H) F tg g)(R:∀pins cl C fp s H,fC (aV X pins scope (own++fr) cl C fp s H) F ifs tc)(d:∀pins cl C fp s H,DI (aV X pins scope (own++fr) cl C fp s H) F tg2 iter2 tI2)(l:∀pins cl C fp s H,DG (aV X pins scope (own++fr) cl C fp s H) F tg2 g2)(i:∀pins cl C fp s H,fC (aV X pins scope (own++fr) cl C fp s H) F ifs2 tc2)(U:∀pins cl C fp s H,DE (aV X pins scope (own++fr) cl C fp s H) F elt te)(G:∀x,Ny iter X.env x=pure x)(f:∀env x,Ny iter2 env x=pure x):DU X F (.ListComp elt [⟨tg,iter,ifs,0⟩,⟨tg2,iter2,ifs2,0⟩] scope pos) (λn=>do let ds<-tI n;M.need (ds.length<=1000);let r<-gH g tc (Ax tI2 g2 tc2 te) ds (fQ n own.length js);pure (.lst r.1)):=by
  refine⟨hw.hK,λpins s t H I=>?_⟩;obtain⟨cl,c⟩:=jX I.ok E;have P:km X (.ListComp elt [⟨tg,iter,ifs,0⟩,⟨tg2,iter2,ifs2,0⟩] scope pos) (iK own.length js (zf F tI) (qW F g) (fO F tc) (fR (zf F tI2) (qW F g2) (fO F tc2) (dW (bK F te))) [] .lst) pins s t H:=⟨λQ z=>mY (own:=own) (fr:=fr) (js:=js) (cl:=cl) b c O m L hw.pi (λpins C fp s H=>(T pins cl C fp s H).pg) (λpins C fp s H=>(R pins cl C fp s H).pi) (λpins C fp s H=>(d pins cl C fp s H).pi) (λpins C fp s H=>(l pins cl C fp s H).pg) (λpins C fp s H=>(i pins cl C fp s H).pi) (λpins C fp s H=>(U pins cl C fp s H).pe) G f pins s t H Q I z,λx p' p2 gt D w B z=>jo (ok:=Fv) (ob0:={cls:=.type "list",dict:=MA,data:=.seq ([]:List Mv).toArray}) (newAcc:=V5 (.type "list") (.seq #[])) (o:=HO.lst) (a0:=[]) (body:=λD env=>bV (.ListComp elt [⟨tg,iter,ifs,0⟩,⟨tg2,iter2,ifs2,0⟩] scope pos) iter2 (.ref D) env) b c O m hw.pi (λ_=>rfl) rfl (aW rfl rfl) (λh=>Nd h) (λa ob v⟨_,_,_,_,e⟩z=>by rw[e]at z;cases z) ⟨Nv _,[],_,.nil,rfl⟩ (λz=>nomatch z) (λ_ _ _=>rfl) (λ_ _ _=>rfl) (λ_ _ _=>jY _ _ _) (λpins C fp s H=>(T pins cl C fp s H).pg) (λpins C fp s H=>(R pins cl C fp s H).pi) (λpins C fp s H D o=>fT (pos0:=iter2.pos) o b (λ_ _ z=>z) (aW rfl rfl) L (λ_=>rfl) (λ_=>rfl) (λ_=>rfl) (d pins cl C fp s H).pi (l pins cl C fp s H).pg (i pins cl C fp s H).pi (fj o (U pins cl C fp s H).pe) (f _)) gC G pins s t H x p' p2 gt D I w B z⟩;refine(P.bo I).imp λQ u=>?_;obtain⟨n,k,S,h⟩:=u;refine⟨n,k,S,M.wk h λds k1 q J H1 e1 it=>?_⟩;obtain⟨hz,q⟩:=q;have V:=(S.mono e1).aV own.length y;refine xk it V hz q λZ xs Y W H' k' e2 S2 i2 q2 a1 p K _=>⟨p,Z,rfl,ah,λo=>?_⟩;rw[aT];exact q2 _ _ ((e1.trans e2).trans (.new K)) (aR (k:=k') (e2.live V.live) K i2)
end
noncomputable def ko:List D->List D->D->D->List D
 |k::ks,v::a,d,e=>(if be k d then e else v)::ko ks a d e|_,_,_,_=>[]
noncomputable def putD(ks ds:List D)(d e:D):List D×List D:=if ib ks d then(ks,ko ks ds d e)else(ks++[d],ds++[e])
section
variable{B:Fb}{H:Hp}
theorem B2{k:Key}{y:V}{e:D}(f:Is B H y e):∀{a:List (Key×V)}{ds:List D},af B H (a.map (·.2)) ds->af B H ((a.map λb=>if b.1=k then(b.1,y)else b).map (·.2)) (ko (a.map λx=>kD x.1) ds (kD k) e)
 |[],ds,h=>by cases ds<;>exact .nil|(k0,i)::r,[],h=>by simp[af]at h|(k0,i)::r,d::ds,h=>by
  simp only[M9,af]at h;obtain⟨x,m,e1,l,j⟩:=h;cases e1;have c:=B2 (k:=k) f j;simp only[M9,ko,kg];by_cases g:k0=k
  .simp only[g,decide_true,if_true];exact .cons f c
  .simp only[g,decide_false,if_false];exact .cons l c
theorem B3{k:List Key}{y:V}{e:D}(c:Is B H y e):∀{a:List (List Key×MD×V)}{ds:List D},af B H (a.map (·.2.2)) ds->af B H ((a.map λx=>if x.1=k then(x.1,x.2.1,y)else x).map (·.2.2)) (ko (a.map λx=>D.tup (x.1.map kD)) ds (.tup (k.map kD)) e)
 |[],ds,h=>by cases ds<;>exact .nil|(k0,l,g)::r,[],h=>by simp[af]at h|(k0,l,g)::r,d::ds,h=>by
  simp only[M9,af]at h;obtain⟨x,m,e1,j,i⟩:=h;cases e1;have b:=B3 (k:=k) c i;simp only[M9,ko,dE];by_cases f:k0=k
  .simp only[f,decide_true,if_true];exact .cons c b
  .simp only[f,decide_false,if_false];exact .cons j b
theorem KA.zM{k:List Key}{y:V}{u:Mv}(r:RelV y u):∀{a:List (List Key×MD×V)}{xs:List (List Key×MD×Mv)},KA a xs->KA (a.map λx=>if x.1=k then(x.1,x.2.1,y)else x) (xs.map (putAt k u))
 |_,_,.nil=>.nil|(k0,j,f)::rr,(h,i,g)::xs,.cons z t=>by
  obtain⟨d,c,b⟩:=z;simp only at d c b;subst d c;refine .cons ?_ (KA.zM r t);by_cases e:k0=k;.simp only[e,if_true,putAt];exact⟨trivial,trivial,r⟩
  .simp only[e,if_false,putAt];exact⟨trivial,trivial,b⟩
end
section
variable{X:Cx}{F:Fx}{pins:List (MD×NF)}{σ:St}{H:Hp}{s:Mx}{a:MD}{o:NF}{ks ds:List D}{vs:List V}{d e:D}{x y:V}{v r:Mv}{A:Nc}{E:Mv->Mx->Prop}
noncomputable def pf(F:Fx)(H:Hp)(ks ds:List D)(d e:D)(o':NF):Prop:=(∃b,bM F.toFb H o' (putD ks ds d e).1 b/\af F.toFb H b (putD ks ds d e).2)/\∀v,o'.data≠.cell v
theorem tF{b:List (Key×V)}{us:List (Key×Mv)}{k:Key}{o':NF}(h:KV b us)(hz:b.length<MP)(f:af F.toFb H (b.map (·.2)) ds)(c:Is F.toFb H y e)(g:RelV y r)(ob:hU F.P F.w o' (stored us k r)):pf F H (b.map λx=>kD x.1) ds (kD k) e o':=by
 refine⟨⟨(putK b k y).map (·.2),⟨?_,.inl ⟨putK b k y,_,h.put k g,ob,?_,rfl⟩⟩,?_⟩,ob.eE⟩
 .unfold putD;split;.simp;omega
  .simp;omega
 .unfold putD putK;rw[xE,<-jK];split
  .rw[N5];refine OY λx _=>?_;simp only[Vb];split<;>rfl
  .simp
 .unfold putD putK;rw[xE,<-jK];split;.exact B2 c f
  .rw[OZ];exact f.append (.cons c .nil)
theorem tG{c:List (List Key×MD×V)}{xs:List (List Key×MD×Mv)}{k:List Key}{b:MD}{o':NF}(g:KA c xs)(hz:c.length<MP)(m:af F.toFb H (c.map (·.2.2)) ds)(i:∀x∈c,TupAt F.toFb H x.2.1 (x.1.map kV))(p:TupAt F.toFb H b (k.map kV))(l:Is F.toFb H y e)(j:RelV y r)(ob:hV F.P F.w o' (Wg xs k b r)):pf F H (c.map λx=>D.tup (x.1.map kD)) ds (.tup (k.map kD)) e o':=by
 have n:=AG (k:=k) g;by_cases f:(WJ xs k).isSome=Mz
 .have e1:Wg xs k b r=xs.map (putAt k r):=by unfold Wg;rw[if_pos f]
  have e2:putD (c.map λx=>D.tup (x.1.map kD)) ds (.tup (k.map kD)) e=(c.map λx=>D.tup (x.1.map kD),ko (c.map λx=>D.tup (x.1.map kD)) ds (.tup (k.map kD)) e):=by unfold putD;rw[n,if_pos f]
  rw[e1]at ob;refine⟨?_,ob.eE⟩;rw[e2];refine⟨_,⟨by simp;omega,.inr ⟨c.map λx=>if x.1=k then(x.1,x.2.1,y)else x,_,KA.zM j g,ob,λx h=>?_,?_,rfl⟩⟩,B3 l m⟩
  .obtain⟨z,hz,rfl⟩:=List.mem_map.mp h;split<;>exact i z hz
  .rw[N5];refine OY λx _=>?_;simp only[Vb];split<;>rfl
 .have e1:Wg xs k b r=xs++[(k,b,r)]:=by unfold Wg;rw[if_neg f]
  have e2:putD (c.map λx=>D.tup (x.1.map kD)) ds (.tup (k.map kD)) e=(c.map (λx=>D.tup (x.1.map kD))++[.tup (k.map kD)],ds++[e]):=by unfold putD;rw[n,if_neg f]
  rw[e1]at ob;refine⟨?_,ob.eE⟩;rw[e2];refine⟨_,⟨by simp;omega,.inr ⟨c++[(k,b,y)],_,Paired.snoc g ⟨rfl,rfl,j⟩,ob,λx h=>?_,by simp,rfl⟩⟩,by rw[OZ];exact m.append (.cons l .nil)⟩;rcases List.mem_append.mp h with z|z;.exact i x z
  .rw[List.mem_singleton.mp z];exact p
theorem AK{Q:Unit->Mx->Prop}(hu:A.units<NV)(I:Inv X pins σ H s)(hK:X.K=F.K)(hP:X.prog=F.P)(hw:X.w=F.w)(h:bM F.toFb H o ks vs)(J:s.heap.get? a=Mt o)(G:af F.toFb H vs ds)(i:Is F.toFb H x d)(z:RelV x v)(C:Is F.toFb H y e)(u:RelV y r)(g:kinds ks d)(hz:ks.length<MP)(q:∀h' o' L,NW a s.heap h'->h'.get? a=Mt o'->pf F H ks ds d e o'->Q () {s with heap:=h',toks:=L}):wpAny (MO X.prog X.w) A (dictSet a v r) Q E s:=by
 rcases g with⟨g,k,rfl⟩|⟨g,k,rfl⟩
 .obtain⟨j,R,B,ob,rfl,rfl⟩:=h.G2 g;rw[<-hP,<-hw]at ob;have:=fW i;subst this;rw[MT]at hz;refine wpAny_dictSet_pairs (hsz:=by rw[<-Paired.length B];omega) (iG z) (ob.at J) λh' f m=>?_;obtain⟨o',n,c⟩:=hU.of f;exact q h' o' _ m n (tF B hz G C u (by rw[<-hP,<-hw];exact c))
 .obtain⟨j,N,l,ob,p,rfl,rfl⟩:=h.BZ g;rw[<-hP,<-hw]at ob;simp only[Is]at i;obtain⟨b,O,rfl,t,M⟩:=i;have:=bJ M;subst this;cases(show v=MW b from z);rw[MT]at hz;refine wpAny_dictSet_heap (hsz:=by rw[<-Paired.length l];omega) (show(RY (ao X.prog X.w)).room A from hu) (bG I (by rw[hK];exact t.2)) (ob.at J (ft I hK l p)) λh' f m=>?_;obtain⟨o',n,c⟩:=hV.of f;exact q h' o' _ m n (tG l hz G p t C u (by rw[<-hP,<-hw];exact c))
theorem ph{Q:Unit->Mx->Prop}(hu:A.units+1<NV)(I:Inv X pins σ H s)(hK:X.K=F.K)(hP:X.prog=F.P)(hw:X.w=F.w)(h:bM F.toFb H o ks vs)(J:s.heap.get? a=Mt o)(G:af F.toFb H vs ds)(i:Is F.toFb H x d)(z:RelV x v)(C:Is F.toFb H y e)(u:RelV y r)(g:kinds ks d)(hz:ks.length<MP)(q:∀h' o' L,NW a s.heap h'->h'.get? a=Mt o'->pf F H ks ds d e o'->Q () {s with heap:=h',toks:=L}):wpAny (MO X.prog X.w) A (setItem (.ref a) v r) Q E s:=by
 rcases g with⟨g,k,rfl⟩|⟨g,k,rfl⟩
 .obtain⟨j,R,B,ob,rfl,rfl⟩:=h.G2 g;rw[<-hP,<-hw]at ob;have:=fW i;subst this;rw[MT]at hz;refine wpAny_setItem_pairs (hsz:=by rw[<-Paired.length B];omega) (iG z) (ob.at J) λh' f m=>?_;obtain⟨o',n,c⟩:=hU.of f;exact q h' o' _ m n (tF B hz G C u (by rw[<-hP,<-hw];exact c))
 .obtain⟨j,N,l,ob,p,rfl,rfl⟩:=h.BZ g;rw[<-hP,<-hw]at ob;simp only[Is]at i;obtain⟨b,O,rfl,t,M⟩:=i;have:=bJ M;subst this;cases(show v=MW b from z);rw[MT]at hz;refine wpAny_setItem_heap (hsz:=by rw[<-Paired.length l];omega) (RD hu) (bG I (by rw[hK];exact t.2)) (ob.at J (ft I hK l p)) λh' f m=>?_;obtain⟨o',n,c⟩:=hV.of f;exact q h' o' _ m n (tG l hz G p t C u (by rw[<-hP,<-hw];exact c))
end
noncomputable def iP{c:Type}(g:D->ag->M ag)(f:ag->M Bool)(h:c->ag->M (c×ag)):c->List D->ag->M (c×ag)
 |acc,[],e=>pure (acc,e)|acc,d::i,e=>do
  let a<-g d e;let b<-f a;if b then do
   let r<-h acc a;iP g f h r.1 i r.2;else iP g f h acc i a
noncomputable def tH(F:Fx){g e:Type}(So:Hp->g->e->Prop)(o:e->ag->M (e×ag))(rd:RB g):Prop:=∀(j:St)(l:ag)(H:Hp)(k:Nat)(a:g)(f:e)(Q:e×ag->Nat->Prop)(n:g->St->Hp->Prop),bp F l k j H->So H a f->(o f l).run k Q F.E->(∀m b d c h i,Ext F.toFb H k h i->bp F d i c h->So h m b->Q (b,d) i->n m c h)->rd j H a n
section
variable{F:Fx}{α β:Type}{So:Hp->α->β->Prop}{g g2:D->ag->M ag}{tc tc2:ag->M Bool}{em:β->ag->M (β×ag)}{rd:RB α}{tI2:ag->M (List D)}
theorem xJ(mono:∀{H H':Hp}{k k':Nat}{a:α}{r:β},So H a r->Kp F.toFb H k H' k'->So H' a r)(Y:tH F So em rd){σ:St}{C:ag}{u:Hp}{k1:Nat}{J:It}{ds:List D}{a0:α}{t:β}{Q:β×ag->Nat->Prop}{O:α->St->Hp->Prop}(it:jW F.toFb J ds u k1)(S:bp F C k1 σ u)(i0:So u a0 t)(h:(iP g tc em t ds C).run k1 Q F.E)(q:∀a xs f p H' k',Ext F.toFb u k1 H' k'->bp F f k' p H'->So H' a xs->Q (xs,f) k'->O a p H'):iI J (qW F g) (fO F tc) rd σ u a0 O:=by
 refine⟨λi m a o n=>m=ds.length-i/\i<=ds.length/\∃c j as,bp F c j o n/\Ext F.toFb u k1 n j/\So n a as/\(iP g tc em as (ds.drop i) c).run j Q F.E,⟨ds.length,rfl,Nv _,C,k1,t,S,.refl,i0,h⟩,?_⟩;rintro i m a o n⟨rfl,X,c,j,as,A,e2,I,z⟩;by_cases s:i<ds.length
 .obtain⟨d,hd,K⟩:=fk s;rw[K]at z;obtain⟨go,R⟩:=it.step i d n j hd e2.kp A.live;refine .inr ⟨go,λx H3 y=>?_⟩;obtain⟨e3,W⟩:=R x H3 y;refine⟨c,j,d,A.mono e3,W,M.wk z λv k4 U B H4 e4 S4=>?_⟩;refine fO.next S4 U λb G P e5 N L=>?_;have l:Ext F.toFb n j P G:=(e3.trans e4).trans e5;cases b with
  |false=>exact⟨ds.length-(i+1),by omega,rfl,s,v,G,as,N,e2.trans l,mono I l.kp,L⟩|true=>
   rw[if_pos rfl];exact Y B v P G a as _ _ N (mono I l.kp) L λa' w f p H' k' e6 Z V T=>⟨ds.length-(i+1),by omega,rfl,s,f,k',w,Z,e2.trans (l.trans e6),V,T⟩
 .have e:i=ds.length:=by omega
  subst e;rw[PB]at z;exact .inl ⟨it.stop n j e2.kp A.live,q a as c o n j e2 A I z⟩
noncomputable def Ko(tI2:ag->M (List D))(g2:D->ag->M ag)(tc2:ag->M Bool)(em:β->ag->M (β×ag))(a:β)(b:ag):M (β×ag):=do
 let c<-tI2 b;iP g2 tc2 em a c b
theorem xK(mono:∀{H H':Hp}{k k':Nat}{a:α}{r:β},So H a r->Kp F.toFb H k H' k'->So H' a r)(l:tH F So em rd):tH F So (Ko tI2 g2 tc2 em) (fR (zf F tI2) (qW F g2) (fO F tc2) rd):=by
 intro p f H k a m Q u S so h q;refine⟨f,k,S,M.wk h λt s j J v e1 it=>?_⟩;exact xJ (So:=So) (λh e=>mono h e) l it (S.mono e1) (mono so e1.kp) j λn i c b H' k' e2 o d z=>q n i c b H' k' (e1.trans e2) o d z
end
noncomputable def b_:NF:={cls:=.type "dict",dict:=MA,data:=.dict #[]}
noncomputable def Ee(a ob:NF):Prop:=a=ob/\∀v,ob.data≠.cell v
noncomputable def kr(F:Fx)(j i:TE):RB NF:=λc H a Q=>j c H λx k=>i c k λy b=>∃d e ks h f,bM F.toFb b a ks f/\af F.toFb b f h/\kinds ks d/\ks.length<MP/\Is F.toFb b x d/\Is F.toFb b y e/\∀g,pf F b ks h d e g->Q g c b
noncomputable def iQ(k v:MV)(D:MD)(env:Sl):U5 Unit:=do
 let a<-N2 k env;let b<-RN [a] (N2 v env)PV {k.pos with endLine:=v.pos.endLine,endCol:=v.pos.endCol}RN [a,b] (dictSet D a b)
theorem ku{Y:Cx}{F:Fx}{D:MD}{k v:MV}{f j:TE}(o:zS Y D)(hu:Y.A.units<NV)(hK:Y.K=F.K)(hP:Y.prog=F.P)(hw:Y.w=F.w)(G:PE Y k f)(C:PE Y v j):Body Y Ee D (iQ k v D Y.env) (kr F f j):=by
 intro l s c H O ob Q I h ay q;unfold iQ;refine Ms (aU (G _ s c H _ I q) λW s1 a=>?_);obtain⟨x,T,R,n,r⟩:=a;refine Ms (M2 (aU (C _ s1 c T _ R r) λU s2 a=>?_));obtain⟨y,S,i,m,d,e,ks,Z,V,N,z,t,B,ix,u,p⟩:=a;refine Ms (Oa (M2 ?_));obtain⟨rfl,E⟩:=ay;have M:=(i.pin _ (M1 _ MG)).1;refine AK (F:=F) hu i hK hP hw N M z ix n u m t B λX g f sb L po=>?_;exact⟨g,g,c,S,i.wm o.young o.cells h (λb ob J e=>(sb.2 b J).trans e) L po.2,⟨rfl,po.2⟩,p g po⟩
noncomputable def oD(a:NF):HO:=.bo a (.ext λ_=>True)
theorem ju{P:MX}{w:M_}(a ob:NF)(H:Hp)(h:Na)(D:MD)(ok:Ee a ob)(e:h.get? D=Mt ob)(_:fH P w H h):aQ P w (upd H D (oD a)) h D (oD a):=by
 obtain⟨rfl,_⟩:=ok;exact⟨e,trivial,⟨_,e⟩,λ_ _ _ _=>trivial⟩
theorem gK{prog:MX}{w:M_}{A:Nc}{E:Mv->Mx->Prop}{s:Mx}{Q:Mv->Mx->Prop}(h:Q (.ref s.heap.objs.size) {s with heap:=s.heap.push b_}):wpAny (MO prog w) A Wh Q E s:=Nd h
theorem ig{B:Fb}{H:Hp}:bM B H b_ [] []:=⟨Nv _,.inl ⟨[],[],.nil,⟨#[],0,⟨rfl,rfl,rfl⟩,rfl,λe a=>by simp at a,.nil,.nil⟩,rfl,rfl⟩⟩
noncomputable def B4(F:Fx)(H:Hp)(a:NF)(b:List D×List D):Prop:=∃c,bM F.toFb H a b.1 c/\af F.toFb H c b.2
theorem B4.mono{F:Fx}{H H':Hp}{k k':Nat}{a:NF}{r:List D×List D}(h:B4 F H a r)(e:Kp F.toFb H k H' k'):B4 F H' a r:=let⟨b,d,c⟩:=h;⟨b,d.mono e,c.mono e⟩
noncomputable def tJ(d c:ag->M D)(a:List D×List D)(b:ag):M ((List D×List D)×ag):=do
 let x<-d b;let y<-c b;M.need (kinds a.1 x/\a.1.length<MP)pure (putD a.1 a.2 x y,b)
theorem tK{F:Fx}{e d:ag->M D}:tH F (B4 F) (tJ e d) (kr F (bK F e) (bK F d)):=by
 intro f g H k a b Q B S so h q;refine bK.next S h λx A z C e1 u m p=>?_;refine bK.next u p λy l w v e2 t i2 c=>?_;obtain⟨⟨o,n⟩,c⟩:=c;obtain⟨i,s,r⟩:=so.mono (e1.trans e2).kp;exact⟨x,y,b.1,b.2,i,s,r,o,n,m.mono e2.kp,i2,λj po=>q j _ g f v l (e1.trans e2) t po.1 c⟩
theorem ky{F:Fx}{H:Hp}{k:Nat}{p:MD}{a:NF}{b:List D×List D}(f:H F.p≠MA)(c:H p=MA)(e:(p==Pn)=My)(so:B4 F H a b):Is F.toFb (upd H p (oD a)) (.ref p) (.bR b.1 b.2):=by
 obtain⟨d,h,g⟩:=so.mono (Ext.new (F:=F.toFb) (o:=oD a) (k:=k) c).kp;simp only[Is];exact⟨p,d,rfl,⟨a,⟨bY f c,e,.inl ⟨_,ah⟩⟩,h⟩,g⟩
section
variable{X:Cx}{F:Fx}{ke ve tg iter tg2 iter2:MV}{ifs ifs2:List MV}{pos:Od}{scope:OJ}{g g2:D->ag->M ag}{tc tc2:ag->M Bool}{tk tv:ag->M D}{tI tI2:ag->M (List D)}
theorem me(it:Mv)(D:MD)(env:Sl):Rm (.DictComp ke ve [⟨tg,iter,ifs,0⟩] scope pos) 0 it (.ref D) env=(do
   PV iter.pos;match<-OC it with
   |none=>pure (.done .next)|some v=>
    OG tg it v;Ra tg env v;let mut ok:=Mz;for c in ifs do if ok then ok<-Sd c env (N2 c env)
    if ok then iQ ke ve D env
    TF (.compLoop (.DictComp ke ve [⟨tg,iter,ifs,0⟩] scope pos) 0 it (.ref D) env)):=by
 unfold iQ;rfl
theorem xM(own fr:List M3)(js:List Nat)(b:X.calm=Mz)(hu:X.A.units<NV)(B:gA X.env.scope scope=Mz)(O:js.map (λj=>X.N[j]?)=fr.map Mt)(f:∀x∈fr,scope.names.lookup x=Mt .free)(u:js.Nodup)(hw:DI X F tg iter tI)(T:∀pins cl C fp s H,DG (aV X pins scope (own++fr) cl C fp s H) F tg g)(R:∀pins cl C fp s H,fC (aV X pins scope (own++fr) cl C fp s H) F ifs tc)(L:∀pins cl C fp s H,DE (aV X pins scope (own++fr) cl C fp s H) F ke tk)(E:∀pins cl C fp s H,DE (aV X pins scope (own++fr) cl C fp s H) F ve tv)(G:∀x,Ny iter X.env x=pure x)(hP:X.prog=F.P)(d:X.w=F.w):DU X F (.DictComp ke ve [⟨tg,iter,ifs,0⟩] scope pos) (λi=>do let ds<-tI i;let r<-iP g tc (tJ tk tv) ([],[]) ds (fQ i own.length js);pure (.bR r.1.1 r.1.2)):=by
  refine⟨hw.hK,λpins s l H I=>?_⟩;obtain⟨cl,c⟩:=jX I.ok B;have P:km X (.DictComp ke ve [⟨tg,iter,ifs,0⟩] scope pos) (iK own.length js (zf F tI) (qW F g) (fO F tc) (kr F (bK F tk) (bK F tv)) b_ oD) pins s l H:=⟨λQ z=>gB (ok:=Ee) (ob0:=b_) (newAcc:=Wh) (own:=own) (fr:=fr) (js:=js) (body:=λD env=>iQ ke ve D env) b c O f hw.pi rfl rfl (aW rfl rfl) (λh=>gK h) (λa ob v ok=>ok.2 v) ⟨rfl,λv z=>nomatch z⟩ (λz=>nomatch z) (λ_ _ _=>rfl) (λ_ _ _=>rfl) (λ_ _ _=>me _ _ _) (λpins C fp s H=>(T pins cl C fp s H).pg) (λpins C fp s H=>(R pins cl C fp s H).pi) (λpins C fp s H D o=>ku o hu hw.hK hP d (L pins cl C fp s H).pe (E pins cl C fp s H).pe) ju G pins s l H Q I z,λx Z Y gt D t y z=>jo (ok:=Ee) (ob0:=b_) (newAcc:=Wh) (own:=own) (fr:=fr) (js:=js) (body:=λD env=>iQ ke ve D env) b c O f hw.pi (λ_=>rfl) rfl (aW rfl rfl) (λh=>gK h) (λa ob v ok=>ok.2 v) ⟨rfl,λv z=>nomatch z⟩ (λz=>nomatch z) (λ_ _ _=>rfl) (λ_ _ _=>rfl) (λ_ _ _=>me _ _ _) (λpins C fp s H=>(T pins cl C fp s H).pg) (λpins C fp s H=>(R pins cl C fp s H).pi) (λpins C fp s H D o=>ku o hu hw.hK hP d (L pins cl C fp s H).pe (E pins cl C fp s H).pe) ju G pins s l H x Z Y gt D I t y z⟩;refine P.imp λQ m=>?_;obtain⟨i,k,S,h⟩:=m;refine⟨i,k,S,M.wk h λds k1 q J H1 e1 it=>?_⟩;have S1:=(S.mono e1).aV own.length u;refine xJ (So:=B4 F) (λh e=>h.mono e) tK it S1 ⟨[],ig,.nil⟩ q λa xs V U H' k' e2 S2 so W p K n=>?_;exact W _ _ ((e1.trans e2).trans (.new K)) (ky (k:=k') S2.live K n so)
theorem uR(own fr:List M3)(js:List Nat)(b:X.calm=Mz)(hu:X.A.units<NV)(R:gA X.env.scope scope=Mz)(V:js.map (λj=>X.N[j]?)=fr.map Mt)(i:∀x∈fr,scope.names.lookup x=Mt .free)(G:js.Nodup)(hm:X.A.mark MA=X.A)(hw:DI X F tg iter tI)(Y:∀pins cl C fp s H,DG (aV X pins scope (own++fr) cl C fp s H) F tg g)(W:∀pins cl C fp s H,fC (aV X pins scope (own++fr) cl C fp s H) F ifs tc)(u:∀pins cl C fp s H,DI (aV X pins scope (own++fr) cl C fp s H) F tg2 iter2 tI2)(O:∀pins cl C fp s H,DG (aV X pins scope (own++fr) cl C fp s H) F tg2 g2)(K:∀pins cl C fp s H,fC (aV X pins scope (own++fr) cl C fp s H) F ifs2 tc2)(hk:∀pins cl C fp s H,DE (aV X pins scope (own++fr) cl C fp s H) F ke tk)(hv:∀pins cl C fp s H,DE (aV X pins scope (own++fr) cl C fp s H) F ve tv)(T:∀x,Ny iter X.env x=pure x)(E:∀env x,Ny iter2 env x=pure x)(hP:X.prog=F.P)(t:X.w=F.w):DU X F (.DictComp ke ve [⟨tg,iter,ifs,0⟩,⟨tg2,iter2,ifs2,0⟩] scope pos) (λl=>do let ds<-tI l;let r<-iP g tc (Ko tI2 g2 tc2 (tJ tk tv)) ([],[]) ds (fQ l own.length js);pure (.bR r.1.1 r.1.2)):=by
  refine⟨hw.hK,λpins s m H I=>?_⟩;obtain⟨cl,c⟩:=jX I.ok R;have f:∀it D env,Rm (.DictComp ke ve [⟨tg,iter,ifs,0⟩,⟨tg2,iter2,ifs2,0⟩] scope pos) 0 (.ref it) (.ref D) env=(do
      PV iter.pos;match<-OC (.ref it)with
      |none=>pure (.done .next)|some v=>
        OG tg (.ref it) v;Ra tg env v;let mut ok:=Mz;for c in ifs do if ok then ok<-Sd c env (N2 c env)
        if ok then bV (.DictComp ke ve [⟨tg,iter,ifs,0⟩,⟨tg2,iter2,ifs2,0⟩] scope pos) iter2 (.ref D) env
        TF (.compLoop (.DictComp ke ve [⟨tg,iter,ifs,0⟩,⟨tg2,iter2,ifs2,0⟩] scope pos) 0 (.ref it) (.ref D) env)):=λit D env=>by unfold bV;simp only[bind_assoc];rfl
  have d:∀(pins:List (MD×NF))(C:MD)(fp:List MD)(s:Mx)(H:Hp)(D:MD),zS (aV X pins scope (own++fr) cl C fp s H) D->Body (aV X pins scope (own++fr) cl C fp s H) Ee D (bV (.DictComp ke ve [⟨tg,iter,ifs,0⟩,⟨tg2,iter2,ifs2,0⟩] scope pos) iter2 (.ref D) (aV X pins scope (own++fr) cl C fp s H).env) (fR (zf F tI2) (qW F g2) (fO F tc2) (kr F (bK F tk) (bK F tv))):=λpins C fp s H D o=>fT (pos0:=iter2.pos) (body:=iQ ke ve D (aV X pins scope (own++fr) cl C fp s H).env) o b (λ_ _ z=>z) (aW rfl rfl) hm (λ_=>rfl) (λ_=>rfl) (λ_=>by unfold iQ;rfl) (u pins cl C fp s H).pi (O pins cl C fp s H).pg (K pins cl C fp s H).pi (ku o hu hw.hK hP t (hk pins cl C fp s H).pe (hv pins cl C fp s H).pe) (E _);have P:km X (.DictComp ke ve [⟨tg,iter,ifs,0⟩,⟨tg2,iter2,ifs2,0⟩] scope pos) (iK own.length js (zf F tI) (qW F g) (fO F tc) (fR (zf F tI2) (qW F g2) (fO F tc2) (kr F (bK F tk) (bK F tv))) b_ oD) pins s m H:=⟨λQ z=>gB (ok:=Ee) (ob0:=b_) (newAcc:=Wh) (own:=own) (fr:=fr) (js:=js) (body:=λD env=>bV (.DictComp ke ve [⟨tg,iter,ifs,0⟩,⟨tg2,iter2,ifs2,0⟩] scope pos) iter2 (.ref D) env) b c V i hw.pi rfl rfl (aW rfl rfl) (λh=>gK h) (λa ob v ok=>ok.2 v) ⟨rfl,λv z=>nomatch z⟩ (λz=>nomatch z) (λ_ _ _=>rfl) (λ_ _ _=>rfl) f (λpins C fp s H=>(Y pins cl C fp s H).pg) (λpins C fp s H=>(W pins cl C fp s H).pi) d ju T pins s m H Q I z,λx p' p2 gt D B L z=>jo (ok:=Ee) (ob0:=b_) (newAcc:=Wh) (own:=own) (fr:=fr) (js:=js) (body:=λD env=>bV (.DictComp ke ve [⟨tg,iter,ifs,0⟩,⟨tg2,iter2,ifs2,0⟩] scope pos) iter2 (.ref D) env) b c V i hw.pi (λ_=>rfl) rfl (aW rfl rfl) (λh=>gK h) (λa ob v ok=>ok.2 v) ⟨rfl,λv z=>nomatch z⟩ (λz=>nomatch z) (λ_ _ _=>rfl) (λ_ _ _=>rfl) f (λpins C fp s H=>(Y pins cl C fp s H).pg) (λpins C fp s H=>(W pins cl C fp s H).pi) d ju T pins s m H x p' p2 gt D I B L z⟩;refine P.imp λQ n=>?_;obtain⟨l,k,S,h⟩:=n;refine⟨l,k,S,M.wk h λds k1 q J H1 e1 it=>?_⟩;have S1:=(S.mono e1).aV own.length G;refine xJ (So:=B4 F) (λh e=>h.mono e) (xK (So:=B4 F) (λh e=>h.mono e) tK) it S1 ⟨[],ig,.nil⟩ q λa xs a0 Z H' k' e2 S2 so q2 p U y=>?_;exact q2 _ _ ((e1.trans e2).trans (.new U)) (ky (k:=k') S2.live U y so)
end
theorem jT.sV{B:Fb}{H:Hp}{a:MD}{d:D}(h:jT B H a d):∃u,H a=Mt u:=by cases d with
 |lst e=>obtain⟨c,b,f⟩:=h;exact⟨_,b⟩|bR ks e=>obtain⟨o,c,b,_⟩:=h;exact⟨_,b⟩|set ks=>obtain⟨o,l,b,_⟩:=h;exact⟨_,b⟩|_=>exact h.elim
section
variable{X:Cx}{F:Fx}{σ:St}{H:Hp}{ρ:ag}{k:Nat}
theorem bp.jv{p:MD}{o':HO}{d:D}(S:bp F ρ k σ H)(i:Nat)(g:H p=MA)(h:jT F.toFb (upd H p o') p d):bp F (ρ.set i (Mt (.own d))) k (σ.set i (Mt (.ref p))) (upd H p o'):=by
 have m:=S.mono (Ext.new (F:=F.toFb) (k:=k) (o:=o') g);have ne:p≠F.p:=bY S.live g;have B:F.H0 p=MA:=by cases e:F.H0 p with
  |none=>rfl|some o=>have:=S.ext.keep p o ne e;rw[g]at this;cases this
 have f:∀{j:Nat}{y:W},ρ[j]?=Mt (Mt y)->y.wy=Mz->σ[j]?≠Mt (Mt (.ref p)):=λ{j y}e o z=>by
  obtain⟨v,c,l⟩:=S.at_ j y e;rw[z]at c;cases c;cases y with
  |own E=>
   obtain⟨b,C,_,_,q⟩:=l;cases C;obtain⟨u,q⟩:=q.sV;rw[g]at q;cases q|_=>cases o
 refine⟨by simp[S.len],λj x e=>?_,λt s x y v a e1 e2 r n s1=>?_,m.live,m.ext,m.jn⟩
 .rw[Ou]at e⊢;by_cases w:i=j
  .subst w;rw[if_pos rfl]at e⊢;split at e
   .rename_i A;cases e;rw[if_pos (by rw[<-S.len];exact A)];exact⟨_,rfl,p,rfl,ne,B,h⟩
   .cases e
  .rw[if_neg w]at e⊢;exact m.at_ j x e
 .rw[Ou]at e1 e2 s1⊢;by_cases c:i=t
  .subst c;rw[if_pos rfl]at s1;rw[if_neg a]at e2⊢;split at s1;.cases s1;exact f e2 n
   .cases s1
  .rw[if_neg c]at e1 s1;by_cases l:i=s
   .subst l;rw[if_pos rfl];split;.intro z;cases z;exact f e1 r s1
    .exactλz=>nomatch z
   .rw[if_neg l]at e2⊢;exact S.apart t s x y v a e1 e2 r n s1
end
section
variable{X:Cx}{F:Fx}{e:MV}{es:List MV}{tas:ag->M (List A)}{ta tk:ag->M D}{pos pos' lp:Od}{x:M3}
theorem AL(i:Nat)(hN:X.N.Nodup)(g:DA X F es tas)(q:X.N[i]?=Mt x)(o:Loc X.env.scope x)(r:X.fn x=Mz\/X.env.scope.names.lookup x=Mt .local):DS X F (.Assign [.Name x pos'] (.List es lp) pos) (λa=>do let ds<-dB (<-tas a);M.need (ds.length<=MP);pure (.nx (a.set i (Mt (.own (.lst ds)))))):=⟨g.hK,(bX (i:=i) hN q o (qC g.pa) rfl r).imp λZ u H b=>by
  obtain⟨a,k,S,h⟩:=b;refine mU.next S h λas l j v e1 t m s=>?_;obtain⟨ds,rfl,d⟩:=bh s;obtain⟨n,d⟩:=d;have f:=bj m;refine⟨by rw[f.length];exact n,λp c=>?_⟩;exact d _ _ (e1.trans (.new c)).kp (t.jv i c ⟨j,ah,f.mono (Ext.new (k:=l) c).kp⟩)⟩
theorem nk{P:MX}{w:M_}{H:Hp}{h:Na}{a:MD}{o:NF}(e:h.get? a=Mt o):aQ P w H h a (cD a o):=⟨e,⟨o,e⟩,λc b q st=>st _ q⟩
theorem AM(i:Nat)(hN:X.N.Nodup)(hK:X.K=F.K)(l:X.N[i]?=Mt x)(j:Loc X.env.scope x)(m:X.fn x=Mz\/X.env.scope.names.lookup x=Mt .local):DS X F (.Assign [.Name x pos'] (.Dict [] [] lp) pos) (λc=>pure (.nx (c.set i (Mt (.own (.bR [] [])))))):=by
 have pe:PE X (.Dict [] [] lp) (λ_ H Q=>∀p,H p=MA->(p==Pn)=My->Q (.ref p) (upd H p (cD p b_))):=λd s g H Q I h=>wpAny_Dict_empty ⟨.ref s.heap.objs.size,_,I.laid (a:=s.heap.objs.size) (o:=cD s.heap.objs.size b_) (t':=s.toks) (λ_ _ q=>Mw _ q) (MN _) (nk (MJ _ rfl)),rfl,h _ (I.ay.fresh (MN _)) (beq_eq_false_iff_ne.mpr (NO (M4 I.J4)))⟩;exact⟨hK,(bX (i:=i) hN l j pe rfl m).imp λZ g H⟨c,k,S,h⟩p f b=>h _ _ (Ext.new (k:=k) f).kp (S.jv i f ⟨_,[],ah,b,ig,.nil⟩)⟩
noncomputable def kz(a:ag)(i:Nat):Option D:=match a[i]? with
 |some (Mt (.own d))=>Mt d|_=>MA
theorem cL{a:ag}{i:Nat}{d:D}(h:kz a i=Mt d):a[i]?=Mt (Mt (.own d)):=by
 unfold kz at h;split at h;.rename_i y e;cases h;exact e
 .cases h
noncomputable def tL:D->M (List D)
 |.lst a=>pure a|_=>M.fail
theorem mf{d:D}{k Q E}(h:(tL d).run k Q E):∃xs,d=.lst xs/\Q xs k:=by cases d with
 |lst xs=>exact⟨xs,rfl,h⟩|_=>exact h.elim
theorem Ef(i:Nat){np q p:Od}(G:X.N[i]?=Mt x)(C:n6 X.env.scope x)(hd:(x==("__debug__":M3))=My)(n:(x==("__classdict__":M3))=My)(t:DE X F e ta)(E:(q.endLine==p.line)=Mz)(m:MS [e] X.env=(My,N2 e X.env)::MS [] X.env):DS X F (.Expr (.Call (.Attribute (.Name x np) "append" q) [e] [] p) pos) (λj=>do
   let ds<-tL (<-M.get (kz j i))let d<-ta j;M.need (ds.length<MP)pure (.nx (j.set i (Mt (.own (.lst (ds++[d]))))))):=by
 have pe:=Ge (X:=X) (name:="append") (apos:=q) (cpos:=p) TY PySem.F.slot_list_append (by rfl) um (cv (pos:=np) G C hd n) (a_ t.pe cR m) rfl (by rw[m];rfl) E m rfl;refine⟨t.hK,(mF pe rfl).imp λZ J H⟨j,k,S,h⟩=>?_⟩;obtain⟨K,w,h⟩:=M.run_get.mp h;obtain⟨ds,rfl,h⟩:=mf h;obtain⟨v,g,a,rfl,b⟩:=S.at_ i _ (cL w);obtain⟨l,s,ix⟩:=b.2.2;refine⟨_,g,.inl ⟨rfl,l,.inl (.inl s)⟩,?_⟩;refine bK.next S h λd r u y e1 I z o=>?_;obtain⟨B,o⟩:=o;have c:=e1.keep a _ b.1 s;have f:=ix.mono e1.kp;refine⟨a,l,u,rfl,rfl,c,by rw[f.length];exact B,?_⟩;have kp:Kp F.toFb y r (upd y a (.lst (l++[u]))) r:=Kp.own b.1 c rfl;refine o _ _ (e1.kp.trans kp) ?_;exact I.d3 (cL w) g b.1 b.2.1 c rfl ⟨a,rfl,b.1,b.2.1,l++[u],ah,(f.append (.cons z .nil)).mono kp⟩
end
section
variable{prog:MX}{w:M_}{A:Nc}{E:Mv->Mx->Prop}{s:Mx}
theorem lr{Q₁:Mv->Mx->Prop}(h:Q₁ (.ref s.heap.objs.size) {s with heap:=s.heap.push (aB w)}):codeAny (MO prog w) A (.call (.builtin "set.__new__") ⟨[.type "set"],[]⟩) (wants Q₁ E) s:=by
 refine PR ?_;show wpAny _ A.in1 (do Qd "set.__new__" ⟨[.type "set"],[]⟩;TF (.builtin "set.__new__" ⟨[.type "set"],[]⟩)) _ _ s;refine Ms (Px PySem.F.newCall_set_0 (Mu ⟨Oj QB _,NU UG ?_⟩));rw[NN QB _];unfold Builtin.«set.__new__»SQ;have a:=sub_set_self;obtain⟨c,g,d,b,os⟩:=s;dsimp only;wp_walk;refine N9 (Mu ?_);dsimp only;simp only[V5];refine Ms (Wb (Mu ?_));exact Mu h
theorem uS{Q:Mv->Mx->Prop}(h:Q (.ref s.heap.objs.size) {s with heap:=s.heap.push (aB w)}):wpAny (MO prog w) A (call (.type "set") []) Q E s:=by
 obtain⟨c,v,m⟩:=PySem.F.called_set.mro;have k:=PySem.F.called_set.made;have l:=PySem.F.called_set.sub;refine Ry (PR ?_);show wpAny _ _ (WH (.type "set") _) _ _ _;refine Mu ⟨O8 _ (by decide+kernel),NU TR ?_⟩;rw[Vt (UH "set" [] []) rfl];have z:=PySem.F.called_set.notType;have y:=PySem.F.called_set.canCreate;have o:=PySem.F.typeCall_set_0;repeat(any_goals(first|assumption|wp_step))
 refine OH (lr (E:=E) (Q₁:=λobj d=>obj=.ref s.heap.objs.size/\d={s with heap:=s.heap.push (aB w)}) ⟨rfl,rfl⟩) λr d j=>?_;cases r with
 |error e=>exact j|ok u=>cases u with
  |ret obj=>
   obtain⟨rfl,rfl⟩:=j;have t:(s.heap.push (aB w)).get? s.heap.objs.size=Mt (aB w):=MJ _ rfl;have q:Shared.TypeIs {s with heap:=s.heap.push (aB w)} (.ref s.heap.objs.size) "set":=⟨_,t,rfl⟩;have n:=PySem.F.called_set.init.lookup;have p:=PySem.F.called_set.init.bind (.ref s.heap.objs.size);repeat(any_goals(first|assumption|wp_step))
   refine OH (OL (R:=wants (λr b=>r=.none/\Q (.ref s.heap.objs.size) b) E) PySem.F.called_set.init.plain Uk (check_set_init q ?_)) λi b a=>?_
   .unfold Builtin.«set.__init__»noKeywords;wp_walk;exact⟨rfl,h⟩
   .cases i with
    |error e=>exact a|ok g=>cases g with
     |ret r=>
      obtain⟨rfl,x⟩:=a;repeat(any_goals(first|assumption|wp_step))|_=>exact a.elim
  |_=>exact j.elim
end
theorem mO.toT{P:MX}{w:M_}{h:Na}{a:MD}{t:Nk}(S:ST.mO P w h a [] t):ST.aI (ao P w) h a [] t:=by
 obtain⟨o,d,e,b,hex,hd,c⟩:=S.ob;exact⟨⟨o,d,e,b,hex,hd,c⟩,S.tab,S.n0,.nil,S.led⟩
theorem aI.L3{P:MX}{w:M_}{h:Na}{a:MD}{t:Nk}(S:ST.aI (ao P w) h a [] t)(d:t.plain=Mz):ST.mO P w h a [] t:=by
 obtain⟨o,e,f,b,hex,hd,c⟩:=S.ob;exact⟨⟨o,e,f,b,hex,hd,c⟩,S.tab,S.n0,.nil,S.led,d⟩
section
variable{B:Fb}{H:Hp}{o:NF}{l:List D}
theorem SetOf.BZ(h:SetOf B H o l)(c:∀x∈l,c7 x):∃xs,cj B.P B.w o xs/\l=xs.map (λx=>D.tup (x.1.map kD))/\∀x∈xs,TupAt B H x.2 (x.1.map kV):=by
 rcases h with h|⟨xs,so,rfl⟩;.exact h
 .cases xs with
  |nil=>exact⟨[],⟨so.1,so.2.1,λh a e=>let⟨t,S⟩:=so.2.2 h a e;⟨t,mO.toT S,λ_=>S.plain⟩⟩,rfl,λx b=>nomatch b⟩|cons x r=>
   obtain⟨k,e⟩:=c _ MG;cases e
theorem SetOf.Ly(h:SetOf B H o l)(d:∀x∈l,fV x):∃xs,jR B.P B.w o xs/\l=xs.map (λx=>D.int x.1):=by
 rcases h with⟨xs,so,rfl,f⟩|h;.cases xs with
  |nil=>exact⟨[],⟨so.1,so.2.1,λh a e=>let⟨t,S,b⟩:=so.2.2 h a e;⟨t,aI.L3 S (b λx c=>nomatch c)⟩⟩,rfl⟩|cons x r=>
   obtain⟨k,e⟩:=d _ MG;cases e
 .exact h
end
noncomputable def iR(l:List D)(d:D):Prop:=(∀x∈l,c7 x)/\c7 d\/(∀x∈l,fV x)/\fV d
section
variable{X:Cx}{F:Fx}
noncomputable def G6(F:Fx):V->List V->Hp->VK->Prop:=λx e H Q=>∃a y o l d,x=.ref a/\e=[y]/\H a=Mt (cD a o)/\SetOf F.toFb H o l/\Is F.toFb H y d/\l.length<4/\iR l d/\(d∈l->Q .aJ H)/\(d∉l->∀b c,c.Perm (d::l)->SetOf F.toFb H b c->Q .aJ (upd H a (cD a b)))
theorem dF{pins:List (MD×NF)}{σ:St}{H:Hp}{s:Mx}{a:MD}{o o':NF}{h':Na}{d:Nat}(I:Inv X pins σ H s)(e:H a=Mt (cD a o))(sb:NW a s.heap h')(c:h'.get? a=Mt o'):Inv X pins σ (upd H a (cD a o')) {s with heap:=h',toks:=d}:=I.write (x:=a) (e:=a) (by rw[e];exact trivial) (.inl rfl) (λb u f q=>(sb.2 b f).trans q) ⟨_,c⟩ (nk c)
theorem AN(hu:X.A.units+1<NV)(hK:X.K=F.K)(hP:X.prog=F.P)(hw:X.w=F.w):JZ X "set.add" (G6 F):=by
 intro a0 s σ H x ys v us Q I rx rv h;obtain⟨a,y,o,l,d,rfl,rfl,e,so,i,J,E,Z,Y⟩:=h;obtain⟨u,rfl,W⟩:=rv.one;cases(show v=MW a from rx);have ho:s.heap.get? a=Mt o:=(I.ay a _ e).1;rcases E with⟨E,k,rfl⟩|⟨E,k,rfl⟩
 .obtain⟨U,ob,rfl,V⟩:=so.BZ E;obtain⟨t,S,N⟩:=ob.2.2 s.heap a ho;rw[<-hP,<-hw]at S;simp only[Is]at i;obtain⟨b,ws,rfl,M,iw⟩:=i;have:=bJ iw;subst this;cases(show u=MW b from W);rw[MT]at J;have B:ST.dh (ao X.prog X.w) s.heap U:=λx C=>bG I (by rw[hK];exact(V x C).2);refine gD hu S B (bG I (by rw[hK];exact M.2)) J (λc L=>?_) λj h' f t' L sb G r pl=>?_
  .obtain⟨z,n,rfl⟩:=List.mem_map.mp c;exact⟨.aJ,H,I.tok _,rfl,Z (List.mem_map.mpr ⟨z,n,rfl⟩)⟩
  .obtain⟨O,R,T,m,_⟩:=id G.ob;have g:=cj.of G m λq=>pl (N λx C=>q x (r.mem_iff.mpr (MM _ C))) (eJ I (by rw[hK];exact M.2) (q (k,b) (r.mem_iff.mpr MG)));rw[hP,hw]at g;refine⟨.aJ,_,dF I e sb m,rfl,Y (λc=>j ?_) O (f.map λx=>D.tup (x.1.map kD)) (r.map _) (.inl ⟨f,g,rfl,λx C=>?_⟩)⟩
   .obtain⟨z,n,p⟩:=List.mem_map.mp c;injection p with p;rw[<-cJ p];exact Np n
   .rcases List.mem_cons.mp (r.mem_iff.mp C)with rfl|z;.exact M
    .exact V x z
 .obtain⟨U,ob,rfl⟩:=so.Ly E;obtain⟨t,S⟩:=ob.2.2 s.heap a ho;rw[<-hP,<-hw]at S;simp only[Is]at i;subst i;obtain⟨a1,rfl⟩:=(show∃t,u=Qt k t from W);rw[MT]at J;refine m6 S J (λc L=>?_) λj h' f t' L sb G r=>?_
  .obtain⟨z,n,rfl⟩:=List.mem_map.mp c;exact⟨.aJ,H,I.tok _,rfl,Z (List.mem_map.mpr ⟨z,n,rfl⟩)⟩
  .obtain⟨O,R,T,m,_⟩:=id G.ob;have g:=jR.of G m;rw[hP,hw]at g;refine⟨.aJ,_,dF I e sb m,rfl,Y (λc=>j ?_) O (f.map λx=>D.int x.1) (r.map _) (.inr ⟨f,g,rfl⟩)⟩;obtain⟨z,n,p⟩:=List.mem_map.mp c;injection p with p;rw[<-p];exact Np n
end
section
variable{X:Cx}{F:Fx}{o e:MV}{es:List MV}{to:TE}{t:TA}{name:M3}{apos cpos:Od}{T id:String}{r:V->List V->Hp->VK->Prop}{ty:V->Hp->Prop}
theorem rD(D:∀{pins:List (MD×NF)}{σ:St}{H:Hp}{s:Mx}{x:V}{v:Mv},Inv X pins σ H s->RelV x v->ty x H->s.TypeIs v T/\∀a,v=.ref a->∃ob,s.heap.get? a=Mt ob/\ob.dict=MA)(pa:Vr T)(slot:Slot T name id)(j:V3 (.builtin id)=pure (.type "method_descriptor"))(B:F_ X id r)(A:PE X o to)(C:PA X (e::es) t)(d:Pw o name X.env (N2 o X.env)=N2 o X.env)(f:((Og cpos (MS (e::es) X.env)).all (λx=>!x.1)&&(UP cpos (R7 [] X.env)).all (λx=>x.1.isSome)&&decide ((e::es).length+([]:List Q7).length+(if([]:List Q7).isEmpty then 0 else 1)<30))=Mz)(c:(apos.endLine==cpos.line)=Mz)(z:MS (e::es) X.env=(My,N2 e X.env)::MS es X.env)(b:(Og cpos (MS es X.env)).any (·.1)=My):PE X (.Call (.Attribute o name apos) (e::es) [] cpos) (λσ H Q=>to σ H λx g=>ty x g/\t σ g λxs k=>r x xs k Q):=by
 intro pins s σ H Q I h;refine Ue d f c rfl (aU (A pins s σ H _ I h) λv s1 i=>?_);obtain⟨x,g,n,l,ty,y⟩:=i;obtain⟨G,E⟩:=D n l ty;refine⟨T,id,pa,slot,j,G,E,?_⟩;have m:=C cpos pins s1 σ g _ n y;rw[z]at m⊢;refine RP (by show(My||(Og cpos (MS es X.env)).any (·.1))=My;rw[b]<;>rfl) (QR ?_);exact aU m λq s2⟨p,k,J,u,w⟩=>B pins s2 σ k x p v q Q J l u w
end
section
variable{X:Cx}{F:Fx}{e ke:MV}{ta tk:ag->M D}{pos pos' lp:Od}{x y:M3}
theorem AO(i:Nat){np:Od}(hN:X.N.Nodup)(hK:X.K=F.K)(hP:X.prog=F.P)(hw:X.w=F.w)(l:X.mg "set"=MA)(n:Gl X "set")(m:X.N[i]?=Mt x)(b:Loc X.env.scope x)(t:X.fn x=Mz\/X.env.scope.names.lookup x=Mt .local):DS X F (.Assign [.Name x pos'] (.Call (.Name "set" np) [] [] lp) pos) (λc=>pure (.nx (c.set i (Mt (.own (.set [])))))):=by
 have u:cf X (.type "set") (λj H Q=>j=[]/\∀p,H p=MA->Q (.ref p) (upd H p (cD p (aB X.w)))):=by
  intro d s g H A B Q I r⟨z,v⟩;subst z;cases r;exact uS ⟨.ref s.heap.objs.size,_,I.laid (a:=s.heap.objs.size) (o:=cD s.heap.objs.size (aB X.w)) (t':=s.toks) (λ_ _ q=>Mw _ q) (MN _) (nk (MJ _ rfl)),rfl,v _ (I.ay.fresh (MN _))⟩
 refine⟨hK,(bX (i:=i) hN m b (qG (p:=np) (pos:=lp) u n l (by decide+kernel)) rfl t).imp λZ g H⟨c,k,S,h⟩=>⟨rfl,λp f=>?_⟩⟩;refine h _ _ (Ext.new (k:=k) f).kp (S.jv i f ⟨_,[],ah,.refl _,.inl ⟨[],?_,rfl,λx b=>nomatch b⟩⟩);rw[hw];exact m_ _ _
noncomputable def xN:D->M (List D)
 |.set a=>pure a|_=>M.fail
theorem uT{d:D}{k Q E}(h:(xN d).run k Q E):∃xs,d=.set xs/\Q xs k:=by cases d with
 |set xs=>exact⟨xs,rfl,h⟩|_=>exact h.elim
noncomputable def G7(T:String)(x:V)(H:Hp):Prop:=∃a o,x=.ref a/\H a=Mt (cD a o)/\o.cls=.type T/\o.dict=MA
theorem AQ{T:String}{pins:List (MD×NF)}{σ:St}{H:Hp}{s:Mx}{x:V}{v:Mv}(I:Inv X pins σ H s)(r:RelV x v)(h:G7 T x H):s.TypeIs v T/\∀a,v=.ref a->∃ob,s.heap.get? a=Mt ob/\ob.dict=MA:=by
 obtain⟨a,o,rfl,e,f,d⟩:=h;cases(show v=MW a from r);have c:s.heap.get? a=Mt o:=(I.ay a _ e).1;exact⟨⟨o,c,f⟩,λb q=>by cases q;exact⟨o,c,d⟩⟩
theorem uU{B:Fb}{H:Hp}{o:NF}{l:List D}(h:SetOf B H o l):o.cls=.type "set"/\o.dict=MA:=by
 rcases h with⟨f,so,_⟩|⟨f,so,_⟩
 .obtain⟨t,S,_⟩:=so.2.2 ((default:Na).push o) _ (MJ _ (notFreed so.1));obtain⟨g,i,j,a,hex,_⟩:=S.ob;rw[MJ _ (notFreed so.1)]at a;cases a;exact⟨hex.1,hex.2.1⟩
 .obtain⟨t,S⟩:=so.2.2 ((default:Na).push o) _ (MJ _ (notFreed so.1));obtain⟨g,i,j,a,hex,_⟩:=S.ob;rw[MJ _ (notFreed so.1)]at a;cases a;exact⟨hex.1,hex.2.1⟩where notFreed{o:NF}(h:o.data≠.freed):o.isFreed=My:=by cases o;rename_i c d b k;cases b<;>first|rfl|exact absurd rfl h
noncomputable def uV(l:List D)(d:D):List D:=if l.any (be d)then l else l++[d]
theorem mh{l:List D}{d:D}(h:iR l d):l.any (be d)=Mz↔d∈l:=by
 have a:∀x∈l,(be d x=Mz↔d=x):=λx b=>by
  rcases h with⟨c,k,rfl⟩|⟨c,k,rfl⟩
  .obtain⟨f,rfl⟩:=c x b;rw[dE,decide_eq_true_iff];constructor;.rintro rfl;rfl
   .intro z;injection z with z;exact cJ z
  .obtain⟨f,rfl⟩:=c x b;simp[be,iN]
 rw[TZ];constructor
 .rintro⟨x,b,q⟩;rw[(a x b).mp q];exact b
 .intro q;exact⟨d,q,(a d q).mpr rfl⟩
theorem Eg(i:Nat){np T R:Od}(hu:X.A.units+1<NV)(hP:X.prog=F.P)(hw:X.w=F.w)(hi:X.N[i]?=Mt x)(hv:n6 X.env.scope x)(hd:(x==("__debug__":M3))=My)(K:(x==("__classdict__":M3))=My)(L:DE X F e ta)(Y:(T.endLine==R.line)=Mz)(C:MS [e] X.env=(My,N2 e X.env)::MS [] X.env):DS X F (.Expr (.Call (.Attribute (.Name x np) "add" T) [e] [] R) pos) (λg=>do
   let ds<-xN (<-M.get (kz g i))let d<-ta g;M.need (ds.length<4/\iR ds d)pure (.nx (g.set i (Mt (.own (.set (uV ds d))))))):=by
 have pe:=rD (X:=X) (name:="add") (apos:=T) (cpos:=R) (ty:=G7 "set") (λI r h=>AQ I r h) PySem.F.plainAttrs_set R_ (by rfl) (AN (F:=F) hu L.hK hP hw) (cv (pos:=np) hi hv hd K) (a_ L.pe cR C) rfl (by rw[C];rfl) Y C rfl;refine⟨L.hK,(mF pe rfl).imp λZ σ H⟨g,k,S,h⟩=>?_⟩;obtain⟨d0,Q,h⟩:=M.run_get.mp h;obtain⟨ks,rfl,h⟩:=uT h;obtain⟨v,m,a,rfl,c⟩:=S.at_ i _ (cL Q);obtain⟨o,l,W,j,so⟩:=c.2.2;obtain⟨c1,c2⟩:=uU so;refine⟨_,m,⟨a,o,rfl,W,c1,c2⟩,?_⟩;refine bK.next S h λd V u H1 e1 S1 i1 b=>?_;obtain⟨⟨hn,G⟩,b⟩:=b;have f:=e1.keep a _ c.1 W;have p:=so.mono e1.kp;have E:iR l d:=by
  rcases G with⟨b,O⟩|⟨b,O⟩;.exact .inl ⟨λx B=>b x (j.mem_iff.mp B),O⟩
  .exact .inr ⟨λx B=>b x (j.mem_iff.mp B),O⟩
 refine⟨a,u,o,l,d,rfl,rfl,f,p,i1,by rw[j.length_eq];exact hn,E,λJ=>?_,λn U l' t s=>?_⟩
 .have e:uV ks d=ks:=by unfold uV;rw[if_pos ((mh G).mpr (j.mem_iff.mp J))]
  rw[e]at b;have:g.set i (Mt (.own (.set ks)))=g:=by
   have q:=cL Q;obtain⟨Y,q⟩:=List.getElem?_eq_some_iff.mp q;rw[<-q,List.set_getElem_self]
  rw[this]at b;exact b _ _ e1.kp S1
 .have e:uV ks d=ks++[d]:=by unfold uV;rw[if_neg (λz=>n (j.mem_iff.mpr ((mh G).mp z)))]
  rw[e]at b;have kp:Kp F.toFb H1 V (upd H1 a (cD a U)) V:=Kp.own c.1 f rfl;refine b _ _ (e1.kp.trans kp) ?_;refine S1.d3 (cL Q) m c.1 c.2.1 f rfl ⟨a,rfl,c.1,c.2.1,U,l',ah,?_,s.mono kp⟩;exact t.trans ((List.Perm.cons d j).trans (List.perm_append_singleton d ks).symm)
noncomputable def tM:D->M (List D×List D)
 |.bR ks a=>pure (ks,a)|_=>M.fail
theorem uW{d:D}{k Q E}(h:(tM d).run k Q E):∃ks ds,d=.bR ks ds/\Q (ks,ds) k:=by cases d with
 |bR ks ds=>exact⟨ks,ds,rfl,h⟩|_=>exact h.elim
theorem Eh(i:Nat){np:Od}(hu:X.A.units+1<NV)(hP:X.prog=F.P)(hw:X.w=F.w)(hi:X.N[i]?=Mt x)(hv:n6 X.env.scope x)(hd:(x==("__debug__":M3))=My)(Y:(x==("__classdict__":M3))=My)(hk:DE X F ke tk)(ha:DE X F e ta)(hs:O4 e (Mt (.Subscript (.Name x np) ke pos')) pos.line X.env=pure My):DS X F (.Assign [.Subscript (.Name x np) ke pos'] e pos) (λf=>do
   let d<-ta f;let b<-tM (<-M.get (kz f i))let q<-tk f;M.need (b.1.length<MP/\kinds b.1 q)pure (.nx (f.set i (Mt (.own (.bR (putD b.1 b.2 q d).1 (putD b.1 b.2 q d).2)))))):=by
 refine⟨ha.hK,λc s B H Z I⟨f,k,S,h⟩=>?_⟩;let R2:D->List D×List D->D->M Fl:=λd b q=>do
  M.need (b.1.length<MP/\kinds b.1 q)pure (.nx (f.set i (Mt (.own (.bR (putD b.1 b.2 q d).1 (putD b.1 b.2 q d).2)))))
 let R:D->M Fl:=λd=>do
  let b<-tM (<-M.get (kz f i))let q<-tk f;R2 d b q
 refine wpAny_Assign_Subscript (aU (ha.pe c s B H (λu z=>∃d n,Ext F.toFb H k z n/\bp F f n B z/\Is F.toFb z u d/\(R d).run n (uz F Z H k) F.E) I (bK.next S h λd n u z e1 K U p=>⟨d,n,e1,K,U,p⟩)) λr s1⟨u,z,I1,ru,d,n,e1,K,U,p⟩=>?_) hs;obtain⟨d0,h0,p⟩:=M.run_get.mp p;obtain⟨ks,ds,rfl,p⟩:=uW p;obtain⟨v,G,a,rfl,m⟩:=K.at_ i _ (cL h0);refine aU (cv (pos:=np) hi hv hd Y c s1 B z (λv L=>v=.ref a/\L=z) I1 ⟨_,G,rfl,rfl⟩) λov s2 l=>?_;obtain⟨w,L,I2,Q,ew,eH⟩:=l;subst ew eH;cases(show ov=MW a from Q);refine aU (hk.pe c s2 B L (λy t=>∃q j,Ext F.toFb L n t j/\bp F f j B t/\Is F.toFb t y q/\(R2 d (ks,ds) q).run j (uz F Z H k) F.E) I2 (bK.next K p λq j y t e3 S3 T J=>⟨q,j,e3,S3,T,J⟩)) λkv s3 l=>?_;obtain⟨y,t,I3,ry,q,j,e3,S3,T,J⟩:=l;obtain⟨⟨hz,W⟩,J⟩:=J;obtain⟨o,xs,ho,C,dd,ia⟩:=m.2.2;have g:=e3.keep a _ m.1 ho;have V:s3.heap.get? a=Mt o:=(I3.ay a _ g).1;refine ph (F:=F) hu I3 ha.hK hP hw (dd.mono e3.kp) V (ia.mono e3.kp) T ry (U.mono e3.kp) ru W hz λh' o' tk sb eo po=>?_;obtain⟨⟨O,d1,d2⟩,_⟩:=po;have kp:Kp F.toFb t j (upd t a (cD a o')) j:=Kp.own m.1 g rfl;refine⟨B,_,dF I3 g sb eo,J _ _ (((e1.trans e3).kp).trans kp) ?_⟩;exact S3.d3 (cL h0) G m.1 m.2.1 g rfl ⟨a,rfl,m.1,m.2.1,o',O,ah,C,d1.mono kp,d2.mono kp⟩
end
section
variable{X:Cx}{F:Fx}{e:MV}{ta:ag->M D}{pos pos' lp:Od}{x y:M3}
theorem eU{B:Fb}{H:Hp}:∀{xs:List V}{ds:List D},af B H xs ds->af B H xs.dropLast ds.dropLast
 |_,[],h=>by simp only[af]at h;rw[h];exact .nil|_,[d],h=>by
  simp only[af]at h;obtain⟨x,f,rfl,_,a⟩:=h;rw[a];exact .nil|_,d::j::ds,h=>by
  simp only[af]at h;obtain⟨x,f,rfl,g,i,c,rfl,b,a⟩:=h;exact .cons g (eU (.cons b a))
theorem Ei(i j:Nat){np p o:Od}(hN:X.N.Nodup)(hK:X.K=F.K)(A:X.N[i]?=Mt x)(t:n6 X.env.scope x)(hd:(x==("__debug__":M3))=My)(n:(x==("__classdict__":M3))=My)(z:X.N[j]?=Mt y)(s:Loc X.env.scope y)(B:X.fn y=Mz\/X.env.scope.names.lookup y=Mt .local)(w:(p.endLine==o.line)=Mz):DS X F (.Assign [.Name y pos'] (.Call (.Attribute (.Name x np) "pop" p) [] [] o) pos) (λl=>do
   let ds<-tL (<-M.get (kz l i))let d<-M.get ds[ds.length-1]?;pure (.nx ((l.set i (Mt (.own (.lst ds.dropLast)))).set j (Mt (.d d))))):=by
 have pe:=C6 (X:=X) (name:="pop") (apos:=p) (cpos:=o) TY PySem.F.slot_list_pop (by rfl) C7 (cv (pos:=np) A t hd n) rfl w;refine⟨hK,(bX (i:=j) hN z s pe rfl B).imp λZ E H⟨l,k,S,h⟩=>?_⟩;obtain⟨G,q,h⟩:=M.run_get.mp h;obtain⟨ds,rfl,h⟩:=mf h;obtain⟨d,m,h⟩:=M.run_get.mp h;obtain⟨v,f,a,rfl,b⟩:=S.at_ i _ (cL q);obtain⟨c,g,ix⟩:=b.2.2;obtain⟨u,hu,r⟩:=ix.get m;refine⟨_,f,.inl ⟨rfl,c,.inl (.inl g)⟩,a,c,u,rfl,rfl,g,by rw[ix.length];exact hu,?_⟩;have kp:Kp F.toFb H k (upd H a (.lst c.dropLast)) k:=Kp.own b.1 g rfl;refine h _ _ kp ?_;have C:=S.d3 (o':=.lst c.dropLast) (w':=.own (.lst ds.dropLast)) (cL q) f b.1 b.2.1 g rfl ⟨a,rfl,b.1,b.2.1,c.dropLast,ah,(eU ix).mono kp⟩;exact C.set j (r.mono kp)
end
noncomputable def xO:D->Option (List D)
 |.tup a=>Mt a|.lst a=>Mt a|.bR ks _=>Mt ks|_=>MA
section
variable{X:Cx}{F:Fx}
theorem AR{tg a:MV}{Y:ag->M D}(j:DE X F a Y):DI X F tg a (λW=>do M.get (xO (<-Y W))):=⟨j.hK,λf s σ H R I G=>by
  obtain⟨W,k,S,h⟩:=G;refine aU (j.pe f s σ H _ I (bK.next S h (Q:=λv c=>∃d m u,Ext F.toFb H k c m/\Is F.toFb c v d/\xO d=Mt u/\c F.p≠MA/\(∀J V,Ext F.toFb H k V m->jW F.toFb J u V m->R J V)) λd m v c e1 S1 g B=>by
   obtain⟨u,e,U⟩:=M.run_get.mp B;exact⟨d,m,u,e1,g,e,S1.live,U⟩)) λv s1⟨x,c,l,N,d,m,u,e1,g,C,lv,q⟩=>?_;have Ww:∀b∈[s1.heap.objs.size],cz X f c b:=λb hb=>by
   have e:b=s1.heap.objs.size:=by simpa using hb
   subst e;exact l.uf (MN _) (l.ay.fresh (MN _))
  cases d with
  |tup xs=>
   cases C;simp only[Is]at g;obtain⟨a,w,rfl,t,A⟩:=g;cases(show v=MW a from N);obtain⟨r,L,p,n⟩:=l.tuple (show iE X.K c a w by rw[j.hK];exact t.2);refine RA (show s1.heap.IsTuple a r.toArray from p) ?_;exact⟨s1.heap.objs.size,[s1.heap.objs.size],_,_,c,rfl,l.kept (t':=s1.toks) λb o e=>Mw _ e,qw a _,⟨_,MJ _ rfl,rfl,rfl⟩,Ww,q _ c e1 (by rw[j.hK];exact wR t A n)⟩|lst xs=>
   cases C;simp only[Is]at g;obtain⟨a,w,rfl,t,A⟩:=g;cases(show v=MW a from N);obtain⟨r,L,p,n⟩:=l.list (show cP X.K c a w by rw[j.hK];exact t.2.sq);refine PZ p.isList ?_;exact⟨s1.heap.objs.size,[s1.heap.objs.size],_,_,c,rfl,l.kept (t':=s1.toks) λb o e=>Mw _ e,ug a _,⟨_,MJ _ rfl,rfl,rfl⟩,Ww,q _ c e1 (by rw[j.hK];exact wQ t A n)⟩|bR ks a1=>
   cases C;simp only[Is]at g;obtain⟨a,w,rfl,⟨o,O,dd⟩,A⟩:=g;cases(show v=MW a from N);obtain⟨a0,es,ep,hx,hd,L,ik⟩:=xH dd;have ho:=O.get l j.hK;have lt:a<s1.heap.objs.size:=MH ho;refine DictIt.zT O.2.1 ho hx.1 hd ?_;refine⟨s1.heap.objs.size,[s1.heap.objs.size],_,_,_,rfl,l.kept (t':=s1.toks) λb o e=>Mw _ e,rC (K:=X.K) hd L (M4 lt),⟨_,MJ _ rfl,rfl,rfl⟩,Ww,q _ _ e1 ?_⟩;have Z:∀{E:Hp}{P:Nat},Kp F.toFb c m E P->Km X.K E a o:=λe=>by
    rcases(O.mono e).2.2 with z|z;.exact .inl z
    .exact .inr (by rw[j.hK];exact z)
   refine⟨λi d E P T e2 l2=>?_,λE P e2 l2=>⟨Z e2,by rw[ik.length];exact MN _⟩,dd.1⟩;obtain⟨y,B,U⟩:=(ik.mono e2).get T;refine⟨⟨Z e2,(List.getElem?_eq_some_iff.mp B).1⟩,λz H3 yl=>?_⟩;obtain⟨rfl,n⟩:=yl;rw[B]at n;cases n;exact⟨.refl,U⟩|_=>cases C⟩
noncomputable def Ej:D->Option Bool
 |.aJ=>Mt My|.bl b=>Mt b|.int i=>Mt (i !=0)|.str y=>if y.length<=MP then Mt ((y.length:Int)!=0)else MA|.tup a=>Mt (!a.isEmpty)|.lst a=>Mt (!a.isEmpty)|_=>MA
theorem iS{B:Fb}{H:Hp}{xs:List V}{ds:List D}(h:af B H xs ds):xs.isEmpty=ds.isEmpty:=by
 have:=h.length;cases xs<;>cases ds<;>first|rfl|simp at this
theorem Ek{e:MV}{t:ag->M D}(h:DE X F e t)(r:∀whole,Sd e X.env whole=(do let v<-whole;PV e.pos;RN [v] (truthy v))):DT X F e (λo=>do M.get (Ej (<-t o))):=⟨h.hK,(vY h.pe r).imp λx H Q j=>by
  obtain⟨o,k,S,z⟩:=j;refine bK.next S z λd A v w e1 B f u=>?_;obtain⟨b,g,s⟩:=M.run_get.mp u;refine⟨b,?_,s w e1⟩;cases d with
  |aJ=>cases g;simp only[Is]at f;rw[f];rfl|bl c=>cases g;simp only[Is]at f;rw[f];rfl|int i=>cases g;simp only[Is]at f;rw[f];rfl|str y=>
   simp only[Ej]at g;split at g
   .rename_i q;cases g;simp only[Is]at f;rw[f];exact⟨q,rfl⟩
   .cases g|tup p=>
   cases g;simp only[Is]at f;obtain⟨a,l,rfl,n,m⟩:=f;exact .inr (.inl ⟨l,by rw[h.hK];exact n.2,by rw[iS m]⟩)|lst p=>
   cases g;simp only[Is]at f;obtain⟨a,l,rfl,n,m⟩:=f;exact .inl ⟨l,by rw[h.hK];exact n.2.sq,by rw[iS m]⟩|_=>cases g⟩
end
section
variable{prog:MX}{w:M_}{A:Nc}{R:Wn->Mx->Prop}{I:MD}{fp wr:List MD}{n:Nat}{P:Nat->Mv->Prop}{St:Nat->Na->Prop}
theorem uX(W:Wv prog w A.in1 I fp wr n P St)(B:Nat->Nat->Bool)(G:Na->Prop)(S:MD)(H:S∉fp)(Y:∀h h',G h->(∀b o,b∉wr->b≠S->h.get? b=Mt o->h'.get? b=Mt o)->G h')(D:∀(j:Nat)T O(s:Mx)(Q:Mv->Mx->Prop)(E:Mv->Mx->Prop),j+1<n->G s.heap->P (j+1) T->P (NK B j) O->Q (.bool (B (j+1) (NK B j))) s->wpAny (MO prog w) A.in1 (Pg .Gt T O) Q E s):∀(k j:Nat)(s:Mx)(p:Mv)(c:Nat),n-(j+1)=k->j+1<=n->St (j+1) s.heap->G s.heap->P (NK B j) p->s.heap.get? S=Mt {cls:=.type "list",dict:=MA,data:=.seq #[p,p] c,slots:=#[]}->(∀v h' K,P (NK B (n-1)) v->(∀b o,b∉wr->b≠S->s.heap.get? b=Mt o->h'.get? b=Mt o)->R (.ok (.ret v)) {s with heap:=h',toks:=K})->codeAny (MO prog w) A (.builtin "max.loop" ⟨[.ref I,.none,.ref S],[]⟩) R s:=by
 have F:S∉wr:=λh=>H (W.sub _ h);have i:(toString "max"++toString ".loop":String)="max.loop":=by decide
 intro k;induction k with
 |zero=>
  intro j s p c Z hj u V r J L;have C:j+1=n:=by omega
  refine NU RU ?_;rw[NN OD _];show wpAny _ A.in1 (RH (.ref S)>>=_) _ _ s;refine Ms (NH J rfl ?_);show wpAny _ A.in1 (tryCatch (OC (.ref I)) _>>=_) _ _ s;refine Ms (Pf (W.done s _ _ (C▸u) λh' K f=>?_));have m:=f S _ F J;show wpAny _ A.in1 (R4 S (λ_=>#[])>>=_) _ _ _;refine Ms ?_;refine OI m rfl (Ms (Ph (Mu ?_)));refine L p _ K (by rw[<-C];exact r) λb o a d e=>(MQ _ _ (NO d)).trans (f b o a e)|succ k U=>
  intro j s p c Z hj u V r J L;have q:j+1<n:=by omega
  refine NU RU ?_;rw[NN OD _];show wpAny _ A.in1 (RH (.ref S)>>=_) _ _ s;refine Ms (NH J rfl ?_);show wpAny _ A.in1 (tryCatch (OC (.ref I)) _>>=_) _ _ s;refine Ms (Pf (W.item (j+1) s _ _ q u λv h' K hP t f=>?_));have m:=f S _ F J;have x:G h':=Y _ _ V λb o a _ e=>f b o a e;show wpAny _ A.in1 (tryCatch (RN [v,v] (Pg .Gt v p>>=_)) _>>=_) _ _ _;refine Ms (Pf (M2 (Ms (D j v p _ _ _ q x hP r ?_))));refine Ms (M2 (N_ ?_));refine Ms (Ph (Mu ?_));cases X:B (j+1) (NK B j)with
  |true=>
   simp only[if_true];refine Ms ?_;refine OI m rfl (Ms (Ph ?_));rw[i];refine Mu ⟨Oj OD _,U (j+1) _ v _ (by omega) q (W.frame _ _ _ t λb N o e=>?_) (Y _ _ x λb o _ d e=>(MQ _ _ (NO d)).trans e) (by simp only[NK,X,if_true];exact hP) (M6 _ m rfl) λM z g y l=>?_⟩;.exact(MQ _ _ (λh:S=b=>H (by rw[h];exact N))).trans e
   .exact L M z g y λb o a d e=>l b o a d ((MQ _ _ (NO d)).trans (f b o a e))|false=>
   simp only[M0,if_false];refine Ms (Ph ?_);rw[i];refine Mu ⟨Oj OD _,U (j+1) _ p c (by omega) q t x (by simp only[NK,X,M0,if_false];exact r) m λM z g y l=>?_⟩;exact L M z g y λb o a d e=>l b o a d (f b o a e)
theorem rE(W:Wv prog w A.in1 I fp wr n P St)(r:Nat->Nat->Bool)(G:Na->Prop)(S:MD)(i:S∉fp)(B:∀h h',G h->(∀b o,b∉wr->b≠S->h.get? b=Mt o->h'.get? b=Mt o)->G h')(p:∀(j:Nat)F D(s:Mx)(Q:Mv->Mx->Prop)(E:Mv->Mx->Prop),j+1<n->G s.heap->P (j+1) F->P (NK r j) D->Q (.bool (r (j+1) (NK r j))) s->wpAny (MO prog w) A.in1 (Pg .Gt F D) Q E s)(J:0<n){s:Mx}{c:Nat}(t:St 0 s.heap)(M:G s.heap)(K:s.heap.get? S=Mt {cls:=.type "list",dict:=MA,data:=.seq #[] c,slots:=#[]})(N:∀v h' H,P (NK r (n-1)) v->(∀b o,b∉wr->b≠S->s.heap.get? b=Mt o->h'.get? b=Mt o)->R (.ok (.ret v)) {s with heap:=h',toks:=H}):codeAny (MO prog w) A (.builtin "max.loop" ⟨[.ref I,.none,.ref S],[]⟩) R s:=by
 have y:S∉wr:=λh=>i (W.sub _ h);have f:(toString "max"++toString ".loop":String)="max.loop":=by decide
 refine NU RU ?_;rw[NN OD _];show wpAny _ A.in1 (RH (.ref S)>>=_) _ _ s;refine Ms (NH K rfl ?_);show wpAny _ A.in1 (tryCatch (OC (.ref I)) _>>=_) _ _ s;refine Ms (Pf (W.item 0 s _ _ J t λv h' H hP l g=>?_));have q:=g S _ y K;have u:G h':=B _ _ M λb o a _ e=>g b o a e;show wpAny _ A.in1 (R4 S (λ_=>#[v,v])>>=_) _ _ _;refine Ms ?_;refine OI q rfl ?_;rw[f];refine Mu ⟨Oj OD _,uX W r G S i B p _ 0 _ v _ rfl J (W.frame _ _ _ l λb x o e=>?_) (B _ _ u λb o _ d e=>(MQ _ _ (NO d)).trans e) hP (M6 _ q rfl) λL C k z m=>?_⟩;.exact(MQ _ _ (λh:S=b=>i (by rw[h];exact x))).trans e
 .exact N L C k z λb o a d e=>m b o a d ((MQ _ _ (NO d)).trans (g b o a e))
theorem rF{E:Mv->Mx->Prop}{s:Mx}{a b:Mv}{Q:Mv->Mx->Prop}(h:wpAny (MO prog w) A.in1 (RZ (.ref s.heap.objs.size)) (λit c=>∃I fp wr n P St i,it=.ref I/\Wv prog w A.in1 I fp wr n P St/\St 0 c.heap/\(∀b∈fp,b<c.heap.objs.size)/\0<n/\(∀b o,s.heap.get? b=Mt o->c.heap.get? b=Mt o)/\(∀b∈wr,s.heap.objs.size<=b)/\s.heap.objs.size<=c.heap.objs.size/\(∀(j:Nat)B y(s':Mx)(Q:Mv->Mx->Prop)(E:Mv->Mx->Prop),j+1<n->(∀b o,s.heap.get? b=Mt o->s'.heap.get? b=Mt o)->P (j+1) B->P (NK i j) y->Q (.bool (i (j+1) (NK i j))) s'->wpAny (MO prog w) A.in1 (Pg .Gt B y) Q E s')/\∀v h' p,P (NK i (n-1)) v->(∀b o,s.heap.get? b=Mt o->h'.get? b=Mt o)->Q v {c with heap:=h',toks:=p}) E {s with heap:=s.heap.push {cls:=.type "tuple",data:=.seq #[a,b]}}):wpAny (MO prog w) A (call (.builtin "max") [a,b]) Q E s:=by
 have f:(toString "max"++toString ".loop":String)="max.loop":=by decide
 refine SW PySem.F.kind_max PySem.F.plain_max PySem.F.entry_max (PySem.F.args_max2 _ _) ?_;show wpAny _ A.in1 (Ow "max" ["key","default"] 0 ⟨[],[]⟩>>=_) _ _ s;refine Ms (Px (show Ow "max" ["key","default"] 0 ⟨[],[]⟩=pure [MA,MA]from rfl) ?_);show wpAny _ A.in1 (UT [a,b]>>=_) _ _ s;refine Ms (Nd ?_);refine Ms (N3 h (λit c d=>?_) λ_ _ e=>e);obtain⟨I,fp,wr,n,P,St,i,rfl,W,t,u,D,l,q,r,m,K⟩:=d;refine Ms (Nd ?_);have x:c.heap.objs.size∉fp:=λG=>Nh _ (u _ G);have lt:∀b o,s.heap.get? b=Mt o->b∉wr/\b≠c.heap.objs.size:=λb o e=>⟨λJ=>absurd (MH e) (Nat.not_lt.mpr (q b J)),λz=>absurd (MH e) (Nat.not_lt.mpr (by rw[z];exact r))⟩;rw[f];refine Mu ⟨Oj OD _,rE W i (λh'=>∀b o,s.heap.get? b=Mt o->h'.get? b=Mt o) c.heap.objs.size x (λC d g k b o e=>k b o (lt b o e).1 (lt b o e).2 (g b o e)) m D (W.frame _ _ _ t λb _ o e=>Mw _ e) (λb o e=>Mw _ (l b o e)) (MJ _ rfl) λv h' p hP H=>?_⟩;exact K v h' p hP λb o e=>H b o (lt b o e).1 (lt b o e).2 (Mw _ (l b o e))
theorem uY(W:Wv prog w A.in1 I fp wr n P St)(B:Nat->Nat->Bool)(G:Na->Prop)(S:MD)(H:S∉fp)(Y:∀h h',G h->(∀b o,b∉wr->b≠S->h.get? b=Mt o->h'.get? b=Mt o)->G h')(D:∀(j:Nat)T O(s:Mx)(Q:Mv->Mx->Prop)(E:Mv->Mx->Prop),j+1<n->G s.heap->P (j+1) T->P (NK B j) O->Q (.bool (B (j+1) (NK B j))) s->wpAny (MO prog w) A.in1 (Pg .Lt T O) Q E s):∀(k j:Nat)(s:Mx)(p:Mv)(c:Nat),n-(j+1)=k->j+1<=n->St (j+1) s.heap->G s.heap->P (NK B j) p->s.heap.get? S=Mt {cls:=.type "list",dict:=MA,data:=.seq #[p,p] c,slots:=#[]}->(∀v h' K,P (NK B (n-1)) v->(∀b o,b∉wr->b≠S->s.heap.get? b=Mt o->h'.get? b=Mt o)->R (.ok (.ret v)) {s with heap:=h',toks:=K})->codeAny (MO prog w) A (.builtin "min.loop" ⟨[.ref I,.none,.ref S],[]⟩) R s:=by
 have F:S∉wr:=λh=>H (W.sub _ h);have i:(toString "min"++toString ".loop":String)="min.loop":=by decide
 intro k;induction k with
 |zero=>
  intro j s p c Z hj u V r J L;have C:j+1=n:=by omega
  refine NU RV ?_;rw[NN Oh _];show wpAny _ A.in1 (RH (.ref S)>>=_) _ _ s;refine Ms (NH J rfl ?_);show wpAny _ A.in1 (tryCatch (OC (.ref I)) _>>=_) _ _ s;refine Ms (Pf (W.done s _ _ (C▸u) λh' K f=>?_));have m:=f S _ F J;show wpAny _ A.in1 (R4 S (λ_=>#[])>>=_) _ _ _;refine Ms ?_;refine OI m rfl (Ms (Ph (Mu ?_)));refine L p _ K (by rw[<-C];exact r) λb o a d e=>(MQ _ _ (NO d)).trans (f b o a e)|succ k U=>
  intro j s p c Z hj u V r J L;have q:j+1<n:=by omega
  refine NU RV ?_;rw[NN Oh _];show wpAny _ A.in1 (RH (.ref S)>>=_) _ _ s;refine Ms (NH J rfl ?_);show wpAny _ A.in1 (tryCatch (OC (.ref I)) _>>=_) _ _ s;refine Ms (Pf (W.item (j+1) s _ _ q u λv h' K hP t f=>?_));have m:=f S _ F J;have x:G h':=Y _ _ V λb o a _ e=>f b o a e;show wpAny _ A.in1 (tryCatch (RN [v,v] (Pg .Lt v p>>=_)) _>>=_) _ _ _;refine Ms (Pf (M2 (Ms (D j v p _ _ _ q x hP r ?_))));refine Ms (M2 (N_ ?_));refine Ms (Ph (Mu ?_));cases X:B (j+1) (NK B j)with
  |true=>
   simp only[if_true];refine Ms ?_;refine OI m rfl (Ms (Ph ?_));rw[i];refine Mu ⟨Oj Oh _,U (j+1) _ v _ (by omega) q (W.frame _ _ _ t λb N o e=>?_) (Y _ _ x λb o _ d e=>(MQ _ _ (NO d)).trans e) (by simp only[NK,X,if_true];exact hP) (M6 _ m rfl) λM z g y l=>?_⟩;.exact(MQ _ _ (λh:S=b=>H (by rw[h];exact N))).trans e
   .exact L M z g y λb o a d e=>l b o a d ((MQ _ _ (NO d)).trans (f b o a e))|false=>
   simp only[M0,if_false];refine Ms (Ph ?_);rw[i];refine Mu ⟨Oj Oh _,U (j+1) _ p c (by omega) q t x (by simp only[NK,X,M0,if_false];exact r) m λM z g y l=>?_⟩;exact L M z g y λb o a d e=>l b o a d (f b o a e)
theorem kA(W:Wv prog w A.in1 I fp wr n P St)(r:Nat->Nat->Bool)(G:Na->Prop)(S:MD)(i:S∉fp)(B:∀h h',G h->(∀b o,b∉wr->b≠S->h.get? b=Mt o->h'.get? b=Mt o)->G h')(p:∀(j:Nat)F D(s:Mx)(Q:Mv->Mx->Prop)(E:Mv->Mx->Prop),j+1<n->G s.heap->P (j+1) F->P (NK r j) D->Q (.bool (r (j+1) (NK r j))) s->wpAny (MO prog w) A.in1 (Pg .Lt F D) Q E s)(J:0<n){s:Mx}{c:Nat}(t:St 0 s.heap)(M:G s.heap)(K:s.heap.get? S=Mt {cls:=.type "list",dict:=MA,data:=.seq #[] c,slots:=#[]})(N:∀v h' H,P (NK r (n-1)) v->(∀b o,b∉wr->b≠S->s.heap.get? b=Mt o->h'.get? b=Mt o)->R (.ok (.ret v)) {s with heap:=h',toks:=H}):codeAny (MO prog w) A (.builtin "min.loop" ⟨[.ref I,.none,.ref S],[]⟩) R s:=by
 have y:S∉wr:=λh=>i (W.sub _ h);have f:(toString "min"++toString ".loop":String)="min.loop":=by decide
 refine NU RV ?_;rw[NN Oh _];show wpAny _ A.in1 (RH (.ref S)>>=_) _ _ s;refine Ms (NH K rfl ?_);show wpAny _ A.in1 (tryCatch (OC (.ref I)) _>>=_) _ _ s;refine Ms (Pf (W.item 0 s _ _ J t λv h' H hP l g=>?_));have q:=g S _ y K;have u:G h':=B _ _ M λb o a _ e=>g b o a e;show wpAny _ A.in1 (R4 S (λ_=>#[v,v])>>=_) _ _ _;refine Ms ?_;refine OI q rfl ?_;rw[f];refine Mu ⟨Oj Oh _,uY W r G S i B p _ 0 _ v _ rfl J (W.frame _ _ _ l λb x o e=>?_) (B _ _ u λb o _ d e=>(MQ _ _ (NO d)).trans e) hP (M6 _ q rfl) λL C k z m=>?_⟩;.exact(MQ _ _ (λh:S=b=>i (by rw[h];exact x))).trans e
 .exact N L C k z λb o a d e=>m b o a d ((MQ _ _ (NO d)).trans (g b o a e))
theorem rG{E:Mv->Mx->Prop}{s:Mx}{x:Mv}{Q:Mv->Mx->Prop}(h:wpAny (MO prog w) A.in1 (RZ x) (λit a=>∃I fp wr n P St f,it=.ref I/\Wv prog w A.in1 I fp wr n P St/\St 0 a.heap/\(∀b∈fp,b<a.heap.objs.size)/\0<n/\(∀b o,s.heap.get? b=Mt o->a.heap.get? b=Mt o)/\(∀b∈wr,s.heap.objs.size<=b)/\s.heap.objs.size<=a.heap.objs.size/\(∀(j:Nat)B y(s':Mx)(Q:Mv->Mx->Prop)(E:Mv->Mx->Prop),j+1<n->(∀b o,s.heap.get? b=Mt o->s'.heap.get? b=Mt o)->P (j+1) B->P (NK f j) y->Q (.bool (f (j+1) (NK f j))) s'->wpAny (MO prog w) A.in1 (Pg .Lt B y) Q E s')/\∀v h' m,P (NK f (n-1)) v->(∀b o,s.heap.get? b=Mt o->h'.get? b=Mt o)->Q v {a with heap:=h',toks:=m}) E s):wpAny (MO prog w) A (call (.builtin "min") [x]) Q E s:=by
 have d:(toString "min"++toString ".loop":String)="min.loop":=by decide
 refine SW PySem.F.kind_min VV VW (PySem.F.args_min1 _) ?_;show wpAny _ A.in1 (Ow "min" ["key","default"] 0 ⟨[],[]⟩>>=_) _ _ s;refine Ms (Px (show Ow "min" ["key","default"] 0 ⟨[],[]⟩=pure [MA,MA]from rfl) ?_);refine Ms (Mu ?_);refine Ms (N3 h (λit a c=>?_) λ_ _ e=>e);obtain⟨I,fp,wr,n,P,St,f,rfl,W,r,t,D,i,p,q,l,K⟩:=c;refine Ms (Nd ?_);have u:a.heap.objs.size∉fp:=λG=>Nh _ (t _ G);have lt:∀b o,s.heap.get? b=Mt o->b∉wr/\b≠a.heap.objs.size:=λb o e=>⟨λJ=>absurd (MH e) (Nat.not_lt.mpr (p b J)),λz=>absurd (MH e) (Nat.not_lt.mpr (by rw[z];exact q))⟩;rw[d];refine Mu ⟨Oj Oh _,kA W f (λh'=>∀b o,s.heap.get? b=Mt o->h'.get? b=Mt o) a.heap.objs.size u (λC c g k b o e=>k b o (lt b o e).1 (lt b o e).2 (g b o e)) l D (W.frame _ _ _ r λb _ o e=>Mw _ e) (λb o e=>Mw _ (i b o e)) (MJ _ rfl) λv h' m hP H=>?_⟩;exact K v h' m hP λb o e=>H b o (lt b o e).1 (lt b o e).2 (Mw _ (i b o e))
theorem rH{E:Mv->Mx->Prop}{s:Mx}{a b:Mv}{Q:Mv->Mx->Prop}(h:wpAny (MO prog w) A.in1 (RZ (.ref s.heap.objs.size)) (λit c=>∃I fp wr n P St i,it=.ref I/\Wv prog w A.in1 I fp wr n P St/\St 0 c.heap/\(∀b∈fp,b<c.heap.objs.size)/\0<n/\(∀b o,s.heap.get? b=Mt o->c.heap.get? b=Mt o)/\(∀b∈wr,s.heap.objs.size<=b)/\s.heap.objs.size<=c.heap.objs.size/\(∀(j:Nat)B y(s':Mx)(Q:Mv->Mx->Prop)(E:Mv->Mx->Prop),j+1<n->(∀b o,s.heap.get? b=Mt o->s'.heap.get? b=Mt o)->P (j+1) B->P (NK i j) y->Q (.bool (i (j+1) (NK i j))) s'->wpAny (MO prog w) A.in1 (Pg .Lt B y) Q E s')/\∀v h' p,P (NK i (n-1)) v->(∀b o,s.heap.get? b=Mt o->h'.get? b=Mt o)->Q v {c with heap:=h',toks:=p}) E {s with heap:=s.heap.push {cls:=.type "tuple",data:=.seq #[a,b]}}):wpAny (MO prog w) A (call (.builtin "min") [a,b]) Q E s:=by
 have f:(toString "min"++toString ".loop":String)="min.loop":=by decide
 refine SW PySem.F.kind_min VV VW (PySem.F.args_min2 _ _) ?_;show wpAny _ A.in1 (Ow "min" ["key","default"] 0 ⟨[],[]⟩>>=_) _ _ s;refine Ms (Px (show Ow "min" ["key","default"] 0 ⟨[],[]⟩=pure [MA,MA]from rfl) ?_);show wpAny _ A.in1 (UT [a,b]>>=_) _ _ s;refine Ms (Nd ?_);refine Ms (N3 h (λit c d=>?_) λ_ _ e=>e);obtain⟨I,fp,wr,n,P,St,i,rfl,W,t,u,D,l,q,r,m,K⟩:=d;refine Ms (Nd ?_);have x:c.heap.objs.size∉fp:=λG=>Nh _ (u _ G);have lt:∀b o,s.heap.get? b=Mt o->b∉wr/\b≠c.heap.objs.size:=λb o e=>⟨λJ=>absurd (MH e) (Nat.not_lt.mpr (q b J)),λz=>absurd (MH e) (Nat.not_lt.mpr (by rw[z];exact r))⟩;rw[f];refine Mu ⟨Oj Oh _,kA W i (λh'=>∀b o,s.heap.get? b=Mt o->h'.get? b=Mt o) c.heap.objs.size x (λC d g k b o e=>k b o (lt b o e).1 (lt b o e).2 (g b o e)) m D (W.frame _ _ _ t λb _ o e=>Mw _ e) (λb o e=>Mw _ (l b o e)) (MJ _ rfl) λv h' p hP H=>?_⟩;exact K v h' p hP λb o e=>H b o (lt b o e).1 (lt b o e).2 (Mw _ (l b o e))
end
mutual
theorem aE.keeps{h h':Na}(k:∀b o,h.get? b=Mt o->h'.get? b=Mt o):∀{d:D}{u:Mv},aE h u d->aE h' u d
 |.aJ,_,q=>by simp only[aE]at q⊢;exact q|.bl _,_,q=>by simp only[aE]at q⊢;exact q|.int _,_,q=>by simp only[aE]at q⊢;exact q|.str _,_,q=>by simp only[aE]at q⊢;exact q|.tup _,_,q=>by
  simp only[aE]at q⊢;obtain⟨a,c,i,g,f⟩:=q;exact⟨a,c,i,g.at λo e=>k a o e,aG.keeps k f⟩|.lst _,_,q=>by
  simp only[aE]at q⊢;obtain⟨a,c,i,g,f⟩:=q;exact⟨a,c,i,g.at λo e=>k a o e,aG.keeps k f⟩|.bR _ _,_,q=>by simp only[aE]at q⊢;exact q|.set _,_,q=>by simp only[aE]at q⊢;exact q|.exc _ _,_,q=>by simp only[aE]at q⊢;exact q|.fn _,_,q=>by simp only[aE]at q⊢;exact q
theorem aG.keeps{h h':Na}(k:∀b o,h.get? b=Mt o->h'.get? b=Mt o):∀{ds:List D}{us:List Mv},aG h us ds->aG h' us ds
 |[],_,q=>by simp only[aG]at q⊢;exact q|d::ds,_,q=>by
  simp only[aG]at q⊢;obtain⟨u,r,e,c,a⟩:=q;exact⟨u,r,e,aE.keeps k c,aG.keeps k a⟩
end
noncomputable def mi(op:PX):D->List D->Option D
 |b,[]=>Mt b|b,d::r=>match jd op aS d b with
  |some Mz=>mi op d r|some My=>mi op b r|none=>MA
noncomputable def je(op:PX)(ds:List D)(i j:Nat):Bool:=match ds[i]?,ds[j]? with
 |some x,Mt y=>jd op aS x y==Mt Mz|_,_=>My
theorem pj{op:PX}{ds:List D}{x:D}:∀(r:List D)(k:Nat)(b:D),ds.drop (k+1)=r->ds[NK (je op ds) k]?=Mt b->mi op b r=Mt x->(∀j,k<=j->j+1<ds.length->∃y z,ds[j+1]?=Mt y/\ds[NK (je op ds) j]?=Mt z/\jd op aS y z=Mt (je op ds (j+1) (NK (je op ds) j)))/\(k<ds.length->ds[NK (je op ds) (ds.length-1)]?=Mt x)
 |[],k,b,hd,g,q=>by
  have u:ds.length<=k+1:=by
   have:=congrArg Oc hd;simp at this;omega
  refine⟨λj l h=>by omega,λv=>?_⟩;have:ds.length-1=k:=by omega
  rw[this,g];exact q|d::r,k,b,hd,g,q=>by
  have a:k+1<ds.length:=by
   have:=congrArg Oc hd;simp at this;omega
  have e:ds[k+1]?=Mt d:=by
   have:=PK a;rw[hd]at this;injection this with l h;rw[MZ a,l]
  have p:ds.drop (k+1+1)=r:=by
   have:=PK a;rw[hd]at this;injection this with l h;exact h.symm
  unfold mi at q;cases i:jd op aS d b with
  |none=>rw[i]at q;cases q|some c=>
   have gen:∀m,ds[m]?=Mt b->je op ds (k+1) m=c:=λm s=>by
    unfold je;rw[e,s];simp only[i];cases c<;>rfl
   have f:je op ds (k+1) (NK (je op ds) k)=c:=gen _ g;have step:ds[NK (je op ds) (k+1)]?=Mt (if c then d else b):=by
    simp only[NK,f];cases c;.exact g
    .exact e
   have n:mi op (if c then d else b) r=Mt x:=by
    rw[i]at q;cases c<;>exact q
   obtain⟨o,i2⟩:=pj r (k+1) _ p step n;refine⟨λj l h=>?_,λ_=>i2 a⟩;by_cases t:j=k
   .subst t;exact⟨d,b,e,g,by rw[i,f]⟩
   .exact o j (by omega) h
noncomputable def bestOf(op:PX):List D->Option D
 |d::r=>mi op d r|[]=>MA
theorem c8{op:PX}{ds:List D}{x:D}(h:bestOf op ds=Mt x):0<ds.length/\(∀j,j+1<ds.length->∃y z,ds[j+1]?=Mt y/\ds[NK (je op ds) j]?=Mt z/\jd op aS y z=Mt (je op ds (j+1) (NK (je op ds) j)))/\ds[NK (je op ds) (ds.length-1)]?=Mt x:=by cases ds with
 |nil=>cases h|cons d r=>
  obtain⟨a,i2⟩:=pj (ds:=d::r) r 0 d rfl rfl h;exact⟨by simp,λj b=>a j (Nv _) b,i2 (by simp)⟩
noncomputable def El(op:PX):D->M D
 |.lst a=>M.get (bestOf op a)|_=>M.fail
noncomputable def G8(op:PX):List D->M D
 |[d]=>El op d|[d,e]=>M.get (bestOf op [d,e])|_=>M.fail
theorem jw{h:Na}{us:List Mv}{ds:List D}{i:Nat}{u:Mv}{d:D}(q:aG h us ds)(e:us[i]?=Mt u)(c:ds[i]?=Mt d):aE h u d:=by
 obtain⟨f,a,b⟩:=q.get e;rw[c]at a;cases a;exact b
section
variable{X:Cx}{F:Fx}
noncomputable def L4:List D->M D
 |[d,e]=>M.get (bestOf .Gt [d,e])|_=>M.fail
theorem Em(hc:X.calm=Mz)(hu:X.A.units+64<NV):aY X F (.builtin "max") L4 where
 call:=λt s σ H k xs us ds Q I m l hK n f=>by
  have hh:X.A.in1.handled=MA:=I.ok.hd hc;have cmp:∀{its:Array Mv}{es:List D}{x:D},aG s.heap its.toList es->bestOf .Gt es=Mt x->∀(j:Nat)N L(G:Mx)(Q:Mv->Mx->Prop)(E:Mv->Mx->Prop),j+1<its.size->(∀b o,s.heap.get? b=Mt o->G.heap.get? b=Mt o)->its[j+1]?=Mt N->its[NK (je .Gt es) j]?=Mt L->Q (.bool (je .Gt es (j+1) (NK (je .Gt es) j))) G->wpAny (MO X.prog X.w) X.A.in1 (Pg .Gt N L) Q E G:=λ{its es x}O r j N L G Q E hj kp W U q=>by
   have R:=O.length;obtain⟨_,h2,_⟩:=c8 r;obtain⟨y,z,e1,e2,e3⟩:=h2 j (by rw[<-R];simpa using hj);rw[<-Ol]at W U;exact w5 aS (A:=X.A.in1) (jw (O.keeps kp) W e1) (jw (O.keeps kp) U e2) (by show X.A.units+1+aS<NV;unfold aS;omega) e3 X.prog X.w E Q q
  have fin:∀{K:List V}{its:Array Mv}{es:List D}{x:D}{v:Mv}{J:Na}{C:Nat},ak K its.toList->af F.toFb H K es->bestOf .Gt es=Mt x->its[NK (je .Gt es) (its.size-1)]?=Mt v->(∀b o,s.heap.get? b=Mt o->J.get? b=Mt o)->qE F.toFb H k Q x k->EP X t σ Q v {s with heap:=J,toks:=C}:=λ{K its es x v J C}m n r p kp q=>by
   obtain⟨_,_,h3⟩:=c8 r;have R:=n.length;have P:=m.length;have e:its.size-1=es.length-1:=by rw[<-R,P];simp
   rw[e,<-Ol]at p;obtain⟨y,hy,iy⟩:=n.get h3;obtain⟨u,B,ru⟩:=m.get hy;rw[p]at B;cases B;exact⟨y,H,I.kept (t':=C) kp,ru,q y H .refl iy⟩
  match ds,f with
  |[d,e],f=>
   obtain⟨x,r,q⟩:=M.run_get.mp f;obtain⟨v1,v2,rfl,i1,i2⟩:=n.two;obtain⟨i,h,rfl,r1,r2⟩:=vals2 m;have Z:(s.heap.push {cls:=.type "tuple",data:=.seq #[i,h]}).IsTuple s.heap.objs.size #[i,h]:=⟨_,MJ _ rfl,rfl,0,rfl⟩;have a:(s.heap.push {cls:=.type "tuple",data:=.seq #[i,h]}).objs.size=s.heap.objs.size+1:=ND ..;refine rF (RA Z ?_);refine⟨_,[_,s.heap.objs.size],[_],_,_,_,je .Gt [d,e],rfl,Walks.tuple (A:=X.A.in1) hh _ s.heap.objs.size (by rw[a];exact M4 (NZ _)) #[i,h],⟨⟨_,MJ _ rfl,rfl,rfl⟩,Z.push _⟩,λc g=>?_,by simp,λb o e=>Mw _ (Mw _ e),λb S=>?_,by rw[ND,a];exact VX (Qh _),cmp (its:=#[i,h]) (es:=[d,e]) (fm I hK m n) r,λv J C pv kp=>fin (its:=#[i,h]) m n r pv kp q⟩
   .rw[ND,a];rcases List.mem_cons.mp g with rfl|g;.rw[a];exact NZ _
    .rw[List.mem_singleton.mp g];exact OS (NZ _)
   .rw[List.mem_singleton.mp S,a];exact Qh _|[],f=>exact f.elim|[_],f=>exact f.elim|_::_::_::_,f=>exact f.elim
theorem xP(hc:X.calm=Mz)(hu:X.A.units+64<NV):aY X F (.builtin "min") (G8 .Lt)where
 call:=λN s σ H k xs us ds Q I r l hK t f=>by
  have hh:X.A.in1.handled=MA:=I.ok.hd hc;have cmp:∀{its:Array Mv}{es:List D}{x:D},aG s.heap its.toList es->bestOf .Lt es=Mt x->∀(j:Nat)T S(R:Mx)(Q:Mv->Mx->Prop)(E:Mv->Mx->Prop),j+1<its.size->(∀b o,s.heap.get? b=Mt o->R.heap.get? b=Mt o)->its[j+1]?=Mt T->its[NK (je .Lt es) j]?=Mt S->Q (.bool (je .Lt es (j+1) (NK (je .Lt es) j))) R->wpAny (MO X.prog X.w) X.A.in1 (Pg .Lt T S) Q E R:=λ{its es x}U m j T S R Q E hj kp p1 p2 q=>by
   have Y:=U.length;obtain⟨_,h2,_⟩:=c8 m;obtain⟨y,z,e1,e2,e3⟩:=h2 j (by rw[<-Y];simpa using hj);rw[<-Ol]at p1 p2;exact rk aS (A:=X.A.in1) (jw (U.keeps kp) p1 e1) (jw (U.keeps kp) p2 e2) (by show X.A.units+1+aS<NV;unfold aS;omega) e3 X.prog X.w E Q q
  have fin:∀{J:List V}{its:Array Mv}{es:List D}{x:D}{v:Mv}{P:Na}{L:Nat},ak J its.toList->af F.toFb H J es->bestOf .Lt es=Mt x->its[NK (je .Lt es) (its.size-1)]?=Mt v->(∀b o,s.heap.get? b=Mt o->P.get? b=Mt o)->qE F.toFb H k Q x k->EP X N σ Q v {s with heap:=P,toks:=L}:=λ{J its es x v P L}r t m p kp q=>by
   obtain⟨_,_,h3⟩:=c8 m;have Y:=t.length;have W:=r.length;have e:its.size-1=es.length-1:=by rw[<-Y,W];simp
   rw[e,<-Ol]at p;obtain⟨y,hy,iy⟩:=t.get h3;obtain⟨u,O,ru⟩:=r.get hy;rw[p]at O;cases O;exact⟨y,H,I.kept (t':=L) kp,ru,q y H .refl iy⟩
  match ds,f with
  |[.lst es],f=>
   obtain⟨x,m,q⟩:=M.run_get.mp f;obtain⟨v,rfl,i⟩:=t.one;obtain⟨u,rfl,rx⟩:=vals1 r;simp only[Is]at i;obtain⟨a,J,rfl,h3,Z⟩:=i;cases(show u=MW a from rx);obtain⟨its,n,p,hz⟩:=I.list (show cP X.K H a J by rw[hK];exact h3.2.sq);have lt:a<s.heap.objs.size:=p.lt;refine rG (PZ p.isList ?_);have hn:0<its.toArray.size:=by
    have:=(c8 m).1;rw[MR,<-n.length,Z.length];exact this
   refine⟨_,[_,a],[_],_,_,_,je .Lt es,rfl,Vs (A:=X.A.in1) hh _ a (M4 lt) its.toArray,⟨⟨_,MJ _ rfl,rfl,rfl⟩,p.isList.push _⟩,λc g=>?_,hn,λb o e=>Mw _ e,λb B=>?_,by rw[ND];exact Qh _,cmp (by simpa using fm I hK n Z) m,λv P L pv kp=>fin (by simpa using n) Z m pv kp q⟩
   .rw[ND];rcases List.mem_cons.mp g with rfl|g;.exact NZ _
    .rw[List.mem_singleton.mp g];exact OS lt
   .rw[List.mem_singleton.mp B];exact MN _|[d,e],f=>
   obtain⟨x,m,q⟩:=M.run_get.mp f;obtain⟨v1,v2,rfl,i1,i2⟩:=t.two;obtain⟨G,C,rfl,r1,r2⟩:=vals2 r;have hT:(s.heap.push {cls:=.type "tuple",data:=.seq #[G,C]}).IsTuple s.heap.objs.size #[G,C]:=⟨_,MJ _ rfl,rfl,0,rfl⟩;have h:(s.heap.push {cls:=.type "tuple",data:=.seq #[G,C]}).objs.size=s.heap.objs.size+1:=ND ..;refine rH (RA hT ?_);refine⟨_,[_,s.heap.objs.size],[_],_,_,_,je .Lt [d,e],rfl,Walks.tuple (A:=X.A.in1) hh _ s.heap.objs.size (by rw[h];exact M4 (NZ _)) #[G,C],⟨⟨_,MJ _ rfl,rfl,rfl⟩,hT.push _⟩,λc g=>?_,by simp,λb o e=>Mw _ (Mw _ e),λb B=>?_,by rw[ND,h];exact VX (Qh _),cmp (its:=#[G,C]) (es:=[d,e]) (fm I hK r t) m,λv P L pv kp=>fin (its:=#[G,C]) r t m pv kp q⟩
   .rw[ND,h];rcases List.mem_cons.mp g with rfl|g;.rw[h];exact NZ _
    .rw[List.mem_singleton.mp g];exact OS (NZ _)
   .rw[List.mem_singleton.mp B,h];exact Qh _|[],f=>exact f.elim|[.aJ],f=>exact f.elim|[.tup _],f=>exact f.elim|[.bl _],f=>exact f.elim|[.int _],f=>exact f.elim|[.str _],f=>exact f.elim|[.bR _ _],f=>exact f.elim|[.set _],f=>exact f.elim|[.exc _ _],f=>exact f.elim|[.fn _],f=>exact f.elim|_::_::_::_,f=>exact f.elim
end
section
variable{X:Cx}{F:Fx}
structure Kq(X:Cx)(F:Fx)(T:String)(id:String)(rc:D->Bool)(m:D->List D->M D):Prop where
 ty:∀{pins:List (MD×NF)}{σ:St}{H:Hp}{s:Mx}{x:V}{v:Mv}{d:D},Inv X pins σ H s->RelV x v->X.K=F.K->Is F.toFb H x d->rc d=Mz->s.TypeIs v T/\∀a,v=.ref a->∃ob,s.heap.get? a=Mt ob/\ob.dict=MA
 call:∀(pins:List (MD×NF))(s:Mx)(σ:St)(H:Hp)(k:Nat)(x:V)(xs:List V)(v:Mv)(us:List Mv)(d:D)(ds:List D)(Q:VK),Inv X pins σ H s->RelV x v->ak xs us->H F.p≠MA->X.K=F.K->Is F.toFb H x d->af F.toFb H xs ds->rc d=Mz->(m d ds).run k (qE F.toFb H k Q) F.E->wpAny (MO X.prog X.w) X.A (QV (.builtin id) (v::us)) (EP X pins σ Q) X.xe s
variable{o e:MV}{es:List MV}{to:ag->M D}{tas:ag->M (List A)}{name:M3}{ap cp:Od}{T id:String}{rc:D->Bool}{m:D->List D->M D}
theorem tN(J:Kq X F T id rc m)(pa:Vr T)(slot:Slot T name id)(y:V3 (.builtin id)=pure (.type "method_descriptor"))(t:DE X F o to)(R:DA X F (e::es) tas)(f:Pw o name X.env (N2 o X.env)=N2 o X.env)(b:(ap.endLine==cp.line)=Mz)(j:((Og cp (MS (e::es) X.env)).all (λx=>!x.1)&&(UP cp (R7 [] X.env)).all (λx=>x.1.isSome)&&decide ((e::es).length+([]:List Q7).length+(if([]:List Q7).isEmpty then 0 else 1)<30))=Mz)(P:MS (e::es) X.env=(My,N2 e X.env)::MS es X.env)(a:(Og cp (MS es X.env)).any (·.1)=My):DE X F (.Call (.Attribute o name ap) (e::es) [] cp) (λu=>do let d<-to u;M.need (rc d=Mz);let ds<-dB (<-tas u);m d ds):=by
 have mt:F_ X id (λx w H Q=>∃k d ds,H F.p≠MA/\Is F.toFb H x d/\af F.toFb H w ds/\rc d=Mz/\(m d ds).run k (qE F.toFb H k Q) F.E):=λg s C H x w v K Q I L N⟨k,d,ds,l,n,i2,c,q⟩=>J.call g s C H k x w v K d ds Q I L N l t.hK n i2 c q;refine⟨t.hK,(rD (ty:=λx H=>∃d,Is F.toFb H x d/\rc d=Mz) (λI r⟨d,i,c⟩=>J.ty I r t.hK i c) pa slot y mt t.pe R.pa f j b P a).imp λC H Q⟨u,k,S,h⟩=>?_⟩;refine bK.next S h λd k1 v H1 e1 Y n B=>?_;obtain⟨G,B⟩:=B;refine⟨⟨d,n,G⟩,?_⟩;refine mU.next Y B λas O Z H2 e2 W i2 V=>?_;obtain⟨ds,rfl,U⟩:=bh V;exact⟨O,d,ds,W.live,n.mono e2.kp,bj i2,G,M.wk U λ_ _ z=>z.ext (e1.trans e2)⟩
noncomputable def isStr:D->Bool
 |.str _=>Mz|_=>My
theorem xQ{pins:List (MD×NF)}{σ:St}{H:Hp}{s:Mx}{x:V}{v:Mv}{d:D}(r:RelV x v)(i:Is F.toFb H x d)(c:isStr d=Mz):s.TypeIs v "str"/\∀a,v=.ref a->∃ob,s.heap.get? a=Mt ob/\ob.dict=MA:=by
 cases d<;>first|cases c|skip
 simp only[Is]at i;subst i;obtain⟨t,rfl⟩:=r;exact⟨R0 s _ t,λ_ e=>nomatch e⟩
end
section
variable{X:Cx}{F:Fx}
noncomputable def iT:List D->Option (List M3)
 |[]=>Mt []|.str x::r=>(iT r).map (x::·)|_::_=>MA
theorem mj{B:Fb}{H:Hp}:∀{ds:List D}{xs:List M3}{vs:List V}{us:List Mv},iT ds=Mt xs->af B H vs ds->ak vs us->∃l:List (M3×Ut),us=strValues l/\l.map (·.1)=xs
 |[],xs,vs,us,e,i,r=>by
  cases e;simp only[af]at i;subst i;cases r;exact⟨[],rfl,rfl⟩|.str x::ds,xs,vs,us,e,i,r=>by
  simp only[iT,RT]at e;obtain⟨d,e1,rfl⟩:=e;simp only[af,Is]at i;obtain⟨v,f,rfl,rfl,c⟩:=i;cases r with|cons b a=>
   obtain⟨t,rfl⟩:=b;obtain⟨l,rfl,rfl⟩:=mj e1 c a;exact⟨(x,t)::l,rfl,rfl⟩|.aJ::_,_,_,_,e,_,_=>nomatch e|.bl _::_,_,_,_,e,_,_=>nomatch e|.int _::_,_,_,_,e,_,_=>nomatch e|.tup _::_,_,_,_,e,_,_=>nomatch e|.lst _::_,_,_,_,e,_,_=>nomatch e|.bR _ _::_,_,_,_,e,_,_=>nomatch e|.set _::_,_,_,_,e,_,_=>nomatch e|.exc _ _::_,_,_,_,e,_,_=>nomatch e|.fn _::_,_,_,_,e,_,_=>nomatch e
noncomputable def dr(a:M3):List M3->M3
 |[x]=>x|xs=>VY a xs
noncomputable def B5:D->List D->M D
 |.str a,[.lst c]=>do
  let b<-M.get (iT c)M.need (Vc (b.toArray.foldl (·+·.length+a.length) 0)=My/\(dr a b).length<=MP)pure (.str (dr a b))|_,_=>M.fail
theorem AS:Kq X F "str" "str.join" isStr B5 where
 ty:=λ{pins σ H s x v d}I r hK i c=>xQ (pins:=pins) (σ:=σ) r i c;call:=λpins s σ H k x L v N d J Q I n z l hK h i2 c q=>by match d,J,q with
  |.str e,[.lst R],q=>
   simp only[Is]at h;subst h;obtain⟨t,rfl⟩:=n;obtain⟨w,rfl,g⟩:=i2.one;obtain⟨u,rfl,y⟩:=vals1 z;obtain⟨j,E,q⟩:=M.run_get.mp q;obtain⟨⟨G,b⟩,q⟩:=q;have q:qE F.toFb H k Q (.str (dr e j)) k:=q;simp only[Is]at g;obtain⟨a,m,rfl,B,D⟩:=g;cases(show u=MW a from y);obtain⟨C,o,A,P⟩:=I.list (show cP X.K H a m by rw[hK];exact B.2.sq);obtain⟨f,rfl,rfl⟩:=mj E D o;refine SJ UJ (R0 s e t) PySem.F.entry_str_join (PySem.F.args_str_join_2 _ _) (meets_str_join_list e t a f G) ⟨A.isList,?_⟩;match f,q,b with
   |[],q,b=>exact⟨b,.str _,H,I.tok _,⟨_,rfl⟩,q _ H .refl (by simp only[Is];rfl)⟩|[p],q,_=>exact⟨.str _,H,I,⟨_,rfl⟩,q _ H .refl (by simp only[Is];rfl)⟩|p::O::r,q,b=>exact⟨b,.str _,H,I.tok _,⟨_,rfl⟩,q _ H .refl (by simp only[Is];rfl)⟩
noncomputable def rJ(x y:M3):Option (List M3):=if(y.length==0)=Mz then MA else if(decide (x.length<y.length)||decide (Rh x<Rh y))=Mz then Mt [x]else if(Qg x y 0 x.length (x.length+1)).isEmpty=Mz then Mt [x]else if x.length<=MP/\(Tx x (Qg x y 0 x.length (x.length+1)) y.length).length<=MP then Mt (Tx x (Qg x y 0 x.length (x.length+1)) y.length)else MA
noncomputable def xR:D->List D->M D
 |.str x,[.str y]=>do
  let a<-M.get (rJ x y)pure (.lst (a.map D.str))|_,_=>M.fail
theorem fu{B:Fb}{H:Hp}:∀(a:Nat)(xs:List M3),ak (xs.map V.str) (strsFrom a xs)/\af B H (xs.map V.str) (xs.map D.str)
 |_,[]=>⟨.nil,.nil⟩|a,x::r=>⟨.cons ⟨_,rfl⟩ (fu (B:=B) (H:=H) (a+1) r).1,.cons (by simp only[Is]) (fu (a+1) r).2⟩
theorem xS:Kq X F "str" "str.split" isStr xR where
 ty:=λ{pins σ H s x v d}I r hK i c=>xQ (pins:=pins) (σ:=σ) r i c;call:=λpins s σ H k x O v us d L Q I C J l hK o i2 c q=>by match d,L,q with
  |.str z,[.str y],q=>
   simp only[Is]at o;subst o;obtain⟨t,rfl⟩:=C;obtain⟨w,rfl,n⟩:=i2.one;obtain⟨u,rfl,G⟩:=vals1 J;simp only[Is]at n;subst n;obtain⟨t',rfl⟩:=G;obtain⟨f,a,q⟩:=M.run_get.mp q;have q:qE F.toFb H k Q (.lst (f.map D.str)) k:=q;have fin:∀{us:List Mv}{h:Nat},ak (f.map V.str) us->(f.map V.str).length<=MP->EP X pins σ Q (.ref s.heap.objs.size) {s with heap:=s.heap.push {cls:=.type "list",data:=.seq us.toArray},toks:=h}:=λ{us h}E K=>by
    have N:=I.Gg (t':=h) E K;exact⟨.ref s.heap.objs.size,_,N.freeze ah (MJ _ rfl) (λ_ z=>nomatch z) (λ_ _ z=>nomatch z) (λ_ z=>nomatch z) (λ_ z=>nomatch z),rfl,by
     rw[aT];exact q _ _ (.new I.fresh) (aR (k:=k) l I.fresh (fu 0 f).2)⟩
   unfold rJ at a;split at a;.cases a
   .rename_i g;have g:(y.length==0)=My:=by simpa using g
    split at a
    .rename_i b;cases a;exact SJ Qn (R0 s z t) RI (Rn _ _) (meets_str_split_cannot_occur z y t t' b) (fin (us:=[Sy z t]) (.cons ⟨_,rfl⟩ .nil) (by simp[NR]))
    .rename_i b;have b:(decide (z.length<y.length)||decide (Rh z<Rh y))=My:=by simpa using b
     split at a
     .rename_i e;cases a;exact SJ Qn (R0 s z t) RI (Rn _ _) (meets_str_split_not_found z y t t' b g e) (fin (us:=[Sy z t]) (.cons ⟨_,rfl⟩ .nil) (by simp[NR]))
     .rename_i e;have e:(Qg z y 0 z.length (z.length+1)).isEmpty=My:=by simpa using e
      split at a
      .rename_i j;cases a;exact SJ Qn (R0 s z t) RI (Rn _ _) (meets_str_split_sep z y t t' b g e j.1 j.2) (fin (fu (B:=F.toFb) (H:=H) s.toks _).1 (by rw[MT];exact j.2))
      .cases a
end
open Builtin Builtin.ObjectAttr
inductive dG(h:Na)(bmB:List Mv)(ns:List M3):List Mv->Prop|base:dG h bmB ns bmB|own{A:MD}{c0:Mv}{dd:Option MD}{cd:ClassData}{sl:Array (Option Mv)}{mA:M3->Option Mv}{tl:List Mv}:h.get? A=Mt {cls:=c0,dict:=dd,data:=.cls cd,slots:=sl}->h.Ns cd.ns mA->(∀n∈ns,mA n=MA)->dG h bmB ns tl->dG h bmB ns (.ref A::tl)
theorem dG.hasType{h:Na}{a c:List Mv}{ns:List M3}(T:dG h a ns c){X:String}{b:Bool}(e:a.contains (.type X)=b):c.contains (.type X)=b:=by induction T with
 |base=>exact e|own _ _ _ _ d=>rw[SS,d];rfl
section
variable{M:RL}{A:Nc}{E:Mv->Mx->Prop}{h:Na}{g:Array RK}{d:Wj}{t:Nat}{os:VR}
theorem pk{b e:List Mv}{ns:List M3}{n:M3}{y:Option Mv}{Q:Option Mv->Mx->Prop}(j:n∈ns)(T:dG h b ns e)(a:Wc b n=pure y)(i:Q y ⟨h,g,d,t,os⟩):wpAny M A (Wc e n) Q E ⟨h,g,d,t,os⟩:=by induction T with
 |base=>rw[a];exact Mu i|own k hN c _ f=>
  rw[lookupAlong_cons];refine Ms (wpAny_classOwn_cls k hN ?_);rw[c n j];exact f
variable{nm q:M3}{C N:MD}{bs bm bmB:List Mv}{hdct:Bool}{sn:List M3}{sub:List Mv}{ab:Bool}{col:Option Bool}{dd:Option MD}{k0 k1 k2 k3 k5:Option Mv}{B newId initId:String}
theorem gL{c:M3->Option Mv}{ns:List M3}{n:M3}{y:Option Mv}{Q:Option Mv->Mx->Prop}(l:n∈ns)(i:h.get? C=Mt (Py nm q C N bs bm hdct sn sub ab col dd k0 k1 k2 k3 k5 newId))(k:h.Ns N c)(T:dG h bmB ns bm)(e:mroOf (.type B)=pure bmB)(j:O6 (.type B) n=pure y)(b:Q (match c n with|some v=>Mt v|none=>y) ⟨h,g,d,t,os⟩):wpAny M A (O6 (.ref C) n) Q E ⟨h,g,d,t,os⟩:=by
 have a:Wc bmB n=pure y:=by rw[typeLookup_eq,e]at j;exact j
 rw[typeLookup_eq];refine Ms (wpAny_mroOf_exc i ?_);rw[lookupAlong_cons];refine Ms (wpAny_classOwn_exc i k ?_);cases f:c n with
 |some v=>rw[f]at b;exact Mu b|none=>rw[f]at b;exact pk l T a b
theorem pq{self:Mv}{a:M3}{b:List Mv}{ns:List M3}(T:dG h bmB ns b)(e:refuseLoop self a bmB=pure ()):refuseLoop self a b=pure ():=by induction T with
 |base=>exact e|own _ _ _ _ c=>rw[refuseLoop_ref];exact c
end
section
variable{prog:MX}{w:M_}{A:Nc}{E:Mv->Mx->Prop}{h:Na}{g:Array RK}{d:Wj}{t:Nat}{os:VR}
variable{nm q:M3}{C N x:MD}{bs bm bmB:List Mv}{sn:List M3}{sub:List Mv}{ab:Bool}{col:Option Bool}{dd:Option MD}{k0 k1 k2 k3 k5:Option Mv}{B newId sa owner:String}{mN:M3->Option Mv}{name:M3}{v:Mv}{ns:List M3}
theorem uZ{M:RL}{o:NF}{a:Mv}{Q:Unit->Mx->Prop}(e:Wx B bmB sa owner)(T:dG h bmB ns bm)(m:h.get? C=Mt (Py nm q C N bs bm Mz sn sub ab col dd k0 k1 k2 k3 k5 newId))(k:h.get? x=Mt o)(l:o.cls=.ref C)(i:Q () ⟨h,g,d,t,os⟩):wpAny M A (Qd sa ⟨[.ref x,a,v],[]⟩) Q E ⟨h,g,d,t,os⟩:=by
 have f:(MW C::bm).contains (.type owner)=Mz:=by rw[SS,T.hasType e.hasOwner,VT]
 have j:=e.args (.ref x) a v;simp only[Qd,e.kind,e.split];refine Ms ?_
 .unfold RC;repeat(first|(with_reducible refine Ng k ?_;rw[l])|(with_reducible refine Rg m ?_;rw[f])|wp_step)
  cases c:Manifest.signature? sa with
  |none=>exact Mu i|some b=>
   simp only[WG,c]at j;have n:Bind.checkArgs sa b ⟨[.ref x,a,v],[]⟩=pure ():=j;show wpAny M A (Bind.checkArgs sa b ⟨[.ref x,a,v],[]⟩) Q E _;rw[n];exact Mu i
theorem nr{M:Ut}{o:NF}{Q:Fin->Mx->Prop}(S:Wx B bmB sa owner)(T:dG h bmB ns bm)(u:name∈ns)(R:h.get? C=Mt (Py nm q C N bs bm Mz sn sub ab col dd k0 k1 k2 k3 k5 newId))(W:h.Ns N mN)(F:mN name=MA)(Z:O6 (.type B) name=pure MA)(l:h.get? x=Mt o)(Y:o.cls=.ref C)(D:∀c,o.data≠.cls c)(I:o.dict=MA)(V:∀h' n m,h.objs.size<=m->m≠x->h'.get? x=Mt {o with dict:=Mt m}->h'.Ns1 m (λy=>if y=name then Mt v else MA)->(∀b ob,b≠x->h.get? b=Mt ob->h'.get? b=Mt ob)->Q (.done (.ret .none)) ⟨h',g,d,n,os⟩):wpAny (MO prog w) A (Builtin.«object.__setattr__» ⟨[.ref x,.str name M,v],[]⟩) Q E ⟨h,g,d,t,os⟩:=by
 have i:=pq T (S.passes (.ref x));unfold Builtin.«object.__setattr__»;repeat(first|rw[refuse_eq]|(rw[refuseLoop_ref,i])|(with_reducible refine Ng l ?_;rw[Y])|with_reducible refine wpAny_mroOf_exc R ?_|(with_reducible refine gL u R W T S.mro Z ?_;rw[F])|wp_step)
 rw[I,if_neg (by simp[typeHasDict])];split
 .rename_i j;cases j
 split
 .rename_i c j;exact absurd j (D c)
 .have a:(h.push {cls:=.type "dict",data:=.dict #[]}).get? x=Mt o:=Mw _ l;have f:x≠h.objs.size:=M4 (MH l);refine Ms (wpAny_alloc' ?_);refine Ms (wpAny_update' a ?_);refine Mu ?_;have G:((h.push {cls:=.type "dict",data:=.dict #[]}).update x λo=>{cls:=o.cls,dict:=Mt h.objs.size,data:=o.data,slots:=o.slots}).get? h.objs.size=Mt {cls:=.type "dict",data:=.dict #[]}:=(Sn _ _ _ _ f.symm).trans (Heap.get?_push_at rfl rfl);have z:((h.push {cls:=.type "dict",data:=.dict #[]}).update x λo=>{cls:=o.cls,dict:=Mt h.objs.size,data:=o.data,slots:=o.slots}).Ns h.objs.size (λ_=>MA):=⟨_,#[],_,G,rfl,λe X=>absurd X (by simp),λ_=>rfl⟩;show wpAny _ _ (storeInDict h.objs.size (.str name M) name v) _ _ _;unfold storeInDict newKeyGuard;refine Ms (Mu (Ms (wpAny_nsSet1 (Heap.Ns1.of_empty z) λh' k O=>?_)));obtain⟨oD,a0,a1,s,J,K⟩:=k.count (Within.cons name v Within.nil);refine Ms (wpAny_lookBehind s (by rw[J];exact pastItsLine_dict (Nw K (by rw[Nn,NG,NR];omega))) ?_);wp_walk;have r:h'.get? x=Mt {cls:=o.cls,dict:=Mt h.objs.size,data:=o.data,slots:=o.slots}:=by
   refine(O.2 x f).trans (M6 _ a ?_);have H:=(Heap.get?_some_iff.mp l).2;obtain⟨oc,od,p,U⟩:=o;cases p<;>first|rfl|exact H
  exact V h' _ h.objs.size (MN _) f.symm r k λb ob L P=>(O.2 b (M4 (MH P))).trans ((Sn _ _ _ _ L).trans (Mw _ P))
theorem px{o:NF}{Q:Unit->Mx->Prop}(e:Wx B bmB sa owner)(T:dG h bmB ns bm)(l:name∈ns)(j:(MF "__setattr__")∈ns)(s:h.get? C=Mt (Py nm q C N bs bm Mz sn sub ab col dd k0 k1 k2 k3 k5 newId))(u:h.Ns N mN)(k:mN "__setattr__"=MA)(n:mN name=MA)(D:O6 (.type B) name=pure MA)(i:h.get? x=Mt o)(r:o.cls=.ref C)(m:∀c,o.data≠.cls c)(p:o.dict=MA)(z:∀h' a f,h.objs.size<=f->f≠x->h'.get? x=Mt {o with dict:=Mt f}->h'.Ns1 f (λy=>if y=name then Mt v else MA)->(∀b ob,b≠x->h.get? b=Mt ob->h'.get? b=Mt ob)->Q () ⟨h',g,d,a,os⟩):wpAny (MO prog w) A (setAttr (.ref x) name v) Q E ⟨h,g,d,t,os⟩:=by
 have K:=e.slot.bind (.ref x);unfold setAttr callSpecial? specialOf;repeat(any_goals(first|assumption|(with_reducible refine Ng i ?_;rw[r])|(with_reducible refine gL j s u T e.mro e.slot.lookup ?_;rw[k])|wp_step))
 refine OL e.slot.plain e.entry (uZ e T s i r (nr e T l s u n D i r m p λh' a f J I H G F=>?_));repeat(any_goals(first|assumption|wp_step))
 exact z h' a f J I H G F
end
section
variable{prog:MX}{w:M_}{A:Nc}{E:Mv->Mx->Prop}{h:Na}{g:Array RK}{d:Wj}{t:Nat}{os:VR}
variable{nm q:M3}{C N:MD}{bs bm bmB:List Mv}{hdct:Bool}{sn:List M3}{sub:List Mv}{ab:Bool}{col:Option Bool}{dd:Option MD}{k0 k1 k2 k3 k5:Option Mv}{B newId initId:String}
theorem kB(F:Uo B newId initId bmB)(T:VS h bmB bm){n:M3->Option Mv}{a:List Mv}{v:MD}{y:NF}{Q:Fin->Mx->Prop}(l:h.get? C=Mt (Py nm q C N bs bm hdct sn sub ab col dd k0 k1 k2 k3 k5 newId))(G:h.Ns N n)(H:n "__init__"=Mt (.ref v))(s:h.get? v=Mt y)(p:y.cls=.type "function")(D:∀h' e,o8 h h' e C->wpAny (MO prog w) A (call (.ref v) (.ref e::a)) (λr s'=>r=.none/\Q (.done (.ret (.ref e))) s') E ⟨h',g,d,t,os⟩)(j:a.length<=MP):wpAny (MO prog w) A (Builtin.«type.__call__» ⟨.ref C::a,[]⟩) Q E ⟨h,g,d,t,os⟩:=by
 repeat(first|with_reducible refine Ng l ?_|with_reducible refine TV l ?_|wp_step)
 refine S_ (O8 _ F.quiet) (UZ F T l ?_);refine U0 F T l ?_ j;show wpAny _ _ _ _ _ _;have c:=Mw {cls:=.ref C,data:=.fields #[.ref h.objs.size,.none,.none,.none,.bool My,.none]} (Mw {cls:=.type "tuple",data:=.seq a.toArray} l);have f:=Mw {cls:=.ref C,data:=.fields #[.ref h.objs.size,.none,.none,.none,.bool My,.none]} (Mw {cls:=.type "tuple",data:=.seq a.toArray} s);have k:((h.push {cls:=.type "tuple",data:=.seq a.toArray}).push {cls:=.ref C,data:=.fields #[.ref h.objs.size,.none,.none,.none,.bool My,.none]}).Ns N n:=let⟨o,K,L,e,r⟩:=G;⟨o,K,L,Mw _ (Mw _ e),r⟩;have i:((h.push {cls:=.type "tuple",data:=.seq a.toArray}).push {cls:=.ref C,data:=.fields #[.ref h.objs.size,.none,.none,.none,.bool My,.none]}).get? (h.objs.size+1)=Mt {cls:=.ref C,data:=.fields #[.ref h.objs.size,.none,.none,.none,.bool My,.none]}:=by heap_get
 have u:(MW C::bm).contains (.ref C)=Mz:=by simp
 have m:=T.keeps (h':=(h.push {cls:=.type "tuple",data:=.seq a.toArray}).push {cls:=.ref C,data:=.fields #[.ref h.objs.size,.none,.none,.none,.bool My,.none]}) λb o e=>Mw _ (Mw _ e);unfold RC;repeat(first|with_reducible refine Ng i ?_|(with_reducible refine Rg c ?_;rw[u])|wp_step)
 show wpAny _ _ (O6 (.ref C) _) _ _ _;refine UI c k m F.mroIs F.init.lookup ?_;rw[H];refine M2 (Ms ?_);unfold bindSpecial;refine Ms (Q5 (T:="function") ⟨_,f,p⟩ ?_);rw[if_pos (by decide)];refine Mu (Ms (N3 (D _ (h.objs.size+1) ⟨λb o I=>Mw _ (Mw _ I),Qh _,h.objs.size,i⟩) (λr s' z=>?_) λ_ _ x=>x));obtain⟨rfl,J⟩:=z;wp_walk;exact J
theorem u0(F:Uo B newId initId bmB)(T:VS h bmB bm){l:M3->Option Mv}{a:List Mv}{j:MD}{k:NF}{Q:Mv->Mx->Prop}(c:h.get? C=Mt (Py nm q C N bs bm hdct sn sub ab col dd k0 k1 k2 k3 k5 newId))(n:h.Ns N l)(p:l "__init__"=Mt (.ref j))(i:h.get? j=Mt k)(f:k.cls=.type "function")(m:∀h' e,o8 h h' e C->wpAny (MO prog w) (A.under (.builtin "type.__call__" ⟨.ref C::a,[]⟩)) (call (.ref j) (.ref e::a)) (λr s'=>r=.none/\Q (.ref e) s') E ⟨h',g,d,t,os⟩)(b:a.length<=MP):wpAny (MO prog w) A (call (.ref C) a) Q E ⟨h,g,d,t,os⟩:=by
 have v:=tc_lookup;have u:=tc_bind (.ref C);have s:(⟨h,g,d,t,os⟩:Mx).TypeIs (.ref C) "type":=⟨_,c,rfl⟩;refine Ry (PR ?_);show wpAny _ _ (WH (.ref C) _) _ _ _;repeat(any_goals(first|assumption|with_reducible refine Ng c ?_|wp_step))
 refine⟨rfl,?_⟩;exact TX (O8 _ (by decide+kernel)) entry_typeCall (Ta c (kB F T c n p i f (λh' e o=>m h' e o) b))
end
noncomputable def gM:List M3:=["__setattr__","name"]
noncomputable def jx(K:ME)(a:List Mv):List Mv->Bool
 |[]=>a==[]|v::r=>(v::r)==a||match v with
  |.ref A=>(match K.lookup A with
   |some ⟨_,_,.cls cd,_⟩=>PySem.W.nsOkIn K cd.ns&&NQ K cd.ns "__setattr__"==Mt MA&&NQ K cd.ns "name"==Mt MA&&jx K a r|_=>My)|_=>My
theorem pz{K:ME}{h:Na}{a:List Mv}(X:K.In h):∀{l:List Mv},jx K a l=Mz->dG h a gM l
 |[],e=>by rw[<-beq_iff_eq.mp e];exact .base|v::r,e=>by
  unfold jx at e;rcases Bool.or_eq_true_iff.mp e with q|q;.rw[beq_iff_eq.mp q];exact .base
  .split at q
   .split at q
    .rename_i i;simp only[ML,beq_iff_eq]at q;obtain⟨⟨⟨b,g⟩,f⟩,d⟩:=q;refine .own (X _ _ i) (.of_isNs (SU X b)) (λn c=>?_) (pz X d);simp only[gM,Nl,Nj,or_false]at c;rcases c with rfl|rfl;.exact Pc X b g
     .exact Pc X b f
    .cases q
   .cases q
noncomputable def rK(K:ME)(C f:MD):Bool:=match K.lookup C with
 |some ⟨.type "type",_,.cls cd,b⟩=>(match cd.mro,b.toList with
  |.ref c::a,[_,_,_,_,Mt (.builtin n),_]=>c==C&&n=="ValueError.__new__"&&!cd.hasDel&&PySem.W.tailIn K h9 a&&jx K h9 a&&PySem.W.nsOkIn K cd.ns&&NQ K cd.ns "__init__"==Mt (Mt (.ref f))&&NQ K cd.ns "__setattr__"==Mt MA&&NQ K cd.ns "name"==Mt MA&&cd.hasDict|_,_=>My)|_=>My
theorem rL{K:ME}{h:Na}{N:MD}{mg:M3->Option Mv}{n:M3}{v:Mv}(X:K.In h)(G:h.Ns N mg)(e:NQ K N n=Mt (Mt v)):mg n=Mt v:=by
 obtain⟨o,k,l,a,hd,_,b⟩:=G;unfold NQ at e;split at e
 .rename_i c d g j i q;have:=X _ _ q;rw[a]at this;cases this;cases hd;split at e
  .rename_i en f;cases e;rw[<-b];unfold nsFind findBy;rw[<-Vl,f];rfl
  .split at e<;>cases e
 .cases e
theorem gO{K:ME}{h:Na}{C f:MD}(X:K.In h)(q:rK K C f=Mz):∃bm N nm q bs sn sub ab col dd k0 k1 k2 k3 k5 g,h.get? C=Mt (Py nm q C N bs bm Mz sn sub ab col dd k0 k1 k2 k3 k5 "ValueError.__new__")/\h.Ns N g/\g "__init__"=Mt (.ref f)/\g "__setattr__"=MA/\g "name"=MA/\VS h h9 bm/\dG h h9 gM bm:=by
 unfold rK at q;split at q
 .rename_i dd cd k t;split at q
  .rename_i v bm k0 k1 k2 k3 n k5 o m;simp only[ML,beq_iff_eq,N1]at q;obtain⟨⟨⟨⟨⟨⟨⟨⟨⟨rfl,rfl⟩,a⟩,s⟩,i⟩,ay⟩,d⟩,b⟩,c⟩,e⟩:=q;obtain⟨nm,bs,r,ns,p,hd,sn,sub,ab,col,u⟩:=cd;dsimp only at o a ay d b c e;subst o a e;have j:k=#[k0,k1,k2,k3,Mt (.builtin "ValueError.__new__"),k5]:=by
    obtain⟨l⟩:=k;simp only at m;rw[m]
   subst j;have G:h.Ns ns (h.nsMap ns):=.of_isNs (SU X ay);exact⟨bm,ns,nm,p,bs,sn,sub,ab,col,dd,k0,k1,k2,k3,k5,_,X _ _ t,G,rL X G d,Pc X ay b,Pc X ay c,Vu X s,pz X i⟩
  .cases q
 .cases q
theorem u4:O6 (.type "ValueError") "name"=pure MA:=by rw[Rr,PH];kernel_rfl
section
variable{X:Cx}{pos pos' np vp:Od}
noncomputable def Eo(C:MD)(i j:Nat):TS:=λD b H=>∃v e ob,b[j]?=Mt (Mt v)/\b[i]?=Mt (Mt (.ref e))/\H e=Mt (cD e ob)/\ob.cls=.ref C/\ob.dict=MA/\(∀c,ob.data≠.cls c)/\∀a,H a=MA->a≠e->D.nx b (upd (upd H e (cD e {ob with dict:=Mt a})) a (.xd [("name",v)]))
theorem xT{C f:MD}{i j:Nat}{xs r:M3}(hq:rK X.K C f=Mz)(hi:X.N[i]?=Mt xs)(hj:X.N[j]?=Mt r)(vs:n6 X.env.scope xs)(vn:n6 X.env.scope r)(ds:(xs==("__debug__":M3))=My)(cs:(xs==("__classdict__":M3))=My)(dn:(r==("__debug__":M3))=My)(cn:(r==("__classdict__":M3))=My):PS X (.Assign [.Attribute (.Name xs np) "name" pos'] (.Name r vp) pos) (Eo C i j):=by
 intro c s E H D I⟨v,e,ob,hv,he,Z,hc,hd,S,q⟩;refine plainObj_wpAny_Assign_Attribute (aU (cv (pos:=vp) hj vn dn cn c s E H (λy G=>y=v/\G=H) I ⟨_,hv,rfl,rfl⟩) λu s1⟨y,G,I1,ry,ey,W⟩=>?_) rfl;subst ey W;refine aU (cv (pos:=np) hi vs ds cs c s1 E G (λx n=>x=.ref e/\n=G) I1 ⟨_,he,rfl,rfl⟩) λov s2 J=>?_;obtain⟨x,n,k,rx,ex,W⟩:=J;subst ex W;cases(show ov=MW e from rx);obtain⟨bm,N,nm,q0,bs,sn,sub,ab,a1,dd,k0,k1,k2,k3,k5,mN,hC,hN,a0,M,R,T,TN⟩:=gO k.fB hq;have O:s2.heap.get? e=Mt ob:=(k.ay e _ Z).1;obtain⟨hh,gg,Y,tk,os⟩:=s2;refine px PySem.F.store_ValueError TN (by simp[gM]) (by simp[gM]) hC hN M R u4 O hc S hd λh' t d l B A Q hk=>?_;have hf:n d=MA:=k.ay.fresh l;have I3:Inv X c E (upd n e (cD e {ob with dict:=Mt d})) ⟨h',gg,Y,t,os⟩:=k.write (x:=e) (e:=e) (t':=t) (by rw[Z];exact trivial) (.inl rfl) (λb u V z=>hk b u V z) ⟨_,A⟩ (obH_okM A);have U:upd n e (cD e {ob with dict:=Mt d}) d=MA:=by rw[ai B];exact hf
 have lt:∀{b:MD},b<hh.objs.size->b≠d:=λV z=>absurd (z▸V) (Nat.not_lt.mpr l);have L:aQ X.prog X.w (upd (upd n e (cD e {ob with dict:=Mt d})) d (.xd [("name",y)])) h' d (.xd [("name",y)]):=by
  refine⟨_,Q,λf=>?_⟩;by_cases m:f="name"
  .subst m;simp only[NC,beq_self_eq_true,if_true];exact ry
  .have:(f==("name":M3))=My:=beq_eq_false_iff_ne.mpr m;simp only[NC,this,List.lookup_nil,if_neg m];trivial
 refine⟨E,_,I3.fF (o:=.xd [("name",y)]) (Nw k.sz l) U (λz=>lt k.lt z.symm) (λx cc ee z=>?_) (λp hp z=>?_) L,q d hf B⟩
 .obtain⟨vv,cq⟩:=k.cell x cc ee;exact lt cq.lt z
 .exact lt (MH (k.pin p hp).1) z;where obH_okM{P:MX}{w:M_}{H:Hp}{h:Na}{a:MD}{o:NF}(e:h.get? a=Mt o):aQ P w H h a (cD a o):=⟨e,⟨o,e⟩,λh1 h2 q st=>st _ q⟩
end
noncomputable def rM(C:MD):Sp:=λb H Q _=>∃e v ob,b=[.ref e,v]/\H e=Mt (cD e ob)/\ob.cls=.ref C/\ob.dict=MA/\(∀c,ob.data≠.cls c)/\∀a,H a=MA->a≠e->Q .aJ (upd (upd H e (cD e {ob with dict:=Mt a})) a (.xd [("name",v)]))
section
variable{P:MX}{w:M_}{K:ME}{mg:M3->Option Mv}{base:Na}
theorem AU{a:M3}{st:OM}{C f:MD}{fd:N8}{p1 k g d:Od}(F:ur K "__init__" a st f fd)(S:bI ["self","name"] ["self","name"] (aj st))(n:bD st=[.Assign [.Attribute (.Name "self" p1) "name" k] (.Name "name" g) d])(m:rK K C f=Mz):cw P w K mg base qp 1 f fd ["self","name"] (rM C):=by
 refine F.ok S (λc H Q E⟨e,v,ob,h,_⟩=>by rw[h];rfl) (λb A outer s H c Q E u h=>?_);obtain⟨e,v,ob,rfl,t,r,q,p,o⟩:=h;have sG:∀x∈(["self","name"]:List M3),n6 (aj st) x:=λx l=>(S.par x l).elim .inl λz=>.inr (.inl z);refine⟨_,by rw[n];exact fh (xT (X:=(g9 qp P w K mg base ["self","name"] a (aj st) f b A outer s H E).FU) (i:=0) (j:=1) m rfl rfl (sG _ (by simp)) (sG _ (by simp)) (by decide) (by decide) (by decide) (by decide)),?_⟩;exact⟨v,e,ob,rfl,rfl,t,r,q,p,o⟩
end
section
variable{X:Cx}{F:Fx}{a:MV}{ta:ag->M D}{x:M3}{np cp:Od}
structure AV(K:ME)(C:MD):Prop where ex:∃(f:MD)(qual:M3)(st:OM)(fd:N8)(p1 p2 p3 p4:Od)(oI:NF),rK K C f=Mz/\ur K "__init__" qual st f fd/\bI ["self","name"] ["self","name"] (aj st)/\bD st=[.Assign [.Attribute (.Name "self" p1) "name" p2] (.Name "name" p3) p4]/\Binds K fd ["self","name"] []/\K.lookup f=Mt oI/\oI.cls=.type "function"
theorem rN{pins:List (MD×NF)}{σ:St}{H:Hp}{s:Mx}{C:MD}{v:V}{u:Mv}{Q:Mv->Mx->Prop}(I:Inv X pins σ H s)(M:AV X.K C)(hr:bT 2 X.A)(Z:RelV v u)(q:∀s' e h t,Inv X pins σ (upd (upd H e (cD e {bF C t with dict:=Mt h})) h (.xd [("name",v)])) s'->H e=MA->H h=MA->h≠e->s.heap.objs.size<=e->Q (.ref e) s'):wpAny (MO X.prog X.w) X.A (call (.ref C) [u]) Q X.xe s:=by
 obtain⟨f,L,st,fd,p1,p2,p3,p4,oI,P,Fn,Sc,G,Bn,lk,B⟩:=M.ex;have FO:cw X.prog X.w X.K X.mg X.base qp 1 f fd ["self","name"] (rM C):=AU Fn Sc G P;obtain⟨bm,N,nm,q0,bs,sn,sub,ab,a2,dd,k0,k1,k2,k3,k5,mN,hC,hN,o,a0,a1,T,TN⟩:=gO I.fB P;have E:s.heap.get? f=Mt oI:=I.fB _ _ lk;obtain⟨hh,W,d,m,os⟩:=s;refine u0 SV T hC hN o E B (λU e g=>?_) (by show 1<=MP;decide);obtain⟨t,O⟩:=g.there;have I2:Inv X pins σ H ⟨U,W,d,m,os⟩:=I.kept (t':=m) g.keeps;have un:H e=MA:=I.ay.fresh g.ge;have lt:∀{b:MD},b<hh.objs.size->b≠e:=λhb z=>absurd (z▸hb) (Nat.not_lt.mpr g.ge);have J:Inv X pins σ (upd H e (cD e (bF C t))) ⟨U,W,d,m,os⟩:=I2.fF (Nw I.sz g.ge) un (λz=>lt I.lt z.symm) (λx cc ee z=>by
  obtain⟨vv,cq⟩:=I.cell x cc ee;exact lt cq.lt z) (λp hp z=>lt (MH (I.pin p hp).1) z) ⟨O,⟨_,O⟩,λS R q st=>st _ q⟩;have r2:ak [V.ref e,v] [MW e,u]:=.cons rfl (.cons Z .nil);have n:rM C [V.ref e,v] (upd H e (cD e (bF C t))) (λw H2=>w=.aJ/\∃h,H h=MA/\h≠e/\H2=upd (upd H e (cD e {bF C t with dict:=Mt h})) h (.xd [("name",v)])) (λ_ _ _=>False):=⟨e,v,bF C t,rfl,ah,rfl,rfl,(λc z=>nomatch z),λh k j=>⟨rfl,h,by rw[ai j]at k;exact k,j,by rw[aT]⟩⟩;refine Ry (OH (FO.run _ X.stack _ _ ⟨[MW e,u],[]⟩ [MW e,u] _ _ (λ_ _ _=>False) (hr.make C [u] []) (J.uj.make C [u] []) (Bn _ [MW e,u] J.fB rfl) r2 n) λr s' i=>?_);cases r with
 |error e=>exact N7 i|ok fl=>cases fl with
  |ret w=>
   obtain⟨y,H',I4,Y,rfl,h,S,R,rfl⟩:=J.after i;exact⟨Y,q s' e h t I4 un S R g.ge⟩|next=>exact N7 i|brk=>exact N7 i|cont=>exact N7 i
end
section
variable{X:Cx}{pins:List (MD×NF)}{σ:St}{H:Hp}{s:Mx}
theorem Inv.AW{a:MD}{u:HO}(I:Inv X pins σ H s)(hu:H a=Mt u)(nt:∀xs,u≠.tup xs)(i:∀b v,u≠.bo b v)(j:∀ps,u≠.t9 ps)(no:∀x,u≠.own x):Inv X pins σ (λb=>if b=a then MA else H b) s:=by
 have at_:∀b,b≠a->(if b=a then MA else H b)=H b:=λb f=>if_neg f;have g:∀b xs,H b=Mt (.tup xs)->(if b=a then MA else H b)=Mt (.tup xs):=λb xs e=>by rw[at_ b (λz=>by rw[z,hu]at e;cases e;exact nt _ rfl)];exact e
 have h:∀b x,H b=Mt (.own x)->(if b=a then MA else H b)=Mt (.own x):=λb x e=>by rw[at_ b (λz=>by rw[z,hu]at e;cases e;exact no _ rfl)];exact e
 have nn:∀b,H b=MA->(if b=a then MA else H b)=MA:=λb e=>by split<;>first|rfl|exact e
 refine⟨I.ok,I.os,I.bare,⟨I.base.keep,I.base.slot,λb ob e n k=>nn b (I.base.free b ob e n k),I.base.there,λb xs e=>g b xs (I.base.fx b xs e),λb ob v e=>?_,λb ps e=>?_⟩,I.loc,I.cell,nn _ I.free,λx c e=>nn _ (I.bS x c e),λp l=>?_,λb v e=>?_,I.len⟩
 .have q:=I.base.eB b ob v e;rw[at_ b (λz=>by rw[z,hu]at q;cases q;exact i _ _ rfl)];exact q
 .obtain⟨d,q⟩:=I.base.fy b ps e;exact⟨d,by rw[at_ b (λz=>by rw[z,hu]at q;cases q;exact j _ rfl)];exact q⟩
 .obtain⟨e,n,r⟩:=I.pin p l;exact⟨e,nn _ n,r⟩
 .by_cases f:b=a
  .subst f;rw[if_pos rfl]at e;cases e
  .rw[at_ b f]at e;exact(I.ay b v e).fw (λ_ _ _ q=>q) (λc q=>h c _ q) g
end
section
variable{X:Cx}{F:Fx}{e:MV}{es:List MV}{tas:ag->M (List A)}{x:M3}{np cp pos:Od}
noncomputable def u5:List D->M D
 |[d]=>pure d|_=>M.fail
theorem xU{ds:List D}{k Q E}(h:(u5 ds).run k Q E):∃d,ds=[d]/\Q d k:=by match ds,h with|[d],h=>exact⟨d,rfl,h⟩
theorem xV{C:MD}{pins:List (MD×NF)}{s:Mx}{σ:St}{H:Hp}{i:ag}{k:Nat}{R:D->Nat->Prop}{Q:Mv->Mx->Prop}(I:Inv X pins σ H s)(S:bp F i k σ H)(ha:DA X F (e::es) tas)(h:(do let ds<-dB (<-tas i);u5 ds:L2.M D).run k R F.E)(M:AV X.K C)(Z:bT 2 X.A)(hg:Gl X x)(hm:X.mg x=Mt (.ref C))(n:(x==("__debug__":M3))=My)(O:MS (e::es) X.env=(My,N2 e X.env)::MS es X.env)(m:(Og cp (MS es X.env)).any (·.1)=My)(q:∀d k1 b s1 s2 v a c t,Inv X pins σ b s1->Ext F.toFb H k b k1->bp F i k1 σ b->R d k1->Is F.toFb b v d->Inv X pins σ (upd (upd b a (cD a {bF C t with dict:=Mt c})) c (.xd [("name",v)])) s2->b a=MA->b c=MA->c≠a->s1.heap.objs.size<=a->Q (.ref a) s2):wpAny (MO X.prog X.w) X.A (N2 (.Call (.Name x np) (e::es) [] cp) X.env) Q X.xe s:=by
 obtain⟨f,J,st,fd,p1,p2,p3,p4,oI,hq,_⟩:=M.ex;obtain⟨bm,N,nm,q0,bs,sn,sub,ab,a2,dd,k0,k1,k2,k3,k5,mN,hC,hN,a1,Y,a0,T,TN⟩:=gO I.ok.mod.zt hq;refine VU (fg I hg hm ?_ n);unfold callWith;rw[O];have L:=ha.pa cp pins s σ H _ I (mU.next (Q:=λj b=>∃d k1,Ext F.toFb H k b k1/\bp F i k1 σ b/\R d k1/\af F.toFb b j [d]) S h λas k1 j b e1 B W y=>by
  obtain⟨ds,rfl,p⟩:=bh y;obtain⟨d,rfl,o⟩:=xU p;exact⟨d,k1,e1,B,o,bj W⟩);rw[O]at L;have g:(Og cp ((My,N2 e X.env)::MS es X.env)).any (·.1)=My:=by
  show(My||(Og cp (MS es X.env)).any (·.1))=My;rw[m];rfl
 refine Ms (M2 (QR (aU L λus s1⟨j,b,G,r,d,l,e1,B,z,V⟩=>Ms (Oa ?_))));obtain⟨v,rfl,U⟩:=V.one;obtain⟨u,rfl,P⟩:=vals1 r;have c1:=G.bk _ _ hC;simp only[g];obtain⟨hh,gg,d',tk,os⟩:=s1;refine Ms (Vv c1 ?_);exact Ms (rN G M Z P λs2 a c t I2 y p o h4=>Ms (M2 (wpAny_point (Mu (q d l b _ s2 v a c t G e1 B z U I2 y p o h4)))))
theorem Ep{C:MD}(y:DA X F (e::es) tas)(M:AV X.K C)(U:bT 2 X.A)(W:Gl X x)(V:X.mg x=Mt (.ref C))(m:(x==("__debug__":M3))=My)(Y:MS (e::es) X.env=(My,N2 e X.env)::MS es X.env)(l:(Og cp (MS es X.env)).any (·.1)=My):DE X F (.Call (.Name x np) (e::es) [] cp) (λr=>do let d<-(do let ds<-dB (<-tas r);u5 ds:L2.M D);pure (.exc C [d])):=by
 refine⟨y.hK,λw s σ H Q I⟨r,k,S,h⟩=>?_⟩;refine xV I S y h M U W V m Y l λd k1 N s1 s2 v a f t I1 e1 G z T L q o n h4=>?_;have z:qE F.toFb H k Q (.exc C [d]) k1:=z;have R:a≠F.p:=bY G.live q;have nd:f≠F.p:=bY G.live o;have E:(upd (upd N a (cD a {bF C t with dict:=Mt f})) f (.xd [("name",v)])) a=Mt (cD a {bF C t with dict:=Mt f}):=by rw[ai (NO n),ah]
 have P:s2.heap.get? a=Mt {bF C t with dict:=Mt f}:=(L.ay a _ E).1;have J:=L.freeze E P (λ_ z=>nomatch z) (λ_ _ z=>nomatch z) (λ_ z=>nomatch z) (λ_ z=>nomatch z);have B:(upd (upd (upd N a (cD a {bF C t with dict:=Mt f})) f (.xd [("name",v)])) a (.bo {bF C t with dict:=Mt f} (cD a {bF C t with dict:=Mt f}))) f=Mt (.xd [("name",v)]):=by rw[ai n,ah]
 obtain⟨mA,⟨O,Z,ep,eo,_⟩,_⟩:=J.ay f _ B;have I4:=J.freeze B eo (λ_ z=>nomatch z) (λ_ _ z=>nomatch z) (λ_ z=>nomatch z) (λ_ z=>nomatch z);refine⟨.ref a,_,I4,rfl,z _ _ (e1.trans (k1:=k1) (.of λb u j=>?_)) ?_⟩
 .have i:b≠a:=ar j q;have g:b≠f:=ar j o;rw[ai g,ai i,ai g,ai i];exact j
 .simp only[Is];refine⟨a,[v],rfl,⟨R,{bF C t with dict:=Mt f},_,f,O,by rw[ai (NO n),ah],rfl,⟨_,rfl⟩,rfl,nd,ah⟩,.cons (T.mono (k':=k1) (k:=k1) (Ext.of λb u j=>?_).kp) .nil⟩;have i:b≠a:=ar j q;have g:b≠f:=ar j o;rw[ai g,ai i,ai g,ai i];exact j
end
section
variable{X:Cx}{F:Fx}{e:MV}{es:List MV}{tas:ag->M (List A)}{x:M3}{np cp pos:Od}
theorem Er{C:MD}(q:DA X F (e::es) tas)(D:Gl X x)(B:X.mg x=Mt (.ref C))(w:ni X.K C=Mz)(l:(x==("__debug__":M3))=My)(G:MS (e::es) X.env=(My,N2 e X.env)::MS es X.env)(j:(Og cp (MS es X.env)).any (·.1)=My):DE X F (.Call (.Name x np) (e::es) [] cp) (λi=>do let as<-tas i;M.need (as.length<=MP);pure (.exc C [])):=by
 refine⟨q.hK,λd s n H Q I⟨i,k,S,h⟩=>?_⟩;have v:(do let as<-tas i;M.need (as.length<=MP):L2.M Unit).run k (λ_ u=>qE F.toFb H k Q (.exc C []) u) F.E:=h;refine xA I S q v D B w l G j λV m s1 r a t f e1 P z c o=>?_;have un:m a=MA:=f.ay.fresh c.ge;have T:Inv X d n m {s1 with heap:=r}:=f.kept (t':=s1.toks) c.keeps;have lt:∀{b:MD},b<s1.heap.objs.size->b≠a:=λJ z=>absurd (z▸J) (Nat.not_lt.mpr c.ge);have R:Inv X d n (upd m a (.bo (bF C t) (.ext λ_=>True))) {s1 with heap:=r}:=T.fF (Nw f.sz c.ge) un (λz=>lt f.lt z.symm) (λx O L z=>by
  obtain⟨U,N⟩:=f.cell x O L;exact lt N.lt z) (λp y z=>lt (MH (f.pin p y).1) z) ⟨o,trivial,⟨_,o⟩,λ_ _ _ _=>trivial⟩;refine⟨.ref a,_,R,rfl,z _ _ (e1.trans (.new un)) ?_⟩;simp only[Is];exact⟨a,[],rfl,⟨bY P.live un,bF C t,_,ah,rfl,⟨_,rfl⟩⟩,.nil⟩
theorem u6{C:MD}(hc:X.calm=Mz)(ho:uL X F)(Q:DA X F (e::es) tas)(MK:AV X.K C)(hr:bT 2 X.A)(hg:Gl X x)(hm:X.mg x=Mt (.ref C))(y:(x==("__debug__":M3))=My)(he:MS (e::es) X.env=(My,N2 e X.env)::MS es X.env)(w:(Og cp (MS es X.env)).any (·.1)=My):DS X F (.Raise (Mt (.Call (.Name x np) (e::es) [] cp)) MA pos) (λj=>do let d<-(do let ds<-dB (<-tas j);u5 ds:L2.M D);L2.M.throw ⟨.exc C [d],j⟩):=by
 refine⟨Q.hK,λm s σ H Z I⟨j,k,S,h⟩=>?_⟩;obtain⟨f,O,st,fd,p1,p2,p3,p4,oI,hq,_⟩:=MK.ex;obtain⟨bm,N,nm,q0,bs,sn,sub,ab,col,dd,k0,k1,k2,k3,k5,mN,hC,hN,a2,a0,a1,T,TN⟩:=gO I.ok.mod.zt hq;rw[arm_exec_Raise];refine Ms (Oa ?_);refine iM (C:=C) (nm:=nm) (q:=q0) (N:=N) (bs:=bs) (bm:=bm) (hdct:=Mz) (sn:=sn) (sub:=sub) (ab:=ab) (col:=col) (dd:=dd) (k0:=k0) (k1:=k1) (k2:=k2) (k3:=k3) (k5:=k5) (newId:="ValueError.__new__") (T.hasType PySem.F.excBase_ValueError.hasBase) (I.ok.hd hc) ?_;have r:(do let ds<-dB (<-tas j);u5 ds:L2.M D).run k (λd k'=>F.E ⟨.exc C [d],j⟩ k') F.E:=h;refine Ms (xV I S Q r MK hr hg hm y he w λd i l s1 s2 v a c t I1 e1 Y z iv L h1 U R h4=>Ms (Oa (Mu ?_)));have nd:c≠F.p:=bY Y.live U;have V:(upd (upd l a (cD a {bF C t with dict:=Mt c})) c (.xd [("name",v)])) c=Mt (.xd [("name",v)]):=ah;obtain⟨mA,⟨o,a3,ep,eo,_⟩,_⟩:=L.ay c _ V;have J:=L.freeze V eo (λ_ z=>nomatch z) (λ_ _ z=>nomatch z) (λ_ z=>nomatch z) (λ_ z=>nomatch z);rw[aT]at J;have W:(upd (upd l a (cD a {bF C t with dict:=Mt c})) c (.bo o (.xd [("name",v)]))) a=Mt (cD a {bF C t with dict:=Mt c}):=by rw[ai (NO R),ah]
 have P:s2.heap.get? a=Mt {bF C t with dict:=Mt c}:=(J.ay a _ W).1;have I4:=J.AW W (λ_ z=>nomatch z) (λ_ _ z=>nomatch z) (λ_ z=>nomatch z) (λ_ z=>nomatch z);have same:oA l (λb=>if b=a then MA else(upd (upd l a (cD a {bF C t with dict:=Mt c})) c (.bo o (.xd [("name",v)]))) b):=λb u G=>by
  have n:b≠a:=ar G h1;have B:b≠c:=ar G U;show(if b=a then MA else _)=_;rw[if_neg n,ai B,ai n];exact G
 have ex:Ext F.toFb l i _ i:=Ext.of same;refine⟨a,t,Mt c,rfl,L.bk _ _ hC,P,?_⟩;refine ho m σ j _ i s2 a C (Mt c) [d] I4 (Y.mono ex) ⟨s1,l,I1,if_pos rfl,h4,_,_,P,rfl,rfl,rfl,.inl rfl⟩ ⟨c,o,v,rfl,nd,?_,iv.mono ex.kp⟩ z;show(if c=a then MA else _)=_;rw[if_neg R,ah]
end
structure Es(M:RL)(h:Na)(C:MD):Prop where
 ga:P5 M h (O6 (.ref C) "__getattribute__") (Mt (.builtin "BaseException.__getattribute__"))no:P5 M h (O6 (.ref C) "__getattr__") MA
 cl:P5 M h (O6 (.ref C) "__class__") (Mt (.builtin "object.__class__"))sb:P5 M h (isSubtype (.ref C) (.type "BaseException")) Mz
 so:P5 M h (isSubtype (.ref C) (.type "object")) Mz
 it:P5 M h (isType (.ref C)) Mz
section
variable{prog:MX}{w:M_}{A:Nc}{E:Mv->Mx->Prop}{h:Na}{g:Array RK}{d:Wj}{t:Nat}{os:VR}{a C:MD}{o:NF}
theorem Et{R:Wn->Mx->Prop}(L:Es (MO prog w) h C)(c:h.get? a=Mt o)(e:o.cls=.ref C)(i:R (.ok (.ret (.ref C))) ⟨h,g,d,t,os⟩):codeAny (MO prog w) A (.call (.builtin "getset_descriptor.__get__") ⟨[.builtin "object.__class__",.ref a,.ref C],[]⟩) R ⟨h,g,d,t,os⟩:=by
 have b:(⟨h,g,d,t,os⟩:Mx).TypeIs (.builtin "object.__class__") "getset_descriptor":=RX;have f:P5 (MO prog w) h (isSubtype (.ref C) (.type (".".intercalate ("object.__class__".cutAt '.').dropLast))) Mz:=by rw[F.owner_object_class];exact L.so
 refine OL F.slot_gs_get.plain F.entry_gs_get (F.slot_gs_get.check _ _ _ _ _ _ _ _ b (F.args_gs_get _ _ _) ?_);repeat(any_goals(first|assumption|(with_reducible refine Ng c ?_;rw[e])|with_reducible refine f.at ?_|wp_step))
 refine⟨O8 _ (by decide+kernel),NU F.entry_object_class ?_⟩;repeat(any_goals(first|assumption|(with_reducible refine Ng c ?_;rw[e])|wp_step))
theorem xW{e:Ut}{Q:Fin->Mx->Prop}(L:Es (MO prog w) h C)(b:h.get? a=Mt o)(c:o.cls=.ref C)(j:Q (.done (.ret (.ref C))) ⟨h,g,d,t,os⟩):wpAny (MO prog w) A (Builtin.«object.__getattribute__» ⟨[.ref a,.str "__class__" e],[]⟩) Q E ⟨h,g,d,t,os⟩:=by
 have f:(⟨h,g,d,t,os⟩:Mx).TypeIs (.builtin "object.__class__") "getset_descriptor":=RX;have f5:=RX;have l:=F.slot_gs_get.lookup;have k:=F.slot_gs_set.lookup;have i:=L.cl;repeat(any_goals(first|assumption|(with_reducible refine Ng b ?_;rw[c])|with_reducible refine i.at ?_|wp_step))
 refine Et L b c ?_;repeat(any_goals(first|assumption|wp_step))
theorem pA{M:RL}{b:Mv}{Q:Unit->Mx->Prop}(L:Es M h C)(e:h.get? a=Mt o)(j:o.cls=.ref C)(f:Q () ⟨h,g,d,t,os⟩):wpAny M A (Qd "BaseException.__getattribute__" ⟨[.ref a,b],[]⟩) Q E ⟨h,g,d,t,os⟩:=by
 have i:builtinKind "BaseException.__getattribute__"=Mt .slot:=by decide+kernel
 have c:splitId "BaseException.__getattribute__"=Mt ("BaseException","__getattribute__"):=by decide+kernel
 have k:=F.args_bexc_ga (.ref a) b;have sb:=L.sb;simp only[Qd,i,c];refine Ms ?_
 .unfold RC;repeat(first|(with_reducible refine Ng e ?_;rw[j])|with_reducible refine sb.at ?_|wp_step)
  exact f
theorem G9{f:Ut}{Q:Mv->Mx->Prop}(L:Es (MO prog w) h C)(c:h.get? a=Mt o)(e:o.cls=.ref C)(l:Q (.ref C) ⟨h,g,d,t,os⟩):wpAny (MO prog w) A (getAttrBy (.ref a) (.str "__class__" f) My) Q E ⟨h,g,d,t,os⟩:=by
 have k:=L.ga;have j:=L.no;have m:=F.excAttr_ValueError.ga.bind (.ref a);have b:(NM "BaseException.__getattribute__"==NM "object.__getattribute__")=My:=by decide+kernel
 have i:(onTheHeap (MW C)&&NM "BaseException.__getattribute__"==NM "object.__getattribute__")=My:=by rw[b];rfl
 repeat(any_goals(first|assumption|(with_reducible refine Ng c ?_;rw[e])|with_reducible refine k.at ?_|with_reducible refine j.at ?_|wp_step))
 refine OL F.excAttr_ValueError.ga.plain F.entry_bexc_ga (pA L c e (xW L c e ?_));repeat(any_goals(first|assumption|wp_step))
theorem AX{Q:Option Mv->Mx->Prop}(L:Es (MO prog w) h C)(b:h.get? a=Mt o)(c:o.cls=.ref C)(e:Q (Mt (.ref C)) ⟨h,g,d,t+1,os⟩):wpAny (MO prog w) A (getAttr? (.ref a) "__class__") Q E ⟨h,g,d,t,os⟩:=by
 unfold getAttr? getAttrBy?;repeat(any_goals(first|assumption|with_reducible apply G9 L b c|wp_step))
end
noncomputable def AY(K:ME)(C:MD):Bool:=P_ K (.ref C) "__getattribute__"==Mt (Mt (.builtin "BaseException.__getattribute__"))&&P_ K (.ref C) "__getattr__"==Mt MA&&P_ K (.ref C) "__class__"==Mt (Mt (.builtin "object.__class__"))&&Q1 K (.ref C) (.type "BaseException")==Mt Mz&&Q1 K (.ref C) (.type "object")==Mt Mz&&(Q1 K (.ref C) (.ref C)).isSome&&(PySem.W.clsIn K C).isSome
theorem rO{K:ME}{M:RL}{h:Na}{C:MD}(X:K.In h)(q:AY K C=Mz):Es M h C:=by
 simp only[AY,ML,beq_iff_eq]at q;obtain⟨⟨⟨⟨⟨⟨f,e⟩,d⟩,c⟩,b⟩,a⟩,_⟩:=q;obtain⟨v,g⟩:=Option.isSome_iff_exists.mp a;exact⟨Q2 X f,Q2 X e,Q2 X d,(Qr X c).2.2,(Qr X b).2.2,(Qr X g).2.1⟩
noncomputable def Lz(a C:MD)(h:Na):Prop:=∃o,h.get? a=Mt o/\o.cls=.ref C
theorem xX{K:ME}{a C:MD}(q:AY K C=Mz):PySem.W.KitX K (.ref a) (.ref C) (Lz a C)where
 ty:=λM h _ p=>by
  obtain⟨o,i,f⟩:=p;exact f▸(PySem.W.Looks.ld i).andThen .now
 it:=λM h X p=>(rO X q).it;ne:=λh j y m n v X b=>by
  simp only[AY,ML]at q;obtain⟨cd,c⟩:=Option.isSome_iff_exists.mp q.2;refine Bool.eq_false_iff.mpr λz=>?_;have e:C=j:=Value.ref.inj (beq_iff_eq.mp z);subst e;unfold PySem.W.clsIn at c;split at c
  .rename_i D B u l r;have z:=(X _ _ r).symm.trans b;cases z
  .cases c
 ca:=λ{prog w A E Q s}X p k=>by
  obtain⟨x,g,d,t,os⟩:=s;obtain⟨o,i,f⟩:=p;exact AX (rO X q) i f k
noncomputable def d9(K:ME)(d:D)(c:Mv):Option Bool:=match d with
 |.exc a _=>if AY K a=Mz then Oi K (.ref a) c else MA|d=>match DH d with
  |some t=>Oi K (.type t) c|none=>MA
section
variable{X:Cx}{F:Fx}{a:MV}{ta:ag->M D}{pos:Od}
theorem pB{pins:List (MD×NF)}{σ:St}{H:Hp}{s:Mx}{Q:Mv->Mx->Prop}{E:Mv->Mx->Prop}{A:Nc}{d:D}{c:Mv}{b:Bool}{v:V}{u:Mv}(I:Inv X pins σ H s)(r:RelV v u)(hK:X.K=F.K)(i:Is F.toFb H v d)(e:d9 X.K d c=Mt b)(h:∀o,Q (.bool b) {s with toks:=o}):wpAny (MO X.prog X.w) A (QV (.builtin "isinstance") [u,c]) Q E s:=by
 by_cases m:∃f nm,d=.exc f nm
 .obtain⟨f,nm,rfl⟩:=m;have l:(if AY X.K f=Mz then Oi X.K (.ref f) c else MA)=Mt b:=e;split at l
  .rename_i q;simp only[Is]at i;obtain⟨a,n,rfl,p,_⟩:=i;cases(show u=MW a from r);have:Lz a f s.heap:=by match n,p with
    |[],⟨_,ob,u,k,j,_⟩=>exact⟨ob,(I.ay a _ k).1,j⟩|[v],⟨_,ob,u,y,x,k,j,_⟩=>exact⟨ob,(I.ay a _ k).1,j⟩
   exact NY (xX q) I.fB this l (λz=>nomatch z) h
  .cases l
 .have e:(match DH d with
    |some t=>Oi X.K (.type t) c|none=>MA)=Mt b:=by cases d<;>first|exact e|exact absurd ⟨_,_,rfl⟩ m
  cases g:DH d with
  |none=>rw[g]at e;cases e|some t=>
   rw[g]at e;exact wK I r hK i g e h
theorem xY{x p1 f:Od}{cn:M3}{P:MD}(n:DE X F a ta)(G:X.mg "isinstance"=MA)(g:X.mg cn=Mt (.ref P))(J:Gl X "isinstance")(j:Gl X cn)(l:(cn==("__debug__":M3))=My)(t:MS [a,.Name cn f] X.env=(My,N2 a X.env)::MS [.Name cn f] X.env):DE X F (.Call (.Name "isinstance" p1) [a,.Name cn f] [] pos) (λo=>do let d<-ta o;let b<-M.get (d9 X.K d (.ref P));pure (.bl b)):=by
 refine⟨n.hK,?_⟩;have L:cf X (.builtin "isinstance") (λy H Q=>∃k v d b,y=[v,.ref P]/\Is F.toFb H v d/\d9 X.K d (.ref P)=Mt b/\qE F.toFb H k Q (.bl b) k):=by
  intro p s w H R T Q I r h;obtain⟨k,v,d,b,rfl,i,m,q⟩:=h;obtain⟨u,c,rfl,B,A⟩:=vals2 r;cases(show c=MW P from A);exact pB I B n.hK i m λz=>⟨.bl b,H,I.tok z,rfl,q _ H .refl (by simp only[Is])⟩
 refine(dy L J G (by decide+kernel) (a_ n.pe (a_ (mE (v:=.ref P) j g rfl l) cR rfl) t) (by decide) (by decide) t rfl).imp λw H Q e=>?_;obtain⟨o,k,S,h⟩:=e;refine bK.next S h λd C v V e1 U E O=>?_;obtain⟨b,m,N⟩:=M.run_get.mp O;exact⟨C,v,d,b,rfl,E,m,N.ext e1⟩
theorem xZ{T:String}{p1 g:Od}{e:M3}(p:DE X F a ta)(L:X.mg "isinstance"=MA)(l:X.mg e=MA)(j:OB e=Mt (.type T))(N:Gl X "isinstance")(m:Gl X e)(J:e≠"__name__")(n:(e==("__debug__":M3))=My)(x:MS [a,.Name e g] X.env=(My,N2 a X.env)::MS [.Name e g] X.env):DE X F (.Call (.Name "isinstance" p1) [a,.Name e g] [] pos) (λt=>do let d<-ta t;let b<-M.get (d9 X.K d (.type T));pure (.bl b)):=by
 refine⟨p.hK,?_⟩;have O:cf X (.builtin "isinstance") (λz H Q=>∃k v d b,z=[v,.ty T]/\Is F.toFb H v d/\d9 X.K d (.type T)=Mt b/\qE F.toFb H k Q (.bl b) k):=by
  intro w s y H U V Q I r h;obtain⟨k,v,d,b,rfl,i,o,q⟩:=h;obtain⟨u,c,rfl,C,B⟩:=vals2 r;cases(show c=Rx T from B);exact pB I C p.hK i o λA=>⟨.bl b,H,I.tok A,rfl,q _ H .refl (by simp only[Is])⟩
 refine(dy O N L (by decide+kernel) (a_ p.pe (a_ (zx (v:=.ty T) m l j rfl J n) cR rfl) x) (by decide) (by decide) x rfl).imp λy H Q f=>?_;obtain⟨t,k,S,h⟩:=f;refine bK.next S h λd E v Y e1 W G R=>?_;obtain⟨b,o,P⟩:=M.run_get.mp R;exact⟨E,v,d,b,rfl,G,o,P.ext e1⟩
end
section
variable{prog:MX}{w:M_}{A:Nc}{E:Mv->Mx->Prop}{h:Na}{g:Array RK}{d:Wj}{t:Nat}{os:VR}{a C dx:MD}{o:NF}{mA:M3->Option Mv}{v:Mv}
structure Jn(M:RL)(h:Na)(C:MD):Prop where
 xl:Es M h C
 nm:P5 M h (O6 (.ref C) "name") MA
 cd:∃c0 dd cd sl,h.get? C=Mt {cls:=c0,dict:=dd,data:=.cls cd,slots:=sl}/\cd.hasDict=Mz
theorem x3{i:Ut}{Q:Fin->Mx->Prop}(L:Jn (MO prog w) h C)(e:h.get? a=Mt o)(f:o.cls=.ref C)(hd:o.dict=Mt dx)(b:∃vs,o.data=.fields vs)(l:h.Ns1 dx mA)(j:mA "name"=Mt v)(k:Q (.done (.ret v)) ⟨h,g,d,t,os⟩):wpAny (MO prog w) A (Builtin.«object.__getattribute__» ⟨[.ref a,.str "name" i],[]⟩) Q E ⟨h,g,d,t,os⟩:=by
 have n:=L.nm;obtain⟨r,p,cd,q,m,c⟩:=L.cd;repeat(any_goals(first|assumption|(with_reducible refine Ng e ?_;rw[f])|with_reducible refine n.at ?_|wp_step))
 obtain⟨vs,b⟩:=b;rw[b];show wpAny _ _ (instanceDict a My) _ _ _;unfold instanceDict;repeat(any_goals(first|assumption|(with_reducible refine Ng e ?_;rw[hd])|wp_step))
 rw[f];show wpAny _ _ (classData C>>=_) _ _ _;unfold classData;refine Ms (Ms (Wm m (Mu ?_)));show wpAny _ _ (if(!cd.hasDict)=Mz then _ else _) _ _ _;rw[c,if_neg (by decide)];refine Mu ?_;show wpAny _ _ (nsGet dx "name") _ _ _;refine wpAny_nsGet l.ns ?_;rw[j];refine Ms (Qk (Mu ?_));exact Mu k
theorem G_{f:Ut}{fill expr:Bool}{Q:Mv->Mx->Prop}(L:Jn (MO prog w) h C)(c:h.get? a=Mt o)(e:o.cls=.ref C)(hd:o.dict=Mt dx)(n:∃vs,o.data=.fields vs)(m:h.Ns1 dx mA)(k:mA "name"=Mt v)(p:∀id,v≠.builtin id)(l:Q v ⟨h,g,d,t,os⟩):wpAny (MO prog w) A (getAttrBy (.ref a) (.str "name" f) fill expr) Q E ⟨h,g,d,t,os⟩:=by
 have r:=L.xl.ga;have q:=L.xl.no;have s:=F.excAttr_ValueError.ga.bind (.ref a);have j:(expr&&onTheHeap (NM "BaseException.__getattribute__"))=My:=by cases expr<;>rfl
 have b:(NM "BaseException.__getattribute__"==NM "object.__getattribute__")=My:=by decide+kernel
 have i:(onTheHeap (MW C)&&NM "BaseException.__getattribute__"==NM "object.__getattribute__")=My:=by rw[b];rfl
 repeat(any_goals(first|assumption|(with_reducible refine Ng c ?_;rw[e])|with_reducible refine r.at ?_|with_reducible refine q.at ?_|wp_step))
 refine OL F.excAttr_ValueError.ga.plain F.entry_bexc_ga (pA L.xl c e (x3 L c e hd n m k ?_));repeat(any_goals(first|assumption|wp_step))
 split
 .rename_i id;exact absurd rfl (p id)
 .exact Mu l
theorem AZ{expr:Bool}{Q:Mv->Mx->Prop}(L:Jn (MO prog w) h C)(b:h.get? a=Mt o)(i:o.cls=.ref C)(hd:o.dict=Mt dx)(f:∃vs,o.data=.fields vs)(e:h.Ns1 dx mA)(c:mA "name"=Mt v)(j:∀id,v≠.builtin id)(k:Q v ⟨h,g,d,t+1,os⟩):wpAny (MO prog w) A (getAttr (.ref a) "name" expr) Q E ⟨h,g,d,t,os⟩:=by
 unfold getAttr;repeat(any_goals(first|assumption|with_reducible apply G_ L b i hd f e c j|wp_step))
end
noncomputable def B6(K:ME)(C:MD):Bool:=AY K C&&P_ K (.ref C) "name"==Mt MA&&match K.lookup C with
 |some ⟨_,_,.cls cd,_⟩=>cd.hasDict|_=>My
theorem Eu{K:ME}{M:RL}{h:Na}{C:MD}(X:K.In h)(q:B6 K C=Mz):Jn M h C:=by
 simp only[B6,ML,beq_iff_eq]at q;obtain⟨⟨c,b⟩,a⟩:=q;refine⟨rO X c,Q2 X b,?_⟩;split at a
 .rename_i d;exact⟨_,_,_,_,X _ _ d,a⟩
 .cases a
section
variable{X:Cx}{F:Fx}{e:MV}{ta:ag->M D}{pos:Od}
noncomputable def rP(K:ME):D->M D
 |.exc C [d]=>do M.need (B6 K C=Mz);pure d|_=>M.fail
theorem A0{B:Fb}{H:Hp}{v:V}{u:Mv}{d:D}(r:RelV v u)(i:Is B H v d):∀id,u≠.builtin id:=λid z=>by
 subst z;cases d with
 |aJ=>simp only[Is]at i;subst i;exact nomatch(show NM id=M5 from r)|bl b=>simp only[Is]at i;subst i;exact nomatch(show NM id=Rw b from r)|int n=>simp only[Is]at i;subst i;obtain⟨t,h⟩:=(show∃t,NM id=Qt n t from r);cases h|str x=>simp only[Is]at i;subst i;obtain⟨t,h⟩:=(show∃t,NM id=Sy x t from r);cases h|tup j=>simp only[Is]at i;obtain⟨a,g,rfl,_⟩:=i;exact nomatch(show NM id=MW a from r)|lst j=>simp only[Is]at i;obtain⟨a,g,rfl,_⟩:=i;exact nomatch(show NM id=MW a from r)|bR ks j=>simp only[Is]at i;obtain⟨a,g,rfl,_⟩:=i;exact nomatch(show NM id=MW a from r)|set ks=>simp only[Is]at i;obtain⟨a,rfl,_⟩:=i;exact nomatch(show NM id=MW a from r)|exc c j=>simp only[Is]at i;obtain⟨a,g,rfl,_⟩:=i;exact nomatch(show NM id=MW a from r)|fn f=>simp only[Is]at i;subst i;exact nomatch(show NM id=MW f from r)
end
section
variable{X:Cx}{F:Fx}{e:MV}{ta:ag->M D}{pos:Od}
theorem A1(t:DE X F e ta)(N:Pw e "name" X.env (N2 e X.env)=N2 e X.env):DE X F (.Attribute e "name" pos) (λp=>do rP X.K (<-ta p)):=by
 refine⟨t.hK,λf s y H Q I⟨p,k,S,h⟩=>?_⟩;refine zG N (aU (t.pe f s y H (λv b=>∃C d g,Ext F.toFb H k b g/\Is F.toFb b v (.exc C [d])/\B6 X.K C=Mz/\qE F.toFb H k Q d g) I (bK.next S h λd g v b e1 S1 i j=>?_)) λu s1⟨x,b,l,z,C,d,g,e1,i,E,q⟩=>?_);.match d,j with|.exc C [d],j=>exact⟨C,d,g,e1,i,j.1,j.2⟩
 .simp only[Is]at i;obtain⟨a,Y,rfl,V,B⟩:=i;cases(show u=MW a from z);obtain⟨v,rfl,r⟩:=B.one;obtain⟨na,ob,Z,W,od,U,T,R,P,h6,O⟩:=V;have J:s1.heap.get? a=Mt ob:=(l.ay a _ U).1;obtain⟨A,o,m⟩:=(l.ay W _ O).2;have G:jD (Mt v) (A "name"):=by
   have:=m "name";simpa using this
  obtain⟨u',n,c⟩:=jD.some_of G;have L:=Eu (M:=MO X.prog X.w) l.fB E;obtain⟨hh,gg,dd,tk,os⟩:=s1;exact AZ L J T P R o n (A0 c r) ⟨v,b,l.tok _,c,q v b e1 r⟩
end
end L2
end
section
namespace L2
open PySem PySem.Spec PyProof.Rows SortM
section
variable{X:Cx}{F:Fx}
noncomputable def Ew:D->M D
 |.lst a=>do M.need (a.length<=1);pure (.lst a)|_=>M.fail
theorem Ey{n:Nat}{p:Array Nat}(h:n<=1)(v:Ok n p):p.toList=N6 n:=by
 have:=v.2;have a:n=0\/n=1:=by omega
 rcases a with rfl|rfl;.exact List.perm_nil.mp this
 .exact List.perm_singleton.mp this
theorem x4:aY X F (.builtin "sorted") (one Ew)where
 call:=λf s A H k S b x Q I h l hK J E=>by
  obtain⟨d,rfl,q⟩:=cF E;obtain⟨v,rfl,i⟩:=J.one;cases d with
  |lst x=>
   obtain⟨L,q⟩:=q;obtain⟨u,rfl,C⟩:=vals1 h;simp only[Is]at i;obtain⟨a,T,rfl,G,n⟩:=i;cases(show u=MW a from C);refine hI (hX I (by rw[hK];exact G.2.sq) λj m b g h=>?_);have K:b.length<=1:=by rw[<-h.length,n.length];exact L
   refine⟨by omega,general',λ_ _=>My,⟨λ_=>rfl,λz=>by omega,λz=>by omega⟩,λp M c B U N e=>?_⟩;have P:=Ey K B;have O:(p.toList.map λi=>b.getD i M5)=b:=by rw[P];exact g_ b
   rw[O]at e;have y:Inv X f A H {s with heap:=j,toks:=m}:=I.kept (t':=m) g;have q:qE F.toFb H k Q (.lst x) k:=q;have r:H j.objs.size=MA:=y.ay.fresh (MN _);have R:=y.newList (t:=m) (D:=j.objs.size) N (MN _) h (by rw[n.length,NR];omega) e;exact⟨.ref j.objs.size,_,R.freeze ah e (λ_ z=>nomatch z) (λ_ _ z=>nomatch z) (λ_ z=>nomatch z) (λ_ z=>nomatch z),rfl,by
    rw[aT];exact q _ _ (.new r) (aR (k:=k) l r n)⟩|_=>exact q.elim
end
end L2
end
section
namespace ZP
open PySem PyProof.Rows
section
variable{prog:MX}{w:M_}{A:Nc}{E:Mv->Mx->Prop}{s:Mx}
theorem pC{a:MD}{Q:Option NF->Mx->Prop}(h:Q (s.heap.get? a) s):wpAny (MO prog w) A (Wd a) Q E s:=λb p _=>by
 unfold Wd;rw[Sem.wp_loadIfAlive];exact h
noncomputable abbrev A2(h:Na)(z TI TO:MD)(q:Nat)(b:Bool):Prop:=h.get? z=Mt {cls:=.type "zip",dict:=MA,data:=.fields #[Po q,.bool b,.bool My,.ref TI,.ref TO],slots:=#[]}
structure Ez(h:Na)(z TI TO i1 i2 a1 a2:MD)(k:Nat)(xs ys:Array Mv)(q:Nat):Prop where
 zp:∃b,A2 h z TI TO q b
 al:∃o,h.get? q=Mt o
 ti:QF h TI (.ref i1) (.ref i2)s1:gh h i1 a1 k xs
 s2:gh h i2 a2 k ys
theorem tO{z TI TO:MD}{q:Nat}{b:Bool}{Q:Bool->Mx->Prop}(hz:A2 s.heap z TI TO q b)(e:∃o,s.heap.get? q=Mt o)(h:∀h',A2 h' z TI TO q Mz->NW z s.heap h'->Q My {s with heap:=h'}):wpAny (MO prog w) A (Nu (.ref z)) Q E s:=by
 obtain⟨o,d⟩:=e;unfold Nu;refine Ms (NJ hz rfl (x:=Po q) rfl ?_);show wpAny _ _ (Wd (Int.toNat (q:Int))>>=_) _ _ _;rw[Pk];refine Ms (pC ?_);rw[d];show wpAny _ _ (Uz (.ref z) 1>>=_) _ _ _;refine Ms (NJ hz rfl (x:=.bool b) rfl ?_);cases b with
 |true=>exact Mu (h s.heap hz (VQ ..))|false=>
  show wpAny _ _ (TQ (.ref z) 1 (.bool Mz)>>=_) _ _ _;exact Ms (O_ hz (by simp) λf a c=>Mu (h f a c))
theorem u7{z TI TO d i2 p n:MD}{k:Nat}{xs ys:Array Mv}{x y:Mv}{q:Nat}{Q:Mv->Mx->Prop}(D:Q0 z TI TO d i2 p n)(Z:Ez s.heap z TI TO d i2 p n k xs ys q)(t:q≠z)(B:q≠d)(u:q≠i2)(T:xs[k]?=Mt x)(S:ys[k]?=Mt y)(U:∀h',Ez h' z TI TO d i2 p n (k+1) xs ys q->QF h' s.heap.objs.size x y->h'.objs.size=s.heap.objs.size+1->(∀c o,c≠z->c≠TO->c≠d->c≠i2->s.heap.get? c=Mt o->h'.get? c=Mt o)->(∀o,s.heap.get? TO=Mt o->h'.get? TO=Mt o)->Q (.ref s.heap.objs.size) {s with heap:=h'}):wpAny (MO prog w) A (Builtin.«zip.__next__» ⟨[.ref z],[]⟩) (λfin s'=>∃v,fin=.done (.ret v)/\Q v s') E s:=by
 obtain⟨⟨b,r⟩,I,i,W,V⟩:=Z;show wpAny _ _ (Uz (.ref z) 2>>=_) _ _ _;refine Ms (NJ r rfl (x:=.bool My) rfl ?_);show wpAny _ _ (Uz (.ref z) 3>>=_) _ _ _;refine Ms (NJ r rfl (x:=.ref TI) rfl ?_);refine Ms (NH i rfl ?_);show wpAny _ _ (Nu (.ref z)>>=_) _ _ _;refine Ms (tO r I λY K h=>?_);refine Ms ?_;simp only[<-Qj,Pq,PF];refine Ms (Ms (M2 ?_));show wpAny _ _ (Nf (.ref d)>>=_) _ _ _;refine Ms (dC D.l1i1 (W.ext h.extBut D.i1z D.l1z) T λX O g=>Mu ?_);refine Mu ?_;refine Ms (Ms (M2 ?_));show wpAny _ _ (Nf (.ref i2)>>=_) _ _ _;have M:gh X i2 n k ys:=(V.ext h.extBut D.i2z D.l2z).ext g.extBut D.i12.symm D.l2i1;refine Ms (dC D.l2i2 M S λa N f=>Mu ?_);refine Mu (Mu ?_);show wpAny _ _ (UT [x,y]>>=_) _ _ _;refine Ms (US ?_);have R:a.objs.size=s.heap.objs.size:=by rw[f.1,g.1,h.1]
 have J:A2 a z TI TO q Mz:=f.extBut _ _ D.i2z.symm (g.extBut _ _ D.i1z.symm K);have H:∀c o,c≠z->c≠TO->c≠d->c≠i2->s.heap.get? c=Mt o->a.get? c=Mt o:=λc o m c2 l j e=>f.extBut _ _ j (g.extBut _ _ l (h.extBut _ _ m e));have G:∀c o,c≠z->c≠d->c≠i2->s.heap.get? c=Mt o->a.get? c=Mt o:=λc o m l j e=>f.extBut _ _ j (g.extBut _ _ l (h.extBut _ _ m e));have L:gh a d p (k+1) xs:=O.ext f.extBut D.i12 D.l1i2;refine Mu ⟨_,rfl,?_⟩;show Q (.ref a.objs.size) _;have F:QF (a.push {cls:=.type "tuple",data:=.seq #[x,y]}) a.objs.size x y:=MJ _ rfl;have sz:(a.push {cls:=.type "tuple",data:=.seq #[x,y]}).objs.size=a.objs.size+1:=ND ..;rw[R]at F sz⊢;obtain⟨P,C⟩:=I;exact U _ ⟨⟨Mz,Mw _ J⟩,⟨P,Mw _ (G _ _ t B u C)⟩,Mw _ (H _ _ D.TIz D.TITO D.TIi1 D.TIi2 i),L.keep (λo e=>Mw _ e) (λo e=>Mw _ e),N.keep (λo e=>Mw _ e) (λo e=>Mw _ e)⟩ F sz (λc o m c2 l j e=>Mw _ (H c o m c2 l j e)) λo e=>Mw _ (G TO o D.TOz D.TOi1 D.TOi2 e)
theorem x6{z TI TO g i2 B t:MD}{k:Nat}{xs ys:Array Mv}{q:Nat}{Q:Fin->Mx->Prop}(u:A.handled=MA)(D:Q0 z TI TO g i2 B t)(Z:Ez s.heap z TI TO g i2 B t k xs ys q)(d:xs[k]?=MA\/ys[k]?=MA)(v:∀h' e,(∀c o,c≠z->c≠TO->c≠g->c≠i2->s.heap.get? c=Mt o->h'.get? c=Mt o)->(∃o,h'.get? e=Mt o/\o.cls=.type "StopIteration")->E (.ref e) {s with heap:=h'}):wpAny (MO prog w) A (Builtin.«zip.__next__» ⟨[.ref z],[]⟩) Q E s:=by
 obtain⟨⟨b,i⟩,H,m,y,I⟩:=Z;show wpAny _ _ (Uz (.ref z) 2>>=_) _ _ _;refine Ms (NJ i rfl (x:=.bool My) rfl ?_);show wpAny _ _ (Uz (.ref z) 3>>=_) _ _ _;refine Ms (NJ i rfl (x:=.ref TI) rfl ?_);refine Ms (NH m rfl ?_);show wpAny _ _ (Nu (.ref z)>>=_) _ _ _;refine Ms (tO i H λN L a=>?_);refine Ms ?_;simp only[<-Qj,Pq,PF];refine Ms (Ms (M2 ?_));show wpAny _ _ (Nf (.ref g)>>=_) _ _ _;cases j:xs[k]? with
 |none=>exact Ms (jq u (y.ext a.extBut D.i1z D.l1z) j λn e f l=>v n e (λc o r _ p _ x=>f _ _ p (a.extBut _ _ r x)) l)|some x=>
  have G:ys[k]?=MA:=by rcases d with h|h;rw[j]at h;cases h;exact h
  refine Ms (dC D.l1i1 (y.ext a.extBut D.i1z D.l1z) j λn M f=>Mu ?_);refine Mu ?_;refine Ms (Ms (M2 ?_));show wpAny _ _ (Nf (.ref i2)>>=_) _ _ _;have C:gh n i2 t k ys:=(I.ext a.extBut D.i2z D.l2z).ext f.extBut D.i12.symm D.l2i1;exact Ms (jq u C G λJ e F l=>v J e (λc o r c2 p K x=>F _ _ K (f.extBut _ _ p (a.extBut _ _ r x))) l)
theorem ij{z TI TO a i2 h g:MD}{k:Nat}{xs ys:Array Mv}{x y:Mv}{q:Nat}{Q:Option Mv->Mx->Prop}(D:Q0 z TI TO a i2 h g)(Z:Ez s.heap z TI TO a i2 h g k xs ys q)(d:q≠z)(f:q≠a)(e:q≠i2)(l:xs[k]?=Mt x)(j:ys[k]?=Mt y)(m:∀h',Ez h' z TI TO a i2 h g (k+1) xs ys q->QF h' s.heap.objs.size x y->h'.objs.size=s.heap.objs.size+1->(∀c o,c≠z->c≠TO->c≠a->c≠i2->s.heap.get? c=Mt o->h'.get? c=Mt o)->(∀o,s.heap.get? TO=Mt o->h'.get? TO=Mt o)->Q (Mt (.ref s.heap.objs.size)) {s with heap:=h'}):wpAny (MO prog w) A (OC (.ref z)) Q E s:=by
 have i:s.TypeIs (.ref z) "zip":=by obtain⟨b,hz⟩:=Z.zp;exact⟨_,hz,rfl⟩
 unfold OC;exact Ms (P2 (NB (name:=MF "__next__") i Oq (Ni Oq i Qm (u7 D Z d f e l j λh' t c2 r p n=>Mu (m h' t c2 r p n)) (Qf _))))
theorem jf{z TI TO d i2 h g:MD}{k:Nat}{xs ys:Array Mv}{q:Nat}{Q:Option Mv->Mx->Prop}(l:A.handled=MA)(D:Q0 z TI TO d i2 h g)(Z:Ez s.heap z TI TO d i2 h g k xs ys q)(a:xs[k]?=MA\/ys[k]?=MA)(p:∀h',(∀c o,c≠z->c≠TO->c≠d->c≠i2->s.heap.get? c=Mt o->h'.get? c=Mt o)->Q MA {s with heap:=h'}):wpAny (MO prog w) A (OC (.ref z)) Q E s:=by
 have f:s.TypeIs (.ref z) "zip":=by obtain⟨b,hz⟩:=Z.zp;exact⟨_,hz,rfl⟩
 unfold OC;refine Ms (P2 (NB (name:=MF "__next__") f Oq (Ni Oq f Qm (x6 l D Z a λh' e j m=>?_) (Qf _))));obtain⟨o,i,n⟩:=m;exact Ms (OK (T:="StopIteration") (b:=Mz) ⟨o,i,n⟩ SN (Mu (p _ j)))
end
end ZP
namespace PySem.F
theorem rQ:O6 (.type "zip") "__len__"=pure MA:=by rw[Rr,PH];kernel_rfl
theorem pD:O6 (.type "zip") "__length_hint__"=pure MA:=by rw[Rr,PH];kernel_rfl
end PySem.F
namespace L2
open PySem PySem.Spec PyProof.Rows ZP
inductive Zs:List (V×V)->Hp->List V->Hp->Prop where|nil{H:Hp}:Zs [] H [] H|cons{H H':Hp}{t:MD}{v u:V}{ps:List (V×V)}{ts:List V}(h:H t=MA)(r:Zs ps (upd H t (.tup [v,u])) ts H'):Zs ((v,u)::ps) H (.ref t::ts) H'
section
variable{X:Cx}{pins:List (MD×NF)}{σ:St}
noncomputable def Ha(h:Na)(H:Hp)(z TI TO a i2 c b:MD)(k:Nat)(xs ys:Array Mv):Prop:=Ao h z TI TO a i2 c b k xs ys .none\/∃q,Ez h z TI TO a i2 c b k xs ys q/\H q≠MA
theorem cz.mono{H H':Hp}{b:MD}(h:cz X pins H b)(e:H' b=MA):cz X pins H' b:=⟨e,h.2⟩
theorem A3{A:Nc}(hh:A.in1.handled=MA){z TI TO j i2 a1 a2 S:MD}{xs ys:List Mv}{vs us:List V}(D:Q0 z TI TO j i2 a1 a2)(r1:ak vs xs)(r2:ak us ys)(hz:vs.length<=MP)(F:∀b∈[z,TI,TO,j,i2],S≠b)(b2:S≠a1)(b1:S≠a2){R:Wn->Mx->Prop}:∀(m k:Nat)(s:Mx)(H:Hp)(n:List Mv)(Y:List V)(c:Nat),(vs.zip us).length-k=m->k<=(vs.zip us).length->n.length=k->ak Y n->Inv X pins σ H s->(∀b∈[z,TI,TO,j,i2,S],cz X pins H b/\∃o,s.heap.get? b=Mt o)->Ha s.heap H z TI TO j i2 a1 a2 k xs.toArray ys.toArray->s.heap.get? S=Mt {cls:=.type "list",dict:=MA,data:=.seq n.toArray c,slots:=#[]}->(∀s' H' r C B c',Inv X pins σ H' s'->Zs ((vs.zip us).drop k) H B H'->C=Y++B->ak C r->cz X pins H' S->s'.heap.get? S=Mt {cls:=.type "list",dict:=MA,data:=.seq r.toArray c',slots:=#[]}->R (.ok (.ret .none)) s')->codeAny (MO X.prog X.w) A (.builtin "list.extend.loop" ⟨[.ref S,.ref z,.none],[]⟩) R s:=by
 intro m;induction m with
 |zero=>
  intro k s H n Y c hk d0 hl hv I fp Z hS hR;have a8:k=(vs.zip us).length:=by omega
  have P:xs.toArray[k]?=MA\/ys.toArray[k]?=MA:=by
   rw[Si,r1.length,r2.length]at a8;simp only[List.getElem?_toArray,List.getElem?_eq_none_iff];omega
  refine NU Tb ?_;rw[NN PL _];show wpAny _ A.in1 (OC (.ref z)>>=_) _ _ s;have fin:∀d,(∀c o,c≠z->c≠TO->c≠j->c≠i2->s.heap.get? c=Mt o->d.get? c=Mt o)->R (.ok (.ret .none)) {s with heap:=d}:=λd g=>by
   have I2:Inv X pins σ H {s with heap:=d}:=I.j5 (t':=s.toks) (fp:=[z,TI,TO,j,i2]) (λb i=>(fp b (by simp only[Nl,Nj,or_false]at i⊢;rcases i with h|h|h|h|h<;>simp[h])).1) λc o t e=>by
    simp only[Nl,Nj,or_false,not_or]at t;exact g c o t.1 t.2.2.1 t.2.2.2.1 t.2.2.2.2 e
   refine hR _ H n Y [] c I2 ?_ (NT _).symm hv (fp S (by simp)).1 (g _ _ (F _ (by simp)) (F _ (by simp)) (F _ (by simp)) (F _ (by simp)) hS);rw[a8,PB];exact .nil
  rcases Z with Z|⟨q,Z,hq⟩;.exact Ms (eR hh D Z P λd g=>Mu (fin d g))
  .exact Ms (jf hh D Z P λd g=>Mu (fin d g))|succ m ih=>
  intro k s H n Y c hk d0 hl hv I fp Z hS hR;have K:k<(vs.zip us).length:=by omega
  have a7:=K;rw[Si]at a7;obtain⟨v,a4⟩:∃v,vs[k]?=Mt v:=⟨_,MZ (by omega)⟩;obtain⟨u,a5⟩:∃u,us[k]?=Mt u:=⟨_,MZ (by omega)⟩;obtain⟨x,hx,rx⟩:=r1.get a4;obtain⟨y,hy,ry⟩:=r2.get a5;have a3:xs.toArray[k]?=Mt x:=by simpa using hx
  have a0:ys.toArray[k]?=Mt y:=by simpa using hy
  have T:(vs.zip us).drop k=(v,u)::(vs.zip us).drop (k+1):=by
   rw[PK K];congr 1;have e:(vs.zip us)[k]?=Mt (v,u):=by rw[PM];exact⟨a4,a5⟩
   rw[MZ K]at e;exact MI e
  refine NU Tb ?_;rw[NN PL _];show wpAny _ A.in1 (OC (.ref z)>>=_) _ _ s;have lt:∀b∈[z,TI,TO,j,i2,S],b<s.heap.objs.size:=λb i=>by obtain⟨o,e⟩:=(fp b i).2;exact MH e
  have hf:H s.heap.objs.size=MA:=I.ay.fresh (MN _);have go:∀d,Ha d (upd H s.heap.objs.size (.tup [v,u])) z TI TO j i2 a1 a2 (k+1) xs.toArray ys.toArray->QF d s.heap.objs.size x y->d.objs.size=s.heap.objs.size+1->(∀c o,c≠z->c≠TO->c≠j->c≠i2->s.heap.get? c=Mt o->d.get? c=Mt o)->(∀b∈[z,TI,TO,j,i2],∃o,d.get? b=Mt o)->wpAny (MO X.prog X.w) A.in1 (R4 S (·.push (.ref s.heap.objs.size))>>=λ_=>TF (.builtin "list.extend.loop" ⟨[.ref S,.ref z,.none],[]⟩)) (λfin s'=>match fin with|.done f=>R (.ok f) s'|.again c'=>c'.quiet=Mz/\codeAny (MO X.prog X.w) A c' R s') (λe s'=>R (.error e) s') {s with heap:=d}:=λd O pr G g c0=>by
   have U:=g _ _ (F _ (by simp)) (F _ (by simp)) (F _ (by simp)) (F _ (by simp)) hS;have I2:Inv X pins σ H {s with heap:=d}:=I.j5 (t':=s.toks) (fp:=[z,TI,TO,j,i2]) (λb i=>(fp b (by simp only[Nl,Nj,or_false]at i⊢;rcases i with h|h|h|h|h<;>simp[h])).1) λc o t e=>by
    simp only[Nl,Nj,or_false,not_or]at t;exact g c o t.1 t.2.2.1 t.2.2.2.1 t.2.2.2.2 e
   have I3:Inv X pins σ (upd H s.heap.objs.size (.tup [v,u])) {s with heap:=d}:=I2.fF (a:=s.heap.objs.size) I.sz hf (N0 I.lt) (λx c e q=>by
     obtain⟨w',q'⟩:=I.cell x c e;exact absurd q'.lt (by rw[q];exact Nh _)) (λp hp q=>absurd (MH (I.pin p hp).1) (by rw[q];exact Nh _)) ⟨by show 2<=MP;decide,[x,y],.cons rx (.cons ry .nil),⟨_,pr,rfl,_,rfl⟩⟩;have W:∀b∈[z,TI,TO,j,i2,S],cz X pins (upd H s.heap.objs.size (.tup [v,u])) b:=λb i=>(fp b i).1.mono (by rw[ai (M4 (lt b i))];exact(fp b i).1.1);refine Ms (OI U rfl (Mu ⟨Oj PL _,?_⟩) ?_ ?_)
   .have I4:Inv X pins σ (upd H s.heap.objs.size (.tup [v,u])) {s with heap:=d.update S (NP (·.push (.ref s.heap.objs.size)))}:=I3.j5 (t':=s.toks) (fp:=[S]) (λb i=>by rw[List.mem_singleton.mp i];exact W S (by simp)) λc o t e=>(MQ _ _ (λh=>t (by rw[h];simp))).trans e;have E:∀b∈[z,TI,TO,j,i2],∀o,d.get? b=Mt o->(d.update S (NP (·.push (.ref s.heap.objs.size)))).get? b=Mt o:=λb i o e=>(MQ _ _ (F b i)).trans e;refine ih (k+1) _ _ (n++[.ref s.heap.objs.size]) (Y++[.ref s.heap.objs.size]) _ (by omega) K (by simp[hl]) (hv.append (.cons (show RelV (.ref s.heap.objs.size) (.ref s.heap.objs.size)from rfl) .nil)) I4 (λb i=>⟨W b i,?_⟩) ?_ ((M6 _ U rfl).trans (by simp[NP];rfl)) λs' H' r C B c' J zs et b5 fS gS=>hR s' H' r C (.ref s.heap.objs.size::B) c' J ?_ (by rw[et,Pl];rfl) b5 fS gS
    .by_cases e:b=S;.subst e;exact⟨_,M6 _ U rfl⟩
     .obtain⟨o,e2⟩:=c0 b (by simp only[Nl,Nj,or_false]at i⊢;rcases i with h|h|h|h|h|h<;>first|exact absurd h e|simp[h]);exact⟨o,(MQ _ _ (NO e)).trans e2⟩
    .have k1:∀o,d.get? a1=Mt o->(d.update S (NP (·.push (.ref s.heap.objs.size)))).get? a1=Mt o:=λo e=>(MQ _ _ b2).trans e;have k2:∀o,d.get? a2=Mt o->(d.update S (NP (·.push (.ref s.heap.objs.size)))).get? a2=Mt o:=λo e=>(MQ _ _ b1).trans e;rcases O with O|⟨q,O,hq⟩
     .obtain⟨N,c2,⟨a,b,Q⟩,M,L⟩:=O;exact .inl ⟨E z (by simp) _ N,E TI (by simp) _ c2,⟨a,b,E TO (by simp) _ Q⟩,M.keep (E j (by simp)) k1,L.keep (E i2 (by simp)) k2⟩
     .obtain⟨⟨b,N⟩,⟨o,c2⟩,Q,M,L⟩:=O;exact .inr ⟨q,⟨⟨b,E z (by simp) _ N⟩,⟨o,(MQ _ _ (λh=>hq (by rw[<-h];exact(W S (by simp)).1))).trans c2⟩,E TI (by simp) _ Q,M.keep (E j (by simp)) k1,L.keep (E i2 (by simp)) k2⟩,hq⟩
    .rw[T];exact .cons hf zs
   .simp only[MR];omega
   .show(n.toArray.push _).size<=MP+1;rw[Array.size_push,MR];omega
  have a6:upd H s.heap.objs.size (.tup [v,u]) s.heap.objs.size≠MA:=by rw[ah];intro h;cases h
  rcases Z with Z|⟨q,Z,hq⟩
  .refine Ms (d8 D Z a3 a0 λd O pr G g=>?_);obtain⟨N,c2,⟨a,b,Q⟩,M,L⟩:=O;have o4:∃o,d.get? j=Mt o:=by cases M with|list p _=>obtain⟨o,e,_⟩:=p;exact⟨o,e⟩|tup p _=>obtain⟨o,e,_⟩:=p;exact⟨o,e⟩
   have o5:∃o,d.get? i2=Mt o:=by cases L with|list p _=>obtain⟨o,e,_⟩:=p;exact⟨o,e⟩|tup p _=>obtain⟨o,e,_⟩:=p;exact⟨o,e⟩
   refine go d (.inr ⟨_,⟨⟨_,N⟩,⟨_,pr⟩,c2,M,L⟩,a6⟩) pr G g λb i=>?_;simp only[Nl,Nj,or_false]at i;rcases i with rfl|rfl|rfl|rfl|rfl;.exact⟨_,N⟩
   .exact⟨_,c2⟩
   .exact⟨_,Q⟩
   .exact o4
   .exact o5
  .have nb:∀b∈[z,TI,TO,j,i2,S],q≠b:=λb i h=>hq (by rw[h];exact(fp b i).1.1);refine Ms (ij D Z (nb z (by simp)) (nb j (by simp)) (nb i2 (by simp)) a3 a0 λd O pr G g a9=>?_);obtain⟨⟨b0,N⟩,⟨o,c2⟩,Q,M,L⟩:=O;have o4:∃o,d.get? j=Mt o:=by cases M with|list p _=>obtain⟨o,e,_⟩:=p;exact⟨o,e⟩|tup p _=>obtain⟨o,e,_⟩:=p;exact⟨o,e⟩
   have o5:∃o,d.get? i2=Mt o:=by cases L with|list p _=>obtain⟨o,e,_⟩:=p;exact⟨o,e⟩|tup p _=>obtain⟨o,e,_⟩:=p;exact⟨o,e⟩
   refine go d (.inr ⟨q,⟨⟨b0,N⟩,⟨o,c2⟩,Q,M,L⟩,by
    by_cases e:q=s.heap.objs.size;.rw[e];exact a6
    .rw[ai e];exact hq⟩) pr G g λb i=>?_;simp only[Nl,Nj,or_false]at i;rcases i with rfl|rfl|rfl|rfl|rfl;.exact⟨_,N⟩
   .exact⟨_,Q⟩
   .obtain⟨o',e'⟩:=(fp b (by simp)).2;exact⟨o',a9 o' e'⟩
   .exact o4
   .exact o5
end
end L2
end
section
namespace L2
open PySem PySem.Spec PyProof.Rows ZP
theorem Zs.length:∀{ps:List (V×V)}{H H':Hp}{a:List V},Zs ps H a H'->a.length=ps.length
 |_,_,_,_,.nil=>rfl|_,_,_,_,.cons _ r=>by rw[Nn,Nn,r.length]
section
variable{X:Cx}{pins:List (MD×NF)}{σ:St}{H:Hp}{s:Mx}
theorem lu(hc:X.calm=Mz){z TI TO m i2 S R:MD}{xs ys:List Mv}{vs us:List V}{Q:VK}(I:Inv X pins σ H s)(D:Q0 z TI TO m i2 S R)(Y:ak vs xs)(W:ak us ys)(hz:vs.length<=MP)(Z:Ao s.heap z TI TO m i2 S R 0 xs.toArray ys.toArray .none)(fp:∀b∈[z,TI,TO,m,i2],cz X pins H b)(q:∀N M l,Zs (vs.zip us) H N M->M l=MA->Q (.ref l) (upd M l (.lst N))):wpAny (MO X.prog X.w) X.A (call (.type "list") [.ref z]) (EP X pins σ Q) X.xe s:=by
 have hh:X.A.in1.in1.handled=MA:=I.ok.hd hc;have o1:∃o,s.heap.get? m=Mt o:=by cases Z.s1 with|list p _=>obtain⟨o,e,_⟩:=p;exact⟨o,e⟩|tup p _=>obtain⟨o,e,_⟩:=p;exact⟨o,e⟩
 have o2:∃o,s.heap.get? i2=Mt o:=by cases Z.s2 with|list p _=>obtain⟨o,e,_⟩:=p;exact⟨o,e⟩|tup p _=>obtain⟨o,e,_⟩:=p;exact⟨o,e⟩
 have ob:∀b∈[z,TI,TO,m,i2],∃o,s.heap.get? b=Mt o:=λb r=>by
  simp only[Nl,Nj,or_false]at r;rcases r with rfl|rfl|rfl|rfl|rfl;.exact⟨_,Z.zp⟩
  .exact⟨_,Z.ti⟩
  .obtain⟨a,b,e⟩:=Z.to;exact⟨_,e⟩
  .exact o1
  .exact o2
 have O:∀b∈[z,TI,TO,m,i2],s.heap.objs.size≠b:=λb r h=>by obtain⟨o,e⟩:=ob b r;exact absurd (MH e) (by rw[<-h];exact Nh _)
 have L:s.heap.objs.size≠z:=O z (by simp);have l1:=Z.s1.lt;have l2:=Z.s2.lt;refine callType_codes (Q₁:=λobj i=>obj=.ref s.heap.objs.size/\i={s with heap:=s.heap.push {cls:=.type "list",data:=.seq #[]}}) PySem.F.called_list (PySem.F.typeCall_list_1 _) PySem.F.entry_list_init (code_list_new _ ⟨rfl,rfl⟩) λobj i u=>?_;obtain⟨rfl,rfl⟩:=u;have C:(s.heap.push {cls:=.type "list",data:=.seq #[]}).get? s.heap.objs.size=Mt {cls:=.type "list",data:=.seq #[]}:=MJ _ rfl;refine⟨⟨_,C,rfl⟩,PySem.F.args_list_init_2 _ _,?_⟩;show wpAny _ X.A.in1.in1 (do let old<-Uq (.ref s.heap.objs.size);Builtin.List.listUpdate (.ref s.heap.objs.size) (λ_=>#[]);letGo old.toList.reverse;QN (.ref s.heap.objs.size) (.ref z) .none) _ _ _;refine Ms ?_;unfold Uq;refine Ms (NH C rfl (Mu ?_));show wpAny _ X.A.in1.in1 (R4 s.heap.objs.size (λ_=>#[])>>=λ_=>letGo (#[]:Array Mv).toList.reverse>>=λ_=>QN (.ref s.heap.objs.size) (.ref z) .none) _ _ _;refine Ms (OI C rfl ?_);have f:=M6 (NP (λ_=>(#[]:Array Mv))) C rfl;have t:∀b o,s.heap.get? b=Mt o->((s.heap.push {cls:=.type "list",data:=.seq #[]}).update s.heap.objs.size (NP (λ_=>(#[]:Array Mv)))).get? b=Mt o:=λb o e=>(MQ _ _ (λh=>absurd (MH e) (by rw[<-h];exact Nh _))).trans (Mw _ e);refine Ms (Ph ?_);unfold QN;have K:∀{G:Mx},(∀b o,s.heap.get? b=Mt o->G.heap.get? b=Mt o)->G.TypeIs (.ref z) "zip":=λk=>⟨_,k _ _ Z.zp,rfl⟩;refine Ms (Q5 (K t) ?_);have h1:Tz (.ref s.heap.objs.size) (.ref z)=My:=by simp[Tz,L]
 have h2:(Rx "zip"==Rx "list")=My:=by decide
 have h3:(Rx "zip"==Rx "tuple")=My:=by decide
 simp only[h1,h2,h3,Bool.or_false,M0,if_false];refine Ms (TU (t _ _ Z.zp) ?_);refine Ms (M2 ?_);unfold QM;refine Ms (Qp (K t) PySem.F.rQ ?_);show wpAny _ X.A.in1.in1 (specialOf (MW z) (MF "__length_hint__")>>=_) _ _ _;refine Ms (Qp (K t) PySem.F.pD ?_);refine Mu ?_;show wpAny _ X.A.in1.in1 (WI "list.extend.makes-room">>=λ_=>Builtin.List.listTouch (.ref s.heap.objs.size)>>=λ_=>TF (.builtin "list.extend.loop" ⟨[.ref s.heap.objs.size,.ref z,.none],[]⟩)) _ _ _;refine Ms (Qk ?_);refine Ms ?_;show wpAny _ X.A.in1.in1 (R4 s.heap.objs.size (·.push .none)>>=λ_=>R4 s.heap.objs.size (·.pop)) _ _ _;refine Ms (OI f rfl ?_);have d:=M6 (NP (·.push M5)) f rfl;refine OI (hz:=by seq_fits) d rfl ?_;have c:=M6 (NP (·.pop)) d rfl;have g:∀b o,s.heap.get? b=Mt o->((((s.heap.push {cls:=.type "list",data:=.seq #[]}).update s.heap.objs.size (NP (λ_=>(#[]:Array Mv)))).update s.heap.objs.size (NP (·.push M5))).update s.heap.objs.size (NP (·.pop))).get? b=Mt o:=λb o e=>have n:s.heap.objs.size≠b:=λh=>absurd (MH e) (by rw[<-h];exact Nh _);(MQ _ _ n).trans ((MQ _ _ n).trans (t b o e));have I2:Inv X pins σ H {s with heap:=_}:=I.kept (t':=s.toks) g;refine Mu ⟨Oj PL _,A3 (X:=X) (pins:=pins) (σ:=σ) (vs:=vs) (us:=us) (xs:=xs) (ys:=ys) hh D Y W hz O (N0 l1.2) (N0 l2.2) _ 0 _ H [] [] _ rfl (Nv _) rfl .nil I2 (λb r=>?_) (.inl ?_) c λG H' B j U c' J E P hv y gS=>?_⟩
 .by_cases e:b=s.heap.objs.size
  .subst e;exact⟨I.uf (MN _) (I.ay.fresh (MN _)),_,c⟩
  .have x:b∈[z,TI,TO,m,i2]:=by simp only[Nl,Nj,or_false]at r⊢;rcases r with h|h|h|h|h|h<;>first|exact absurd h e|simp[h]
   obtain⟨o,e2⟩:=ob b x;exact⟨fp b x,o,g b o e2⟩
 .obtain⟨c1,c2,⟨a,b,c3⟩,c4,c5⟩:=Z;exact⟨g _ _ c1,g _ _ c2,⟨a,b,g _ _ c3⟩,c4.keep (g _) (g _),c5.keep (g _) (g _)⟩
 .rw[List.nil_append]at P;subst P;have T:j.length<=MP:=by rw[E.length,U2,Si];omega
  rw[U2]at E;exact⟨rfl,.ref s.heap.objs.size,_,J.fF (a:=s.heap.objs.size) (o:=.lst j) I.sz y.1 y.2.1 y.2.2.2.2.1 y.2.2.2.2.2 ⟨T,B,c',hv,gS⟩,rfl,q j H' _ E y.1⟩
end
noncomputable def L5(K:ME)(j:TA):TE:=λh H Q=>j h H λi b=>∃g f m k d c,i=[.ref g,.ref f]/\td K b g d m/\td K b f c k/\∀e a l,Zs (d.zip c) b e a->a l=MA->Q (.ref l) (upd a l (.lst e))
theorem A4{X:Cx}{a b:MV}{l:TA}{p pos p0 pos0:Od}(L:X.calm=Mz)(j:Gl X "list")(i:X.mg "list"=MA)(J:Gl X "zip")(F:X.mg "zip"=MA)(M:PA X [a,b] l)(E:MS [a,b] X.env=(My,N2 a X.env)::MS [b] X.env:=by rfl)(g:(Og pos (MS [b] X.env)).any (·.1)=My:=by rfl):PE X (.Call (.Name "list" p0) [.Call (.Name "zip" p) [a,b] [] pos] [] pos0) (L5 X.K l):=by
 intro c s k H Q I h;refine O5 (dO I j i Ur ?_);refine Ot ?_ rfl rfl;show wpAny _ _ (spliced ((My,N2 (.Call (.Name "zip" p) [a,b] [] pos) X.env)::Og pos0 (MS [] X.env))) _ _ s;refine Vn ?_;refine O5 (dO I J F boot_zip ?_);refine Ot (aU (M pos c s k H _ I h) λY s1⟨W,S,e,r,f⟩=>?_) E g;obtain⟨a1,a2,t1,t2,V,U,rfl,O,N,q⟩:=f;obtain⟨u,v,rfl,x,w⟩:=vals2 r;cases x;cases w;obtain⟨C,A,f,t⟩:=e.nc O;obtain⟨m,y,B,T⟩:=e.nc N;refine oR f B λP z TI TO i1 i2 D Z G d=>?_;have R:Inv X c k S {s1 with heap:=P}:=e.kept (t':=s1.toks) G;refine VD ?_;exact lu L R D A y t Z (λb o=>e.uf (d b o) (e.ay.fresh (d b o))) q
section
variable{X:Cx}{F:Fx}{a b:MV}{p pos p0 pos0:Od}{tas:ag->M (List A)}
theorem B7{B:Fb}{k:Nat}:∀{ps:List (V×V)}{H H':Hp}{g vs us:List V}{xs ys:List D},Zs ps H g H'->ps=vs.zip us->H B.p≠MA->af B H vs xs->af B H us ys->Ext B H k H' k/\af B H' g (j6 xs ys)
 |_,H,_,_,vs,us,xs,ys,.nil,e,l,c,i2=>by
  refine⟨.refl ..,?_⟩;have:j6 xs ys=[]:=by
   apply Sb;have:=congrArg Oc e;rw[Si,c.length,i2.length]at this;simp only[j6,Sm];simpa using this.symm
  rw[this];exact .nil|_,H,H',_,vs,us,xs,ys,.cons (t:=t) (v:=v) (u:=u) (ps:=ps) h r,e,l,c,i2=>by cases vs with
  |nil=>cases e|cons n vs=>cases us with
   |nil=>cases e|cons o us=>cases xs with
    |nil=>cases c|cons x xs=>cases ys with
     |nil=>cases i2|cons y ys=>
      simp only[O9,PU,Prod.mk.injEq]at e;obtain⟨⟨rfl,rfl⟩,e⟩:=e;simp only[af]at c i2;obtain⟨_,_,e1,m,f⟩:=c;obtain⟨_,_,e2,j,d⟩:=i2;cases e1;cases e2;have e1:Ext B H k (upd H t (.tup [v,u])) k:=.new h;obtain⟨e2,i⟩:=B7 (k:=k) r e (e1.live l) (f.mono e1.kp) (d.mono e1.kp);have it:Is B (upd H t (.tup [v,u])) (.ref t) (.tup [x,y]):=bZ (k:=k) l h (.cons m (.cons j .nil));exact⟨e1.trans e2,.cons (it.mono e2.kp) i⟩
theorem A5(J:X.calm=Mz)(m:X.mg "list"=MA)(G:X.mg "zip"=MA)(q:DA X F [a,b] tas)(n:Gl X "list":=by rfl)(I:Gl X "zip":=by rfl)(E:MS [a,b] X.env=(My,N2 a X.env)::MS [b] X.env:=by rfl)(j:(Og pos (MS [b] X.env)).any (·.1)=My:=by rfl):DE X F (.Call (.Name "list" p0) [.Call (.Name "zip" p) [a,b] [] pos] [] pos0) (λr=>do let ds<-As xf (<-dB (<-tas r));pure (.lst ds)):=⟨q.hK,(qU (A4 J n m I G q.pa E j)).imp λW H R c=>by
  obtain⟨r,k,S,h⟩:=c;refine mU.next S h λas s vs H1 e1 w D P=>?_;obtain⟨ds,rfl,O⟩:=bh P;obtain⟨d,e,rfl,N⟩:=oU O;obtain⟨v,u,rfl,C,z⟩:=(bj D).two;obtain⟨Z,ex,L⟩:=M.run_get.mp N;obtain⟨Y,Q,K⟩:=M.run_get.mp L;obtain⟨V,g,rfl,s1,T⟩:=jr C ex;obtain⟨U,f,rfl,s2,c2⟩:=jr z Q;rw[q.hK];refine⟨V,U,isTup d,isTup e,g,f,rfl,s1.nc,s2.nc,λy H2 l x t=>⟨l,y,rfl,ah,λo=>?_⟩⟩;obtain⟨e2,i⟩:=B7 (B:=F.toFb) (k:=s) x rfl w.live T c2;rw[aT];exact K _ _ ((e1.trans e2).trans (.new t)) (aR (k:=s) (e2.live w.live) t i)⟩
end
end L2
end
section
namespace L2
theorem pE{b:Type}[DecidableEq b]:∀{l l':List b},l.Nodup->(∀x∈l,x∈l')->l.length<=l'.length
 |[],_,_,_=>Nv _|x::l,l',nd,h=>by
  have d:=h x MG;obtain⟨n1,n2⟩:=List.nodup_cons.mp nd;have:=pE (l:=l) (l':=l'.erase x) n2 λy c=>by
   have a:y≠x:=λe=>n1 (e▸c);exact(List.mem_erase_of_ne a).mpr (h y (MM _ c))
  rw[List.length_erase_of_mem d]at this;have:=List.length_pos_of_mem d;rw[Nn];omega
end L2
namespace ST
open PySem PyProof.Rows
theorem aH{a c:Type}(f:a->c):∀{l:List c}{xs:List a},l.Perm (xs.map f)->∃ys:List a,ys.Perm xs/\l=ys.map f
 |[],xs,h=>by
  have:=h.length_eq;simp only[NG,MT]at this;have:xs=[]:=Sb this.symm;subst this;exact⟨[],.refl _,rfl⟩|b::l,xs,h=>by
  have e:b∈xs.map f:=h.mem_iff.mp MG;obtain⟨x,d,rfl⟩:=List.mem_map.mp e;obtain⟨u,v,rfl⟩:=List.append_of_mem d;have g:(f x::l).Perm (f x::(u++v).map f):=h.trans (by rw[OZ,M9,OZ];exact TM);obtain⟨ys,p,rfl⟩:=aH f g.cons_inv;exact⟨x::ys,(List.Perm.cons x p).trans List.perm_middle.symm,rfl⟩
section
variable{prog:MX}{w:M_}{K:Type}[DecidableEq K]{kk:Pa prog w K}{A:Nc}{E:Mv->Mx->Prop}{s:Mx}
theorem aI.keep{h h':Na}{a:MD}{xs:List (List K×MD)}{t:Nk}(S:aI kk h a xs t)(k:∀o,h.get? a=Mt o->h'.get? a=Mt o):aI kk h' a xs t:=by
 obtain⟨⟨o,c,d,b,r⟩,i,g,f,e⟩:=S;exact⟨⟨o,c,d,k o b,r⟩,i,g,f,e⟩
theorem dh.keep{h h':Na}{xs:List (List K×MD)}(S:dh kk h xs)(k:∀b o,h.get? b=Mt o->h'.get? b=Mt o):dh kk h' xs:=λx a=>by
 obtain⟨o,items,n,c,r⟩:=S x a;exact⟨o,items,n,k _ o c,r⟩
theorem u9{h:Na}{r:MD}(e:h.get? r=Mt (L2.aB w)):aI kk h r [] (.fresh 0 0 (!w.params.followText "set-order")):=⟨⟨_,#[],0,e,⟨rfl,rfl,rfl⟩,rfl,rfl⟩,⟨.inl rfl,.nil,rfl,rfl,λi j e=>(by simp[SetTable.fresh]at e),Nv _,λi h j e=>(by simp at e)⟩,(by show 0*5<7*3;omega),.nil,rfl⟩
theorem pF{a:MD}{o:NF}{es:Array (Int×Mv)}{c:Nat}{t:Nk}{os:List MD}{f:Option MD}(W:Wk w o es c t)(g:s.heap.get? a=Mt o){Q:Array (Int×Mv)->Mx->Prop}(h:Q (cg w a es c) s):wpAny (MO prog w) A (setWalkUnseen a os f) Q E s:=by
 have d:wpAny (MO prog w) A (setWalk a) Q E s:=by
  unfold setWalk Uh;refine Ms (Ob g W.dat W.ze ?_);dsimp only;refine Ms (Ms (N9 (Mu ?_)));cases b:w.params.followText "set-order"with
  |true=>
   refine aF (if_pos b) ?_;refine Ms (N9 (Mu ?_));have e:SA (w.params.setOrder a c) es=cg w a es c:=by unfold cg;rw[if_pos b]
   show Q (SA (w.params.setOrder a c) es) s;rw[e];exact h|false=>
   refine aF (if_neg (by rw[show({program:=(MO prog w).prog,params:=(MO prog w).w.params}:Setting).params.followText "set-order"=My from b];exact Nx)) ?_;refine aF (if_neg ?_) ?_
   .show¬((!t.plain&&decide (es.size>1))=Mz);rw[W.plain];simp
   refine Ms (aF (if_neg ?_) (Mu ?_))
   .show¬((!t.led&&decide (es.size>1))=Mz);rw[W.led,b];simp
   refine Mu ?_;have e:cg w a es c=es:=by unfold cg;rw[b];rfl
   rw[e]at h;exact h
 unfold setWalkUnseen Uh;refine Ms (Ob g W.dat W.ze ?_);dsimp only;refine Ms (Ms (N9 (Mu ?_)));refine aF (if_pos ?_) d;show(w.params.followText "set-order"||(t.led&&t.plain)||decide (es.size<=1))=Mz;rw[W.led,W.plain];cases w.params.followText "set-order"<;>rfl
theorem x8{a b:MD}{xs ys:List (List K×MD)}{t u:Nk}{nm:String}(hu:A.units<NV)(S:aI kk s.heap a xs t)(pl:t.plain=Mz)(T:aI kk s.heap b ys u)(V:dh kk s.heap xs)(a9:dh kk s.heap ys)(hx:xs.length<=4)(hq:xs.length/4<=ys.length)(ap:∀x∈xs,bc s.heap x.2){Q:Mv->Mx->Prop}(hQ:∀h' h t',(∀c o,s.heap.get? c=Mt o->h'.get? c=Mt o)->aI kk h' s.heap.objs.size h t'->t'.plain=Mz->(∀z,z∈h↔z∈xs/\z.1∉ys.map (·.1))->Q (.ref s.heap.objs.size) {s with heap:=h'}):wpAny (MO prog w) A (Sj nm a (.ref b)) Q E s:=by
 obtain⟨oa,ea,pa,i,D,B,U⟩:=id S.ob;obtain⟨ob,eb,pb,I,R,a6,a5⟩:=id T.ob;have a8:s.TypeIs (.ref a) "set":=⟨oa,i,D.1⟩;have a7:s.TypeIs (.ref b) "set":=⟨ob,I,R.1⟩;have za:ea.size=xs.length:=by have:=congrArg Oc U;simpa using this
 have zb:eb.size=ys.length:=by have:=congrArg Oc a5;simpa using this
 have Y:t.fits ea.size=Mz:=by rw[za];exact S.fits
 have fb:u.fits eb.size=Mz:=by rw[zb];exact T.fits
 have ra:a<s.heap.objs.size:=MH i;have rb:b<s.heap.objs.size:=MH I;unfold Sj;refine Ms (m:=OU (.ref b)) ?_;unfold OU;refine Ms (m:=RC (.ref b) (.type "set")) (OK (T:="set") (b:=Mz) a7 (by rw[Qc];kernel_rfl) (Mu ?_));simp only[Pb,M0,if_false,UN,if_true];unfold OF Tt Builtin.Frozenset.baseOf;refine Ms (Mu ?_);refine Ms (Ms (P7 I a6 fb (Mu ?_)));refine Ms (Ms (P7 i B Y (Mu ?_)));rw[if_neg (by rw[za,zb];omega)];refine Ms (Ms (OK (T:="set") (b:=Mz) a8 (by rw[Qc];kernel_rfl) (Mu ?_)));rw[if_pos rfl];refine Ms (L2.m9 ?_);refine Ms (Mu ?_);have H:∀c o,s.heap.get? c=Mt o->(s.heap.push (L2.aB w)).get? c=Mt o:=λc o e=>Mw _ e;have W:Wk w oa ea pa t:=⟨D,B,Y,S.tab.rise,pl,S.led⟩;refine Ms (Tn (H _ _ i) B Y ?_);refine Ms (M2 (Ms (pF W (H _ _ i) ?_)));rw[<-Qj];obtain⟨a1,pm,b0⟩:=aH (jL kk) (U▸jO w a ea pa);rw[b0];refine Ms (Pz _ (λC r s'=>∃(h':Na)(h d l:List (List K×MD))(t':Nk),s'={s with heap:=h'}/\C=l.map (jL kk)/\(d++l).Perm xs/\(∀c o,s.heap.get? c=Mt o->h'.get? c=Mt o)/\aI kk h' s.heap.objs.size h t'/\t'.plain=Mz/\∀z,z∈h↔z∈d/\z.1∉ys.map (·.1)) _ ?_ ?_ _ _ ⟨_,[],[],a1,_,rfl,rfl,pm,H,u9 (MJ _ rfl),rfl,λz=>by simp⟩)
 .rintro e C r s'⟨h',h,d,l,t',rfl,X,f,kp,Z,v,G⟩;cases l with
  |nil=>cases X|cons x l=>
   rw[M9]at X;injection X with e1 e2;subst e1;have N:x∈xs:=f.mem_iff.mp (M1 _ MG);have O:Om kk h' x.1 x.2:=dh.keep V kp x N;have a4:dh kk h' h:=λz M=>dh.keep V kp z (f.mem_iff.mp (Ox _ ((G z).mp M).1));have L:(d++x::l).map (·.1)|>.Nodup:=(f.map _).nodup_iff.mpr S.nd;have a2:x.1∉d.map (·.1):=by
    rw[OZ,M9]at L;intro j;exact(List.nodup_append.mp L).2.2 x.1 j x.1 MG rfl
   have lz:h.length<4:=by
    have:h.length<=d.length:=by
     have nz:(h.map (·.1)).Nodup:=Z.nd;have:=L2.pE nz (l':=d.map (·.1)) λk hk=>by
      obtain⟨z,M,rfl⟩:=List.mem_map.mp hk;exact Np ((G z).mp M).1
     simpa using this
    have l2:=f.length_eq;simp only[Of,Nn]at l2;omega
   have J:(d++[x]++l).Perm xs:=by rw[Pl];exact f
   have fin:∀{P:ForInStep PUnit->Mx->Prop}(F:Na),(∀c o,s.heap.get? c=Mt o->F.get? c=Mt o)->P (.yield Ui) {s with heap:=F}->wpAny (MO prog w) A (Sx nm a pa>>=λ_=>pure (PQ Ui)) P E {s with heap:=F}:=λF y hP=>by
    unfold Sx;refine Ms (Ms (Tn (y _ _ i) B Y ?_));rw[if_neg (by simp)];exact Mu (Mu hP)
   refine Ms (M2 ?_);refine Ms (L2.oM (s:={s with heap:=h'}) hu (aI.keep T (kp _)) (dh.keep a9 kp) O λr hr=>?_);refine Ms (Mu ?_);rw[hr];by_cases j:x.1∈ys.map (·.1)
   .rw[decide_eq_true j];refine Mu (fin h' kp ⟨h',h,d++[x],l,t',rfl,e2,J,kp,Z,v,λz=>?_⟩);rw[G,Sh,PD];constructor;.rintro⟨p,q⟩;exact⟨.inl p,q⟩
    .rintro⟨p|rfl,q⟩;.exact⟨p,q⟩
     .exact absurd j q
   .rw[decide_eq_false j];show wpAny _ _ (RR s.heap.objs.size (.ref x.2) (Nb kk x.1)>>=_) _ _ _;unfold RR;refine Ms (M2 (mM (s:={s with heap:=h'}) hu Z a4 O lz (λold=>?_) λb1 F a0 t2 sb S2 a3 pp=>?_))
    .obtain⟨z,M,ez⟩:=List.mem_map.mp old;exact absurd (List.mem_map.mpr ⟨z,((G z).mp M).1,ez⟩) a2
    .have y:∀c o,s.heap.get? c=Mt o->F.get? c=Mt o:=λc o e=>(sb.2 c (M4 (MH e))).trans (kp c o e);refine Mu (fin F y ⟨F,a0,d++[x],l,t2,rfl,e2,J,y,S2,pp v ?_,λz=>?_⟩)
     .obtain⟨o,items,n,h1,r⟩:=ap x N;exact⟨o,items,n,kp _ o h1,r⟩
     .rw[a3.mem_iff,Nl,G,Sh,PD];constructor
      .rintro(rfl|⟨p,q⟩);.exact⟨.inr rfl,j⟩
       .exact⟨.inl p,q⟩
      .rintro⟨p|rfl,q⟩;.exact .inr ⟨p,q⟩
       .exact .inl rfl
 .rintro r s'⟨h',h,d,l,t',rfl,X,f,kp,Z,v,G⟩;have:l=[]:=List.map_eq_nil_iff.mp X.symm;subst this;rw[NT]at f;exact Mu (Mu (hQ h' h t' kp Z v λz=>by rw[G,f.mem_iff]))
end
end ST
end
section
namespace PySem.F
theorem kC:Wt table "set.__sub__"=Mt Builtin.«frozenset.__sub__»:=UU (id':="frozenset.__sub__") (by kernel_rfl) rfl (by decide+kernel) (by kernel_rfl)
end PySem.F
namespace L2
open PySem PySem.Spec PyProof.Rows
section
variable{X:Cx}{F:Fx}
noncomputable def x9(l r:List D):List D:=l.filter λx=>!r.any (be x)
noncomputable def B8:D->D->M D
 |.set l,.set r=>do
  M.need ((∀x∈l,iL x)/\(∀x∈r,c7 x)/\l.length<=4/\l.length/4<=r.length)pure (.set (x9 l r))|_,_=>M.fail
theorem A6{pins:List (MD×NF)}{σ:St}{H:Hp}{s:Mx}{a:MD}{ks:List D}(I:Inv X pins σ H s)(hK:X.K=F.K)(hP:X.prog=F.P)(hw:X.w=F.w)(h:dX F.toFb H a ks)(n:∀x∈ks,iL x):∃xs t,ST.aI (ao X.prog X.w) s.heap a xs t/\ks=xs.map (λx=>D.tup (x.1.map kD))/\ST.dh (ao X.prog X.w) s.heap xs/\t.plain=Mz/\(∀x∈xs,TupAt F.toFb H x.2 (x.1.map kV))/\∀x∈xs,ST.bc s.heap x.2:=by
 obtain⟨v,ob,u,e,h⟩:=h;have m:s.heap.get? a=Mt ob:=(I.ay a _ e).1;rcases h with⟨xs,so,rfl,d⟩|⟨xs,so,rfl⟩
 .obtain⟨t,S,g⟩:=so.2.2 s.heap a m;rw[<-hP,<-hw]at S;have p:∀x∈xs,gx x.1=Mz:=λx b=>by
   obtain⟨j,_,c⟩:=n _ (Np (f:=λx:List Key×MD=>D.tup (x.1.map kD)) b);unfold tupI at c;injection c with c;rw[j_ c];exact l8 j
  exact⟨xs,t,S,rfl,λx b=>bG I (by rw[hK];exact(d x b).2),g p,d,λx b=>eJ I (by rw[hK];exact(d x b).2) (p x b)⟩
 .have:xs=[]:=by cases xs with
   |nil=>rfl|cons x xs=>
    obtain⟨i,_,z⟩:=n _ MG;cases z
  subst this;obtain⟨t,S⟩:=so.2.2 s.heap a m;rw[<-hP,<-hw]at S;have g:=S.plain;obtain⟨o,q,r,k,hex,hd,l⟩:=S.ob;exact⟨[],t,⟨⟨o,q,r,k,hex,hd,l⟩,S.tab,S.n0,.nil,S.led⟩,rfl,(λx b=>nomatch b),g,(λx b=>nomatch b),λx b=>nomatch b⟩
theorem A7(hu:X.A.units+1<NV)(hP:X.prog=F.P:=by rfl)(hw:X.w=F.w:=by rfl):eN X F (PC .Sub) B8:=⟨λR s σ H k x y v u d e Q I rx ry l hK U i2 q=>by cases d with
 |set ks=>cases e with
  |set O=>
   obtain⟨⟨h1,h2,h3,h4⟩,q⟩:=q;simp only[Is]at U i2;obtain⟨a,rfl,l0,c,sa⟩:=U;obtain⟨b,rfl,m0,i,sb⟩:=i2;cases(show v=MW a from rx);cases(show u=MW b from ry);obtain⟨xs,t,S,rfl,K1,pl,tp,ap⟩:=A6 I hK hP hw sa λx M=>h1 x (c.mem_iff.mp M);obtain⟨ys,t2,T,rfl,K2⟩:=xx I hK hP hw sb λx M=>h2 x (i.mem_iff.mp M);have lx:xs.length=ks.length:=by rw[<-c.length_eq,MT]
   have ly:ys.length=O.length:=by rw[<-i.length_eq,MT]
   have o:s.TypeIs (.ref a) "set":=aI.typeIs S;have r:s.TypeIs (.ref b) "set":=aI.typeIs T;refine wpAny_binaryOp_same (op:=.Sub) o r PySem.F.fills_set_sub U3 (Ni U3 o PySem.F.kC ?_ (PySem.F.args_set_sub_2 _ _));show wpAny _ _ (T3 "__sub__" ⟨[.ref a,.ref b],[]⟩>>=_) _ _ _;refine Ms ?_;unfold T3 Wu;simp only[O7,Pb,M0,↓reduceIte,bind_assoc,NG,bne_self_eq_false,Nn];refine Ms (Mu ?_);refine Mu ?_;refine Ms (m:=(OU (.ref a)<&&>OU (.ref b))) ?_;unfold OU;refine Ms (Ms (m:=RC (.ref a) (.type "set")) (OK (T:="set") (b:=Mz) o (by rw[Qc];kernel_rfl) (Mu ?_)));refine Ms (m:=RC (.ref b) (.type "set")) (OK (T:="set") (b:=Mz) r (by rw[Qc];kernel_rfl) (Mu ?_));show wpAny _ _ (OF (.ref a)>>=_) _ _ _;refine Ms (Mu ?_);refine Ms (ST.x8 (show X.A.in1.units<NV by simpa using hu) S pl T K1 K2 (by omega) (by omega) ap λh' g t' kp Z C J=>?_);refine Mu ⟨_,rfl,(λz=>nomatch z),?_⟩;obtain⟨E,a0,a1,j,_⟩:=id Z.ob;have so:=cj.of Z j λ_=>C;rw[hP,hw]at so;have V:H s.heap.objs.size=MA:=I.ay.fresh (MN _);have e1:Ext F.toFb H k (upd H s.heap.objs.size (oS (g,E))) k:=.new V;refine⟨.ref s.heap.objs.size,_,I.laid (t':=s.toks) kp (MN _) (show aQ X.prog X.w _ h' _ (oS (g,E))from⟨j,trivial,⟨_,j⟩,λ_ _ _ _=>trivial⟩),rfl,?_⟩;have q':qE F.toFb H k Q (.set (x9 ks O)) k:=q;refine q' _ _ e1 ?_;simp only[Is];refine⟨_,rfl,g.map (λx=>D.tup (x.1.map kD)),?_,bY l V,E,.ext λ_=>True,ah,.inl ⟨g,so,rfl,λz p=>(tp z ((J z).mp p).1).mono e1.kp⟩⟩;have inj:∀{g:List (List Key×MD)},(g.map (·.1)).Nodup->(g.map (λx=>D.tup (x.1.map kD))).Nodup:=λ{g}h=>by
    have:g.map (λx=>D.tup (x.1.map kD))=(g.map (·.1)).map (λk=>D.tup (k.map kD)):=by rw[N5];rfl
    rw[this];exact To _ (λx y N z=>N (cJ (by injection z))) h
   have G:ks.Nodup:=c.nodup_iff.mp (inj S.nd);refine(SX (inj Z.nd) (G.filter _)).mpr λd=>?_;rw[List.mem_filter,List.mem_map];constructor
   .rintro⟨z,p,rfl⟩;obtain⟨z1,Y⟩:=(J z).mp p;refine⟨c.mem_iff.mp (Np (f:=λx:List Key×MD=>D.tup (x.1.map kD)) z1),?_⟩;rw[N1,VZ];intro n;obtain⟨y,L,B⟩:=List.any_eq_true.mp n;obtain⟨y',K,rfl⟩:=List.mem_map.mp (i.mem_iff.mpr L);rw[dE,decide_eq_true_iff]at B;exact Y (List.mem_map.mpr ⟨y',K,B.symm⟩)
   .rintro⟨hd,W⟩;obtain⟨z,p,rfl⟩:=List.mem_map.mp (c.mem_iff.mpr hd);refine⟨z,(J z).mpr ⟨p,λn=>?_⟩,rfl⟩;obtain⟨y,L,B⟩:=List.mem_map.mp n;rw[N1,VZ]at W;refine W (List.any_eq_true.mpr ⟨_,i.mem_iff.mp (Np (f:=λx:List Key×MD=>D.tup (x.1.map kD)) L),?_⟩);rw[dE,B];exact decide_eq_true rfl|_=>exact q.elim
 |_=>exact q.elim⟩
end
section
variable{X:Cx}{F:Fx}
theorem A8{pins:List (MD×NF)}{σ:St}{H:Hp}{s:Mx}{a:MD}{y:V}{u:Mv}{o:NF}{l:List D}{d:D}{Q:Hp->Prop}{E:Mv->Mx->Prop}(hu:X.A.units<NV)(hK:X.K=F.K)(hP:X.prog=F.P)(hw:X.w=F.w)(I:Inv X pins σ H s)(T:RelV y u)(e:H a=Mt (cD a o))(so:SetOf F.toFb H o l)(i:Is F.toFb H y d)(G:l.length<4)(B:iR l d)(W:d∈l->Q H)(U:d∉l->∀o' l',l'.Perm (d::l)->SetOf F.toFb H o' l'->Q (upd H a (cD a o'))):wpAny (MO X.prog X.w) X.A (UX a u) (λ_ s'=>∃H',Inv X pins σ H' s'/\Q H') E s:=by
 have Y:s.heap.get? a=Mt o:=(I.ay a _ e).1;rcases B with⟨B,k,rfl⟩|⟨B,k,rfl⟩
 .obtain⟨O,ob,rfl,R⟩:=so.BZ B;obtain⟨t,S,L⟩:=ob.2.2 s.heap a Y;rw[<-hP,<-hw]at S;simp only[Is]at i;obtain⟨b,ws,rfl,J,iw⟩:=i;have:=bJ iw;subst this;cases(show u=MW b from T);rw[MT]at G;have r:ST.dh (ao X.prog X.w) s.heap O:=λx v=>bG I (by rw[hK];exact(R x v).2);refine j7 hu S r (bG I (by rw[hK];exact J.2)) G (λc=>?_) λh h' f t' sb C p pl=>?_
  .obtain⟨z,m,rfl⟩:=List.mem_map.mp c;exact⟨H,I.tok _,W (List.mem_map.mpr ⟨z,m,rfl⟩)⟩
  .obtain⟨o',M,N,j,_⟩:=id C.ob;have g:=cj.of C j λq=>pl (L λx v=>q x (p.mem_iff.mpr (MM _ v))) (eJ I (by rw[hK];exact J.2) (q (k,b) (p.mem_iff.mpr MG)));rw[hP,hw]at g;refine⟨_,dF I e sb j,U (λc=>h ?_) o' (f.map λx=>D.tup (x.1.map kD)) (p.map _) (.inl ⟨f,g,rfl,λx v=>?_⟩)⟩
   .obtain⟨z,m,n⟩:=List.mem_map.mp c;injection n with n;rw[<-cJ n];exact Np m
   .rcases List.mem_cons.mp (p.mem_iff.mp v)with rfl|z;.exact J
    .exact R x z
 .obtain⟨O,ob,rfl⟩:=so.Ly B;obtain⟨t,S⟩:=ob.2.2 s.heap a Y;rw[<-hP,<-hw]at S;simp only[Is]at i;subst i;obtain⟨Z,rfl⟩:=(show∃t,u=Qt k t from T);rw[MT]at G;refine rl S G (λc=>?_) λh h' f t' sb C p=>?_
  .obtain⟨z,m,rfl⟩:=List.mem_map.mp c;exact⟨H,I.tok _,W (List.mem_map.mpr ⟨z,m,rfl⟩)⟩
  .obtain⟨o',M,N,j,_⟩:=id C.ob;have g:=jR.of C j;rw[hP,hw]at g;refine⟨_,dF I e sb j,U (λc=>h ?_) o' (f.map λx=>D.int x.1) (p.map _) (.inr ⟨f,g,rfl⟩)⟩;obtain⟨z,m,n⟩:=List.mem_map.mp c;injection n with n;rw[<-n];exact Np m
theorem nu{pins:List (MD×NF)}{σ:St}{H:Hp}{s:Mx}{q:M3}{Q:Bool->Mx->Prop}{A:Nc}{E:Mv->Mx->Prop}(I:Inv X pins σ H s)(c:Oy X.K X.env.code q=Mz)(h:∀b,Q b s):wpAny (MO X.prog X.w) A (inMainModule X.env) Q E s:=by
 obtain⟨a,o,d,t,e1,e2,e3,e4⟩:=Vp I.fB c;unfold inMainModule;rw[e1];show wpAny _ _ (fieldsOf (.ref a)>>=_) _ _ _;refine Ms ?_;show wpAny _ _ (load a>>=_) _ _ _;refine Ms (Wm e2 ?_);rw[e3];refine Mu ?_;split;.exact Ms (N9 (Mu (h _)))
 .exact Mu (h _)
theorem A9{y:M3}{j:Nat}{np sp:Od}{q:M3}(hu:X.A.units<NV)(hK:X.K=F.K)(hP:X.prog=F.P)(hw:X.w=F.w)(J:Oy X.K X.env.code q=Mz)(D:X.N[j]?=Mt y)(r:n6 X.env.scope y)(hd:(y==("__debug__":M3))=My)(g:(y==("__classdict__":M3))=My):PE X (.Set [.Name y np] 0 sp) (λσ H Q=>∃v d,σ[j]?=Mt (Mt v)/\iR [] d/\(∀p o,H p=MA->Is F.toFb (upd H p (cD p o)) v d)/\∀p o',H p=MA->SetOf F.toFb (upd H p (cD p (aB X.w))) o' [d]->Q (.ref p) (upd H p (cD p o'))):=by
 intro c s σ H Q I⟨v,d,t,C,G,B⟩;rw[arm_eval_Set];refine Ms (Oa ?_);refine Ms (nu I J λb=>?_);show wpAny _ _ (setDisplay .oneByOne b [(My,N2 (.Name y np) X.env>>=λv=>PV sp>>=λ_=>pure v)]) _ _ _;unfold setDisplay;show wpAny _ _ (newSet (.type "set")>>=_) _ _ _;refine Ms (m9 ?_);have i:H s.heap.objs.size=MA:=I.ay.fresh (MN _);have O:Inv X c σ (upd H s.heap.objs.size (cD s.heap.objs.size (aB X.w))) {s with heap:=s.heap.push (aB X.w)}:=I.laid (a:=s.heap.objs.size) (o:=cD s.heap.objs.size (aB X.w)) (t':=s.toks) (λ_ _ q=>Mw _ q) (MN _) (nk (MJ _ rfl));refine Ms (M2 ?_);refine Ms ?_;show wpAny _ _ (evalAll [N2 (.Name y np) X.env>>=λv=>PV sp>>=λ_=>pure v]) _ _ _;unfold evalAll;refine Ms ?_;refine Ms (aU (cv (pos:=np) D r hd g c _ σ _ (λw h=>w=v/\h=upd H s.heap.objs.size (cD s.heap.objs.size (aB X.w))) O ⟨v,t,rfl,rfl⟩) λu s2 e=>?_);obtain⟨w,T,M,f,e1,e2⟩:=e;subst e1 e2;refine Ms (Oa (Mu ?_));refine Ms (M2 (Mu (Mu ?_)));refine Ms (M2 ?_);simp only[Pq,PF];refine Ms ?_;refine Ms (Ms (aU (A8 (F:=F) (Q:=λh=>∃o',SetOf F.toFb (upd H s.heap.objs.size (cD s.heap.objs.size (aB X.w))) o' [d]/\h=upd H s.heap.objs.size (cD s.heap.objs.size o')) (E:=X.xe) hu hK hP hw M f (l:=[]) (d:=d) ah ?_ (G _ _ i) (by decide) C (λz=>nomatch z) λ_ o' R m so=>?_) λb s3⟨S,L,o',so,e3⟩=>?_))
 .refine .inl ⟨[],?_,rfl,λx n=>nomatch n⟩;rw[hw];exact m_ _ _
 .rw[List.perm_singleton.mp m]at so;exact⟨o',so,aT ..⟩
 .subst e3;refine Mu (Mu ?_);rw[if_neg (by decide)];refine Mu ?_;show wpAny _ _ (forIn ([]:List (Bool×U5 Mv)) Ui _>>=_) _ _ _;rw[PF];refine Ms (Mu (Mu (Mu ?_)));exact⟨.ref s.heap.objs.size,_,L,rfl,B _ o' i so⟩
theorem x_(i j:Nat){x y:M3}{np sp pos b:Od}{q:M3}(hN:X.N.Nodup)(hu:X.A.units<NV)(hK:X.K=F.K)(hP:X.prog=F.P)(hw:X.w=F.w)(z:Oy X.K X.env.code q=Mz)(t:X.N[i]?=Mt x)(m:Loc X.env.scope x)(u:X.fn x=Mz\/X.env.scope.names.lookup x=Mt .local)(s:X.N[j]?=Mt y)(n:n6 X.env.scope y)(hd:(y==("__debug__":M3))=My)(l:(y==("__classdict__":M3))=My):DS X F (.Assign [.Name x b] (.Set [.Name y np] 0 sp) pos) (λe=>do
   let d<-M.get (lh e j)M.need (iR [] d)pure (.nx (e.set i (Mt (.own (.set [d])))))):=by
 refine⟨hK,(bX (i:=i) hN t m (A9 (np:=np) (sp:=sp) (F:=F) hu hK hP hw z s n hd l) rfl u).imp λZ D H⟨e,k,S,h⟩=>?_⟩;obtain⟨d,C,h⟩:=M.run_get.mp h;obtain⟨r,h⟩:=h;obtain⟨v,g,f⟩:=S.at_ j _ (mV C);have f:Is F.toFb H v d:=f;refine⟨v,d,g,r,λp o c=>f.mono (Ext.new (k:=k) c).kp,λp o' c so=>?_⟩;have e1:Kp F.toFb (upd H p (cD p (aB X.w))) k (upd H p (cD p o')) k:=by
  have:=Kp.own (B:=F.toFb) (k:=k) (H:=upd H p (cD p (aB X.w))) (a:=p) (o':=cD p o') (bY S.live c) ah rfl;rw[aT]at this;exact this
 exact h _ _ (Ext.new (k:=k) c).kp (S.jv i c ⟨o',[d],ah,.refl _,so.mono e1⟩)
end
section
variable{X:Cx}{F:Fx}
noncomputable def ya(d:D):List D->Nat->Option Nat
 |[],_=>MA|x::r,i=>if iN x d then Mt i else ya d r (i+1)
noncomputable def rR:D->Bool
 |.tup _=>Mz|_=>My
noncomputable def yb:D->List D->M D
 |.tup a,[d]=>do M.need ((∀x∈a,rz x)/\rz d);let i<-M.get (ya d a 0);pure (.int i)|_,_=>M.fail
theorem keysOf{l:List D}:(∀x∈l,rz x)->∃ks:List Key,l=ks.map kD:=by induction l with
 |nil=>exactλ_=>⟨[],rfl⟩|cons x l a=>
  intro h;obtain⟨ks,rfl⟩:=a λy b=>h y (MM _ b);obtain⟨k,rfl⟩:=h x MG;exact⟨k::ks,rfl⟩
theorem mm:∀{ks:List Key}{its:List Mv}{P:MX}{w:M_},ak (ks.map kV) its->∀(i:Nat)(k:Key),ks[i]?=Mt k->∃u,its[i]?=Mt u/\(ao P w).is k u=Mz
 |[],_,_,_,_,i,k,h=>by simp at h|k0::ks,_,P,w,.cons r t,0,k,h=>by
  simp only[T4,Ov]at h;subst h;exact⟨_,rfl,iG r⟩|k0::ks,_,P,w,.cons r t,i+1,k,h=>by
  simp only[RE]at h;obtain⟨u,b,a⟩:=mm (P:=P) (w:=w) t i k h;exact⟨u,by simpa using b,a⟩
theorem tP{a:Key}:∀{ks:List Key}{j i:Nat},ya (kD a) (ks.map kD) j=Mt i->∃m,i=j+m/\ks[m]?=Mt a/\∀n k,n<m->ks[n]?=Mt k->k≠a
 |[],j,i,h=>by cases h|k::ks,j,i,h=>by
  simp only[M9,ya]at h;split at h
  .rename_i e;cases h;exact⟨0,rfl,by rw[(gJ k a).mp e];rfl,λn k c=>absurd c (Ro _)⟩
  .rename_i e;obtain⟨m,l,g,f⟩:=tP h;refine⟨m+1,by omega,by simpa using g,λn d c b=>?_⟩;cases n with
   |zero=>
    simp only[T4,Ov]at b;subst b;intro z;exact e ((gJ k a).mpr z)|succ n=>exact f n d (by omega) (by simpa using b)
theorem yc{pins:List (MD×NF)}{s:Mx}{σ:St}{H:Hp}{k:Nat}{a:MD}{xs:List V}{us:List Mv}{d:D}{ds:List D}{Q:VK}(I:Inv X pins σ H s)(R:ak xs us)(hK:X.K=F.K)(J:Is F.toFb H (.ref a) d)(i2:af F.toFb H xs ds)(q:(yb d ds).run k (qE F.toFb H k Q) F.E):wpAny (MO X.prog X.w) X.A (QV (.builtin "tuple.index") (.ref a::us)) (EP X pins σ Q) X.xe s:=by match d,ds,q with
 |.tup es,[d],q=>
  obtain⟨⟨hk,hd⟩,q⟩:=q;obtain⟨i,hi,q⟩:=M.run_get.mp q;have q:qE F.toFb H k Q (.int i) k:=q;simp only[Is]at J;obtain⟨a',ws,e,N,Y⟩:=J;cases e;obtain⟨b,t,U,hz⟩:=I.tuple (by rw[hK];exact N.2);obtain⟨o,L,hc,n,h⟩:=id U;have hT:s.TypeIs (.ref a) "tuple":=⟨o,L,hc⟩;obtain⟨w,rfl,W⟩:=i2.one;obtain⟨u,rfl,O⟩:=vals1 R;obtain⟨ks,rfl⟩:=keysOf hk;obtain⟨C,rfl⟩:=hd;have:=bJ Y;subst this;have:=fW W;subst this;obtain⟨m,e1,B,h3⟩:=tP hi;rw[Nat.zero_add]at e1;subst e1;have hm:i<b.length:=by
   have:=t.length;rw[MT]at this;have:=(List.getElem?_eq_some_iff.mp B).1;omega
  refine Ni TB hT PySem.F.entry_tuple_index ?_ (PySem.F.args_tuple_index_2 _ _);unfold Builtin.«tuple.index»;refine Ms (m:=selfAndSome "tuple.index" "index" 1 3 ⟨[.ref a,u],[]⟩) (Px (show selfAndSome "tuple.index" "index" 1 3 ⟨[.ref a,u],[]⟩=pure (.ref a,[u])from rfl) ?_);dsimp only;unfold QQ;refine Ms (Ms (NH L h (Mu ?_)));refine Ms (Mu ?_);refine Ms (Mu ?_);rw[Std.Legacy.Range.forIn_eq_forIn_range'];refine Ms (Pz _ (λc r p=>r.1=MA/\p=s/\∃j,j<=i/\c=List.range' j (b.length-j) 1) _ ?_ ?_ _ _ ⟨rfl,rfl,0,Nv _,?_⟩)
  .rintro j c⟨T,S⟩p⟨hr,rfl,G,hj,l⟩;have g:b.length-G=(b.length-G-1)+1:=by omega
   rw[g,List.range'_succ]at l;injection l with e1 e2;subst e1;have f:j<ks.length:=by
    have:=t.length;rw[MT]at this;omega
   obtain⟨y,Z,v⟩:=mm (P:=X.prog) (w:=X.w) t j ks[j] (MZ f);have x:b.toArray[j]?=Mt y:=by simpa using Z
   rw[x];dsimp only;refine Ms ((ao X.prog X.w).eqBool v (iG O) ?_);by_cases z:j=i
   .subst z;have:ks[j]=C:=by
     rw[MZ f]at B;exact MI B
    rw[decide_eq_true this,if_pos rfl];refine Ms (Ms (wpAny_mkInt (Mu (Mu (Mu ⟨_,rfl,?_⟩)))));exact⟨.int j,H,I.tok _,⟨_,rfl⟩,q _ H .refl (by simp only[Is])⟩
   .have:ks[j]≠C:=h3 j _ (by omega) (MZ f);rw[decide_eq_false this,if_neg Nx];exact Mu ⟨rfl,rfl,j+1,by omega,by rw[e2];congr 1⟩
  .rintro⟨T,S⟩p⟨hr,rfl,j,hj,l⟩;have:=congrArg Oc l;simp only[NG,List.length_range']at this;omega
  .simp[Std.Legacy.Range.size]
theorem B9{pins:List (MD×NF)}{σ:St}{H:Hp}{s:Mx}{p:MD}(I:Inv X pins σ H s)(h:H p≠MA):X.K.lookup p=MA:=by cases e:X.K.lookup p with
 |none=>rfl|some o=>exact absurd (I.bs p o (I.mod.zt p o e)).2 h
theorem yd{x:M3}{v:V}{u:Mv}{d:D}{pos:Od}(f:Gl X x)(c:X.mg x=Mt u)(r:RelV v u)(e:∀H,H F.p≠MA->X.K.lookup F.p=MA->Is F.toFb H v d)(hd:(x==("__debug__":M3))=My)(hK:X.K=F.K):DE X F (.Name x pos) (λ_=>pure d):=⟨hK,λa s b H Q I⟨g,k,S,h⟩=>mE f c r hd a s b H Q I (h _ H .refl (e H S.live (B9 I S.live)))⟩
theorem EA{x:M3}{e:MV}{np G n:Od}{a:MD}{o:NF}{d:D}{i:ag->M (List A)}(V:Gl X x)(T:X.mg x=Mt (.ref a))(hd:(x==("__debug__":M3))=My)(U:∀H,H F.p≠MA->X.K.lookup F.p=MA->Is F.toFb H (.ref a) d)(lk:X.K.lookup a=Mt o)(W:o.cls=.type "tuple")(R:o.dict=MA)(w:DA X F [e] i)(g:Pw (.Name x np) "index" X.env (N2 (.Name x np) X.env)=N2 (.Name x np) X.env)(f:(G.endLine==n.line)=Mz)(m:((Og n (MS [e] X.env)).all (λx=>!x.1)&&(UP n (R7 [] X.env)).all (λx=>x.1.isSome)&&decide ([e].length+([]:List Q7).length+(if([]:List Q7).isEmpty then 0 else 1)<30))=Mz)(P:MS [e] X.env=(My,N2 e X.env)::MS [] X.env)(c:(Og n (MS [] X.env)).any (·.1)=My):DE X F (.Call (.Attribute (.Name x np) "index" G) [e] [] n) (λB=>do let ds<-dB (<-i B);yb d ds):=by
 have mt:F_ X "tuple.index" (λx C H Q=>x=.ref a/\∃k ds,H F.p≠MA/\af F.toFb H C ds/\(yb d ds).run k (qE F.toFb H k Q) F.E):=λj s y H x C v us Q I J L u=>by
  obtain⟨ex,k,ds,l,i2,q⟩:=u;subst ex;cases(show v=MW a from J);exact yc I L w.hK (U H l (B9 I l)) i2 q
 refine⟨w.hK,(rD (ty:=λx H=>x=.ref a) (λ{j y H s x v}I r ex=>by
  subst ex;cases(show v=MW a from r);have t:s.heap.get? a=Mt o:=I.fB _ _ lk;exact⟨⟨o,t,W⟩,λb q=>by cases q;exact⟨o,t,R⟩⟩) PySem.F.plainAttrs_tuple TB PySem.F.type_tuple_index mt (mE V T (v:=.ref a) rfl hd) w.pa g m f P c).imp λy H Q⟨B,k,S,h⟩=>?_⟩;refine⟨rfl,mU.next S h λas N vs H1 e1 Z O t=>?_⟩;obtain⟨ds,rfl,Y⟩:=bh t;exact⟨rfl,N,ds,Z.live,bj O,(yb d ds).mono Y (λd' k' r=>qE.ext e1 r) λ_ _ z=>z⟩
end
inductive Tg where|nm(i:Nat)|nil|cons(t r:Tg)|tup(n:Nat)(r:Tg)
inductive BI where|len|max2|min2|tuple|list|all|any|sorted|ye|yf deriving DecidableEq
inductive MB where|split|join deriving DecidableEq
inductive Ex where|var(i:Nat)|cst(d:D)|d_(i:Nat)|op(o:Rj)(a b:Ex)|neg(a:Ex)|cmp(o:PX)(a b:Ex)|Jo(o o':PX)(a b c:Ex)|and(a b:Ex)|or(a b:Ex)|one(a:Ex)|not(a:Ex)|A_(c a b:Ex)|kE(a b:Ex)|pG(a b:Ex)|bP(a:Ex)|cy(a:Ex)|gP(a:Ex)|aK(o:PX)(a b:Ex)|nil|cons(a r:Ex)|feed(i:Nat)(r:Ex)|tup(r:Ex)|lst(r:Ex)|idx(a b:Ex)|cut(a lo hi:Ex)|bi(f:BI)(r:Ex)|call(f:Nat)(r:Ex)|B_(T:String)(a:Ex)|lc(own:List M3)(js:List Nat)(tg:Tg)(it c elt:Ex)|FA(own:List M3)(js:List Nat)(tg:Tg)(it c:Ex)(tg2:Tg)(it2 c2 elt:Ex)|Jp(own:List M3)(js:List Nat)(tg:Tg)(it c elt:Ex)|pH(r:Ex)|Ba(r:Ex)|Bb(r:Ex)|aO(a:Ex)|yes|pI(c:Nat)(a:Ex)|bad|dc(own:List M3)(js:List Nat)(tg:Tg)(it c ke ve:Ex)|EB(own:List M3)(js:List Nat)(tg:Tg)(it c:Ex)(tg2:Tg)(it2 c2 ke ve:Ex)|pd(i:Nat)(e:Ex)|rS(f:MB)(o r:Ex)|mk(c:Nat)(r:Ex)|fld(a:Ex)|yg(r:Ex)|Jq(i:Nat)(r:Ex)
noncomputable def eV:D->T Bool
 |.bl b=>.ok b|_=>.stuck
noncomputable def c9:D->T Int
 |.int i=>.ok i|_=>.stuck
noncomputable def rT:List A->T (List D)
 |[]=>.ok []|.d x::r=>do let a<-rT r;.ok (x::a)|.feed::_=>.stuck
noncomputable def pJ:D->Bool
 |.tup []=>My|.tup a=>a.all rq|_=>My
noncomputable def rV(i:Int):Bool:=decide (-(2^64)<i)&&decide (i<2^64)
noncomputable def LA:Rj->D->D->T D
 |.Add,d,e=>match d,e with
  |.int i,.int j=>.ok (.int (i+j))|.tup b,.tup a=>do T.need (decide (b.length+a.length<=MP));.ok (.tup (b++a))|.lst b,.lst a=>do T.need (decide (b.length+a.length<=MP));.ok (.lst (b++a))|_,_=>.stuck
 |.Sub,d,e=>match d,e with
  |.int i,.int j=>.ok (.int (i-j))|.set l,.set r=>do T.need (l.all pJ&&(r.all f_&&(decide (l.length<=4)&&decide (l.length/4<=r.length))));.ok (.set (x9 l r))|_,_=>.stuck
 |.Mult,d,e=>do let i<-c9 d;let j<-c9 e;T.need (rV i||rV j);.ok (.int (i*j))|.FloorDiv,d,e=>do let i<-c9 d;let j<-c9 e;T.need (decide (0<j)&&decide (j<1073741824));.ok (.int (i/j))|.Mod,d,e=>do let i<-c9 d;let j<-c9 e;T.need (decide (0<j));.ok (.int (i%j))|_,_,_=>.stuck
noncomputable def Bc(d:D)(l:List D):Option Bool:=if(f_ d&&l.all f_)||(rq d&&l.all rq)then Mt (l.any (be d))else MA
noncomputable def gb(ks:List D)(d:D):Bool:=(ks.all BY&&BY d)||(ks.all f_&&f_ d)
noncomputable def nv(l:List D)(d:D):Bool:=(l.all f_&&f_ d)||(l.all rq&&rq d)
noncomputable def dH:PX->D->D->T D
 |.Eq,d,e=>do let b<-T.get (di aS d e);.ok (.bl b)|.NotEq,d,e=>do let b<-T.get (di aS d e);.ok (.bl (!b))|.Lt,d,e=>do let b<-T.get (jd .Lt aS d e);.ok (.bl b)|.LtE,d,e=>do let i<-c9 d;let j<-c9 e;.ok (.bl (decide (i<=j)))|.Gt,d,e=>do let i<-c9 d;let j<-c9 e;.ok (.bl (decide (j<i)))|.GtE,d,e=>do let i<-c9 d;let j<-c9 e;.ok (.bl (decide (j<=i)))|.Is,d,e=>do T.need (gz e);.ok (.bl (gz d))|.IsNot,d,e=>do T.need (gz e);.ok (.bl (!gz d))|.In,d,e=>match e with
  |.set _=>.stuck|.bR ks _=>do T.need (gb ks d);.ok (.bl (ib ks d))|_=>do let a<-T.get (items e);let b<-T.get (wY d a);.ok (.bl b)
 |.NotIn,d,e=>match e with
  |.set l=>do let b<-T.get (Bc d l);.ok (.bl (!b))|.bR ks _=>do T.need (gb ks d);.ok (.bl (!ib ks d))|_=>do let a<-T.get (items e);let b<-T.get (wY d a);.ok (.bl (!b))
noncomputable def Hb:D->D->T D:=λd e=>do
 let i<-c9 e;match d with
 |.tup a=>T.get (lQ a i)|.lst a=>T.get (lQ a i)|.str x=>do T.need (decide (x.length<=MP));T.get (DC x i)|_=>.stuck
noncomputable def yh:D->D->T D
 |.bR ks a,e=>do T.need (gb ks e);T.get (iO ks a e)|d,e=>Hb d e
noncomputable def Kr(lo b:Option Int):D->T D
 |.tup a=>.ok (.tup (cutD a lo b))|.lst a=>.ok (.lst (cutD a lo b))|_=>.stuck
noncomputable def insI(n:Int):List Int->List Int
 |[]=>[n]|m::r=>if n<=m then n::m::r else m::insI n r
noncomputable def sortI:List Int->List Int
 |[]=>[]|n::r=>insI n (sortI r)
noncomputable def intOf:D->Int
 |.int i=>i|_=>0
noncomputable def rW(n:List Int):List (List Int)->List (List Int)
 |[]=>[n]|m::r=>if HT.lexLt m n then m::rW n r else n::m::r
noncomputable def iU:List (List Int)->List (List Int)
 |[]=>[]|n::r=>rW n (iU r)
noncomputable def intsOf:D->List Int
 |.tup a=>a.map intOf|_=>[]
noncomputable def once(a:D->D->Bool):List D->List D
 |[]=>[]|x::r=>if r.any (a x)then once a r else x::once a r
noncomputable def Ks(d:D):T Bool:=T.get (Ej d)
noncomputable def Hc:D->Bool
 |.lst a=>decide (a.length<=1)|_=>My
noncomputable def ef(d:D):T D:=do
 let a<-T.get (eS d)T.need (decide (a.length<3))if a.all rq then .ok (.lst ((sortI (a.map intOf)).map D.int))else if a.all pJ then .ok (.lst ((iU (a.map intsOf)).map tupI))else .stuck
noncomputable def EC:BI->List D->T D
 |.len,[d]=>match d with
  |.tup a=>.ok (.int a.length)|.lst a=>.ok (.int a.length)|.str x=>do T.need (decide (x.length<=MP));.ok (.int x.length)|_=>.stuck
 |.max2,[d,e]=>T.get (bestOf .Gt [d,e])|.min2,[d,e]=>T.get (bestOf .Lt [d,e])|.yf,[d]=>match d with
  |.lst a=>T.get (bestOf .Lt a)|_=>.stuck
 |.tuple,[d]=>do let a<-T.get (items d);.ok (.tup a)|.list,[d]=>do let a<-T.get (items d);.ok (.lst a)|.all,[d]=>match d with
  |.lst a=>do let bs<-T.get (bools a);.ok (.bl (bs.all id))|_=>.stuck
 |.any,[d]=>match d with
  |.lst a=>do let bs<-T.get (bools a);.ok (.bl (bs.any id))|_=>.stuck
 |.sorted,[d]=>if Hc d then .ok d else ef d|.ye,[d]=>match d with
  |.lst a=>do T.need (decide (a.length<=4)&&a.all f_);.ok (.set (once be a))|_=>.stuck
 |_,_=>.stuck
noncomputable def Kt:MB->D->Bool|_=>isStr
noncomputable def FC:MB->D->List D->T D
 |.split,d,c=>match d,c with
  |.str x,[.str y]=>do let b<-T.get (rJ x y);.ok (.lst (b.map D.str))|_,_=>.stuck
 |.join,d,c=>match d,c with
  |.str a,[.lst e]=>do
   let b<-T.get (iT e)T.need (!Builtin.Str.tooLong (b.toArray.foldl (·+·.length+a.length) 0)&&decide ((dr a b).length<=MP));.ok (.str (dr a b))|_,_=>.stuck
noncomputable def He:D->List D->T D
 |.tup a,[d]=>do T.need (a.all BY&&BY d);let i<-T.get (ya d a 0);.ok (.int i)|_,_=>.stuck
noncomputable def Ku:List D->T D
 |[d,e]=>do let b<-T.get (items d);let a<-T.get (items e);.ok (.lst (j6 b a))|_=>.stuck
noncomputable def Ca(Ty:String)(d:D):T D:=do
 let t<-T.get (DH d)let b<-T.get (Oi [] (.type t) (.type Ty));.ok (.bl b)
mutual
noncomputable def dw:Tg->D->ag->T ag
 |.nm i,d,a=>.ok (a.set i (Mt (.d d)))|.tup n r,d,a=>match d with
  |.tup b=>if b.length=n then d5 r b a else .stuck|_=>.stuck
 |_,_,_=>.stuck
noncomputable def d5:Tg->List D->ag->T ag
 |.nil,a,c=>match a with
  |[]=>.ok c|_=>.stuck
 |.cons t r,a,c=>match a with
  |d::a=>do let b<-dw t d c;d5 r a b|[]=>.stuck
 |_,_,_=>.stuck
end
noncomputable def iV(g:D->ag->T ag)(e:ag->T Bool)(c:ag->T D):List D->ag->T (List D)
 |[],_=>.ok []|d::f,h=>do
  let a<-g d h;let b<-e a;if b then do
   let x<-c a;let r<-iV g e c f a;.ok (x::r)else iV g e c f a
noncomputable def pK(g:D->ag->T ag)(e:ag->T Bool)(f:ag->T (List D×ag)):List D->ag->T (List D×ag)
 |[],c=>.ok ([],c)|d::h,c=>do
  let a<-g d c;let b<-e a;if b then do
   let x<-f a;let r<-pK g e f h x.2;.ok (x.1++r.1,r.2)else pK g e f h a
noncomputable def Kv(b:ag->T D)(a:ag):T (List D×ag):=do let x<-b a;.ok ([x],a)
noncomputable def LB(b:ag->T (List D))(f:D->ag->T ag)(a:ag->T Bool)(e:ag->T D)(c:ag):T (List D×ag):=do
 let d<-b c;T.need (decide (d.length<=1000))pK f a (Kv e) d c
noncomputable def b6(g:D->ag->T ag)(e:ag->T Bool)(f:List D->ag->T (List D×ag)):List D->List D->ag->T (List D×ag)
 |acc,[],c=>.ok (acc,c)|acc,d::h,c=>do
  let a<-g d c;let b<-e a;if b then do
   let r<-f acc a;b6 g e f r.1 h r.2;else b6 g e f acc h a
noncomputable def mn(ok:D->Bool)(c:ag->T D)(a:List D)(b:ag):T (List D×ag):=do
 let x<-c b;T.need (decide (a.length<4)&&ok x);.ok (a++[x],b)
noncomputable def ip{c:Type}(g:D->ag->T ag)(f:ag->T Bool)(h:c->ag->T (c×ag)):c->List D->ag->T (c×ag)
 |acc,[],e=>.ok (acc,e)|acc,d::i,e=>do
  let a<-g d e;let b<-f a;if b then do
   let r<-h acc a;ip g f h r.1 i r.2;else ip g f h acc i a
noncomputable def Hf{a:Type}(c:ag->T (List D))(f:D->ag->T ag)(b:ag->T Bool)(g:a->ag->T (a×ag))(d:a)(e:ag):T (a×ag):=do
 let h<-c e;ip f b g d h e
noncomputable def yi(d c:ag->T D)(a:List D×List D)(b:ag):T ((List D×List D)×ag):=do
 let x<-d b;let y<-c b;T.need (gb a.1 x&&decide (a.1.length<MP));.ok (putD a.1 a.2 x y,b)
noncomputable def Kw(d:D):T (List D):=do
 let j<-c9 d;T.need (decide (-(2^62)<=j)&&decide (j<=1000000));.ok (dv j.toNat)
noncomputable def rX(a:ag)(i:Nat):Bool:=match a[i]? with
 |some (Mt .feed)=>Mz|_=>My
structure Ev where
 call:Nat->List A->T D
 d_:Nat->Option D
 cls:Nat->Option MD
 how:MD->Nat
 sub:MD->MD->Option Bool
 ins:MD->Mv->Option Bool
 room:Nat
noncomputable def yj(v:Ev)(Ty:String):D->T D
 |.exc c _=>do let b<-T.get (v.ins c (.type Ty));.ok (.bl b)|d=>Ca Ty d
noncomputable def tQ(v:Ev)(P:MD):D->T D
 |.exc c _=>do let b<-T.get (v.ins c (.ref P));.ok (.bl b)|_=>.stuck
noncomputable def Hg:List D->T D
 |[d]=>.ok d|_=>.stuck
noncomputable def qr(v:Ev)(C:MD)(as:List A):T D:=if v.how C=1 then do T.need (decide (as.length<=MP));.ok (.exc C [])else if v.how C=2/\2<=v.room then do let d<-Hg (<-rT as);.ok (.exc C [d])else .stuck
noncomputable def gQ(v:Ev)(C:MD):Bool:=decide (v.how C=1)||(decide (v.how C=2)&&decide (2<=v.room))
noncomputable def ED(v:Ev):D->T D
 |.exc C [d]=>if v.how C=2 then .ok d else .stuck|_=>.stuck
mutual
noncomputable def bQ(v:Ev):Ex->ag->T D
 |.var i,g=>T.get (lh g i)|.cst d,_=>.ok d|.d_ i,_=>T.get (v.d_ i)|.op o a b,g=>do let d<-bQ v a g;let e<-bQ v b g;LA o d e|.neg a,g=>do let i<-c9 (<-bQ v a g);.ok (.int (-i))|.cmp o a b,g=>do let d<-bQ v a g;let e<-bQ v b g;dH o d e|.Jo o t a b c,g=>do
  let d<-bQ v a g;let e<-bQ v b g;let r<-dH o d e;let y<-eV r;if y then do let f<-bQ v c g;dH t e f else .ok (.bl My)|.and a b,g=>do let c<-eV (<-bQ v a g);if c then bQ v b g else .ok (.bl My)|.or a b,g=>do let c<-eV (<-bQ v a g);if c then .ok (.bl Mz)else bQ v b g|.one a,g=>bQ v a g|.not a,g=>do let c<-eV (<-bQ v a g);.ok (.bl (!c))|.A_ c a b,g=>do let x<-cm v c g;if x then bQ v a g else bQ v b g|.tup r,g=>do let h<-rT (<-iW v r g);T.need (decide (h.length<=MP));.ok (.tup h)|.lst r,g=>do let h<-rT (<-iW v r g);T.need (decide (h.length<=MP));.ok (.lst h)|.idx a b,g=>do let d<-bQ v a g;let e<-bQ v b g;yh d e|.cut a lo w,g=>do let d<-bQ v a g;let l<-Kx v lo g;let u<-Kx v w g;Kr l u d|.bi f r,g=>do EC f (<-rT (<-iW v r g))|.call f r,g=>do let as<-iW v r g;(v.call f as).at' g|.B_ Ty a,g=>do yj v Ty (<-bQ v a g)|.pI c a,g=>do let P<-T.get (v.cls c);tQ v P (<-bQ v a g)|.lc own m k it c j,g=>do
  let h<-ny v it g;let r<-iV (dw k) (λg=>(cm v c g).calm) (λg=>(bQ v j g).calm) h (fQ g own.length m);.ok (.lst r)|.FA own m k it c n p c2 j,g=>do
  let h<-ny v it g;T.need (decide (h.length<=1000))let r<-pK (dw k) (λg=>(cm v c g).calm) (LB (λg=>(ny v p g).calm) (dw n) (λg=>(cm v c2 g).calm) (λg=>(bQ v j g).calm)) h (fQ g own.length m);.ok (.lst r.1)|.Jp own m k it c j,g=>do
  let h<-ny v it g;let r<-b6 (dw k) (λg=>(cm v c g).calm) (mn f_ (λg=>(bQ v j g).calm)) [] h (fQ g own.length m);.ok (.set (once be r.1))|.dc own m k it c s q,g=>do
  let h<-ny v it g;let r<-ip (dw k) (λg=>(cm v c g).calm) (yi (λg=>(bQ v s g).calm) (λg=>(bQ v q g).calm)) ([],[]) h (fQ g own.length m);.ok (.bR r.1.1 r.1.2)|.EB own m k it c n p c2 s q,g=>do
  let h<-ny v it g;let r<-ip (dw k) (λg=>(cm v c g).calm) (Hf (λg=>(ny v p g).calm) (dw n) (λg=>(cm v c2 g).calm) (yi (λg=>(bQ v s g).calm) (λg=>(bQ v q g).calm))) ([],[]) h (fQ g own.length m);.ok (.bR r.1.1 r.1.2)|.mk c r,g=>do
  let C<-T.get (v.cls c)T.need (gQ v C)qr v C (<-iW v r g)|.fld a,g=>do ED v (<-bQ v a g)|.yg r,g=>do Ku (<-rT (<-iW v r g))|.Jq i r,g=>do
  let d<-T.get (v.d_ i)T.need (rR d)He d (<-rT (<-iW v r g))|.rS f o r,g=>do
  let d<-bQ v o g;T.need (Kt f d)FC f d (<-rT (<-iW v r g))|.pd i e,g=>do
  let d<-bQ v e (vF i g)T.need (flat d);.ok d|_,_=>.stuck
noncomputable def cm(v:Ev):Ex->ag->T Bool
 |.yes,_=>.ok Mz|.kE a b,f=>do let c<-cm v a f;if c then cm v b f else .ok My|.pG a b,f=>do let c<-cm v a f;if c then .ok Mz else cm v b f|.bP a,f=>cm v a f|.cy a,f=>do let c<-cm v a f;.ok (!c)|.gP a,f=>do Ks (<-bQ v a f)|.aK o a b,f=>do let d<-bQ v a f;let e<-bQ v b f;eV (<-dH o d e)|.pd i e,f=>cm v e (vF i f)|_,_=>.stuck
noncomputable def iW(v:Ev):Ex->ag->T (List A)
 |.nil,_=>.ok []|.cons a r,b=>do let d<-bQ v a b;let c<-iW v r b;.ok (.d d::c)|.feed i r,b=>do T.need (rX b i);let c<-iW v r b;.ok (.feed::c)|_,_=>.stuck
noncomputable def Kx(v:Ev):Ex->ag->T (Option Int)
 |.nil,_=>.ok MA|.one a,b=>do let i<-c9 (<-bQ v a b);.ok (Mt i)|_,_=>.stuck
noncomputable def ny(v:Ev):Ex->ag->T (List D)
 |.pH r,b=>do match<-rT (<-iW v r b)with
  |[d]=>Kw d|_=>.stuck
 |.Ba r,b=>do match<-rT (<-iW v r b)with
  |[d,e]=>do let c<-T.get (items d);let f<-T.get (items e);.ok (j6 c f)|_=>.stuck
 |.Bb r,b=>do match<-rT (<-iW v r b)with
  |[.lst c]=>.ok (gG c)|_=>.stuck
 |.aO a,b=>do T.get (xO (<-bQ v a b))|_,_=>.stuck
end
inductive dj where|asg(tg:Tg)(e:Ex)|set(i:Nat)(e:Ex)|expr(e:Ex)|ret(e:Ex)|nil|cons(s r:dj)|iff(c:Ex)(a b:dj)|b7(tg:Tg)(it:Ex)(b:dj)|Hh(c:Ex)(b:dj)|aug(i:Nat)(o:Rj)(e:Ex)|raise(c:Nat)(r:Ex)|Bd(b:dj)(c i y:Nat)(h:Hd)|bad|lA(i:Nat)(r:Ex)|Be(i:Nat)|Bf(i:Nat)|app(i:Nat)(e:Ex)|add(i:Nat)(e:Ex)|put(i:Nat)(k e:Ex)|pop(j i:Nat)|tR(i j:Nat)|fz(i:Nat)(s:dj)
noncomputable def yk:D->T (List D)
 |.lst a=>.ok a|_=>.stuck
noncomputable def Cb:D->T (List D)
 |.set a=>.ok a|_=>.stuck
noncomputable def Cc:D->T (List D×List D)
 |.bR ks a=>.ok (ks,a)|_=>.stuck
noncomputable def T.pL{b:Type}(t:T b)(h:Xc->T b):T b:=match t with
 |.ok a=>.ok a|.exc x=>h x|.stuck=>.stuck|.draw n k=>.draw n λi=>(k i).pL h
noncomputable def mo(v:Ev)(P:MD)(i y:Nat)(h:Hd)(x:Xc):T Fl:=match x.x with
 |.exc c nm=>do
  T.need (match v.sub c P with|some Mz=>Mz|_=>My)let d<-T.get (Jm h (tz (Mt i) (.exc c nm) x.en));.ok (.nx (Lx (Mt i) ((tz (Mt i) (.exc c nm) x.en).set y (Mt (.d d)))))|_=>.stuck
noncomputable def ei(g:D->ag->T ag)(body:ag->T Fl):List D->ag->T Fl
 |[],c=>.ok (.nx c)|d::e,c=>do
  let b<-g d c;match<-body b with
  |.nx a=>ei g body e a|.ct a=>ei g body e a|.bk a=>.ok (.nx a)|.rt r=>.ok (.rt r)
noncomputable def nA(c:ag->T Bool)(body:ag->T Fl):Nat->ag->T Fl
 |0,_=>.stuck|n+1,d=>do
  let b<-c d;if b then do match<-body d with
   |.nx a=>nA c body n a|.ct a=>nA c body n a|.bk a=>.ok (.nx a)|.rt r=>.ok (.rt r)else .ok (.nx d)
noncomputable def iq:Nat:=1000
noncomputable def br(v:Ev):dj->ag->T Fl
 |.asg n e,f=>do let d<-bQ v e f;let l<-dw n d f;.ok (.nx l)|.set i e,f=>do let d<-bQ v e f;.ok (.nx (f.set i (Mt (.d d))))|.expr e,f=>do let _<-bQ v e f;.ok (.nx f)|.ret e,f=>do let d<-bQ v e f;.ok (.rt d)|.nil,f=>.ok (.nx f)|.cons s r,f=>do match<-br v s f with
  |.nx l=>br v r l|p=>.ok p
 |.iff c a b,f=>do let x<-cm v c f;if x then br v a f else br v b f|.b7 n it b,f=>do ei (dw n) (br v b) (<-ny v it f) f|.Hh c b,f=>nA (cm v c) (br v b) iq f|.aug i o e,f=>match o with
  |.Add=>do let a<-c9 (<-T.get (lh f i));let b<-c9 (<-bQ v e f);.ok (.nx (f.set i (Mt (.d (.int (a+b))))))|.Sub=>do let a<-c9 (<-T.get (lh f i));let b<-c9 (<-bQ v e f);.ok (.nx (f.set i (Mt (.d (.int (a-b))))))|_=>.stuck
 |.raise c r,f=>do
  let C<-T.get (v.cls c)T.need (gQ v C)let x<-qr v C (<-iW v r f);.exc ⟨x,f⟩|.Bd b c i y h,f=>do
  let P<-T.get (v.cls c)(br v b f).pL (mo v P i y h)|.bad,_=>.stuck|.lA i r,f=>do
  let g<-rT (<-iW v r f)T.need (decide (g.length<=MP));.ok (.nx (f.set i (Mt (.own (.lst g)))))|.Be i,f=>.ok (.nx (f.set i (Mt (.own (.bR [] [])))))|.Bf i,f=>.ok (.nx (f.set i (Mt (.own (.set [])))))|.tR i j,f=>do
  let d<-T.get (lh f j)T.need (nv [] d);.ok (.nx (f.set i (Mt (.own (.set [d])))))|.app i e,f=>do
  let g<-yk (<-T.get (kz f i))let d<-bQ v e f;T.need (decide (g.length<MP));.ok (.nx (f.set i (Mt (.own (.lst (g++[d]))))))|.add i e,f=>do
  let g<-Cb (<-T.get (kz f i))let d<-bQ v e f;T.need (decide (g.length<4)&&nv g d);.ok (.nx (f.set i (Mt (.own (.set (uV g d))))))|.put i k e,f=>do
  let d<-bQ v e f;let m<-Cc (<-T.get (kz f i))let q<-bQ v k f;T.need (decide (m.1.length<MP)&&gb m.1 q);.ok (.nx (f.set i (Mt (.own (.bR (putD m.1 m.2 q d).1 (putD m.1 m.2 q d).2)))))|.pop j i,f=>do
  let g<-yk (<-T.get (kz f i))let d<-T.get g[g.length-1]?;.ok (.nx ((f.set i (Mt (.own (.lst g.dropLast)))).set j (Mt (.d d))))|.fz i s,f=>br v s (vF i f)
structure Df where
 np:Nat
 nn:Nat
 body:dj
noncomputable def gc(n:Nat)(as:List A):ag:=as.map (λa=>Mt a.w)++OQ (n-as.length) MA
noncomputable def Jr:Fl->T D
 |.rt d=>.ok d|.nx _=>.ok .aJ|_=>.stuck
noncomputable def lEq:List Nat->List Nat->Bool
 |[],[]=>Mz|x::b,y::a=>OV x y&&lEq b a|_,_=>My
theorem ym:∀{a b:List Nat},lEq a b=Mz->a=b
 |[],[],_=>rfl|[],_::_,h=>nomatch h|_::_,[],h=>nomatch h|x::d,y::c,h=>by
  simp only[lEq,ML]at h;rw[Nr h.1,ym h.2]
theorem pM:∀(a:List Nat),lEq a a=Mz
 |[]=>rfl|x::b=>by simp only[lEq,ML];exact⟨V0 x,pM b⟩
noncomputable def sEq(x y:M3):Bool:=lEq x.cps.toList y.cps.toList
theorem aM{x y:M3}(h:sEq x y=Mz):x=y:=by
 obtain⟨⟨a⟩⟩:=x;obtain⟨⟨b⟩⟩:=y;have:=ym h;simp only at this;rw[this]
theorem pN(x:M3):sEq x x=Mz:=pM _
theorem yo{x y:M3}(h:sEq x y=My):x≠y:=λe=>by rw[e,pN]at h;cases h
theorem nB(x y:M3):sEq x y=(x==y):=by cases h:sEq x y with
 |true=>rw[aM h];simp|false=>exact(beq_eq_false_iff_ne.mpr (yo h)).symm
noncomputable def vG(x:M3):List (M3×Qa)->Option Qa
 |[]=>MA|(y,k)::r=>if sEq x y then Mt k else vG x r
theorem nE(x:M3):∀(l:List (M3×Qa)),vG x l=l.lookup x
 |[]=>rfl|(y,k)::r=>by
  simp only[vG,NC,nB,nE x r];cases x==y<;>rfl
structure MC where
 N:List M3
 sc:OJ
 all:Bool
structure cQ where
 dn:List M3
 gn:List M3
 cn:List M3
noncomputable def isAt(N:List M3)(i:Nat)(x:M3):Bool:=match N[i]? with
 |some y=>sEq y x|none=>My
theorem bW{N:List M3}{i:Nat}{x:M3}(h:isAt N i x=Mz):N[i]?=Mt x:=by
 unfold isAt at h;split at h;.rename_i y e;rw[e,aM h]
 .cases h
noncomputable def nF(x:M3):Bool:=!sEq x "__debug__"&&!sEq x "__classdict__"&&!sEq x "__name__"
theorem mq{x:M3}(h:nF x=Mz):(x==("__debug__":M3))=My/\(x==("__classdict__":M3))=My/\x≠"__name__":=by
 simp only[nF,ML,N1]at h;exact⟨by rw[<-nB];exact h.1.1,by rw[<-nB];exact h.1.2,yo h.2⟩
noncomputable def dI(m:MC)(i:Nat)(x:M3):Bool:=isAt m.N i x&&nF x&&match vG x m.sc.names with
 |some .local=>Mz|some .cell=>Mz|some .free=>Mz|_=>My
noncomputable def c_(m:MC)(i:Nat)(x:M3):Bool:=isAt m.N i x&&match vG x m.sc.names with
 |some .local=>Mz|some .cell=>m.all|_=>My
noncomputable def bf(m:MC)(x:M3):Bool:=nF x&&match vG x m.sc.names with
 |some .globalImplicit=>Mz|_=>My
noncomputable def aw:MV->Bool
 |.Starred _ _=>Mz|_=>My
theorem aA{e:MV}{es:List MV}{env:Sl}(h:aw e=My):MS (e::es) env=(My,N2 e env)::MS es env:=by cases e<;>first|rfl|(cases h)
theorem aX{env:Sl}{pos:Od}:∀{es:List MV},(es.all λe=>!aw e)=Mz->(Og pos (MS es env)).any (·.1)=My
 |[],_=>rfl|e::es,h=>by
  rw[Qy,ML,N1]at h;rw[aA h.1];show(My||(Og pos (MS es env)).any (·.1))=My;rw[aX h.2];rfl
noncomputable def gR:MV->Bool
 |.Call _ [] [] _=>Mz|_=>My
noncomputable def yq:MB->M3|.split=>"split"|.join=>"join"
noncomputable def aL:MV->Bool
 |.Set _ _ _=>Mz|_=>My
noncomputable def nG:MV->Bool
 |.Slice _ _ _ _=>Mz|_=>My
noncomputable def nH:MV->Bool
 |.UnaryOp .Not _ _=>My|.BoolOp _ _ _=>My|.IfExp _ _ _ _=>My|.Compare _ _ _ _=>My|_=>Mz
noncomputable def yr(outer sc:OJ):OJ:={sc with names:=sc.names.map λ(n,k)=>if(k==OA&&outer.kind==.function&&outer.names.lookup n==Mt .cell)then(n,Qx)else(n,k)}
noncomputable def az(m:MC)(own fr:List M3)(sc:OJ):MC:=⟨own++fr,yr m.sc sc,My⟩
noncomputable def av(m:MC)(js:List Nat):List M3:=js.map λj=>(m.N[j]?).getD ""
noncomputable def EE:List M3->Bool
 |[]=>Mz|x::r=>(r.all λy=>!sEq x y)&&EE r
noncomputable def rY:List Nat->Bool
 |[]=>Mz|x::r=>(r.all λy=>!Nat.beq x y)&&rY r
noncomputable def gU(m:MC)(own:List M3)(js:List Nat)(sc:OJ):Bool:=gA m.sc sc&&(js.all λj=>decide (j<m.N.length))&&((av m js).all λx=>vG x sc.names==Mt .free)&&rY js&&EE (own++av m js)
noncomputable def gd:BI->M3|.len=>"len"|.max2=>"max"|.min2=>"min"|.tuple=>"tuple"|.list=>"list"|.all=>"all"|.any=>"any"|.sorted=>"sorted"|.ye=>"set"|.yf=>"min"
noncomputable def cM:List M3:=["len","max","min","int","str","tuple","list","all","any","sorted","set","abs","sum","isinstance","bool","range","zip","enumerate","ValueError"]
structure XC(g:cQ)(v:Ev)(m:MC)(X:Cx)(F:Fx):Prop where
 hK:X.K=F.K
 hP:X.prog=F.P
 hw:X.w=F.w
 hN:X.N=m.N
 nd:m.N.Nodup
 sc:X.env.scope=m.sc
 calm:X.calm=Mz
 un:X.A.units+64<NV
 fn:m.all=Mz->∀x,X.fn x=Mz
 Hi:X.A.mark MA=X.A
 bl:∀x∈cM,X.mg x=MA
 df:∀f x,g.dn[f]?=Mt x->∃n k,bT k X.A/\kc X.prog X.w X.K X.mg X.base x n k (λas=>(v.call f as).au)/\∀as,as.length≠n->v.call f as=.stuck
 co:∀i x d,g.gn[i]?=Mt x->v.d_ i=Mt d->∃u w,X.mg x=Mt u/\RelV w u/\∀H,H F.p≠MA->X.K.lookup F.p=MA->Is F.toFb H w d
 xo:uL X F
 top:m.all=Mz->X.stack=X.env::X.outer/\X.env.frame=Mt X.env.locals
 cl:∀c x C,g.cn[c]?=Mt x->v.cls c=Mt C->X.mg x=Mt (.ref C)Bg:∀C,v.how C=1->ni X.K C=Mz
 zg:∀C,v.how C=2->AV X.K C/\B6 X.K C=Mz
 rm:bT v.room X.A
 sb:∀c P b,v.sub c P=Mt b->fZ X.K c P=Mt b
 uO:∀c u b,v.ins c u=Mt b->∀nm,d9 X.K (.exc c nm) u=Mt b
 code:m.all=Mz->∃q,Oy X.K X.env.code q=Mz
 ct:∀i x d,g.gn[i]?=Mt x->v.d_ i=Mt d->rR d=Mz->∃a o,X.mg x=Mt (.ref a)/\X.K.lookup a=Mt o/\o.cls=.type "tuple"/\o.dict=MA
section
variable{g:cQ}{v:Ev}{m:MC}{X:Cx}{F:Fx}
theorem XC.at_(h:XC g v m X F){i:Nat}{x:M3}(q:isAt m.N i x=Mz):X.N[i]?=Mt x:=by rw[h.hN];exact bW q
theorem XC.lk(h:XC g v m X F)(x:M3):vG x m.sc.names=X.env.scope.names.lookup x:=by rw[nE,h.sc]
theorem XC.sG(h:XC g v m X F){i:Nat}{x:M3}(q:dI m i x=Mz):X.N[i]?=Mt x/\n6 X.env.scope x/\(x==("__debug__":M3))=My/\(x==("__classdict__":M3))=My:=by
 simp only[dI,ML]at q;obtain⟨⟨c,b⟩,a⟩:=q;have p:=mq b;refine⟨h.at_ c,?_,p.1,p.2.1⟩;unfold n6;rw[<-h.lk];split at a;.rename_i e;exact .inl e
 .rename_i e;exact .inr (.inl e)
 .rename_i e;exact .inr (.inr e)
 .cases a
theorem XC.loc(h:XC g v m X F){i:Nat}{x:M3}(q:c_ m i x=Mz):X.N[i]?=Mt x/\Loc X.env.scope x/\(X.fn x=Mz\/X.env.scope.names.lookup x=Mt .local):=by
 simp only[c_,ML]at q;obtain⟨b,a⟩:=q;refine⟨h.at_ b,?_⟩;unfold Loc;rw[<-h.lk];split at a;.rename_i e;exact⟨.inl e,.inr e⟩
 .rename_i e;exact⟨.inr e,.inl (h.fn a x)⟩
 .cases a
theorem XC.gl(h:XC g v m X F){x:M3}(q:bf m x=Mz):Gl X x/\(x==("__debug__":M3))=My/\x≠"__name__":=by
 simp only[bf,ML]at q;obtain⟨b,a⟩:=q;have p:=mq b;refine⟨?_,p.1,p.2.2⟩;show X.env.scope.names.lookup x=_;rw[<-h.lk];split at a;.rename_i e;exact e
 .cases a
end
section
variable{X:Cx}{F:Fx}{e:MV}
noncomputable abbrev Fx.gV(F:Fx):Fx:={F with E:=λ_ _=>False}
theorem T.eW{d:Type}:∀(t:T d){k Q E},t.calm.au.run k Q E->t.au.run k Q (λ_ _=>False)
 |.ok a,_,_,_,h=>h|.exc x,_,_,_,h=>h.elim|.stuck,_,_,_,h=>h.elim|.draw n f,k,Q,E,h=>by
  have h:(T.gI n).run k (λi c=>(f i).calm.au.run c Q E) E:=h;show(T.gI n).run k (λi c=>(f i).au.run c Q _) _;obtain⟨l,j,g⟩:=h;exact⟨l,j,λc a b i p=>T.eW (f i) (g c a b i p)⟩
theorem eX{a:ag}{k:Nat}{σ:St}{H:Hp}:bp F a k σ H↔bp F.gV a k σ H:=⟨λh=>⟨h.len,h.at_,h.apart,h.live,h.ext,h.jn⟩,λh=>⟨h.len,h.at_,h.apart,h.live,h.ext,h.jn⟩⟩
theorem DE.calm{t:ag->T D}(h:DE X F.gV e λa=>(t a).au):DE X F e λa=>(t a).calm.au:=⟨h.hK,h.pe.imp λb H Q⟨a,k,S,z⟩=>⟨a,k,eX.mp S,T.eW _ z⟩⟩
theorem fC.calm{ifs:List MV}{t:ag->T Bool}(h:fC X F.gV ifs λa=>(t a).au):fC X F ifs λa=>(t a).calm.au:=⟨h.hK,λb s c H Q I⟨a,k,S,z⟩=>h.pi b s c H Q I ⟨a,k,eX.mp S,T.eW _ z⟩⟩
theorem DI.calm{tg:MV}{t:ag->T (List D)}(h:DI X F.gV tg e λa=>(t a).au):DI X F tg e λa=>(t a).calm.au:=⟨h.hK,h.pi.imp λb H R⟨a,k,S,z⟩=>⟨a,k,eX.mp S,T.eW _ z⟩⟩
end
theorem eY(d:D):Ref (eV d).au (eK d):=by cases d<;>first|exact .refl _|exact .fail
theorem ba(d:D):Ref (c9 d).au (d7 d):=by cases d<;>first|exact .refl _|exact .fail
theorem bz:∀(as:List A),(rT as).au=dB as
 |[]=>rfl|.d x::r=>by
  show(rT r>>=λa=>T.ok (x::a)).au=_;rw[T.ax,bz r];rfl|.feed::_=>rfl
theorem aq{a:Type}{b:Bool}{P:Prop}{t:T a}{m:M a}(h:b=Mz->P)(q:Ref t.au m):Ref (do T.need b;t:T a).au (do M.need P;m):=by
 rw[T.ax];exact(Ref.need h).bind λ_=>q
theorem ae{c d:Type}{t:T c}{m:M c}{f:c->T d}{h:c->M d}(a:Ref t.au m)(b:∀x,Ref (f x).au (h x)):Ref (t>>=f).au (m>>=h):=by
 rw[T.ax];exact a.bind b
theorem aC{a c:Type}{o:Option a}{f:a->T c}{h:a->M c}(b:∀x,Ref (f x).au (h x)):Ref (T.get o>>=f).au (M.get o>>=h):=ae .get b
section
variable{X:Cx}{F:Fx}
theorem u_{l:List D}(h:l.all pJ=Mz):∀x∈l,iL x:=λx f=>by
 have:=List.all_eq_true.mp h x f;cases x<;>first|cases this|skip
 rename_i c;cases c with
 |nil=>cases this|cons y b=>
  have a:∀{l:List D},l.all rq=Mz->∃ks:List Int,l=ks.map D.int:=by
   intro l;induction l with
   |nil=>exactλ_=>⟨[],rfl⟩|cons z l d=>
    intro h;rw[Qy,ML]at h;obtain⟨ks,rfl⟩:=d h.2;have:=h.1;cases z<;>first|exact⟨_::ks,rfl⟩|(cases this;done)
  obtain⟨ks,e⟩:=a (show(y::b).all rq=Mz from this);refine⟨ks,λz=>?_,by unfold tupI;rw[e]⟩;rw[z]at e;cases e
theorem Hj(hu:X.A.units+64<NV)(hP:X.prog=F.P)(hw:X.w=F.w)(o:Rj):eN X F (PC o) (λd e=>(LA o d e).au):=by
 have two:∀{b:Int->Int->Bool}{C:Int->Int->Prop}{f:Int->Int->D}(d e:D),(∀i j,b i j=Mz->C i j)->Ref (do let i<-c9 d;let j<-c9 e;T.need (b i j);T.ok (f i j):T D).au (mI C f d e):=λd e h=>ae (ba d) λi=>ae (ba e) λj=>aq (h i j) (.refl _);refine .ref λd e=>?_;cases o with
 |Add=>
  refine⟨GQ,Am,?_⟩;cases d<;>cases e<;>first|exact .refl _|exact .fail|exact aq of_decide_eq_true (.refl _)
 |Sub=>
  cases d<;>cases e<;>first|exact⟨D0,s_,.refl _⟩|exact⟨D0,s_,.fail⟩|skip
  refine⟨B8,A7 (by omega) hP hw,aq (λz=>?_) (.refl _)⟩;simp only[ML,decide_eq_true_eq]at z;exact⟨u_ z.1,dD z.2.1,z.2.2.1,z.2.2.2⟩|Mult=>
  refine⟨_,Dn,two d e λi j h=>?_⟩;simp only[rV,Qq,ML,decide_eq_true_eq]at h;exact h|FloorDiv=>
  refine⟨_,z0,two d e λi j h=>?_⟩;simp only[ML,decide_eq_true_eq]at h;exact h|Mod=>exact⟨_,Dp,two d e λi j h=>of_decide_eq_true h⟩|_=>exact⟨λ_ _=>M.fail,⟨λa s c H k x y v u d e Q I m g l hK n i2 q=>q.elim⟩,.fail⟩
theorem jy{l:List D}(h:l.all rq=Mz):∀x∈l,fV x:=λx a=>by
 have:=List.all_eq_true.mp h x a;cases x<;>first|exact⟨_,rfl⟩|cases this
theorem nI{x y:D}(d:c7 x)(c:c7 y):be x y=Mz↔x=y:=by
 obtain⟨a,rfl⟩:=d;obtain⟨b,rfl⟩:=c;show dZ (a.map kD) (b.map kD)=Mz↔_;rw[h_];constructor;.rintro rfl;rfl
 .intro h;injection h with h;exact cJ h
theorem Bh{x y:D}(d:fV x)(c:fV y):be x y=Mz↔x=y:=by
 obtain⟨a,rfl⟩:=d;obtain⟨b,rfl⟩:=c;simp[be,iN]
theorem pO{l:List D}{d:D}(h:∀x∈l,(be d x=Mz↔d=x)):l.any (be d)=Mz↔d∈l:=by
 rw[TZ];constructor
 .rintro⟨x,a,q⟩;rw[(h x a).mp q];exact a
 .intro q;exact⟨d,q,(h d q).mpr rfl⟩
theorem va{d:D}{l:List D}{b:Bool}(h:Bc d l=Mt b):(c7 d/\(∀x∈l,c7 x)\/fV d/\∀x∈l,fV x)/\(b=Mz↔d∈l):=by
 unfold Bc at h;split at h
 .rename_i i;cases h;simp only[Qq,ML]at i;rcases i with⟨g,f⟩|⟨g,f⟩
  .have c:=eT g;have a:=dD f;exact⟨.inl ⟨c,a⟩,pO λx e=>nI c (a x e)⟩
  .have c:fV d:=by cases d<;>first|exact⟨_,rfl⟩|cases g
   have a:=jy f;exact⟨.inr ⟨c,a⟩,pO λx e=>Bh c (a x e)⟩
 .cases h
theorem dJ{ks:List D}{d:D}(h:gb ks d=Mz):kinds ks d:=by
 simp only[gb,Qq,ML]at h;rcases h with⟨b,a⟩|⟨b,a⟩;.exact .inl ⟨tD b,jt a⟩
 .exact .inr ⟨dD b,eT a⟩
theorem mr{ks:List D}{d:D}(h:nv ks d=Mz):iR ks d:=by
 simp only[nv,Qq,ML]at h;rcases h with⟨b,a⟩|⟨b,a⟩;.exact .inl ⟨dD b,eT a⟩
 .exact .inr ⟨jy b,by cases d<;>first|exact⟨_,rfl⟩|cases a⟩
theorem nJ(hu:X.A.units+64<NV)(hP:X.prog=F.P)(hw:X.w=F.w)(o:PX):eN X F (NI o) (λd e=>(dH o d e).au):=by
 have z:X.A.units<NV:=by omega
 have a:X.A.units+1<NV:=by omega
 refine .ref λd e=>?_;cases o with
 |Eq=>exact⟨_,GK hu,aC λ_=>.refl _⟩|NotEq=>exact⟨_,GL hu,aC λ_=>.refl _⟩|Lt=>exact⟨_,DZ hu,aC λ_=>.refl _⟩|LtE=>exact⟨_,Gy,ae (ba d) λi=>ae (ba e) λj=>.refl _⟩|Gt=>exact⟨_,Gz,ae (ba d) λi=>ae (ba e) λj=>.refl _⟩|GtE=>exact⟨_,GA,ae (ba d) λi=>ae (ba e) λj=>.refl _⟩|Is=>exact⟨_,Dq,aq (λh=>h) (.refl _)⟩|IsNot=>exact⟨_,z9,aq (λh=>h) (.refl _)⟩|In=>
  by_cases f:∃l,e=.set l
  .obtain⟨l,rfl⟩:=f;exact⟨λ_ _=>M.fail,⟨λn s G H k x y v u d e Q I K J l hK N i2 q=>q.elim⟩,.fail⟩
  .by_cases hd:∃ks g,e=.bR ks g
   .obtain⟨ks,g,rfl⟩:=hd;exact⟨_,Ec a hP hw,aq dJ (.refl _)⟩
   refine⟨_,GN hu,?_⟩;have:dH .In d e=(do let m<-T.get (items e);let b<-T.get (wY d m);.ok (.bl b)):=by cases e<;>first|rfl|exact absurd ⟨_,rfl⟩ f|exact absurd ⟨_,_,rfl⟩ hd
   rw[this];exact aC λ_=>aC λ_=>.refl _|NotIn=>
  by_cases f:∃l,e=.set l
  .obtain⟨l,rfl⟩:=f;refine⟨_,uK a hP hw,λk Q E h=>?_⟩;have h:(T.get (Bc d l)>>=λc=>T.ok (.bl (!c)):T D).au.run k Q E:=h;rw[T.ax,T.fo]at h;obtain⟨c,C,q⟩:=M.run_get.mp h;obtain⟨t,L⟩:=va C;refine⟨t,?_⟩;rintro r⟨p,rfl,B⟩;have:p=!c:=by cases c<;>cases p<;>simp_all
   rw[this];exact q
  .by_cases hd:∃ks g,e=.bR ks g
   .obtain⟨ks,g,rfl⟩:=hd;exact⟨_,uP a hP hw,aq dJ (.refl _)⟩
   refine⟨_,wZ hu,?_⟩;have:dH .NotIn d e=(do let m<-T.get (items e);let b<-T.get (wY d m);.ok (.bl (!b))):=by cases e<;>first|rfl|exact absurd ⟨_,rfl⟩ f|exact absurd ⟨_,_,rfl⟩ hd
   rw[this];exact aC λ_=>aC λ_=>.refl _
theorem Hk(hu:X.A.units+64<NV)(hP:X.prog=F.P)(hw:X.w=F.w):Jg X F (λd e=>(yh d e).au):=by
 refine⟨λhK a b c s g H x y v u Q I m j h o=>?_⟩;obtain⟨k,d,e,l,n,i2,q⟩:=h;by_cases hd:∃ks f,d=.bR ks f
 .obtain⟨ks,f,rfl⟩:=hd;refine(AI (X:=X) (F:=F) (by omega) hP hw).ix hK a b c s g H x y v u Q I m j ⟨k,_,e,l,n,i2,?_⟩ o;have:Ref (yh (.bR ks f) e).au (G4 (.bR ks f) e):=aq dJ .get;exact this _ _ _ q
 .refine(Ac (X:=X) (F:=F)).ix hK a b c s g H x y v u Q I m j ⟨k,d,e,l,n,i2,?_⟩ o;have e0:yh d e=Hb d e:=by cases d<;>first|rfl|exact absurd ⟨_,_,rfl⟩ hd
  have:Ref (yh d e).au (Ls d e):=by
   rw[e0];exact ae (ba e) λi=>by cases d<;>first|exact .fail|exact .get|exact aq of_decide_eq_true .get
  exact this _ _ _ q
end
theorem insI_perm(n:Int):∀l:List Int,(insI n l).Perm (n::l)
 |[]=>.refl _|m::r=>by
  unfold insI;split;.exact .refl _
  .exact((insI_perm n r).cons m).trans (.swap _ _ _)
theorem sortI_perm:∀l:List Int,(sortI l).Perm l
 |[]=>.nil|n::r=>(insI_perm n (sortI r)).trans ((sortI_perm r).cons n)
theorem iX(n:Int):∀l:List Int,l.Pairwise (·<=·)->(insI n l).Pairwise (·<=·)
 |[],_=>by simp[insI]|m::r,h=>by
  rw[Rv]at h;unfold insI;split
  .rename_i b;refine List.pairwise_cons.mpr ⟨λx a=>?_,List.pairwise_cons.mpr h⟩;rcases List.mem_cons.mp a with rfl|a;.exact b
   .exact Int.le_trans b (h.1 x a)
  .rename_i b;refine List.pairwise_cons.mpr ⟨λx a=>?_,iX n r h.2⟩;rcases List.mem_cons.mp ((insI_perm n r).mem_iff.mp a)with rfl|a;.omega
   .exact h.1 x a
theorem gW:∀l:List Int,(sortI l).Pairwise (·<=·)
 |[]=>.nil|n::r=>iX n _ (gW r)
theorem eZ{c:Type}{R:c->c->Prop}(as:∀a b,R a b->R b a->a=b):∀{l l':List c},l.Perm l'->l.Pairwise R->l'.Pairwise R->l=l'
 |[],l',p,_,_=>(List.nil_perm.mp p).symm|a::l,[],p,_,_=>absurd (List.perm_nil.mp p) (by simp)|a::l,b::l',p,h,d=>by
  rw[Rv]at h d;have e:a=b:=by
   rcases List.mem_cons.mp (p.mem_iff.mp MG)with e|e;.exact e
   .rcases List.mem_cons.mp (p.symm.mem_iff.mp MG)with e2|e2;.exact e2.symm
    .exact as _ _ (h.1 b e2) (d.1 a e)
  subst e;rw[eZ as (List.Perm.cons_inv p) h.2 d.2]
theorem ir(n:List Int):∀l:List (List Int),(rW n l).Perm (n::l)
 |[]=>.refl _|m::r=>by
  unfold rW;split;.exact((ir n r).cons m).trans (.swap _ _ _)
  .exact .refl _
theorem kF:∀l:List (List Int),(iU l).Perm l
 |[]=>.nil|n::r=>(ir n (iU r)).trans ((kF r).cons n)
theorem iY(n:List Int):∀l:List (List Int),l.Pairwise Dc->(rW n l).Pairwise Dc
 |[],_=>by simp[rW]|m::r,h=>by
  rw[Rv]at h;unfold rW;split
  .rename_i c;refine List.pairwise_cons.mpr ⟨λx b=>?_,iY n r h.2⟩;rcases List.mem_cons.mp ((ir n r).mem_iff.mp b)with rfl|b;.exact SortM.jM _ _ c
   .exact h.1 x b
  .rename_i c;have a:Dc n m:=by simpa using c
   refine List.pairwise_cons.mpr ⟨λx b=>?_,List.pairwise_cons.mpr h⟩;rcases List.mem_cons.mp b with rfl|b;.exact a
   .exact SortM.mQ _ _ _ (h.1 x b) a
theorem gX:∀l:List (List Int),(iU l).Pairwise Dc
 |[]=>.nil|n::r=>iY n _ (gX r)
theorem ints_map{ds:List D}(h:∀x∈ds,fV x):ds=(ds.map intOf).map D.int:=by
 rw[N5];conv=>lhs;rw[<-List.map_id ds]
 exact OY λx a=>by obtain⟨i,rfl⟩:=h x a;rfl
theorem yt{ds:List D}(h:∀x∈ds,iL x):ds=(ds.map intsOf).map tupI:=by
 rw[N5];conv=>lhs;rw[<-List.map_id ds]
 refine OY λx a=>?_;obtain⟨k,_,rfl⟩:=h x a;simp only[id,Function.comp,tupI,intsOf,N5];congr 1
theorem yu{x:D}(h:pJ x=Mz):iL x:=by cases x with
 |tup b=>cases b with
  |nil=>cases h|cons y a=>
   have h:(y::a).all rq=Mz:=h;have:=ints_map (jy h);refine⟨(y::a).map intOf,by simp,?_⟩;unfold tupI;rw[<-this]
 |_=>cases h
theorem Bi{a b:List Int}(h:a.map D.int=b.map D.int):a=b:=oZ (by unfold tupI;rw[h])
theorem vc{d:D}{ds:List D}(e:eS d=Mt ds)(g:ds.length<3)(c:ds.all rq=Mz):Ref (T.ok (.lst ((sortI (ds.map intOf)).map D.int)):T D).au (xt d):=λk Q E h=>by
 show(M.get (eS d)>>=_).run k Q E;rw[e];have j:=jy c;refine⟨⟨g,j⟩,?_⟩;rintro r⟨ns,rfl,i,pw⟩;rw[ints_map j]at i;have:ns=sortI (ds.map intOf):=by
  have p:ns.Perm (ds.map intOf):=by
   obtain⟨s,n,m⟩:=aH i (f:=D.int) (l:=ds.map intOf) rfl;rw[Bi m];exact n
  exact eZ (λa b q o=>Int.le_antisymm q o) (p.trans (sortI_perm _).symm) pw (gW _)
 rw[this];exact h
theorem vd{d:D}{ds:List D}(e:eS d=Mt ds)(g:ds.length<3)(c:ds.all pJ=Mz):Ref (T.ok (.lst ((iU (ds.map intsOf)).map tupI)):T D).au (xv d):=λk Q E h=>by
 show(M.get (eS d)>>=_).run k Q E;rw[e];have j:∀x∈ds,iL x:=λx o=>yu (List.all_eq_true.mp c x o);refine⟨⟨g,j⟩,?_⟩;rintro r⟨ns,rfl,i,pw⟩;rw[yt j]at i;have:ns=iU (ds.map intsOf):=by
  have p:ns.Perm (ds.map intsOf):=by
   obtain⟨t,n,m⟩:=aH i (f:=tupI) (l:=ds.map intsOf) rfl;rw[hZ m];exact n
  exact eZ (λa b s q=>SortM.lU _ _ q s) (p.trans (kF _).symm) pw (gX _)
 rw[this];exact h
theorem pP{d:D->D->Bool}:∀{l:List D},(∀x∈l,∀y∈l,(d x y=Mz↔x=y))->(once d l).Nodup/\∀x,x∈once d l↔x∈l
 |[],_=>⟨.nil,λx=>.rfl⟩|x::r,h=>by
  obtain⟨i,f⟩:=pP (l:=r) λa k b j=>h a (MM _ k) b (MM _ j);have c:r.any (d x)=Mz↔x∈r:=by
   rw[TZ];constructor
   .rintro⟨y,g,q⟩;rw[(h x MG y (MM _ g)).mp q];exact g
   .intro q;exact⟨x,q,(h x MG x MG).mpr rfl⟩
  unfold once;split
  .rename_i e;refine⟨i,λy=>(f y).trans ⟨λz=>MM _ z,λz=>?_⟩⟩;rcases List.mem_cons.mp z with rfl|z;.exact c.mp e
   .exact z
  .rename_i e;refine⟨List.nodup_cons.mpr ⟨λz=>e (c.mpr ((f x).mp z)),i⟩,λy=>?_⟩;rw[Nl,Nl,f]
theorem Bj{B:Fb}{H:Hp}{v:V}{l l':List D}(h:Is B H v (.set l))(p:l.Perm l'):Is B H v (.set l'):=by
 simp only[Is]at h⊢;obtain⟨a,e,c,b,q⟩:=h;exact⟨a,e,c,b.trans p,q⟩
theorem Bk{B:Fb}{H:Hp}{k j:Nat}{Q:V->Hp->Prop}{l l':List D}(p:l.Perm l')(h:qE B H k Q (.set l') j):qE B H k Q (.set l) j:=λv a e i=>h v a e (Bj i p)
theorem run_set{B:Fb}{H:Hp}{k j:Nat}{Q:V->Hp->Prop}{E:Xc->Nat->Prop}{r:List D}(h:∀x∈r,∀y∈r,(be x y=Mz↔x=y))(q:qE B H k Q (.set (once be r)) j):(Ay r).run j (qE B H k Q) E:=by
 rintro d⟨l,rfl,e,c⟩;obtain⟨b,a⟩:=pP h;exact Bk ((SX e b).mpr λx=>(c x).trans (a x).symm) q
section
variable{X:Cx}{F:Fx}
theorem aY.Ky{f:Mv}{t:List D->M D}(h:∀ds,∃m,aY X F f m/\∀H k Q,(t ds).run k (qE F.toFb H k Q) F.E->(m ds).run k (qE F.toFb H k Q) F.E):aY X F f t:=⟨λa s b H k c d ds Q I e l hK i q=>by
 obtain⟨m,o,r⟩:=h ds;exact o.call a s b H k c d ds Q I e l hK i (r _ _ _ q)⟩
theorem aY.stuck{f:Mv}:aY X F f (λ_=>M.fail):=⟨λa s b H k c d g Q I e l hK i q=>q.elim⟩
theorem aY.one{f:Mv}{t:List D->T D}(e:t []=.stuck)(c:∀a b r,t (a::b::r)=.stuck)(h:∀d,∃m,aY X F f m/\Ref (t [d]).au (m [d])):aY X F f (λds=>(t ds).au):=.ref λds=>by match ds with
 |[]=>exact⟨_,.stuck,by rw[e];exact .fail⟩|[d]=>exact h d|a::b::r=>exact⟨_,.stuck,by rw[c];exact .fail⟩
noncomputable def yv:BI->Mv
 |.len=>.builtin "len"|.max2=>.builtin "max"|.min2=>.builtin "min"|.tuple=>.type "tuple"|.list=>.type "list"|.all=>.builtin "all"|.any=>.builtin "any"|.sorted=>.builtin "sorted"|.ye=>.type "set"|.yf=>.builtin "min"
theorem EF(f:BI):OB (gd f)=Mt (yv f):=by cases f<;>(simp only[gd,yv];decide+kernel)
theorem Hl(b:X.calm=Mz)(hu:X.A.units+64<NV)(hP:X.prog=F.P)(hw:X.w=F.w)(f:BI):aY X F (yv f) (λds=>(EC f ds).au):=by cases f with
 |len=>
  refine .one rfl (λ_ _ _=>rfl) λd=>?_;cases d with
  |tup _=>exact⟨_,qV,.refl _⟩|lst _=>exact⟨_,qV,.refl _⟩|str _=>exact⟨_,qV,aq of_decide_eq_true (.refl _)⟩|_=>exact⟨_,.stuck,.fail⟩
 |max2=>
  refine .ref λds=>?_;match ds with
  |[]=>exact⟨_,.stuck,.fail⟩|[d]=>exact⟨_,.stuck,.fail⟩|[d,e]=>exact⟨_,Em b hu,.get⟩|_::_::_::_=>exact⟨_,.stuck,.fail⟩
 |min2=>
  refine .ref λds=>?_;match ds with
  |[]=>exact⟨_,.stuck,.fail⟩|[d]=>exact⟨_,.stuck,.fail⟩|[d,e]=>exact⟨_,xP b hu,.get⟩|_::_::_::_=>exact⟨_,.stuck,.fail⟩
 |tuple=>exact .one rfl (λ_ _ _=>rfl) λd=>⟨_,wH,aC λ_=>.refl _⟩|list=>exact .one rfl (λ_ _ _=>rfl) λd=>⟨_,Ad,aC λ_=>.refl _⟩|all=>
  refine .one rfl (λ_ _ _=>rfl) λd=>⟨_,DD b,?_⟩;cases d<;>first|exact aC λ_=>.refl _|exact .fail
 |any=>
  refine .one rfl (λ_ _ _=>rfl) λd=>⟨_,DF b,?_⟩;cases d<;>first|exact aC λ_=>.refl _|exact .fail
 |sorted=>
  refine .one rfl (λ_ _ _=>rfl) λd=>?_;by_cases g:Hc d=Mz
  .refine⟨_,x4,?_⟩;have:EC .sorted [d]=.ok d:=by simp only[EC];rw[if_pos g]
   rw[this];cases d<;>first|cases g|skip
   exactλk Q E z=>⟨of_decide_eq_true g,z⟩
  have l:EC .sorted [d]=ef d:=by simp only[EC];rw[if_neg g]
  rw[l];cases e:eS d with
  |none=>
   refine⟨_,.stuck,?_⟩;have:ef d=.stuck:=by simp only[ef,e];rfl
   rw[this];exact .fail|some ds=>
   by_cases a:ds.length<3
   .by_cases i:ds.all rq=Mz
    .refine⟨_,xu b hP hw,?_⟩;have:ef d=.ok (.lst ((sortI (ds.map intOf)).map D.int)):=by
      simp only[ef,e];show(do T.need (decide (ds.length<3));if ds.all rq=Mz then _ else _:T D)=_;rw[decide_eq_true a,if_pos i];rfl
     rw[this];exact vc e a i
    .by_cases m:ds.all pJ=Mz
     .refine⟨_,xw b hP hw,?_⟩;have:ef d=.ok (.lst ((iU (ds.map intsOf)).map tupI)):=by
       simp only[ef,e];show(do T.need (decide (ds.length<3));if ds.all rq=Mz then _ else if ds.all pJ=Mz then _ else _:T D)=_;rw[decide_eq_true a,if_neg i,if_pos m];rfl
      rw[this];exact vd e a m
     .refine⟨_,.stuck,?_⟩;have:ef d=.stuck:=by
       simp only[ef,e];show(do T.need (decide (ds.length<3));if ds.all rq=Mz then _ else if ds.all pJ=Mz then _ else _:T D)=_;rw[decide_eq_true a,if_neg i,if_neg m];rfl
      rw[this];exact .fail
   .refine⟨_,.stuck,?_⟩;have:ef d=.stuck:=by
     simp only[ef,e];show(do T.need (decide (ds.length<3));_:T D)=_;rw[decide_eq_false a];rfl
    rw[this];exact .fail
 |ye=>
  refine .Ky λds=>?_;match ds with
  |[]=>exact⟨_,.stuck,λ_ _ _ z=>z.elim⟩|_::_::_=>exact⟨_,.stuck,λ_ _ _ z=>z.elim⟩|[d]=>cases d with
   |lst c=>
    refine⟨_,AA b (by omega) hP hw,λH k Q z=>?_⟩;have z:(do T.need (decide (c.length<=4)&&c.all f_);.ok (.set (once be c)):T D).au.run k (qE F.toFb H k Q) F.E:=z;rw[T.ax]at z;obtain⟨h,z⟩:=Ref.need (P:=(decide (c.length<=4)&&c.all f_)=Mz) (λh=>h) _ _ _ z;rw[ML,decide_eq_true_eq]at h;have j:=dD h.2;exact⟨⟨h.1,j⟩,run_set (λx o y n=>nI (j x o) (j y n)) z⟩|_=>exact⟨_,.stuck,λ_ _ _ z=>z.elim⟩
 |yf=>
  refine .one rfl (λ_ _ _=>rfl) λd=>⟨_,xP b hu,?_⟩;cases d<;>first|exact .get|exact .fail
end
theorem dS{o:MV}{n:M3}{env:Sl}{w:U5 Mv}(h:gR o=My):Pw o n env w=w:=by
 unfold Pw;split;.cases h
 .rfl
theorem iZ{a:Type}:∀{l:List (Bool×a)},l.any (·.1)=My->l.all (λx=>!x.1)=Mz
 |[],_=>rfl|x::l,h=>by
  rw[Rl,Bool.or_eq_false_iff]at h;rw[Qy,h.1,iZ h.2];rfl
theorem bN{e:MV}(h:aL e=My)(env:Sl)(x:Mv):Ny e env x=pure x:=by cases e<;>first|rfl|cases h
theorem kG{e:MV}(h:aL e=My)(o:PX):Qw o e=My:=by cases e<;>first|rfl|cases h
theorem nK{b c:MV}(h:aL c=My)(o o':PX):lastMarks [o,o'] [b,c]=My:=kG h o'
theorem rZ{b:MV}(h:nG b=My):mK b:=by intro o i;cases b<;>first|rfl|cases h
theorem r6{e:MV}(h:nH e=Mz)(env:Sl)(whole:U5 Mv):Sd e env whole=(do let v<-whole;PV e.pos;RN [v] (truthy v)):=by cases e with
 |UnaryOp o a p=>cases o<;>first|rfl|cases h
 |BoolOp _ _ _=>cases h|IfExp _ _ _ _=>cases h|Compare _ _ _ _=>cases h|_=>rfl
theorem dM:∀{l:List M3},EE l=Mz->l.Nodup
 |[],_=>.nil|x::r,h=>by
  simp only[EE,ML,O3,N1]at h;exact List.nodup_cons.mpr ⟨(λz=>by have:=h.1 x z;rw[pN]at this;exact nomatch this),dM h.2⟩
theorem mv:∀{l:List Nat},rY l=Mz->l.Nodup
 |[],_=>.nil|x::r,h=>by
  simp only[rY,ML,O3,N1]at h;exact List.nodup_cons.mpr ⟨(λz=>by have:=h.1 x z;rw[V0]at this;exact nomatch this),mv h.2⟩
section
variable{g:cQ}{v:Ev}{m:MC}{X:Cx}{F:Fx}
theorem XC.aV(h:XC g v m X F){own:List M3}{js:List Nat}{sc:OJ}(q:gU m own js sc=Mz)(pins:List (MD×NF))(cl:List (M3×MD))(C:MD)(fp:List MD)(s:Mx)(H:Hp):XC g v (az m own (av m js) sc) (aV X pins sc (own++av m js) cl C fp s H) F.gV where
 hK:=h.hK;hP:=h.hP;hw:=h.hw;hN:=rfl;nd:=by
  simp only[gU,ML]at q;exact dM q.2
 sc:=by
  show WE sc X.env=yr m.sc sc;unfold WE yr Wy;rw[h.sc]
 calm:=h.calm;un:=h.un;fn:=λz=>nomatch z;Hi:=h.Hi;bl:=h.bl;df:=h.df;co:=h.co;xo:=uL.never λ_ _ z=>z;top:=λz=>nomatch z;cl:=h.cl;Bg:=h.Bg;zg:=h.zg;rm:=h.rm;sb:=h.sb;uO:=h.uO;code:=λz=>nomatch z;ct:=h.ct
theorem kH(h:XC g v m X F){own:List M3}{js:List Nat}{sc:OJ}(q:gU m own js sc=Mz):gA X.env.scope sc=Mz/\js.map (λj=>X.N[j]?)=(av m js).map Mt/\(∀x∈av m js,sc.names.lookup x=Mt .free)/\js.Nodup:=by
 simp only[gU,ML,O3,decide_eq_true_eq]at q;obtain⟨⟨⟨⟨d,c⟩,b⟩,a⟩,i⟩:=q;refine⟨by rw[h.sc];exact d,?_,λx e=>?_,mv a⟩
 .unfold av;rw[N5];refine OY λj f=>?_;rw[h.hN];have:=c j f;simp[this]
 .have:=b x e;rw[<-nE];exact beq_iff_eq.mp this
inductive Ch(P:Prop)where|y(h:P)|n
noncomputable def Ch.b{P Q:Prop}:Ch P->(P->Ch Q)->Ch Q
 |.y h,f=>f h|.n,_=>.n
noncomputable def Ch.ok{P:Prop}:Ch P->Bool
 |.y _=>Mz|.n=>My
theorem Ch.of{P:Prop}:∀{c:Ch P},c.ok=Mz->P
 |.y h,_=>h|.n,q=>nomatch q
noncomputable def cb:(b:Bool)->Ch (b=Mz)
 |true=>.y rfl|false=>.n
noncomputable def cn:(b:Bool)->Ch (b=My)
 |false=>.y rfl|true=>.n
noncomputable def cd(p:Prop):[d:Decidable p]->Ch p
 |.isTrue h=>.y h|.isFalse _=>.n
noncomputable abbrev QG(g:cQ)(m:MC)(t:Tg)(e:MV):Prop:=∀v X F,XC g v m X F->DG X F e (λd a=>(dw t d a).au)
noncomputable abbrev Hm(g:cQ)(m:MC)(t:Tg)(es:List MV):Prop:=∀v X F,XC g v m X F->BW X F es (λd a=>(d5 t d a).au)
theorem tS{env:Sl}{e:MV}{es:List MV}(h:aw e=My):OP (e::es) env=(My,Ra e env)::OP es env:=by cases e<;>first|rfl|(cases h)
theorem as_none{env:Sl}:∀{es:List MV},(es.all λe=>!aw e)=Mz->(OP es env).length=es.length/\(OP es env).findIdx? (·.1)=MA
 |[],_=>⟨rfl,rfl⟩|e::es,z=>by
  rw[Qy,ML,N1]at z;rw[tS z.1];obtain⟨a,i2⟩:=as_none (env:=env) z.2;exact⟨by simp[a],by simp[List.findIdx?_cons,i2]⟩
end
section
variable{g:cQ}{m:MC}
theorem Kz{i:Nat}{x:M3}{p:Od}(q:c_ m i x=Mz):QG g m (.nm i) (.Name x p):=λv X F h=>by
 obtain⟨c,b,a⟩:=h.loc q;exact(Ae i (by rw[h.hN];exact h.nd) c b a h.hK).ref λd e=>.refl _
theorem KC{n k:Nat}{r:Tg}{es:List MV}{p:Od}(f:es.length=n)(c:(es.all λe=>!aw e)=Mz)(i:Hm g m r es):QG g m (.tup n r) (.Tuple es k p):=λv X F h=>by
 obtain⟨l,j⟩:=as_none (env:=X.env) c;refine(DL (n:=n) h.calm (i v X F h) (l.trans f) j).ref λd b=>?_;cases d with
 |tup a=>
  show Ref (if a.length=n then d5 r a b else .stuck:T ag).au (do M.need (a.length=n);(d5 r a b).au);by_cases e:a.length=n;.rw[if_pos e];exactλk Q E z=>⟨e,z⟩
  .rw[if_neg e];exact .fail|_=>exact .fail
theorem KD:Hm g m .nil []:=λv X F h=>(Af h.hK).ref λd a=>by cases d<;>first|exact .refl _|exact .fail
theorem KE{t r:Tg}{e:MV}{es:List MV}(a:aw e=My)(b:QG g m t e)(c:Hm g m r es):Hm g m (.cons t r) (e::es):=λv X F h=>(wL (b v X F h) (c v X F h) (by rw[tS a];rfl)).ref λd f=>by cases d with
 |nil=>exact .fail|cons d i=>exact ae (.refl _) λ_=>.refl _
variable(g m)
mutual
noncomputable def cG:(t:Tg)->(e:MV)->Ch (QG g m t e)
 |.nm i,e=>match e with
  |.Name x _=>(cb (c_ m i x)).b λq=>.y (Kz q)|_=>.n
 |.tup n r,e=>match e with
  |.Tuple a _ _=>(cd (a.length=n)).b λq=>(cb (a.all λe=>!aw e)).b λc=>(LC r a).b λh=>.y (KC q c h)|_=>.n
 |.nil,_=>.n|.cons _ _,_=>.n
noncomputable def LC:(t:Tg)->(es:List MV)->Ch (Hm g m t es)
 |.nil,es=>match es with
  |[]=>.y KD|_=>.n
 |.cons t r,es=>match es with
  |e::es=>(cn (aw e)).b λq=>(cG t e).b λh=>(LC r es).b λa=>.y (KE q h a)|[]=>.n
 |.nm _,_=>.n|.tup _ _,_=>.n
end
end
section
variable{g:D->ag->T ag}{tc:ag->T Bool}{te:ag->T D}
theorem kI:∀(ds:List D)(a:ag),Ref (iV g tc te ds a).au (lZ (λd a=>(g d a).au) (λa=>(tc a).au) (λa=>(te a).au) ds a)
 |[],a=>.refl _|d::ds,a=>ae (.refl _) λc=>ae (.refl _) λb=>by cases b with
  |true=>exact ae (.refl _) λx=>ae (kI ds c) λr=>.refl _|false=>exact kI ds c
theorem gY{f:ag->T (List D×ag)}{e:ag->M (List D×ag)}(h:∀a,Ref (f a).au (e a)):∀(ds:List D)(a:ag),Ref (pK g tc f ds a).au (gH (λd a=>(g d a).au) (λa=>(tc a).au) e ds a)
 |[],a=>.refl _|d::ds,a=>ae (.refl _) λc=>ae (.refl _) λb=>by cases b with
  |true=>exact ae (h c) λx=>ae (gY h ds x.2) λr=>.refl _|false=>exact gY h ds c
theorem EG{b:ag->T (List D)}:∀a,Ref (LB b g tc te a).au (Ax (λa=>(b a).au) (λd a=>(g d a).au) (λa=>(tc a).au) (λa=>(te a).au) a):=λa=>ae (.refl _) λc=>aq of_decide_eq_true (gY (λa=>ae (.refl _) λx=>.refl _) c a)
theorem iz{i:List D->ag->T (List D×ag)}{f:List D->ag->M (List D×ag)}(h:∀a c,Ref (i a c).au (f a c)):∀(ds a:List D)(c:ag),Ref (b6 g tc i a ds c).au (l7 (λd c=>(g d c).au) (λc=>(tc c).au) f a ds c)
 |[],a,c=>.refl _|d::ds,a,c=>ae (.refl _) λe=>ae (.refl _) λb=>by cases b with
  |true=>exact ae (h a e) λr=>iz h ds r.1 r.2|false=>exact iz h ds a e
theorem yw{ok:D->Bool}{a:D->Prop}(h:∀d,ok d=Mz->a d)(b:List D)(c:ag):Ref (mn ok te b c).au (tj a (λc=>(te c).au) b c):=ae (.refl _) λx=>aq (λz=>by rw[ML,decide_eq_true_eq]at z;exact⟨z.1,h x z.2⟩) (.refl _)
theorem kJ{ok:D->Bool}{e:List D->ag->T (List D×ag)}(h:∀a f k Q E,a.all ok=Mz->(e a f).au.run k Q E->(e a f).au.run k (λr k'=>r.1.all ok=Mz/\Q r k') E):∀(ds a:List D)(f:ag)(k:Nat)(Q:List D×ag->Nat->Prop)(E:Xc->Nat->Prop),a.all ok=Mz->(b6 g tc e a ds f).au.run k Q E->(b6 g tc e a ds f).au.run k (λr k'=>r.1.all ok=Mz/\Q r k') E
 |[],a,f,k,Q,E,j,z=>⟨j,z⟩|d::ds,a,f,k,Q,E,j,z=>by
  show((g d f)>>=λc=>tc c>>=λb=>if b=Mz then(e a c>>=λr=>b6 g tc e r.1 ds r.2)else b6 g tc e a ds c:T _).au.run _ _ _;have z:((g d f)>>=λc=>tc c>>=λb=>if b=Mz then(e a c>>=λr=>b6 g tc e r.1 ds r.2)else b6 g tc e a ds c:T _).au.run k Q E:=z;rw[T.ax]at z⊢;refine M.wk (m:=(g d f).au) z λc q l=>?_;dsimp only at l⊢;rw[T.ax]at l⊢;refine M.wk (m:=(tc c).au) l λb o i=>?_;dsimp only at i⊢;cases b with
  |true=>
   rw[if_pos rfl]at i⊢;rw[T.ax]at i⊢;refine M.wk (m:=(e a c).au) (h a c o _ E j i) λr p n=>?_;exact kJ h ds r.1 r.2 p Q E n.1 n.2|false=>exact kJ h ds a c o Q E j i
theorem Bl{ok:D->Bool}(a:List D)(b:ag)(k:Nat)(Q:List D×ag->Nat->Prop)(E:Xc->Nat->Prop)(f:a.all ok=Mz)(z:(mn ok te a b).au.run k Q E):(mn ok te a b).au.run k (λr k'=>r.1.all ok=Mz/\Q r k') E:=by
 unfold mn at z⊢;rw[T.ax]at z⊢;refine M.wk (m:=(te b).au) z λx h c=>?_;dsimp only at c⊢;by_cases d:(decide (a.length<4)&&ok x)=Mz
 .have e:(do T.need (decide (a.length<4)&&ok x);T.ok (a++[x],b):T (List D×ag))=T.ok (a++[x],b):=by rw[d];rfl
  rw[e]at c⊢;rw[ML]at d;exact⟨by rw[List.all_append,f];simp[d.2],c⟩
 .have e:(do T.need (decide (a.length<4)&&ok x);T.ok (a++[x],b):T (List D×ag))=T.stuck:=by rw[Bool.eq_false_iff.mpr d];rfl
  rw[e]at c;exact c.elim
end
theorem DE.KG{X:Cx}{F:Fx}{e:MV}{t:ag->T (List D×ag)}{m:ag->M (List D×ag)}(h:DE X F e λa=>do let r<-m a;Ay r.1)(c:∀a,Ref (t a).au (m a))(d:∀a k Q E,(t a).au.run k Q E->(t a).au.run k (λr k'=>(∀x∈r.1,∀y∈r.1,(be x y=Mz↔x=y))/\Q r k') E):DE X F e λa=>(do let r<-t a;.ok (.set (once be r.1)):T D).au:=⟨h.hK,h.pe.imp λf H Q⟨a,k,S,z⟩=>⟨a,k,S,by
  dsimp only at z;rw[T.ax]at z;refine c a _ _ _ (M.wk (d a k _ _ z) λr g b=>?_);exact run_set b.1 b.2⟩⟩
section
variable{g:cQ}{v:Ev}{m:MC}{X:Cx}{F:Fx}
theorem DO.ref{o:Option MV}{t m:ag->M (Option Int)}(h:DO X F o m)(r:∀a,Ref (t a) (m a)):DO X F o t:=⟨h.hK,h.po.imp λb H Q⟨a,k,S,z⟩=>⟨a,k,S,r a _ _ _ z⟩⟩
theorem vf{a:ag}{i:Nat}(h:rX a i=Mz):a[i]?=Mt (Mt .feed):=by
 unfold rX at h;split at h;.assumption
 .cases h
theorem yx(h:XC g v m X F){Ty:String}(d:D):Ref (yj v Ty d).au (do let b<-M.get (d9 X.K d (.type Ty));pure (.bl b)):=by
 by_cases a:∃c nm,d=.exc c nm
 .obtain⟨c,nm,rfl⟩:=a;intro k Q E z;have z:(T.get (v.ins c (.type Ty))>>=λb=>T.ok (.bl b):T D).au.run k Q E:=z;rw[T.ax,T.fo]at z;obtain⟨b,f,q⟩:=M.run_get.mp z;exact M.run_get.mpr ⟨b,h.uO c _ b f nm,q⟩
 .have e:yj v Ty d=Ca Ty d:=by cases d<;>first|rfl|exact absurd ⟨_,_,rfl⟩ a
  rw[e];intro k Q E z;have z:(T.get (DH d)>>=λt=>T.get (Oi [] (.type t) (.type Ty))>>=λb=>T.ok (.bl b):T D).au.run k Q E:=z;rw[T.ax,T.fo]at z;obtain⟨t,i,z⟩:=M.run_get.mp z;dsimp only at z;rw[T.ax,T.fo]at z;obtain⟨b,f,q⟩:=M.run_get.mp z;refine M.run_get.mpr ⟨b,?_,q⟩;have e2:d9 X.K d (.type Ty)=match DH d with
    |some t=>Oi X.K (.type t) (.type Ty)|none=>MA:=by cases d<;>first|rfl|exact absurd ⟨_,_,rfl⟩ a
  rw[e2,i];exact f
theorem vg(h:XC g v m X F){P:MD}(d:D):Ref (tQ v P d).au (do let b<-M.get (d9 X.K d (.ref P));pure (.bl b)):=by cases d with
 |exc c nm=>
  intro k Q E z;have z:(T.get (v.ins c (.ref P))>>=λb=>T.ok (.bl b):T D).au.run k Q E:=z;rw[T.ax,T.fo]at z;obtain⟨b,a,q⟩:=M.run_get.mp z;exact M.run_get.mpr ⟨b,h.uO c _ b a nm,q⟩|_=>exact .fail
theorem yy{x:M3}(h:cM.contains x=Mz):x∈cM:=List.contains_iff_mem.mp h
theorem EH(f:BI):gd f∈cM:=by cases f<;>exact yy rfl
theorem Bm(h:XC g v m X F){f:BI}{a:MV}{es:List MV}{p q:Od}{b:ag->M (List A)}(l:DA X F (a::es) b)(u:bf m (gd f)=Mz)(t:aw a=My)(i:(es.all λe=>!aw e)=Mz):DE X F (.Call (.Name (gd f) p) (a::es) [] q) (λs=>do(EC f (<-dB (<-b s))).au):=by
 obtain⟨r,o,n⟩:=h.gl u;have k:=EF f;have j:=h.bl _ (EH f);have hd:=Hl (X:=X) (F:=F) h.calm h.un h.hP h.hw f;have c:MS (a::es) X.env=(My,N2 a X.env)::MS es X.env:=aA t;have d:(Og q (MS es X.env)).any (·.1)=My:=aX i;cases f<;>first|exact wG hd j k l r n o c d|exact uB hd j k l r n o c d
end
section
variable{g:cQ}{v:Ev}
mutual
theorem pQ:∀(t:Tg)(d:D)(a:ag),(dw t d a).calm=dw t d a
 |.nm i,d,a=>rfl|.tup n r,d,a=>by
  unfold dw;split
  .split;.exact mw r _ a
   .rfl
  .rfl|.nil,d,a=>by unfold dw;rfl|.cons _ _,d,a=>by unfold dw;rfl
theorem mw:∀(t:Tg)(ds:List D)(b:ag),(d5 t ds b).calm=d5 t ds b
 |.nil,ds,b=>by
  unfold d5;split<;>rfl|.cons t r,ds,b=>by
  unfold d5;split
  .rename_i d c;show(T.bind (dw t d b) λa=>d5 r c a).calm=T.bind (dw t d b) λa=>d5 r c a;have h:=pQ t d b;cases e:dw t d b with
   |ok a=>exact mw r c a|exc x=>rw[e]at h;cases h|stuck=>rfl|draw n k=>
    exfalso;cases t<;>unfold dw at e;.cases e
    .cases e
    .cases e
    .split at e
     .split at e
      .rename_i rr _ f _;exact absurd e (e_ rr f b n k)
      .cases e
     .cases e
  .rfl|.nm _,ds,b=>by unfold d5;rfl|.tup _ _,ds,b=>by unfold d5;rfl
theorem e_:∀(t:Tg)(ds:List D)(a:ag)(n:Int)(k:Int->T ag),d5 t ds a≠.draw n k
 |.nil,ds,a,n,k=>by
  unfold d5;split<;>exactλz=>nomatch z|.cons t r,ds,a,n,k=>by
  unfold d5;split
  .rename_i d c;show(T.bind (dw t d a) λb=>d5 r c b)≠_;cases e:dw t d a with
   |ok b=>exact e_ r c b n k|exc x=>exactλz=>nomatch z|stuck=>exactλz=>nomatch z|draw h i=>
    exfalso;cases t<;>unfold dw at e;.cases e
    .cases e
    .cases e
    .split at e
     .split at e
      .rename_i rr _ f _;exact absurd e (e_ rr f a h i)
      .cases e
     .cases e
  .exactλz=>nomatch z|.nm _,ds,a,n,k=>by unfold d5;exactλz=>nomatch z|.tup _ _,ds,a,n,k=>by unfold d5;exactλz=>nomatch z
end
theorem DG.gV{X:Cx}{F:Fx}{tg:MV}{t:Tg}(h:DG X F.gV tg λd b=>(dw t d b).au):DG X F tg λd b=>(dw t d b).au:=⟨h.hK,h.pg.imp λw n H Q g=>by
  obtain⟨b,k,d,S,i,z⟩:=g;refine⟨b,k,d,eX.mp S,i,?_⟩;have l:(dw t d b).au.run k (λc j=>∀a f,Ext F.toFb H k f j->bp F c j a f->Q a f) (λ_ _=>False):=T.eW (dw t d b) (E:=F.E) (by rw[pQ];exact z);exact M.wk l λc j q a f e m=>q a f e (eX.mpr m)⟩
theorem kK{f:Type}{j:D->ag->T ag}{i:ag->T Bool}{k:f->ag->T (f×ag)}{g:f->ag->M (f×ag)}(h:∀a c,Ref (k a c).au (g a c)):∀(ds:List D)(a:f)(c:ag),Ref (ip j i k a ds c).au (iP (λd c=>(j d c).au) (λc=>(i c).au) g a ds c)
 |[],a,c=>.refl _|d::ds,a,c=>ae (.refl _) λe=>ae (.refl _) λb=>by cases b with
  |true=>exact ae (h a e) λr=>kK h ds r.1 r.2|false=>exact kK h ds a e
theorem Bo{c:Type}{f:ag->T (List D)}{h:D->ag->T ag}{e:ag->T Bool}{i:c->ag->T (c×ag)}{g:c->ag->M (c×ag)}(j:∀a b,Ref (i a b).au (g a b))(a:c)(b:ag):Ref (Hf f h e i a b).au (Ko (λb=>(f b).au) (λd b=>(h d b).au) (λb=>(e b).au) g a b):=ae (.refl _) λk=>kK j k a b
theorem pR{d c:ag->T D}(b:List D×List D)(a:ag):Ref (yi d c b a).au (tJ (λa=>(d a).au) (λa=>(c a).au) b a):=ae (.refl _) λx=>ae (.refl _) λy=>aq (λz=>by
  rw[ML]at z;exact⟨dJ z.1,of_decide_eq_true z.2⟩) (.refl _)
theorem pS(ds:List D):Ref (Hg ds).au (u5 ds):=by match ds with
 |[]=>exact .fail|[d]=>exact .refl _|_::_::_=>exact .fail
theorem Bp(h:XC g v m X F)(d:D):Ref (ED v d).au (rP X.K d):=by
 unfold ED rP;split
 .rename_i C d;by_cases hw:v.how C=2
  .rw[if_pos hw];exactλk Q E z=>⟨(h.zg C hw).2,z⟩
  .rw[if_neg hw];exact .fail
 .exact .fail
theorem Cd{v:Ev}{C:MD}(h:v.how C=1):gQ v C=Mz:=by unfold gQ;rw[decide_eq_true h];rfl
theorem Ce{v:Ev}{C:MD}(h:v.how C=2/\2<=v.room):gQ v C=Mz:=by unfold gQ;rw[decide_eq_true h.1,decide_eq_true h.2,Bool.and_self,VT]
theorem Cf{v:Ev}{C:MD}(c:v.how C≠1)(b:¬(v.how C=2/\2<=v.room)):gQ v C=My:=by
 unfold gQ;rw[decide_eq_false c,Bool.false_or,Bool.and_eq_false_iff];by_cases a:v.how C=2;.exact .inr (decide_eq_false λz=>b ⟨a,z⟩)
 .exact .inl (decide_eq_false a)
theorem yz(d:D)(ds:List D):Ref (FC .split d ds).au (xR d ds):=by
 cases d<;>first|exact .fail|skip
 match ds with
 |[]=>exact .fail|[.str y]=>exact aC λ_=>.refl _|[.aJ]=>exact .fail|[.bl _]=>exact .fail|[.int _]=>exact .fail|[.tup _]=>exact .fail|[.lst _]=>exact .fail|[.bR _ _]=>exact .fail|[.set _]=>exact .fail|[.exc _ _]=>exact .fail|[.fn _]=>exact .fail|x::_::_=>cases x<;>exact .fail
theorem Bq(d:D)(ds:List D):Ref (FC .join d ds).au (B5 d ds):=by
 cases d<;>first|exact .fail|skip
 match ds with
 |[]=>exact .fail|[.lst a]=>exact aC λ_=>aq (λz=>by
   rw[ML,N1]at z;exact⟨z.1,of_decide_eq_true z.2⟩) (.refl _)|[.aJ]=>exact .fail|[.bl _]=>exact .fail|[.int _]=>exact .fail|[.tup _]=>exact .fail|[.str _]=>exact .fail|[.bR _ _]=>exact .fail|[.set _]=>exact .fail|[.exc _ _]=>exact .fail|[.fn _]=>exact .fail|x::_::_=>cases x<;>exact .fail
theorem EI(ds:List D):Ref (Ku ds).au (do let r<-As xf ds;pure (.lst r)):=by match ds with
 |[]=>exact .fail|[_]=>exact .fail|[d,e]=>
  show Ref (Ku [d,e]).au (xf d e>>=λr=>pure (D.lst r));unfold xf;rw[M.bind_assoc];refine aC λb=>?_;rw[M.bind_assoc];exact aC λa=>.refl _|_::_::_::_=>exact .fail
theorem EJ(d:D)(ds:List D):Ref (He d ds).au (yb d ds):=by
 cases d<;>first|exact .fail|skip
 match ds with
 |[]=>exact .fail|[x]=>exact aq (λz=>by
   rw[ML]at z;exact⟨tD z.1,jt z.2⟩) (aC λ_=>.refl _)|_::_::_=>exact .fail
end
noncomputable abbrev QE(g:cQ)(m:MC)(ex:Ex)(e:MV):Prop:=∀v X F,XC g v m X F->DE X F e (λa=>(bQ v ex a).au)
noncomputable abbrev QU(g:cQ)(m:MC)(ex:Ex)(e:MV):Prop:=∀v X F,XC g v m X F->DU X F e (λa=>(bQ v ex a).au)
noncomputable abbrev QT(g:cQ)(m:MC)(ex:Ex)(e:MV):Prop:=∀v X F,XC g v m X F->DT X F e (λa=>(cm v ex a).au)
noncomputable abbrev QW(g:cQ)(m:MC)(ex:Ex)(e:MV):Prop:=∀v X F,XC g v m X F->vE X F e (λa=>(cm v ex a).au)
noncomputable abbrev QC(g:cQ)(m:MC)(ex:Ex)(es:List MV):Prop:=∀v X F,XC g v m X F->fC X F es (λa=>(cm v ex a).au)
noncomputable abbrev QA(g:cQ)(m:MC)(ex:Ex)(es:List MV):Prop:=∀v X F,XC g v m X F->DA X F es (λa=>(iW v ex a).au)
noncomputable abbrev QO(g:cQ)(m:MC)(ex:Ex)(o:Option MV):Prop:=∀v X F,XC g v m X F->DO X F o (λa=>(Kx v ex a).au)
noncomputable abbrev QI(g:cQ)(m:MC)(ex:Ex)(t e:MV):Prop:=∀v X F,XC g v m X F->DI X F t e (λa=>(ny v ex a).au)
noncomputable abbrev QK(d:D)(c:Const):Prop:=∀X F,X.K=F.K->∀k p,DE X F (.Constant c k p) (λ_=>pure d)
noncomputable def cK:(d:D)->(c:Const)->Ch (QK d c)
 |.int i,c=>match c with
  |.int j=>(cd (j=i)).b λq=>.y (by subst q;exactλX F h k p=>Dh h)|_=>.n
 |.bl a,c=>match c with
  |.bool b=>(cd (b=a)).b λq=>.y (by subst q;exactλX F h k p=>Gs h)|_=>.n
 |.aJ,c=>match c with
  |.none=>.y λX F h k p=>Di h|_=>.n
 |.str x,c=>match c with
  |.str y=>(cb (sEq x y)).b λq=>.y (by rw[aM q];exactλX F h k p=>Dj h)|_=>.n
 |_,_=>.n
section
variable{g:cQ}{m:MC}
theorem Hn{i:Nat}{x:M3}{p:Od}(q:dI m i x=Mz):QE g m (.var i) (.Name x p):=λv X F h=>by
 obtain⟨d,c,b,a⟩:=h.sG q;exact(wz i d c b a h.hK).ref λe=>.get
theorem Ho{i:Nat}{x:M3}{p:Od}(e:bf m x=Mz)(c:isAt g.gn i x=Mz):QE g m (.d_ i) (.Name x p):=λv X F h=>by
 obtain⟨l,k,n⟩:=h.gl e;cases a:v.d_ i with
 |none=>
  refine(DE.stuck h.hK).ref λb=>?_;show Ref (T.get (v.d_ i)).au _;rw[a];exact .refl _|some d=>
  obtain⟨u,w,f,r,j⟩:=h.co i x d (bW c) a;refine(yd l f r j k h.hK).ref λb=>?_;show Ref (T.get (v.d_ i)).au _;rw[a];exact .refl _
theorem KH{o o':Rj}{a b:Ex}{x y:MV}{p:Od}(q:o'=o)(d:QE g m a x)(c:QE g m b y):QE g m (.op o a b) (.BinOp x o' y p):=by
 subst q;exactλv X F h=>(Gx (Hj h.un h.hP h.hw o') (d v X F h) (c v X F h)).ref λe=>ae (.refl _) λ_=>ae (.refl _) λ_=>.refl _
theorem Hq{a:Ex}{x:MV}{p:Od}(b:QE g m a x):QE g m (.neg a) (.UnaryOp .USub x p):=λv X F h=>(D1 (b v X F h)).ref λc=>ae (.refl _) λd=>ae (ba d) λ_=>.refl _
theorem Hr{o o':PX}{a b:Ex}{x y:MV}{p:Od}(q:o'=o)(c:aL y=My)(e:QE g m a x)(d:QE g m b y):QE g m (.cmp o a b) (.Compare x [o'] [y] p):=by
 subst q;exactλv X F h=>(Dl (nJ h.un h.hP h.hw o') (e v X F h) (d v X F h) (kG c o')).ref λf=>ae (.refl _) λ_=>ae (.refl _) λ_=>.refl _
theorem Ht{o o' p1 d:PX}{a b c:Ex}{x y z:MV}{p:Od}(q:p1=o)(f:d=o')(e:aL z=My)(k:QE g m a x)(j:QE g m b y)(i:QE g m c z):QE g m (.Jo o o' a b c) (.Compare x [p1,d] [y,z] p):=by
 subst q f;refineλv X F h=>(wC (nJ h.un h.hP h.hw p1) (nJ h.un h.hP h.hw d) (k v X F h) (j v X F h) (i v X F h) (nK e p1 d)).ref λl=>ae (.refl _) λ_=>ae (.refl _) λ_=>ae (.refl _) λr=>ae (eY r) λb=>?_;cases b with
 |true=>exact ae (.refl _) λ_=>.refl _|false=>exact .refl _
theorem Hu{a b:Ex}{x y:MV}{r:List MV}{p:Od}(e:QE g m a x)(c:QE g m b (.BoolOp .And (y::r) p)):QE g m (.and a b) (.BoolOp .And (x::y::r) p):=λv X F h=>(Ds (e v X F h) (c v X F h)).ref λf=>ae (.refl _) λd=>ae (eY d) λb=>by cases b<;>exact .refl _
theorem KI{a b:Ex}{x y:MV}{r:List MV}{p:Od}(e:QE g m a x)(c:QE g m b (.BoolOp .Or (y::r) p)):QE g m (.or a b) (.BoolOp .Or (x::y::r) p):=λv X F h=>(GC (e v X F h) (c v X F h)).ref λf=>ae (.refl _) λd=>ae (eY d) λb=>by cases b<;>exact .refl _
theorem Hv{a:Ex}{o:BoolOp}{x:MV}{p:Od}(b:QE g m a x):QE g m (.one a) (.BoolOp o [x] p):=λv X F h=>(Dr (b v X F h)).ref λc=>.refl _
theorem Hw{a:Ex}{x:MV}{p:Od}(b:QE g m a x):QE g m (.not a) (.UnaryOp .Not x p):=λv X F h=>(Dt (b v X F h)).ref λc=>ae (.refl _) λd=>ae (eY d) λ_=>.refl _
theorem Hx{c a b:Ex}{z x y:MV}{p:Od}(d:QT g m c z)(f:QE g m a x)(e:QE g m b y):QE g m (.A_ c a b) (.IfExp z x y p):=λv X F h=>(GF (d v X F h) (f v X F h) (e v X F h)).ref λi=>ae (.refl _) λb=>by cases b<;>exact .refl _
theorem Hy{r:Ex}{es:List MV}{k:Nat}{p:Od}(a:QA g m r es):QE g m (.tup r) (.Tuple es k p):=λv X F h=>(Dy (a v X F h)).ref λb=>ae (.refl _) λas=>ae (.of_eq (bz as)) λc=>aq of_decide_eq_true (.refl _)
theorem Hz{r:Ex}{es:List MV}{p:Od}(a:QA g m r es):QE g m (.lst r) (.List es p):=λv X F h=>(Dz (a v X F h)).ref λb=>ae (.refl _) λas=>ae (.of_eq (bz as)) λc=>aq of_decide_eq_true (.refl _)
theorem HA{a b:Ex}{x y:MV}{p:Od}(q:nG y=My)(d:QE g m a x)(c:QE g m b y):QE g m (.idx a b) (.Subscript x y p):=λv X F h=>(GG (Hk h.un h.hP h.hw) (d v X F h) (c v X F h) (rZ q)).ref λe=>ae (.refl _) λ_=>ae (.refl _) λ_=>.refl _
theorem HB{a lo b:Ex}{x:MV}{l u:Option MV}{p c:Od}(i:QE g m a x)(e:QO g m lo l)(f:QO g m b u):QE g m (.cut a lo b) (.Subscript x (.Slice l u MA c) p):=λv X F h=>(w9 (i v X F h) (e v X F h) (f v X F h)).ref λj=>ae (.refl _) λd=>ae (.refl _) λ_=>ae (.refl _) λ_=>by cases d<;>first|exact .refl _|exact .fail
theorem KJ{f:BI}{r:Ex}{x:M3}{a:MV}{es:List MV}{p j:Od}(i:sEq x (gd f)=Mz)(d:bf m x=Mz)(c:(es.all λe=>!aw e)=Mz)(b:aw a=My)(k:QA g m r (a::es)):QE g m (.bi f r) (.Call (.Name x p) (a::es) [] j):=λv X F h=>by
 obtain rfl:=aM i;exact(Bm h (k v X F h) d b c).ref λl=>ae (.refl _) λas=>ae (.of_eq (bz as)) λn=>.refl _
theorem EK{f:Nat}{r:Ex}{x:M3}{a:MV}{es:List MV}{p o:Od}(l:isAt g.dn f x=Mz)(j:bf m x=Mz)(i:(es.all λe=>!aw e)=Mz)(d:aw a=My)(q:QA g m r (a::es)):QE g m (.call f r) (.Call (.Name x p) (a::es) [] o):=λv X F h=>by
 obtain⟨n,k,b,hd,s⟩:=h.df f x (bW l);obtain⟨u,t,y⟩:=h.gl j;refine(AD hd b h.xo (q v X F h) u h.hP h.hw t (aA d) (aX i)).ref λw=>ae (.refl _) λas=>?_;by_cases c:as.length=n
 .rw[T.D_];exactλk Q E z=>⟨c,z⟩
 .rw[s as c];exact .fail
theorem HC{Ty:String}{a:Ex}{x t:M3}{y:MV}{p o n:Od}(s:OB t=Mt (.type Ty))(l:sEq x "isinstance"=Mz)(k:cM.contains t=Mz)(j:bf m x=Mz)(i:bf m t=Mz)(f:aw y=My)(q:QE g m a y):QE g m (.B_ Ty a) (.Call (.Name x p) [y,.Name t n] [] o):=λv X F h=>by
 obtain rfl:=aM l;obtain⟨r,z,w⟩:=h.gl j;obtain⟨e,c,b⟩:=h.gl i;refine(xZ (p1:=p) (q v X F h) (h.bl _ (yy rfl)) (h.bl _ (yy k)) s r e b c (aA f)).ref λu=>ae (.refl _) λd=>?_;exact yx h d
theorem HD{c:Nat}{a:Ex}{x t:M3}{y:MV}{p r q:Od}(o:sEq x "isinstance"=Mz)(n:isAt g.cn c t=Mz)(l:bf m x=Mz)(k:bf m t=Mz)(j:aw y=My)(s:QE g m a y):QE g m (.pI c a) (.Call (.Name x p) [y,.Name t q] [] r):=λv X F h=>by
 obtain rfl:=aM o;obtain⟨u,A,z⟩:=h.gl l;obtain⟨i,f,w⟩:=h.gl k;cases e:v.cls c with
 |none=>
  refine(DE.stuck h.hK).ref λb=>?_;show Ref (T.get (v.cls c)>>=λP=>bQ v a b>>=λd=>tQ v P d).au _;rw[e];exact .fail|some P=>
  refine(xY (x:=p) (p1:=p) (s v X F h) (h.bl _ (yy rfl)) (h.cl c t P (bW n) e) u i f (aA j)).ref λb=>?_;show Ref (T.get (v.cls c)>>=λP=>bQ v a b>>=λd=>tQ v P d).au _;rw[e];exact ae (.refl _) λd=>vg h d
theorem HE{e:MV}:QE g m .bad e:=λv X F h=>DE.stuck h.hK
theorem HF{i:Nat}{a:Ex}{e:MV}(b:QE g m a e):QE g m (.pd i a) e:=λv X F h=>((b v X F h).pd i).ref λc=>ae (.refl _) λd=>aq (λz=>z) (.refl _)
theorem KL{c:Nat}{r:Ex}{x:M3}{a:MV}{es:List MV}{p t:Od}(l:isAt g.cn c x=Mz)(s:bf m x=Mz)(k:(es.all λe=>!aw e)=Mz)(j:aw a=My)(n:QA g m r (a::es)):QE g m (.mk c r) (.Call (.Name x p) (a::es) [] t):=λv X F h=>by
 obtain⟨q,o,w⟩:=h.gl s;cases i:v.cls c with
 |none=>
  refine(DE.stuck h.hK).ref λb=>?_;show Ref (T.get (v.cls c)>>=λC=>T.need (gQ v C)>>=λ_=>iW v r b>>=λas=>qr v C as).au _;rw[i];exact .fail|some C=>
  have ev:∀b,bQ v (.mk c r) b=(T.need (gQ v C)>>=λ_=>iW v r b>>=λas=>qr v C as):=λb=>by
   show(T.get (v.cls c)>>=λC=>T.need (gQ v C)>>=λ_=>iW v r b>>=λas=>qr v C as)=_;rw[i];rfl
  by_cases hw:v.how C=1
  .refine(Er (np:=p) (n v X F h) q (h.cl c x C (bW l) i) (h.Bg C hw) o (aA j) (aX k)).ref λb=>?_;rw[ev,Cd hw];show Ref (iW v r b>>=λas=>qr v C as).au _;refine ae (.refl _) λas=>?_;unfold qr;rw[if_pos hw];exact aq of_decide_eq_true (.refl _)
  .by_cases f:v.how C=2/\2<=v.room
   .refine(Ep (np:=p) (n v X F h) (h.zg C f.1).1 (h.rm.mono f.2) q (h.cl c x C (bW l) i) o (aA j) (aX k)).ref λb=>?_;rw[ev,Ce f,M.bind_assoc];show Ref (iW v r b>>=λas=>qr v C as).au _;refine ae (.refl _) λas=>?_;unfold qr;rw[if_neg hw,if_pos f];rw[T.ax,M.bind_assoc];exact(Ref.of_eq (bz as)).bind λu=>by
     rw[T.ax];exact(pS u).bind λd=>.refl _
   .refine(DE.stuck h.hK).ref λb=>?_;rw[ev,Cf hw f];exact .fail
theorem HG{a:Ex}{o:MV}{f:M3}{p:Od}(c:sEq f "name"=Mz)(b:gR o=My)(e:QE g m a o):QE g m (.fld a) (.Attribute o f p):=λv X F h=>by
 obtain rfl:=aM c;exact(A1 (e v X F h) (dS b)).ref λi=>ae (.refl _) λd=>Bp h d
theorem Cg{a:MV}{es:List MV}{c:Od}{env:Sl}(d:aw a=My)(q:(es.all λe=>!aw e)=Mz)(l:es.length<20):((Og c (MS (a::es) env)).all (λx=>!x.1)&&(UP c (R7 [] env)).all (λx=>x.1.isSome)&&decide ((a::es).length+([]:List Q7).length+(if([]:List Q7).isEmpty then 0 else 1)<30))=Mz:=by
 have b:(Og c (MS (a::es) env)).any (·.1)=My:=by
  rw[aA d];show(My||(Og c (MS es env)).any (·.1))=My;rw[aX q];rfl
 rw[iZ b];have:(a::es).length+([]:List Q7).length+(if([]:List Q7).isEmpty then 0 else 1)<30:=by
  show es.length+1+0+0<30;omega
 rw[decide_eq_true this];rfl
theorem EL{f:MB}{o r:Ex}{x a:MV}{n:M3}{es:List MV}{t s:Od}(w:sEq n (yq f)=Mz)(l:(t.endLine==s.line)=Mz)(k:gR x=My)(c:(es.all λe=>!aw e)=Mz)(j:es.length<20)(b:aw a=My)(q:QE g m o x)(p:QA g m r (a::es)):QE g m (.rS f o r) (.Call (.Attribute x n t) (a::es) [] s):=λv X F h=>by
 obtain rfl:=aM w;cases f with
 |split=>exact(tN xS Us Qn PySem.F.type_str_split (q v X F h) (p v X F h) (dS k) l (Cg b c j) (aA b) (aX c)).ref λu=>ae (.refl _) λd=>aq (λz=>z) (ae (.refl _) λas=>ae (.of_eq (bz as)) λi=>yz d i)|join=>exact(tN AS Us UJ PySem.F.type_str_join (q v X F h) (p v X F h) (dS k) l (Cg b c j) (aA b) (aX c)).ref λu=>ae (.refl _) λd=>aq (λz=>z) (ae (.refl _) λas=>ae (.of_eq (bz as)) λi=>Bq d i)
theorem EM{r:Ex}{l z:M3}{a b:MV}{p0 p pos pos0:Od}(j:sEq l "list"=Mz)(i:sEq z "zip"=Mz)(f:bf m l=Mz)(e:bf m z=Mz)(d:aw b=My)(c:aw a=My)(k:QA g m r [a,b]):QE g m (.yg r) (.Call (.Name l p0) [.Call (.Name z p) [a,b] [] pos] [] pos0):=λv X F h=>by
 obtain rfl:=aM j;obtain rfl:=aM i;exact(A5 (p:=p) (pos:=pos) (p0:=p0) (pos0:=pos0) h.calm (h.bl _ (yy rfl)) (h.bl _ (yy rfl)) (k v X F h) (h.gl f).1 (h.gl e).1 (aA c) (aX (by simp[d]))).ref λo=>ae (.refl _) λas=>ae (.of_eq (bz as)) λn=>EI n
theorem HH{i:Nat}{r:Ex}{y n:M3}{a:MV}{np B j:Od}(I:sEq n "index"=Mz)(G:(B.endLine==j.line)=Mz)(s:isAt g.gn i y=Mz)(E:bf m y=Mz)(D:aw a=My)(J:QA g m r [a]):QE g m (.Jq i r) (.Call (.Attribute (.Name y np) n B) [a] [] j):=λv X F h=>by
 obtain rfl:=aM I;have t:MS [a] X.env=(My,N2 a X.env)::MS [] X.env:=aA D;obtain⟨R,Q,V⟩:=h.gl E;cases e:v.d_ i with
 |none=>
  refine(DE.stuck h.hK).ref λq=>?_;show Ref (T.get (v.d_ i)>>=_).au _;rw[e];exact .fail|some d=>
  obtain⟨u,w,z,k,N⟩:=h.co i y d (bW s) e;cases f:rR d with
  |false=>
   refine(DE.stuck h.hK).ref λq=>?_;show Ref (T.get (v.d_ i)>>=_).au _;rw[e];show Ref (T.need (rR d)>>=_).au _;rw[f];exact .fail|true=>
   obtain⟨b,o,A,lk,O,M⟩:=h.ct i y d (bW s) e f;rw[z]at A;cases A;have l:∀H,H F.p≠MA->X.K.lookup F.p=MA->Is F.toFb H (.ref b) d:=λH P L=>by
    have:=N H P L;cases d<;>first|cases f|skip
    simp only[Is]at this⊢;obtain⟨U,C,rfl,r⟩:=this;cases(show MW b=MW U from k);exact⟨_,C,rfl,r⟩
   have c:((Og j (MS [a] X.env)).all (λx=>!x.1)&&(UP j (R7 [] X.env)).all (λx=>x.1.isSome)&&decide ([a].length+([]:List Q7).length+(if([]:List Q7).isEmpty then 0 else 1)<30))=Mz:=by rw[t];rfl
   refine(EA R z Q l lk O M (J v X F h) (dS (by rfl)) G c t rfl).ref λq=>?_;show Ref (T.get (v.d_ i)>>=_).au _;rw[e];show Ref (T.need (rR d)>>=_).au _;rw[f];exact ae (.refl _) λas=>ae (.of_eq (bz as)) λS=>EJ d S
variable{own:List M3}{js:List Nat}{sc:OJ}{tg tg2:Tg}{it c it2 c2 elt ke ve:Ex}{t i t2 i2 x y:MV}{ifs ifs2:List MV}{p:Od}
theorem KN(d:gU m own js sc=Mz)(e:aL i=My)(f:QI g m it t i)(j:QG g (az m own (av m js) sc) tg t)(l:QC g (az m own (av m js) sc) c ifs)(k:QE g (az m own (av m js) sc) elt x):QU g m (.lc own js tg it c elt) (.ListComp x [⟨t,i,ifs,0⟩] sc p):=λv X F h=>by
 obtain⟨q,o,b3,b4⟩:=kH h d;exact(xI own (av m js) js h.calm q o b3 b4 (f v X F h) (λa cl C b s H=>(j _ _ _ (h.aV d a cl C b s H)).gV) (λa cl C b s H=>(l _ _ _ (h.aV d a cl C b s H)).calm) (λa cl C b s H=>(k _ _ _ (h.aV d a cl C b s H)).calm) (bN e _)).ref λu=>ae (.refl _) λn=>ae (kI n _) λr=>.refl _
theorem HI(d:gU m own js sc=Mz)(n:aL i=My)(e:aL i2=My)(o:QI g m it t i)(q:QG g (az m own (av m js) sc) tg t)(w:QC g (az m own (av m js) sc) c ifs)(f:QI g (az m own (av m js) sc) it2 t2 i2)(j:QG g (az m own (av m js) sc) tg2 t2)(k:QC g (az m own (av m js) sc) c2 ifs2)(u:QE g (az m own (av m js) sc) elt x):QU g m (.FA own js tg it c tg2 it2 c2 elt) (.ListComp x [⟨t,i,ifs,0⟩,⟨t2,i2,ifs2,0⟩] sc p):=λv X F h=>by
 obtain⟨B,A,b3,b4⟩:=kH h d;exact(uQ own (av m js) js h.calm B A b3 b4 h.Hi (o v X F h) (λa cl C b s H=>(q _ _ _ (h.aV d a cl C b s H)).gV) (λa cl C b s H=>(w _ _ _ (h.aV d a cl C b s H)).calm) (λa cl C b s H=>(f _ _ _ (h.aV d a cl C b s H)).calm) (λa cl C b s H=>(j _ _ _ (h.aV d a cl C b s H)).gV) (λa cl C b s H=>(k _ _ _ (h.aV d a cl C b s H)).calm) (λa cl C b s H=>(u _ _ _ (h.aV d a cl C b s H)).calm) (bN n _) (bN e)).ref λl=>ae (.refl _) λz=>aq of_decide_eq_true (ae (gY (λl=>EG l) z _) λr=>.refl _)
theorem KO(d:gU m own js sc=Mz)(j:aL i=My)(n:QI g m it t i)(o:QG g (az m own (av m js) sc) tg t)(q:QC g (az m own (av m js) sc) c ifs)(l:QE g (az m own (av m js) sc) ke x)(k:QE g (az m own (av m js) sc) ve y):QU g m (.dc own js tg it c ke ve) (.DictComp x y [⟨t,i,ifs,0⟩] sc p):=λv X F h=>by
 obtain⟨z,w,b3,b4⟩:=kH h d;have hu:X.A.units<NV:=by have:=h.un;omega
 exact(xM own (av m js) js h.calm hu z w b3 b4 (n v X F h) (λa cl C b s H=>(o _ _ _ (h.aV d a cl C b s H)).gV) (λa cl C b s H=>(q _ _ _ (h.aV d a cl C b s H)).calm) (λa cl C b s H=>(l _ _ _ (h.aV d a cl C b s H)).calm) (λa cl C b s H=>(k _ _ _ (h.aV d a cl C b s H)).calm) (bN j _) h.hP h.hw).ref λf=>ae (.refl _) λu=>ae (kK (λe f=>pR e f) u _ _) λr=>.refl _
theorem HJ(d:gU m own js sc=Mz)(o:aL i=My)(j:aL i2=My)(w:QI g m it t i)(z:QG g (az m own (av m js) sc) tg t)(B:QC g (az m own (av m js) sc) c ifs)(k:QI g (az m own (av m js) sc) it2 t2 i2)(l:QG g (az m own (av m js) sc) tg2 t2)(n:QC g (az m own (av m js) sc) c2 ifs2)(u:QE g (az m own (av m js) sc) ke x)(q:QE g (az m own (av m js) sc) ve y):QU g m (.EB own js tg it c tg2 it2 c2 ke ve) (.DictComp x y [⟨t,i,ifs,0⟩,⟨t2,i2,ifs2,0⟩] sc p):=λv X F h=>by
 obtain⟨G,E,b3,b4⟩:=kH h d;have hu:X.A.units<NV:=by have:=h.un;omega
 exact(uR own (av m js) js h.calm hu G E b3 b4 h.Hi (w v X F h) (λa cl C b s H=>(z _ _ _ (h.aV d a cl C b s H)).gV) (λa cl C b s H=>(B _ _ _ (h.aV d a cl C b s H)).calm) (λa cl C b s H=>(k _ _ _ (h.aV d a cl C b s H)).calm) (λa cl C b s H=>(l _ _ _ (h.aV d a cl C b s H)).gV) (λa cl C b s H=>(n _ _ _ (h.aV d a cl C b s H)).calm) (λa cl C b s H=>(u _ _ _ (h.aV d a cl C b s H)).calm) (λa cl C b s H=>(q _ _ _ (h.aV d a cl C b s H)).calm) (bN o _) (bN j) h.hP h.hw).ref λf=>ae (.refl _) λD=>ae (kK (λe f=>Bo (λe f=>pR e f) e f) D _ _) λr=>.refl _
theorem KP(o:gU m own js sc=Mz)(A:aL i=My)(G:QI g m it t i)(I:QG g (az m own (av m js) sc) tg t)(K:QC g (az m own (av m js) sc) c ifs)(J:QE g (az m own (av m js) sc) elt x):QE g m (.Jp own js tg it c elt) (.SetComp x [⟨t,i,ifs,0⟩] sc p):=λv X F h=>by
 obtain⟨P,O,b3,b4⟩:=kH h o;have hu:=h.un;have d:=uI (pos:=p) own (av m js) js h.calm (by omega) P O b3 b4 (G v X F h) (λf cl C n s H=>(I _ _ _ (h.aV o f cl C n s H)).gV) (λf cl C n s H=>(K _ _ _ (h.aV o f cl C n s H)).calm) (λf cl C n s H=>(J _ _ _ (h.aV o f cl C n s H)).calm) (bN A _) h.hP h.hw;refine(DE.KG (t:=λe=>do let j<-ny v it e;b6 (dw tg) (λe=>(cm v c e).calm) (mn f_ (λe=>(bQ v elt e).calm)) [] j (fQ e own.length js)) (d.ref λe=>.of_eq (M.bind_assoc _ _ _)) (λe=>ae (.refl _) λj=>iz (λl e=>yw (λd=>eT) l e) j [] _) λe k Q E z=>?_).ref λe=>?_
 .rw[T.ax]at z⊢;refine M.wk (m:=(ny v it e).au) z λj B w=>?_;refine M.wk (kJ (ok:=f_) (λl e k Q E h z=>Bl l e k Q E h z) j [] _ B Q E rfl w) λr R q=>⟨λa N b L=>?_,q.2⟩;have u:=dD q.1;exact nI (u a N) (u b L)
 .refine .of_eq ?_;show(ny v it e>>=λj=>b6 _ _ _ [] j _>>=λr=>T.ok (D.set (once be r.1))).au=((ny v it e>>=λj=>b6 _ _ _ [] j _)>>=λr=>T.ok (D.set (once be r.1))).au;simp only[T.ax,M.bind_assoc]
theorem yA{a b:Ex}{x y:MV}{r:List MV}{p:Od}(e:QT g m a x)(d:QW g m b (.BoolOp .And (y::r) p)):QW g m (.kE a b) (.BoolOp .And (x::y::r) p):=λv X F h=>(Dv (e v X F h) (d v X F h)).ref λf=>ae (.refl _) λb=>by cases b<;>exact .refl _
theorem Ci{a b:Ex}{x y:MV}{r:List MV}{p:Od}(e:QT g m a x)(d:QW g m b (.BoolOp .Or (y::r) p)):QW g m (.pG a b) (.BoolOp .Or (x::y::r) p):=λv X F h=>(GD (e v X F h) (d v X F h)).ref λf=>ae (.refl _) λb=>by cases b<;>exact .refl _
theorem yB{a:Ex}{o:BoolOp}{x:MV}{p:Od}(b:QT g m a x):QW g m (.bP a) (.BoolOp o [x] p):=λv X F h=>by cases o with
 |And=>exact z_ (b v X F h)|Or=>exact Du (b v X F h)
theorem EN{ex:Ex}{e:MV}(h:QW g m ex e):QT g m ex e:=λv X F z=>(h v X F z).dt
theorem EO{a:Ex}{x:MV}{p:Od}(b:QT g m a x):QT g m (.cy a) (.UnaryOp .Not x p):=λv X F h=>(Dw (b v X F h)).ref λd=>ae (.refl _) λ_=>.refl _
theorem HK{a:Ex}{e:MV}(q:nH e=Mz)(b:QE g m a e):QT g m (.gP a) e:=λv X F h=>(Ek (b v X F h) λw=>r6 q X.env w).ref λf=>ae (.refl _) λd=>.get
theorem ER{o o':PX}{a b:Ex}{x y:MV}{p:Od}(q:o'=o)(e:aL y=My)(j:QE g m a x)(f:QE g m b y):QT g m (.aK o a b) (.Compare x [o'] [y] p):=by
 subst q;exactλv X F h=>(Dm (nJ h.un h.hP h.hw o') (j v X F h) (f v X F h) (kG e o')).ref λk=>by
  rw[M.bind_assoc];refine ae (.refl _) λ_=>?_;rw[M.bind_assoc];exact ae (.refl _) λ_=>ae (.refl _) λd=>eY d
theorem ES{i:Nat}{a:Ex}{e:MV}(b:QT g m a e):QT g m (.pd i a) e:=λv X F h=>((b v X F h).pd i).ref λd=>.refl _
theorem ET{e:MV}:QT g m .bad e:=λv X F h=>DT.stuck h.hK
theorem EU{e:MV}:QW g m .bad e:=λv X F h=>⟨h.hK,λw a s b H Q I⟨d,k,S,z⟩=>z.elim⟩
theorem HL:QC g m .yes []:=λv X F h=>(wU h.hK).ref λa=>.refl _
theorem HM{a:Ex}{e:MV}(b:QT g m a e):QC g m (.bP a) [e]:=λv X F h=>wV (b v X F h)
theorem KQ:QA g m .nil []:=λv X F h=>(Dx h.hK).ref λa=>.refl _
theorem KR{a r:Ex}{e:MV}{es:List MV}(q:aw e=My)(d:QE g m a e)(b:QA g m r es):QA g m (.cons a r) (e::es):=λv X F h=>(Aa (d v X F h) (b v X F h) (aA q)).ref λf=>ae (.refl _) λ_=>ae (.refl _) λ_=>.refl _
theorem KS{i:Nat}{r:Ex}{x:M3}{p:Od}{es:List MV}(q:dI m i x=Mz)(a:QA g m r es):QA g m (.feed i r) (.Name x p::es):=λv X F h=>by
 obtain⟨f,e,d,b⟩:=h.sG q;exact(Ab i (a v X F h) f e d b rfl).ref λj=>aq vf (ae (.refl _) λ_=>.refl _)
theorem KU:QO g m .nil MA:=λv X F h=>(Ak h.hK).ref λa=>.refl _
theorem KW{a:Ex}{e:MV}(b:QE g m a e):QO g m (.one a) (Mt e):=λv X F h=>(Al (b v X F h)).ref λf=>ae (.refl _) λd=>ae (ba d) λ_=>.refl _
theorem HN{r:Ex}{x:M3}{t a:MV}{p k:Od}(f:sEq x "range"=Mz)(e:bf m x=Mz)(b:aw a=My)(l:QA g m r [a]):QI g m (.pH r) t (.Call (.Name x p) [a] [] k):=λv X F h=>by
 obtain rfl:=aM f;refine(uE (h.bl _ (yy rfl)) (l v X F h) (h.gl e).1 (aA b)).ref λo=>ae (.refl _) λas=>ae (.of_eq (bz as)) λn=>?_;match n with
 |[]=>exact .fail|[d]=>exact ae (ba d) λj=>aq (λz=>by simp only[ML,decide_eq_true_eq]at z;exact z) (.refl _)|_::_::_=>exact .fail
theorem HP{r:Ex}{x:M3}{a b:MV}{j:List MV}{k:Nat}{p s q:Od}(o:sEq x "zip"=Mz)(n:bf m x=Mz)(l:aw a=My)(f:aw b=My)(u:QA g m r [a,b]):QI g m (.Ba r) (.Tuple j k q) (.Call (.Name x p) [a,b] [] s):=λv X F h=>by
 obtain rfl:=aM o;refine(D5 (h.bl _ (yy rfl)) (u v X F h) (h.gl n).1 (aA l) (aX (by simp[f]))).ref λz=>ae (.refl _) λas=>ae (.of_eq (bz as)) λw=>?_;match w with
 |[]=>exact .fail|[d]=>exact .fail|[d,e]=>exact aC λ_=>aC λ_=>.refl _|_::_::_::_=>exact .fail
theorem HQ{r:Ex}{x:M3}{a:MV}{b:List MV}{k:Nat}{p n l:Od}(j:sEq x "enumerate"=Mz)(f:bf m x=Mz)(e:aw a=My)(o:QA g m r [a]):QI g m (.Bb r) (.Tuple b k l) (.Call (.Name x p) [a] [] n):=λv X F h=>by
 obtain rfl:=aM j;refine(Aw (h.bl _ (yy rfl)) (o v X F h) (h.gl f).1 (aA e)).ref λs=>ae (.refl _) λas=>ae (.of_eq (bz as)) λq=>?_;match q with
 |[]=>exact .fail|[d]=>cases d<;>first|exact .refl _|exact .fail
 |d::_::_=>cases d<;>exact .fail
theorem HR{a:Ex}{t e:MV}(b:QE g m a e):QI g m (.aO a) t e:=λv X F h=>(AR (b v X F h)).ref λf=>ae (.refl _) λd=>.get
theorem EV{t e:MV}:QI g m .bad t e:=λv X F h=>DI.stuck h.hK
end
noncomputable def LD{g:cQ}{m:MC}{own:List M3}{js:List Nat}{tg:Tg}{it c a:Ex}{gs:List Qz}{x:MV}{sc:OJ}{p:Od}(h:∀t i,Ch (QI g m it t i))(k:∀l,Ch (QC g (az m own (av m js) sc) c l))(j:Ch (QE g (az m own (av m js) sc) a x)):Ch (QU g m (.lc own js tg it c a) (.ListComp x gs sc p)):=match gs with
 |[⟨t,i,d,0⟩]=>(cb (gU m own js sc)).b λf=>(cn (aL i)).b λe=>(h t i).b λs=>(cG g (az m own (av m js) sc) tg t).b λr=>(k d).b λq=>j.b λo=>.y (KN f e s r q o)|_=>.n
noncomputable def HS{g:cQ}{m:MC}{own:List M3}{js:List Nat}{tg tg2:Tg}{it c a c2 e:Ex}{gs:List Qz}{x:MV}{sc:OJ}{p:Od}(s:∀t i,Ch (QI g m it t i))(v:∀l,Ch (QC g (az m own (av m js) sc) c l))(h:∀t i,Ch (QI g (az m own (av m js) sc) a t i))(j:∀l,Ch (QC g (az m own (av m js) sc) c2 l))(u:Ch (QE g (az m own (av m js) sc) e x)):Ch (QU g m (.FA own js tg it c tg2 a c2 e) (.ListComp x gs sc p)):=match gs with
 |[⟨t,i,f,0⟩,⟨k,i2,d,0⟩]=>(cb (gU m own js sc)).b λr=>(cn (aL i)).b λq=>(cn (aL i2)).b λo=>(s t i).b λE=>(cG g (az m own (av m js) sc) tg t).b λD=>(v f).b λC=>(h k i2).b λB=>(cG g (az m own (av m js) sc) tg2 k).b λA=>(j d).b λz=>u.b λw=>.y (HI r q o E D C B A z w)|_=>.n
noncomputable def LF{g:cQ}{m:MC}{own:List M3}{js:List Nat}{tg:Tg}{it c e d:Ex}{gs:List Qz}{x y:MV}{sc:OJ}{p:Od}(o:∀t i,Ch (QI g m it t i))(q:∀l,Ch (QC g (az m own (av m js) sc) c l))(k:Ch (QE g (az m own (av m js) sc) e x))(j:Ch (QE g (az m own (av m js) sc) d y)):Ch (QU g m (.dc own js tg it c e d) (.DictComp x y gs sc p)):=match gs with
 |[⟨t,i,a,0⟩]=>(cb (gU m own js sc)).b λh=>(cn (aL i)).b λf=>(o t i).b λw=>(cG g (az m own (av m js) sc) tg t).b λv=>(q a).b λu=>k.b λs=>j.b λr=>.y (KO h f w v u s r)|_=>.n
noncomputable def HU{g:cQ}{m:MC}{own:List M3}{js:List Nat}{tg tg2:Tg}{it c a c2 o j:Ex}{gs:List Qz}{x y:MV}{sc:OJ}{p:Od}(w:∀t i,Ch (QI g m it t i))(z:∀l,Ch (QC g (az m own (av m js) sc) c l))(f:∀t i,Ch (QI g (az m own (av m js) sc) a t i))(h:∀l,Ch (QC g (az m own (av m js) sc) c2 l))(v:Ch (QE g (az m own (av m js) sc) o x))(u:Ch (QE g (az m own (av m js) sc) j y)):Ch (QU g m (.EB own js tg it c tg2 a c2 o j) (.DictComp x y gs sc p)):=match gs with
 |[⟨t,i,e,0⟩,⟨k,i2,d,0⟩]=>(cb (gU m own js sc)).b λs=>(cn (aL i)).b λr=>(cn (aL i2)).b λq=>(w t i).b λH=>(cG g (az m own (av m js) sc) tg t).b λG=>(z e).b λF=>(f k i2).b λE=>(cG g (az m own (av m js) sc) tg2 k).b λD=>(h d).b λC=>v.b λB=>u.b λA=>.y (HJ s r q H G F E D C B A)|_=>.n
noncomputable def Ch.ue{g:cQ}{m:MC}{ex:Ex}{e:MV}(c:Ch (QU g m ex e)):Ch (QE g m ex e):=c.b λh=>.y λv X F z=>(h v X F z).de
mutual
noncomputable def cE(g:cQ):(m:MC)->(ex:Ex)->(e:MV)->Ch (QE g m ex e)
 |m,.var i,e=>match e with
  |.Name x _=>(cb (dI m i x)).b λq=>.y (Hn q)|_=>.n
 |m,.cst d,e=>match e with
  |.Constant c _ _=>(cK d c).b λh=>.y λv X F z=>(h X F z.hK _ _).ref λV=>.refl _|_=>.n
 |m,.d_ i,e=>match e with
  |.Name x _=>(cb (bf m x)).b λq=>(cb (isAt g.gn i x)).b λs=>.y (Ho q s)|_=>.n
 |m,.op o a b,e=>match e with
  |.BinOp x I y _=>(cd (I=o)).b λq=>(cE g m a x).b λh=>(cE g m b y).b λw=>.y (KH q h w)|_=>.n
 |m,.neg a,e=>match e with
  |.UnaryOp .USub x _=>(cE g m a x).b λh=>.y (Hq h)|_=>.n
 |m,.cmp o a b,e=>match e with
  |.Compare x [I] [y] _=>(cd (I=o)).b λq=>(cn (aL y)).b λj=>(cE g m a x).b λh=>(cE g m b y).b λw=>.y (Hr q j h w)|_=>.n
 |m,.Jo o I a b c,e=>match e with
  |.Compare x [p,S] [y,z] _=>(cd (p=o)).b λq=>(cd (S=I)).b λR=>(cn (aL z)).b λj=>(cE g m a x).b λh=>(cE g m b y).b λw=>(cE g m c z).b λJ=>.y (Ht q R j h w J)|_=>.n
 |m,.and a b,e=>match e with
  |.BoolOp .And (x::y::r) p=>(cE g m a x).b λh=>(cE g m b (.BoolOp .And (y::r) p)).b λw=>.y (Hu h w)|_=>.n
 |m,.or a b,e=>match e with
  |.BoolOp .Or (x::y::r) p=>(cE g m a x).b λh=>(cE g m b (.BoolOp .Or (y::r) p)).b λw=>.y (KI h w)|_=>.n
 |m,.one a,e=>match e with
  |.BoolOp _ [x] _=>(cE g m a x).b λh=>.y (Hv h)|_=>.n
 |m,.not a,e=>match e with
  |.UnaryOp .Not x _=>(cE g m a x).b λh=>.y (Hw h)|_=>.n
 |m,.A_ c a b,e=>match e with
  |.IfExp z x y _=>(cT g m c z).b λh=>(cE g m a x).b λN=>(cE g m b y).b λw=>.y (Hx h N w)|_=>.n
 |m,.tup r,e=>match e with
  |.Tuple A _ _=>(cA g m r A).b λh=>.y (Hy h)|_=>.n
 |m,.lst r,e=>match e with
  |.List A _=>(cA g m r A).b λh=>.y (Hz h)|_=>.n
 |m,.idx a b,e=>match e with
  |.Subscript x y _=>(cn (nG y)).b λq=>(cE g m a x).b λh=>(cE g m b y).b λw=>.y (HA q h w)|_=>.n
 |m,.cut a lo T,e=>match e with
  |.Subscript x (.Slice l u MA _) _=>(cE g m a x).b λh=>(cO g m lo l).b λw=>(cO g m T u).b λJ=>.y (HB h w J)|_=>.n
 |m,.bi f r,e=>match e with
  |.Call (.Name x _) (a::A) [] _=>(cb (sEq x (gd f))).b λj=>(cb (bf m x)).b λs=>(cb (A.all λe=>!aw e)).b λC=>(cn (aw a)).b λB=>(cA g m r (a::A)).b λh=>.y (KJ j s C B h)|_=>.n
 |m,.call f r,e=>match e with
  |.Call (.Name x _) (a::A) [] _=>(cb (isAt g.dn f x)).b λj=>(cb (bf m x)).b λs=>(cb (A.all λe=>!aw e)).b λC=>(cn (aw a)).b λB=>(cA g m r (a::A)).b λh=>.y (EK j s C B h)|_=>.n
 |m,.mk c r,e=>match e with
  |.Call (.Name x _) (a::A) [] _=>(cb (isAt g.cn c x)).b λj=>(cb (bf m x)).b λs=>(cb (A.all λe=>!aw e)).b λC=>(cn (aw a)).b λB=>(cA g m r (a::A)).b λh=>.y (KL j s C B h)|_=>.n
 |m,.B_ Ty a,e=>match e with
  |.Call (.Name x _) [y,.Name t _] [] _=>(cd (OB t=Mt (.type Ty))).b λQ=>(cb (sEq x "isinstance")).b λj=>(cb (cM.contains t)).b λs=>(cb (bf m x)).b λC=>(cb (bf m t)).b λB=>(cn (aw y)).b λE=>(cE g m a y).b λh=>.y (HC Q j s C B E h)|_=>.n
 |m,.pI c a,e=>match e with
  |.Call (.Name x _) [y,.Name t _] [] _=>(cb (sEq x "isinstance")).b λj=>(cb (isAt g.cn c t)).b λs=>(cb (bf m x)).b λC=>(cb (bf m t)).b λB=>(cn (aw y)).b λE=>(cE g m a y).b λh=>.y (HD j s C B E h)|_=>.n
 |m,.lc own k tg it c D,e=>match e with
  |.ListComp x gs sc p=>(LD (tg:=tg) (gs:=gs) (p:=p) (λt i=>cI g m it t i) (λl=>cC g (az m own (av m k) sc) c l) (cE g (az m own (av m k) sc) D x)).ue|_=>.n
 |m,.FA own k tg it c tg2 G c2 D,e=>match e with
  |.ListComp x gs sc p=>(HS (tg:=tg) (tg2:=tg2) (gs:=gs) (p:=p) (λt i=>cI g m it t i) (λl=>cC g (az m own (av m k) sc) c l) (λt i=>cI g (az m own (av m k) sc) G t i) (λl=>cC g (az m own (av m k) sc) c2 l) (cE g (az m own (av m k) sc) D x)).ue|_=>.n
 |m,.Jp own k tg it c D,e=>match e with
  |.SetComp x [⟨t,i,M,0⟩] sc _=>(cb (gU m own k sc)).b λj=>(cn (aL i)).b λs=>(cI g m it t i).b λN=>(cG g (az m own (av m k) sc) tg t).b λw=>(cC g (az m own (av m k) sc) c M).b λJ=>(cE g (az m own (av m k) sc) D x).b λU=>.y (KP j s N w J U)|_=>.n
 |m,.dc own k tg it c L K,e=>match e with
  |.DictComp x y gs sc p=>(LF (tg:=tg) (gs:=gs) (p:=p) (λt i=>cI g m it t i) (λl=>cC g (az m own (av m k) sc) c l) (cE g (az m own (av m k) sc) L x) (cE g (az m own (av m k) sc) K y)).ue|_=>.n
 |m,.EB own k tg it c tg2 G c2 L K,e=>match e with
  |.DictComp x y gs sc p=>(HU (tg:=tg) (tg2:=tg2) (gs:=gs) (p:=p) (λt i=>cI g m it t i) (λl=>cC g (az m own (av m k) sc) c l) (λt i=>cI g (az m own (av m k) sc) G t i) (λl=>cC g (az m own (av m k) sc) c2 l) (cE g (az m own (av m k) sc) L x) (cE g (az m own (av m k) sc) K y)).ue|_=>.n
 |_,.bad,_=>.y HE|m,.pd i a,e=>(cE g m a e).b λh=>.y (HF h)|m,.fld a,e=>match e with
  |.Attribute o f _=>(cb (sEq f "name")).b λj=>(cn (gR o)).b λs=>(cE g m a o).b λh=>.y (HG j s h)|_=>.n
 |m,.yg r,e=>match e with
  |.Call (.Name l _) [.Call (.Name z _) [a,b] [] _] [] _=>(cb (sEq l "list")).b λj=>(cb (sEq z "zip")).b λs=>(cb (bf m l)).b λC=>(cb (bf m z)).b λB=>(cn (aw b)).b λE=>(cn (aw a)).b λH=>(cA g m r [a,b]).b λh=>.y (EM j s C B E H h)|_=>.n
 |m,.Jq i r,e=>match e with
  |.Call (.Attribute (.Name y _) n P) [a] [] O=>(cb (sEq n "index")).b λj=>(cb (P.endLine==O.line)).b λs=>(cb (isAt g.gn i y)).b λC=>(cb (bf m y)).b λB=>(cn (aw a)).b λH=>(cA g m r [a]).b λh=>.y (HH j s C B H h)|_=>.n
 |m,.rS f o r,e=>match e with
  |.Call (.Attribute x n P) (a::A) [] O=>(cb (sEq n (yq f))).b λj=>(cb (P.endLine==O.line)).b λs=>(cn (gR x)).b λC=>(cb (A.all λe=>!aw e)).b λB=>(cd (A.length<20)).b λE=>(cn (aw a)).b λH=>(cE g m o x).b λh=>(cA g m r (a::A)).b λw=>.y (EL j s C B E H h w)|_=>.n
 |_,_,_=>.n
noncomputable def cW(g:cQ):(m:MC)->(ex:Ex)->(e:MV)->Ch (QW g m ex e)
 |m,.kE a b,e=>match e with
  |.BoolOp .And (x::y::r) p=>(cT g m a x).b λh=>(cW g m b (.BoolOp .And (y::r) p)).b λc=>.y (yA h c)|_=>.n
 |m,.pG a b,e=>match e with
  |.BoolOp .Or (x::y::r) p=>(cT g m a x).b λh=>(cW g m b (.BoolOp .Or (y::r) p)).b λc=>.y (Ci h c)|_=>.n
 |m,.bP a,e=>match e with
  |.BoolOp _ [x] _=>(cT g m a x).b λh=>.y (yB h)|_=>.n
 |_,.bad,_=>.y EU|_,_,_=>.n
noncomputable def cT(g:cQ):(m:MC)->(ex:Ex)->(e:MV)->Ch (QT g m ex e)
 |m,.kE a b,e=>match e with
  |.BoolOp .And (x::y::r) p=>(cT g m a x).b λh=>(cW g m b (.BoolOp .And (y::r) p)).b λc=>.y (EN (yA h c))|_=>.n
 |m,.pG a b,e=>match e with
  |.BoolOp .Or (x::y::r) p=>(cT g m a x).b λh=>(cW g m b (.BoolOp .Or (y::r) p)).b λc=>.y (EN (Ci h c))|_=>.n
 |m,.bP a,e=>match e with
  |.BoolOp _ [x] _=>(cT g m a x).b λh=>.y (EN (yB h))|_=>.n
 |m,.cy a,e=>match e with
  |.UnaryOp .Not x _=>(cT g m a x).b λh=>.y (EO h)|_=>.n
 |m,.gP a,e=>(cb (nH e)).b λq=>(cE g m a e).b λh=>.y (HK q h)|m,.aK o a b,e=>match e with
  |.Compare x [f] [y] _=>(cd (f=o)).b λq=>(cn (aL y)).b λd=>(cE g m a x).b λh=>(cE g m b y).b λc=>.y (ER q d h c)|_=>.n
 |m,.pd i a,e=>(cT g m a e).b λh=>.y (ES h)|_,.bad,_=>.y ET|_,_,_=>.n
noncomputable def cC(g:cQ):(m:MC)->(ex:Ex)->(es:List MV)->Ch (QC g m ex es)
 |_,.yes,es=>match es with
  |[]=>.y HL|_=>.n
 |m,.bP a,es=>match es with
  |[e]=>(cT g m a e).b λh=>.y (HM h)|_=>.n
 |_,_,_=>.n
noncomputable def cA(g:cQ):(m:MC)->(ex:Ex)->(es:List MV)->Ch (QA g m ex es)
 |_,.nil,es=>match es with
  |[]=>.y KQ|_=>.n
 |m,.cons a r,es=>match es with
  |e::es=>(cn (aw e)).b λq=>(cE g m a e).b λh=>(cA g m r es).b λc=>.y (KR q h c)|[]=>.n
 |m,.feed i r,es=>match es with
  |.Name x _::es=>(cb (dI m i x)).b λq=>(cA g m r es).b λh=>.y (KS q h)|_=>.n
 |_,_,_=>.n
noncomputable def cO(g:cQ):(m:MC)->(ex:Ex)->(o:Option MV)->Ch (QO g m ex o)
 |_,.nil,o=>match o with
  |none=>.y KU|_=>.n
 |m,.one a,o=>match o with
  |some e=>(cE g m a e).b λh=>.y (KW h)|_=>.n
 |_,_,_=>.n
noncomputable def cI(g:cQ):(m:MC)->(ex:Ex)->(t e:MV)->Ch (QI g m ex t e)
 |m,.pH r,_,e=>match e with
  |.Call (.Name x _) [a] [] _=>(cb (sEq x "range")).b λf=>(cb (bf m x)).b λd=>(cn (aw a)).b λc=>(cA g m r [a]).b λh=>.y (HN f d c h)|_=>.n
 |m,.Ba r,t,e=>match t,e with
  |.Tuple _ _ _,.Call (.Name x _) [a,b] [] _=>(cb (sEq x "zip")).b λf=>(cb (bf m x)).b λd=>(cn (aw a)).b λc=>(cn (aw b)).b λi=>(cA g m r [a,b]).b λh=>.y (HP f d c i h)|_,_=>.n
 |m,.Bb r,t,e=>match t,e with
  |.Tuple _ _ _,.Call (.Name x _) [a] [] _=>(cb (sEq x "enumerate")).b λf=>(cb (bf m x)).b λd=>(cn (aw a)).b λc=>(cA g m r [a]).b λh=>.y (HQ f d c h)|_,_=>.n
 |m,.aO a,_,e=>(cE g m a e).b λh=>.y (HR h)|_,.bad,_,_=>.y EV|_,_,_,_=>.n
end
noncomputable def yC(sc:OJ):ScopeKind:=if sc.kind.isAnnotationScope then .function else sc.kind
noncomputable def iA:MV->Option OJ
 |.ListComp _ _ s _=>Mt s|.SetComp _ _ s _=>Mt s|.DictComp _ _ _ s _=>Mt s|_=>MA
noncomputable def pT(m:MC)(x:M3)(a:Od)(e:MV):Bool:=match iA e with
 |none=>My|some sc=>yC m.sc==.function&&m.sc.names.lookup x==Mt .local&&a.line==e.pos.line&&!(sc.names.any λ(n,k)=>n==x&&(k==.local||k==.cell))
theorem swap_eq{m:MC}{env:Sl}(h:env.scope=m.sc)(x:M3)(a:Od)(l:Nat)(e:MV):O4 e (Mt (.Name x a)) l env=pure (pT m x a e):=by
 unfold O4 pT Env.blockKind Wy yC;rw[h];cases e<;>rfl
theorem yD{a:List MV}{k:Nat}{p:Od}{env:Sl}(l:Nat)(e:MV):Vd [.Tuple a k p] e l env=pure My:=by
 show O4 e (Mt (.Tuple a k p)) l env=pure My;unfold O4;cases e<;>rfl
noncomputable def uj(sc:OJ):Sl:={scope:=sc,locals:=0,globals:=0,cells:=[]}
theorem yE{env c:Sl}(h:env.scope=c.scope)(a:List MV)(b:MV):Qu a b env=Qu a b c:=by
 unfold Qu Env.blockKind Wy;rw[h]
noncomputable def cN:(t:U5 (Option (List M3)))->Ch (t=pure MA)
 |.pure MA=>.y rfl|_=>.n
noncomputable def L6(x:M3)(k:Qa)(l:List (M3×Qa)):Ch (vG x l=Mt k):=match vG x l with
 |some j=>(cd (j=k)).b λq=>.y (by rw[q])|none=>.n
theorem yF{X:Cx}{F:Fx}(i:Nat){x:M3}{e:MV}{q pos:Od}{o:Rj}{f:Int->Int->Int}{m:ag->M D}(hN:X.N.Nodup)(p:DE X F e m)(s:Jb X o (JJ f))(t:X.N[i]?=Mt x)(r:Loc X.env.scope x)(v:X.fn x=Mz\/X.env.scope.names.lookup x=Mt .local):DS X F (.AugAssign (.Name x q) o e pos) (λc=>do let a<-d7 (<-M.get (lh c i));let b<-d7 (<-m c);pure (.nx (c.set i (Mt (.d (.int (f a b))))))):=⟨p.hK,(CL (i:=i) hN t r p.pe s v).imp λZ C H j=>by
  obtain⟨c,k,S,h⟩:=j;obtain⟨d,z,h⟩:=M.run_get.mp h;obtain⟨a,rfl,h⟩:=bq.mp h;obtain⟨w,y,g⟩:=S.at_ i _ (mV z);have g:Is F.toFb H w (.int a):=g;simp only[Is]at g;subst g;refine⟨_,y,?_⟩;refine bK.next S h λd E u B e1 A n l=>?_;obtain⟨b,rfl,l⟩:=bq.mp l;simp only[Is]at n;subst n;exact⟨a,b,rfl,rfl,l _ B e1.kp (A.set i (by simp only[Is]))⟩⟩
section
variable{g:cQ}{v:Ev}{m:MC}{X:Cx}{F:Fx}
theorem nM{c:D->ag->T ag}{body:ag->T Fl}:∀(ds:List D)(b:ag),Ref (ei c body ds b).au (uD (λd b=>(c d b).au) (λb=>(body b).au) ds b)
 |[],b=>.refl _|d::ds,b=>ae (.refl _) λe=>ae (.refl _) λf=>by cases f with
  |nx a=>exact nM ds a|ct a=>exact nM ds a|bk a=>exact .refl _|rt r=>exact .refl _
theorem iB{c:ag->T Bool}{body:ag->T Fl}:∀(n:Nat)(d:ag),Ref (nA c body n d).au (dY (λd=>(c d).au) (λd=>(body d).au) n d)
 |0,d=>.refl _|n+1,d=>ae (.refl _) λb=>by cases b with
  |true=>
   refine ae (.refl _) λe=>?_;cases e with
   |nx a=>exact iB n a|ct a=>exact iB n a|bk a=>exact .refl _|rt r=>exact .refl _
  |false=>exact .refl _
theorem XC.L7(h:XC g v m X F){pn:List (MD×NF)}{xe:Mv->Mx->Prop}{a:Xc->Nat->Prop}{Hs:Hp}{ks:Nat}(b:uL (X.as X.A Mz pn xe) {F with E:=a,Hs:=Hs,ks:=ks}):XC g v m (X.as X.A Mz pn xe) {F with E:=a,Hs:=Hs,ks:=ks}:=⟨h.hK,h.hP,h.hw,h.hN,h.nd,h.sc,rfl,h.un,h.fn,h.Hi,h.bl,h.df,h.co,b,h.top,h.cl,h.Bg,h.zg,h.rm,h.sb,h.uO,h.code,h.ct⟩
theorem tT(b:Xc->T Fl):∀(t:T Fl),(t.pL b).au=AF t.au (λx=>(b x).au)
 |.ok a=>rfl|.exc x=>rfl|.stuck=>rfl|.draw n k=>by
  show(T.gI n>>=λi=>((k i).pL b).au)=AF (T.gI n>>=λi=>(k i).au) _;have:(λi=>((k i).pL b).au)=λi=>AF (k i).au (λx=>(b x).au):=by funext i;exact tT b (k i)
  rw[this];rfl
theorem yG(h:XC g v m X F)(P:MD)(i y:Nat)(hd:Hd)(x:Xc):Ref (mo v P i y hd x).au (o_ X.K P (Mt i) y hd x):=by
 unfold mo o_;split
 .rename_i c nm ex;try rw[ex]
  refine aq (λq=>h.sb c P Mz ?_) (aC λd=>.refl _);split at q;.assumption
  .cases q
 .exact .fail
theorem T.i5{d c e:Type}(f:d->T c)(b:c->T e):∀(t:T d),((t>>=f)>>=b)=(t>>=λa=>f a>>=b)
 |.ok a=>rfl|.exc x=>rfl|.stuck=>rfl|.draw n k=>by
  show T.draw n (λi=>((k i>>=f)>>=b))=T.draw n (λi=>(k i>>=λa=>f a>>=b));congr 1;funext i;exact T.i5 f b (k i)
theorem mx(d:D):Ref (yk d).au (tL d):=by cases d<;>first|exact .refl _|exact .fail
theorem vh(d:D):Ref (Cb d).au (xN d):=by cases d<;>first|exact .refl _|exact .fail
theorem vk(d:D):Ref (Cc d).au (tM d):=by cases d<;>first|exact .refl _|exact .fail
theorem tU{e:MV}(h:(iA e).isSome=My)(l:Nat)(env:Sl)(t:Option MV):O4 e t l env=pure My:=by
 unfold O4;cases e<;>first|rfl|cases h
end
noncomputable abbrev QS(g:cQ)(m:MC)(s:dj)(st:OM):Prop:=∀v X F,Sz (MO X.prog X.w) X.A X.env X.xe->XC g v m X F->DS X F st (λa=>(br v s a).au)
noncomputable abbrev yH(g:cQ)(m:MC)(s:dj)(a:List OM):Prop:=∀v X F,Sz (MO X.prog X.w) X.A X.env X.xe->XC g v m X F->uA X F a (λb=>(br v s b).au)
noncomputable abbrev QH(g:cQ)(m:MC)(hd:Hd)(e:MV):Prop:=(∀t l env,O4 e t l env=pure My)/\∀v X F,XC g v m X F->∀A pn xe,DE (X.as A My pn xe) F e (λa=>M.get (Jm hd a))
section
variable{g:cQ}{m:MC}
theorem XC.rY{v:Ev}{X:Cx}{F:Fx}(h:XC g v m X F):X.N.Nodup:=by rw[h.hN];exact h.nd
theorem EW{j:Nat}{x:M3}{p:Od}(q:dI m j x=Mz):QH g m (.slot j) (.Name x p):=⟨λ_ _ _=>rfl,λv X F h A pn xe=>by
 obtain⟨d,c,b,a⟩:=h.sG q;exact wz (X:=X.as A My pn xe) j d c b a h.hK⟩
theorem HV{d:D}{c:Const}{k:Nat}{p:Od}(q:QK d c):QH g m (.cst d) (.Constant c k p):=⟨λ_ _ _=>rfl,λv X F h A pn xe=>q (X.as A My pn xe) F h.hK k p⟩
noncomputable def cH(g:cQ)(m:MC):(hd:Hd)->(e:MV)->Ch (QH g m hd e)
 |.slot j,e=>match e with
  |.Name x _=>(cb (dI m j x)).b λq=>.y (EW q)|_=>.n
 |.cst d,e=>match e with
  |.Constant c _ _=>(cK d c).b λq=>.y (HV q)|_=>.n
theorem HW{tg:Tg}{e:Ex}{a:List MV}{k:Nat}{p b:Od}{x:MV}(c:QG g m tg (.Tuple a k b))(f:QE g m e x)(q:Qu [.Tuple a k b] x (uj m.sc)=pure MA):QS g m (.asg tg e) (.Assign [.Tuple a k b] x p):=λv X F _ h=>(DM (f v X F h) (c v X F h) (yD _ _) ((yE (by rw[h.sc];rfl) _ _).trans q) rfl).ref λi=>ae (.refl _) λd=>ae (.refl _) λ_=>.refl _
theorem EX{i:Nat}{e:Ex}{n:M3}{p b:Od}{x:MV}(c:c_ m i n=Mz)(j:QU g m e x)(f:pT m n b x=Mz):QS g m (.set i e) (.Assign [.Name n b] x p):=λv X F _ h=>by
 obtain⟨o,l,k⟩:=h.loc c;have a:=swap_eq (m:=m) h.sc n b p.line x;rw[f]at a;exact(AJ i h.rY (j v X F h) o l a k).ref λq=>ae (.refl _) λd=>.refl _
theorem HX{i:Nat}{e:Ex}{n:M3}{p b:Od}{x:MV}(c:c_ m i n=Mz)(j:QE g m e x)(f:pT m n b x=My):QS g m (.set i e) (.Assign [.Name n b] x p):=λv X F _ h=>by
 obtain⟨o,l,k⟩:=h.loc c;have a:=swap_eq (m:=m) h.sc n b p.line x;rw[f]at a;exact(wM i h.rY (j v X F h) o l a k).ref λq=>ae (.refl _) λd=>.refl _
theorem EY{e:Ex}{x:MV}{p:Od}(q:(iA x).isSome=My)(a:QE g m e x):QS g m (.expr e) (.Expr x p):=λv X F _ h=>(Ag (a v X F h) (tU q _ _ _)).ref λb=>ae (.refl _) λd=>.refl _
theorem HY{e:Ex}{x:MV}{p:Od}(a:QE g m e x):QS g m (.ret e) (.Return (Mt x) p):=λv X F _ h=>(DN (a v X F h)).ref λb=>ae (.refl _) λd=>.refl _
theorem HZ{c:Ex}{a b:dj}{x:MV}{xs ys:List OM}{p:Od}(e:QT g m c x)(i:yH g m a xs)(f:yH g m b ys):QS g m (.iff c a b) (.If x xs ys p):=λv X F d h=>(GJ (e v X F h) (i v X F d h) (f v X F d h)).ref λj=>ae (.refl _) λz=>by cases z<;>exact .refl _
theorem H_{tg:Tg}{it:Ex}{b:dj}{t i:MV}{xs:List OM}{p:Od}(d:aL i=My)(e:QI g m it t i)(f:QG g m tg t)(j:yH g m b xs):QS g m (.b7 tg it b) (.For t i xs [] p):=λv X F a h=>(DP a h.calm (e v X F h) (f v X F h) (j v X F a h) (bN d _)).ref λc=>ae (.refl _) λk=>nM k c
theorem Ia{c:Ex}{b:dj}{x:MV}{xs:List OM}{p:Od}(e:QT g m c x)(f:yH g m b xs):QS g m (.Hh c b) (.While x xs [] p):=λv X F a h=>(wO a (e v X F h) (f v X F a h)).ref λd k Q E z=>⟨iq,iB iq d k Q E z⟩
theorem Ib{i:Nat}{o o':Rj}{e:Ex}{n:M3}{p t:Od}{x:MV}(q:o'=o)(s:c_ m i n=Mz)(j:QE g m e x):QS g m (.aug i o e) (.AugAssign (.Name n t) o' x p):=λv X F _ h=>by
 subst q;obtain⟨r,l,k⟩:=h.loc s;cases o' with
 |Add=>exact(yF i h.rY (j v X F h) CM r l k).ref λf=>aC λd=>ae (ba d) λa=>ae (.refl _) λc=>ae (ba c) λb=>.refl _|Sub=>exact(yF i h.rY (j v X F h) CN r l k).ref λf=>aC λd=>ae (ba d) λa=>ae (.refl _) λc=>ae (ba c) λb=>.refl _|_=>exact(DS.stuck h.hK).ref λf=>.fail
theorem Br{c:Nat}{r:Ex}{x:M3}{a:MV}{es:List MV}{p w u:Od}(n:isAt g.cn c x=Mz)(t:bf m x=Mz)(l:(es.all λe=>!aw e)=Mz)(k:aw a=My)(o:QA g m r (a::es)):QS g m (.raise c r) (.Raise (Mt (.Call (.Name x p) (a::es) [] w)) MA u):=λv X F _ h=>by
 obtain⟨s,q,z⟩:=h.gl t;have i:∀b,br v (.raise c r) b=T.get (v.cls c)>>=λC=>T.need (gQ v C)>>=λ_=>(iW v r b>>=λas=>qr v C as)>>=λx=>T.exc ⟨x,b⟩:=λb=>by
  show(T.get (v.cls c)>>=λC=>T.need (gQ v C)>>=λ_=>iW v r b>>=λas=>qr v C as>>=λx=>T.exc ⟨x,b⟩)=_;simp only[T.i5]
 cases j:v.cls c with
 |none=>
  refine(DS.stuck h.hK).ref λb=>?_;rw[i,j];exact .fail|some C=>
  have ev:∀b,br v (.raise c r) b=T.need (gQ v C)>>=λ_=>(iW v r b>>=λas=>qr v C as)>>=λx=>T.exc ⟨x,b⟩:=λb=>by rw[i,j];rfl
  by_cases hw:v.how C=1
  .refine(xB h.calm h.xo (o v X F h) s (h.cl c x C (bW n) j) (h.Bg C hw) q (aA k) (aX l)).ref λb=>?_;rw[ev,Cd hw];show Ref ((iW v r b>>=λas=>qr v C as)>>=λx=>T.exc ⟨x,b⟩:T Fl).au _;rw[T.ax,T.ax,M.bind_assoc];refine(Ref.refl _).bind λas=>?_;unfold qr;rw[if_pos hw,T.ax,M.bind_assoc];exact(Ref.need of_decide_eq_true).bind λ_=>.refl _
  .by_cases f:v.how C=2/\2<=v.room
   .refine(u6 h.calm h.xo (o v X F h) (h.zg C f.1).1 (h.rm.mono f.2) s (h.cl c x C (bW n) j) q (aA k) (aX l)).ref λb=>?_;rw[ev,Ce f];show Ref ((iW v r b>>=λas=>qr v C as)>>=λx=>T.exc ⟨x,b⟩:T Fl).au _;rw[T.ax,T.ax,M.bind_assoc,M.bind_assoc];refine(Ref.refl _).bind λas=>?_;unfold qr;rw[if_neg hw,if_pos f,T.ax,M.bind_assoc,M.bind_assoc];refine(Ref.of_eq (bz as)).bind λy=>?_;rw[T.ax,M.bind_assoc];exact(pS y).bind λd=>.refl _
   .refine(DS.stuck h.hK).ref λb=>?_;rw[ev,Cf hw f];exact .fail
theorem Ic{b:dj}{c i y:Nat}{hd:Hd}{body:List OM}{cn n l:M3}{e:MV}{p1 I H G r:Od}(p:m.all=Mz)(D:isAt g.cn c cn=Mz)(C:bf m cn=Mz)(B:isAt m.N i n=Mz)(d:vG n m.sc.names=Mt .local)(w:c_ m y l=Mz)(o:QH g m hd e)(M:yH g m b body):QS g m (.Bd b c i y hd) (.Try body [.ExceptHandler (Mt (.Name cn p1)) (Mt n) [.Assign [.Name l r] e I] H] [] [] G):=λv X F S h=>by
 obtain⟨R,O,U⟩:=h.gl C;have K:=h.at_ B;have i2:X.env.scope.names.lookup n=Mt .local:=by rw[<-h.lk];exact d
 obtain⟨u,t,s⟩:=h.loc w;cases j:v.cls c with
 |none=>
  refine(DS.stuck h.hK).ref λa=>?_;show Ref (T.get (v.cls c)>>=λP=>(br v b a).pL (mo v P i y hd)).au _;rw[j];exact .fail|some P=>
  refine(xD (i:=i) (y:=y) (hd:=hd) (h.top p).1 (h.top p).2 h.hK h.rY h.calm (λxe pn V Hs ks f L=>M v _ _ f (h.L7 L)) R (h.cl c cn P (bW D) j) O K i2 u t s (o.1 _ _ _) (λA pn xe=>o.2 v X F h A pn xe) i2).ref λa=>?_;show Ref (T.get (v.cls c)>>=λP=>(br v b a).pL (mo v P i y hd)).au _;rw[j];show Ref ((br v b a).pL (mo v P i y hd)).au _;rw[tT];exactλk Q E z=>(br v b a).au.mono (show(br v b a).au.run k Q _ from z) (λ_ _ q=>q) λx J q=>yG h P i y hd x J Q E q
theorem Ie{st:OM}:QS g m .bad st:=λv X F _ h=>(DS.stuck h.hK).ref λa=>.fail
theorem EZ{i:Nat}{r:Ex}{n:M3}{es:List MV}{p a b:Od}(q:c_ m i n=Mz)(c:QA g m r es):QS g m (.lA i r) (.Assign [.Name n a] (.List es b) p):=λv X F _ h=>by
 obtain⟨f,e,d⟩:=h.loc q;exact(AL i h.rY (c v X F h) f e d).ref λj=>ae (.refl _) λas=>ae (.of_eq (bz as)) λk=>aq of_decide_eq_true (.refl _)
theorem E1{i:Nat}{n:M3}{p a b:Od}(q:c_ m i n=Mz):QS g m (.Be i) (.Assign [.Name n a] (.Dict [] [] b) p):=λv X F _ h=>by
 obtain⟨e,d,c⟩:=h.loc q;exact(AM i h.rY h.hK e d c).ref λf=>.refl _
theorem E2{i:Nat}{n x:M3}{p c e d:Od}(q:c_ m i n=Mz)(b:sEq x "set"=Mz)(a:bf m x=Mz):QS g m (.Bf i) (.Assign [.Name n c] (.Call (.Name x e) [] [] d) p):=λv X F _ h=>by
 obtain rfl:=aM b;obtain⟨k,j,f⟩:=h.loc q;exact(AO i h.rY h.hK h.hP h.hw (h.bl _ (yy rfl)) (h.gl a).1 k j f).ref λl=>.refl _
theorem Bs{i j:Nat}{n y:M3}{p o np sp:Od}(l:m.all=Mz)(k:c_ m i n=Mz)(f:dI m j y=Mz):QS g m (.tR i j) (.Assign [.Name n o] (.Set [.Name y np] 0 sp) p):=λv X F _ h=>by
 obtain⟨t,s,r⟩:=h.loc k;obtain⟨e,c,b,a⟩:=h.sG f;obtain⟨w,q⟩:=h.code l;have hu:=h.un;exact(x_ i j h.rY (by omega) h.hK h.hP h.hw q t s r e c b a).ref λu=>aC λd=>aq mr (.refl _)
theorem Ig{i:Nat}{e:Ex}{x f:M3}{a:MV}{np c b p:Od}(n:sEq f "append"=Mz)(l:dI m i x=Mz)(k:(c.endLine==b.line)=Mz)(j:aw a=My)(o:QE g m e a):QS g m (.app i e) (.Expr (.Call (.Attribute (.Name x np) f c) [a] [] b) p):=λv X F _ h=>by
 obtain rfl:=aM n;obtain⟨t,s,r,q⟩:=h.sG l;exact(Ef i t s r q (o v X F h) k (aA j)).ref λu=>aC λd=>ae (mx d) λw=>ae (.refl _) λy=>aq of_decide_eq_true (.refl _)
theorem Ih{i:Nat}{e:Ex}{x f:M3}{a:MV}{np c b p:Od}(n:sEq f "add"=Mz)(l:dI m i x=Mz)(k:(c.endLine==b.line)=Mz)(j:aw a=My)(o:QE g m e a):QS g m (.add i e) (.Expr (.Call (.Attribute (.Name x np) f c) [a] [] b) p):=λv X F _ h=>by
 obtain rfl:=aM n;obtain⟨t,s,r,q⟩:=h.sG l;have hu:X.A.units+1<NV:=by have:=h.un;omega
 exact(Eg i hu h.hP h.hw t s r q (o v X F h) k (aA j)).ref λu=>aC λd=>ae (vh d) λw=>ae (.refl _) λy=>aq (λz=>by
  rw[ML]at z;exact⟨of_decide_eq_true z.1,mr z.2⟩) (.refl _)
theorem Ii{i:Nat}{k e:Ex}{x:M3}{b a:MV}{np sp p:Od}(f:dI m i x=Mz)(c:(iA a).isSome=My)(j:QE g m k b)(l:QE g m e a):QS g m (.put i k e) (.Assign [.Subscript (.Name x np) b sp] a p):=λv X F _ h=>by
 obtain⟨s,r,q,n⟩:=h.sG f;have hu:X.A.units+1<NV:=by have:=h.un;omega
 exact(Eh i hu h.hP h.hw s r q n (j v X F h) (l v X F h) (tU c _ _ _)).ref λt=>ae (.refl _) λd=>aC λo=>ae (vk o) λw=>ae (.refl _) λu=>aq (λz=>by
  rw[ML]at z;exact⟨of_decide_eq_true z.1,dJ z.2⟩) (.refl _)
theorem s_pop{j i:Nat}{y x f:M3}{c np b a p:Od}(n:sEq f "pop"=Mz)(l:c_ m j y=Mz)(k:dI m i x=Mz)(e:(b.endLine==a.line)=Mz):QS g m (.pop j i) (.Assign [.Name y c] (.Call (.Attribute (.Name x np) f b) [] [] a) p):=λv X F _ h=>by
 obtain rfl:=aM n;obtain⟨r,q,o⟩:=h.loc l;obtain⟨w,u,t,s⟩:=h.sG k;exact(Ei i j h.rY h.hK w u t s r q o e).ref λz=>aC λd=>ae (mx d) λA=>aC λB=>.refl _
theorem KY{i:Nat}{s:dj}{st:OM}(a:QS g m s st):QS g m (.fz i s) st:=λv X F b h=>((a v X F b h).fz i).ref λc=>.refl _
theorem L8:yH g m .nil []:=λv X F _ h=>(Ah h.hK).ref λa=>.refl _
theorem L9{s r:dj}{x:OM}{xs:List OM}(b:QS g m s x)(c:yH g m r xs):yH g m (.cons s r) (x::xs):=λv X F a h=>(wN (b v X F a h) (c v X F a h)).ref λe=>ae (.refl _) λd=>by cases d<;>exact .refl _
end
noncomputable def cU(g:cQ)(m:MC):(ex:Ex)->(e:MV)->Ch (QU g m ex e)
 |.lc own a j it c d,e=>match e with
  |.ListComp x o sc p=>LD (cI g m it) (cC g (az m own (av m a) sc) c) (cE g (az m own (av m a) sc) d x)|_=>.n
 |.FA own a j it c i b c2 d,e=>match e with
  |.ListComp x o sc p=>HS (cI g m it) (cC g (az m own (av m a) sc) c) (cI g (az m own (av m a) sc) b) (cC g (az m own (av m a) sc) c2) (cE g (az m own (av m a) sc) d x)|_=>.n
 |.dc own a j it c l f,e=>match e with
  |.DictComp x y o sc p=>LF (cI g m it) (cC g (az m own (av m a) sc) c) (cE g (az m own (av m a) sc) l x) (cE g (az m own (av m a) sc) f y)|_=>.n
 |.EB own a j it c i b c2 l f,e=>match e with
  |.DictComp x y o sc p=>HU (cI g m it) (cC g (az m own (av m a) sc) c) (cI g (az m own (av m a) sc) b) (cC g (az m own (av m a) sc) c2) (cE g (az m own (av m a) sc) l x) (cE g (az m own (av m a) sc) f y)|_=>.n
 |.bad,_=>.y λv X F h=>⟨h.hK,λq s t H I=>⟨λQ⟨r,k,S,z⟩=>z.elim,λx w u A D _ _⟨r,k,S,z⟩=>z.elim⟩⟩|_,_=>.n
noncomputable def KZ(g:cQ)(m:MC)(i:Nat)(e:Ex)(n:M3)(c p:Od)(x:MV):Ch (QS g m (.set i e) (.Assign [.Name n c] x p)):=(cb (c_ m i n)).b λq=>match h:pT m n c x with
  |true=>(cU g m e x).b λa=>.y (EX q a h)|false=>(cE g m e x).b λa=>.y (HX q a h)
mutual
noncomputable def cS(g:cQ)(m:MC):(s:dj)->(st:OM)->Ch (QS g m s st)
 |.asg E e,st=>match st with
  |.Assign [.Tuple H k C] x _=>(cG g m E (.Tuple H k C)).b λh=>(cE g m e x).b λv=>(cN (Qu [.Tuple H k C] x (uj m.sc))).b λq=>.y (HW h v q)|_=>.n
 |.set i e,st=>match st with
  |.Assign [.Name n C] x p=>KZ g m i e n C p x|_=>.n
 |.expr e,st=>match st with
  |.Expr x _=>(cn (iA x).isSome).b λq=>(cE g m e x).b λh=>.y (EY q h)|_=>.n
 |.ret e,st=>match st with
  |.Return (Mt x) _=>(cE g m e x).b λh=>.y (HY h)|_=>.n
 |.iff c a b,st=>match st with
  |.If x w I _=>(cT g m c x).b λh=>(Cj g m a w).b λz=>(Cj g m b I).b λv=>.y (HZ h z v)|_=>.n
 |.b7 E it b,st=>match st with
  |.For t i w [] _=>(cn (aL i)).b λq=>(cI g m it t i).b λh=>(cG g m E t).b λz=>(Cj g m b w).b λv=>.y (H_ q h z v)|_=>.n
 |.Hh c b,st=>match st with
  |.While x w [] _=>(cT g m c x).b λh=>(Cj g m b w).b λz=>.y (Ia h z)|_=>.n
 |.aug i o e,st=>match st with
  |.AugAssign (.Name n _) O x _=>(cd (O=o)).b λq=>(cb (c_ m i n)).b λd=>(cE g m e x).b λh=>.y (Ib q d h)|_=>.n
 |.raise c r,st=>match st with
  |.Raise (Mt (.Call (.Name x _) (a::D) [] _)) MA _=>(cb (isAt g.cn c x)).b λF=>(cb (bf m x)).b λd=>(cb (D.all λe=>!aw e)).b λl=>(cn (aw a)).b λu=>(cA g m r (a::D)).b λh=>.y (Br F d l u h)|_=>.n
 |.Bd b c i y hd,st=>match st with
  |.Try body [.ExceptHandler (Mt (.Name cn _)) (Mt n) [.Assign [.Name J _] e _] _] [] [] _=>(cb m.all).b λF=>(cb (isAt g.cn c cn)).b λd=>(cb (bf m cn)).b λl=>(cb (isAt m.N i n)).b λu=>(L6 n .local m.sc.names).b λM=>(cb (c_ m y J)).b λL=>(cH g m hd e).b λK=>(Cj g m b body).b λh=>.y (Ic F d l u M L K h)|_=>.n
 |.bad,_=>.y Ie|.lA i r,st=>match st with
  |.Assign [.Name n _] (.List D _) _=>(cb (c_ m i n)).b λq=>(cA g m r D).b λh=>.y (EZ q h)|_=>.n
 |.Be i,st=>match st with
  |.Assign [.Name n _] (.Dict [] [] _) _=>(cb (c_ m i n)).b λq=>.y (E1 q)|_=>.n
 |.Bf i,st=>match st with
  |.Assign [.Name n _] (.Call (.Name x _) [] [] _) _=>(cb (c_ m i n)).b λq=>(cb (sEq x "set")).b λd=>(cb (bf m x)).b λl=>.y (E2 q d l)|_=>.n
 |.tR i j,st=>match st with
  |.Assign [.Name n _] (.Set [.Name y _] 0 _) _=>(cb m.all).b λq=>(cb (c_ m i n)).b λd=>(cb (dI m j y)).b λl=>.y (Bs q d l)|_=>.n
 |.app i e,st=>match st with
  |.Expr (.Call (.Attribute (.Name x _) f B) [a] [] A) _=>(cb (sEq f "append")).b λq=>(cb (dI m i x)).b λd=>(cb (B.endLine==A.line)).b λl=>(cn (aw a)).b λu=>(cE g m e a).b λh=>.y (Ig q d l u h)|_=>.n
 |.add i e,st=>match st with
  |.Expr (.Call (.Attribute (.Name x _) f B) [a] [] A) _=>(cb (sEq f "add")).b λq=>(cb (dI m i x)).b λd=>(cb (B.endLine==A.line)).b λl=>(cn (aw a)).b λu=>(cE g m e a).b λh=>.y (Ih q d l u h)|_=>.n
 |.put i k e,st=>match st with
  |.Assign [.Subscript (.Name x _) P _] G _=>(cb (dI m i x)).b λq=>(cn (iA G).isSome).b λu=>(cE g m k P).b λh=>(cE g m e G).b λv=>.y (Ii q u h v)|_=>.n
 |.pop j i,st=>match st with
  |.Assign [.Name y _] (.Call (.Attribute (.Name x _) f B) [] [] A) _=>(cb (sEq f "pop")).b λq=>(cb (c_ m j y)).b λd=>(cb (dI m i x)).b λl=>(cb (B.endLine==A.line)).b λu=>.y (s_pop q d l u)|_=>.n
 |.fz _ s,st=>(cS g m s st).b λh=>.y (KY h)|_,_=>.n
noncomputable def Cj(g:cQ)(m:MC):(s:dj)->(a:List OM)->Ch (yH g m s a)
 |.nil,ss=>match ss with
  |[]=>.y L8|_=>.n
 |.cons s r,ss=>match ss with
  |x::c=>(cS g m s x).b λh=>(Cj g m r c).b λd=>.y (L9 h d)|[]=>.n
 |_,_=>.n
end
theorem cw.any{P:MX}{w:M_}{K:ME}{mg:M3->Option Mv}{base:Na}{CX:sI}{k:Nat}{f:MD}{fd:N8}{ps:List M3}{sp:Sp}(h:cw P w K mg base qp k f fd ps sp):cw P w K mg base CX k f fd ps sp:=⟨h.len,λA outer s H a c b Q E g e0 i r d=>OH (h.run A outer s H a c b Q E g e0 i r d) λr l q=>by cases r with
  |error e=>exact N7 q|ok j=>cases j<;>exact q⟩
structure E3(P:MX)(K:ME)(mg:M3->Option Mv)(g:cQ)(x:M3)(d:Df):Prop where ex:∃(y qual:M3)(st:OM)(f:MD)(fd:N8)(N ps:List M3),ur K y qual st f fd/\bI N ps (aj st)/\Binds K fd ps []/\mg x=Mt (.ref f)/\ps.length=d.np/\N.length=d.nn/\yH g ⟨N,aj st,Mz⟩ d.body (bD st)
structure FD(P:MX)(w:M_)(K:ME)(mg:M3->Option Mv)(base:Na)(x:M3)(np:Nat)(t:List A->T D):Prop where
 ok:kc P w K mg base x np 1 (λas=>(t as).au)len:∀as,as.length≠np->t as=.stuck
inductive Dk where|df(d:Df)|wit(t:List A->T D)
structure Gv where
 d_:Nat->Option D
 cls:Nat->Option MD
 how:MD->Nat
 sub:MD->MD->Option Bool
 ins:MD->Mv->Option Bool
noncomputable def Gv.ev(b:Gv)(n:Nat)(call:Nat->List A->T D):Ev:=⟨call,b.d_,b.cls,b.how,b.sub,b.ins,n⟩
noncomputable def dg(defs:List Dk)(b:Gv):Nat->Nat->List A->T D
 |0,_,_=>.stuck|n+1,f,as=>match defs[f]? with
  |none=>.stuck|some (.wit t)=>t as|some (.df d)=>if as.length=d.np then do Jr (<-br (b.ev n (dg defs b n)) d.body (gc d.nn as))else .stuck
structure i8(P:MX)(w:M_)(K:ME)(mg:M3->Option Mv)(base:Na)(g:cQ)(defs:List Dk)(b:Gv):Prop where
 bl:∀x∈cM,mg x=MA
 df:∀(f:Nat)(x:M3),g.dn[f]?=Mt x->(∃d,defs[f]?=Mt (Dk.df d)/\E3 P K mg g x d)\/(∃t np,defs[f]?=Mt (Dk.wit t)/\FD P w K mg base x np t)co:∀(i:Nat)(x:M3)(d:D),g.gn[i]?=Mt x->b.d_ i=Mt d->∃u v,mg x=Mt u/\RelV v u/\∀(p:MD)(H:Hp),H p≠MA->K.lookup p=MA->Is ⟨K,p,P,w⟩ H v d
 cl:∀(c:Nat)(x:M3)(C:MD),g.cn[c]?=Mt x->b.cls c=Mt C->mg x=Mt (.ref C)Bg:∀C,b.how C=1->ni K C=Mz
 zg:∀C,b.how C=2->AV K C/\B6 K C=Mz
 sb:∀c P r,b.sub c P=Mt r->fZ K c P=Mt r
 uO:∀c u r,b.ins c u=Mt r->∀nm,d9 K (.exc c nm) u=Mt r
 ct:∀i x d,g.gn[i]?=Mt x->b.d_ i=Mt d->rR d=Mz->∃a o,mg x=Mt (.ref a)/\K.lookup a=Mt o/\o.cls=.type "tuple"/\o.dict=MA
section
variable{P:MX}{w:M_}{K:ME}{mg:M3->Option Mv}{base:Na}{g:cQ}{defs:List Dk}{b:Gv}
theorem mark_none{A:Nc}(h:A.handled=MA):A.mark MA=A:=by
 cases A;simp only[Around.mark]at*;simp_all
theorem kc.mono{x:M3}{n j k:Nat}{m:List A->M D}(h:kc P w K mg base x n j m)(c:j<=k):kc P w K mg base x n k m:=by
 obtain⟨ps,a,f,fd,F,r⟩:=h;exact⟨ps,a,f,fd,F.mono c,r⟩
theorem i8.all(h:i8 P w K mg base g defs b):∀(n f:Nat)(x:M3),g.dn[f]?=Mt x->∃np,kc P w K mg base x np n (λas=>(dg defs b n f as).au)/\∀as,as.length≠np->dg defs b n f as=.stuck
 |0,f,x,R=>by
  rcases h.df f x R with⟨d,hd,⟨y,a,st,l,fd,N,ps,F,S,B,q,o,hn,hq⟩⟩|⟨t,np,hd,W⟩
  .refine⟨ps.length,⟨ps,rfl,l,fd,⟨λJ H Q E z=>?_,λA outer s H D us J Q E c e0 X r z=>?_⟩,q,F.kp,B⟩,λ_ _=>rfl⟩;.obtain⟨p,k,as,_,_,_,z⟩:=z;exact z.elim
   .obtain⟨p,k,as,_,_,_,z⟩:=z;exact z.elim
  .obtain⟨ps,j,l,fd,FN,q,hk,X⟩:=W.ok;refine⟨ps.length,⟨ps,rfl,l,fd,⟨λJ H Q E z=>?_,λA outer s H D us J Q E c e0 X r z=>?_⟩,q,hk,X⟩,λ_ _=>rfl⟩;.obtain⟨p,k,as,_,_,_,z⟩:=z;exact z.elim
   .obtain⟨p,k,as,_,_,_,z⟩:=z;exact z.elim|n+1,f,x,R=>by
  rcases h.df f x R with⟨d,hd,⟨y,a,st,l,fd,N,ps,F,S,B,q,o,hn,hq⟩⟩|⟨t,np,hd,W⟩
  .have C:∀as,dg defs b (n+1) f as=if as.length=d.np then do Jr (<-br (b.ev n (dg defs b n)) d.body (gc d.nn as))else .stuck:=λas=>by
    show(match defs[f]? with
     |none=>T.stuck|some (.wit t)=>t as|some (.df d)=>if as.length=d.np then do Jr (<-br (b.ev n (dg defs b n)) d.body (gc d.nn as))else .stuck)=_;rw[hd]
   refine⟨d.np,⟨ps,o,l,fd,?_,q,F.kp,B⟩,λas j=>by rw[C,if_neg j]⟩;refine F.L0 (k:=n) S o λY A' outer s H p k0 E E' c V L=>?_;have xc:XC g (b.ev n (dg defs b n)) ⟨N,aj st,Mz⟩ (g9 (D9 P w) P w K mg base N a (aj st) l Y A' outer s H E) ⟨⟨K,p,P,w⟩,H,k0,E',H,k0⟩:=⟨rfl,rfl,rfl,rfl,S.nd,rfl,rfl,c.units,λ_ _=>rfl,mark_none c.hd,h.bl,λf' I O=>by
     obtain⟨np,h1,h2⟩:=i8.all h n f' I O;exact⟨np,n,c,h1,h2⟩,λi I d' hi U=>by
     obtain⟨u,v,q1,q2,q3⟩:=h.co i I d' hi U;exact⟨u,v,q1,q2,λH hH o=>q3 p H hH o⟩,L,λ_=>⟨rfl,rfl⟩,h.cl,h.Bg,h.zg,c,h.sb,h.uO,λ_=>⟨a,V⟩,h.ct⟩;refine⟨_,hq _ _ _ V1 xc,λas Q j z=>?_⟩;rw[C,if_pos j,T.ax]at z;have e:eO N as=gc d.nn as:=by unfold eO gc;rw[hn]
   rw[e];refine M.wk (m:=(br (b.ev n (dg defs b n)) d.body (gc d.nn as)).au) z λfl k' G=>?_;cases fl with
   |rt d=>exact G|nx Z=>exact G|bk Z=>exact G|ct Z=>exact G
  .have C:∀as,dg defs b (n+1) f as=t as:=λas=>by
    show(match defs[f]? with
     |none=>T.stuck|some (.wit t)=>t as|some (.df d)=>if as.length=d.np then do Jr (<-br (b.ev n (dg defs b n)) d.body (gc d.nn as))else .stuck)=_;rw[hd]
   refine⟨np,?_,λas j=>by rw[C];exact W.len as j⟩;have:(λas=>(dg defs b (n+1) f as).au)=λas=>(t as).au:=by funext as;rw[C]
   rw[this];exact W.ok.mono (by omega)
end
noncomputable def Bt(fd:N8):Option (List OM):=match fd.body,fd.closure,fd.defaults with
 |.stmts b,[],.none=>if OV fd.globals NA&&OV fd.builtins Vk then Mt b else MA|_,_,_=>MA
theorem yI{fd:N8}{b:List OM}(h:Bt fd=Mt b):fd=Ua fd.name fd.qualname fd.params b fd.scope .none fd.kwdefaults fd.doc fd.pyModule fd.annotations fd.code fd.closureTuple:=by
 obtain⟨s,r,q,p,o,n,m,l,k,j,i,g,f,e,d⟩:=fd;unfold Bt at h;split at h
 .rename_i e1 e2 e3;dsimp only at e1 e2 e3 h;split at h
  .rename_i e4;rw[ML]at e4;cases h;subst e1 e2 e3;have c:=Nr e4.1;have a:=Nr e4.2;subst c a;rfl
  .cases h
 .cases h
noncomputable def yJ(fd:N8)(b:List OM):OM:=.FunctionDef fd.name fd.params b [] MA [] fd.scope MA fd.name ⟨0,0,0,0⟩
theorem r8{K:ME}{f:MD}{d:Mv}{c:Option MD}{fd:N8}{a:Array (Option Mv)}{b:List OM}(l:K.lookup f=Mt ⟨d,c,.func fd,a⟩)(h:Bt fd=Mt b)(e:Oy K fd.code fd.qualname=Mz):ur K fd.name fd.qualname (yJ fd b) f fd:=by
 refine⟨⟨d,c,_,_,_,_,_,_,a,yI h,l,e⟩,?_⟩;unfold QP;dsimp only;rw[l]
noncomputable def vm:List M3->List M3->Bool
 |[],[]=>Mz|x::b,y::a=>sEq x y&&vm b a|_,_=>My
theorem jz:∀{xs ys:List M3},vm xs ys=Mz->xs=ys
 |[],[],_=>rfl|[],_::_,h=>by cases h|_::_,[],h=>by cases h|x::xs,y::ys,h=>by
  simp only[vm,ML]at h;rw[aM h.1,jz h.2]
noncomputable def Ij:ScopeKind->Bool
 |.function=>Mz|_=>My
noncomputable def FE(N ps:List M3)(sc:OJ):Bool:=Ij sc.kind&&!sc.isCoroutine&&!sc.isGenerator&&EE N&&vm (N.take ps.length) ps&&(ps.all λx=>match vG x sc.names with|some .local=>Mz|some .cell=>Mz|_=>My)&&sc.names.all λy=>match y.2 with|.free=>My|_=>Mz
theorem r9{N ps:List M3}{sc:OJ}(h:FE N ps sc=Mz):bI N ps sc:=by
 simp only[FE,ML,N1,O3]at h;obtain⟨⟨⟨⟨⟨⟨a,k⟩,j⟩,i⟩,g⟩,f⟩,d⟩:=h;refine⟨?_,k,j,dM i,jz g,λx c=>?_,λy b z=>?_⟩;.cases e:sc.kind<;>rw[e]at a<;>first|rfl|cases a
 .have:=f x c;rw[nE]at this;split at this;.rename_i e;exact .inl e
  .rename_i e;exact .inr e
  .cases this
 .have:=d y b;rw[z]at this;cases this
noncomputable def lB(p:TH)(ps:List M3):Bool:=p.posonlyargs.isEmpty&&vm (p.args.map (·.arg)) ps&&p.vararg.isNone&&p.kwonlyargs.isEmpty&&p.kwarg.isNone&&EE ps
theorem kL:∀{ps:List M3}{us:List Mv},ps.Nodup->us.length=ps.length->(ps.filterMap λn=>((ps.zip us).lookup n).map (n,·))=ps.zip us
 |[],[],_,_=>rfl|[],_::_,_,h=>by simp at h|_::_,[],_,h=>by simp at h|p::ps,u::us,nd,h=>by
  obtain⟨n1,n2⟩:=List.nodup_cons.mp nd;have d:=kL n2 (us:=us) (by simpa using h);rw[O9,OX];simp only[List.lookup_cons_self,Rt];congr 1;refine Eq.trans ?_ d;have a:∀(l:List M3),(∀n∈l,n≠p)->l.filterMap (λn=>(((p,u)::ps.zip us).lookup n).map (n,·))=l.filterMap λn=>((ps.zip us).lookup n).map (n,·):=by
   intro l;induction l with
   |nil=>intro _;rfl|cons n l b=>
    intro c;have e:((p,u)::ps.zip us).lookup n=(ps.zip us).lookup n:=by
     rw[NC];have:(n==p)=My:=by
      rw[beq_eq_false_iff_ne];exact c n MG
     rw[this]
    rw[OX,OX,e,b λm g=>c m (MM _ g)]
  exact a ps λn f e=>n1 (e▸f)
theorem lookup_some:∀{ps:List M3}{us:List Mv}{n:M3},us.length=ps.length->n∈ps->((ps.zip us).lookup n).isNone=My
 |[],_,_,_,h=>nomatch h|_::_,[],_,h,_=>by simp at h|p::ps,u::us,n,h,a=>by
  rw[O9,NC];cases e:n==p with
  |true=>rfl|false=>
   have:n∈ps:=by
    rcases List.mem_cons.mp a with rfl|h;.simp at e
    .exact h
   exact lookup_some (by simpa using h) this
theorem bind_eq{fd:N8}{b:List OM}{ps:List M3}(h:Bt fd=Mt b)(k:lB fd.params ps=Mz)(us:List Mv)(j:us.length=ps.length):VE fd ⟨us,[]⟩=pure (ps.zip us):=by
 simp only[lB,ML]at k;obtain⟨⟨⟨⟨⟨i,g⟩,f⟩,d⟩,c⟩,q⟩:=k;have e:=yI h;have hd:fd.defaults=.none:=by rw[e]
 obtain⟨⟨x,w,v,u,t,s,r⟩,a⟩:∃p:TH,fd.params=p:=⟨_,rfl⟩;rw[a]at i g f d c;dsimp only at i g f d c;have i:=List.isEmpty_iff.mp i;have f:=Option.isNone_iff_eq_none.mp f;have d:=List.isEmpty_iff.mp d;have c:=Option.isNone_iff_eq_none.mp c;have g:=jz g;subst i f d c;have nd:=dM q;unfold VE;rw[a,hd];dsimp only;rw[g];simp only[Q6,List.nil_append,NT];have l:RH M5=pure MA:=rfl;have o:((ps.take ps.length).filter λn=>((ps.zip us).lookup n).isNone)=[]:=by
  rw[List.take_length];refine List.filter_eq_nil_iff.mpr λn m=>?_;rw[lookup_some j m];exact Nx
 rw[PF,pure_bind,l,pure_bind];dsimp only;simp only[TK,NG,Nat.zero_sub,Nat.sub_zero,List.drop_nil,o];rw[if_neg (by rw[j];simp)];simp only[O7,Pb,M0,if_false,SR,PF,pure_bind];rw[kL nd j]
theorem pU{K:ME}{fd:N8}{b:List OM}{ps:List M3}(h:Bt fd=Mt b)(a:lB fd.params ps=Mz):Binds K fd ps []:=.all (bind_eq h a)
noncomputable def K0(K:ME)(g:cQ)(x:M3)(N ps:List M3)(d:Df):Bool:=match NQ K NA x with
 |some (Mt (.ref f))=>(match K.lookup f with
  |some ⟨_,_,.func fd,_⟩=>(match Bt fd with
   |some b=>Oy K fd.code fd.qualname&&FE N ps fd.scope&&lB fd.params ps&&OV ps.length d.np&&OV N.length d.nn&&(Cj g ⟨N,fd.scope,Mz⟩ d.body b).ok|none=>My)|_=>My)|_=>My
theorem E4{P:MX}{K:ME}{mg:M3->Option Mv}{h:Na}{g:cQ}{x:M3}{N ps:List M3}{d:Df}(X:K.In h)(G:h.Ns NA mg)(q:K0 K g x N ps d=Mz):E3 P K mg g x d:=by
 unfold K0 at q;split at q
 .rename_i f e;split at q
  .rename_i p o fd n lk;split at q
   .rename_i b a;simp only[ML]at q;obtain⟨⟨⟨⟨⟨m,l⟩,k⟩,j⟩,i⟩,c⟩:=q;exact⟨fd.name,fd.qualname,yJ fd b,f,fd,N,ps,r8 lk a m,r9 l,pU a k,P6 X G e,Nr j,Nr i,Ch.of c⟩
   .cases q
  .cases q
 .cases q
structure En where
 x:M3
 N:List M3
 ps:List M3
 k:Dk
noncomputable def E5(K:ME)(g:cQ)(es:List En):Bool:=es.all λe=>match e.k with
 |.df d=>K0 K g e.x e.N e.ps d|.wit _=>Mz
theorem Bu{P:MX}{w:M_}{K:ME}{mg:M3->Option Mv}{base h:Na}{g:cQ}{es:List En}(X:K.In h)(G:h.Ns NA mg)(q:E5 K g es=Mz)(l:g.dn=es.map (·.x))(hw:∀e∈es,∀t,e.k=.wit t->∃np,FD P w K mg base e.x np t):∀(f:Nat)(x:M3),g.dn[f]?=Mt x->(∃d,(es.map (·.k))[f]?=Mt (Dk.df d)/\E3 P K mg g x d)\/(∃t np,(es.map (·.k))[f]?=Mt (Dk.wit t)/\FD P w K mg base x np t):=λf x a=>by
 rw[l,Nq]at a;cases c:es[f]? with
 |none=>rw[c]at a;cases a|some e=>
  rw[c]at a;have a:e.x=x:=MI a;subst a;have j:e∈es:=Nz c;have i:=List.all_eq_true.mp q e j;rw[Nq,c];cases b:e.k with
  |df d=>
   rw[b]at i;exact .inl ⟨d,by rw[Rt,b],E4 X G i⟩|wit t=>
   obtain⟨np,W⟩:=hw e j t b;exact .inr ⟨t,np,by rw[Rt,b],W⟩
noncomputable abbrev QD(K:ME)(u:Mv)(d:D):Prop:=∀P w,∃v,RelV v u/\∀(p:MD)(H:Hp),H p≠MA->K.lookup p=MA->Is ⟨K,p,P,w⟩ H v d
noncomputable abbrev Js(K:ME)(us:List Mv)(ds:List D):Prop:=∀P w,∃a,ak a us/\∀(p:MD)(H:Hp),H p≠MA->K.lookup p=MA->af ⟨K,p,P,w⟩ H a ds
theorem Ik{K:ME}{a:MD}{T:String}{j:Option MD}{its:Array Mv}{n:Nat}{d:Array (Option Mv)}{ds:List D}(lk:K.lookup a=Mt ⟨.type T,j,.seq its n,d⟩)(f:T="tuple")(e:its.size<=MP)(h:Js K its.toList ds):QD K (.ref a) (.tup ds):=λP w=>by
 subst f;obtain⟨c,r,i⟩:=h P w;refine⟨.ref a,rfl,λp H g b=>?_⟩;simp only[Is];refine⟨a,c,rfl,⟨λz=>?_,.inr ⟨_,its,n,lk,rfl,rfl,e,r⟩⟩,i p H g b⟩;have z:a=p:=z;rw[z,b]at lk;cases lk
theorem E6{K:ME}{u:Mv}{us:List Mv}{d:D}{ds:List D}(h:QD K u d)(g:Js K us ds):Js K (u::us) (d::ds):=λP w=>by
 obtain⟨v,r,i⟩:=h P w;obtain⟨c,e,f⟩:=g P w;exact⟨v::c,.cons r e,λp H a b=>.cons (i p H a b) (f p H a b)⟩
mutual
noncomputable def LG(K:ME):(d:D)->(u:Mv)->Ch (QD K u d)
 |.aJ,u=>match u with
  |.none=>.y λP w=>⟨.aJ,rfl,λp H _ _=>by simp only[Is]⟩|_=>.n
 |.bl b,u=>match u with
  |.bool c=>(cd (c=b)).b λq=>.y (by subst q;exactλP w=>⟨.bl _,rfl,λp H _ _=>by simp only[Is]⟩)|_=>.n
 |.int i,u=>match u with
  |.int j _=>(cd (j=i)).b λq=>.y (by subst q;exactλP w=>⟨.int _,⟨_,rfl⟩,λp H _ _=>by simp only[Is]⟩)|_=>.n
 |.str x,u=>match u with
  |.str y _=>(cb (sEq x y)).b λq=>.y (by rw[aM q];exactλP w=>⟨.str _,⟨_,rfl⟩,λp H _ _=>by simp only[Is]⟩)|_=>.n
 |.tup k,u=>match u with
  |.ref a=>match lk:K.lookup a with
   |some ⟨.type _,_,.seq e _,_⟩=>(cd (_="tuple")).b λg=>(cd (e.size<=MP)).b λf=>(E7 K k e.toList).b λh=>.y (Ik lk g f h)|_=>.n
  |_=>.n
 |_,_=>.n
noncomputable def E7(K:ME):(ds:List D)->(us:List Mv)->Ch (Js K us ds)
 |[],us=>match us with
  |[]=>.y λP w=>⟨[],.nil,λp H _ _=>.nil⟩|_=>.n
 |d::ds,us=>match us with
  |u::us=>(LG K d u).b λh=>(E7 K ds us).b λa=>.y (E6 h a)|_=>.n
end
noncomputable def LH(K:ME)(x:M3)(d:D):Bool:=match NQ K NA x with
 |some (Mt u)=>(LG K d u).ok|_=>My
noncomputable def E8(K:ME)(gn:List M3)(ds:List (Option D)):Bool:=(gn.zip ds).all λe=>match e.2 with
 |some d=>LH K e.1 d|none=>Mz
theorem Bv{K:ME}{gn:List M3}{ds:List (Option D)}(q:E8 K gn ds=Mz){i:Nat}{x:M3}{d:D}(a:gn[i]?=Mt x)(hd:ds[i]?=Mt (Mt d)):∃u,NQ K NA x=Mt (Mt u)/\QD K u d:=by
 have b:(x,Mt d)∈gn.zip ds:=Nz (i:=i) (by rw[PM];exact⟨a,hd⟩);have:=List.all_eq_true.mp q _ b;dsimp only at this;unfold LH at this;split at this;.rename_i u e;exact⟨u,e,Ch.of this⟩
 .cases this
structure Kl where
 C:MD
 how:Nat
 sup:List MD
noncomputable def yK(cs:List Kl)(c:Nat):Option MD:=(cs[c]?).map (·.C)
noncomputable def yL(cs:List Kl)(a:MD):Nat:=((cs.find? λk=>OV k.C a).map (·.how)).getD 0
noncomputable def tV(cs:List Kl)(c P:MD):Option Bool:=match cs.find? λk=>OV k.C c with
 |some k=>if cs.any λj=>OV j.C P then Mt (k.sup.any λa=>OV a P)else MA|none=>MA
noncomputable def yM(cs:List Kl)(c:MD)(u:Mv):Option Bool:=match u with
 |.ref P=>tV cs c P|.type T=>if T="ValueError"then(if cs.any λk=>OV k.C c then Mt Mz else MA)else MA|_=>MA
noncomputable def yN(a:Option Bool)(b:Bool):Bool:=match a with
 |some c=>c==b|none=>My
theorem nN{a:Option Bool}{b:Bool}(h:yN a b=Mz):a=Mt b:=by
 unfold yN at h;split at h;.rw[beq_iff_eq.mp h]
 .cases h
noncomputable def yO(K:ME)(x:M3)(a:MD):Bool:=match NQ K NA x with
 |some (Mt (.ref b))=>OV a b|_=>My
theorem yP{K:ME}{x:M3}{a:MD}(h:yO K x a=Mz):NQ K NA x=Mt (Mt (.ref a)):=by
 unfold yO at h;split at h;.rename_i b e;rw[e,Nr h]
 .cases h
theorem Bw{K:ME}{C f:MD}{T:String}{l:Option MD}{fd:N8}{a:Array (Option Mv)}{x n y:M3}{p1 d c b:Od}(k:rK K C f=Mz)(lk:K.lookup f=Mt ⟨.type T,l,.func fd,a⟩)(qT:T="function")(e:Bt fd=Mt [.Assign [.Attribute (.Name x p1) n d] (.Name y c) b])(j:sEq fd.name "__init__"=Mz)(i:Oy K fd.code fd.qualname=Mz)(h:FE ["self","name"] ["self","name"] fd.scope=Mz)(g:lB fd.params ["self","name"]=Mz)(e1:sEq x "self"=Mz)(e2:sEq n "name"=Mz)(e3:sEq y "name"=Mz):AV K C:=by
 have e1:=aM e1;have e2:=aM e2;have e3:=aM e3;subst qT e1 e2 e3;have F:=r8 lk e i;rw[aM j]at F;exact⟨f,fd.qualname,_,fd,p1,d,c,b,_,k,F,r9 h,rfl,pU e g,lk,rfl⟩
noncomputable def Il(K:ME)(C:MD):Ch (AV K C):=match P_ K (.ref C) "__init__"with
 |some (Mt (.ref f))=>match lk:K.lookup f with
  |some ⟨.type _,_,.func fd,_⟩=>match eb:Bt fd with
   |some [.Assign [.Attribute (.Name x _) n _] (.Name y _) _]=>(cb (rK K C f)).b λg=>(cd (_="function")).b λqT=>(cb (sEq fd.name "__init__")).b λe=>(cb (Oy K fd.code fd.qualname)).b λd=>(cb (FE ["self","name"] ["self","name"] fd.scope)).b λc=>(cb (lB fd.params ["self","name"])).b λa=>(cb (sEq x "self")).b λe1=>(cb (sEq n "name")).b λe2=>(cb (sEq y "name")).b λe3=>.y (Bw g lk qT eb e d c a e1 e2 e3)|_=>.n
  |_=>.n
 |_=>.n
noncomputable def Jt(K:ME)(cn:List M3)(cs:List Kl):Bool:=((cn.zip cs).all λe=>yO K e.1 e.2.C)&&cs.all λk=>AY K k.C&&(if OV k.how 1 then ni K k.C else OV k.how 2&&(Il K k.C).ok&&B6 K k.C)&&yN (Oi K (.ref k.C) (.type "ValueError")) Mz&&cs.all λj=>yN (fZ K k.C j.C) (k.sup.any λa=>OV a j.C)&&yN (Oi K (.ref k.C) (.ref j.C)) (k.sup.any λa=>OV a j.C)
section
variable{K:ME}{cn:List M3}{cs:List Kl}
theorem fc(q:Jt K cn cs=Mz):(∀(c:Nat)(x:M3)(C:MD),cn[c]?=Mt x->yK cs c=Mt C->NQ K NA x=Mt (Mt (.ref C)))/\∀k∈cs,AY K k.C=Mz/\(k.how=1/\ni K k.C=Mz\/k.how=2/\AV K k.C/\B6 K k.C=Mz)/\Oi K (.ref k.C) (.type "ValueError")=Mt Mz/\∀j∈cs,fZ K k.C j.C=Mt (k.sup.any λa=>OV a j.C)/\Oi K (.ref k.C) (.ref j.C)=Mt (k.sup.any λa=>OV a j.C):=by
 simp only[Jt,ML,O3]at q;obtain⟨m,l⟩:=q;refine⟨λc x C n b=>?_,λk f=>?_⟩
 .unfold yK at b;cases f:cs[c]? with
  |none=>rw[f]at b;cases b|some k=>
   rw[f]at b;have b:k.C=C:=MI b;subst b;exact yP (m (x,k) (Nz (i:=c) (by rw[PM];exact⟨n,f⟩)))
 .obtain⟨⟨⟨p,d⟩,o⟩,h⟩:=l k f;refine⟨p,?_,nN o,λj g=>⟨nN (h j g).1,nN (h j g).2⟩⟩;split at d;.rename_i e;exact .inl ⟨Nr e,d⟩
  .simp only[ML]at d;exact .inr ⟨Nr d.1.1,Ch.of d.1.2,d.2⟩
theorem yQ{C:MD}{n:Nat}(h:yL cs C=n)(a:n≠0):∃k∈cs,k.C=C/\k.how=n:=by
 unfold yL at h;cases e:cs.find? λk=>OV k.C C with
 |none=>rw[e]at h;exact absurd h.symm a|some k=>
  rw[e]at h;exact⟨k,Tc e,Nr (List.find?_some (p:=λk:Kl=>OV k.C C) e),h⟩
theorem yR{c P:MD}{r:Bool}(h:tV cs c P=Mt r):∃k∈cs,∃j∈cs,k.C=c/\j.C=P/\r=k.sup.any λa=>OV a P:=by
 unfold tV at h;split at h
 .rename_i k e;split at h
  .rename_i e2;obtain⟨j,b,d⟩:=List.any_eq_true.mp e2;exact⟨k,Tc e,j,b,Nr (List.find?_some (p:=λk:Kl=>OV k.C c) e),Nr d,(MI h).symm⟩
  .cases h
 .cases h
end
noncomputable def Im(gl:Nat->Option D)(cs:List Kl):Gv:=⟨gl,yK cs,yL cs,tV cs,yM cs⟩
noncomputable def LI(K:ME):Bool:=cM.all λx=>match NQ K NA x with
 |some MA=>Mz|_=>My
noncomputable def LJ(K:ME)(gn:List M3)(ds:List (Option D)):Bool:=(gn.zip ds).all λe=>match e.2 with
 |some (.tup _)=>(match NQ K NA e.1 with
  |some (Mt (.ref a))=>(match K.lookup a with
   |some ⟨.type T,MA,_,_⟩=>decide (T="tuple")|_=>My)|_=>My)|_=>Mz
theorem E9{P:MX}{w:M_}{K:ME}{mg:M3->Option Mv}{base h:Na}{gn cn:List M3}{es:List En}{ds:List (Option D)}{cs:List Kl}{gl:Nat->Option D}(X:K.In h)(G:h.Ns NA mg)(m:∀i d,gl i=Mt d->(ds[i]?).join=Mt d\/(rR d=My/\∀x,gn[i]?=Mt x->∃u v,mg x=Mt u/\RelV v u/\∀(p:MD)(H:Hp),H p≠MA->K.lookup p=MA->Is ⟨K,p,P,w⟩ H v d)){dn:List M3}(s:dn=es.map (·.x))(I:E5 K ⟨dn,gn,cn⟩ es=Mz)(F:E8 K gn ds=Mz)(E:LJ K gn ds=Mz)(g:Jt K cn cs=Mz)(B:LI K=Mz)(hw:∀e∈es,∀t,e.k=.wit t->∃np,FD P w K mg base e.x np t):i8 P w K mg base ⟨dn,gn,cn⟩ (es.map (·.k)) (Im gl cs)where
 bl:=λx l=>by
  have:=List.all_eq_true.mp B x l;split at this;.rename_i e;exact Vw X G e
  .cases this
 df:=Bu X G I s hw;co:=λi x d l hd=>by
  rcases m i d hd with hd|⟨_,z⟩;rotate_left;.exact z x l
  obtain⟨u,e,b⟩:=Bv F l (Option.join_eq_some_iff.mp hd);obtain⟨v,r,J⟩:=b P w;exact⟨u,v,P6 X G e,r,J⟩
 cl:=λc x C l n=>P6 X G ((fc g).1 c x C l n);Bg:=λC n=>by
  obtain⟨k,f,rfl,e⟩:=yQ n (by decide);rcases((fc g).2 k f).2.1 with⟨_,z⟩|⟨z,_⟩;.exact z
  .rw[e]at z;cases z
 zg:=λC n=>by
  obtain⟨k,f,rfl,e⟩:=yQ n (by decide);rcases((fc g).2 k f).2.1 with⟨z,_⟩|⟨_,z⟩;.rw[e]at z;cases z
  .exact z
 sb:=λc P r h=>by
  obtain⟨k,f,j,q,rfl,rfl,rfl⟩:=yR h;exact(((fc g).2 k f).2.2.2 j q).1
 uO:=λc u r A nm=>by
  have h:yM cs c u=Mt r:=A;clear A;unfold yM at h;split at h
  .obtain⟨k,f,j,q,rfl,rfl,rfl⟩:=yR h;unfold d9;dsimp only;rw[if_pos ((fc g).2 k f).1];exact(((fc g).2 k f).2.2.2 j q).2
  .split at h
   .rename_i e;subst e;split at h
    .rename_i e2;obtain⟨k,f,y⟩:=List.any_eq_true.mp e2;have y:=Nr y;subst y;cases h;unfold d9;dsimp only;rw[if_pos ((fc g).2 k f).1];exact((fc g).2 k f).2.2.1
    .cases h
   .cases h
  .cases h
 ct:=λi x d l hd o=>by
  rcases m i d hd with hd|⟨z,_⟩;rotate_left;.rw[z]at o;cases o
  have L:(x,Mt d)∈gn.zip ds:=Nz (i:=i) (by rw[PM];exact⟨l,Option.join_eq_some_iff.mp hd⟩);have:=List.all_eq_true.mp E _ L;cases d<;>first|cases o|skip
  dsimp only at this;split at this
  .rename_i a e;split at this
   .rename_i T dt M lk;have:=of_decide_eq_true this;subst this;exact⟨a,_,P6 X G e,lk,rfl,rfl⟩
   .cases this
  .cases this
noncomputable def r_(K:ME):Sp:=λc H Q _=>∃(a:MD)(ns:List Int),c=[.ref a]/\cP K H a (ns.map V.int)/\ns.length<=63/\∀(p q:MD)(b:Hp),jS b p q 0->oA H b->H p=MA->Q (.ref p) b
theorem Io{ns:List Int}(h:ns.length<=63):mH (ns.map V.int) MA (Mt 63)=ns.map V.int:=by
 unfold mH;have e:HT.bL (ns.map V.int).length (ns.map V.int).length (Mt 63)=ns.length:=by
  have:=HT.zJ (ns.map V.int).length (ns.map V.int).length 63;rw[show((63:Nat):Int)=63 from rfl]at this;rw[this,MT];omega
 rw[e,HT.v7,U2,Nat.sub_zero,T7 (by simp)]
section
variable{P:MX}{w:M_}{K:ME}{mg:M3->Option Mv}{base:Na}
theorem Bx{x d:M3}{st:OM}{f:MD}{fd:N8}{k1 k2 k3:Nat}{p1 I G D C B z y v l:Od}(F:ur K x d st f fd)(S:bI ["_law_script"] ["_law_script"] (aj st))(c:mg "list"=MA)(O:bD st=[.Return (Mt (.List [.Call (.Name "list" p1) [.Subscript (.Name "_law_script" I) (.Slice MA (Mt (.Constant (.int 63) k1 G)) MA D) C] [] B,.Constant (.int 0) k2 z,.Constant (.int 0) k3 y] v)) l])(N:(aj st).names.lookup (MF "list")=Mt NameKind.globalImplicit):cw P w K mg base qp 1 f fd ["_law_script"] (r_ K):=by
 refine F.ok S (λu H Q E h=>?_) (λT A outer s H u Q E U h=>?_)
 .obtain⟨a,ns,rfl,_⟩:=h;rfl
 .obtain⟨a,ns,rfl,R,t,J⟩:=h;have L:n6 (aj st) "_law_script":=by
   rcases S.par _ MG with e|e;.exact .inl e
   .exact .inr (.inl e)
  rw[O];refine⟨_,fh (jF (qC (a_ (qU (lP gq N c Ur (a_ (ou sP (cv (i:=0) rfl L) sL (sM aD)) cR))) (a_ aD (a_ aD cR))))),?_⟩;refine⟨_,rfl,63,rfl,a,_,rfl,R,λg m=>?_⟩;rw[Io t];refine⟨g,_,rfl,.inl (cP.of ah),λq M=>⟨q,_,rfl,ah,λo=>?_⟩⟩;refine⟨by show 3<=MP;decide,λp k=>?_⟩;rw[aT]at k⊢;have s1:oA H (upd H g (.lst (ns.map V.int))):=λb o e=>by rw[ai (ar e m)];exact e
  have s2:oA (upd H g (.lst (ns.map V.int))) (upd (upd H g (.lst (ns.map V.int))) q (.bo o (.lst (ns.map V.int)))):=λb o e=>by rw[ai (ar e M)];exact e
  have j:q≠p:=ar (ah (H:=upd H g (.lst (ns.map V.int))) (a:=q) (o:=.bo o (.lst (ns.map V.int)))) k;have n:H p=MA:=by cases e:H p with
   |none=>rfl|some r=>rw[s2 p r (s1 p r e)]at k;cases k
  refine J p q _ ⟨ns,0,0,⟨ah,⟨o,by rw[ai j];exact ah⟩,j,We _,We _,t⟩,We _⟩ (λb o e=>?_) n;rw[ai (ar (s2 b o (s1 b o e)) k)];exact s2 b o (s1 b o e)
end
inductive T.cu{α:Type}:Nat->(α->Prop)->T α->Prop where|ok{m:Nat}{P:α->Prop}{a:α}(h:P a):T.cu m P (.ok a)|draw{m:Nat}{P:α->Prop}{n:Int}{k:Int->T α}(h1:0<n)(h2:n<1073741824)(h3:∀i,0<=i->i<n->T.cu m P (k i)):T.cu (m+1) P (.draw n k)
theorem T.yS{c:Type}{P:c->Prop}{E:Xc->Nat->Prop}{t:T c}{m:Nat}(h:t.cu m P):∀k,k+m<=1000000->t.au.run k (λa _=>P a) E:=by induction h with
 |ok h=>intro k _;exact h|draw j g n f=>
  intro k l;exact⟨⟨j,g⟩,by omega,λe a b i d=>f i d.1 d.2 e (by omega)⟩
theorem T.aP{c:Type}{P d:c->Prop}(hP:∀a,P a->d a)(t:T c){m m':Nat}(h:t.cu m P):m<=m'->t.cu m' d:=by induction h generalizing m' with
 |ok h=>intro _;exact .ok (hP _ h)|draw g f k e=>
  intro j;cases m' with
  |zero=>omega|succ m'=>exact .draw g f λi a b=>e i a b hP (by omega)
theorem T.bO{d c:Type}{P:c->Prop}{f:d->T c}{m':Nat}(t:T d){m:Nat}(h:t.cu m (λa=>(f a).cu m' P)):(t>>=f).cu (m+m') P:=by
 generalize g:(λa=>(f a).cu m' P)=Q at h;induction h with
 |ok h=>
  subst g;exact T.aP (λ_ z=>z) _ h (by omega)|@draw e q n k o l p j=>
  rw[show e+1+m'=(e+m')+1 by omega];exact .draw (k:=λi=>(k i).bind f) o l λi a b=>j i a b g
noncomputable def yT(K:ME):Sp:=λb H Q _=>∃(a:MD)(ns:List Int),b=[.ref a]/\cP K H a (ns.map V.int)/\ns.length<=63/\∀c,Q (.bl Mz) c
section
variable{P:MX}{w:M_}{K:ME}{mg:M3->Option Mv}{base:Na}{g:cQ}{defs:List Dk}{b:Gv}
theorem E_{x c:M3}{st:OM}{f:MD}{fd:N8}{N:List M3}{r:dj}{k:List OM}{n m:Nat}{xn zn:M3}{p1 p2 p3 p4 p5:Od}(T:i8 P w K mg base g defs b)(F:ur K x c st f fd)(S:bI N ["_law_script"] (aj st))(feed:∃f fd,cw P w K mg base qp 1 f fd ["_law_script"] (r_ K)/\mg "_law_feed"=Mt (.ref f)/\QP K (.ref f)=Mz/\Binds K fd ["_law_script"] [])(hb:bD st=.Assign [.Name xn p1] (.Call (.Name "_law_feed" p2) [.Name zn p3] [] p4) p5::k)(V:c_ ⟨N,aj st,Mz⟩ 1 xn=Mz)(U:dI ⟨N,aj st,Mz⟩ 0 zn=Mz)(R:bf ⟨N,aj st,Mz⟩ "_law_feed"=Mz)(q4:yH g ⟨N,aj st,Mz⟩ r k)(hm:m<=1000000)(ev:(br (b.ev (n+1) (dg defs b (n+1))) r (MA::Mt .feed::OQ (N.length-2) MA)).cu m (λfl=>fl=.rt (.bl Mz))):cw P w K mg base qp (n+2) f fd ["_law_script"] (yT K):=by
 obtain⟨oc,od,kV,a9,pm,an,B,ct,a5,rfl,lk,A⟩:=F.ex;refine v5 lk A S (λvs H Q E h=>?_) λA' outer s H vs Q E y h=>?_
 .obtain⟨a,ns,rfl,_⟩:=h;rfl
 .obtain⟨a,ns,rfl,hS,hn,hQ⟩:=h;have C:∀(p:MD)(l:Hp),XC g (b.ev (n+1) (dg defs b (n+1))) ⟨N,aj st,Mz⟩ (g9 qp P w K mg base N c (aj st) f B A' outer s H E) ⟨⟨K,p,P,w⟩,l,0,λ_ _=>False,l,0⟩:=λp l=>⟨rfl,rfl,rfl,rfl,S.nd,rfl,rfl,y.units,λ_ _=>rfl,mark_none y.hd,T.bl,λf' O X=>by
    obtain⟨np,J,h2⟩:=i8.all T (n+1) f' O X;exact⟨np,n+1,y,J,h2⟩,λi O d' hi a3=>by
    obtain⟨u,v,V,U,R⟩:=T.co i O d' hi a3;exact⟨u,v,V,U,λH hH hp=>R p H hH hp⟩,uL.never λ_ _ z=>z,λ_=>⟨rfl,rfl⟩,T.cl,T.Bg,T.zg,y,T.sb,T.uO,λ_=>⟨c,A⟩,T.ct⟩;obtain⟨J,h2,h3⟩:=(C 0 H).loc V;obtain⟨v1,v2,v3,v4⟩:=(C 0 H).sG U;obtain⟨g1,g2,g3⟩:=(C 0 H).gl R;obtain⟨ff,a8,FF,Y,a0,a4⟩:=feed;rw[hb];have rs:n9 (g9 qp P w K mg base N c (aj st) f B A' outer s H E) k (λZ L o=>∃p l,J7 ⟨⟨K,p,P,w⟩,l,0,λ_ _=>False,l,0⟩ (λρ=>(br (b.ev (n+1) (dg defs b (n+1))) r ρ).au) Z L o):=λt s L o D I⟨p,l,z⟩=>(q4 _ _ _ V1 (C p l)).ps t s L o D I z;refine⟨_,bb (bX (i:=1) S.nd J h2 (zH (FF.mono (by omega:1<=n+1)) y g1 Y a0 a4 .nil Gi (a_ (cv (i:=0) v1 v2 v3 v4) cR) g2) rfl h3) rs,?_⟩;refine⟨_,rfl,a,ns,rfl,hS,hn,λp q o fq sm hp=>?_⟩;have lv:o p≠MA:=by obtain⟨_,_,_,G,_⟩:=fq;rw[G.ob];intro z;cases z
  refine⟨p,o,MA::Mt .feed::OQ (N.length-2) MA,0,?_,?_⟩
  .have a7:2<=N.length:=by have:=(List.getElem?_eq_some_iff.mp J).1;exact this
   have only:∀(i:Nat)(d:W),(MA::Mt W.feed::OQ (N.length-2) MA:ag)[i]?=Mt (Mt d)->i=1/\d=.feed:=λi d e=>by match i,e with
    |0,e=>cases e|1,e=>exact⟨rfl,by cases e;rfl⟩|i+2,e=>
     simp only[RE]at e;have:=Nz e;rw[List.mem_replicate]at this;cases this.2
   refine⟨?_,λi d e=>?_,λi j d e v a6 a1 a2 o1 o2=>?_,lv,.refl,.refl⟩
   .simp only[start,Nn,O2,Uw,Of,MT,NG];omega
   .obtain⟨rfl,rfl⟩:=only i d e;refine⟨.ref p,?_,rfl,q,fq⟩;rw[RM];simp only[start,Nn,O2,Of,MT,NG];omega
   .obtain⟨_,rfl⟩:=only i d a1;cases o1
  .refine M.wk (L2.T.yS ev 0 (by omega)) λfl k' e=>?_;subst e;intro v H2 e1 i;simp only[Is]at i;subst i;exact hQ H2
end
noncomputable def T.allB{b:Type}(P:b->Bool):Nat->T b->Bool
 |_,.ok a=>P a|_,.exc _=>My|_,.stuck=>My|0,.draw _ _=>My|m+1,.draw n k=>decide (0<n)&&decide (n<1073741824)&&(N6 n.toNat).all λi=>(k (i:Int)).allB P m
theorem T.jA{c:Type}{P:c->Bool}:∀(t:T c){m:Nat},t.allB P m=Mz->t.cu m (λa=>P a=Mz)
 |.ok a,m,h=>by
  have h:P a=Mz:=by cases m<;>exact h
  exact .ok h|.exc _,m,h=>by cases m<;>exact nomatch(show My=Mz from h)|.stuck,m,h=>by cases m<;>exact nomatch(show My=Mz from h)|.draw n k,0,h=>nomatch(show My=Mz from h)|.draw n k,m+1,h=>by
  have h:(decide (0<n)&&decide (n<1073741824)&&(N6 n.toNat).all λi=>(k (i:Int)).allB P m)=Mz:=h;simp only[ML,decide_eq_true_eq,O3,List.mem_range]at h;refine .draw h.1.1 h.1.2 λi a b=>?_;have:=h.2 i.toNat (by omega);rw[show((i.toNat:Nat):Int)=i by omega]at this;exact T.jA (k i) this
theorem T.By{d:Type}{P:d->Prop}{c:ag}(t:T d){m:Nat}(h:t.cu m P):(t.at' c).cu m P:=by induction h with
 |ok h=>exact .ok h|@draw j o n k g f l e=>exact .draw (k:=λi=>(k i).at' c) g f λi a b=>e i a b
theorem T.vo{c:Type}{P:c->Prop}(t:T c){m:Nat}(h:t.cu m P):t.calm.cu m P:=by induction h with
 |ok h=>exact .ok h|@draw g l n k f e j d=>exact .draw (k:=λi=>(k i).calm) f e λi a b=>d i a b
noncomputable def vq(K:ME)(x:M3):Option (MD×N8×List OM):=match NQ K NA x with
 |some (Mt (.ref f))=>(match K.lookup f with
  |some ⟨_,_,.func fd,_⟩=>(match Bt fd with
   |some b=>if Oy K fd.code fd.qualname then Mt (f,fd,b)else MA|none=>MA)|_=>MA)|_=>MA
noncomputable def gZ(t:MD×N8×List OM):M3×M3×TH×List OM×OJ:=(t.2.1.name,t.2.1.qualname,t.2.1.params,t.2.2,t.2.1.scope)
theorem kM{K:ME}{x y q:M3}{st:OM}{ps:List M3}(h:(vq K x).map gZ=Mt (y,q,cB st,bD st,aj st))(n:lB (cB st) ps=Mz):∃f fd,ur K y q st f fd/\NQ K NA x=Mt (Mt (.ref f))/\∀us:List Mv,us.length=ps.length->VE fd ⟨us,[]⟩=pure (ps.zip us):=by cases e:vq K x with
 |none=>rw[e]at h;cases h|some t=>
  obtain⟨f,fd,b⟩:=t;rw[e]at h;simp only[Rt,gZ,Ov,Prod.mk.injEq]at h;obtain⟨s,k,j,r,p⟩:=h;unfold vq at e;split at e
  .rename_i w en;split at e
   .rename_i i g u a lk;split at e
    .rename_i z l;split at e
     .rename_i o;cases e;have F:=r8 lk l o;refine⟨f,fd,⟨?_,F.kp⟩,en,?_⟩
      .obtain⟨i,g,kV,c,m,v,d,ct,a,e1,e2,e3⟩:=F.ex;rw[s,k,show cB (yJ fd b)=cB st from j,show bD (yJ fd b)=bD st from r,show aj (yJ fd b)=aj st from p]at e1;rw[k]at e3;exact⟨i,g,kV,c,m,v,d,ct,a,e1,e2,e3⟩
      .exact bind_eq l (by rw[j];exact n)
     .cases e
    .cases e
   .cases e
  .cases e
noncomputable def tW(K:ME)(x:M3):Option (MD×Array Q8):=match NQ K NA x with
 |some (Mt (.ref a))=>(match K.lookup a with
  |some ⟨.type T,MA,.dict c _,b⟩=>if T="dict"/\b.isEmpty=Mz/\OV a Pn=My then Mt (a,c)else MA|_=>MA)|_=>MA
noncomputable def K3:Q8->Option (M3×Ut×Mv)
 |⟨_,.str x t,v⟩=>Mt (x,t,v)|_=>MA
noncomputable def Fc(w:M_)(e:M3×Ut×Mv):Q8:=⟨FJ w (.inr e.1),.str e.1 e.2.1,e.2.2⟩
noncomputable def yU(K:ME)(x:M3):List Q8:=match tW K x with
 |some (_,a)=>a.toList|none=>[]
noncomputable def yV(K:ME)(x:M3):List (M3×Ut×Mv):=(yU K x).filterMap K3
noncomputable def Fd(K:ME)(x:M3)(xs:List M3)(ds:List D):Bool:=(tW K x).isSome&&vm ((yV K x).map (·.1)) xs&&EE xs&&(E7 K ds ((yV K x).map (·.2.2))).ok&&decide (xs.length<=MP)
theorem my{P:MX}{w:M_}:∀(l:List (M3×Ut×Mv)),Pairs (ao P w) (l.map (Fc w)) (l.map λe=>(Q4 e.1,e.2.2))
 |[]=>.nil|e::l=>.cons (g0 e.1 e.2.1) rfl (my l)
theorem yW:∀{l:List (M3×Ut×Mv)}{vs:List V},ak vs (l.map (·.2.2))->∃a:List (Key×V),KV a (l.map λe=>(Q4 e.1,e.2.2))/\a.map (·.2)=vs/\a.map (λx=>kD x.1)=(l.map (·.1)).map D.str
 |[],_,.nil=>⟨[],.nil,rfl,rfl⟩|e::l,_,.cons r t=>by
  obtain⟨a,d,c,b⟩:=yW t;refine⟨(Q4 e.1,_)::a,.cons ⟨rfl,r⟩ d,by rw[M9,c],by rw[M9,b];rfl⟩
theorem Fe{P:MX}{w:M_}{K:ME}{x:M3}{xs:List M3}{ds:List D}(q:Fd K x xs ds=Mz)(i:yU K x=(yV K x).map (Fc w)):∃u v,NQ K NA x=Mt (Mt u)/\RelV v u/\∀(p:MD)(H:Hp),H p≠MA->K.lookup p=MA->Is ⟨K,p,P,w⟩ H v (.bR (xs.map D.str) ds):=by
 simp only[Fd,ML,decide_eq_true_eq]at q;obtain⟨⟨⟨⟨k,d⟩,A⟩,s⟩,r⟩:=q;have d:=jz d;cases e:tW K x with
 |none=>rw[e]at k;cases k|some t=>
  obtain⟨a,j⟩:=t;have I:yU K x=j.toList:=by unfold yU;rw[e]
  rw[I]at i;unfold tW at e;split at e
  .rename_i O en;split at e
   .rename_i T J L N lk;split at e
    .rename_i c;obtain⟨rfl,c2,m⟩:=c;cases e;obtain⟨n,o,F⟩:=Ch.of s P w;obtain⟨f,E,C,B⟩:=yW o;refine⟨_,.ref a,en,rfl,λp H G l=>?_⟩;simp only[Is];refine⟨a,n,rfl,⟨_,⟨λz=>?_,?_,.inr lk⟩,by rw[MT];exact r,.inl ⟨f,_,E,⟨j,L,⟨rfl,rfl,?_⟩,rfl,?_,?_,?_⟩,?_,C.symm⟩⟩,F p H G l⟩
     .have z:a=p:=z;rw[z,l]at lk;cases lk
     .rw[beq_eq_false_iff_ne];intro z;rw[z,V0]at m;cases m
     .exact Array.isEmpty_iff.mp c2
     .intro M g;have:M∈j.toList:=by simpa using g
      rw[i]at this;obtain⟨y,_,rfl⟩:=List.mem_map.mp this;exact⟨Q4 y.1,g0 y.1 y.2.1,rfl⟩
     .rw[i];exact my _
     .rw[N5];have:(λe:M3×Ut×Mv=>(Q4 e.1:Key))=Q4∘(·.1):=rfl;show((yV K x).map λe=>(Q4 e.1:Key)).Nodup;rw[this,<-N5,d];exact To _ (λa b h z=>h (Sum.inr.inj z)) (dM A)
     .rw[B,d]
    .cases e
   .cases e
  .cases e
end L2
end
section
namespace K56d
open PySem L2
noncomputable def Ff(i:Nat):OM:=PySem.Challenge.pw_wallplan_k56_refusals_of_their_own.main.body.getD i (.Pass ⟨0,0,0,0⟩)
noncomputable abbrev pV:OM:=Ff 154
noncomputable abbrev yX:OM:=Ff 153
noncomputable abbrev pW:OM:=Ff 160
noncomputable def FG(p:MD)(H H':Hp):Prop:=∀b,b≠p->H' b=H b
theorem FG.upd{p:MD}{H:Hp}{o:HO}:FG p H (upd H p o):=λ_ h=>ai h
noncomputable def Fg:Sp:=λb H Q _=>∃(p q:MD)(n:Int)(k:Nat),b=[.ref p,.int n]/\jS H p q k/\k<1000000/\0<n/\n<1073741824/\∀(z:Int)(a:Hp),0<=z->z<n->jS a p q (k+1)->FG p H a->Q (.int z) a
section
variable{P:MX}{w:M_}{K:ME}{mg:M3->Option Mv}{base:Na}
theorem Fh:bI ["_law_script"] ["_law_script"] (aj yX):=⟨rfl,rfl,rfl,by decide+kernel,rfl,by decide+kernel,by decide+kernel⟩
theorem gf:bI ["_law_feed_here","_law_many","_law_got","_law_at","_law_cell","_law_number"] ["_law_feed_here","_law_many"] (aj pV):=⟨rfl,rfl,rfl,by decide+kernel,rfl,by decide+kernel,by decide+kernel⟩
theorem Ju{a b c:V}:lQ [a,b,c] 0=Mt a:=jm (j:=0) rfl
theorem L_{a b c:V}:lQ [a,b,c] 1=Mt b:=jm (j:=1) rfl
theorem at2{a b c:V}:lQ [a,b,c] 2=Mt c:=jm (j:=2) rfl
theorem bU.Fi{H:Hp}{p q:MD}{ns:List Int}{i r:Int}(F:bU H p q ns i r){b a:Int}(e:0<=b)(d:0<=a):bU (upd H p (.lst [.ref q,.int b,.int a])) p q ns b a:=let⟨o,c⟩:=F.cs;⟨ah,⟨o,by rw[ai F.ne];exact c⟩,F.ne,e,d,F.ln⟩
theorem bU.sq{K:ME}{H:Hp}{p q:MD}{ns:List Int}{i r:Int}(F:bU H p q ns i r):cP K H q (ns.map V.int):=.inl (.inr F.cs)
theorem Bz{ns:List Int}{i:Int}(a:(0:Int)<((ns.map V.int).length:Int)):∃c,lQ (ns.map V.int) (i%((ns.map V.int).length:Int))=Mt (.int c):=by
 have f:=Qi i a;have d:=Rp i (show((ns.map V.int).length:Int)≠0 by omega);have e:((i%((ns.map V.int).length:Int)).toNat:Int)=i%((ns.map V.int).length:Int):=by omega
 have b:(ns.map V.int).length=ns.length:=MT ..;have hlt:(i%((ns.map V.int).length:Int)).toNat<ns.length:=by omega
 rw[<-e];refine⟨ns[(i%((ns.map V.int).length:Int)).toNat]'hlt,jm ?_⟩;rw[Nq,MZ hlt];rfl
theorem BA{f:MD}{fd:N8}(F:ur K "_law_draw" "_law_draw" pV f fd)(e:mg "len"=MA):cw P w K mg base qp 1 f fd ["_law_feed_here","_law_many"] Fg:=by
 refine F.ok gf (λC H Q E h=>?_) (λM A outer s H C Q E D h=>?_)
 .obtain⟨p,q,n,k,rfl,_⟩:=h;rfl
 .obtain⟨p,q,n,k,rfl,⟨ns,i,r,G,I⟩,N,d,m,u⟩:=h;have hu:=Gj D;refine⟨_,bb (sE (gm vV (fE b9 (pv 0) aD (λ_ _=>rfl)) aD (g6 _)) (bb (bX (i:=2) gf.nd rfl (RQ rfl) (bg du (fE b9 (pv 0) aD (λ_ _=>rfl)) (pv 1))) (bb (mG (bg jk (fE b9 (pv 0) aD (λ_ _=>rfl)) (pv 1)) (qv (pv 0) aD set_list)) (fh (jF (pv 2))))) jj) (bb (bX (i:=3) gf.nd rfl (RQ rfl) (fE b9 (pv 0) aD (λ_ _=>rfl))) (bb (mG (bg jH (pv 3) aD) (qv (pv 0) aD set_list)) (bb (bX (i:=4) gf.nd rfl (RQ rfl) (pv 3)) (bb (sE (gm vV (dy dR (by rfl) e U4 (a_ (fE b9 (pv 0) aD (λ_ _=>rfl)) cR)) aD (g6 _)) (fh (bX (i:=4) gf.nd rfl (RQ rfl) (fE b9 (fE b9 (pv 0) aD (λ_ _=>rfl)) (bg du (pv 3) (dy dR (by rfl) e U4 (a_ (fE b9 (pv 0) aD (λ_ _=>rfl)) cR))) (λ_ _=>rfl)))) jj) (bb (sE (vO (gm BQ (pv 4) (bg CS aD aD) (g6 _)) (sD (gm F3 (pv 3) (dy dR (by rfl) e U4 (a_ (fE b9 (pv 0) aD (λ_ _=>rfl)) cR)) (g6 _)))).pt (bb (mG (bg jk (pv 4) (pv 1)) (qv (pv 0) aD set_list)) (fh (jF (bg du (pv 4) (pv 1))))) jj) (bb (bX (i:=5) gf.nd rfl (RQ rfl) (bg du (bg fL (bg jH (bg jH (bg du (pv 4) aD) (bg fL (bg fL aD (pv 3)) (pv 3))) aD) aD) aD)) (bb (bX (i:=5) gf.nd rfl (RQ rfl) (bg du (bg jH (bg fL (pv 5) (pv 5)) (bg fL aD (pv 3))) aD)) (fh (jF (bg du (bg jk (bg du (bg fL (pv 5) (bg jH (bg du (pv 5) aD) aD)) aD) aD) (pv 1))))))))))),?_⟩;refine⟨_,rfl,p,_,_,_,rfl,rfl,cP.of G.ob,at2,_,_,rfl,rfl,_,rfl,?_⟩;refine zO (λL=>?_) (λL=>?_)
  .refine⟨_,rfl,p,_,_,_,rfl,rfl,cP.of G.ob,at2,_,rfl,_,_,rfl,rfl,d,?_⟩;refine⟨_,rfl,p,_,_,_,rfl,rfl,cP.of G.ob,at2,_,rfl,_,_,rfl,rfl,⟨d,m⟩,_,rfl,p,_,_,2,rfl,rfl,G.ob,rfl,?_⟩;refine⟨_,rfl,?_⟩;exact u _ _ (Rp _ (by omega)) (Qi _ d) ⟨ns,i,_,bU.Fi G G.i0 (Int.ediv_nonneg G.r0 (by omega)),by omega⟩ FG.upd
  .have i0:=G.i0;refine⟨_,rfl,p,_,_,_,rfl,rfl,cP.of G.ob,L_,?_⟩;refine⟨_,rfl,_,_,rfl,rfl,_,rfl,p,_,_,1,rfl,rfl,G.ob,rfl,?_⟩;have g:bU (upd H p (.lst [.ref q,.int (i+1),.int r])) p q ns (i+1) r:=bU.Fi G (by omega) G.r0;refine⟨_,rfl,?_⟩;refine⟨_,rfl,p,_,_,_,rfl,rfl,cP.of g.ob,Ju,q,_,rfl,.inl ((bU.sq g)),_,_,rfl,rfl,_,rfl,?_⟩;refine zO (λB=>?a) (λB=>?b);case' a=>
    have l:(0:Int)<((ns.map V.int).length:Int):=of_decide_eq_true B;obtain⟨c,o⟩:=Bz (i:=i) l;refine⟨_,rfl,p,_,_,_,rfl,rfl,cP.of g.ob,Ju,_,rfl,_,rfl,p,_,_,_,rfl,rfl,cP.of g.ob,Ju,q,_,rfl,.inl ((bU.sq g)),_,_,rfl,rfl,l,q,_,_,_,rfl,rfl,(bU.sq g),o,?_⟩;clear o
   all_goals
    refine⟨_,rfl,_,_,rfl,rfl,⟨by decide,by decide,by decide⟩,_,_,rfl,rfl,_,rfl,?_⟩;refine(λj=>zO (λz=>?x) (λz=>J5 j)) ?y;case x=>
     refine⟨_,rfl,_,rfl,p,_,_,_,rfl,rfl,cP.of g.ob,Ju,q,_,rfl,.inl ((bU.sq g)),_,_,rfl,rfl,_,rfl,?_⟩;refine zO (λJ=>?_) (λJ=>j);refine⟨_,rfl,_,rfl,_,_,rfl,rfl,⟨d,m⟩,_,rfl,p,_,_,2,rfl,rfl,g.ob,rfl,?_⟩;refine⟨_,rfl,_,rfl,_,_,rfl,rfl,d,?_⟩;have v:=of_decide_eq_true z;have t:(0:Int)<=10^(Int.toNat 18):=by decide
     refine u _ _ (Rp _ (by omega)) (Qi _ d) ⟨ns,i+1,_,(by rw[aT];exact bU.Fi G (by omega) (Int.ediv_nonneg (Int.le_trans t v) (by omega))),by omega⟩ (by rw[aT];exact FG.upd)
    case y=>
     refine⟨_,rfl,_,_,rfl,rfl,(by show(0:Int)<2147483647;decide),_,rfl,_,_,rfl,rfl,.inl ⟨by decide,by decide⟩,_,rfl,_,_,rfl,rfl,.inr ⟨by omega,by omega⟩,_,_,rfl,rfl,_,_,rfl,rfl,_,_,rfl,rfl,.inr ⟨by decide,by decide⟩,_,_,rfl,rfl,(by show(0:Int)<2147483647;decide),?_⟩;refine⟨_,rfl,_,rfl,_,_,rfl,rfl,.inl ⟨by omega,by omega⟩,_,rfl,_,_,rfl,rfl,.inl ⟨by decide,by decide⟩,_,_,rfl,rfl,_,_,rfl,rfl,(by show(0:Int)<2147483629;decide),?_⟩;refine⟨_,rfl,_,rfl,_,_,rfl,rfl,(by show(0:Int)<65521;decide),_,_,rfl,rfl,_,_,rfl,rfl,.inl ⟨by omega,by omega⟩,_,_,rfl,rfl,(by show(0:Int)<2147483587;decide),_,_,rfl,rfl,⟨by decide,by decide⟩,_,rfl,_,_,rfl,rfl,d,?_⟩;exact u _ _ (Rp _ (by omega)) (Qi _ d) ⟨ns,i+1,r,g,by omega⟩ FG.upd
noncomputable def tX:List A->T D
 |[.feed,.d (.int n)]=>.draw n λi=>.ok (.int i)|_=>.stuck
theorem i9{d c:Type}{R:d->c->Prop}{l:List d}{y:c}{ys:List c}(h:Paired R l (y::ys)):∃x xs,l=x::xs/\R x y/\Paired R xs ys:=by cases h with|cons a b=>exact⟨_,_,rfl,a,b⟩
theorem sd{b a:Type}{R:b->a->Prop}{l:List b}(h:Paired R l ([]:List a)):l=[]:=by cases h;rfl
theorem yY{f:MD}{fd:N8}(F:ur K "_law_draw" "_law_draw" pV f fd)(a:mg "len"=MA)(D:mg "_law_draw"=Mt (.ref f))(U:Binds K fd ["_law_feed_here","_law_many"] []):FD P w K mg base "_law_draw" 2 tX:=by
 refine⟨⟨["_law_feed_here","_law_many"],rfl,f,fd,(BA F a).any.imp λV H Q E z=>?_,D,F.kp,U⟩,λas c=>?_⟩
 .obtain⟨p,k,as,hp,x,c,z⟩:=z;rcases as with _|⟨S,_|⟨R,_|⟨a3,r⟩⟩⟩;.exact absurd c (by simp)
  .exact absurd c (by simp)
  rotate_left;.exact absurd c (by simp)
  cases S with
  |d y=>exact N7 z|feed=>cases R with
  |feed=>exact N7 z|d y=>cases y with
  |int n=>
   obtain⟨X,u,rfl,C,h⟩:=i9 x;obtain⟨W,t,rfl,i2,B⟩:=i9 h;obtain rfl:=sd B;obtain⟨rfl,q,m⟩:=C;have i2:Is ⟨K,p,P,w⟩ H _ (.int n):=i2;simp only[Is]at i2;subst i2;obtain⟨⟨l,j⟩,hk,z⟩:=z;refine⟨p,q,n,k,rfl,m,by omega,l,j,λi T J I s O=>?_⟩;refine z (k+1) (by omega) (by omega) i ⟨J,I⟩ (.int i) T ⟨λb o G e=>by rw[O b G];exact e,λ_=>?_,by omega,λv N=>?_⟩ (by simp only[Is])
   .obtain⟨ns,Z,Y,g,_⟩:=s;exactλe=>by rw[g.ob]at e;cases e
   .have:v=q:=by
     obtain⟨_,_,_,M,_⟩:=N;obtain⟨_,_,_,L,_⟩:=m;have e1:=M.ob;have e2:=L.ob;rw[e1]at e2;injection e2 with e2;injection e2 with e2;injection e2 with e2 _;injection e2
    rw[this];exact s|_=>exact N7 z
 .match as with
  |[]=>rfl|[_]=>cases‹A›<;>rfl|[_,_]=>exact absurd rfl c|.d _::_::_::_=>rfl|.feed::.feed::_::_=>rfl|.feed::.d y::_::_=>cases y<;>rfl
end
end K56d
end
section
namespace K56
open PySem L2
noncomputable def nn(l:List String):List M3:=l.map MF
noncomputable def aa:List Ex->Ex
 |[]=>.nil|x::r=>.cons x (aa r)
noncomputable def ss:List dj->dj
 |[]=>.nil|x::r=>.cons x (ss r)
noncomputable def pX:Df:=⟨1,1,(ss [.ret (.and (.B_ "int" (.var 0)) (.one (.not (.B_ "bool" (.var 0)))))])⟩
noncomputable def se:Df:=⟨3,3,(ss [.ret (.and (.call 0 (aa [.var 0])) (.one (.Jo .LtE .LtE (.var 1) (.var 0) (.var 2))))])⟩
noncomputable def yZ:Df:=⟨2,2,(ss [.ret (.and (.B_ "tuple" (.var 0)) (.one (.cmp .Eq (.bi .len (aa [.var 0])) (.var 1))))])⟩
noncomputable def vt:Df:=⟨1,1,(ss [.ret (.and (.call 2 (aa [.var 0,.cst (.int 2)])) (.one (.bi .all (aa [.lc ["place"] [] (.nm 0) (.aO (.var 0)) .yes (.call 1 (aa [.var 0,.cst (.int 0),.d_ 3]))]))))])⟩
noncomputable def lC:Df:=⟨1,3,(ss [.asg (.tup 2 (.cons (.nm 1) (.cons (.nm 2) .nil))) (.var 0),.ret (.and (.cmp .Lt (.var 1) (.var 2)) (.one (.or (.cmp .Eq (.idx (.var 1) (.cst (.int 0))) (.idx (.var 2) (.cst (.int 0)))) (.one (.cmp .Eq (.idx (.var 1) (.cst (.int 1))) (.idx (.var 2) (.cst (.int 1))))))))])⟩
noncomputable def vw:Df:=⟨2,8,(ss [.asg (.tup 2 (.cons (.tup 2 (.cons (.nm 2) (.cons (.nm 3) .nil))) (.cons (.tup 2 (.cons (.nm 4) (.cons (.nm 5) .nil))) .nil))) (.tup (aa [.var 0,.var 1])),.set 6 (.tup (aa [.bi .max2 (aa [.idx (.var 2) (.cst (.int 0)),.idx (.var 4) (.cst (.int 0))]),.bi .max2 (aa [.idx (.var 2) (.cst (.int 1)),.idx (.var 4) (.cst (.int 1))])])),.set 7 (.tup (aa [.bi .min2 (aa [.idx (.var 3) (.cst (.int 0)),.idx (.var 5) (.cst (.int 0))]),.bi .min2 (aa [.idx (.var 3) (.cst (.int 1)),.idx (.var 5) (.cst (.int 1))])])),.iff (.pG (.aK .Gt (.idx (.var 6) (.cst (.int 0))) (.idx (.var 7) (.cst (.int 0)))) (.bP (.aK .Gt (.idx (.var 6) (.cst (.int 1))) (.idx (.var 7) (.cst (.int 1)))))) (ss [.bad]) .nil,.ret (.tup (aa [.var 6,.var 7]))])⟩
noncomputable def BB:Df:=⟨1,1,(ss [.ret (.dc ["c","x","y"] [] (.tup 3 (.cons (.nm 0) (.cons (.nm 1) (.cons (.nm 2) .nil)))) (.aO (.idx (.var 0) (.cst (.int 0)))) .yes (.var 0) (.tup (aa [.var 1,.var 2])))])⟩
noncomputable def BC:Df:=⟨1,2,(ss [.set 1 (.call 6 (aa [.var 0])),.ret (.lc ["a","b"] [1] (.tup 2 (.cons (.nm 0) (.cons (.nm 1) .nil))) (.aO (.idx (.var 0) (.cst (.int 1)))) .yes (.tup (aa [.idx (.var 2) (.var 0),.idx (.var 2) (.var 1)])))])⟩
noncomputable def nO:Df:=⟨2,2,(ss [.ret (.and (.call 0 (aa [.var 1])) (.one (.cmp .In (.var 1) (.call 6 (aa [.var 0])))))])⟩
noncomputable def y0:Df:=⟨1,4,(ss [.iff (.cy (.gP (.call 2 (aa [.var 0,.cst (.int 2)])))) (ss [.ret (.cst (.bl My))]) .nil,.bad,.bad,.bad,.bad])⟩
noncomputable def sf:Df:=⟨1,1,(ss [.iff (.cy (.gP (.call 9 (aa [.var 0])))) (ss [.raise 1 (aa [.cst (.str "this is no net")])]) .nil])⟩
noncomputable def y4:Df:=⟨2,2,(ss [.iff (.aK .Eq (.idx (.var 0) (.cst (.int 1))) (.idx (.var 1) (.cst (.int 1)))) (ss [.bad]) .nil,.ret (.A_ (.aK .Lt (.idx (.var 0) (.cst (.int 1))) (.idx (.var 1) (.cst (.int 1)))) (.d_ 5) (.d_ 7))])⟩
noncomputable def BD:Df:=⟨1,1,(ss [.ret (.bi .sorted (aa [.op .Add (.bi .list (aa [.idx (.var 0) (.cst (.int 1))])) (.lc ["a","b"] [] (.tup 2 (.cons (.nm 0) (.cons (.nm 1) .nil))) (.aO (.idx (.var 0) (.cst (.int 1)))) .yes (.tup (aa [.var 1,.var 0])))]))])⟩
noncomputable def nP:Df:=⟨1,4,(ss [.set 1 (.call 6 (aa [.var 0])),.set 2 (.dc ["a","b"] [1] (.tup 2 (.cons (.nm 0) (.cons (.nm 1) .nil))) (.aO (.call 12 (aa [.var 0]))) .yes (.tup (aa [.var 0,.var 1])) (.call 11 (aa [.idx (.var 2) (.var 0),.idx (.var 2) (.var 1)]))),.set 3 (.dc ["a","b"] [2] (.tup 2 (.cons (.nm 0) (.cons (.nm 1) .nil))) (.aO (.var 2)) .yes (.tup (aa [.var 0,.idx (.var 2) (.tup (aa [.var 0,.var 1]))])) (.var 1)),.ret (.dc ["side"] [2,3] (.nm 0) (.aO (.var 2)) .yes (.var 0) (.call 14 (aa [.var 2,.var 0,.idx (.var 1) (.var 0)])))])⟩
noncomputable def pY:Df:=⟨3,7,(ss [.asg (.tup 2 (.cons (.nm 3) (.cons (.nm 4) .nil))) (.var 1),.b7 (.nm 5) (.aO (.d_ 8)) (ss [.set 6 (.tup (aa [.var 4,.op .Mod (.op .Add (.var 2) (.var 5)) (.cst (.int 4))])),.iff (.aK .In (.var 6) (.var 0)) (ss [.bad]) .nil]),.ret (.tup (aa [.var 4,.var 3]))])⟩
noncomputable def pZ:Df:=⟨2,4,(ss [.lA 2 (aa [.idx (.var 1) (.cst (.int 0))]),.set 3 (.idx (.var 0) (.var 1)),.Hh (.aK .NotEq (.var 3) (.var 1)) (ss [.app 2 (.idx (.var 3) (.cst (.int 0))),.set 3 (.idx (.var 0) (.var 3))]),.fz 2 (.ret (.bi .tuple (aa [.var 2])))])⟩
noncomputable def nQ:Df:=⟨1,1,(ss [.ret (.yg (aa [.var 0,.op .Add (.cut (.var 0) (.one (.cst (.int 1))) .nil) (.cut (.var 0) .nil (.one (.cst (.int 1))))]))])⟩
noncomputable def BE:Df:=⟨1,7,(ss [.set 1 (.call 13 (aa [.var 0])),.Bf 2,.lA 3 .nil,.b7 (.nm 4) (.aO (.var 1)) (ss [.iff (.pd 2 (.aK .NotIn (.var 4) (.var 2))) (ss [.set 5 (.call 15 (aa [.var 1,.var 4])),.app 3 (.var 5),.b7 (.nm 6) (.aO (.call 16 (aa [.var 5]))) (ss [.add 2 (.var 6)])]) .nil]),.fz 3 (.ret (.bi .tuple (aa [.var 3])))])⟩
noncomputable def vy:Df:=⟨2,10,(ss [.set 2 (.call 6 (aa [.var 0])),.set 3 (.cst (.int 0)),.b7 (.tup 2 (.cons (.nm 4) (.cons (.nm 5) .nil))) (.aO (.call 16 (aa [.var 1]))) (ss [.asg (.tup 2 (.cons (.tup 2 (.cons (.nm 6) (.cons (.nm 7) .nil))) (.cons (.tup 2 (.cons (.nm 8) (.cons (.nm 9) .nil))) .nil))) (.tup (aa [.idx (.var 2) (.var 4),.idx (.var 2) (.var 5)])),.aug 3 .Add (.op .Sub (.op .Mult (.var 6) (.var 9)) (.op .Mult (.var 8) (.var 7)))]),.ret (.op .FloorDiv (.var 3) (.cst (.int 2)))])⟩
noncomputable def vz:Df:=⟨2,7,(ss [.tR 2 1,.lA 3 (aa [.var 1]),.Hh (.pd 3 (.gP (.var 3))) (ss [.pop 4 3,.b7 (.nm 5) (.aO (.var 0)) (ss [.iff (.aK .In (.var 4) (.var 5)) (ss [.b7 (.nm 6) (.aO (.var 5)) (ss [.iff (.pd 2 (.aK .NotIn (.var 6) (.var 2))) (ss [.add 2 (.var 6),.app 3 (.var 6)]) .nil])]) .nil])]),.fz 2 (.ret (.bi .tuple (aa [.bi .sorted (aa [.var 2])])))])⟩
noncomputable def d6:Df:=⟨3,3,(ss [.iff (.cy (.gP (.call 8 (aa [.var 0,.var 1])))) (ss [.raise 4 (aa [.cst (.str "there is no such corner")])]) .nil,.iff (.aK .NotIn (.var 2) (.d_ 9)) (ss [.raise 5 (aa [.cst (.str "an axis is x or y")])]) .nil])⟩
noncomputable def kN:Df:=⟨2,4,(ss [.set 2 (.call 6 (aa [.var 0])),.set 3 (.Jq 9 (aa [.var 1])),.ret (.lc ["a","b"] [2,3] (.tup 2 (.cons (.nm 0) (.cons (.nm 1) .nil))) (.aO (.idx (.var 0) (.cst (.int 1)))) (.bP (.aK .Eq (.idx (.idx (.var 2) (.var 0)) (.var 3)) (.idx (.idx (.var 2) (.var 1)) (.var 3)))) (.tup (aa [.var 0,.var 1])))])⟩
noncomputable def vA:Df:=⟨3,5,(ss [.asg (.tup 2 (.cons (.nm 3) (.cons (.nm 4) .nil))) (.var 0),.ret (.A_ (.aK .Eq (.var 1) (.cst (.str "x"))) (.tup (aa [.op .Add (.var 3) (.var 2),.var 4])) (.tup (aa [.var 3,.op .Add (.var 4) (.var 2)])))])⟩
noncomputable def nR:Df:=⟨2,2,(ss [.ret (.op .Add (.call 37 (aa [.var 0])) (.lc ["opening"] [0] (.nm 0) (.aO (.var 1)) (.bP (.aK .Eq (.idx (.var 0) (.cst (.int 1))) (.d_ 12))) (.bad)))])⟩
noncomputable def BF:Df:=⟨4,8,(ss [.set 4 (.call 6 (aa [.var 0])),.set 5 (.dc ["c"] [1,2,3,4] (.nm 0) (.aO (.var 4)) .yes (.var 0) (.A_ (.aK .In (.var 0) (.var 1)) (.call 22 (aa [.idx (.var 4) (.var 0),.var 2,.var 3])) (.idx (.var 4) (.var 0)))),.iff (.cy (.gP (.bi .all (aa [.lc ["c"] [5] (.nm 0) (.aO (.var 5)) .yes (.call 3 (aa [.idx (.var 1) (.var 0)]))])))) (ss [.raise 6 (aa [.cst (.str "a corner would come to no spot")])]) .nil,.bad,.bad,.bad])⟩
noncomputable def vB:Df:=⟨2,8,(ss [.iff (.cy (.gP (.call 2 (aa [.var 1,.cst (.int 6)])))) (ss [.ret (.cst (.bl My))]) .nil,.bad,.bad,.bad,.bad])⟩
noncomputable def Fj:Df:=⟨2,2,(ss [.ret (.lc ["name","own","c","d","least","most"] [1] (.tup 6 (.cons (.nm 0) (.cons (.nm 1) (.cons (.nm 2) (.cons (.nm 3) (.cons (.nm 4) (.cons (.nm 5) .nil))))))) (.aO (.var 0)) (.bP (.kE (.aK .Eq (.var 1) (.var 6)) (.bP (.aK .Eq (.var 4) (.var 5))))) (.tup (aa [.var 2,.var 3])))])⟩
noncomputable def BG:Df:=⟨4,4,(ss [.expr (.call 20 (aa [.var 0,.var 2,.var 3])),.ret (.call 19 (aa [.op .Add (.call 21 (aa [.var 0,.var 3])) (.call 26 (aa [.var 1,.var 3])),.var 2]))])⟩
noncomputable def nT:Df:=⟨5,7,(ss [.set 5 (.call 24 (aa [.var 0,.call 27 (aa [.var 0,.var 1,.var 2,.var 3]),.var 3,.var 4])),.bad,.bad])⟩
noncomputable def vC:Df:=⟨2,8,(ss [.iff (.cy (.gP (.call 2 (aa [.var 1,.cst (.int 6)])))) (ss [.ret (.cst (.bl My))]) .nil,.bad,.bad,.bad,.bad])⟩
noncomputable def kO:Df:=⟨2,3,(ss [.b7 (.nm 2) (.aO (.var 1)) (ss [.bad]),.ret (.cst (.aJ))])⟩
noncomputable def y6:Df:=⟨3,9,(ss [.lA 3 .nil,.lA 4 .nil,.b7 (.nm 5) (.aO (.var 1)) (ss [.bad]),.set 8 (.pd 3 (.call 30 (aa [.var 2,.var 3]))),.iff (.aK .IsNot (.var 8) (.cst (.aJ))) (ss [.bad]) .nil,.iff (.pd 4 (.gP (.var 4))) (ss [.bad]) .nil,.fz 3 (.ret (.bi .tuple (aa [.var 3])))])⟩
noncomputable def p_:Df:=⟨3,11,(ss [.set 3 (.call 6 (aa [.var 0])),.lA 4 .nil,.b7 (.tup 2 (.cons (.nm 5) (.cons (.nm 6) .nil))) (.aO (.idx (.var 0) (.cst (.int 1)))) (ss [.asg (.tup 2 (.cons (.nm 7) (.cons (.nm 8) .nil))) (.idx (.var 3) (.var 5)),.set 9 (.idx (.idx (.var 3) (.var 6)) (.cst (.int 1))),.iff (.kE (.aK .LtE (.var 7) (.var 1)) (.bP (.bad))) (ss [.bad]) .nil]),.iff (.pd 4 (.cy (.gP (.var 4)))) (ss [.ret (.cst (.aJ))]) .nil,.bad,.bad])⟩
noncomputable def nU:Df:=⟨1,1,(ss [.ret (.dc ["ring"] [0] (.nm 0) (.aO (.call 17 (aa [.var 0]))) .yes (.var 0) (.call 18 (aa [.var 1,.var 0])))])⟩
noncomputable def nV:Df:=⟨2,11,(ss [.set 2 (.call 6 (aa [.var 0])),.set 3 (.EB ["ring","side"] [] (.nm 0) (.aO (.var 1)) .yes (.nm 1) (.aO (.call 16 (aa [.var 0]))) .yes (.var 1) (.var 0)),.Be 4,.lA 5 .nil,.b7 (.nm 6) (.aO (.var 1)) (ss [.iff (.aK .Gt (.idx (.var 1) (.var 6)) (.cst (.int 0))) (ss [.bad]) (ss [.app 5 (.tup (aa [.bi .yf (aa [.lc ["c"] [2] (.nm 0) (.aO (.var 6)) .yes (.idx (.var 1) (.var 0))]),.var 6]))])]),.fz 5 (.b7 (.tup 2 (.cons (.tup 2 (.cons (.nm 7) (.cons (.nm 8) .nil))) (.cons (.nm 9) .nil))) (.aO (.bi .sorted (aa [.var 5]))) (ss [.set 10 (.call 32 (aa [.var 0,.op .Sub (.var 7) (.cst (.int 1)),.var 8])),.put 4 (.var 9) (.pd 4 (.A_ (.aK .Is (.var 10) (.cst (.aJ))) (.cst (.aJ)) (.idx (.var 4) (.idx (.var 3) (.var 10)))))])),.fz 4 (.ret (.var 4))])⟩
noncomputable def nW:Df:=⟨1,2,(ss [.set 1 (.call 34 (aa [.var 0,.call 33 (aa [.var 0])])),.ret (.EB ["ring","side"] [1] (.nm 0) (.aO (.var 1)) .yes (.nm 1) (.aO (.call 16 (aa [.var 0]))) .yes (.var 1) (.idx (.var 2) (.var 0)))])⟩
noncomputable def sg:Df:=⟨1,1,(ss [.iff (.pG (.cy (.gP (.call 2 (aa [.var 0,.cst (.int 5)])))) (.pG (.cy (.gP (.bad))) (.bP (.cy (.gP (.call 3 (aa [.cut (.var 0) (.one (.cst (.int 1))) (.one (.cst (.int 3)))]))))))) (ss [.ret (.cst (.bl My))]) .nil,.bad])⟩
noncomputable def kP:Df:=⟨1,1,(ss [.ret (.lc ["x","y","u","v"] [] (.tup 2 (.cons (.tup 2 (.cons (.nm 0) (.cons (.nm 1) .nil))) (.cons (.tup 2 (.cons (.nm 2) (.cons (.nm 3) .nil))) .nil))) (.aO (.call 7 (aa [.var 0]))) .yes (.tup (aa [.var 0,.var 1,.op .Sub (.var 2) (.var 0),.op .Sub (.var 3) (.var 1)])))])⟩
noncomputable def fD:Df:=⟨2,2,(ss [.ret (.op .Add (.call 37 (aa [.var 0])) (.lc ["opening"] [0] (.nm 0) (.aO (.var 1)) (.bP (.aK .Eq (.idx (.var 0) (.cst (.int 1))) (.d_ 12))) (.bad)))])⟩
noncomputable def kQ:Df:=⟨3,12,(ss [.set 3 (.call 35 (aa [.var 0])),.set 4 (.call 38 (aa [.var 0,.var 1])),.b7 (.nm 5) (.aO (.var 2)) (ss [.bad,.bad,.bad]),.ret (.cst (.aJ))])⟩
noncomputable def kR:Df:=⟨2,3,(ss [.iff (.pG (.cy (.gP (.call 3 (aa [.var 0])))) (.bP (.cy (.gP (.call 3 (aa [.var 1])))))) (ss [.raise 2 (aa [.cst (.str "a wall goes from a spot to a spot")])]) .nil,.set 2 (.tup (aa [.bi .min2 (aa [.var 0,.var 1]),.bi .max2 (aa [.var 0,.var 1])])),.iff (.cy (.gP (.call 4 (aa [.var 2])))) (ss [.bad]) .nil,.ret (.var 2)])⟩
noncomputable def qb:Df:=⟨2,4,(ss [.set 2 (.lc ["own"] [1] (.nm 0) (.aO (.call 7 (aa [.var 0]))) .yes (.call 5 (aa [.var 1,.var 0]))),.set 3 (.lc ["oblong"] [] (.nm 0) (.aO (.var 2)) (.bP (.aK .IsNot (.var 0) (.cst (.aJ)))) (.var 0)),.iff (.gP (.bi .any (aa [.lc ["low","high"] [] (.tup 2 (.cons (.nm 0) (.cons (.nm 1) .nil))) (.aO (.var 3)) .yes (.cmp .NotEq (.var 0) (.var 1))]))) (ss [.bad]) .nil,.ret (.lc ["low","high"] [] (.tup 2 (.cons (.nm 0) (.cons (.nm 1) .nil))) (.aO (.var 3)) .yes (.var 0))])⟩
noncomputable def kS:Df:=⟨2,5,(ss [.set 2 (.call 6 (aa [.var 0])),.set 3 (.lc ["c"] [2] (.nm 0) (.pH (aa [.op .Add (.d_ 2) (.cst (.int 1))])) (.bP (.aK .NotIn (.var 0) (.var 1))) (.var 0)),.set 4 (.bi .sorted (aa [.op .Sub (.bi .ye (aa [.var 1])) (.Jp ["corner"] [] (.nm 0) (.aO (.idx (.var 0) (.cst (.int 0)))) .yes (.cut (.var 0) (.one (.cst (.int 1))) .nil))])),.ret (.bi .sorted (aa [.op .Add (.bi .list (aa [.idx (.var 0) (.cst (.int 0))])) (.lc ["c","x","y"] [] (.tup 2 (.cons (.nm 0) (.cons (.tup 2 (.cons (.nm 1) (.cons (.nm 2) .nil))) .nil))) (.Ba (aa [.var 3,.var 4])) .yes (.tup (aa [.var 0,.var 1,.var 2])))]))])⟩
noncomputable def sh:Df:=⟨2,4,(ss [.set 2 (.bi .sorted (aa [.lc ["c","x","y"] [1] (.tup 3 (.cons (.nm 0) (.cons (.nm 1) (.cons (.nm 2) .nil)))) (.aO (.var 0)) (.bP (.aK .IsNot (.call 5 (aa [.var 3,.tup (aa [.tup (aa [.var 1,.var 2]),.tup (aa [.var 1,.var 2])])])) (.cst (.aJ)))) (.tup (aa [.var 1,.var 2,.var 0]))])),.set 3 (.lc ["x","y","c"] [] (.tup 3 (.cons (.nm 0) (.cons (.nm 1) (.cons (.nm 2) .nil)))) (.aO (.var 2)) .yes (.var 2)),.ret (.yg (aa [.var 3,.cut (.var 3) (.one (.cst (.int 1))) .nil]))])⟩
noncomputable def Ip:Df:=⟨3,6,(ss [.set 3 (.call 40 (aa [.var 1,.var 2])),.set 4 (.call 42 (aa [.var 0,.op .Add (.bi .list (aa [.var 3])) (.call 41 (aa [.var 0,.var 3]))])),.set 5 (.bi .sorted (aa [.FA ["own","wall"] [4] (.nm 0) (.aO (.op .Add (.call 7 (aa [.var 0])) (.lst (aa [.var 3])))) .yes (.nm 1) (.aO (.call 43 (aa [.var 2,.var 0]))) .yes (.var 1)])),.iff (.pG (.aK .Gt (.bi .len (aa [.var 4])) (.d_ 0)) (.bP (.aK .Gt (.bi .len (aa [.var 5])) (.d_ 1)))) (ss [.bad]) .nil,.ret (.tup (aa [.bi .tuple (aa [.var 4]),.bi .tuple (aa [.var 5])]))])⟩
noncomputable def lD:Df:=⟨2,3,(ss [.b7 (.nm 2) (.aO (.var 1)) (ss [.bad]),.ret (.cst (.aJ))])⟩
noncomputable def vD:Df:=⟨1,5,(ss [.iff (.cy (.gP (.call 2 (aa [.var 0,.cst (.int 4)])))) (ss [.ret (.cst (.bl My))]) .nil,.bad,.bad,.bad])⟩
noncomputable def qc:Df:=⟨1,1,(ss [.iff (.cy (.gP (.call 46 (aa [.var 0])))) (ss [.raise 7 (aa [.cst (.str "this is no plan")])]) .nil])⟩
noncomputable def qd:Df:=⟨4,7,(ss [.set 4 (.call 45 (aa [.var 0,.var 1])),.iff (.aK .IsNot (.var 4) (.cst (.aJ))) (ss [.bad]) .nil,.set 5 (.call 30 (aa [.var 0,.var 2])),.iff (.aK .IsNot (.var 5) (.cst (.aJ))) (ss [.bad]) .nil,.set 6 (.call 39 (aa [.var 0,.var 2,.var 3])),.iff (.aK .IsNot (.var 6) (.cst (.aJ))) (ss [.bad]) .nil,.ret (.tup (aa [.var 0,.var 1,.var 2,.var 3]))])⟩
noncomputable def sj:Df:=⟨3,8,(ss [.asg (.tup 4 (.cons (.nm 3) (.cons (.nm 4) (.cons (.nm 5) (.cons (.nm 6) .nil))))) (.var 0),.set 7 (.call 44 (aa [.var 3,.var 1,.var 2])),.ret (.call 48 (aa [.var 7,.var 4,.call 31 (aa [.var 3,.var 5,.var 7]),.var 6]))])⟩
noncomputable def lE:Df:=⟨4,9,(ss [.asg (.tup 4 (.cons (.nm 4) (.cons (.nm 5) (.cons (.nm 6) (.cons (.nm 7) .nil))))) (.var 0),.set 8 (.call 28 (aa [.var 4,.var 5,.var 1,.var 2,.var 3])),.bad])⟩
noncomputable def sk:Df:=⟨2,6,(ss [.asg (.tup 4 (.cons (.nm 2) (.cons (.nm 3) (.cons (.nm 4) (.cons (.nm 5) .nil))))) (.var 0),.iff (.cy (.gP (.call 25 (aa [.var 2,.var 1])))) (ss [.raise 11 (aa [.cst (.aJ)])]) .nil,.bad])⟩
noncomputable def lF:Df:=⟨2,6,(ss [.asg (.tup 4 (.cons (.nm 2) (.cons (.nm 3) (.cons (.nm 4) (.cons (.nm 5) .nil))))) (.var 0),.iff (.cy (.gP (.call 29 (aa [.var 2,.var 1])))) (ss [.raise 12 (aa [.cst (.aJ)])]) .nil,.bad])⟩
noncomputable def qf:Df:=⟨2,6,(ss [.asg (.tup 4 (.cons (.nm 2) (.cons (.nm 3) (.cons (.nm 4) (.cons (.nm 5) .nil))))) (.var 0),.iff (.cy (.gP (.call 36 (aa [.var 1])))) (ss [.raise 13 (aa [.cst (.aJ)])]) .nil,.bad])⟩
noncomputable def lG:Df:=⟨2,3,(ss [.set 2 (.bi .tuple (aa [.lc ["row"] [1] (.nm 0) (.aO (.var 0)) (.bP (.aK .NotEq (.idx (.var 0) (.cst (.int 0))) (.var 1))) (.var 0)])),.iff (.aK .Eq (.bi .len (aa [.var 2])) (.bi .len (aa [.var 0]))) (ss [.raise 8 (aa [.cst (.str "there is nothing by this name")])]) .nil,.bad])⟩
noncomputable def nX:Df:=⟨2,6,(ss [.asg (.tup 4 (.cons (.nm 2) (.cons (.nm 3) (.cons (.nm 4) (.cons (.nm 5) .nil))))) (.var 0),.ret (.tup (aa [.var 2,.call 54 (aa [.var 3,.var 1]),.var 4,.var 5]))])⟩
noncomputable def sr:Df:=⟨1,4,(ss [.set 1 (.rS .split (.var 0) (aa [.cst (.str " ")])),.set 2 (.idx (.var 1) (.cst (.int 0))),.set 3 (.A_ (.aK .In (.var 2) (.d_ 21)) (.bad) (.cst (.aJ))),.iff (.aK .Is (.var 3) (.cst (.aJ))) (ss [.raise 9 (aa [.cst (.str "there is no such row")])]) .nil,.bad])⟩
noncomputable def qg:Df:=⟨1,10,(ss [.set 1 (.lst (aa [.lst .nil,.lst .nil,.lst .nil,.lst .nil,.lst .nil])),.b7 (.nm 2) (.aO (.var 0)) (ss [.asg (.tup 2 (.cons (.nm 3) (.cons (.nm 4) .nil))) (.call 56 (aa [.var 2])),.bad]),.bad,.bad])⟩
noncomputable def Fk:Df:=⟨1,2,(ss [.iff (.cy (.gP (.B_ "str" (.var 0)))) (ss [.raise 9 (aa [.cst (.str "this is no text")])]) .nil,.set 1 (.call 57 (aa [.A_ (.gP (.var 0)) (.rS .split (.var 0) (aa [.cst (.str "\n")])) (.lst .nil)])),.bad,.bad])⟩
noncomputable def qh:Df:=⟨1,1,(ss [.ret (.lst (aa [.bi .list (aa [.cut (.var 0) .nil (.one (.cst (.int 63)))]),.cst (.int 0),.cst (.int 0)]))])⟩
noncomputable def qi:Df:=⟨1,2,(ss [.set 1 (.cst (.str " !\"#$&'()*+,-./0123456789:;<=>?@ABCDEFGHIJKLMNOPQRSTUVWXYZ[\\]^_`abcdefghijklmnopqrstuvwxyz{|}~\n\t")),.ret (.idx (.var 1) (.call 60 (.feed 0 (.cons (.bi .len (aa [.var 1])) .nil))))])⟩
noncomputable def nY:Df:=⟨1,2,(ss [.set 1 (.lst (aa [.pI 1 (.var 0),.pI 2 (.var 0),.pI 3 (.var 0)])),.set 1 (.op .Add (.var 1) (.lst (aa [.pI 4 (.var 0),.pI 5 (.var 0)]))),.set 1 (.op .Add (.var 1) (.lst (aa [.pI 6 (.var 0),.pI 7 (.var 0)]))),.set 1 (.op .Add (.var 1) (.lst (aa [.pI 8 (.var 0),.pI 9 (.var 0),.pI 10 (.var 0)]))),.ret (.op .Add (.var 1) (.lst (aa [.pI 11 (.var 0),.pI 12 (.var 0),.pI 13 (.var 0)])))])⟩
noncomputable def jg:Df:=⟨2,3,(ss [.set 2 (.lst (aa [.mk 1 (aa [.var 0]),.mk 2 (aa [.var 0]),.mk 3 (aa [.var 0]),.mk 4 (aa [.var 0]),.mk 5 (aa [.var 0]),.mk 6 (aa [.var 0]),.mk 7 (aa [.var 0])])),.ret (.op .Add (.var 2) (.lst (aa [.mk 8 (aa [.var 0]),.mk 9 (aa [.var 0]),.mk 10 (aa [.var 1]),.mk 11 (aa [.var 1]),.mk 12 (aa [.var 1]),.mk 13 (aa [.var 1])])))])⟩
noncomputable def qj:Df:=⟨2,2,(ss [.iff (.aK .Eq (.var 0) (.cst (.int 0))) (ss [.expr (.call 10 (aa [.var 1]))]) (ss [.iff (.aK .Eq (.var 0) (.cst (.int 1))) (ss [.expr (.call 49 (aa [.d_ 14,.tup (aa [.cst (.int 0),.cst (.int 0)]),.var 1]))]) (ss [.iff (.aK .Eq (.var 0) (.cst (.int 2))) (ss [.expr (.call 50 (aa [.d_ 14,.var 1,.cst (.str "x"),.cst (.int 1)]))]) (ss [.iff (.aK .Eq (.var 0) (.cst (.int 3))) (ss [.expr (.call 50 (aa [.call 49 (aa [.d_ 14,.tup (aa [.cst (.int 0),.cst (.int 0)]),.tup (aa [.cst (.int 0),.cst (.int 5)])]),.cst (.int 0),.var 1,.cst (.int 1)]))]) (ss [.iff (.aK .Eq (.var 0) (.cst (.int 4))) (ss [.expr (.call 50 (aa [.call 49 (aa [.d_ 14,.tup (aa [.cst (.int 0),.cst (.int 0)]),.tup (aa [.cst (.int 0),.cst (.int 5)])]),.cst (.int 0),.cst (.str "x"),.neg (.cst (.int 1))]))]) (ss [.iff (.aK .Eq (.var 0) (.cst (.int 5))) (ss [.expr (.call 47 (aa [.var 1]))]) (ss [.iff (.aK .Eq (.var 0) (.cst (.int 6))) (ss [.expr (.call 55 (aa [.d_ 14,.var 1]))]) (ss [.iff (.aK .Eq (.var 0) (.cst (.int 7))) (ss [.expr (.call 58 (aa [.var 1]))]) (ss [.iff (.aK .Eq (.var 0) (.cst (.int 8))) (ss [.expr (.call 51 (aa [.d_ 14,.var 1]))]) (ss [.iff (.aK .Eq (.var 0) (.cst (.int 9))) (ss [.expr (.call 52 (aa [.d_ 14,.var 1]))]) (ss [.expr (.call 53 (aa [.d_ 14,.var 1]))])])])])])])])])])])])⟩
noncomputable def lH:Df:=⟨2,5,(ss [.set 2 (.cst (.aJ)),.Bd (ss [.expr (.call 64 (aa [.var 0,.var 1]))]) 0 3 2 (.slot 3),.set 4 (.idx (.lst (aa [.cst (.int 0),.cst (.int 1),.cst (.int 3),.cst (.int 4),.cst (.int 5),.cst (.int 6),.cst (.int 7),.cst (.int 8),.cst (.int 10),.cst (.int 11),.cst (.int 12)])) (.var 0)),.iff (.pG (.aK .Is (.var 2) (.cst (.aJ))) (.bP (.aK .NotEq (.call 62 (aa [.var 2])) (.lc ["_law_k"] [4] (.nm 0) (.pH (aa [.cst (.int 13)])) .yes (.cmp .Eq (.var 0) (.var 1)))))) (ss [.bad]) .nil,.ret (.or (.cmp .Lt (.var 4) (.cst (.int 9))) (.one (.cmp .Is (.fld (.var 2)) (.cst (.aJ)))))])⟩
noncomputable def Ck:Df:=⟨1,9,(ss [.set 1 (.call 59 (aa [.var 0])),.set 2 (.rS .join (.cst (.str "")) (aa [.lc ["_law_k"] [1] (.nm 0) (.pH (aa [.op .Add (.cst (.int 1)) (.call 60 (.feed 1 (.cons (.cst (.int 12)) .nil)))])) .yes (.call 61 (.feed 1 .nil))])),.b7 (.nm 3) (.aO (.lst (aa [.var 2,.cst (.aJ)]))) (ss [.b7 (.tup 2 (.cons (.nm 4) (.cons (.nm 5) .nil))) (.Bb (aa [.call 63 (aa [.var 2,.var 3])])) (ss [.iff (.pG (.cy (.gP (.pI 0 (.var 5)))) (.bP (.cy (.gP (.B_ "ValueError" (.var 5)))))) (ss [.bad]) .nil,.iff (.pG (.aK .NotEq (.call 62 (aa [.var 5])) (.lc ["_law_j"] [4] (.nm 0) (.pH (aa [.cst (.int 13)])) .yes (.cmp .Eq (.var 0) (.var 1)))) (.bP (.kE (.aK .Gt (.var 4) (.cst (.int 8))) (.bP (.aK .NotEq (.fld (.var 5)) (.var 3)))))) (ss [.bad]) .nil])]),.b7 (.nm 6) (.pH (aa [.cst (.int 8)])) (ss [.set 7 (.idx (.lst (aa [.cst (.aJ),.cst (.int 7),.cst (.str ""),.cst (.str "x"),.tup (aa [.cst (.int 1),.cst (.int 2),.cst (.int 3)]),.tup (aa [.tup .nil]),.cst (.bl Mz),.tup (aa [.cst (.str "a")])])) (.call 60 (.feed 1 (.cons (.cst (.int 8)) .nil)))),.set 8 (.call 60 (.feed 1 (.cons (.cst (.int 11)) .nil))),.iff (.aK .In (.var 7) (.tup (aa [.cst (.str ""),.cst (.str "x")]))) (ss [.set 7 (.cst (.str "none"))]) .nil,.iff (.cy (.gP (.call 65 (aa [.var 8,.var 7])))) (ss [.bad]) .nil]),.ret (.cst (.bl Mz))])⟩
noncomputable def dn:List M3:=(nn ["is_number","is_whole","is_row","is_spot","is_straight","overlap","spots","lines","has_corner","is_net","look_net","way_of","sides","next_sides","next_side","ring_from","ring_sides","rings","area_of","reached","look_corner_and_axis","walls_across","shifted","hindrances","moved","is_hold","ties","group","move_group","is_made","first_fallen","ridden","west_side","ring_areas","ring_homes","side_homes","is_thing","wall_oblongs","hindrances_things","first_misfit","line_between","met_spots","with_corners","walls_on","put","first_loose","is_plan","look_plan","made_plan","wall_put","group_moved","hold_put","opening_put","thing_put","without_row","hold_taken","told_row","told_plan","read","_law_feed","_law_draw","_law_sign","_law_flags","_law_all_made","_law_deed","_law_raised","law"])
noncomputable def gn:List M3:=(nn ["MOST_CORNERS","MOST_WALLS","GREATEST_NUMBER","GREATEST_PLACE","EAST","NORTH","WEST","SOUTH","TURNS","AXES","LETTERS","LONGEST_NAME","DOOR","KINDS","EMPTY","MOST_HOLDS","MOST_OPENINGS","MOST_THINGS","FIGURES","MOST_FIGURES","READERS","FORMS","PARTS"])
noncomputable def cn:List M3:=(nn ["PlanError","NoNet","NoWall","TooMany","NoCorner","NoAxis","NoMove","NoPlan","NoName","NoText","Held","NoHold","NoOpening","NoThing"])
noncomputable def Jv:cQ:=⟨dn,gn,cn⟩
noncomputable def ents:List En:=[⟨MF "is_number",(nn ["thing"]),(nn ["thing"]),.df pX⟩,⟨MF "is_whole",(nn ["thing","least","most"]),(nn ["thing","least","most"]),.df se⟩,⟨MF "is_row",(nn ["thing","length"]),(nn ["thing","length"]),.df yZ⟩,⟨MF "is_spot",(nn ["thing"]),(nn ["thing"]),.df vt⟩,⟨MF "is_straight",(nn ["line","one","other"]),(nn ["line"]),.df lC⟩,⟨MF "overlap",(nn ["oblong","other","a","b","c","d","low","high"]),(nn ["oblong","other"]),.df vw⟩,⟨MF "spots",(nn ["net"]),(nn ["net"]),.df BB⟩,⟨MF "lines",(nn ["net","at"]),(nn ["net"]),.df BC⟩,⟨MF "has_corner",(nn ["net","thing"]),(nn ["net","thing"]),.df nO⟩,⟨MF "is_net",(nn ["thing","corners","walls","drawn"]),(nn ["thing"]),.df y0⟩,⟨MF "look_net",(nn ["thing"]),(nn ["thing"]),.df sf⟩,⟨MF "way_of",(nn ["one","other"]),(nn ["one","other"]),.df y4⟩,⟨MF "sides",(nn ["net"]),(nn ["net"]),.df BD⟩,⟨MF "next_sides",(nn ["net","at","ways","ends"]),(nn ["net"]),.df nP⟩,⟨MF "next_side",(nn ["ends","side","way","a","b","turn","ahead"]),(nn ["ends","side","way"]),.df pY⟩,⟨MF "ring_from",(nn ["following","first","ring","side"]),(nn ["following","first"]),.df pZ⟩,⟨MF "ring_sides",(nn ["ring"]),(nn ["ring"]),.df nQ⟩,⟨MF "rings",(nn ["net","following","seen","found","first","ring","side"]),(nn ["net"]),.df BE⟩,⟨MF "area_of",(nn ["net","ring","at","double","a","b","x","y","u","v"]),(nn ["net","ring"]),.df vy⟩,⟨MF "reached",(nn ["walls","start","seen","waiting","corner","wall","end"]),(nn ["walls","start"]),.df vz⟩,⟨MF "look_corner_and_axis",(nn ["net","c","axis"]),(nn ["net","c","axis"]),.df d6⟩,⟨MF "walls_across",(nn ["net","axis","at","place"]),(nn ["net","axis"]),.df kN⟩,⟨MF "shifted",(nn ["spot","axis","d","x","y"]),(nn ["spot","axis","d"]),.df vA⟩,⟨MF "hindrances",(nn ["net","openings"]),(nn ["net","openings"]),.df nR⟩,⟨MF "moved",(nn ["net","group","axis","d","at","new","standing","strip"]),(nn ["net","group","axis","d"]),.df BF⟩,⟨MF "is_hold",(nn ["net","thing","name","axis","c","d","least","most"]),(nn ["net","thing"]),.df vB⟩,⟨MF "ties",(nn ["holds","axis"]),(nn ["holds","axis"]),.df Fj⟩,⟨MF "group",(nn ["net","holds","c","axis"]),(nn ["net","holds","c","axis"]),.df BG⟩,⟨MF "move_group",(nn ["net","holds","c","axis","d","new","hold"]),(nn ["net","holds","c","axis","d"]),.df nT⟩,⟨MF "is_made",(nn ["net","thing","name","kind","wall","end","at","width"]),(nn ["net","thing"]),.df vC⟩,⟨MF "first_fallen",(nn ["net","openings","opening"]),(nn ["net","openings"]),.df kO⟩,⟨MF "ridden",(nn ["net","openings","new","kept","lost","opening","parted","whole","fallen"]),(nn ["net","openings","new"]),.df y6⟩,⟨MF "west_side",(nn ["net","x","y","at","found","a","b","place","low","high","nearest"]),(nn ["net","x","y"]),.df p_⟩,⟨MF "ring_areas",(nn ["net"]),(nn ["net"]),.df nU⟩,⟨MF "ring_homes",(nn ["net","areas","at","owners","homes","rims","ring","x","y","rim","beside"]),(nn ["net","areas"]),.df nV⟩,⟨MF "side_homes",(nn ["net","homes"]),(nn ["net"]),.df nW⟩,⟨MF "is_thing",(nn ["thing"]),(nn ["thing"]),.df sg⟩,⟨MF "wall_oblongs",(nn ["net"]),(nn ["net"]),.df kP⟩,⟨MF "hindrances_things",(nn ["net","openings"]),(nn ["net","openings"]),.df fD⟩,⟨MF "first_misfit",(nn ["net","openings","things","homes","standing","thing","name","x","y","w","h","others"]),(nn ["net","openings","things"]),.df kQ⟩,⟨MF "line_between",(nn ["one","other","line"]),(nn ["one","other"]),.df kR⟩,⟨MF "met_spots",(nn ["net","line","shared","met"]),(nn ["net","line"]),.df qb⟩,⟨MF "with_corners",(nn ["net","wanted","taken","free","fresh"]),(nn ["net","wanted"]),.df kS⟩,⟨MF "walls_on",(nn ["corners","line","on","numbers"]),(nn ["corners","line"]),.df sh⟩,⟨MF "put",(nn ["net","one","other","line","corners","walls"]),(nn ["net","one","other"]),.df Ip⟩,⟨MF "first_loose",(nn ["net","holds","hold"]),(nn ["net","holds"]),.df lD⟩,⟨MF "is_plan",(nn ["thing","net","holds","openings","things"]),(nn ["thing"]),.df vD⟩,⟨MF "look_plan",(nn ["thing"]),(nn ["thing"]),.df qc⟩,⟨MF "made_plan",(nn ["net","holds","openings","things","loose","fallen","misfit"]),(nn ["net","holds","openings","things"]),.df qd⟩,⟨MF "wall_put",(nn ["plan","one","other","net","holds","openings","things","new"]),(nn ["plan","one","other"]),.df sj⟩,⟨MF "group_moved",(nn ["plan","c","axis","d","net","holds","openings","things","new"]),(nn ["plan","c","axis","d"]),.df lE⟩,⟨MF "hold_put",(nn ["plan","hold","net","holds","openings","things"]),(nn ["plan","hold"]),.df sk⟩,⟨MF "opening_put",(nn ["plan","opening","net","holds","openings","things"]),(nn ["plan","opening"]),.df lF⟩,⟨MF "thing_put",(nn ["plan","thing","net","holds","openings","things"]),(nn ["plan","thing"]),.df qf⟩,⟨MF "without_row",(nn ["rows","name","kept"]),(nn ["rows","name"]),.df lG⟩,⟨MF "hold_taken",(nn ["plan","name","net","holds","openings","things"]),(nn ["plan","name"]),.df nX⟩,⟨MF "told_row",(nn ["row","words","kind","values"]),(nn ["row"]),.df sr⟩,⟨MF "told_plan",(nn ["rows","parts","row","place","value","corners","walls","holds","openings","things"]),(nn ["rows"]),.df qg⟩,⟨MF "read",(nn ["text","plan"]),(nn ["text"]),.df Fk⟩,⟨MF "_law_feed",(nn ["_law_script"]),(nn ["_law_script"]),.df qh⟩,⟨MF "_law_draw",(nn ["_law_feed_here","_law_many","_law_got","_law_at","_law_cell","_law_number"]),(nn ["_law_feed_here","_law_many"]),.wit K56d.tX⟩,⟨MF "_law_sign",(nn ["_law_feed_here","_law_signs"]),(nn ["_law_feed_here"]),.df qi⟩,⟨MF "_law_flags",(nn ["_law_error","_law_flags_here"]),(nn ["_law_error"]),.df nY⟩,⟨MF "_law_all_made",(nn ["_law_text","_law_name","_law_found"]),(nn ["_law_text","_law_name"]),.df jg⟩,⟨MF "_law_deed",(nn ["_law_way","_law_thing"]),(nn ["_law_way","_law_thing"]),.df qj⟩,⟨MF "_law_raised",(nn ["_law_way","_law_thing","_law_kept","e","_law_due"]),(nn ["_law_way","_law_thing"]),.df lH⟩,⟨MF "law",(nn ["_law_script","_law_feed_here","_law_text","_law_name","_law_k","_law_error","_law_turn","_law_thing","_law_way"]),(nn ["_law_script"]),.df Ck⟩]
noncomputable def cons:List (Option D):=[Mt (.int (60)),Mt (.int (90)),Mt (.int (999)),Mt (.int (1000000)),Mt (.int (0)),Mt (.int (1)),Mt (.int (2)),Mt (.int (3)),Mt (.tup [.int (1),.int (0),.int (3)]),Mt (.tup [.str "x",.str "y"]),Mt (.str "abcdefghijklmnopqrstuvwxyz"),Mt (.int (8)),Mt (.str "door"),Mt (.tup [.str "door",.str "window"]),Mt (.tup [.tup [.tup [],.tup []],.tup [],.tup [],.tup []]),Mt (.int (30)),Mt (.int (40)),Mt (.int (30)),Mt (.str "0123456789"),Mt (.int (7)),MA,MA,MA]
noncomputable def K4:List Kl:=[⟨24,1,[24]⟩,⟨37,1,[24,37]⟩,⟨49,1,[24,49]⟩,⟨61,1,[24,61]⟩,⟨73,1,[24,73]⟩,⟨85,1,[24,85]⟩,⟨97,1,[24,97]⟩,⟨109,1,[24,109]⟩,⟨121,1,[24,121]⟩,⟨133,1,[24,133]⟩,⟨152,2,[24,152]⟩,⟨171,2,[24,171]⟩,⟨190,2,[24,190]⟩,⟨209,2,[24,209]⟩]
noncomputable def mB:dj->dj
 |.cons _ r=>r|s=>s
noncomputable def iC:dj:=mB Ck.body
noncomputable def y7:List M3:=[MF "_law_script",MF "_law_feed_here",MF "_law_text",MF "_law_name",MF "_law_k",MF "_law_error",MF "_law_turn",MF "_law_thing",MF "_law_way"]
noncomputable def defs:List Dk:=ents.map (·.k)
noncomputable def y8:List M3:=[MF "corner",MF "wall",MF "hold",MF "door",MF "window",MF "thing"]
noncomputable def y9:List D:=[.str "nnn",.str "nn",.str "wannnn",.str "wnnnnn",.str "wnnnnn",.str "wnnnn"]
noncomputable def gl(i:Nat):Option D:=if OV i 21 then Mt (.bR (y8.map D.str) y9)else(cons[i]?).join
noncomputable def gv:Gv:=Im gl K4
theorem LK(p:R1):LI (head.heap_39 p)=Mz:=by kernel_rfl
theorem Ma(p:R1):Jt (head.heap_39 p) cn K4=Mz:=by kernel_rfl
theorem Mb(p:R1):E8 (head.heap_39 p) gn cons=Mz:=by kernel_rfl
theorem Mc(p:R1):LJ (head.heap_39 p) gn cons=Mz:=by kernel_rfl
theorem Md(p:R1):E5 (head.heap_39 p) Jv ents=Mz:=by kernel_rfl
noncomputable abbrev parts(s:M3)(st:OM):Option (M3×M3×TH×List OM×OJ):=Mt (s,s,cB st,bD st,aj st)
theorem Me(p:R1):(vq (head.heap_39 p) "_law_feed").map gZ=parts "_law_feed" K56d.yX:=by kernel_rfl
theorem K5:lB (cB K56d.yX) ["_law_script"]=Mz:=by kernel_rfl
theorem Mf(p:R1):(vq (head.heap_39 p) "law").map gZ=parts "law" K56d.pW:=by kernel_rfl
theorem K6:lB (cB K56d.pW) ["_law_script"]=Mz:=by kernel_rfl
theorem K7:(Cj Jv ⟨y7,aj K56d.pW,Mz⟩ iC (bD K56d.pW).tail).ok=Mz:=by kernel_rfl
theorem K8:FE y7 ["_law_script"] (aj K56d.pW)=Mz:=by kernel_rfl
theorem K9:c_ ⟨y7,aj K56d.pW,Mz⟩ 1 "_law_feed_here"=Mz:=by kernel_rfl
theorem K_:dI ⟨y7,aj K56d.pW,Mz⟩ 0 "_law_script"=Mz:=by kernel_rfl
theorem La:bf ⟨y7,aj K56d.pW,Mz⟩ "_law_feed"=Mz:=by kernel_rfl
theorem Mg:dn=ents.map (·.x):=by kernel_rfl
theorem Mh(p:R1):(vq (head.heap_39 p) "_law_draw").map gZ=parts "_law_draw" K56d.pV:=by kernel_rfl
theorem Lb:lB (cB K56d.pV) ["_law_feed_here","_law_many"]=Mz:=by kernel_rfl
section
variable{P:MX}{w:M_}{mg:M3->Option Mv}{base h:Na}{p:R1}
theorem y_(X:Sk (head.heap_39 p) h)(G:h.Ns NA mg)(a:mg "len"=MA):FD P w (head.heap_39 p) mg base "_law_draw" 2 K56d.tX:=by
 obtain⟨f,fd,F,e,B⟩:=kM (Mh p) Lb;exact K56d.yY F a (P6 X G e) (.all B)
theorem BH(X:Sk (head.heap_39 p) h)(G:h.Ns NA mg)(a:mg "list"=MA):∃f fd,cw P w (head.heap_39 p) mg base qp 1 f fd ["_law_script"] (r_ (head.heap_39 p))/\mg "_law_feed"=Mt (.ref f)/\QP (head.heap_39 p) (.ref f)=Mz/\Binds (head.heap_39 p) fd ["_law_script"] []:=by
 obtain⟨f,fd,F,e,B⟩:=kM (Me p) K5;exact⟨f,fd,Bx F K56d.Fh a rfl rfl,P6 X G e,F.kp,.all B⟩
end
theorem Lc(p:R1):Fd (head.heap_39 p) "FORMS" y8 y9=Mz:=by kernel_rfl
theorem Ld(w:M_):yU (head.heap_39 w.params) "FORMS"=(yV (head.heap_39 w.params) "FORMS").map (Fc w):=by kernel_rfl
noncomputable abbrev ev:Ev:=gv.ev 39 (dg defs gv 39)
noncomputable def qk:dj->dj
 |.cons s _=>s|s=>s
noncomputable def s2:dj:=qk iC
noncomputable def s3:dj:=qk (mB iC)
noncomputable def s4:dj:=qk (mB (mB iC))
noncomputable def su:dj->dj
 |.b7 _ _ b=>b|s=>s
noncomputable def b3:dj:=su s3
noncomputable def kT:dj:=su (qk b3)
noncomputable def b4:dj:=su s4
noncomputable def Mi:(a:ag)->Ch (∃h g f e d c b,a=[MA,Mt .feed,h,g,f,e,d,c,b])
 |[MA,Mt .feed,_,_,_,_,_,_,_]=>.y ⟨_,_,_,_,_,_,_,rfl⟩|_=>.n
noncomputable def zh:Fl->Bool
 |.nx a=>(Mi a).ok|_=>My
theorem Iq(g f e d c b a:Option W):(br ev b4 [MA,Mt .feed,g,f,e,d,c,b,a]).allB zh 2=Mz:=by kernel_rfl
noncomputable def oE:D->Bool
 |.str x=>OV x.length 1|_=>My
theorem sign:(ev.call 61 [.feed]).allB oE 1=Mz:=by kernel_rfl
noncomputable def Mj:dj->Ex
 |.set _ (.rS _ _ (.cons e _))=>e|_=>.bad
noncomputable def lc:Ex:=Mj s2
noncomputable def Ir:Ex->Ex
 |.lc _ _ _ i _ _=>i|_=>.bad
noncomputable abbrev r0:ag:=[MA,Mt .feed,MA,MA,MA,MA,MA,MA,MA]
theorem BJ:(ny ev (Ir lc) r0).allB (λds=>decide (ds.length<=12)) 1=Mz:=by kernel_rfl
theorem signs:∀(ds:List D)(a:Option W),(iV (dw (.nm 0)) (λb=>(cm ev .yes b).calm) (λb=>(bQ ev (.call 61 (.feed 1 .nil)) b).calm) ds [a,Mt .feed]).cu ds.length (λr=>r.length=ds.length/\∀e∈r,oE e=Mz)
 |[],a=>by exact .ok ⟨rfl,λe h=>nomatch h⟩|d::ds,a=>by
  have e:iV (dw (.nm 0)) (λb=>(cm ev .yes b).calm) (λb=>(bQ ev (.call 61 (.feed 1 .nil)) b).calm) (d::ds) [a,Mt .feed]=(((ev.call 61 [.feed]).at' [Mt (.d d),Mt .feed]).calm>>=λx=>iV (dw (.nm 0)) (λb=>(cm ev .yes b).calm) (λb=>(bQ ev (.call 61 (.feed 1 .nil)) b).calm) ds [Mt (.d d),Mt .feed]>>=λr=>.ok (x::r)):=rfl;rw[e,Nn,Nat.add_comm];refine T.bO _ (T.aP (λx f=>?_) _ (T.vo _ (T.By _ (T.jA _ sign))) (MN _));refine T.aP (λ_ z=>z) _ (T.bO (m':=0) _ (T.aP (λr c=>?_) _ (signs ds (Mt (.d d))) (MN _))) (MN _);refine .ok ⟨by rw[Nn,c.1,Nat.add_comm],λe g=>?_⟩;rcases List.mem_cons.mp g with rfl|h;.exact f
  .exact c.2 e h
theorem Iu:(bQ ev lc r0).cu 13 (λd=>∃ds,d=.lst ds/\ds.length<=12/\∀e∈ds,oE e=Mz):=by
 have e:bQ ev lc r0=(ny ev (Ir lc) r0>>=λds=>iV (dw (.nm 0)) (λa=>(cm ev .yes a).calm) (λa=>(bQ ev (.call 61 (.feed 1 .nil)) a).calm) ds [MA,Mt .feed]>>=λr=>.ok (.lst r)):=rfl;rw[e];refine T.bO (m:=1) (m':=12) _ (T.aP (λds hd=>?_) _ (T.jA _ BJ) (MN _));have hd:=of_decide_eq_true hd;refine T.aP (λ_ z=>z) _ (T.bO (m':=0) _ (T.aP (λr b=>?_) _ (signs ds MA) (MN _))) (by omega);exact .ok ⟨r,rfl,by rw[b.1];exact hd,b.2⟩
theorem Cm:∀{ds:List D},(∀e∈ds,oE e=Mz)->∃xs,iT ds=Mt xs/\xs.length=ds.length/\∀x∈xs,x.length=1
 |[],_=>⟨[],rfl,rfl,λx h=>nomatch h⟩|d::ds,h=>by
  obtain⟨xs,g,f,c⟩:=Cm λe b=>h e (MM _ b);have:=h d MG;cases d<;>first|exact nomatch(show My=Mz from this)|skip
  rename_i x;refine⟨x::xs,by simp only[iT,g];rfl,by simp[f],λy a=>?_⟩;rcases List.mem_cons.mp a with rfl|a;.exact Nr this
  .exact c y a
theorem fe{c b d:Type}(f:c->T b)(g:b->T d):∀t:T c,(t>>=f)>>=g=t>>=λa=>f a>>=g
 |.ok a=>rfl|.exc _=>rfl|.stuck=>rfl|.draw n k=>by
  show T.draw n (λi=>((k i)>>=f)>>=g)=T.draw n λi=>(k i)>>=λa=>f a>>=g;congr 1;funext i;exact fe f g (k i)
theorem Iv{s:Nat}(b:s=0):∀{xs:List M3}(n:Nat),(∀x∈xs,x.length=1)->xs.foldl (λa x=>a+x.length+s) n=n+xs.length
 |[],n,_=>rfl|x::xs,n,h=>by
  rw[List.foldl_cons,Iv b (n+x.length+s) λy c=>h y (MM _ c),h x MG,b,Nn];omega
theorem Cn{g:M3}(c:g.cps.size=0):∀{xs:List M3}(a:Array Nat),(∀x∈xs,x.length=1)->(xs.foldl (λb p=>b++g.cps++p.cps) a).size=a.size+xs.length
 |[],a,_=>rfl|x::xs,a,h=>by
  rw[List.foldl_cons,Cn c _ λy d=>h y (MM _ d),V2,V2,c,show x.cps.size=1 from h x MG,Nn];omega
theorem Iw{xs:List M3}(e:xs.length<=12)(h:∀x∈xs,x.length=1):(!Builtin.Str.tooLong (xs.toArray.foldl (·+·.length+(MF "").length) 0)&&decide ((dr "" xs).length<=MP))=Mz:=by
 have e1:xs.toArray.foldl (λa x=>a+x.length+(MF "").length) 0=xs.length:=by rw[List.foldl_toArray,Iv (s:=(MF "").length) rfl 0 h,Nat.zero_add]
 have d:(12:Nat)<=MP:=by decide
 have e2:(dr "" xs).length<=12:=by
  unfold dr;split
  .rename_i x;rw[h x MG];decide
  .unfold VY;show Array.size (List.foldl (λb p=>b++(MF "").cps++p.cps) _ (xs.drop 1))<=12;rw[Cn rfl _ λy c=>h y (UK c),Q3];cases xs with
   |nil=>decide|cons x xs=>
    have:((x::xs).headD Str.empty).cps.size=1:=h x MG;rw[this,Nn]at*;omega
 rw[ML,N1,decide_eq_true_eq];refine⟨?_,by omega⟩;rw[e1];unfold Vc;rw[decide_eq_false_iff_not];omega
theorem Iy:(br ev s2 r0).cu 13 (λh=>∃x,h=.nx [MA,Mt .feed,Mt (.d (.str x)),MA,MA,MA,MA,MA,MA]):=by
 have e:br ev s2 r0=(bQ ev lc r0>>=λd=>FC .join (.str "") [d]>>=λt=>.ok (.nx (r0.set 2 (Mt (.d t))))):=by
  have i:br ev s2 r0=(((bQ ev lc r0>>=λd=>(T.ok [A.d d]:T (List A)))>>=λas=>rT as>>=λb=>FC .join (.str "") b)>>=λt=>T.ok (Fl.nx (r0.set 2 (Mt (.d t))))):=rfl;rw[i,fe,fe];rfl
 rw[e];refine T.aP (λ_ z=>z) _ (T.bO (m':=0) _ (T.aP (λd hd=>?_) _ Iu (MN _))) (MN _);obtain⟨b,rfl,k,g⟩:=hd;obtain⟨a,f,j,c⟩:=Cm g;have e2:FC .join (.str "") [.lst b]=.ok (.str (dr "" a)):=by
  show(T.get (iT b)>>=λa=>T.need (!Builtin.Str.tooLong (a.toArray.foldl (·+·.length+(MF "").length) 0)&&decide ((dr "" a).length<=MP))>>=λ_=>T.ok (D.str (dr "" a)))=_;rw[f];show(T.need (!Builtin.Str.tooLong (a.toArray.foldl (·+·.length+(MF "").length) 0)&&decide ((dr "" a).length<=MP))>>=λ_=>T.ok (D.str (dr "" a)))=_;rw[Iw (by omega) c];rfl
 rw[e2];exact .ok ⟨dr "" a,rfl⟩
noncomputable def addrs:List MD:=[37,49,61,73,85,97,109,121,133]
noncomputable def Fm:List MD:=[152,171,190,209]
noncomputable def made(nm:D):List D:=(addrs.map λc=>D.exc c [])++Fm.map λc=>D.exc c [nm]
noncomputable def FH:dj->Ex
 |.b7 _ i _=>i|_=>.bad
noncomputable def Le:dj->Tg
 |.b7 t _ _=>t|_=>.nil
noncomputable abbrev rr(x:M3)(nm:D)(f e c b a:Option W):ag:=[MA,Mt .feed,Mt (.d (.str x)),Mt (.d nm),f,e,c,b,a]
theorem itemsAre(x:M3)(nm:D)(e d c b a:Option W):ny ev (FH (qk b3)) (rr x nm e d c b a)=.ok (gG (made nm)):=by kernel_rfl
noncomputable def Co(v:Ev)(r:dj):Fl->T Fl
 |.nx a=>br v r a|b=>.ok b
theorem dN(v:Ev)(s r:dj)(a:ag):br v (.cons s r) a=(br v s a>>=Co v r):=by
 rw[br];rfl
theorem nZ(v:Ev)(a:ag):br v .nil a=.ok (.nx a):=by rw[br]
theorem BK(v:Ev)(c:Ex)(a b:dj)(d:ag):br v (.iff c a b) d=(cm v c d>>=λx=>if x=Mz then br v a d else br v b d):=by rw[br]
theorem kU(v:Ev)(tg:Tg)(it:Ex)(b:dj)(a:ag):br v (.b7 tg it b) a=(ny v it a>>=λds=>ei (dw tg) (br v b) ds a):=by rw[br]
theorem BL(v:Ev)(a b:Ex)(d:ag):cm v (.pG a b) d=(cm v a d>>=λc=>if c=Mz then T.ok Mz else cm v b d):=by rw[cm]
theorem ql(v:Ev)(a:Ex)(b:ag):cm v (.bP a) b=cm v a b:=by rw[cm]
theorem zc(v:Ev)(a b:Ex)(d:ag):cm v (.kE a b) d=(cm v a d>>=λc=>if c=Mz then cm v b d else T.ok My):=by rw[cm]
theorem kW(v:Ev)(r:dj)(a:ag):Co v r (.nx a)=br v r a:=rfl
theorem aZ{b c:Type}(a:b)(f:b->T c):(T.ok a>>=f)=f a:=rfl
noncomputable def Lf(g:D->ag->T ag)(body:ag->T Fl)(ds:List D):Fl->T Fl
 |.nx a=>ei g body ds a|.ct a=>ei g body ds a|.bk a=>.ok (.nx a)|.rt r=>.ok (.rt r)
theorem fv(g:D->ag->T ag)(body:ag->T Fl)(d:D)(ds:List D)(b:ag):ei g body (d::ds) b=(g d b>>=λa=>body a>>=Lf g body ds):=by
 rw[ei];rfl
noncomputable def Fo:dj->Ex
 |.iff c _ _=>c|_=>.bad
noncomputable def c2:Ex:=Fo (qk (mB kT))
noncomputable def cA:Ex:=match c2 with
 |.pG a _=>a|_=>.bad
noncomputable def cG:Ex:=match c2 with
 |.pG _ (.bP (.kE g _))=>g|_=>.bad
noncomputable def cN:Ex:=match c2 with
 |.pG _ (.bP (.kE _ (.bP n)))=>n|_=>.bad
noncomputable def i2:dj:=qk (mB kT)
theorem Iz:c2=.pG cA (.bP (.kE cG (.bP cN))):=by kernel_rfl
theorem Fp:kT=.cons (qk kT) (.cons i2 .nil):=by kernel_rfl
theorem IA:i2=.iff c2 (.cons .bad .nil) .nil:=by kernel_rfl
theorem IB:b3=.cons (.b7 (Le (qk b3)) (FH (qk b3)) kT) .nil:=by kernel_rfl
theorem high{x:M3}{nm:D}{k:Int}{C:MD}{c b a:Option W}(f:dH .NotEq nm nm=.ok (.bl My))(j:br ev (qk kT) (rr x nm (Mt (.d (.int k))) (Mt (.d (.exc C [nm]))) c b a)=.ok (.nx (rr x nm (Mt (.d (.int k))) (Mt (.d (.exc C [nm]))) c b a)))(i:cm ev cA (rr x nm (Mt (.d (.int k))) (Mt (.d (.exc C [nm]))) c b a)=.ok My)(h:cm ev cG (rr x nm (Mt (.d (.int k))) (Mt (.d (.exc C [nm]))) c b a)=.ok Mz)(hN:cm ev cN (rr x nm (Mt (.d (.int k))) (Mt (.d (.exc C [nm]))) c b a)=(dH .NotEq nm nm>>=eV)):br ev kT (rr x nm (Mt (.d (.int k))) (Mt (.d (.exc C [nm]))) c b a)=.ok (.nx (rr x nm (Mt (.d (.int k))) (Mt (.d (.exc C [nm]))) c b a)):=by
 generalize rr x nm (Mt (.d (.int k))) (Mt (.d (.exc C [nm]))) c b a=e at*;rw[f]at hN;have g:cm ev c2 e=.ok My:=by
  rw[Iz,BL,i,aZ,if_neg Nx,ql,zc,h,aZ,if_pos rfl,ql,hN];rfl
 rw[Fp,dN,j,aZ];show br ev (.cons i2 .nil) e=_;rw[dN,IA,BK,g,aZ,if_neg Nx,nZ,aZ];exact nZ ev _
noncomputable def sv(x:M3)(nm:D)(c b a:Option W)(e:D×Nat):Prop:=br ev kT (rr x nm (Mt (.d (.int (e.2:Nat)))) (Mt (.d e.1)) c b a)=.ok (.nx (rr x nm (Mt (.d (.int (e.2:Nat)))) (Mt (.d e.1)) c b a))
section
variable(x:M3)(nm:D)(a6 a7 a8:Option W)
theorem e0:br ev kT (rr x nm (Mt (.d (.int (0:Nat)))) (Mt (.d (.exc 37 []))) a6 a7 a8)=.ok (.nx (rr x nm (Mt (.d (.int (0:Nat)))) (Mt (.d (.exc 37 []))) a6 a7 a8)):=by kernel_rfl
theorem DW:sv x nm a6 a7 a8 (.exc 37 [],0):=e0 x nm a6 a7 a8
theorem e1:br ev kT (rr x nm (Mt (.d (.int (1:Nat)))) (Mt (.d (.exc 49 []))) a6 a7 a8)=.ok (.nx (rr x nm (Mt (.d (.int (1:Nat)))) (Mt (.d (.exc 49 []))) a6 a7 a8)):=by kernel_rfl
theorem Mk:sv x nm a6 a7 a8 (.exc 49 [],1):=e1 x nm a6 a7 a8
theorem e2:br ev kT (rr x nm (Mt (.d (.int (2:Nat)))) (Mt (.d (.exc 61 []))) a6 a7 a8)=.ok (.nx (rr x nm (Mt (.d (.int (2:Nat)))) (Mt (.d (.exc 61 []))) a6 a7 a8)):=by kernel_rfl
theorem Ml:sv x nm a6 a7 a8 (.exc 61 [],2):=e2 x nm a6 a7 a8
theorem e3:br ev kT (rr x nm (Mt (.d (.int (3:Nat)))) (Mt (.d (.exc 73 []))) a6 a7 a8)=.ok (.nx (rr x nm (Mt (.d (.int (3:Nat)))) (Mt (.d (.exc 73 []))) a6 a7 a8)):=by kernel_rfl
theorem Gn:sv x nm a6 a7 a8 (.exc 73 [],3):=e3 x nm a6 a7 a8
theorem e4:br ev kT (rr x nm (Mt (.d (.int (4:Nat)))) (Mt (.d (.exc 85 []))) a6 a7 a8)=.ok (.nx (rr x nm (Mt (.d (.int (4:Nat)))) (Mt (.d (.exc 85 []))) a6 a7 a8)):=by kernel_rfl
theorem Mm:sv x nm a6 a7 a8 (.exc 85 [],4):=e4 x nm a6 a7 a8
theorem e5:br ev kT (rr x nm (Mt (.d (.int (5:Nat)))) (Mt (.d (.exc 97 []))) a6 a7 a8)=.ok (.nx (rr x nm (Mt (.d (.int (5:Nat)))) (Mt (.d (.exc 97 []))) a6 a7 a8)):=by kernel_rfl
theorem Mn:sv x nm a6 a7 a8 (.exc 97 [],5):=e5 x nm a6 a7 a8
theorem e6:br ev kT (rr x nm (Mt (.d (.int (6:Nat)))) (Mt (.d (.exc 109 []))) a6 a7 a8)=.ok (.nx (rr x nm (Mt (.d (.int (6:Nat)))) (Mt (.d (.exc 109 []))) a6 a7 a8)):=by kernel_rfl
theorem Mo:sv x nm a6 a7 a8 (.exc 109 [],6):=e6 x nm a6 a7 a8
theorem e7:br ev kT (rr x nm (Mt (.d (.int (7:Nat)))) (Mt (.d (.exc 121 []))) a6 a7 a8)=.ok (.nx (rr x nm (Mt (.d (.int (7:Nat)))) (Mt (.d (.exc 121 []))) a6 a7 a8)):=by kernel_rfl
theorem Mp:sv x nm a6 a7 a8 (.exc 121 [],7):=e7 x nm a6 a7 a8
theorem e8:br ev kT (rr x nm (Mt (.d (.int (8:Nat)))) (Mt (.d (.exc 133 []))) a6 a7 a8)=.ok (.nx (rr x nm (Mt (.d (.int (8:Nat)))) (Mt (.d (.exc 133 []))) a6 a7 a8)):=by kernel_rfl
theorem Gp:sv x nm a6 a7 a8 (.exc 133 [],8):=e8 x nm a6 a7 a8
theorem Lg:br ev (qk kT) (rr x nm (Mt (.d (.int (9:Nat)))) (Mt (.d (.exc 152 [nm]))) a6 a7 a8)=.ok (.nx (rr x nm (Mt (.d (.int (9:Nat)))) (Mt (.d (.exc 152 [nm]))) a6 a7 a8)):=by kernel_rfl
theorem Lh:cm ev cA (rr x nm (Mt (.d (.int (9:Nat)))) (Mt (.d (.exc 152 [nm]))) a6 a7 a8)=.ok My:=by kernel_rfl
theorem Li:cm ev cG (rr x nm (Mt (.d (.int (9:Nat)))) (Mt (.d (.exc 152 [nm]))) a6 a7 a8)=.ok Mz:=by kernel_rfl
theorem Lj:cm ev cN (rr x nm (Mt (.d (.int (9:Nat)))) (Mt (.d (.exc 152 [nm]))) a6 a7 a8)=(dH .NotEq nm nm>>=eV):=by kernel_rfl
theorem Mq(a:dH .NotEq nm nm=.ok (.bl My)):sv x nm a6 a7 a8 (.exc 152 [nm],9):=high a (Lg x nm a6 a7 a8) (Lh x nm a6 a7 a8) (Li x nm a6 a7 a8) (Lj x nm a6 a7 a8)
theorem IC:br ev (qk kT) (rr x nm (Mt (.d (.int (10:Nat)))) (Mt (.d (.exc 171 [nm]))) a6 a7 a8)=.ok (.nx (rr x nm (Mt (.d (.int (10:Nat)))) (Mt (.d (.exc 171 [nm]))) a6 a7 a8)):=by kernel_rfl
theorem ID:cm ev cA (rr x nm (Mt (.d (.int (10:Nat)))) (Mt (.d (.exc 171 [nm]))) a6 a7 a8)=.ok My:=by kernel_rfl
theorem IE:cm ev cG (rr x nm (Mt (.d (.int (10:Nat)))) (Mt (.d (.exc 171 [nm]))) a6 a7 a8)=.ok Mz:=by kernel_rfl
theorem IF:cm ev cN (rr x nm (Mt (.d (.int (10:Nat)))) (Mt (.d (.exc 171 [nm]))) a6 a7 a8)=(dH .NotEq nm nm>>=eV):=by kernel_rfl
theorem Lk(a:dH .NotEq nm nm=.ok (.bl My)):sv x nm a6 a7 a8 (.exc 171 [nm],10):=high a (IC x nm a6 a7 a8) (ID x nm a6 a7 a8) (IE x nm a6 a7 a8) (IF x nm a6 a7 a8)
theorem IG:br ev (qk kT) (rr x nm (Mt (.d (.int (11:Nat)))) (Mt (.d (.exc 190 [nm]))) a6 a7 a8)=.ok (.nx (rr x nm (Mt (.d (.int (11:Nat)))) (Mt (.d (.exc 190 [nm]))) a6 a7 a8)):=by kernel_rfl
theorem IH:cm ev cA (rr x nm (Mt (.d (.int (11:Nat)))) (Mt (.d (.exc 190 [nm]))) a6 a7 a8)=.ok My:=by kernel_rfl
theorem II:cm ev cG (rr x nm (Mt (.d (.int (11:Nat)))) (Mt (.d (.exc 190 [nm]))) a6 a7 a8)=.ok Mz:=by kernel_rfl
theorem IJ:cm ev cN (rr x nm (Mt (.d (.int (11:Nat)))) (Mt (.d (.exc 190 [nm]))) a6 a7 a8)=(dH .NotEq nm nm>>=eV):=by kernel_rfl
theorem Ll(a:dH .NotEq nm nm=.ok (.bl My)):sv x nm a6 a7 a8 (.exc 190 [nm],11):=high a (IG x nm a6 a7 a8) (IH x nm a6 a7 a8) (II x nm a6 a7 a8) (IJ x nm a6 a7 a8)
theorem IK:br ev (qk kT) (rr x nm (Mt (.d (.int (12:Nat)))) (Mt (.d (.exc 209 [nm]))) a6 a7 a8)=.ok (.nx (rr x nm (Mt (.d (.int (12:Nat)))) (Mt (.d (.exc 209 [nm]))) a6 a7 a8)):=by kernel_rfl
theorem IL:cm ev cA (rr x nm (Mt (.d (.int (12:Nat)))) (Mt (.d (.exc 209 [nm]))) a6 a7 a8)=.ok My:=by kernel_rfl
theorem IM:cm ev cG (rr x nm (Mt (.d (.int (12:Nat)))) (Mt (.d (.exc 209 [nm]))) a6 a7 a8)=.ok Mz:=by kernel_rfl
theorem IP:cm ev cN (rr x nm (Mt (.d (.int (12:Nat)))) (Mt (.d (.exc 209 [nm]))) a6 a7 a8)=(dH .NotEq nm nm>>=eV):=by kernel_rfl
theorem Lm(a:dH .NotEq nm nm=.ok (.bl My)):sv x nm a6 a7 a8 (.exc 209 [nm],12):=high a (IK x nm a6 a7 a8) (IL x nm a6 a7 a8) (IM x nm a6 a7 a8) (IP x nm a6 a7 a8)
theorem Fq:(made nm).zipIdx=[(.exc 37 [],0),(.exc 49 [],1),(.exc 61 [],2),(.exc 73 [],3),(.exc 85 [],4),(.exc 97 [],5),(.exc 109 [],6),(.exc 121 [],7),(.exc 133 [],8),(.exc 152 [nm],9),(.exc 171 [nm],10),(.exc 190 [nm],11),(.exc 209 [nm],12)]:=by kernel_rfl
theorem good(a:dH .NotEq nm nm=.ok (.bl My)):∀e∈(made nm).zipIdx,sv x nm a6 a7 a8 e:=by
 intro e b;rw[Fq]at b;simp only[Nl,Nj,or_false]at b;rcases b with rfl|rfl|rfl|rfl|rfl|rfl|rfl|rfl|rfl|rfl|rfl|rfl|rfl;.exact DW x nm a6 a7 a8
 .exact Mk x nm a6 a7 a8
 .exact Ml x nm a6 a7 a8
 .exact Gn x nm a6 a7 a8
 .exact Mm x nm a6 a7 a8
 .exact Mn x nm a6 a7 a8
 .exact Mo x nm a6 a7 a8
 .exact Mp x nm a6 a7 a8
 .exact Gp x nm a6 a7 a8
 .exact Mq x nm a6 a7 a8 a
 .exact Lk x nm a6 a7 a8 a
 .exact Ll x nm a6 a7 a8 a
 .exact Lm x nm a6 a7 a8 a
end
theorem qm{x:M3}{nm:D}{c b a:Option W}:∀(l:List (D×Nat)),(∀e∈l,sv x nm c b a e)->∀g f,∃b4 i,ei (dw (Le (qk b3))) (br ev kT) (l.map λe=>D.tup [.int (e.2:Nat),e.1]) (rr x nm g f c b a)=.ok (.nx (rr x nm b4 i c b a))
 |[],_,g,f=>⟨g,f,rfl⟩|e::l,h,g,f=>by
  obtain⟨b4,i,j⟩:=qm l (λy k=>h y (MM _ k)) (Mt (.d (.int (e.2:Nat)))) (Mt (.d e.1));refine⟨b4,i,?_⟩;have m:dw (Le (qk b3)) (D.tup [.int (e.2:Nat),e.1]) (rr x nm g f c b a)=.ok (rr x nm (Mt (.d (.int (e.2:Nat)))) (Mt (.d e.1)) c b a):=by kernel_rfl
  have n:br ev kT (rr x nm (Mt (.d (.int (e.2:Nat)))) (Mt (.d e.1)) c b a)=.ok (.nx (rr x nm (Mt (.d (.int (e.2:Nat)))) (Mt (.d e.1)) c b a)):=h e MG;rw[M9,fv,m,aZ,n,aZ];exact j
theorem inner(x:M3)(nm:D)(g:dH .NotEq nm nm=.ok (.bl My))(f e d c b:Option W):∃b4 a,br ev b3 (rr x nm f e d c b)=.ok (.nx (rr x nm b4 a d c b)):=by
 obtain⟨b4,a,h⟩:=qm (made nm).zipIdx (good x nm d c b g) f e;refine⟨b4,a,?_⟩;rw[IB,dN,kU,itemsAre,aZ];unfold gG;rw[h,aZ];exact nZ ev _
theorem BM(x:M3):dH .NotEq (.str x) (.str x)=.ok (.bl My):=by
 show(T.get (Mt (x==x))>>=λb=>T.ok (D.bl (!b)))=_;rw[beq_self_eq_true];rfl
theorem IQ(x:M3):∃b,zh (.nx b)=Mz/\br ev s3 [MA,Mt .feed,Mt (.d (.str x)),MA,MA,MA,MA,MA,MA]=.ok (.nx b):=by
 obtain⟨b4,a,k⟩:=inner x (.str x) (BM x) MA MA MA MA MA;obtain⟨e,c,j⟩:=inner x .aJ rfl b4 a MA MA MA;refine⟨rr x .aJ e c MA MA MA,rfl,?_⟩;have i:s3=.b7 (.nm 3) (FH s3) b3:=by kernel_rfl
 have h:ny ev (FH s3) [MA,Mt .feed,Mt (.d (.str x)),MA,MA,MA,MA,MA,MA]=.ok [.str x,.aJ]:=by kernel_rfl
 have g:dw (.nm 3) (.str x) [MA,Mt .feed,Mt (.d (.str x)),MA,MA,MA,MA,MA,MA]=.ok (rr x (.str x) MA MA MA MA MA):=by kernel_rfl
 have f:dw (.nm 3) .aJ (rr x (.str x) b4 a MA MA MA)=.ok (rr x .aJ b4 a MA MA MA):=by kernel_rfl
 rw[i,kU,h,aZ,fv,g,aZ,k,aZ];show ei (dw (.nm 3)) (br ev b3) [.aJ] (rr x (.str x) b4 a MA MA MA)=_;rw[fv,f,aZ,j,aZ];show ei (dw (.nm 3)) (br ev b3) [] (rr x .aJ e c MA MA MA)=_;rw[ei]
theorem Cp{a:ag}(h:zh (.nx a)=Mz):∃i g f e d c b,a=[MA,Mt .feed,i,g,f,e,d,c,b]:=Ch.of h
theorem IS{g:D->ag->T ag}{body:ag->T Fl}{Q:ag->Prop}{m:Nat}(h:∀d c,Q c->∃f,g d c=.ok f/\(body f).cu m (λi=>∃a,i=.nx a/\Q a)):∀(l:List D)(c:ag),Q c->(ei g body l c).cu (m*l.length) (λi=>∃a,i=.nx a/\Q a)
 |[],c,q=>by
  rw[ei];exact .ok ⟨c,rfl,q⟩|d::l,c,q=>by
  obtain⟨f,e,b⟩:=h d c q;rw[fv,e,aZ,show m*(d::l).length=m+m*l.length by rw[Nn,Nat.mul_add];omega];refine T.bO _ (T.aP (λi k=>?_) _ b (MN _));obtain⟨a,rfl,j⟩:=k;exact IS h l a j
theorem IT{b:Fl}(h:zh b=Mz):∃a,b=.nx a/\zh (.nx a)=Mz:=by cases b with
 |nx a=>exact⟨a,rfl,h⟩|_=>exact nomatch(show My=Mz from h)
theorem Ln(d:D)(g f e c h b a:Option W):dw (.nm 6) d [MA,Mt .feed,g,f,e,c,h,b,a]=.ok [MA,Mt .feed,g,f,e,c,Mt (.d d),b,a]:=by kernel_rfl
theorem Fs(i g f e d c b:Option W):(br ev b4 [MA,Mt .feed,i,g,f,e,d,c,b]).cu 2 (λj=>∃a,j=.nx a/\zh (.nx a)=Mz):=by
 have h:=Iq i g f e d c b;generalize br ev b4 [MA,Mt .feed,i,g,f,e,d,c,b]=t at h⊢;exact T.aP (λj k=>IT k) _ (T.jA t h) (MN _)
theorem Lo(l:List D)(a:ag)(h:zh (.nx a)=Mz):(ei (dw (.nm 6)) (br ev b4) l a).cu (2*l.length) (λk=>∃b,k=.nx b/\zh (.nx b)=Mz):=by
 refine IS (Q:=λa=>zh (.nx a)=Mz) (λd a q=>?_) l a h;obtain⟨j,i,g,f,m,e,c,rfl⟩:=Cp q;exact⟨_,Ln d j i g f m e c,Fs j i g f (Mt (.d d)) e c⟩
noncomputable def s5:dj:=.cons (.ret (.cst (.bl Mz))) .nil
theorem BN:iC=.cons s2 (.cons s3 (.cons s4 s5)):=by kernel_rfl
theorem IU:s4=.b7 (.nm 6) (FH s4) b4:=by kernel_rfl
theorem IV(g f e d c b a:Option W):ny ev (FH s4) [MA,Mt .feed,g,f,e,d,c,b,a]=.ok (dv 8):=by kernel_rfl
theorem last(a:ag):br ev s5 a=.ok (.rt (.bl Mz)):=by kernel_rfl
theorem IW(a:ag)(c:zh (.nx a)=Mz):(br ev (.cons s4 s5) a).cu 16 (λd=>d=.rt (.bl Mz)):=by
 have e4:br ev s4 a=ei (dw (.nm 6)) (br ev b4) (dv 8) a:=by
  obtain⟨o,n,l,k,j,i,h,rfl⟩:=Cp c;rw[IU,kU,IV,aZ]
 have b:=Lo (dv 8) a c;have f:2*(dv 8).length=16:=by decide+kernel
 rw[dN,e4];rw[f]at b;generalize ei (dw (.nm 6)) (br ev b4) (dv 8) a=t at b⊢;refine T.bO (m:=16) (m':=0) _ (T.aP (λd g=>?_) _ b (MN _));obtain⟨e,rfl,_⟩:=g;rw[kW,last];exact .ok rfl
theorem tail3(x:M3):(br ev (.cons s3 (.cons s4 s5)) [MA,Mt .feed,Mt (.d (.str x)),MA,MA,MA,MA,MA,MA]).cu 16 (λe=>e=.rt (.bl Mz)):=by
 obtain⟨a,b,c⟩:=IQ x;rw[dN,c,aZ,kW];exact IW a b
theorem whole:(br ev iC r0).cu 29 (λb=>b=.rt (.bl Mz)):=by
 have a:=Iy;rw[BN,dN];generalize br ev s2 r0=t at a⊢;refine T.bO (m:=13) (m':=16) _ (T.aP (λb c=>?_) _ a (MN _));obtain⟨x,rfl⟩:=c;rw[kW];exact tail3 x
noncomputable def tY(e:En):Bool:=match e.k with
 |.wit _=>Mz|.df _=>My
theorem Lp:(ents.filter tY).map (λe=>(e.x,e.k))=[(MF "_law_draw",.wit K56d.tX)]:=by kernel_rfl
theorem txt{P:MX}{w:M_}{mg:M3->Option Mv}{base h:Na}(X:Sk (head.heap_39 w.params) h)(G:h.Ns NA mg):i8 P w (head.heap_39 w.params) mg base Jv defs gv:=by
 have b:mg "len"=MA:=by
  have:=List.all_eq_true.mp (LK w.params) (MF "len") (by simp[cM]);split at this;.rename_i e;exact Vw X G e
  .cases this
 refine E9 (ds:=cons) (cs:=K4) X G (λi d hd=>?_) Mg (Md w.params) (Mb w.params) (Mc w.params) (Ma w.params) (LK w.params) λe p t m=>?_
 .unfold gl at hd;split at hd
  .rename_i e;have e:=Nr e;subst e;cases hd;refine .inr ⟨rfl,λx l=>?_⟩;have g:gn[21]?=Mt (MF "FORMS"):=by kernel_rfl
   rw[g]at l;cases l;obtain⟨u,v,e,r,n⟩:=Fe (P:=P) (Lc w.params) (Ld w);exact⟨u,v,P6 X G e,r,n⟩
  .exact .inl hd
 .have o:e∈ents.filter tY:=List.mem_filter.mpr ⟨p,by unfold tY;rw[m]⟩;have a:(e.x,e.k)∈(ents.filter tY).map λe=>(e.x,e.k):=Np (f:=λe:En=>(e.x,e.k)) o;rw[Lp]at a;have j:=List.mem_singleton.mp a;injection j with q c;rw[m]at c;injection c with c;subst c;rw[q];exact⟨2,y_ X G b⟩
theorem IX(p:R1):∃f fd,NQ (head.heap_39 p) NA "law"=Mt (Mt (.ref f))/\(∀us:List Mv,us.length=1->VE fd ⟨us,[]⟩=pure ([MF "_law_script"].zip us))/\∀{P:MX}{w:M_}{mg:M3->Option Mv}{base:Na},w.params=p->Sk (head.heap_39 p) base->base.Ns NA mg->cw P w (head.heap_39 p) mg base qp 40 f fd ["_law_script"] (yT (head.heap_39 p)):=by
 obtain⟨f,fd,F,c,b⟩:=kM (Mf p) K6;refine⟨f,fd,c,b,λ{P w mg base}a X G=>?_⟩;subst a;have T:i8 P w (head.heap_39 w.params) mg base Jv defs gv:=txt X G;exact E_ (n:=38) (m:=29) T F (r9 K8) (BH X G (T.bl _ (yy rfl))) rfl K9 K_ La (Ch.of K7) (by decide) whole
end K56
end
open PySem PySem.W PyProof.Rows
theorem PySem.Challenge.cw_wallplan_k56_refusals_of_their_own_holds : PySem.Challenge.rw_wallplan_k56_refusals_of_their_own.Holds := by
 refine head (L2.zN (l:=Pr) (n:=63) (k:=40) (x:=MF "_law_script") (K:=head.heap_39) (CX:=λ_=>L2.qp) (sp:=λw=>L2.yT (head.heap_39 w.params)) rfl (by decide) rfl ⟨rfl,by decide,by decide⟩ (λw h Y=>PySem.W.kIn_of Y) ?F ?S ?C)
 case F=>
  intro w mg m h o G b
  obtain ⟨f,fd,j,i,g⟩:=K56.IX w.params
  have e:mg (MF "law")=Mt (.ref f):=P6 o G j
  have e2:(Mt (MW f):Option Mv)=Mt (.ref m):=e.symm.trans b
  cases e2
  exact ⟨fd,λs u=>.of_eq (i [u] rfl),λbase X G=>g rfl X G⟩
 case S=>exact λw H a ns c _ d=>⟨a,ns,rfl,d,c,λ_=>rfl⟩
 case C=>exact λ_ _ _ _ _ z=>z
