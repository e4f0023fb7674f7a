import PyProof.Rows.All
import Wide.All
import OpenK.AllK
import Wide.FinOn
import Lean
import PyProof.EqAt
import PyProof.EqKinds
import PyProof.TupleCall
import PyProof.NeKinds
import PyProof.ZipIter
import PyProof.EnumMake
import PyProof.InstStoreFacts
import Open.Row
import KE.KDictOf
import PyProof.AttrMissHeap
import PySem.Challenge.RW_wallplan_k24_runs
set_option Elab.async false
set_option linter.all false
set_option maxRecDepth 100000
set_option maxHeartbeats 0
local macro_rules | `(tactic| omega) => `(tactic| lia)

open Option renaming some->NF,none->NN,map_some->Rn,getD_none->Si,map_eq_some_iff->Vw,isSome_some->WD
open PySem renaming wpAny_bind->NG,Value->NJ,Shared->NL,wpAny_pure->NO,Addr->NR,sizeLine->NW,model->N2,Program->N7,Expr->Ob,starEach->Og,Str->Oo,World->Oq,Around->Ov,Heap->Oy,wpAny_holding->OE,wpAny_newObj_type->ON,mainGlobals->OQ,argBest->OT,intKind->OU,Obj->OW,wpAny_mono->O3,compareOp->O6,wpAny_call_entry->O7,wpAny_loadPart_at->Ph,cLine->Pj,SetTable->Pk,codeAny_builtin->Pp,mem_of_lookup->PD,FuncData->PH,bootBuiltins->P7,Pos->P8,eval->Qa,sizeLine_eq->Qb,wpAny_standAt->Qe,plainId_quiet->Qg,sysModules->Qi,assignEach->Qj,wpAny_seqItems->Ql,cellsFrom->Qp,Stmt->Qq,Scope->Qr,richCompare->Qs,backTo->Qu,swapsWith->Qz,wpAny_forIn_list->QB,wpAny_askSetting->QF,swappedStores->QL,wpAny_typeNameOfWhole_keyiter->QP,wpAny_tryCatch->QR,wpAny_truthy_bool->QV,foldedSetIterable->QX,wpAny_loadPart'->Q3,pushCells->Ra,NameKind->Rb,wpAny_setField->Rf,wpAny_passesOwn->Rl,letOwnedTupleGo->Rm,codeAny_mono->Ro,pyNext->Rt,wpAny_typeNameOf_keyiter->Rx,binaryOp->RC,wpAny_isInstance->RD,wpAny_callSpecial?_slot->RE,wpAny_of_eq->RH,CmpOp->RR,wpAny_specialOf->RT,wpAny_updateSeq->RY,behindInMarks->RZ,attributeBase->R0,rawInt->R6,intKind_is->R_,codeAny_call_builtin->Sa,wpAny_letGo->Sf,Keyword->Sj,pushCells_keeps->SA,wpAny_Call_Name_kw->SG,call->SI,sliceBounds->SK,DictEntry->SN,noteFrame->SO,standAt->SR,richCompare_meets_room->SU,wpAny_setState_of->S_,wpAny_pyIter_slot->Ta,wpAny_pyIter_list->Tc,sizeLine->Tn,Model->To,isSubtype_tuple_tuple->Tq,builtinLookup_eq_fast->Tr,assign->Tt,wpAny_rule->Tu,holding->TB,valueAt->TC,wpAny_attempt->TF,Comprehension->TH,keywordEach->TK,wpAny_execs_nil->TV,Params->TX,codeAny_of_tree->T2,wpAny_setEntries_of->T7,Env->Uc,PassesOwn->Ud,setFlight->Ue,seqItems?->Ug,typeLookup->Ul,wpAny_tupleItemsOf->Uq,isInstance->Us,wpAny_fieldsOf->Uv,firstArgMember->Uw,wpAny_pyIter_tuple->Ux,call_function_tree->Uz,Sem->UG,wpAny_dictEntries->UN,wpAny_field->UO,unsupported->UP,swapsWithSole->UR,pyIter->US,wpAny_newList->UW,wpAny_comprehension_free->UY,Arguments->U0,noFill_tuple_add->U2,compTurn->U5,checkBuiltinCall->U8,builtinsNs->Vf,isTrue->Vg,wpAny_pyNext_list_item->Vi,wpAny_call->Vj,wpAny_Call_method_late->Vn,wpAny_typeOf->Vv,call_meetsIn->Vy,Tok->Vz,theTreesLotGoes->VD,wpAny_dictEpoch->VE,typeLookup_type->VF,wpAny_pyNext_list_end->VG,wpAny_notOrdered_dict->VJ,wpAny_isOneOf_keyiter->VM,GenState->VR,rule->VT,bindName->VU,Operator->VV,typeOf->VX,backToKw->VY,setField->V8,wpAny_pyIter_keyiter->V9,isSubtype_type->V_,excClassObj->Wb,unbindBehindTheSuite->Wc,boot_len->Wd,callerA->We,pickOrder->Wf,wpAny_isSubtype_exc->Wl,assignInOrder->Wo,seq_tuple_add->Wq,PlainAttrs->WC,wpAny_eqBool_tuple->WE,getattributeRaised->WI,bindArgs->WO,concat_meets->WR,seqIndex_neg->WS,eqIsQuiet_byValue->WT,wpAny_storeSet_of->WX,collect->WY,atKey->W3,getAttr?->W4,eqIsQuiet->Xa,putSet_of->Xb,updateSeq->Xe,seqIndex_of->Xf,subscripted->Xg,wpAny_alloc->Xi,Walks->Xj,ret->Xm,storedH->Xn,entryOfKey->Xo,wpAny_Name->Xp,again->Xq,Result->Xr,bindL->Xs,bindC->Xt,call_meets->Xu,closureFor->Xv,newTuple->Xy,entryFor->Xz,setsByText->XA,setAdd->XB,fresh->XF,BindsTo->XJ,leaving->XM,getItem->XN,relabel->XO
open PySem.Str renaming ofString->NH
open Bool renaming true->NM,false->NP,and_eq_true->N0,false_eq_true->Oh,false_ne_true->O9,not_true->Pz,or_eq_true->PR,not_eq_true'->P4,eq_iff_iff->RX,and_true->Ws
open PySem.Heap renaming get?_push_of_some->NQ,lt_size->N1,get?_push_size->N4,get?_update_other->Oa,get?_update_self->OF,size_push->OS,SameBut->PF
open PySem.W renaming Frag->NS,kia_one->Pg,kitOne->Py,codeIn->Qk,nsIn->QN,cellsFrom_some->RI,kit_cls->RW,Looks->R3,mg_of->R4,keepIn->R9,kitCls->Sb,findIn->SS,looks_findIn->TR,methodObj->UE,kitx_list->UH,kas_rev->UM,next->Vh,fnOf->Vk,hashAt->Vr,kas_descPart->Vt,instObj->VA,lookIn->VW,kitx_tuple->Wx,callWith_K->Wz,codeRec_of->WA,mg_none_of->WJ,kitx_dict->WN,kas_tail3->Xd
open Option.some renaming inj->NU,injEq->Pw
open List renaming mem_cons_self->NV,mem_cons_of_mem->NX,length_map->NY,size_toArray->N5,getElem?_eq_getElem->Oc,mem_append_right->Oe,length_cons->Ol,getElem?_map->Om,map_cons->Ot,length_nil->Ox,mem_of_getElem?->OH,getElem?_append_right->OI,range->OJ,append_assoc->OK,mem_append_left->OL,length_append->OO,lookup_cons->OP,replicate->OV,all_eq_true->O8,zip_cons_cons->O_,toArray->Pb,mem_cons->Pe,getElem?_append_left->Pf,append_nil->Pn,map_append->Po,filterMap_cons->PC,map_map->PJ,getElem?_set->PK,getD_eq_getElem?_getD->PN,length->Qc,extract_eq_drop_take->Qw,length_replicate->Qx,take_append_drop->Qy,not_mem_nil->QJ,getElem?_replicate->QY,getElem?_cons_succ->QZ,map_congr_left->Q8,all_cons->Q9,mem_singleton->Rh,perm_append_comm->Rj,drop_eq_getElem_cons->Rk,nodup_append->Rr,any_cons->Rv,mem_map_of_mem->Rz,getElem?_cons_zero->RG,map_nil->RJ,take_of_length_le->RL,find?_cons->RS,length_take->Sh,isEmpty_nil->Sm,getElem?_zip_eq_some->Sn,getElem?_take_of_lt->Ss,length_erase_of_mem->Sy,zip_nil_right->SH,getElem?_set_self->SQ,forIn_nil->S7,reverse_perm->Th,length_singleton->Tp,length_drop->Tv,forIn_cons->T4,mem_append->T5,getElem?_drop->Ut,perm_ext_iff_of_nodup->Uu,perm_append_singleton->UA,mem_of_find?_eq_some->UB,zip_nil_left->UI,length_range->UL,eraseIdx_cons_succ->U3,ext_getElem->U6,drop_length->U9,length_pos_of_mem->Vs,of_mem_zip->VB,length_set->VC,getElem?_set_ne->VS,pairwise_append->V3,mem_of_mem_take->V4,mem_of_mem_drop->V5,mem_erase_of_ne->V6,take_sublist->WQ,ext_getElem?->WZ,lookup->Xh,map->XI
open Nat renaming le_refl->NZ,lt_of_lt_of_le->Od,ne_of_lt->Oj,zero_le->OB,le_trans->OC,lt_irrefl->OD,lt_succ_self->OY,exists_eq_add_of_le'->O5,eq_of_beq_eq_true->Pl,lt_succ_of_lt->Pu,ne_of_gt->PU,not_lt_zero->Qt,le_succ->QQ,lt_trichotomy->Rp,reduceAdd->Ry,beq->RA,lt_of_le_of_lt->RK,reduceSub->R5,le_of_lt->Sg,le_add_right->Sk,add_assoc->Sw,lt_trans->T8,succ_pos->T9,le_succ_of_le->UQ,add_sub_cancel_left->Vb,le_of_eq->Vo,div_div_eq_div_mul->Vp,mod_lt->Vq,add_zero->WU,le_of_lt_succ->WV
open PyProof.Rows renaming wpS_bind->N3,wpS_pure->N_,pendingOf->Oi,Keyed->Ou,SortSt->OA,seqObj->P6,SortKind->Qd,elem'->Qn,IntsAre->QM,arrOf->QO,wpS_modify->RP,get?_update_seq->RV,callWith_type1->R8,listUpdate_at->Sz,wpS_get->Td,AllBare->Tz,seqEpoch_at->TM,wpS_mono->TU,assignInOrder_cons->Uj,envOfC->UT,failedOf->U7,subscriptTail_builtinR->Vm,wpS->VQ,lt_int->Wh,subscriptTail->Wr,IsTup->WL,assignInOrder_nil->WM,keyKind'->Xx,gallopOf->XG
open Array renaming getElem?_eq_getElem->N6,getD_eq_getD_getElem?->OM,getElem?_toList->OR,length_toList->Pc,toList_append->Pm,getElem?_eq_none->PV,toList_push->P0,perm_iff_toList_perm->Qo,size_push->Q5,toList_extract->Rq,toList_reverse->Se,toList_map->Sl,size_append->Tf,mem_toList_iff->TQ,getElem?_setIfInBounds->TY,forIn_toList->Ur,toList_setIfInBounds->Uy,toList_modify->Wn,getD->WG,size_extract->WH
open PySem.SetTable renaming below->N8,bits->N9,runEnd->OG,insertAt->OZ,turns->Qm,Probe->Rc,leap->R1,layClean->UK,grown->V7
open PySem.Value renaming ref->Of,none->Oz,int->Q_,builtin->Sx,notImplemented->TJ,bool->Uh,type->Ww,str->W9
open Ne renaming symm->OX
open List.Perm renaming append_left->O1,trans->P_,append_right->RQ,of_eq->SF
open PySem.Heap.SameBut renaming update->O2
open PySem.Around renaming under_plainId->O4,in1_units->RF
open PySem.Obj renaming data_mapFields->Pa,mapSeq->Pq,isFreed_of_fields->P5,mapFields->Qf,cls_mapFields->Tb
open PySem.F renaming plain_min_loop->Px,plain_max_loop->PX,slot_dict_keyiterator_next->Q4,slot_dict_get->Ri,entry_dict_get->RO,args_tuple_add_2->Sv,entry_tuple_add->SJ,slot_tuple_add->SV,entry_max_loop->Ti,entry_min_loop->Tj,typeOf_object_class->Ts,args_dict_keyiterator_next_1->Tw,entry_dict_keyiterator_next->TN,slot_enumerate_iter->Ub,slot_tuple_index->UZ,args_tuple_lt_2->U1,slot_tuple_hash->U4,plainAttrs_list->U_,args_dict_get_2->Va,args_dict_get_3->Vc,entry_tuple_lt->Vl,slot_tuple_lt->VH,slot_tuple_eq->VI,slot_set_iter->VN,plain_set_new->VO,slot_set_add->Wa,plain_min->W6,entry_min->W7
open PySem.NameKind renaming cell->PB,free->PQ
open PySem.Builtin.Builtins renaming bindParams->PL
open PySem.Builtin.Tuple renaming tupleCompareSizes->PM,tupleHashOf->PY,tupleItemsOf->Uo
open False renaming elim->PZ
open ForInStep renaming yield->P9,done->Te
open List.cons renaming inj->Qh,injEq->RU
open PyProof.Rows.F renaming plain_set_update_loop->Q6,entry_set_update_loop->Sr
open PySem.Code renaming quiet_builtin->Rg
open PySem.SeqAt renaming EqAt->Ru,RcNeAt->Ua,RcAt->Vx
open Prod.mk renaming injEq->Rw
open Int renaming emod_lt_of_pos->RM,emod_nonneg->SD,toNat_natCast->SW,le_refl->Xk,one_mul->Xl
open PySem.SetTable.layClean renaming free->RN
open PySem.Challenge renaming rw_wallplan_k24_runs->Sq
open PySem.AutoSeq1 renaming sub_tuple_tuple->Su
open PySem.W.KasT renaming kasWp_bind->SE,ret->Xw
open PySem.Calls renaming callWith_builtin->SX,evalArgs_plain->TL,Name_function_global->Ui,call_function_entry->UC,call_len_list->Wg
open Or renaming inl->SY,inr->Um
open Sum renaming inl->Tx,inr->UD
open PySem.Builtin.Dict_items renaming ownsTuple->TZ
open PySem.W.Frag renaming In->T6
open PySem.Builtin.List renaming listLengthHint->T_
open True renaming intro->Uk
open PySem.SetTable.probe renaming go->UJ
open List.Pairwise renaming imp_of_mem->UU
open PySem.Builtin.Frozenset renaming addrOf->UX
open PySem.Builtin.Dict renaming updateFrom->Vd,showsAll->VL
open PySem.PyData renaming weightAll->Ve,leavesShortAll->VP,showableAll->WK,hasDictAll->W5
open PyProof.Rows.SortSt renaming mk'->Vu
open PySem.SeqAt.EqAt renaming int_tuple->VZ,str_tuple->V0,tuple_int->V1,tuple_str->V2,int_str->Wu,str_int->Wv,int_int->WB
open PySem.EntryCells renaming newEntry->Wj
open Function renaming comp_apply->Wm
open PySem.SetTable.below renaming go->WW
open PySem.pickOrder renaming go->W0
open PySem.PassesOwn renaming leaving->W8
open PySem.Flow renaming next->W_
open PUnit renaming unit->XD
open PySem.Env renaming kindOf->XH
section
namespace PySem.W.Fast
noncomputable def te13052408679150730464:=0
noncomputable def te16555476440528808052:=0
noncomputable def te5452508617037859911:=0
noncomputable def te4868988410673395695:=0
end PySem.W.Fast
open PySem PySem.W PyProof.Rows
open_top head for PySem.Challenge.rw_wallplan_k24_runs
end
section
namespace L2
open PySem PySem.Spec PyProof.Rows
abbrev Key:=Sum Int Oo
noncomputable def mK:Key->NJ->Bool
 |.inl k,v=>Value.isInt k v|.inr x,v=>Value.isStrOf x v
noncomputable def Lg(w:Oq):Key->Int
 |.inl k=>hashInt k|.inr x=>hashStr w x
theorem aN:∀{k:Key}{v:NJ},mK k v=NM->(∃i t,k=Tx i/\v=Q_ i t)\/(∃x t,k=UD x/\v=W9 x t)
 |.inl i,v,h=>by
  obtain⟨t,e⟩:=Value.isInt_shape (k:=i) (v:=v) h;exact .inl ⟨i,t,rfl,e⟩|.inr x,v,h=>by
  obtain⟨t,e⟩:=Value.isStrOf_shape (x:=x) (v:=v) h;exact .inr ⟨x,t,rfl,e⟩
theorem vR(i:Int)(t:Vz):mK (.inl i) (.int i t)=NM:=by simp[mK,Value.isInt]
theorem vS(x:Oo)(t:Vz):mK (.inr x) (.str x t)=NM:=by simp[mK,Value.isStrOf]
theorem D4(a b:Int):decide ((Tx a:Key)=Tx b)=(a==b):=by
 by_cases e:a=b;.subst e;simp
 .have h:¬(Tx a:Key)=Tx b:=λq=>e (Sum.inl.inj q);rw[decide_eq_false h];exact(beq_eq_false_iff_ne.mpr e).symm
theorem D8(a b:Oo):decide ((UD a:Key)=UD b)=decide (a=b):=by
 by_cases e:a=b;.subst e;simp
 .have h:¬(UD a:Key)=UD b:=λq=>e (Sum.inr.inj q);rw[decide_eq_false h,decide_eq_false e]
theorem D9(a:Int)(b:Oo):decide ((Tx a:Key)=UD b)=NP:=decide_eq_false (λq=>nomatch q)
theorem D_(a:Oo)(b:Int):decide ((UD a:Key)=Tx b)=NP:=decide_eq_false (λq=>nomatch q)
noncomputable def ar(prog:N7)(w:Oq):PySem.KeyKind prog w Key where
 is:=mK;hash:=Lg w;inj:=λv a b ha hb=>by
  rcases aN ha with⟨i,t,rfl,rfl⟩|⟨x,t,rfl,rfl⟩
  .rcases aN hb with⟨j,u,rfl,e⟩|⟨y,u,rfl,e⟩;.injection e with c _;rw[c]
   .exact nomatch e
  .rcases aN hb with⟨j,u,rfl,e⟩|⟨y,u,rfl,e⟩;.exact nomatch e
   .injection e with c _;rw[c]
 byValue:=λk v h=>by rcases aN h with⟨i,t,rfl,rfl⟩|⟨x,t,rfl,rfl⟩<;>rfl
 pyHash:=λd h=>by
  rcases aN d with⟨i,t,rfl,rfl⟩|⟨x,t,rfl,rfl⟩;.exact wpAny_pyHash_int h
  .exact wpAny_pyHash_str h
 eqBool:=λhu d h=>by
  rcases aN hu with⟨i,t,rfl,rfl⟩|⟨x,t,rfl,rfl⟩
  .rcases aN d with⟨j,u,rfl,rfl⟩|⟨y,u,rfl,rfl⟩;.rw[D4]at h;exact wpAny_eqBool_int h
   .rw[D9]at h;exact Wu i t y u _ _ _ _ h
  .rcases aN d with⟨j,u,rfl,rfl⟩|⟨y,u,rfl,rfl⟩;.rw[D_]at h;exact Wv x t j u _ _ _ _ h
   .rw[D8]at h;exact wpAny_eqBool_str h
 «strs»:=λk x t v h=>by
  rcases aN h with⟨i,u,rfl,e⟩|⟨y,u,rfl,e⟩;.exact nomatch e
  .injection e with c _;subst c;cases v<;>rfl
theorem jK(prog:N7)(w:Oq)(i:Int)(t:Vz):(ar prog w).is (.inl i) (.int i t)=NM:=vR i t
theorem pA(prog:N7)(w:Oq)(x:Oo)(t:Vz):(ar prog w).is (.inr x) (.str x t)=NM:=vS x t
end L2
namespace L2
open PySem PySem.Spec PyProof.Rows
inductive V where|aU|bl(b:Bool)|int(i:Int)|str(x:Oo)|Ea(b:Array UInt8)|HC(b:UInt64)|ref(a:NR)|ty(n:String)deriving DecidableEq
noncomputable def RelV:V->NJ->Prop
 |.aU,u=>u=Oz|.bl b,u=>u=Uh b|.int i,u=>∃t,u=Q_ i t|.str x,u=>∃t,u=W9 x t|.Ea b,u=>∃t,u=Value.bytes b t|.HC b,u=>∃t,u=Value.float b t|.ref a,u=>u=Of a|.ty n,u=>u=Ww n
noncomputable abbrev aq:List V->List NJ->Prop:=Paired RelV
theorem aq.length{xs:List V}{us:List NJ}(r:aq xs us):xs.length=us.length:=Paired.length r
theorem aq.get:∀{xs:List V}{us:List NJ}{i:Nat}{x:V},aq xs us->xs[i]?=NF x->∃u,us[i]?=NF u/\RelV x u
 |_,_,_,_,.nil,e=>by simp at e|_,_,0,_,.cons r _,e=>by simp at e;subst e;exact⟨_,rfl,r⟩|_,_,i+1,x,.cons _ t,e=>by
  obtain⟨u,b,a⟩:=aq.get (i:=i) (x:=x) t (by simpa using e);exact⟨u,by simpa using b,a⟩
theorem aq.set{x:V}{u:NJ}(r:RelV x u):∀{xs:List V}{us:List NJ}(i:Nat),aq xs us->aq (xs.set i x) (us.set i u)
 |_,_,_,.nil=>.nil|_,_,0,.cons _ t=>.cons r t|_,_,i+1,.cons q t=>.cons q (aq.set r i t)
theorem aq.append:∀{xs a:List V}{us ws:List NJ},aq xs us->aq a ws->aq (xs++a) (us++ws)
 |_,_,_,_,.nil,s=>s|_,_,_,_,.cons r t,s=>.cons r (aq.append t s)
theorem aq.take:∀{xs:List V}{us:List NJ}(n:Nat),aq xs us->aq (xs.take n) (us.take n)
 |_,_,0,_=>.nil|_,_,_+1,.nil=>.nil|_,_,n+1,.cons r t=>.cons r (aq.take n t)
theorem aq.drop:∀{xs:List V}{us:List NJ}(n:Nat),aq xs us->aq (xs.drop n) (us.drop n)
 |_,_,0,r=>r|_,_,_+1,.nil=>.nil|_,_,n+1,.cons _ t=>aq.drop n t
noncomputable def gH:Option V->Option NJ->Prop
 |some v,NF u=>RelV v u|none,NN=>True|_,_=>False
noncomputable def KV{a:Type}:List (a×V)->List (a×NJ)->Prop:=Paired λ(p:a×V)(q:a×NJ)=>p.1=q.1/\RelV p.2 q.2
noncomputable def kV:Key->V
 |.inl i=>.int i|.inr x=>.str x
inductive HO where|lst(xs:List V)|tup(xs:List V)|dK(kvs:List (Key×V))|dT(kvs:List (List Key×V))|set(S:Int->Bool)(n:Nat)|ins(C dx:NR)(fs:List (Oo×V))|own(x:NR)|xd(fs:List (Oo×V))|met(f x:NR)|xy(lo hi:Int)|bP(o:OW)(u:HO)|xu(ps:Array NJ)|ext(φ:Oy->Prop)
abbrev Hp:=NR->Option HO
noncomputable def upd(H:Hp)(a:NR)(o:HO):Hp:=λb=>if b=a then NF o else H b
theorem aj{H:Hp}{a:NR}{o:HO}:upd H a o a=NF o:=by unfold upd;rw[if_pos rfl]
theorem ai{H:Hp}{a b:NR}{o:HO}(h:b≠a):upd H a o b=H b:=by unfold upd;rw[if_neg h]
theorem bN{H:Hp}{a:NR}{o u:HO}:upd (upd H a o) a u=upd H a u:=by funext b;unfold upd;split<;>rfl
theorem aB{H:Hp}{a b:NR}{o:HO}(h:H a=NF o)(h':H b=NN):a≠b:=by intro e;subst e;rw[h]at h';cases h'
section
variable(P:N7)(w:Oq)
noncomputable def be(H:Hp)(h:Oy)(a:NR):HO->Prop
 |.lst d=>d.length<=NW/\∃(c:List NJ)(n:Nat),aq d c/\h.get? a=NF {cls:=.type "list",data:=.seq c.toArray n}|.tup d=>d.length<=NW/\∃c:List NJ,aq d c/\WL h a c.toArray|.dK b=>b.length<=NW/\(a==Qi)=NP/\∃j,KV b j/\h.DictOf (ar P w) a j|.dT b=>b.length<=NW/\(a==Qi)=NP/\∃d:List (List Key×NR×NJ),Paired (λ(p:List Key×V)(q:List Key×NR×NJ)=>p.1=q.1/\H q.2.1=NF (.tup (p.1.map kV))/\RelV p.2 q.2.2) b d/\∃o m s,h.get? a=NF o/\o.ExactDict/\o.data=.dict m s/\m.toList=d.map (Xo (tupleKind (ar P w)))/\(d.map (·.1)).Nodup|.set S n=>h.SetOf (OU P w) a S n|.ins C g fs=>H g=NF (.own a)/\fs.length<=1000/\g≠a/\h.get? a=NF (VA C g)/\∃e,h.Ns1 g e/\(∀f,gH (fs.lookup f) (e f))/\PySem.Within e (fs.map (·.1))|.own _=>∃o,h.get? a=NF o|.xd fs=>∃e,h.Ns1 a e/\∀f,gH (fs.lookup f) (e f)|.xy lo r=>∃t u v,h.get? a=NF {cls:=.type "range",data:=.fields #[.int lo t,.int r u,.int 1 v]}|.bP o u=>h.get? a=NF o/\be H h a u|.xu ps=>h.get? a=NF {cls:=.none,data:=.fields ps}|.met f x=>h.get? a=NF (UE (.ref f) (.ref x))|.ext i=>i h/\(∃o,h.get? a=NF o)/\∀l k:Oy,i l->(∀o,l.get? a=NF o->k.get? a=NF o)->i k
noncomputable def iq(H:Hp)(h:Oy):Prop:=∀a o,H a=NF o->be P w H h a o
end
section
variable{P:N7}{w:Oq}{H H':Hp}{h h':Oy}{a:NR}{o:HO}
theorem be.lt(x:be P w H h a o):a<h.objs.size:=by cases o with
 |lst c=>obtain⟨_,_,_,_,e⟩:=x;exact N1 e|tup c=>obtain⟨_,_,_,p⟩:=x;exact p.lt|dK b=>obtain⟨_,_,_,_,o,_,_,e,_⟩:=x;exact N1 e|dT b=>obtain⟨_,_,_,_,o,_,_,e,_⟩:=x;exact N1 e|set S n=>obtain⟨o,_,_,_,e,_⟩:=x;exact N1 e|ins C i fs=>obtain⟨_,_,_,e,_⟩:=x;exact N1 e|own y=>obtain⟨_,e⟩:=x;exact N1 e|xd fs=>obtain⟨_,⟨_,_,_,e,_⟩,_⟩:=x;exact N1 e|xy lo g=>obtain⟨_,_,_,e⟩:=x;exact N1 e|bP ob u=>obtain⟨e,_⟩:=x;exact N1 e|xu ps=>exact N1 (show h.get? a=NF _ from x)|met f y=>exact N1 (show h.get? a=NF _ from x)|ext d=>obtain⟨_,⟨_,e⟩,_⟩:=x;exact N1 e
theorem Paired.Eb{d c:Type}{F G:d->c->Prop}:∀{l₁:List d}{l₂:List c},Paired F l₁ l₂->(∀a b,F a b->G a b)->Paired G l₁ l₂
 |_,_,.nil,_=>.nil|_,_,.cons r t,f=>.cons (f _ _ r) (Paired.Eb t f)
theorem be.gI(x:be P w H h a o)(k:∀b u,(b=a\/H b=NF (.own a))->h.get? b=NF u->h'.get? b=NF u)(E:∀b,H b=NF (.own a)->H' b=NF (.own a))(D:∀b xs,H b=NF (.tup xs)->H' b=NF (.tup xs)):be P w H' h' a o:=by induction o with
 |lst xs=>obtain⟨z,j,n,r,e⟩:=x;exact⟨z,j,n,r,k _ _ (.inl rfl) e⟩|tup xs=>obtain⟨z,j,r,ob,e,c⟩:=x;exact⟨z,j,r,ob,k _ _ (.inl rfl) e,c⟩|dK s=>obtain⟨z,y,A,r,ob,g,i,e,c⟩:=x;exact⟨z,y,A,r,ob,g,i,k _ _ (.inl rfl) e,c⟩|dT s=>
  obtain⟨z,y,xs,r,ob,g,i,e,c⟩:=x;exact⟨z,y,xs,Paired.Eb r λp q z=>⟨z.1,D _ _ z.2.1,z.2.2⟩,ob,g,i,k _ _ (.inl rfl) e,c⟩|set S n=>obtain⟨ob,g,i,t,e,c⟩:=x;exact⟨ob,g,i,t,k _ _ (.inl rfl) e,c⟩|ins C J fs=>
  obtain⟨d,z,ne,e,m,⟨l,g,i,F,c⟩,r⟩:=x;exact⟨E _ d,z,ne,k _ _ (.inl rfl) e,m,⟨l,g,i,k _ _ (.inr d) F,c⟩,r⟩|own y=>obtain⟨ob,e⟩:=x;exact⟨ob,k _ _ (.inl rfl) e⟩|xd fs=>obtain⟨m,⟨l,g,i,e,c⟩,r⟩:=x;exact⟨m,⟨l,g,i,k _ _ (.inl rfl) e,c⟩,r⟩|xy lo I=>obtain⟨t,u,v,e⟩:=x;exact⟨t,u,v,k _ _ (.inl rfl) e⟩|bP ob u B=>obtain⟨e,q⟩:=x;exact⟨k _ _ (.inl rfl) e,B q⟩|xu ps=>
  have e:h.get? a=NF {cls:=.none,data:=.fields ps}:=x;show h'.get? a=NF {cls:=.none,data:=.fields ps};exact k a _ (.inl rfl) e|met f y=>
  have e:h.get? a=NF (UE (.ref f) (.ref y)):=x;show h'.get? a=NF (UE (.ref f) (.ref y));exact k a _ (.inl rfl) e|ext G=>obtain⟨p,⟨o,e⟩,st⟩:=x;exact⟨st _ _ p λo q=>k _ _ (.inl rfl) q,⟨o,k _ _ (.inl rfl) e⟩,st⟩
theorem iq.lt(x:iq P w H h)(e:H a=NF o):a<h.objs.size:=(x a o e).lt
theorem iq.fresh(x:iq P w H h)(e:h.objs.size<=a):H a=NN:=by cases q:H a with
 |none=>rfl|some u=>exact absurd (Od (x.lt q) e) (OD _)
theorem iq.kept(x:iq P w H h)(k:∀b u,h.get? b=NF u->h'.get? b=NF u):iq P w H h':=λa o e=>(x a o e).gI (λb u _ q=>k b u q) (λ_ q=>q) λ_ _ q=>q
theorem iq.laid(x:iq P w H h)(k:∀b u,h.get? b=NF u->h'.get? b=NF u)(f:h.objs.size<=a)(new:be P w (upd H a o) h' a o):iq P w (upd H a o) h':=λb u e=>by
 have d:=x.fresh f;by_cases hb:b=a;.subst hb;rw[aj]at e;cases e;exact new
 .rw[ai hb]at e;exact(x b u e).gI (λc v _ q=>k c v q) (λc q=>by rw[ai (aB q d)];exact q) λc g q=>by rw[ai (aB q d)];exact q
end
noncomputable def Rd(H:Hp)(a:NR)(u:HO):Prop:=H a=NF u\/∃o,H a=NF (.bP o u)
theorem Rd.ok{P:N7}{w:Oq}{H:Hp}{h:Oy}{a:NR}{u:HO}(r:Rd H a u)(x:iq P w H h):be P w H h a u:=by
 rcases r with r|⟨o,r⟩;.exact x a u r
 .obtain⟨_,q⟩:=x a _ r;exact q
noncomputable def KW:Option HO->Prop
 |some (.lst _)=>True|some (.dK _)=>True|some (.dT _)=>True|some (.set _ _)=>True|some (.ins _ _ _)=>True|some (.ext _)=>True|_=>False
section
variable{P:N7}{w:Oq}{H:Hp}{h h':Oy}{x e:NR}{o':HO}
theorem iq.write(ok:iq P w H h)(i:KW (H x))(n:e=x\/H e=NF (.own x))(k:∀b u,b≠e->h.get? b=NF u->h'.get? b=NF u)(l:∃u,h'.get? e=NF u)(new:be P w (upd H x o') h' x o'):iq P w (upd H x o') h':=λb u q=>by
 have d:∀c y,H c=NF (.own y)->c≠x:=λc y r z=>by subst z;rw[r]at i;exact i
 have f:∀c g,H c=NF (.tup g)->c≠x:=λc g r z=>by subst z;rw[r]at i;exact i
 by_cases hb:b=x;.subst hb;rw[aj]at q;cases q;exact new
 .rw[ai hb]at q;by_cases a:b=e
  .have m:H b=NF (.own x):=by
    rcases n with z|z;.exact absurd (a.trans z) hb
    .rw[a];exact z
   rw[q]at m;cases m;obtain⟨v,o⟩:=l;exact⟨v,by rw[a];exact o⟩
  .refine(ok b u q).gI (λc v j r=>k c v ?_ r) (λc r=>by rw[ai (d c b r)];exact r) λc g r=>by rw[ai (f c g r)];exact r
   rcases j with rfl|j;.exact a
   .rintro rfl;rcases n with z|z;.exact d c b j z
    .rw[j]at z;cases z;exact hb rfl
end
structure Un(fs ex:List NR)(H H':Hp)(h h':Oy):Prop where
 keep:∀b o,h.get? b=NF o->H b=NN->b∉fs->b∉ex->h'.get? b=NF o
 slot:∀b o,h.get? b=NF o->H b=NN->b∈fs->b∉ex->∃sl,h'.get? b=NF {o with slots:=sl}free:∀b o,h.get? b=NF o->H b=NN->b∉ex->H' b=NN
 there:∀b o,h.get? b=NF o->b∉ex->∃o',h'.get? b=NF o'
 gJ:∀b xs,H b=NF (.tup xs)->H' b=NF (.tup xs)gc:∀b o u,H b=NF (.bP o u)->H' b=NF (.bP o u)gK:∀b ps,H b=NF (.xu ps)->∃more,H' b=NF (.xu (ps++more))
section
variable{fs fs' ex ex':List NR}{H H1 H2:Hp}{h h1 h2 h':Oy}{a x e:NR}{o:HO}
theorem Un.any(u:Un fs ex H H1 h h1){b:NR}{ob:OW}(q:h.get? b=NF ob)(n:H b=NN)(hx:b∉ex):∃c,h1.get? b=NF {ob with slots:=c}:=by
 by_cases hb:b∈fs;.exact u.slot b ob q n hb hx
 .exact⟨ob.slots,u.keep b ob q n hb hx⟩
theorem Un.kept(k:∀b u,h.get? b=NF u->h'.get? b=NF u):Un fs ex H H h h':=⟨λb ob q _ _ _=>k b ob q,λb ob q _ _ _=>⟨ob.slots,k b ob q⟩,λ_ _ _ n _=>n,λb ob q _=>⟨ob,k b ob q⟩,λ_ _ q=>q,λ_ _ _ q=>q,λ_ ps q=>⟨#[],by rw[q];simp⟩⟩
theorem Un.refl:Un fs ex H H h h:=Un.kept λ_ _ q=>q
theorem Un.laid(k:∀b u,h.get? b=NF u->h'.get? b=NF u)(f:h.objs.size<=a)(c:H a=NN):Un fs ex H (upd H a o) h h' where
 keep:=λb u q _ _ _=>k b u q;slot:=λb u q _ _ _=>⟨u.slots,k b u q⟩;free:=λb u q n _=>by rw[ai (Oj (Od (N1 q) f))];exact n
 there:=λb u q _=>⟨u,k b u q⟩;gJ:=λb d q=>by rw[ai (aB q c)];exact q
 gc:=λb u d q=>by rw[ai (aB q c)];exact q
 gK:=λb ps q=>⟨#[],by rw[ai (aB q c),q];simp⟩
theorem Un.write(d:KW (H x))(j:e=x\/H e=NF (.own x))(k:∀b u,b≠e->h.get? b=NF u->h'.get? b=NF u)(g:∃u,h'.get? e=NF u):Un fs ex H (upd H x o) h h':=by
 have hx:∀b,H b=NN->b≠x:=λb n z=>by subst z;rw[n]at d;exact d
 have hb:∀b,H b=NN->b≠e:=λb n z=>by
  subst z;rcases j with r|r;.exact hx b n r
  .rw[n]at r;cases r
 have f:∀b u,H b=NF u->¬KW (NF u)->b≠x:=λb u q nm z=>by subst z;rw[q]at d;exact nm d
 refine⟨λb u q n _ _=>k b u (hb b n) q,λb u q n _ _=>⟨u.slots,k b u (hb b n) q⟩,λb u q n _=>by rw[ai (hx b n)];exact n,λb u q _=>?_,λb i q=>by rw[ai (f b _ q λz=>z)];exact q,λb u i q=>by rw[ai (f b _ q λz=>z)];exact q,λb ps q=>⟨#[],by rw[ai (f b _ q λz=>z),q];simp⟩⟩;by_cases c:b=e;.subst c;exact g
 .exact⟨u,k b u c q⟩
end
noncomputable def KY(h:Oy)(H:Hp):List NR:=(OJ h.objs.size).filter λa=>(H a).isSome
noncomputable def nN(h:Oy)(H:Hp):Oy:=PySem.W.hideAll h (KY h H)
theorem vT(h:Oy)(H:Hp):(nN h H).objs.size=h.objs.size:=PySem.W.hideAll_size _ _
theorem xA{h:Oy}{H:Hp}{b:NR}{o:OW}(e:h.get? b=NF o)(n:H b=NN):(nN h H).get? b=NF o:=PySem.W.hideAll_get _ e λa=>by
  have q:(H b).isSome=NM:=(List.mem_filter.mp a).2;rw[n]at q;simp at q
theorem AI{h:Oy}{H:Hp}{b:NR}{o:OW}(e:(nN h H).get? b=NF o):h.get? b=NF o/\H b=NN:=by
 have a:h.get? b=NF o:=PySem.W.of_hideAll (KY h H) e;refine⟨a,?_⟩;cases q:H b with
 |none=>rfl|some x=>
  have c:b∈KY h H:=List.mem_filter.mpr ⟨List.mem_range.mpr (N1 a),by simp[q]⟩;have z:(nN h H).get? b=NN:=PySem.W.hideAll_none (KY h H) c;rw[z]at e;cases e
end L2
namespace L2
open PySem PySem.Spec PyProof.Rows
structure Mod(K:NS)(mg:Oo->Option NJ)(base:Oy):Prop where
 Ec:K.In base
 glob:base.Ns OQ mg
 blt:∃mb,base.Ns Vf mb/\∀x:Oo,x≠"__name__"->mb x=P7 x
 nolimit:base.NoLimit
structure Cx where
 prog:N7
 w:Oq
 K:NS
 mg:Oo->Option NJ
 base:Oy
 A:Ov
 N:List Oo
 br:NL
 gL:Hp
 env:Uc
 outer:List Uc
 stack:List Uc
 ex:List NR
 fn:Oo->Bool
 calm:Bool
 pn:List (NR×OW)xe:NJ->NL->Prop
noncomputable def gf(l:List Uc):List NR:=l.filterMap (·.frame)
noncomputable abbrev Cx.fs(X:Cx):List NR:=gf X.outer
noncomputable def t4(sc:Qr)(x:Oo):Prop:=sc.names.lookup x=NF .local\/sc.names.lookup x=NF .cell\/sc.names.lookup x=NF .free
noncomputable def Loc(sc:Qr)(x:Oo):Prop:=sc.names.lookup x=NF .local\/sc.names.lookup x=NF .cell
noncomputable def Look(env:Uc)(h:Oy)(m:Oo->Option NJ)(x:Oo)(u:NJ):Prop:=(env.kindOf x=NF .local/\m x=NF u)\/((env.kindOf x=NF .cell\/env.kindOf x=NF .free)/\∃c,env.cells.lookup x=NF c/\h.IsCell c (NF u))
structure Cx.Ok(X:Cx):Prop where
 mod:Mod X.K X.mg X.base
 kind:X.env.scope.kind=.function
 glob:X.env.globals=OQ
 blt:X.env.builtins=Vf
 above:X.br.heap.objs.size<=X.env.locals
 inj:∀x y c,X.env.cells.lookup x=NF c->X.env.cells.lookup y=NF c->x=y
 has:∀x,(X.env.kindOf x=NF .cell\/X.env.kindOf x=NF .free)->∃c,X.env.cells.lookup x=NF c
 Ed:∀x c,X.fn x=NM->X.env.cells.lookup x=NF c->X.br.heap.objs.size<=c
 hd:X.calm=NM->X.A.handled=NN
 frames:X.A.frames=NF X.stack
 HD:X.stack=X.outer\/(X.stack=X.env::X.outer/\X.env.frame=NF X.env.locals)KZ:∀b∈X.ex,b≠X.env.locals/\∀x c,X.env.cells.lookup x=NF c->c≠b
 bs:∀b o,X.base.get? b=NF o->X.br.heap.get? b=NF o/\X.gL b=NN
 AB:X.base.objs.size<=X.br.heap.objs.size
 r9:∀b o,X.base.get? b=NF o->b∉X.ex
 vU:∀b∈X.ex,b∉X.fs
 jj:X.br.heap.FunFrames X.base X.outer
 C_:∀b∈X.fs,X.gL b=NN
structure Inv(X:Cx)(pins:List (NR×OW))(σ:List (Option V))(H:Hp)(s:NL):Prop where
 ok:X.Ok
 os:s.os=X.br.os
 bare:Tz s.gens
 base:Un X.fs X.ex X.gL H X.br.heap s.heap
 loc:∃m,s.heap.Ns X.env.locals m/\∀(i:Nat)(x:Oo)(v:V),X.N[i]?=NF x->σ[i]?=NF (NF v)->t4 X.env.scope x->∃u,RelV v u/\Look X.env s.heap m x u
 cell:∀x c,X.env.cells.lookup x=NF c->∃v,s.heap.IsCell c v
 free:H X.env.locals=NN
 cF:∀x c,X.env.cells.lookup x=NF c->H c=NN
 pin:∀p∈X.pn++pins,s.heap.get? p.1=NF p.2/\H p.1=NN/\p.1≠X.env.locals/\p.1∉X.fs/\∀v,p.2.data≠.cell v
 aD:iq X.prog X.w H s.heap
 len:σ.length=X.N.length
section
variable{X:Cx}{pins:List (NR×OW)}{σ:List (Option V)}{H H':Hp}{s:NL}{h':Oy}
theorem Cx.Ok.Lh(ok:X.Ok){b:NR}{o:OW}(e:X.base.get? b=NF o):b∉X.fs:=λhb=>by
 have:=(ok.jj.mem hb).1;rw[e]at this;cases this
theorem Inv.bs(I:Inv X pins σ H s):∀b o,X.base.get? b=NF o->s.heap.get? b=NF o/\H b=NN:=λb o e=>⟨I.base.keep b o (I.ok.bs b o e).1 (I.ok.bs b o e).2 (I.ok.Lh e) (I.ok.r9 b o e),I.base.free b o (I.ok.bs b o e).1 (I.ok.bs b o e).2 (I.ok.r9 b o e)⟩
theorem Inv.bk(I:Inv X pins σ H s):∀b o,X.base.get? b=NF o->s.heap.get? b=NF o:=λb o e=>(I.bs b o e).1
theorem Inv.mod(I:Inv X pins σ H s):Mod X.K X.mg X.base:=I.ok.mod
theorem Inv.jg(I:Inv X pins σ H s):X.K.In s.heap:=I.ok.mod.Ec.keeps I.bk
theorem Inv.lt(I:Inv X pins σ H s):X.env.locals<s.heap.objs.size:=let⟨_,a,_⟩:=I.loc;a.lt
theorem Inv.sz(I:Inv X pins σ H s):X.br.heap.objs.size<=s.heap.objs.size:=OC I.ok.above (Sg I.lt)
theorem Inv.AJ(I:Inv X pins σ H s){a:NR}(h:s.heap.objs.size<=a):a∉X.fs:=λhb=>by
 obtain⟨_,o,b,_⟩:=I.ok.jj.mem hb;exact absurd (Od (N1 b) (OC I.sz h)) (OD _)
theorem Inv.xB(I:Inv X pins σ H s):∀x c,X.env.cells.lookup x=NF c->c≠X.env.locals:=λx c e z=>by
 obtain⟨v,o,d,hd⟩:=I.cell x c e;obtain⟨m,⟨f,g,h,a,b,_⟩,_⟩:=I.loc;rw[z,a]at d;cases d;rw[b]at hd;cases hd
theorem Inv.jj(I:Inv X pins σ H s):s.heap.FunFrames X.base X.outer:=by
 have all:∀(l:List Uc),(∀b∈gf l,b∈X.fs)->X.br.heap.FunFrames X.base l->s.heap.FunFrames X.base l:=by
  intro l;induction l with
  |nil=>intro _ _;trivial|cons env r f=>
   intro d j;obtain⟨k,⟨L,o,a,i,h,hd⟩,g⟩:=j;have c:L∈X.fs:=d L (by unfold gf;rw[PC,a];exact NV);obtain⟨m,e⟩:=I.base.slot L o h (I.ok.C_ L c) c λz=>I.ok.vU L z c;exact⟨k,⟨L,_,a,i,e,hd⟩,f (λb hb=>d b (by unfold gf;rw[PC,a];exact NX _ hb)) g⟩
 exact all X.outer (λ_ hb=>hb) I.ok.jj
theorem Inv.stack(I:Inv X pins σ H s):s.heap.FunFrames X.base X.stack:=by
 rcases I.ok.HD with e|⟨e,b⟩;.rw[e];exact I.jj
 .rw[e];obtain⟨m,a,_⟩:=I.loc;refine .cons (by rw[I.ok.kind];decide) b a ?_ I.jj;exact Heap.get?_none_of_le (OC I.ok.AB I.ok.above)
theorem Inv.gM(I:Inv X pins σ H s):∀b∈gf X.stack,b∈X.env.locals::X.fs:=λb hb=>by
 rcases I.ok.HD with e|⟨e,a⟩;.rw[e]at hb;exact NX _ hb
 .rw[e]at hb;unfold gf at hb;rw[PC,a]at hb;exact hb
theorem Inv.j_(I:Inv X pins σ H s):∀b∈gf X.stack,H b=NN:=λb hb=>by
 rcases List.mem_cons.mp (I.gM b hb)with e|hb;.rw[e];exact I.free
 .obtain⟨_,o,a,_⟩:=I.ok.jj.mem hb;exact I.base.free b o a (I.ok.C_ b hb) λz=>I.ok.vU b z hb
theorem Inv.step{g':Array VR}{t':Nat}{d':Drawn}{ch:List NR}(I:Inv X pins σ H s)(f:∀b∈ch,(b∈X.ex\/X.br.heap.objs.size<=b)/\b≠X.env.locals/\(∀x c,X.env.cells.lookup x=NF c->c≠b)/\∀p∈X.pn++pins,p.1≠b)(keep:∀b o,b≠X.env.locals->b∉X.fs->b∉ch->s.heap.get? b=NF o->H b=NN->h'.get? b=NF o)(slot:∀b o,b≠X.env.locals->b∈X.fs->b∉ch->s.heap.get? b=NF o->H b=NN->∃E,h'.get? b=NF {o with slots:=E})(free:∀b o,b∉ch->s.heap.get? b=NF o->H b=NN->H' b=NN)(there:∀b o,b∉ch->s.heap.get? b=NF o->∃o',h'.get? b=NF o')(gJ:∀b xs,H b=NF (.tup xs)->H' b=NF (.tup xs))(gc:∀b o u,H b=NF (.bP o u)->H' b=NF (.bP o u))(gK:∀b ps,H b=NF (.xu ps)->∃A,H' b=NF (.xu (ps++A)))(ns:∀m,s.heap.Ns X.env.locals m->h'.Ns X.env.locals m)(aD:iq X.prog X.w H' h')(O:Tz g'):Inv X pins σ H' {s with heap:=h',gens:=g',drawn:=d',toks:=t'}:=by
 have y:∀b o,X.br.heap.get? b=NF o->b≠X.env.locals:=λb o e=>Oj (Od (N1 e) I.ok.above);have h:∀b o,X.br.heap.get? b=NF o->b∉X.ex->b∉ch:=λb o e hx hb=>by
  rcases(f b hb).1 with z|z;.exact hx z
  .exact absurd (Od (N1 e) z) (OD _)
 have g:∀x c,X.env.cells.lookup x=NF c->∀v,s.heap.IsCell c v->h'.IsCell c v:=λx c e v C=>by
  obtain⟨o,t,hd⟩:=C;have a:c∉ch:=λz=>(f c z).2.2.1 x c e rfl;by_cases J:c∈X.fs
  .obtain⟨E,q⟩:=slot c o (I.xB x c e) J a t (I.cF x c e);exact⟨_,q,hd⟩
  .exact⟨o,keep c o (I.xB x c e) J a t (I.cF x c e),hd⟩
 refine⟨I.ok,I.os,O,⟨λb o e n hb hx=>?_,λb o e n hb hx=>?_,λb o e n hx=>?_,λb o e hx=>?_,λb xs e=>gJ b xs (I.base.gJ b xs e),λb o xs e=>gc b o xs (I.base.gc b o xs e),λb ps e=>?_⟩,?_,λx c e=>?_,?_,λx c e=>?_,λp G=>?_,aD,I.len⟩;.exact keep b o (y b o e) hb (h b o e hx) (I.base.keep b o e n hb hx) (I.base.free b o e n hx)
 .obtain⟨E,j⟩:=I.base.slot b o e n hb hx;obtain⟨D,B⟩:=slot b _ (y b o e) hb (h b o e hx) j (I.base.free b o e n hx);exact⟨D,B⟩
 .obtain⟨o',j⟩:=I.base.there b o e hx;exact free b o' (h b o e hx) j (I.base.free b o e n hx)
 .obtain⟨o',j⟩:=I.base.there b o e hx;exact there b o' (h b o e hx) j
 .obtain⟨L,j⟩:=I.base.gK b ps e;obtain⟨K,B⟩:=gK b _ j;exact⟨L++K,by rw[B,Array.append_assoc]⟩
 .obtain⟨m,M,N⟩:=I.loc;refine⟨m,ns m M,λi x v j B P=>?_⟩;obtain⟨u,r,l⟩:=N i x v j B P;refine⟨u,r,?_⟩;rcases l with l|⟨k,c,e,z⟩;.exact .inl l
  .exact .inr ⟨k,c,e,g x c e _ z⟩
 .obtain⟨v,z⟩:=I.cell x c e;exact⟨v,g x c e v z⟩
 .obtain⟨m,⟨o,_,_,t,_⟩,_⟩:=I.loc;exact free _ o (λz=>(f _ z).2.1 rfl) t I.free
 .obtain⟨v,o,t,hd⟩:=I.cell x c e;exact free c o (λz=>(f c z).2.2.1 x c e rfl) t (I.cF x c e)
 .obtain⟨e,n,ne,F,d⟩:=I.pin p G;have a:p.1∉ch:=λz=>(f p.1 z).2.2.2 p G rfl;exact⟨keep p.1 p.2 ne F a e n,free p.1 p.2 a e n,ne,F,d⟩
theorem Inv.un{t':Nat}(I:Inv X pins σ H s)(u:Un X.fs [] H H' s.heap h')(aD:iq X.prog X.w H' h'):Inv X pins σ H' {s with heap:=h',toks:=t'}:=by
 obtain⟨m,⟨o,p,q,f,r⟩,_⟩:=id I.loc;obtain⟨j,i⟩:=u.any f I.free (by simp);exact I.step (g':=s.gens) (d':=s.drawn) (ch:=[]) (λ_ z=>nomatch z) (λb o _ hb _ e n=>u.keep b o e n hb (by simp)) (λb o _ hb _ e n=>u.slot b o e n hb (by simp)) (λb o _ e n=>u.free b o e n (by simp)) (λb o _ e=>u.there b o e (by simp)) u.gJ u.gc u.gK (λl h=>by
  obtain⟨k,c,d,a,g⟩:=h;rw[f]at a;cases a;exact⟨_,c,d,i,g⟩) aD I.bare
theorem Inv.call{g':Array VR}{t':Nat}{d':Drawn}{ch:List NR}(I:Inv X pins σ H s)(u:Un (gf X.stack) ch H H' s.heap h')(aD:iq X.prog X.w H' h')(q:Tz g')(f:∀b∈ch,(b∈X.ex\/X.br.heap.objs.size<=b)/\b≠X.env.locals/\(∀x c,X.env.cells.lookup x=NF c->c≠b)/\∀p∈X.pn++pins,p.1≠b):Inv X pins σ H' {s with heap:=h',gens:=g',drawn:=d',toks:=t'}:=by
 obtain⟨m,⟨o,A,B,j,r⟩,_⟩:=id I.loc;obtain⟨t,g⟩:=u.any j I.free λz=>(f _ z).2.1 rfl;exact I.step (ch:=ch) f (λb o g hb a e n=>u.keep b o e n (λz=>(List.mem_cons.mp (I.gM b z)).elim g hb) a) (λb o _ _ a e n=>u.any e n a) (λb o a e n=>u.free b o e n a) (λb o a e=>u.there b o e a) u.gJ u.gc u.gK (λy l=>by
  obtain⟨v,h,i,d,k⟩:=l;rw[j]at d;cases d;exact⟨_,h,i,g,k⟩) aD q
theorem Inv.turned{t':Nat}{it:NR}(I:Inv X pins σ H s)(k:∀b o,b≠it->s.heap.get? b=NF o->h'.get? b=NF o)(h:H it=NN)(f:it≠X.env.locals)(t:it∈X.ex\/X.br.heap.objs.size<=it)(l:∀x c,X.env.cells.lookup x=NF c->c≠it)(j:∀p∈X.pn++pins,p.1≠it):Inv X pins σ H {s with heap:=h',toks:=t'}:=by
 have d:∀b u,H b=NF u->b≠it:=λb u e z=>by rw[z,h]at e;cases e
 refine I.step (g':=s.gens) (d':=s.drawn) (ch:=[it]) (λb hb=>?_) (λb o _ _ a e _=>k b o (λz=>a (by simp[z])) e) (λb o _ _ a e _=>⟨o.slots,k b o (λz=>a (by simp[z])) e⟩) (λ_ _ _ _ n=>n) (λb o a e=>⟨o,k b o (λz=>a (by simp[z])) e⟩) (λ_ _ e=>e) (λ_ _ _ e=>e) (λb ps e=>⟨#[],by rw[e];simp⟩) (λm i=>?_) (λb u e=>?_) I.bare
 .have e:b=it:=by simpa using hb
  subst e;exact⟨t,f,l,j⟩
 .obtain⟨o,w,y,g,r⟩:=i;exact⟨o,w,y,k _ o (OX f) g,r⟩
 .refine(I.aD b u e).gI (λc v a q=>k c v ?_ q) (λ_ q=>q) λ_ _ q=>q;rcases a with z|z;.rw[z];exact d b u e
  .exact d c _ z
theorem Inv.tok(I:Inv X pins σ H s)(t:Nat):Inv X pins σ H {s with toks:=t}:=I.un (h':=s.heap) (t':=t) Un.refl I.aD
theorem Inv.kept{t':Nat}(I:Inv X pins σ H s)(k:∀b u,s.heap.get? b=NF u->h'.get? b=NF u):Inv X pins σ H {s with heap:=h',toks:=t'}:=I.un (Un.kept k) (I.aD.kept k)
theorem Inv.laid{a:NR}{o:HO}{t':Nat}(I:Inv X pins σ H s)(k:∀b u,s.heap.get? b=NF u->h'.get? b=NF u)(c:s.heap.objs.size<=a)(new:be X.prog X.w (upd H a o) h' a o):Inv X pins σ (upd H a o) {s with heap:=h',toks:=t'}:=I.un (Un.laid k c (I.aD.fresh c)) (I.aD.laid k c new)
theorem Inv.write{x e:NR}{o:HO}{t':Nat}(I:Inv X pins σ H s)(c:KW (H x))(d:e=x\/H e=NF (.own x))(k:∀b u,b≠e->s.heap.get? b=NF u->h'.get? b=NF u)(a:∃u,h'.get? e=NF u)(new:be X.prog X.w (upd H x o) h' x o):Inv X pins σ (upd H x o) {s with heap:=h',toks:=t'}:=I.un (Un.write c d k a) (I.aD.write c d k a new)
theorem Inv.dO{pins':List (NR×OW)}(I:Inv X pins σ H s)(h:∀p∈pins',s.heap.get? p.1=NF p.2/\H p.1=NN/\p.1≠X.env.locals/\p.1∉X.fs/\∀v,p.2.data≠.cell v):Inv X pins' σ H s:=⟨I.ok,I.os,I.bare,I.base,I.loc,I.cell,I.free,I.cF,λp a=>(List.mem_append.mp a).elim (λz=>I.pin p (OL _ z)) (h p),I.aD,I.len⟩
theorem kJ{N:List Oo}(hN:N.Nodup){i j:Nat}{x:Oo}(a:N[i]?=NF x)(b:N[j]?=NF x):i=j:=by
 obtain⟨f,d⟩:=List.getElem?_eq_some_iff.mp a;obtain⟨e,c⟩:=List.getElem?_eq_some_iff.mp b;exact(List.getElem_inj hN).mp (d.trans c.symm)
theorem vV{M:To}{A:Ov}{E:NJ->NL->Prop}{i:Nat}{x:Oo}{v:V}{u:NJ}{Q:Unit->NL->Prop}(I:Inv X pins σ H s)(hN:X.N.Nodup)(O:X.N[i]?=NF x)(hx:Loc X.env.scope x)(r:RelV v u)(h:∀s',Inv X pins (σ.set i (NF v)) H s'->(∃a,PF a s.heap s'.heap/\(a=X.env.locals\/X.env.cells.lookup x=NF a))->Q () s')(hf:X.fn x=NM\/X.env.scope.names.lookup x=NF .local:=by first|exact .inl rfl|exact .inr rfl|assumption):wpAny M A (storeName X.env x u) Q E s:=by
 obtain⟨m,hn,hl⟩:=id I.loc;have P:(X.env.scope.kind==.class||(X.env.scope.kind==.module&&X.env.locals !=X.env.globals))=NP:=by rw[I.ok.kind];rfl
 have F:i<σ.length:=by rw[I.len];exact(List.getElem?_eq_some_iff.mp O).1
 have xB:=I.xB;have g:∀{a:NR}{h':Oy},(∃o,s.heap.get? a=NF o/\H a=NN)->PF a s.heap h'->iq X.prog X.w H h':=λ{a h'}ha f b ob e=>by
  obtain⟨_,_,B⟩:=ha;refine(I.aD b ob e).gI (λc T t q=>(f.2 c ?_).trans q) (λ_ q=>q) λ_ _ q=>q;rintro rfl;rcases t with rfl|t;.rw[B]at e;cases e
  .rw[B]at t;cases t
 rcases hx with D|D
 .refine wpAny_storeName_local D hn (λh' a2 f=>?_) P;obtain⟨oL,_,_,a0,_⟩:=id hn;refine h _ ⟨I.ok,I.os,I.bare,⟨λb o e n hb hx=>?_,λb o e n hb hx=>?_,I.base.free,λb o e hx=>?_,I.base.gJ,I.base.gc,I.base.gK⟩,⟨_,a2,λj y W l C e3=>?_⟩,λy c e=>?_,I.free,I.cF,λp hp=>?_,g ⟨oL,a0,I.free⟩ f,by simpa using I.len⟩ ⟨_,f,.inl rfl⟩;.exact(f.2 b (Oj (Od (N1 e) I.ok.above))).trans (I.base.keep b o e n hb hx)
  .obtain⟨Z,l⟩:=I.base.slot b o e n hb hx;exact⟨Z,(f.2 b (Oj (Od (N1 e) I.ok.above))).trans l⟩
  .obtain⟨o',l⟩:=I.base.there b o e hx;exact⟨o',(f.2 b (Oj (Od (N1 e) I.ok.above))).trans l⟩
  .by_cases G:j=i
   .subst G;rw[O]at l;cases l;rw[SQ F]at C;cases C;exact⟨u,r,.inl ⟨D,by simp⟩⟩
   .rw[VS (OX G)]at C;obtain⟨Y,r',q⟩:=hl j y W l C e3;refine⟨Y,r',?_⟩;rcases q with⟨k,e⟩|⟨k,c,e,z⟩
    .refine .inl ⟨k,?_⟩;have:y≠x:=λe=>G (kJ hN l (e▸O));simp[this,e]
    .exact .inr ⟨k,c,e,z.sameBut f (xB y c e)⟩
  .obtain⟨T,z⟩:=I.cell y c e;exact⟨T,z.sameBut f (xB y c e)⟩
  .obtain⟨e,n,ne,nf,d⟩:=I.pin p hp;exact⟨(f.2 p.1 ne).trans e,n,ne,nf,d⟩
 .have J:X.fn x=NM:=by
   rcases hf with z|z;.exact z
   .rw[z]at D;cases D
  obtain⟨c,t⟩:=I.ok.has x (.inl D);obtain⟨T,z⟩:=I.cell x c t;refine wpAny_storeName_cell I.ok.kind D t z (λh' S f=>?_);obtain⟨oc,L,K⟩:=id z;refine h {s with heap:=h'} ⟨I.ok,I.os,I.bare,⟨λb o e n hb hx=>?_,λb o e n hb hx=>?_,I.base.free,λb o e hx=>?_,I.base.gJ,I.base.gc,I.base.gK⟩,⟨m,hn.sameBut f (OX (xB x c t)),λj y W l C e3=>?_⟩,λy U e=>?_,I.free,I.cF,λp hp=>?_,g ⟨oc,L,I.cF x c t⟩ f,by simpa using I.len⟩ ⟨c,f,.inr t⟩;.exact(f.2 b (Oj (Od (N1 e) (I.ok.Ed x c J t)))).trans (I.base.keep b o e n hb hx)
  .obtain⟨Z,l⟩:=I.base.slot b o e n hb hx;exact⟨Z,(f.2 b (Oj (Od (N1 e) (I.ok.Ed x c J t)))).trans l⟩
  .obtain⟨o',l⟩:=I.base.there b o e hx;exact⟨o',(f.2 b (Oj (Od (N1 e) (I.ok.Ed x c J t)))).trans l⟩
  .by_cases G:j=i
   .subst G;rw[O]at l;cases l;rw[SQ F]at C;cases C;exact⟨u,r,.inr ⟨.inl D,c,t,S⟩⟩
   .rw[VS (OX G)]at C;obtain⟨Y,r',q⟩:=hl j y W l C e3;refine⟨Y,r',?_⟩;rcases q with q|⟨k,U,e,z'⟩;.exact .inl q
    .refine .inr ⟨k,U,e,z'.sameBut f ?_⟩;rintro rfl;exact G (kJ hN l (I.ok.inj _ _ _ e t▸O))
  .by_cases R:U=c;.subst R;exact⟨_,S⟩
   .obtain⟨w2,z2⟩:=I.cell y U e;exact⟨w2,z2.sameBut f R⟩
  .obtain⟨e,n,ne,nf,d⟩:=I.pin p hp;refine⟨(f.2 p.1 ?_).trans e,n,ne,nf,d⟩;intro q;rw[q,L]at e;have q':oc=p.2:=NU e;exact d T (by rw[<-q'];exact K)
theorem fv{M:To}{A:Ov}{E:NJ->NL->Prop}{i:Nat}{x:Oo}{v:V}{u:NJ}{Q:Unit->NL->Prop}(I:Inv X pins σ H s)(hN:X.N.Nodup)(a:X.N[i]?=NF x)(hx:Loc X.env.scope x)(r:RelV v u)(h:∀s',Inv X pins (σ.set i (NF v)) H s'->Q () s')(b:X.fn x=NM\/X.env.scope.names.lookup x=NF .local:=by first|exact .inl rfl|exact .inr rfl|assumption):wpAny M A (storeName X.env x u) Q E s:=vV I hN a hx r (λs' c _=>h s' c) b
theorem Inv.t5{s':NL}{ch:List NR}(I:Inv X pins σ H s)(f:s'.os=s.os)(u:Un (gf X.stack) ch H H' s.heap s'.heap)(aD:iq X.prog X.w H' s'.heap)(g:Tz s'.gens)(a:∀b∈ch,(b∈X.ex\/X.br.heap.objs.size<=b)/\b≠X.env.locals/\(∀x c,X.env.cells.lookup x=NF c->c≠b)/\∀p∈X.pn++pins,p.1≠b):Inv X pins σ H' s':=by
 obtain⟨h',g',d',t',d⟩:=s';have e:d=s.os:=f;subst e;exact I.call (g':=g') (t':=t') (d':=d') u aD g a
end
abbrev XK:=NJ->Option NR->Hp->Prop
abbrev St:=List (Option V)
abbrev VK:=V->Hp->Prop
abbrev TE:=St->Hp->VK->Prop
abbrev TT:=St->Hp->(Bool->Hp->Prop)->Prop
abbrev TA:=St->Hp->(List V->Hp->Prop)->Prop
structure Ends where
 nx:St->Hp->Prop
 rt:VK
 bk:St->Hp->Prop:=λ_ _=>False
 ct:St->Hp->Prop:=λ_ _=>False
abbrev TS:=Ends->St->Hp->Prop
inductive EP(X:Cx)(pins:List (NR×OW))(σ:St)(Q:VK)(u:NJ)(s':NL):Prop where|mk(v:V)(H':Hp)(I:Inv X pins σ H' s')(r:RelV v u)(q:Q v H')
inductive TP(X:Cx)(pins:List (NR×OW))(σ:St)(Q:Bool->Hp->Prop)(b:Bool)(s':NL):Prop where|mk(H':Hp)(I:Inv X pins σ H' s')(q:Q b H')
inductive AP(X:Cx)(pins:List (NR×OW))(σ:St)(Q:List V->Hp->Prop)(us:List NJ)(s':NL):Prop where|mk(vs:List V)(H':Hp)(I:Inv X pins σ H' s')(r:aq vs us)(q:Q vs H')
noncomputable def SP(X:Cx)(pins:List (NR×OW))(D:Ends)(f:Flow)(s':NL):Prop:=match f with
 |.next=>∃a b,Inv X pins a b s'/\D.nx a b|.brk=>∃a b,Inv X pins a b s'/\D.bk a b|.cont=>∃a b,Inv X pins a b s'/\D.ct a b|.ret u=>∃v a b,Inv X pins a b s'/\RelV v u/\D.rt v b
noncomputable def PE(X:Cx)(e:Ob)(t:TE):Prop:=∀(a:List (NR×OW))(s:NL)(b:St)(H:Hp)(Q:VK),Inv X a b H s->t b H Q->wpAny (N2 X.prog X.w) X.A (Qa e X.env) (EP X a b Q) X.xe s
noncomputable def PT(X:Cx)(e:Ob)(t:TT):Prop:=∀(a:List (NR×OW))(s:NL)(b:St)(H:Hp)(Q:Bool->Hp->Prop),Inv X a b H s->t b H Q->wpAny (N2 X.prog X.w) X.A (Vg e X.env (Qa e X.env)) (TP X a b Q) X.xe s
noncomputable def PW(X:Cx)(e:Ob)(t:TT):Prop:=∀(whole:UG NJ)(a:List (NR×OW))(s:NL)(b:St)(H:Hp)(Q:Bool->Hp->Prop),Inv X a b H s->t b H Q->wpAny (N2 X.prog X.w) X.A (Vg e X.env whole) (TP X a b Q) X.xe s
theorem PW.pt{X:Cx}{e:Ob}{t:TT}(h:PW X e t):PT X e t:=h _
noncomputable def PA(X:Cx)(es:List Ob)(t:TA):Prop:=∀(pos:P8)(a:List (NR×OW))(s:NL)(b:St)(H:Hp)(Q:List V->Hp->Prop),Inv X a b H s->t b H Q->wpAny (N2 X.prog X.w) X.A (spliced (Qu pos (Og es X.env))) (AP X a b Q) X.xe s
noncomputable def PS(X:Cx)(st:Qq)(t:TS):Prop:=∀(a:List (NR×OW))(s:NL)(b:St)(H:Hp)(D:Ends),Inv X a b H s->t D b H->wpAny (N2 X.prog X.w) X.A (exec st X.env) (SP X a D) X.xe s
noncomputable def ph(X:Cx)(st:List Qq)(t:TS):Prop:=∀(a:List (NR×OW))(s:NL)(b:St)(H:Hp)(D:Ends),Inv X a b H s->t D b H->wpAny (N2 X.prog X.w) X.A (execs st X.env) (SP X a D) X.xe s
theorem bo{b:Type}{t:UG b}{Q c:b->NL->Prop}{M:To}{A:Ov}{E:NJ->NL->Prop}{s:NL}(h:wpAny M A t Q E s)(d:∀a s,Q a s->c a s):wpAny M A t c E s:=O3 h d λ_ _ x=>x
end L2
namespace L2
open PySem PySem.Spec PyProof.Rows
section
variable{X:Cx}
noncomputable def HX(i:Nat):TE:=λa H Q=>∃v,a[i]?=NF (NF v)/\Q v H
noncomputable def tC(v:V):TE:=λ_ H Q=>Q v H
theorem d7{i:Nat}{x:Oo}{pos:P8}(hN:X.N[i]?=NF x)(n:t4 X.env.scope x)(hd:(x==("__debug__":Oo))=NP:=by decide)(g:(x==("__classdict__":Oo))=NP:=by decide):PE X (.Name x pos) (HX i):=by
 intro f s k H Q I h;obtain⟨v,e,h⟩:=h;obtain⟨m,o,q⟩:=I.loc;obtain⟨u,r,l⟩:=q i x v hN e n;have d:EP X f k Q u s:=⟨v,H,I,r,h⟩;rcases l with⟨b,p⟩|⟨b,c,j,a⟩;.exact Xp (wpAny_loadName_local I.ok.kind b o p d) hd
 .rcases b with b|b;.exact Xp (wpAny_loadName_cell I.ok.kind b j a d) hd
  .exact Xp (wpAny_loadName_free I.ok.kind b j a d g) hd
theorem aC{i j pos}:PE X (.Constant (.int i) j pos) (tC (.int i)):=λ_ _ _ H _ I h=>wpAny_Constant_int ⟨.int i,H,I.tok _,⟨_,rfl⟩,h⟩
theorem HY{b j pos}:PE X (.Constant (.bool b) j pos) (tC (.bl b)):=λ_ _ _ H _ I h=>Constant_bool ⟨.bl b,H,I,rfl,h⟩
theorem Ee{j pos}:PE X (.Constant .none j pos) (tC .aU):=λ_ _ _ H _ I h=>Constant_none ⟨.aU,H,I,rfl,h⟩
theorem Ef{x j pos}:PE X (.Constant (.str x) j pos) (tC (.str x)):=λ_ _ _ H _ I h=>Calls.Constant_str ⟨.str x,H,I.tok _,⟨_,rfl⟩,h⟩
noncomputable def Gl(X:Cx)(x:Oo):Prop:=X.env.kindOf x=NF .globalImplicit
theorem iB{E:NJ->NL->Prop}{pins:List (NR×OW)}{s:NL}{σ:St}{H:Hp}{x:Oo}{u:NJ}{pos:P8}{Q:NJ->NL->Prop}(I:Inv X pins σ H s)(b:Gl X x)(a:X.mg x=NF u)(h:Q u s)(hd:(x==("__debug__":Oo))=NP:=by decide):wpAny (N2 X.prog X.w) X.A (Qa (.Name x pos) X.env) Q E s:=Ui I.ok.kind b (Calls.loadGlobal_global (by rw[I.ok.glob];exact I.mod.glob.keeps I.bk) a h) hd
theorem kK{E:NJ->NL->Prop}{pins:List (NR×OW)}{s:NL}{σ:St}{H:Hp}{x:Oo}{u:NJ}{pos:P8}{Q:NJ->NL->Prop}(I:Inv X pins σ H s)(d:Gl X x)(c:X.mg x=NN)(a:P7 x=NF u)(h:Q u s)(b:x≠"__name__":=by decide)(hd:(x==("__debug__":Oo))=NP:=by decide):wpAny (N2 X.prog X.w) X.A (Qa (.Name x pos) X.env) Q E s:=by
 obtain⟨g,f,e⟩:=I.mod.blt;exact Ui I.ok.kind d (Calls.loadGlobal_builtin (by rw[I.ok.glob];exact I.mod.glob.keeps I.bk) c (by rw[I.ok.blt];exact f.keeps I.bk) ((e x b).trans a) h) hd
theorem nO{x:Oo}{v:V}{u:NJ}{pos:P8}(b:Gl X x)(a:X.mg x=NF u)(r:RelV v u)(hd:(x==("__debug__":Oo))=NP:=by decide):PE X (.Name x pos) (tC v):=λ_ _ _ H _ I h=>iB I b a ⟨v,H,I,r,h⟩ hd
theorem AK{x:Oo}{v:V}{u:NJ}{pos:P8}(d:Gl X x)(c:X.mg x=NN)(a:P7 x=NF u)(r:RelV v u)(b:x≠"__name__":=by decide)(hd:(x==("__debug__":Oo))=NP:=by decide):PE X (.Name x pos) (tC v):=λ_ _ _ H _ I h=>kK I d c a ⟨v,H,I,r,h⟩ b hd
variable{a b:Ob}{ta tb:TE}{pos:P8}
variable{tA tB':TT}{rest:List Ob}
noncomputable def Li(t u:TT):TT:=λd H Q=>t d H λc e=>if c=NM then u d e Q else Q NP e
noncomputable def M8(t u:TT):TT:=λd H Q=>t d H λc e=>if c=NM then Q NM e else u d e Q
noncomputable def Lj(t:TT):TT:=λd H Q=>t d H λc e=>Q (!c) e
theorem t6(ha:PT X a tA):PW X (.BoolOp .And [a] pos) tA:=by
 intro g d s f H Q I h;refine isTrue_and (bo (ha d s f H Q I h) λc i e=>?_);cases c with
 |true=>exact isTrue_and_nil e|false=>exact e
theorem Eh(ha:PT X a tA):PW X (.BoolOp .Or [a] pos) tA:=by
 intro g d s f H Q I h;refine isTrue_or (bo (ha d s f H Q I h) λc i e=>?_);cases c with
 |false=>exact isTrue_or_nil e|true=>exact e
theorem xC(ha:PT X a tA)(hb:PW X (.BoolOp .And (b::rest) pos) tB'):PW X (.BoolOp .And (a::b::rest) pos) (Li tA tB'):=by
 intro k d s f H Q I h;refine isTrue_and (bo (ha d s f H _ I h) λc l e=>?_);obtain⟨j,i,g⟩:=e;cases c with
 |true=>exact hb k d l f j Q i g|false=>exact⟨j,i,g⟩
theorem HZ(ha:PT X a tA)(hb:PW X (.BoolOp .Or (b::rest) pos) tB'):PW X (.BoolOp .Or (a::b::rest) pos) (M8 tA tB'):=by
 intro k d s f H Q I h;refine isTrue_or (bo (ha d s f H _ I h) λc l e=>?_);obtain⟨j,i,g⟩:=e;cases c with
 |true=>exact⟨j,i,g⟩|false=>exact hb k d l f j Q i g
theorem Ei(ha:PT X a tA):PT X (.UnaryOp .Not a pos) (Lj tA):=by
 intro d s e H Q I h;exact isTrue_not (bo (ha d s e H (λc g=>Q (!c) g) I h) λc j z=>by obtain⟨i,f,q⟩:=z;exact⟨i,f,q⟩)
noncomputable def H_(ta tb:TE):TE:=λd H Q=>ta d H λx e=>∃c,x=.bl c/\if c=NM then tb d e Q else Q (.bl NP) e
noncomputable def Ia(ta:TE):TE:=λd H Q=>ta d H λx e=>∃c,x=.bl c/\Q (.bl (!c)) e
theorem Ej{op}{t:TE}(h:PE X a t):PE X (.BoolOp op [a] pos) t:=λc s d H Q I hw=>BoolOp_one (h c s d H Q I hw)
theorem Ek(ha:PE X a ta)(hb:PE X (.BoolOp .And (b::rest) pos) tb):PE X (.BoolOp .And (a::b::rest) pos) (H_ ta tb):=by
 intro d s g H Q I h;refine BoolOp_and (bo (ha d s g H _ I h) λv k f=>?_);obtain⟨x,j,i,l,e⟩:=f;obtain⟨c,rfl,e⟩:=e;cases l;refine QV ?_;cases c with
 |true=>exact hb d k g j Q i e|false=>exact⟨.bl NP,j,i,rfl,e⟩
theorem El(ha:PE X a ta):PE X (.UnaryOp .Not a pos) (Ia ta):=by
 intro d s g H Q I h;refine UnaryOp_ (bo (ha d s g H _ I h) λv l e=>?_);obtain⟨x,k,j,i,f⟩:=e;obtain⟨c,rfl,f⟩:=f;cases i;exact not_of (QV ⟨.bl (!c),k,j,rfl,f⟩)
end
end L2
namespace L2
open PySem PySem.Spec PyProof.Rows
noncomputable def dy(K:NS)(H:Hp)(a:NR)(xs:List V):Prop:=Rd H a (.lst xs)\/∃(o:OW)(b:Array NJ)(n:Nat),K.lookup a=NF o/\o.cls=.type "list"/\o.dict=NN/\o.data=.seq b n/\b.size<=NW/\aq xs b.toList
noncomputable def kf(K:NS)(H:Hp)(a:NR)(xs:List V):Prop:=Rd H a (.tup xs)\/∃(o:OW)(b:Array NJ)(n:Nat),K.lookup a=NF o/\o.cls=.type "tuple"/\o.data=.seq b n/\b.size<=NW/\aq xs b.toList
noncomputable def Lk:NJ->Option V
 |.none=>NF .aU|.bool b=>NF (.bl b)|.int i _=>NF (.int i)|.str x _=>NF (.str x)|.bytes b _=>NF (.Ea b)|.float b _=>NF (.HC b)|.ref a=>NF (.ref a)|.type n=>NF (.ty n)|_=>NN
theorem RelV.abs{x:V}{u:NJ}(r:RelV x u):Lk u=NF x:=by cases x with
 |aU=>cases r;rfl|bl _=>cases r;rfl|int _=>obtain⟨t,rfl⟩:=r;rfl|str _=>obtain⟨t,rfl⟩:=r;rfl|Ea _=>obtain⟨t,rfl⟩:=r;rfl|HC _=>obtain⟨t,rfl⟩:=r;rfl|ref _=>cases r;rfl|ty _=>cases r;rfl
theorem RelV.inj{x y:V}{u:NJ}(r:RelV x u)(q:RelV y u):x=y:=NU (r.abs.symm.trans q.abs)
theorem aq.inj:∀{xs a:List V}{us:List NJ},aq xs us->aq a us->xs=a
 |_,_,_,.nil,.nil=>rfl|_,_,_,.cons r t,.cons c b=>by rw[r.inj c,aq.inj t b]
section
variable{X:Cx}{pins:List (NR×OW)}{σ:St}{H:Hp}{s:NL}{a:NR}{xs ys:List V}
theorem dy.of{K:NS}(h:H a=NF (.lst xs)):dy K H a xs:=.inl (.inl h)
theorem kf.of{K:NS}(h:H a=NF (.tup xs)):kf K H a xs:=.inl (.inl h)
theorem Inv.list(I:Inv X pins σ H s)(h:dy X.K H a xs):∃its:List NJ,aq xs its/\PlainL s.heap a its.toArray/\xs.length<=NW:=by
 rcases h with h|⟨o,its,n,c,d,hd,b,f,r⟩
 .obtain⟨z,its,n,r,e⟩:=h.ok I.aD;exact⟨its,r,⟨_,n,e,rfl,rfl,rfl⟩,z⟩
 .refine⟨its.toList,r,⟨o,n,I.jg a o c,d,hd,by simpa using b⟩,?_⟩;have e:=r.length;simp only[Pc]at e;omega
theorem Inv.tuple(I:Inv X pins σ H s)(h:kf X.K H a xs):∃its:List NJ,aq xs its/\WL s.heap a its.toArray/\xs.length<=NW:=by
 rcases h with h|⟨o,its,n,c,d,b,f,r⟩
 .obtain⟨z,its,r,p⟩:=h.ok I.aD;exact⟨its,r,p,z⟩
 .refine⟨its.toList,r,⟨o,I.jg a o c,d,n,by simpa using b⟩,?_⟩;have e:=r.length;simp only[Pc]at e;omega
theorem Inv.pB(I:Inv X pins σ H s)(h:dy X.K H a xs)(h':dy X.K H a ys):xs=ys:=by
 obtain⟨c,r,⟨o,n,e,_,_,d⟩,_⟩:=I.list h;obtain⟨b,i,⟨k,l,f,_,_,g⟩,_⟩:=I.list h';rw[e]at f;cases f;rw[d]at g;injection g with j _;have:c=b:=by simpa using congrArg Array.toList j
 subst this;exact r.inj i
theorem Inv.vW(I:Inv X pins σ H s)(h:kf X.K H a xs)(h':kf X.K H a ys):xs=ys:=by
 obtain⟨c,r,⟨o,e,_,n,d⟩,_⟩:=I.tuple h;obtain⟨b,i,⟨k,f,_,l,g⟩,_⟩:=I.tuple h';rw[e]at f;cases f;rw[d]at g;injection g with j _;have:c=b:=by simpa using congrArg Array.toList j
 subst this;exact r.inj i
end
noncomputable abbrev Cx.mw(X:Cx)(E:NJ->NL->Prop):Cx:={X with xe:=E}
noncomputable abbrev Cx.K0(X:Cx):Cx:=X.mw λ_ _=>False
theorem Cx.Ok.mw{X:Cx}(ok:X.Ok)(E:NJ->NL->Prop):(X.mw E).Ok:=⟨ok.mod,ok.kind,ok.glob,ok.blt,ok.above,ok.inj,ok.has,ok.Ed,ok.hd,ok.frames,ok.HD,ok.KZ,ok.bs,ok.AB,ok.r9,ok.vU,ok.jj,ok.C_⟩
theorem Cx.Ok.fw{X:Cx}{E:NJ->NL->Prop}(ok:(X.mw E).Ok):X.Ok:=⟨ok.mod,ok.kind,ok.glob,ok.blt,ok.above,ok.inj,ok.has,ok.Ed,ok.hd,ok.frames,ok.HD,ok.KZ,ok.bs,ok.AB,ok.r9,ok.vU,ok.jj,ok.C_⟩
section
variable{X:Cx}{pins:List (NR×OW)}{σ:St}{H:Hp}{s:NL}{E:NJ->NL->Prop}
theorem Inv.mw(I:Inv X pins σ H s)(E:NJ->NL->Prop):Inv (X.mw E) pins σ H s:=⟨I.ok.mw E,I.os,I.bare,I.base,I.loc,I.cell,I.free,I.cF,I.pin,I.aD,I.len⟩
theorem Inv.fw(I:Inv (X.mw E) pins σ H s):Inv X pins σ H s:=⟨I.ok.fw,I.os,I.bare,I.base,I.loc,I.cell,I.free,I.cF,I.pin,I.aD,I.len⟩
theorem SP.fw{D:Ends}{f:Flow}{s':NL}(h:SP (X.mw E) pins D f s'):SP X pins D f s':=by cases f with
 |next=>obtain⟨a,b,I,q⟩:=h;exact⟨a,b,I.fw,q⟩|brk=>obtain⟨a,b,I,q⟩:=h;exact⟨a,b,I.fw,q⟩|cont=>obtain⟨a,b,I,q⟩:=h;exact⟨a,b,I.fw,q⟩|ret u=>obtain⟨v,a,b,I,r,q⟩:=h;exact⟨v,a,b,I.fw,r,q⟩
theorem ph.K0{st:List Qq}{t:TS}(h:ph X.K0 st t):ph X st t:=λpins s σ H D I hw=>O3 (h pins s σ H D (I.mw _) hw) (λ_ _ q=>q.fw) λ_ _ z=>PZ z
end
section
variable{X:Cx}{st:Qq}{rest:List Qq}{t u:TS}{e:Ob}{te:TE}{pos:P8}
noncomputable def Ib:TS:=λD a H=>D.nx a H
noncomputable def Ll(t u:TS):TS:=λD a H=>t {D with nx:=u D} a H
theorem kg:ph X [] Ib:=λ_ _ a H _ I h=>TV ⟨a,H,I,h⟩
theorem bf(i:PS X st t)(g:ph X rest u):ph X (st::rest) (Ll t u):=by
 intro a s c H D I h;refine wpAny_execs_cons (bo (i a s c H {D with nx:=u D} I h) λf d q=>?_);cases f with
 |next=>
  obtain⟨b,k,j,q⟩:=q;exact g a d b k D j q|ret v=>exact q|brk=>exact q|cont=>exact q
theorem iC(c:PS X st t):ph X [st] t:=by
 intro a s b H D I h;refine wpAny_execs_cons (bo (c a s b H D I h) λf d q=>?_);cases f with
 |next=>exact TV q|ret v=>exact q|brk=>exact q|cont=>exact q
theorem Inv.quiet{pins:List (NR×OW)}{σ:St}{H:Hp}{s:NL}(I:Inv X pins σ H s):interactive X.env=NP:=by simp[interactive,I.ok.kind]
noncomputable def Ic(te:TE):TS:=λD a H=>te a H λ_ b=>D.nx a b
theorem nP(f:PE X e te)(d:Qz e NN pos.line X.env=pure NP:=by rfl):PS X (.Expr e pos) (Ic te):=by
 intro a s b H D I h;exact wpAny_Expr_any (bo (f a s b H _ I h) λv j⟨x,i,g,k,c⟩=>⟨b,i,g,c⟩) I.quiet d
noncomputable def Ln(te:TE):TS:=λD a H=>te a H D.rt
theorem kL(f:PE X e te):PS X (.Return (NF e) pos) (Ln te):=by
 intro a s b H D I h;exact wpAny_Return_some (bo (f a s b H _ I h) λv j⟨x,i,g,c,d⟩=>⟨x,b,i,g,c,d⟩)
noncomputable def Lp(c:TT)(t u:TS):TS:=λD a H=>c a H λb d=>if b=NM then t D a d else u D a d
theorem t7{c:Ob}{a b:List Qq}{j:TT}(o:PT X c j)(ha:ph X a t)(hb:ph X b u):PS X (.If c a b pos) (Lp j t u):=by
 intro f s g H D I h;refine wpAny_If (bo (o f s g H _ I h) λd k i=>?_);obtain⟨n,m,l⟩:=i;cases d with
 |true=>exact ha f k g n D m l|false=>exact hb f k g n D m l
end
abbrev TG:=V->St->Hp->(St->Hp->Prop)->Prop
abbrev AL:=List V->St->Hp->(St->Hp->Prop)->Prop
noncomputable def PG(X:Cx)(a:Ob)(t:TG):Prop:=∀(b:List (NR×OW))(s:NL)(d:St)(H:Hp)(v:V)(u:NJ)(Q:St->Hp->Prop),Inv X b d H s->RelV v u->t v d H Q->wpAny (N2 X.prog X.w) X.A (Tt a X.env u) (λ_ f=>∃c e,Inv X b c e f/\Q c e) X.xe s
noncomputable def Dc(X:Cx)(g:List Ob)(t:AL):Prop:=∀(a:List (NR×OW))(s:NL)(c:St)(H:Hp)(d:List V)(e:List NJ)(Q:St->Hp->Prop),Inv X a c H s->aq d e->t d c H Q->wpAny (N2 X.prog X.w) X.A (Wo ((Qj g X.env).map (·.2)) e) (λ_ h=>∃b f,Inv X a b f h/\Q b f) X.xe s
abbrev Em:=V->V->V->Hp->(Hp->Prop)->Prop
noncomputable def Ie(X:Cx)(t:Em):Prop:=∀(a:List (NR×OW))(s:NL)(b:St)(H:Hp)(o i v:V)(c d u:NJ)(Q:Hp->Prop),Inv X a b H s->RelV o c->RelV i d->RelV v u->t o i v H Q->wpAny (N2 X.prog X.w) X.A (setItem c d u) (λ_ f=>∃e,Inv X a b e f/\Q e) X.xe s
section
variable{X:Cx}{pos:P8}
noncomputable def xD(i:Nat):TG:=λv a H Q=>Q (a.set i (NF v)) H
theorem t8{i:Nat}{x:Oo}(hN:X.N.Nodup)(b:X.N[i]?=NF x)(hx:Loc X.env.scope x)(c:X.fn x=NM\/X.env.scope.names.lookup x=NF .local:=by first|exact .inl rfl|exact .inr rfl|assumption):PG X (.Name x pos) (xD i):=by
 intro a s e H v u Q I r h;exact wpAny_assign_Name (fv I hN b hx r (λf d=>⟨_,H,d,h⟩) c)
noncomputable def Lq:AL:=λb a H Q=>b=[]/\Q a H
noncomputable def Ig(t:TG)(u:AL):AL:=λc b H Q=>∃v r,c=v::r/\t v b H λa d=>u r a d Q
theorem AM:Dc X [] Lq:=by
 intro a s b H c d Q I r h;obtain⟨e,h⟩:=h;subst e;cases r;exact WM ⟨b,H,I,h⟩
theorem xE{e:Ob}{es:List Ob}{t:TG}{u:AL}(l:PG X e t)(k:Dc X es u)(j:(Qj (e::es) X.env).map (·.2)=Tt e X.env::(Qj es X.env).map (·.2):=by rfl):Dc X (e::es) (Ig t u):=by
 intro a s d H p w Q I r h;obtain⟨v,q,m,h⟩:=h;subst m;cases r with|cons r g=>
  rw[j];refine Uj (bo (l a s d H _ _ _ I r h) λ_ f c=>?_);obtain⟨b,o,n,i⟩:=c;exact k a f b o _ _ Q n g i
noncomputable def Lr(K:NS)(n:Nat)(t:AL):TG:=λv c H Q=>∃a b,v=.ref a/\kf K H a b/\b.length=n/\t b c H Q
theorem Eo{es:List Ob}{k:Nat}{t:AL}{n:Nat}(x:X.calm=NM)(h:Dc X es t)(q:(Qj es X.env).length=n:=by rfl)(d:(Qj es X.env).findIdx? (·.1)=NN:=by rfl):PG X (.Tuple es k pos) (Lr X.K n t):=by
 intro c s f H v u Q I r hw;obtain⟨a,j,z,p,w,hw⟩:=hw;subst z;cases r;obtain⟨l,g,m,B⟩:=I.tuple p;refine assign_Tuple_tuple (I.ok.hd x) m (by simp[q,<-w,g.length]) d λy hx=>?_;have A:Inv X c f H {s with heap:=y}:=I.kept (t':=s.toks) λb o e=>hx b o (Oj (N1 e)) e;exact h c _ f H j _ Q A (by simpa using g) hw
noncomputable def Lu(b c:TE)(t:Em):TG:=λv a H Q=>b a H λo f=>c a f λi e=>t o i v e λd=>Q a d
theorem r_{o i:Ob}{f g:TE}{t:Em}(z:PE X o f)(A:PE X i g)(w:Ie X t)(ha:∀v,Tt (.Subscript o i pos) X.env v=(do
   let c<-TB [v] (Qa o X.env)let d<-TB [v,c] (Qa i X.env)SR pos;TB [v,c,d] (setItem c d v)release [v,c,d] []):=by intro _;rfl):PG X (.Subscript o i pos) (Lu f g t):=by
 intro b s e H v u Q I r h;rw[ha];refine NG (OE (bo (z b s e H _ I h) λc k a=>?_));obtain⟨x,G,D,m,q⟩:=a;refine NG (OE (bo (A b k e G _ D q) λd j a=>?_));obtain⟨y,F,C,l,p⟩:=a;refine NG (Qe (NG (OE (bo (w b j e F x y v c d u _ C m l r p) λ_ J a=>?_))));obtain⟨E,B,n⟩:=a;exact wpAny_release ⟨e,E,B,n⟩
noncomputable def AN(b:TE)(g:TG):TS:=λD a H=>b a H λx c=>g x a c D.nx
theorem nQ{tg e:Ob}{c:TE}{g:TG}(l:PE X e c)(k:PG X tg g)(j:UR [tg] e pos.line X.env=pure NP:=by rfl)(hw:QL [tg] e X.env=pure NN:=by rfl)(m:(Qj [tg] X.env).map (·.2)=[Tt tg X.env]:=by rfl):PS X (.Assign [tg] e pos) (AN c g):=by
 intro a s b H D I h;refine wpAny_Assign_stores (bo (l a s b H _ I h) λv d⟨x,o,n,f,i⟩=>?_) j hw;rw[m];exact bo (k a d b o x v _ n f i) λ_ p q=>q
theorem c7{i:Nat}{x:Oo}{e:Ob}{c:TE}{a:P8}(hN:X.N.Nodup)(k:X.N[i]?=NF x)(hx:Loc X.env.scope x)(m:PE X e c)(j:Qz e (NF (.Name x a)) pos.line X.env=pure NP:=by rfl)(l:X.fn x=NM\/X.env.scope.names.lookup x=NF .local:=by first|exact .inl rfl|exact .inr rfl|assumption):PS X (.Assign [.Name x a] e pos) (AN c (xD i)):=by
 intro b s d H D I h;refine wpAny_Assign_Name (bo (m b s d H _ I h) λv r⟨y,p,o,f,g⟩=>?_) j;exact fv o hN k hx f (λq n=>⟨_,p,n,g⟩) l
noncomputable def Ih(i j:Nat)(c:TA):TS:=λD a H=>c a H λb d=>∃v w,b=[v,w]/\D.nx ((a.set i (NF v)).set j (NF w)) d
theorem Ep{i j:Nat}{x y:Oo}{a b:Ob}{B:TA}{r n pt:P8}{kt k2 pt2}(S:X.calm=NM)(hN:X.N.Nodup)(R:X.N[i]?=NF x)(Q:X.N[j]?=NF y)(u:i≠j)(hx:X.env.scope.names.lookup x=NF .local)(hy:X.env.scope.names.lookup y=NF .local)(ha:PA X [a,b] B)(hw:QL [.Tuple [.Name x r,.Name y n] kt pt] (.Tuple [a,b] k2 pt2) X.env=pure (NF [x,y]))(P:UR [.Tuple [.Name x r,.Name y n] kt pt] (.Tuple [a,b] k2 pt2) pos.line X.env=pure NP:=by rfl):PS X (.Assign [.Tuple [.Name x r,.Name y n] kt pt] (.Tuple [a,b] k2 pt2) pos) (Ih i j B):=by
 intro c s z H D I h;rw[exec_Assign_arm];refine NG (Qe ?_);rw[P];refine NG (NO ?_);rw[if_neg (by decide)];refine NG (Tuple_ (bo (ha _ c s z H _ I h) λJ g k=>?_));obtain⟨Z,G,Y,L,m⟩:=k;obtain⟨v,w,T,m⟩:=m;subst T;obtain⟨f,d,rfl,K,l⟩:∃f d,J=[f,d]/\RelV v f/\RelV w d:=by cases L with|cons p q=>cases q with|cons O M=>
    cases M;exact⟨_,_,rfl,p,O⟩
 refine ON ?_ (by show 2<=NW;decide);have W:Inv X c z G {g with heap:=g.heap.push {cls:=.type "tuple",data:=.seq [f,d].toArray}}:=Y.kept (t':=g.toks) λb o e=>NQ _ e;rw[hw];refine NG (NO ?_);show wpAny (N2 X.prog X.w) X.A (do VT "assign.swapped-stores";let items<-unpackItems (.ref g.heap.objs.size) 2 NN;Wo [λv=>VU X.env y v,λv=>VU X.env x v] items.reverse;pure W_) _ _ _;refine NG (Tu (NG (unpackItems_tuple (items:=#[f,d]) (I.ok.hd S) (IsTup.new g.heap _) λh' t=>?_)));have V:=W.kept (h':=h') (t':=g.toks) λb o e=>t b o (Oj (N1 e)) e;show wpAny _ _ (Wo [λv=>VU X.env y v,λv=>VU X.env x v] [d,f]>>=λ_=>pure W_) _ _ _;refine NG (Uj (wpAny_bindName (fv V hN Q (.inl hy) l (λs2 U=>?_) (.inr hy))));refine Uj (wpAny_bindName (fv U hN R (.inl hx) K (λs3 F=>WM (NO ?_)) (.inr hx)));rw[List.set_comm _ _ (OX u)]at F;exact⟨_,G,F,m⟩
end
section
variable{X:Cx}{pos:P8}
noncomputable def Er(c:TT)(h:TS):TS:=λD a H=>∃W:Nat->St->Hp->Prop,(∃m,W m a H)/\∀m a H,W m a H->c a H λb f=>if b=NM then∃N:St->Hp->Prop,(∀d g,N d g->∃e,e<m/\W e d g)/\h {D with nx:=N,ct:=N,bk:=D.nx} a f else D.nx a f
theorem xF{c:Ob}{body:List Qq}{t:TT}{u:TS}(x:Ud (N2 X.prog X.w) X.A X.env X.xe)(O:PT X c t)(hb:ph X body u):PS X (.While c body [] pos) (Er t u):=by
 intro d s E H D I h;obtain⟨W,⟨M,G⟩,i⟩:=h;refine wpAny_While (codeAny_whileLoop (λn L=>∃g C,Inv X d g C L/\W n g C) ?_ M ⟨E,H,I,G⟩);rintro n K⟨e,B,P,F⟩;refine Rl x (bo (O d K e B _ P (i n e B F)) λb J m=>?_);obtain⟨z,y,l⟩:=m;cases b with
 |true=>
  obtain⟨N,hN,l⟩:=l;rw[if_pos rfl];refine Rl x (bo (hb d J e z _ y l) λf Q k=>?_);cases f with
  |next=>
   obtain⟨a,j,r,n3⟩:=k;obtain⟨p,q,o⟩:=hN a j n3;exact⟨p,q,a,j,r,o⟩|cont=>
   obtain⟨a,j,r,n3⟩:=k;obtain⟨p,q,o⟩:=hN a j n3;exact⟨p,q,a,j,r,o⟩|brk=>exact k|ret v=>exact k
 |false=>
  rw[if_neg O9];exact TV ⟨e,z,y,l⟩
end
structure It where
 go:Nat->Hp->Prop
 K1:Nat->Hp->V->Hp->Prop
 stop:Nat->Hp->Prop
noncomputable def fu(X:Cx)(pins:List (NR×OW))(H:Hp)(b:NR):Prop:=H b=NN/\b≠X.env.locals/\b∉X.fs/\(b∈X.ex\/X.br.heap.objs.size<=b)/\(∀x c,X.env.cells.lookup x=NF c->c≠b)/\∀p∈X.pn++pins,p.1≠b
theorem Inv.AO{X:Cx}{pins:List (NR×OW)}{σ:St}{H H':Hp}{s:NL}{b:NR}(I:Inv X pins σ H s)(hb:s.heap.objs.size<=b)(d:H' b=NN):fu X pins H' b:=by
 refine⟨d,PU (Od I.lt hb),I.AJ hb,.inr (OC I.sz hb),λx c e z=>?_,λp a z=>?_⟩
 .obtain⟨v,q⟩:=I.cell x c e;exact absurd (Od q.lt (by rw[z];exact hb)) (OD _)
 .exact absurd (Od (N1 (I.pin p a).1) (by rw[z];exact hb)) (OD _)
structure Turn(P:N7)(w:Oq)(K:NS)(tg:Ob)(J:It)(fp:List NR)(it:NR)(tn:Nat->Oy->Prop):Prop where
 mem:it∈fp
 obj:∀i h,tn i h->∀b∈fp,∃o,h.get? b=NF o/\∀v,o.data≠.cell v
 keep:∀i h h',tn i h->(∀b∈fp,∀o,h.get? b=NF o->h'.get? b=NF o)->tn i h'
 item:∀(X:Cx),X.prog=P->X.w=w->X.K=K->X.calm=NM->∀(i:Nat)(pins:List (NR×OW))(s:NL)(σ:St)(H:Hp)(E:NJ->NL->Prop),Inv X pins σ H s->(∀b∈fp,fu X pins H b)->tn i s.heap->J.go i H->wpAny (N2 P w) X.A (Rt (.ref it)) (λr s1=>∃u,r=NF u/\wpAny (N2 P w) X.A (Rm tg (.ref it) u) (λ_ s2=>∃x H',Inv X pins σ H' s2/\RelV x u/\J.K1 i H x H'/\tn (i+1) s2.heap/\∀b∈fp,H' b=NN) E s1) E s
 done:∀(X:Cx),X.prog=P->X.w=w->X.K=K->X.calm=NM->∀(i:Nat)(pins:List (NR×OW))(s:NL)(σ:St)(H:Hp)(E:NJ->NL->Prop),Inv X pins σ H s->(∀b∈fp,fu X pins H b)->tn i s.heap->J.stop i H->wpAny (N2 P w) X.A (Rt (.ref it)) (λr s1=>r=NN/\Inv X pins σ H s1) E s
 self:∀(A:Ov)(i:Nat)(s:NL)(Q:NJ->NL->Prop)(E:NJ->NL->Prop),tn i s.heap->Q (.ref it) s->wpAny (N2 P w) A (US (.ref it)) Q E s
abbrev TI:=St->Hp->(It->Hp->Prop)->Prop
noncomputable def ML(X:Cx)(pins:List (NR×OW))(σ:St)(tg:Ob)(R:It->Hp->Prop)(a:NJ)(s2:NL):Prop:=∃(it:NR)(e:List NR)(d:Nat->Oy->Prop)(J:It)(c:Hp),a=.ref it/\Inv X pins σ c s2/\Turn X.prog X.w X.K tg J e it d/\d 0 s2.heap/\(∀b∈e,fu X pins c b)/\R J c
noncomputable def PI(X:Cx)(tg iter:Ob)(c:TI):Prop:=∀(a:List (NR×OW))(s:NL)(b:St)(H:Hp)(R:It->Hp->Prop),Inv X a b H s->c b H R->wpAny (N2 X.prog X.w) X.A (Qa iter X.env) (λv d=>wpAny (N2 X.prog X.w) X.A (US v) (ML X a b tg R) X.xe d) X.xe s
theorem t9{M:To}{A:Ov}{E:NJ->NL->Prop}{s:NL}{tg:Ob}{it:NR}{u:NJ}{o:OW}{n:String}{vs:Array NJ}{Q:Unit->NL->Prop}(b:s.heap.get? it=NF o)(d:o.cls=.type n)(hd:o.data=.fields vs)(c:["enumerate","zip","dict_itemiterator","dict_reverseitemiterator","odict_iterator","itertools.zip_longest","itertools.pairwise"].contains n=NP)(a:Q () s):wpAny M A (Rm tg (.ref it) u) Q E s:=by
  unfold Rm;cases tg<;>first
    |exact NO a|(cases u<;>first
        |exact NO a
        | (refine NG (wpAny_load b ?_);rw[d,hd];show wpAny M A (if(["enumerate","zip","dict_itemiterator","dict_reverseitemiterator","odict_iterator","itertools.zip_longest","itertools.pairwise"].contains n&&vs[0]?==NF (R6 _))=NM then _ else _) Q E s;rw[if_neg (by intro h;rw[c,Bool.false_and]at h;cases h)];exact NO a))
noncomputable def MM(K:NS)(a:NR):It:=⟨λi H=>∃b x,dy K H a b/\b[i]?=NF x,λi H x c=>c=H/\∀b,dy K H a b->b[i]?=NF x,λi H=>∃b,dy K H a b/\b.length<=i⟩
noncomputable def MN(K:NS)(a:NR):It:=⟨λi H=>∃b x,kf K H a b/\b[i]?=NF x,λi H x c=>c=H/\∀b,kf K H a b->b[i]?=NF x,λi H=>∃b,kf K H a b/\b.length<=i⟩
noncomputable def Lv(lo:Int)(n:Nat):It:=⟨λi _=>i<n,λi H x a=>a=H/\x=.int (lo+i),λi _=>n<=i⟩
theorem vX{P:N7}{w:Oq}{K:NS}{tg:Ob}(a it:NR):Turn P w K tg (MM K a) [it] it (λi h=>h.IsListIter it a i)where
 mem:=by simp
 obj:=λi h st b hb=>by
  have e:b=it:=by simpa using hb
  subst e;obtain⟨o,e,c,d⟩:=st;exact⟨o,e,λv z=>by rw[d]at z;cases z⟩
 keep:=λi h n st k=>st.at λo e=>k it (by simp) o e;item:=by
  intro X hP hw hK F i f s D H E I m st t;subst hP hw hK;obtain⟨G,x,l,hx⟩:=t;obtain⟨r,q,p,L⟩:=I.list l;obtain⟨u,hu,J⟩:=q.get hx;obtain⟨C,B,M,A,y,f5⟩:=m it (by simp);refine Vi st p.isList (x:=u) (by simpa using hu) λn g sb=>?_;have O:Inv X f D H {s with heap:=n}:=I.turned (t':=s.toks) (λb o hb e=>(sb.2 b hb).trans e) C B A y f5;obtain⟨o,e,c,d⟩:=id g;exact⟨u,rfl,t9 (s:={s with heap:=n}) e c d (by decide) ⟨x,H,O,J,⟨rfl,λQ hy=>by rw[I.pB hy l];exact hx⟩,g,λb hb=>(m b hb).1⟩⟩
 done:=by
  intro X hP hw hK F i f s D H E I m st t;subst hP hw hK;obtain⟨G,l,hx⟩:=t;obtain⟨r,q,p,L⟩:=I.list l;obtain⟨C,B,M,A,y,f5⟩:=m it (by simp);have R:=q.length;exact VG (I.ok.hd F) st p.isList (by simp;omega) λn N=>⟨rfl,I.turned (t':=s.toks) (λb o hb e=>N b o hb e) C B A y f5⟩
 self:=λ_ _ _ _ _ st h=>wpAny_pyIter_listiter st h
theorem se{P:N7}{w:Oq}{K:NS}{tg:Ob}(a it:NR):Turn P w K tg (MN K a) [it] it (λi h=>h.IsTupleIter it a i)where
 mem:=by simp
 obj:=λi h st b hb=>by
  have e:b=it:=by simpa using hb
  subst e;obtain⟨o,e,c,d⟩:=st;exact⟨o,e,λv z=>by rw[d]at z;cases z⟩
 keep:=λi h q st k=>st.at λo e=>k it (by simp) o e;item:=by
  intro X hP hw hK F i f s D H E I n st t;subst hP hw hK;obtain⟨G,x,m,hx⟩:=t;obtain⟨g,r,p,L⟩:=I.tuple m;obtain⟨u,hu,J⟩:=r.get hx;obtain⟨C,B,M,A,y,f5⟩:=n it (by simp);refine wpAny_pyNext_tuple_item st (show s.heap.IsTuple a g.toArray from p) (x:=u) (by simpa using hu) λq j sb=>?_;have O:Inv X f D H {s with heap:=q}:=I.turned (t':=s.toks) (λb o hb e=>(sb.2 b hb).trans e) C B A y f5;obtain⟨o,e,c,d⟩:=id j;exact⟨u,rfl,t9 (s:={s with heap:=q}) e c d (by decide) ⟨x,H,O,J,⟨rfl,λQ hy=>by rw[I.vW hy m];exact hx⟩,j,λb hb=>(n b hb).1⟩⟩
 done:=by
  intro X hP hw hK F i f s D H E I n st t;subst hP hw hK;obtain⟨G,m,hx⟩:=t;obtain⟨g,r,p,L⟩:=I.tuple m;obtain⟨C,B,M,A,y,f5⟩:=n it (by simp);have R:=r.length;exact wpAny_pyNext_tuple_end (I.ok.hd F) st (show s.heap.IsTuple a g.toArray from p) (by simp;omega) λq N=>⟨rfl,I.turned (t':=s.toks) (λb o hb e=>N b o hb e) C B A y f5⟩
 self:=λ_ _ _ _ _ st h=>wpAny_pyIter_tupleiter st h
theorem sf{P:N7}{w:Oq}{K:NS}{tg:Ob}(it:NR)(lo:Int)(n:Nat):Turn P w K tg (Lv lo n) [it] it (λi h=>IsRangeIter h it (lo+(i:Nat)*1) ((n:Int)-(i:Nat)) 1)where
 mem:=by simp
 obj:=λi h st b hb=>by
  have e:b=it:=by simpa using hb
  subst e;exact⟨_,st,λv z=>by
   have A:Data.fields _=Data.cell v:=z;cases A⟩
 keep:=λi h j st k=>k it (by simp) _ st;item:=by
  intro X hP hw hK m i a s x H E I g st l;subst hP hw hK;obtain⟨u,r,D,q,p,f5⟩:=g it (by simp);have W:=Walks.range (prog:=X.prog) (w:=X.w) (I.ok.hd m) it lo 1 n;refine W.item i s _ _ l st λv j y C d B=>?_;obtain⟨t,rfl⟩:=C;have G:Inv X a x H {s with heap:=j,toks:=y}:=I.turned (λb o hb e=>B b o (by simpa using hb) e) u r q p f5;refine⟨_,rfl,t9 (s:={s with heap:=j,toks:=y}) (n:="range_iterator") d rfl rfl (by decide) ⟨.int (lo+i),H,G,⟨t,?_⟩,⟨rfl,rfl⟩,d,λb hb=>(g b hb).1⟩⟩;rw[Int.mul_one]
 done:=by
  intro X hP hw hK m i a s x H E I g st l;subst hP hw hK;obtain⟨u,r,D,q,p,f5⟩:=g it (by simp);exact wpAny_pyNext_range_end (I.ok.hd m) st (by have:n<=i:=l;omega) λj F=>⟨rfl,I.turned (t':=s.toks) (λb o hb e=>F b o hb e) u r q p f5⟩
 self:=λ_ _ _ _ _ st h=>wpAny_pyIter_rangeiter st h
end L2
namespace L2
open PySem PySem.Spec PyProof.Rows
section
variable{X:Cx}{tg:Ob}
theorem xG{pins:List (NR×OW)}{σ:St}{H:Hp}{s:NL}{R:It->Hp->Prop}{E:NJ->NL->Prop}{lo c:Int}{t u v:Vz}{g:Nat}(I:Inv X pins σ H s)(l:-(2^62)<=lo)(k:lo<2^62)(j:-(2^62)<=c)(i:c<2^62)(q:R (Lv lo (c-lo).toNat) H):wpAny (N2 X.prog X.w) X.A (US (.ref s.heap.objs.size)) (ML X pins σ tg R) E {s with heap:=s.heap.push {cls:=.type "range",data:=.fields #[.int lo t,.int c u,.int 1 v]},toks:=g}:=by
 refine wpAny_pyIter_range (IsRange.new ..) (small_one l k j i) ?_;have h:Inv X pins σ H {s with heap:=s.heap.push {cls:=.type "range",data:=.fields #[.int lo t,.int c u,.int 1 v]},toks:=g}:=I.kept λb o e=>NQ _ e;refine⟨(s.heap.push {cls:=.type "range",data:=.fields #[.int lo t,.int c u,.int 1 v]}).objs.size,[(s.heap.push {cls:=.type "range",data:=.fields #[.int lo t,.int c u,.int 1 v]}).objs.size],_,_,H,rfl,h.kept (t':=g) λb o e=>NQ _ e,sf _ lo (c-lo).toNat,?_,λb hb=>?_,q⟩
 .have n:lo+((0:Nat):Int)*1=lo:=by simp
  have m:(((c-lo).toNat:Nat):Int)-((0:Nat):Int)=Builtin.Range.rangeSize lo c 1:=by rw[rangeSize_one];split<;>omega
  show IsRangeIter _ _ (lo+((0:Nat):Int)*1) ((((c-lo).toNat:Nat):Int)-((0:Nat):Int)) 1;rw[n,m];exact N4 _ rfl
 .have e:b=(s.heap.push {cls:=.type "range",data:=.fields #[.int lo t,.int c u,.int 1 v]}).objs.size:=by simpa using hb
  subst e;exact h.AO (NZ _) (h.aD.fresh (NZ _))
noncomputable def Ii(c:TA):TI:=λa H R=>c a H λb d=>∃j:Int,b=[.int j]/\-(2^62)<=j/\j<2^62/\R (Lv 0 j.toNat) d
theorem vY{a:Ob}{d:TA}{p pos:P8}(n:Gl X "range")(m:X.mg "range"=NN)(ha:PA X [a] d)(l:Og [a] X.env=[(NP,Qa a X.env)]:=by rfl):PI X tg (.Call (.Name "range" p) [a] [] pos) (Ii d):=by
 intro b s f H R I h;refine Call_ (kK I n m boot_range (R8 (bo (ha pos b s f H _ I h) λv w⟨u,x,o,i,c⟩=>?_) l rfl));obtain⟨j,e,c,k,q⟩:=c;subst e;cases i with|cons r g=>
  cases g;obtain⟨t,rfl⟩:=r;exact call_range_1 (xG o (by omega) (by omega) c k (by simpa using q))
noncomputable def Lw(f:TI)(g:TG)(h:TS):TS:=λD a H=>f a H λJ k=>∃W:Nat->Nat->St->Hp->Prop,(∃m,W 0 m a k)/\∀i m a H,W i m a H->(J.stop i H/\D.nx a H)\/(J.go i H/\∃N:St->Hp->Prop,(∀b c,N b c->∃e,e<m/\W (i+1) e b c)/\∀x c,J.K1 i H x c->g x a c λd j=>h {D with nx:=N,ct:=N,bk:=D.nx} d j)
noncomputable def eT(a:List NR)(h:Oy):List (NR×OW):=a.filterMap λb=>(h.get? b).map λo=>(b,o)
theorem eU{a:List NR}{h:Oy}{b:NR}{o:OW}(hb:b∈a)(e:h.get? b=NF o):(b,o)∈eT a h:=List.mem_filterMap.mpr ⟨b,hb,by rw[e];rfl⟩
theorem mL{a:List NR}{h:Oy}{p:NR×OW}(c:p∈eT a h):p.1∈a/\h.get? p.1=NF p.2:=by
 obtain⟨b,hb,e⟩:=List.mem_filterMap.mp c;cases q:h.get? b with
 |none=>rw[q]at e;cases e|some o=>
  rw[q]at e;have d:(b,o)=p:=NU e;subst d;exact⟨hb,q⟩
theorem Inv.pinned{pins:List (NR×OW)}{σ:St}{H:Hp}{s:NL}{a:List NR}(I:Inv X pins σ H s)(h:∀b∈a,fu X pins H b)(g:∀b∈a,∃o,s.heap.get? b=NF o/\∀v,o.data≠.cell v):Inv X (pins++eT a s.heap) σ H s:=I.dO λp f=>(List.mem_append.mp f).elim (λz=>I.pin p (Oe _ z)) λz=>by
  obtain⟨hb,e⟩:=mL z;obtain⟨k,j,i,_⟩:=h p.1 hb;obtain⟨o,c,d⟩:=g p.1 hb;rw[e]at c;cases c;exact⟨e,k,j,i,d⟩
theorem Inv.iD{pins a:List (NR×OW)}{σ:St}{H:Hp}{s:NL}(I:Inv X (pins++a) σ H s):Inv X pins σ H s:=I.dO λp b=>I.pin p (Oe _ (OL _ b))
theorem Es{iter:Ob}{body:List Qq}{Y:TI}{g:TG}{tb:TS}{pos:P8}(G:Ud (N2 X.prog X.w) X.A X.env X.xe)(hc:X.calm=NM)(hi:PI X tg iter Y)(hg:PG X tg g)(hb:ph X body tb)(hs:∀x,QX iter X.env x=pure x:=by intro _;rfl):PS X (.For tg iter body [] pos) (Lw Y g tb):=by
 intro c s V H D I h;refine wpAny_For (bo (hi c s V H _ I h) λv s1 h1=>bo h1 λa0 s2 h2=>?_) hs;obtain⟨it,L,Z,J,H2,e,I2,T,P,f2,W,⟨m0,w0⟩,C⟩:=h2;subst e;have p:∀{y:Hp},(∀b∈L,y b=NN)->∀b∈L,fu X c y b:=λhn b hb=>⟨hn b hb,(f2 b hb).2⟩;refine codeAny_forLoop_any (λn s'=>∃i l y,Inv X c l y s'/\Z i s'.heap/\(∀b∈L,y b=NN)/\W i n l y) ?_ m0 ⟨0,V,H2,I2,P,λb hb=>(f2 b hb).1,w0⟩;rintro n s3⟨i,k,M,I3,E,K,w3⟩;rcases C i n k M w3 with⟨stop,qn⟩|⟨go,N,hN,step⟩
 .refine Rl G (bo (T.done X rfl rfl rfl hc i c s3 k M X.xe I3 (p K) E stop) λr s4 j=>?_);obtain⟨R,I4⟩:=j;subst R;exact TV ⟨k,M,I4,qn⟩
 .refine Rl G (bo (T.item X rfl rfl rfl hc i c s3 k M X.xe I3 (p K) E go) λr s4 j=>?_);obtain⟨u,R,h4⟩:=j;subst R;refine Rl G (bo h4 λ_ s5 j=>?_);obtain⟨x,H5,I5,r5,y5,B,S⟩:=j;have U:=I5.pinned (p S) (T.obj _ _ B);refine Rl G (bo (hg _ s5 k H5 x u _ U r5 (step x H5 y5)) λ_ s6 j=>?_);obtain⟨O,H6,I6,q6⟩:=j;refine Rl G (bo (hb _ s6 O H6 _ I6 q6) λf Q z=>?_);have Xq:∀{a:St}{t:Hp},Inv X (c++eT L s5.heap) a t Q->N a t->∃m,m<n/\∃i l y,Inv X c l y Q/\Z i Q.heap/\(∀b∈L,y b=NN)/\W i m l y:=λ{a t}q F=>by
   obtain⟨m',hm,w7⟩:=hN a t F;refine⟨m',hm,i+1,a,t,q.iD,T.keep _ _ _ B λb hb o e=>(q.pin (b,o) (Oe _ (Oe _ (eU hb e)))).1,λb hb=>?_,w7⟩;obtain⟨o,e,d⟩:=T.obj _ _ B b hb;exact(q.pin (b,o) (Oe _ (Oe _ (eU hb e)))).2.1
  cases f with
  |next=>obtain⟨a,t,q,F⟩:=z;exact Xq q F|cont=>obtain⟨a,t,q,F⟩:=z;exact Xq q F|brk=>obtain⟨a,t,q,z⟩:=z;exact⟨a,t,q.iD,z⟩|ret v=>obtain⟨x7,a,t,q,r7,z⟩:=z;exact⟨x7,a,t,q.iD,r7,z⟩
end
end L2
namespace L2
open PySem PySem.Spec PyProof.Rows
abbrev R2:=V->V->Hp->VK->Prop
noncomputable def mM(X:Cx)(f:NJ->NJ->UG NJ)(r:R2):Prop:=∀(a:List (NR×OW))(s:NL)(b:St)(H:Hp)(x y:V)(v u:NJ)(Q:VK),Inv X a b H s->RelV x v->RelV y u->r x y H Q->wpAny (N2 X.prog X.w) X.A (f v u) (EP X a b Q) X.xe s
noncomputable def Lx(X:Cx)(f:NJ->UG NJ)(r:V->Hp->VK->Prop):Prop:=∀(a:List (NR×OW))(s:NL)(b:St)(H:Hp)(x:V)(v:NJ)(Q:VK),Inv X a b H s->RelV x v->r x H Q->wpAny (N2 X.prog X.w) X.A (f v) (EP X a b Q) X.xe s
noncomputable def fh(X:Cx)(f:NJ)(r:List V->Hp->VK->Prop):Prop:=∀(a:List (NR×OW))(s:NL)(b:St)(H:Hp)(c:List V)(d:List NJ)(Q:VK),Inv X a b H s->aq c d->r c H Q->wpAny (N2 X.prog X.w) X.A (call f d) (EP X a b Q) X.xe s
noncomputable def Ly(X:Cx)(r:V->Hp->(Bool->Hp->Prop)->Prop):Prop:=∀(a:List (NR×OW))(s:NL)(b:St)(H:Hp)(x:V)(v:NJ)(Q:Bool->Hp->Prop),Inv X a b H s->RelV x v->r x H Q->wpAny (N2 X.prog X.w) X.A (truthy v) (TP X a b Q) X.xe s
noncomputable def Ij(r:R2)(c b:TE):TE:=λa H Q=>c a H λx e=>b a e λy d=>r x y d Q
noncomputable def M9(r:V->Hp->VK->Prop)(b:TE):TE:=λa H Q=>b a H λx c=>r x c Q
noncomputable def rI(C:Int->Int->Prop)(g:Int->Int->V):R2:=λx y H Q=>∃i j,x=.int i/\y=.int j/\C i j/\Q (g i j) H
noncomputable def Et(g:Int->Int->V):R2:=λx y H Q=>∃i j,x=.int i/\y=.int j/\Q (g i j) H
noncomputable def rU(g:Int->V):V->Hp->VK->Prop:=λx H Q=>∃i,x=.int i/\Q (g i) H
section
variable{X:Cx}{a b c:Ob}{ta tb tc:TE}{pos:P8}
theorem Eu(ha:PE X a ta)(hb:PE X b tb){pins:List (NR×OW)}{s:NL}{σ:St}{H:Hp}{R:V->V->Hp->Prop}(I:Inv X pins σ H s)(h:ta σ H λx j=>tb σ j λy e=>R x y e){Q:NJ->NL->Prop}{f:NJ->NJ->UG NJ}(p:∀v u s2 x y e,Inv X pins σ e s2->RelV x v->RelV y u->R x y e->wpAny (N2 X.prog X.w) X.A (f v u) Q X.xe s2):wpAny (N2 X.prog X.w) X.A (Qa a X.env) (λv i=>wpAny (N2 X.prog X.w) X.A (Qa b X.env) (λu g=>wpAny (N2 X.prog X.w) X.A (f v u) Q X.xe g) X.xe i) X.xe s:=by
 refine bo (ha pins s σ H _ I h) λv k d=>?_;obtain⟨x,j,r,m,o⟩:=d;refine bo (hb pins k σ j _ r o) λu s2 d=>?_;obtain⟨y,e,q,l,n⟩:=d;exact p v u s2 x y e q m l n
theorem bj{op:VV}{r:R2}(g:mM X (RC op) r)(ha:PE X a ta)(hb:PE X b tb):PE X (.BinOp a op b pos) (Ij r ta tb):=by
 intro d s e H Q I h;exact wpAny_BinOp (Eu ha hb I h λv u f x y j i rx ry q=>g d f e j x y v u Q i rx ry q)
theorem Ik{op:UnaryOp}{r:V->Hp->VK->Prop}(j:Lx X (unaryOp op) r)(ha:PE X a ta):PE X (.UnaryOp op a pos) (M9 r ta):=by
 intro d s e H Q I h;exact UnaryOp_ (bo (ha d s e H _ I h) λv f⟨x,l,k,g,i⟩=>j d f e l x v Q k g i)
theorem K2{f:NJ->NJ->UG NJ}{C:Int->Int->Prop}{g:Int->Int->Int}(VT:∀(i j:Int)(t u:Vz)(s:NL)(Q:NJ->NL->Prop)(E:NJ->NL->Prop),C i j->Q (.int (g i j) s.toks) {s with toks:=s.toks+1}->wpAny (N2 X.prog X.w) X.A (f (.int i t) (.int j u)) Q E s):mM X f (rI C λi j=>.int (g i j)):=by
 intro d s l H x y v u Q I rx ry h;obtain⟨i,j,rfl,rfl,k,q⟩:=h;obtain⟨t,rfl⟩:=rx;obtain⟨e,rfl⟩:=ry;exact VT i j t e s _ _ k ⟨.int (g i j),H,I.tok _,⟨_,rfl⟩,q⟩
theorem Lz{f:NJ->NJ->UG NJ}{g:Int->Int->Int}(VT:∀(i j:Int)(t u:Vz)(s:NL)(Q:NJ->NL->Prop)(E:NJ->NL->Prop),Q (.int (g i j) s.toks) {s with toks:=s.toks+1}->wpAny (N2 X.prog X.w) X.A (f (.int i t) (.int j u)) Q E s):mM X f (Et λi j=>.int (g i j)):=by
 intro d s k H x y v u Q I rx ry h;obtain⟨i,j,rfl,rfl,q⟩:=h;obtain⟨t,rfl⟩:=rx;obtain⟨e,rfl⟩:=ry;exact VT i j t e s _ _ ⟨.int (g i j),H,I.tok _,⟨_,rfl⟩,q⟩
theorem Ew{f:NJ->NJ->UG NJ}{g:Int->Int->Bool}(VT:∀(i j:Int)(t u:Vz)(s:NL)(Q:NJ->NL->Prop)(E:NJ->NL->Prop),Q (.bool (g i j)) s->wpAny (N2 X.prog X.w) X.A (f (.int i t) (.int j u)) Q E s):mM X f (Et λi j=>.bl (g i j)):=by
 intro d s k H x y v u Q I rx ry h;obtain⟨i,j,rfl,rfl,q⟩:=h;obtain⟨t,rfl⟩:=rx;obtain⟨e,rfl⟩:=ry;exact VT i j t e s _ _ ⟨.bl (g i j),H,I,rfl,q⟩
noncomputable def LA(i j:Int):Prop:=0<j/\j<1073741824
noncomputable def LB(i j:Int):Prop:=0<=j/\j<=1000000/\i.natAbs<2^64
noncomputable def AQ(i j:Int):Prop:=(-(2^64)<i/\i<2^64)\/(-(2^64)<j/\j<2^64)
theorem AQ.ok{i j:Int}(h:AQ i j):IntMulOk i j:=by
 rcases h with⟨e,d⟩|⟨e,d⟩;.exact .of_left (intBits_le_64 e d)
 .exact .of_right (intBits_le_64 e d)
theorem kM:mM X (RC .Add) (Et λi j=>.int (i+j)):=Lz λ_ _ _ _ _ _ _ q=>add_int q
theorem gO:mM X (RC .Mult) (rI AQ λi j=>.int (i*j)):=K2 λ_ _ _ _ _ _ _ d q=>mul_int q d.ok
theorem nR:mM X (RC .FloorDiv) (rI LA λi j=>.int (i/j)):=K2 λi j _ _ _ _ _ d q=>by
 have f:(0:Int)<j:=d.1;have e:j<1073741824:=d.2;exact floordiv_int (by omega+splitNatSub) (by rw[Int.fdiv_eq_ediv_of_nonneg i (by omega+splitNatSub)];exact q) (.inl (PyProof.noPylong_small (by omega+splitNatSub)))
theorem d8:mM X (RC .Mod) (rI (λ_ j=>0<j) λi j=>.int (i%j)):=K2 λi j _ _ _ _ _ d q=>by
 have e:(0:Int)<j:=d;exact mod_int' (by omega) (by rw[Int.fmod_eq_emod_of_nonneg i (by omega)];exact q)
theorem Ey:mM X (RC .Pow) (rI LB λi j=>.int (i^j.toNat)):=K2 λ_ _ _ _ _ _ _ d q=>pow_int_small d.1 d.2.1 d.2.2 q
theorem LC{f:NJ->UG NJ}{g:Int->Int}(VT:∀(i:Int)(t:Vz)(s:NL)(Q:NJ->NL->Prop)(E:NJ->NL->Prop),Q (.int (g i) s.toks) {s with toks:=s.toks+1}->wpAny (N2 X.prog X.w) X.A (f (.int i t)) Q E s):Lx X f (rU λi=>.int (g i)):=by
 intro d s e H x v Q I rx h;obtain⟨i,rfl,q⟩:=h;obtain⟨t,rfl⟩:=rx;exact VT i t s _ _ ⟨.int (g i),H,I.tok _,⟨_,rfl⟩,q⟩
theorem Ez:Lx X (unaryOp .USub) (rU λi=>.int (-i)):=LC λ_ _ _ _ _ q=>neg_int q
end
section
variable{X:Cx}{a b c:Ob}{ta tb tc:TE}{pos:P8}
theorem xH{pins:List (NR×OW)}{σ:St}{H:Hp}{s:NL}{Q:VK}{k d:Bool}(I:Inv X pins σ H s)(q:Q (.bl k) H)(e:k=d):EP X pins σ Q (.bool d) s:=by
 subst e;exact⟨.bl k,H,I,rfl,q⟩
theorem Dd:mM X (O6 .Lt) (Et λi j=>.bl (decide (i<j))):=Ew λ_ _ _ _ _ _ _ q=>lt_int q
theorem De:mM X (O6 .Gt) (Et λi j=>.bl (decide (j<i))):=Ew λ_ _ _ _ _ _ _ q=>gt_int q
theorem Il:mM X (O6 .GtE) (Et λi j=>.bl (decide (j<=i))):=Ew λ_ _ _ _ _ _ _ q=>ge_int q
theorem EA:mM X (O6 .Is) (λx y H Q=>y=.aU/\Q (.bl (decide (x=.aU))) H):=by
 intro d s e H x y v u Q I rx ry h;obtain⟨rfl,q⟩:=h;cases ry;refine is_none_gen (xH I q ?_);cases x<;>first
  |(cases rx;rfl)|(obtain⟨t,rfl⟩:=rx;rfl)
theorem AR:mM X (O6 .IsNot) (λx y H Q=>y=.aU/\Q (.bl (!decide (x=.aU))) H):=by
 intro d s e H x y v u Q I rx ry h;obtain⟨rfl,q⟩:=h;cases ry;refine isnot_none_gen (xH I q ?_);cases x<;>first
  |(cases rx;rfl)|(obtain⟨t,rfl⟩:=rx;rfl)
theorem jk(b:Ob){op:RR}(h:op≠.In:=by decide)(d:op≠.NotIn:=by decide):RZ op b=NP:=by
 have f:(op==CmpOp.In)=NP:=by cases op<;>first|rfl|exact absurd rfl h
 have e:(op==CmpOp.NotIn)=NP:=by cases op<;>first|rfl|exact absurd rfl d
 cases b<;>simp[RZ,f,e]
theorem AS{op:RR}{r:R2}(g:mM X (O6 op) r)(ha:PE X a ta)(hb:PE X b tb)(i:RZ op b=NP):PE X (.Compare a [op] [b] pos) (Ij r ta tb):=by
 intro d s e H Q I h;exact wpAny_Compare1 (Eu ha hb I h λv u f x y k j rx ry q=>g d f e k x y v u Q j rx ry q) i
noncomputable def Dg(t:TE):TT:=λd H Q=>t d H λx e=>∃k,x=.bl k/\Q k e
theorem iE{op:RR}{r:R2}(q:mM X (O6 op) r)(ha:PE X a ta)(hb:PE X b tb)(t:RZ op b=NP):PT X (.Compare a [op] [b] pos) (Dg (Ij r ta tb)):=by
 intro d s f H Q I h;refine wpAny_isTrue_Compare1 (bo (ha d s f H _ I h) λv i⟨x,E,B,m,p⟩=>bo (hb d i f E _ B p) λu g⟨y,D,A,l,o⟩=>bo (q d g f D x y v u _ A m l o) λc F⟨z,C,w,j,k,e,n⟩=>?_) t;subst e;cases j;exact QV ⟨C,w,n⟩
noncomputable def Im(K:NS)(x:V)(H:Hp)(k:Bool):Prop:=match x with
 |.aU=>k=NP|.bl b=>k=b|.int i=>k=(i !=0)|.str y=>y.length<=NW/\k=((y.length:Int)!=0)|.Ea y=>y.size<=NW/\k=((y.size:Int)!=0)|.ref p=>(∃d,dy K H p d/\k=!d.isEmpty)\/(∃d,kf K H p d/\k=!d.isEmpty)\/∃e,H p=NF (.dK e)/\k=!e.isEmpty|_=>False
theorem sh{e:Type}{d:List (e×V)}{vs:List (e×NJ)}(r:KV d vs):(!vs.isEmpty)=!d.isEmpty:=by cases r<;>rfl
theorem kN{xs:List V}{its:List NJ}(r:aq xs its):(!its.toArray.isEmpty)=!xs.isEmpty:=by cases r<;>simp
theorem gP:(NW:Nat)<2^63:=by rw[Qb];decide
theorem EB:Ly X (λx H Q=>∃k,Im X.K x H k/\Q k H):=by
 intro u s B H x v Q I rx h;obtain⟨k,e,q⟩:=h;have D:=gP;have C:NW=16777216:=Qb;cases x with
 |aU=>
  cases rx;have d:k=NP:=e;subst d;exact truthy_none ⟨H,I,q⟩|bl b=>
  cases rx;have d:k=b:=e;subst d;exact QV ⟨H,I,q⟩|int i=>
  obtain⟨t,rfl⟩:=rx;have d:k=(i !=0):=e;subst d;exact PySem.P.truthy_int ⟨H,I,q⟩|str y=>
  obtain⟨t,rfl⟩:=rx;obtain⟨hy,d⟩:y.length<=NW/\k=((y.length:Int)!=0):=e;subst d;exact PySem.P.truthy_str (by omega) ⟨H,I.tok _,q⟩|Ea y=>
  obtain⟨t,rfl⟩:=rx;obtain⟨hy,d⟩:y.size<=NW/\k=((y.size:Int)!=0):=e;subst d;exact PySem.W.truthy_bytes (by omega) ⟨H,I.tok _,q⟩|ref p=>
  cases rx;have d:(∃j,dy X.K H p j/\k=!j.isEmpty)\/(∃j,kf X.K H p j/\k=!j.isEmpty)\/∃f,H p=NF (.dK f)/\k=!f.isEmpty:=e;rcases d with⟨j,hx,d⟩|⟨j,hx,d⟩|⟨f,hx,d⟩
  .subst d;obtain⟨o,r,n,z⟩:=I.list hx;have g:=r.length;exact wpAny_truthy_list n.isList (by simp only[N5];omega) ⟨H,I.tok _,by rw[kN r];exact q⟩
  .subst d;obtain⟨o,r,n,z⟩:=I.tuple hx;have g:=r.length;exact truthy_tuple n (by simp only[N5];omega) ⟨H,I.tok _,by rw[kN r];exact q⟩
  .subst d;obtain⟨z,A,l,r,m⟩:f.length<=NW/\(p==Qi)=NP/\∃l,KV f l/\s.heap.DictOf (ar X.prog X.w) p l:=I.aD p _ hx;have g:f.length=l.length:=Paired.length r;exact wpAny_truthy_dict A m (by omega) ⟨H,I.tok _,by rw[sh r];exact q⟩|_=>exact(show False from e).elim
theorem xI(ha:PE X a ta)(i:∀whole,Vg a X.env whole=(do let v<-whole;SR a.pos;TB [v] (truthy v))):PT X a (λσ H Q=>ta σ H λx H'=>∃k,Im X.K x H' k/\Q k H'):=by
 intro d s σ H Q I h;exact isTrue_plain (bo (ha d s σ H _ I h) λv e⟨x,l,j,f,g⟩=>EB d e σ l x v Q j f g) (i _)
theorem vals1{x:V}{us:List NJ}(r:aq [x] us):∃u,us=[u]/\RelV x u:=by cases r with|cons e d=>cases d;exact⟨_,rfl,e⟩
theorem vals2{x y:V}{us:List NJ}(r:aq [x,y] us):∃u w',us=[u,w']/\RelV x u/\RelV y w':=by cases r with|cons g f=>cases f with|cons e d=>cases d;exact⟨_,_,rfl,g,e⟩
theorem vZ:fh X (.type "int") (λxs H Q=>(∃i,xs=[.int i]/\Q (.int i) H)\/∃k,xs=[.bl k]/\Q (.int (if k then 1 else 0)) H):=by
 intro d s f H xs g Q I r h;rcases h with⟨i,rfl,q⟩|⟨k,rfl,q⟩
 .obtain⟨u,rfl,t,rfl⟩:=vals1 r;exact call_int_int ⟨.int i,H,I,⟨_,rfl⟩,q⟩
 .obtain⟨u,rfl,e⟩:=vals1 r;cases e;exact call_int_bool ⟨.int (if k then 1 else 0),H,I.tok _,⟨_,rfl⟩,q⟩
theorem nS:fh X (.type "str") (λxs H Q=>∃i,xs=[.int i]/\i.natAbs.log2<1920/\Q (.str (toString i)) H):=by
 intro d s f H xs g Q I r h;obtain⟨i,rfl,e,q⟩:=h;obtain⟨u,rfl,t,rfl⟩:=vals1 r;exact PySem.P.str_of_int e ⟨.str _,H,I.tok _,⟨_,rfl⟩,q⟩
noncomputable def LD(K:NS)(x:V)(H:Hp)(n:Nat):Prop:=match x with
 |.str y=>y.length<=NW/\n=y.length|.Ea y=>y.size<=NW/\n=y.size|.ref p=>(∃d,dy K H p d/\n=d.length)\/∃d,kf K H p d/\n=d.length|_=>False
theorem xJ:fh X (.builtin "len") (λxs H Q=>∃x n,xs=[x]/\LD X.K x H n/\Q (.int n) H):=by
 intro k s m H xs o Q I r h;obtain⟨x,n,rfl,e,q⟩:=h;obtain⟨u,rfl,rx⟩:=vals1 r;have w:=gP;have v:NW=16777216:=Qb;cases x with
 |str y=>
  obtain⟨t,rfl⟩:=rx;obtain⟨hy,f⟩:y.length<=NW/\n=y.length:=e;subst f;exact len_str (by omega) ⟨.int _,H,I.tok _,⟨_,rfl⟩,q⟩|Ea y=>
  obtain⟨t,rfl⟩:=rx;obtain⟨hy,f⟩:y.size<=NW/\n=y.size:=e;subst f;exact PySem.W.len_bytes (by omega) ⟨.int _,H,I.tok _,⟨_,rfl⟩,q⟩|ref p=>
  cases rx;have f:(∃xs,dy X.K H p xs/\n=xs.length)\/∃xs,kf X.K H p xs/\n=xs.length:=e;rcases f with⟨xs,hx,f⟩|⟨xs,hx,f⟩
  .subst f;obtain⟨j,g,i,l⟩:=I.list hx;have d:=g.length;exact Wg i.isList (by simp only[N5];omega) ⟨.int xs.length,H,I.tok _,⟨_,by simp only[N5];rw[d]⟩,q⟩
  .subst f;obtain⟨j,g,i,l⟩:=I.tuple hx;have d:=g.length;exact len_tuple i (by simp only[N5];omega) ⟨.int xs.length,H,I.tok _,⟨_,by simp only[N5];rw[d]⟩,q⟩|_=>exact(show False from e).elim
end
end L2
namespace L2
open PySem PySem.Spec PyProof.Rows
structure EC(h:Oy)(x dx C:NR)(mA:Oo->Option NJ):Prop where
 obj:h.get? x=NF (VA C dx)ns:h.Ns1 dx mA
 ne:dx≠x
theorem v5{h:Oy}{g:NR}{d:Oo->Option NJ}(n:h.Ns1 g d):∃c,h.get? g=NF c/\∀name,VW name c=NF (d name):=by
 obtain⟨o,f,m,i,hd,k,_,j⟩:=n;refine⟨o,i,λname=>?_⟩;have e:=j name;unfold nsFind findBy at e;rw[<-Array.find?_toList]at e;unfold VW;rw[hd];dsimp only;split
 .rename_i y q;rw[q]at e;exact congrArg NF e
 .rename_i q;rw[q]at e;have a:f.toList.any (·.refKey)=NP:=by
   rw[List.any_eq_false];intro y hy;obtain⟨z,t,b⟩:=k y (Array.mem_toList_iff.mp hy);simp[DictEntry.refKey,b]
  have l:¬f.toList.any (·.refKey)=NM:=by rw[a];exact O9
  rw[if_neg l];exact congrArg NF e
theorem EC.look{h:Oy}{x c C:NR}{b:Oo->Option NJ}(I:EC h x c C b):∃a,PySem.W.InstAt h x (VA C c) C (NF a)/\∀name,VW name a=NF (b name):=let⟨a,d,e⟩:=v5 I.ns;⟨a,⟨I.obj,rfl,rfl,d⟩,e⟩
theorem gH.some_of{v:V}{o:Option NJ}(r:gH (NF v) o):∃u,o=NF u/\RelV v u:=by cases o with
 |none=>exact(show False from r).elim|some u=>exact⟨u,rfl,r⟩
theorem gH.none_of{o:Option NJ}(r:gH NN o):o=NN:=by cases o with
 |none=>rfl|some u=>exact(show False from r).elim
section
variable{P:N7}{w:Oq}{H H':Hp}{h h':Oy}{a C dx:NR}{fs fs':List (Oo×V)}
theorem AU(aD:iq P w H h)(e:H a=NF (.ins C dx fs)):∃b,EC h a dx C b/\(∀f,gH (fs.lookup f) (b f))/\PySem.Within b (fs.map (·.1))/\fs.length<=1000/\H dx=NF (.own a):=by
 obtain⟨d,z,ne,ob,b,n,r,q⟩:=(show be P w H h a (.ins C dx fs)from aD a _ e);exact⟨b,⟨ob,n,ne⟩,r,q,z,d⟩
end
structure LF(K:NS)(C:NR):Prop where
 pg:PySem.W.plainGet K C Str.empty=NM
 hd:PySem.W.hasDictIn K C=NM
 po:PySem.W.plainOver K C=NM
 sa:SS K (.ref C) "__setattr__"=NF (NF (.builtin "object.__setattr__"))
theorem LF.get{K:NS}{C:NR}(c:LF K C)(f:Oo):PySem.W.plainGet K C f=NM:=c.pg
section
variable{X:Cx}{pins:List (NR×OW)}{σ:St}{H:Hp}{s:NL}{A:Ov}{E:NJ->NL->Prop}{Q:NJ->NL->Prop}{c:NJ}{b:Bool}
inductive jZ(K:NS)(H:Hp):V->NJ->Prop where|aU:jZ K H .aU (.type "NoneType")|bl(x:Bool):jZ K H (.bl x) (.type "bool")|int(i:Int):jZ K H (.int i) (.type "int")|str(x:Oo):jZ K H (.str x) (.type "str")|HC(x:UInt64):jZ K H (.HC x) (.type "float")|lst{a:NR}{xs:List V}(e:H a=NF (.lst xs)):jZ K H (.ref a) (.type "list")|bP{a:NR}{o:OW}{xs:List V}(e:H a=NF (.bP o (.lst xs))):jZ K H (.ref a) (.type "list")|tup{a:NR}{xs:List V}(e:H a=NF (.tup xs)):jZ K H (.ref a) (.type "tuple")|dK{a:NR}{kvs:List (Key×V)}(e:H a=NF (.dK kvs)):jZ K H (.ref a) (.type "dict")|dT{a:NR}{kvs:List (List Key×V)}(e:H a=NF (.dT kvs)):jZ K H (.ref a) (.type "dict")|ins{a C dx:NR}{fs:List (Oo×V)}(e:H a=NF (.ins C dx fs))(cl:LF K C)(ha:SS K (.ref C) "__class__"=NF (NF (.builtin "object.__class__")))(hn:PySem.W.specialIn K (.builtin "object.__class__") "__get__"=NF (NF (.builtin "getset_descriptor.__get__")))(htk:PySem.W.takesIn K (.builtin "object.__class__")=NF NM)(hm:PySem.W.mroIn K C (.type "object")=NF NM):jZ K H (.ref a) (.ref C)
theorem fV{x:V}{u t:NJ}(I:Inv X pins σ H s)(rx:RelV x u)(ty:jZ X.K H x t)(e:Py X.K t c=NF b)(h:∀m,Q (.bool b) {s with toks:=m}):wpAny (N2 X.prog X.w) A (call (.builtin "isinstance") [u,c]) Q E s:=by cases ty with
 |aU=>cases(show u=Oz from rx);exact Pg PySem.W.kitx_none I.jg Uk e (λz=>nomatch z) h|bl y=>cases(show u=Uh y from rx);exact Pg PySem.W.kitx_bool I.jg Uk e (λz=>nomatch z) h|int i=>obtain⟨t,q⟩:=(show∃t,u=Q_ i t from rx);cases q;exact Pg PySem.W.kitx_int I.jg Uk e (λz=>nomatch z) h|str y=>obtain⟨t,q⟩:=(show∃t,u=W9 y t from rx);cases q;exact Pg PySem.W.kitx_str I.jg Uk e (λz=>nomatch z) h|HC y=>obtain⟨t,q⟩:=(show∃t,u=Value.float y t from rx);cases q;exact Pg PySem.W.kitx_float I.jg Uk e (λz=>nomatch z) h|@lst a j d=>
  cases(show u=Of a from rx);obtain⟨_,_,n,_,f⟩:=(show be X.prog X.w H s.heap a (.lst j)from I.aD a _ d);exact Pg UH I.jg ⟨_,f,rfl⟩ e (λz=>nomatch z) h|@bP a ob j d=>
  cases(show u=Of a from rx);obtain⟨_,_,_,n,_,f⟩:=(show be X.prog X.w H s.heap a (.bP ob (.lst j))from I.aD a _ d);exact Pg UH I.jg ⟨_,f,rfl⟩ e (λz=>nomatch z) h|@tup a j d=>
  cases(show u=Of a from rx);obtain⟨_,_,_,p⟩:=(show be X.prog X.w H s.heap a (.tup j)from I.aD a _ d);obtain⟨o,f,k,_⟩:=p;exact Pg Wx I.jg ⟨o,f,k⟩ e (λz=>nomatch z) h|@dK a g d=>
  cases(show u=Of a from rx);obtain⟨_,_,F,_,p⟩:=(show be X.prog X.w H s.heap a (.dK g)from I.aD a _ d);obtain⟨o,B,D,f,k,_⟩:=p;exact Pg WN I.jg ⟨o,f,k.1⟩ e (λz=>nomatch z) h|@dT a g d=>
  cases(show u=Of a from rx);obtain⟨_,_,j,_,o,B,D,f,k,_⟩:=(show be X.prog X.w H s.heap a (.dT g)from I.aD a _ d);exact Pg WN I.jg ⟨o,f,k.1⟩ e (λz=>nomatch z) h|@ins a C M fs d cl ha r l v=>
  cases(show u=Of a from rx);obtain⟨L,O,_⟩:=AU I.aD d;obtain⟨G,J,_⟩:=O.look;exact Pg (PySem.W.kitx_own (cl.get _) cl.hd ha r l v) I.jg J e (λz=>nomatch z) h
end
end L2
namespace L2
open PySem PySem.Spec PyProof.Rows
structure d9(k:Nat)(A:Ov):Prop where
 hd:A.handled=NN
 dp:A.depth+3*k+5<recursionLimit
 un:A.units+16*k+200<Pj
 gd:A.guards=NF []
theorem d9.mono{j k:Nat}{A:Ov}(r:d9 k A)(h:j<=k):d9 j A:=⟨r.hd,by have:=r.dp;omega,by have:=r.un;omega,r.gd⟩
theorem d9.deeper{k:Nat}{A:Ov}(r:d9 (k+1) A)(env:Uc):d9 k (A.deeper env):=⟨r.hd,by have:=r.dp;show A.depth+1+3*k+5<_;omega,by have:=r.un;show A.units+3+16*k+200<_;omega,r.gd⟩
theorem d9.depth{k:Nat}{A:Ov}(r:d9 k A):A.depth<recursionLimit:=by have:=r.dp;omega
theorem d9.units{k:Nat}{A:Ov}(r:d9 k A):A.units+64<Pj:=by have:=r.un;omega
noncomputable def LG:TA:=λ_ H Q=>Q [] H
noncomputable def Io(d:TE)(c:TA):TA:=λa H Q=>d a H λx f=>c a f λb e=>Q (x::b) e
section
variable{X:Cx}{e:Ob}{es:List Ob}{te:TE}{t:TA}{pos:P8}
theorem dz:PA X [] LG:=λ_ _ _ _ H Q I h=>Calls.spliced_nil ⟨[],H,I,.nil,h⟩
theorem aZ(ha:PE X e te)(m:PA X es t)(l:Og (e::es) X.env=(NP,Qa e X.env)::Og es X.env:=by rfl):PA X (e::es) (Io te t):=by
 intro pos a s c H Q I h;rw[l];show wpAny _ _ (spliced ((NP,Qa e X.env)::Qu pos (Og es X.env))) _ _ s;refine Calls.spliced_cons (bo (ha a s c H _ I h) λu f b=>?_);obtain⟨x,q,o,i,k⟩:=b;exact bo (m pos a f c q _ o k) λr v⟨d,p,n,g,j⟩=>⟨x::d,p,n,.cons i g,j⟩
noncomputable def LH(t:TA):TE:=λc H Q=>t c H λa b=>a.length<=NW/\∀p,b p=NN->Q (.ref p) (upd b p (.tup a))
noncomputable def LI(t:TA):TE:=λc H Q=>t c H λa b=>a.length<=NW/\∀p,b p=NN->Q (.ref p) (upd b p (.lst a))
theorem ED{x1}(h:PA X es t):PE X (.Tuple es x1 pos) (LH t):=by
 intro a s g H Q I k;refine wpAny_Tuple_spliced (bo (h pos a s g H _ I k) λj c⟨i,f,d,r,z,q⟩=>⟨by rw[<-r.length];exact z,?_⟩);have l:f c.heap.objs.size=NN:=d.aD.fresh (NZ _);refine⟨.ref c.heap.objs.size,upd f c.heap.objs.size (.tup i),d.laid (t':=c.toks) (λb u e=>NQ _ e) (NZ _) ?_,rfl,q _ l⟩;exact⟨z,j,r,⟨_,N4 _ rfl,rfl,_,rfl⟩⟩
theorem si(h:PA X es t):PE X (.List es pos) (LI t):=by
 intro a s g H Q I k;refine wpAny_List_spliced (bo (h pos a s g H _ I k) λj c⟨i,f,d,r,z,q⟩=>⟨by rw[<-r.length];exact z,?_⟩);have l:f c.heap.objs.size=NN:=d.aD.fresh (NZ _);refine⟨.ref c.heap.objs.size,upd f c.heap.objs.size (.lst i),d.laid (t':=c.toks) (λb u e=>NQ _ e) (NZ _) ?_,rfl,q _ l⟩;exact⟨z,j,0,r,N4 _ rfl⟩
end
abbrev Sp:=List V->Hp->VK->XK->Prop
abbrev t_:=List Uc->Hp->NL->XK->NJ->NL->Prop
structure AV(P:N7)(w:Oq)(K:NS)(mg:Oo->Option NJ)(base:Oy)(A:Ov)(outer:List Uc)(s:NL)(H:Hp):Prop where
 frames:A.frames=NF outer
 mod:Mod K mg base
 bs:∀b o,base.get? b=NF o->s.heap.get? b=NF o/\H b=NN
 AB:base.objs.size<=s.heap.objs.size
 jj:s.heap.FunFrames base outer
 C_:∀b∈gf outer,H b=NN
 aD:iq P w H s.heap
 bare:Tz s.gens
noncomputable def CE(outer:List Uc)(P:N7)(w:Oq)(H:Hp)(s:NL)(Q:VK)(u:NJ)(s':NL):Prop:=∃v a,s'.os=s.os/\Tz s'.gens/\Un (gf outer) [] H a s.heap s'.heap/\iq P w a s'.heap/\RelV v u/\Q v a
noncomputable def CR(CX:t_)(outer:List Uc)(P:N7)(w:Oq)(H:Hp)(s:NL)(Q:VK)(E:XK)(r:Xr)(s':NL):Prop:=match r with
 |.ok (.ret u)=>CE outer P w H s Q u s'|.ok _=>False|.error e=>CX outer H s E e s'
structure dA(P:N7)(w:Oq)(K:NS)(mg:Oo->Option NJ)(base:Oy)(CX:t_)(k:Nat)(f:NR)(fd:PH)(ps:List Oo)(sp:Sp):Prop where
 len:∀vs H Q E,sp vs H Q E->vs.length=ps.length
 run:∀(A:Ov)(outer:List Uc)(s:NL)(H:Hp)(args:Args)(us:List NJ)(vs:List V)(Q:VK)(E:XK),d9 k A->AV P w K mg base A outer s H->XJ s fd args (ps.zip us)->aq vs us->sp vs H Q E->codeAny (N2 P w) A (.call (.ref f) args) (CR CX outer P w H s Q E) s
theorem dA.mono{P:N7}{w:Oq}{K:NS}{mg:Oo->Option NJ}{base:Oy}{CX:t_}{j k:Nat}{f:NR}{fd:PH}{ps:List Oo}{sp:Sp}(F:dA P w K mg base CX j f fd ps sp)(h:j<=k):dA P w K mg base CX k f fd ps sp:=⟨F.len,λA outer s H a c b Q E d=>F.run A outer s H a c b Q E (d.mono h)⟩
theorem dA.imp{P:N7}{w:Oq}{K:NS}{mg:Oo->Option NJ}{base:Oy}{CX:t_}{k:Nat}{f:NR}{fd:PH}{ps:List Oo}{sp a:Sp}(F:dA P w K mg base CX k f fd ps sp)(h:∀vs H Q E,a vs H Q E->sp vs H Q E):dA P w K mg base CX k f fd ps a:=⟨λvs H Q E q=>F.len vs H Q E (h _ _ _ _ q),λA outer s H b c vs Q E g i hb d e=>F.run A outer s H b c vs Q E g i hb d (h _ _ _ _ e)⟩
section
variable{X:Cx}{pins:List (NR×OW)}{σ:St}{H:Hp}{s s':NL}
theorem Inv.sj(I:Inv X pins σ H s):AV X.prog X.w X.K X.mg X.base X.A X.stack s H:=⟨I.ok.frames,I.ok.mod,I.bs,OC I.ok.AB I.sz,I.stack,I.j_,I.aD,I.bare⟩
theorem Inv.after{Q:VK}{u:NJ}(I:Inv X pins σ H s)(h:CE X.stack X.prog X.w H s Q u s'):EP X pins σ Q u s':=by
 obtain⟨v,c,os,bare,un,aD,r,q⟩:=h;obtain⟨hh,g,d,t,a⟩:=s';obtain rfl:a=s.os:=os;exact⟨v,c,I.call (h':=hh) (g':=g) (d':=d) (t':=t) (ch:=[]) un aD bare (λb z=>absurd z (by simp)),r,q⟩
end
noncomputable def Ip(sp:Sp)(a:List V)(E:XK)(t:TA):TE:=λb H Q=>t b H λc d=>sp (c++a) d Q E
noncomputable def Binds(K:NS)(fd:PH)(ps:List Oo)(ds:List NJ):Prop:=∀(s:NL)(a:List NJ),K.In s.heap->(a++ds).length=ps.length->XJ s fd ⟨a,[]⟩ (ps.zip (a++ds))
theorem Binds.all{K:NS}{fd:PH}{ps:List Oo}(h:∀us:List NJ,us.length=ps.length->WO fd ⟨us,[]⟩=pure (ps.zip us)):Binds K fd ps []:=λs us _ a=>by
 rw[Pn]at a⊢;exact .of_eq (h us a)
noncomputable def sk(CX:t_)(X:Cx)(E:XK):Prop:=∀(a:List (NR×OW))(c:St)(H:Hp)(s:NL)(e:NJ)(b:NL),Inv X a c H s->CX X.stack H s E e b->X.xe e b
section
variable{X:Cx}{CX:t_}{k:Nat}{f C:NR}{fd:PH}{ps:List Oo}{sp:Sp}{dvs:List V}{ds:List NJ}{E:XK}{x m:Oo}{p pos apos:P8}{e o:Ob}{es:List Ob}{ta:TE}{t:TA}
theorem EE{pins:List (NR×OW)}{σ:St}{H:Hp}{s:NL}{Q:VK}{us:List NJ}{vs:List V}(F:dA X.prog X.w X.K X.mg X.base CX k f fd ps sp)(d:d9 k X.A)(hb:Binds X.K fd ps ds)(hd:aq dvs ds)(hx:sk CX X E)(I:Inv X pins σ H s)(r:aq vs us)(h:sp (vs++dvs) H Q E):wpAny (N2 X.prog X.w) X.A (call (.ref f) us) (EP X pins σ Q) X.xe s:=by
 have b:aq (vs++dvs) (us++ds):=r.append hd;have g:(us++ds).length=ps.length:=by rw[<-b.length];exact F.len _ _ _ _ h
 refine Vj (Ro (F.run X.A X.stack s H ⟨us,[]⟩ (us++ds) (vs++dvs) Q E d I.sj (hb s us I.jg g) b h) λr c a=>?_);cases r with
 |error e=>exact hx pins σ H s e c I a|ok i=>cases i with
  |ret u=>exact I.after a|next=>exact PZ a|brk=>exact PZ a|cont=>exact PZ a
theorem AW(F:dA X.prog X.w X.K X.mg X.base CX k f fd ps sp)(i:d9 k X.A)(n:Gl X x)(j:X.mg x=NF (.ref f))(l:R9 X.K (.ref f)=NM)(hb:Binds X.K fd ps ds)(hd:aq dvs ds)(hx:sk CX X E)(ha:PA X (e::es) t)(c:(x==("__debug__":Oo))=NP:=by decide)(u:Og (e::es) X.env=(NP,Qa e X.env)::Og es X.env:=by rfl)(b:(Qu pos (Og es X.env)).any (·.1)=NP:=by rfl):PE X (.Call (.Name x p) (e::es) [] pos) (Ip sp dvs E t):=by
 intro a s g H Q I h;refine SG (iB I n j ?_ c);refine Wz (h₀:=X.base) I.ok.mod.Ec l (bo (ha pos a s g H _ I h) λy z⟨v,B,d,r,q⟩=>⟨d.jg,?_⟩) u b;exact EE F i hb hd hx d r q
end
structure cR(N P:List Oo)(sc:Qr):Prop where
 kind:sc.kind=.function
 co:sc.isCoroutine=NP
 gen:sc.isGenerator=NP
 nd:N.Nodup
 pre:N.take P.length=P
 par:∀x∈P,sc.names.lookup x=NF .local\/sc.names.lookup x=NF .cell
 EF:∀y∈sc.names,y.2≠.free
theorem mO{kindOf:Oo->Option Rb}{x:Oo}:∀{a:List (Oo×NJ)}{m:Oo->Option NJ},(∀v,(x,v)∉a)->Xs kindOf a m x=m x
 |[],_,_=>rfl|(n,v)::r,m,h=>by
  unfold Xs;rw[mO λw hw=>h w (NX _ hw)];split
  .have:x≠n:=by rintro rfl;exact h v NV
   simp[this]
  .rfl
theorem mP{kindOf:Oo->Option Rb}{x:Oo}:∀{a:List (Oo×NJ)}{m:Oo->Option NJ},(∀v,(x,v)∉a)->Xt kindOf a m x=m x
 |[],_,_=>rfl|(n,v)::r,m,h=>by
  unfold Xt;rw[mP λw hw=>h w (NX _ hw)];split;.rfl
  .have:x≠n:=by rintro rfl;exact h v NV
   simp[this]
theorem mQ{kindOf:Oo->Option Rb}{x:Oo}{v:NJ}:∀{P:List Oo}{vs:List NJ}{i:Nat}{m:Oo->Option NJ},P.Nodup->P[i]?=NF x->vs[i]?=NF v->kindOf x=NF .local->Xs kindOf (P.zip vs) m x=NF v
 |[],_,_,_,_,h,_,_=>by simp at h|_::_,[],_,_,_,_,h,_=>by simp at h|p::P,w::vs,0,m,nd,b,a,c=>by
  simp at b a;subst b;subst a;show Xs kindOf ((p,w)::P.zip vs) m p=_;unfold Xs;rw[mO λv d=>(List.nodup_cons.mp nd).1 (VB d).1,if_pos c];simp|p::P,w::vs,i+1,m,nd,b,a,c=>by
  show Xs kindOf ((p,w)::P.zip vs) m x=_;unfold Xs;exact mQ (i:=i) (List.nodup_cons.mp nd).2 (by simpa using b) (by simpa using a) c
theorem mR{kindOf:Oo->Option Rb}{x:Oo}{v:NJ}:∀{P:List Oo}{vs:List NJ}{i:Nat}{m:Oo->Option NJ},P.Nodup->P[i]?=NF x->vs[i]?=NF v->kindOf x≠NF .local->Xt kindOf (P.zip vs) m x=NF v
 |[],_,_,_,_,h,_,_=>by simp at h|_::_,[],_,_,_,_,h,_=>by simp at h|p::P,w::vs,0,m,nd,b,a,c=>by
  simp at b a;subst b;subst a;show Xt kindOf ((p,w)::P.zip vs) m p=_;unfold Xt;rw[mP λv d=>(List.nodup_cons.mp nd).1 (VB d).1,if_neg c];simp|p::P,w::vs,i+1,m,nd,b,a,c=>by
  show Xt kindOf ((p,w)::P.zip vs) m x=_;unfold Xt;exact mR (i:=i) (List.nodup_cons.mp nd).2 (by simpa using b) (by simpa using a) c
noncomputable def start(N:List Oo)(vs:List V):St:=vs.map NF++OV (N.length-vs.length) NN
noncomputable def j3(CX:t_)(P:N7)(w:Oq)(K:NS)(mg:Oo->Option NJ)(base:Oy)(N:List Oo)(b:Oo)(a:Qr)(f:NR)(cd:NJ)(A:Ov)(outer:List Uc)(s:NL)(H:Hp)(E:XK):Cx where
 prog:=P;w:=w;K:=K;mg:=mg;base:=base;A:=A.deeper (UT b a s.heap.objs.size f cd);N:=N;br:=s;gL:=H;env:=UT b a s.heap.objs.size f cd;outer:=outer;stack:=UT b a s.heap.objs.size f cd::outer;ex:=[];calm:=NM;fn:=λ_=>NM;pn:=[];xe:=λe d=>wpAny (N2 P w) (A.deeper (UT b a s.heap.objs.size f cd)) (XM (UT b a s.heap.objs.size f cd) e) (λ_ c=>CX outer H s E e c) (λg c=>CX outer H s E g c) d
theorem pD{sc:Qr}{n:Nat}{x:Oo}(h:sc.names.lookup x=NF .cell):∃c,(Qp n sc.names []).lookup x=NF c:=by
 have q:=RI sc.names n [] (.inl h);exact Option.isSome_iff_exists.mp q
theorem v7{CX:t_}{P:N7}{w:Oq}{K:NS}{mg:Oo->Option NJ}{base:Oy}{N ps:List Oo}{g:Oo}{d:Qr}{f:NR}{cd:NJ}{A:Ov}{outer:List Uc}{s s1:NL}{H:Hp}{E:XK}{us:List NJ}{vs:List V}(S:cR N ps d)(hd:A.handled=NN)(l:AV P w K mg base A outer s H)(J:vs.length=ps.length)(r:aq vs us)(x:InCallC s s.heap.objs.size (Xs (UT g d s.heap.objs.size f cd).kindOf (ps.zip us) λ_=>NN) (Qp (s.heap.objs.size+1) d.names []) (Xt (UT g d s.heap.objs.size f cd).kindOf (ps.zip us) λ_=>NN) s1):Inv (j3 CX P w K mg base N g d f cd A outer s H E) [] (start N vs) H s1:=by
 have G:ps.length<=N.length:=by have:=congrArg Qc S.pre;rw[Sh]at this;omega
 obtain⟨C,I,rfl,D⟩:=x.done;have m:∀b:NR,b∉(j3 CX P w K mg base N g d f cd A outer s H E).ex:=λb z=>absurd (show b∈([]:List NR)from z) (by simp);refine⟨⟨l.mod,S.kind,rfl,rfl,NZ _,λy z c C j=>?_,λy hy=>?_,λy c _ h=>?_,λ_=>hd,Around.frames_deeper l.frames,.inr ⟨rfl,rfl⟩,λb z=>absurd z (m b),l.bs,l.AB,λb _ _=>m b,λb z=>absurd z (m b),l.jj,l.C_⟩,rfl,l.bare,Un.kept D,⟨_,x.toInCall.ns,λi y v C j L=>?_⟩,λy c h=>⟨_,x.cell y c h⟩,l.aD.fresh (NZ _),λy c h=>?_,λp t=>absurd (show p∈([]:List (NR×OW))from t) (by simp),l.aD.kept D,?_⟩;.exact name_of_addr x.apart (PD C) (PD j)
 .have hy:d.names.lookup y=NF .cell\/d.names.lookup y=NF .free:=hy;rcases hy with hy|hy;.exact pD hy
  .exact absurd rfl (S.EF _ (PD hy))
 .exact Sg (x.above y c (PD h))
 .have B:i<vs.length:=by
   unfold start at j;by_cases B:i<vs.length;.exact B
   .rw[OI (by simpa using B)]at j;rw[QY]at j;split at j<;>cases j
  have ha:vs[i]?=NF v:=by
   unfold start at j;rw[Pf (by simpa using B),Om]at j;cases e:vs[i]? with
   |none=>rw[e]at j;cases j|some a=>rw[e]at j;cases j;rfl
  obtain⟨u,hu,F⟩:=r.get ha;have t:ps[i]?=NF y:=by rw[<-S.pre,Ss (by omega)];exact C
  have o:ps.Nodup:=by rw[<-S.pre];exact S.nd.sublist (WQ _ _)
  refine⟨u,F,?_⟩;rcases S.par y (OH t)with k|k;.exact .inl ⟨k,mQ o t hu k⟩
  .obtain⟨c,e⟩:=pD (n:=s.heap.objs.size+1) k;refine .inr ⟨.inl k,c,e,?_⟩;have q:=x.cell y c e;rw[mR o t hu (by show d.names.lookup y≠_;rw[k];decide)]at q;exact q
 .exact l.aD.fresh (Sg (x.above y c (PD h)))
 .unfold start;show _=N.length;rw[OO,NY,Qx];omega
theorem xK{CX:t_}{P:N7}{w:Oq}{K:NS}{mg:Oo->Option NJ}{base:Oy}{k:Nat}{f:NR}{name c:Oo}{g:U0}{body:List Qq}{a:Qr}{U kV B T d ct oc:NJ}{X od:Option NR}{G:Array (Option NJ)}{N ps:List Oo}{sp:Sp}(lk:K.lookup f=NF ⟨oc,od,.func (Vk name c g body a U kV B T X d ct),G⟩)(O:Qk K d c=NM)(S:cR N ps a)(len:∀vs H Q E,sp vs H Q E->vs.length=ps.length)(j:∀(A:Ov)(outer:List Uc)(s:NL)(H:Hp)(vs:List V)(Q:VK)(E:XK),d9 k (A.deeper (UT c a s.heap.objs.size f d))->sp vs H Q E->∃t,ph (j3 CX P w K mg base N c a f d A outer s H E) body t/\t {nx:=λ_ H'=>Q .aU H',rt:=Q} (start N vs) H):dA P w K mg base CX (k+1) f (Vk name c g body a U kV B T X d ct) ps sp:=by
 refine⟨len,λA outer s H W Z vs Q E M z hb r m=>?_⟩;have hl:=len _ _ _ _ m;have Y:K.In s.heap:=z.mod.Ec.keeps λb o e=>(z.bs b o e).1;have L:s.heap.NoLimit:=z.mod.nolimit.keeps λb o e=>(z.bs b o e).1;have i:∀y∈ps.zip Z,a.names.lookup y.1=NF .local\/(a.names.lookup y.1=NF .cell/\((Qp (s.heap.objs.size+1) a.names []).lookup y.1).isSome=NM):=λC hy=>by
  obtain⟨n,v⟩:=C;rcases S.par n (VB hy).1 with q|q;.exact .inl q
  .exact .inr ⟨q,RI _ _ _ (.inl q)⟩
 refine codeAny_call_function M.depth (Y _ _ lk) rfl S.co S.gen rfl (WA Y O) (hb _ _ _ _ ?_);refine wpAny_newFunctionEnv_cells S.kind i λenv he R x=>?_;subst he;refine⟨L.keeps x.toInCall.keep,codeAny_func ?_⟩;obtain⟨t,ht,hq⟩:=j A outer s H vs Q E (M.deeper _) m;have I:Inv (j3 CX P w K mg base N c a f d A outer s H E) [] (start N vs) H R:=v7 S M.hd z hl r x;refine O3 (ht [] R (start N vs) H _ I hq) (λfl D l=>?_) λe D l=>l;have p:∀{h:St}{H':Hp}{v:V}{u:NJ},Inv (j3 CX P w K mg base N c a f d A outer s H E) [] h H' D->RelV v u->Q v H'->CE outer P w H s Q u D:=λ{h H' v u}J F q=>⟨v,H',J.os,J.bare,J.base,J.aD,F,q⟩;cases fl with
 |ret u=>
  obtain⟨v,h,H',J,F,q⟩:=l;exact p J F q|next=>
  obtain⟨h,H',J,q⟩:=l;exact p (v:=V.aU) (u:=Oz) J rfl q|brk=>
  obtain⟨_,_,_,q⟩:=l;exact PZ q|cont=>
  obtain⟨_,_,_,q⟩:=l;exact PZ q
end L2
namespace L2
open PySem PySem.Spec PyProof.Rows
section
variable{X:Cx}{x:Oo}{p pos:P8}{e:Ob}{es:List Ob}{t:TA}{id T:String}{r:List V->Hp->VK->Prop}
noncomputable def LJ(r:List V->Hp->VK->Prop)(t:TA):TE:=λa H Q=>t a H λb c=>r b c Q
theorem eN(u:fh X (.builtin id) r)(o:Gl X x)(n:X.mg x=NN)(l:P7 x=NF (.builtin id))(ha:PA X (e::es) t)(m:x≠"__name__":=by decide)(c:(x==("__debug__":Oo))=NP:=by decide)(q:Og (e::es) X.env=(NP,Qa e X.env)::Og es X.env:=by rfl)(b:(Qu pos (Og es X.env)).any (·.1)=NP:=by rfl):PE X (.Call (.Name x p) (e::es) [] pos) (LJ r t):=by
 intro a s d H Q I h;refine SG (kK I o n l ?_ m c);exact PyProof.Rows.callWith_builtin1 (bo (ha pos a s d H _ I h) λg i⟨f,w,v,j,k⟩=>u a i d w f g Q v j k) q b
theorem mS(u:fh X (.type T) r)(o:Gl X x)(n:X.mg x=NN)(l:P7 x=NF (.type T))(ha:PA X (e::es) t)(m:x≠"__name__":=by decide)(c:(x==("__debug__":Oo))=NP:=by decide)(q:Og (e::es) X.env=(NP,Qa e X.env)::Og es X.env:=by rfl)(b:(Qu pos (Og es X.env)).any (·.1)=NP:=by rfl):PE X (.Call (.Name x p) (e::es) [] pos) (LJ r t):=by
 intro a s d H Q I h;refine SG (kK I o n l ?_ m c);exact R8 (bo (ha pos a s d H _ I h) λg i⟨f,w,v,j,k⟩=>u a i d w f g Q v j k) q b
end
end L2
namespace HT
open PySem PyProof.Rows
noncomputable def lexLt:List Int->List Int->Bool
 |[],[]=>NP|[],_::_=>NM|_::_,[]=>NP|x::b,y::a=>if x=y then lexLt b a else decide (x<y)
theorem kO(x y:Int)(xs a:List Int):lexLt (x::xs) (y::a)=if x=y then lexLt xs a else decide (x<y):=rfl
theorem mz:lexLt [] []=NP:=rfl
theorem kP(y:Int)(a:List Int):lexLt [] (y::a)=NM:=rfl
theorem kQ(x:Int)(xs:List Int):lexLt (x::xs) []=NP:=rfl
theorem xM(A:Ov)(s:NL)(a:Int)(t:Vz)(c:Int)(u:Vz):∃e,Ru A s (.int a t) (.int c u) e/\(e=NM↔a=c):=⟨(a==c),WB a t c u,by simp⟩
theorem xN(A:Ov)(s:NL)(a:Int)(t:Vz)(c:Int)(u:Vz)(prog:N7)(w:Oq)(E:NJ->NL->Prop)(Q:NJ->NL->Prop)(h:Q (.bool (decide (a<c))) s):wpAny (N2 prog w) A (Qs .Lt (.int a t) (.int c u)) Q E s:=(Wh h:wpAny (N2 prog w) A (O6 .Lt (.int a t) (.int c u)) Q E s)
section
open PySem.SeqAt
open PySem.AutoSeq1 (wpAny_loadPart')
open PySem.MeetsSeq PySem.MeetsSeq2 PySem.MeetsSeq3
theorem mB(l b:NR)(items f:Array NJ)(n n2:Nat)(dd L:Option NR)(P H:Array (Option NJ))(ns ms:List Int)(O:QM items.toList ns)(N:QM f.toList ms):Meets (Builtin.«tuple.__lt__» ⟨[.ref l,.ref b],[]⟩) (λ_ R s=>s.heap.get? l=NF {cls:=.type "tuple",dict:=dd,data:=.seq items n,slots:=P}/\s.heap.get? b=NF {cls:=.type "tuple",dict:=L,data:=.seq f n2,slots:=H}/\R (.ok (.ret (.bool (lexLt ns ms)))) s):=.of_wp λprog w A R s h=>by
  obtain⟨G,g,d,F,os⟩:=s;obtain⟨Q,hb,h⟩:=h;have V:=Su;have U:items.size=ns.length:=by rw[<-O.length];simp
  have T:f.size=ms.length:=by rw[<-N.length];simp
  wp_walk using Q3 Q,Q3 hb,QB _ (λrest b I=>b.1=NN/\I=⟨G,g,d,F,os⟩/\∃(E ws:List NJ)(j k:List Int),rest=E.zip ws/\QM E j/\QM ws k/\j.length+f.size=k.length+items.size/\R (.ok (.ret (.bool (lexLt j k)))) ⟨G,g,d,F,os⟩) _;case turn=>
   rintro⟨y,x⟩rest b I⟨B,rfl,E,ws,j,k,m,v,o,i,r⟩;cases v with
   |nil=>rw[UI]at m;cases m|cons a t D=>cases o with
    |nil=>rw[SH]at m;cases m|cons c u C=>
     rw[O_]at m;injection m with J z;injection J with hy hx;subst hy hx;rw[kO]at r;simp only[Ol]at i;obtain⟨e,S,p⟩:=xM A.in1 ⟨G,g,d,F,os⟩ a t c u;refine NG (S prog w _ _ ?_);cases e with
     |true=>
      rw[if_pos (p.mp rfl)]at r;wp_walk;exact⟨rfl,rfl,_,_,_,_,z,D,C,by omega,r⟩|false=>
      rw[if_neg (λq=>absurd (p.mpr q) O9)]at r;have K:=xN A.in1 ⟨G,g,d,F,os⟩ a t c u prog w;wp_walk using K;exact⟨_,rfl,by simpa using r⟩
  case fin=>
   rintro⟨b1,W⟩I⟨B,rfl,E,ws,j,k,m,v,o,i,r⟩;simp only at B;subst B;have M:lexLt j k=decide (items.size<f.size):=by cases v with
    |nil=>cases o with
     |nil=>
      simp only[Ox]at i;rw[mz];exact(decide_eq_false (by omega)).symm|cons c u hw=>
      simp only[Ox,Ol]at i;rw[kP];exact(decide_eq_true (by omega)).symm
    |cons a t M=>cases o with
     |nil=>
      simp only[Ox,Ol]at i;rw[kQ];exact(decide_eq_false (by omega)).symm|cons c u hw=>
      rw[O_]at m;cases m
   rw[M]at r;wp_walk;exact⟨_,rfl,by simpa[PM]using r⟩
  case h=>exact⟨rfl,rfl,items.toList,f.toList,ns,ms,rfl,O,N,by omega,h⟩
end
section
variable{prog:N7}{w:Oq}{A:Ov}{E:NJ->NL->Prop}{s:NL}
theorem sr{l b:NR}{items a:Array NJ}{ns ms:List Int}{Q:NJ->NL->Prop}(p:WL s.heap l items)(hb:WL s.heap b a)(r:QM items.toList ns)(q:QM a.toList ms)(hu:A.units<Pj)(h:Q (.bool (lexLt ns ms)) s):wpAny (N2 prog w) A (O6 .Lt (.ref l) (.ref b)) Q E s:=by
 obtain⟨⟨cls,t,k,o⟩,i,j,n,hd⟩:=id p;obtain⟨⟨m,g,data2,f⟩,c,e,n2,d⟩:=id hb;simp only at j hd e d;subst j hd e d;exact SU (op:=.Lt) ⟨_,i,rfl⟩ ⟨_,c,rfl⟩ VH Vl (U1 _ _) (mB l b items a n n2 t g o f ns ms r q) ⟨i,c,show Uh (lexLt ns ms)≠TJ/\Q (.bool (lexLt ns ms)) s from⟨(λx=>nomatch x),h⟩⟩ hu
theorem AX{t b:NR}{vs ws:List NJ}{Q:NJ->NL->Prop}(p:WL s.heap t vs.toArray)(hb:WL s.heap b ws.toArray)(k:vs≠[])(r:ws=[]->Q (.ref t) s)(q:ws≠[]->Q (.ref s.heap.objs.size) {s with heap:=s.heap.push {cls:=.type "tuple",data:=.seq (vs++ws).toArray}})(hsz:vs.length+ws.length<=NW):wpAny (N2 prog w) A (RC .Add (.ref t) (.ref b)) Q E s:=by
 obtain⟨⟨cls,m,h,j⟩,i,l,n,hd⟩:=id p;obtain⟨⟨o,g,data2,c⟩,a,f,n2,d⟩:=id hb;simp only at l hd f d;subst l hd f d;have e:vs.toArray++ws.toArray=(vs++ws).toArray:=by simp
 by_cases hw:ws=[]
 .exact WR ⟨_,i,rfl⟩ ⟨_,a,rfl⟩ U2 Wq SV SJ (Sv _ _) (tuple_addW1 t b vs.toArray ws.toArray n n2 m g j c (by simpa using k) (by simp[hw])) ⟨i,a,r hw⟩
 .refine WR ⟨_,i,rfl⟩ ⟨_,a,rfl⟩ U2 Wq SV SJ (Sv _ _) (tuple_addW2 t b vs.toArray ws.toArray n n2 m g j c (by simpa using k) (by simpa using hw) (by rw[N5,N5];exact hsz)) ⟨i,a,?_⟩;rw[e];exact q hw
noncomputable def pj(n d:Nat):Option Int->Nat
 |none=>d|some v=>if v<0 then(v+(n:Int)).toNat else min v.toNat n
theorem xO(n d:Nat):pj n d NN=d:=rfl
theorem AY(n d k:Nat):pj n d (NF (k:Int))=min k n:=by
 show(if(k:Int)<0 then((k:Int)+(n:Int)).toNat else min (k:Int).toNat n)=min k n;rw[if_neg (by omega),SW]
end
end HT
namespace L2
open PySem PySem.Spec PyProof.Rows
abbrev TO:=St->Hp->(Option Int->Hp->Prop)->Prop
noncomputable def PO(X:Cx)(e:Option Ob)(t:TO):Prop:=∀(a:List (NR×OW))(s:NL)(b:St)(H:Hp)(Q:Option Int->Hp->Prop),Inv X a b H s->t b H Q->wpAny (N2 X.prog X.w) X.A (evalPart e X.env) (λu d=>∃o c,Inv X a b c d/\IsPart u o/\Q o c) X.xe s
noncomputable def AZ:TO:=λ_ H Q=>Q NN H
noncomputable def Iq(t:TE):TO:=λa H Q=>t a H λx b=>∃i,x=.int i/\Q (NF i) b
theorem intsAre_of{ns:List Int}:∀{us:List NJ},aq (ns.map V.int) us->QM us ns:=by induction ns with
 |nil=>intro us r;rw[RJ]at r;cases r;exact .nil|cons n ns c=>
  intro us r;rw[Ot]at r;cases r with|cons b a=>
   obtain⟨t,e⟩:=b;subst e;exact .cons n t (c a)
section
variable{X:Cx}{e:Ob}{te:TE}{lo hi:Option Ob}{tl th:TO}{pos p2:P8}
theorem A0:PO X NN AZ:=by
 intro a s b H Q I h;rw[evalPart_none];exact NO ⟨NN,H,I,.none,h⟩
theorem A2(h:PE X e te):PO X (NF e) (Iq te):=by
 intro a s c H Q I hw;rw[evalPart_some];refine bo (h a s c H _ I hw) λu k b=>?_;obtain⟨x,j,g,d,f⟩:=b;obtain⟨i,rfl,q⟩:=f;obtain⟨t,rfl⟩:=d;exact⟨NF i,j,g,.int i t,q⟩
noncomputable def MO(X:Cx)(r:V->Option Int->Option Int->Hp->VK->Prop):Prop:=∀(a:List (NR×OW))(s:NL)(b:St)(H:Hp)(x:V)(v d c:NJ)(lo hi:Option Int)(f:NR)(Q:VK),Inv X a b H s->RelV x v->s.heap.IsSliceOf f d c .none->IsPart d lo->IsPart c hi->r x lo hi H Q->∃T id,Ul (.type T) "__getitem__"=pure (NF (.builtin id))/\s.TypeIs v T/\wpAny (N2 X.prog X.w) X.A (XN v (.ref f)) (EP X a b Q) X.xe s
noncomputable def M_(r:V->Option Int->Option Int->Hp->VK->Prop)(te:TE)(tl th:TO):TE:=λa H Q=>te a H λx d=>tl a d λl c=>th a c λu b=>r x l u b Q
theorem xP{r:V->Option Int->Option Int->Hp->VK->Prop}(D:MO X r)(G:PE X e te)(E:PO X lo tl)(hu:PO X hi th):PE X (.Subscript e (.Slice lo hi NN p2) pos) (M_ r te tl th):=by
 intro a s i H Q I h;refine Subscript_ (bo (G a s i H _ I h) λv o g=>?_);obtain⟨x,P,N,p,z⟩:=g;refine wpAny_Slice (bo (E a o i P _ N z) λk n⟨l,O,M,B,y⟩=>bo (hu a n i O _ M y) λj c g=>?_);obtain⟨u,m,L,pu,t⟩:=g;rw[evalPart_none];refine NO ?_;have K:Inv X a i m {c with heap:=c.heap.push {cls:=.type "slice",data:=.fields #[k,j,.none]}}:=L.kept (t':=c.toks) λb ob q=>NQ _ q;obtain⟨T,id,J,C,F⟩:=D a {c with heap:=c.heap.push {cls:=.type "slice",data:=.fields #[k,j,.none]}} i m x v k j l u c.heap.objs.size Q K p (Heap.IsSliceOf.new ..) B pu t;show wpAny (N2 X.prog X.w) X.A (Wr e (.Slice lo hi NN p2) v (.ref c.heap.objs.size)) (EP X a i Q) X.xe {c with heap:=c.heap.push {cls:=.type "slice",data:=.fields #[k,j,.none]}};exact tail_any (ops:=[.ref c.heap.objs.size,v]) C J F (by with_unfolding_all rfl)
noncomputable def v8(xs:List V)(lo hi:Option Int):List V:=(xs.drop (HT.pj xs.length 0 lo)).take (HT.pj xs.length xs.length hi-HT.pj xs.length 0 lo)
theorem pE(xs:List V)(lo hi:Option Int):(v8 xs lo hi).length<=xs.length:=by
 unfold v8;rw[Sh,Tv];omega
theorem aq.ua{xs:List V}{us:List NJ}(r:aq xs us):us=[]↔xs=[]:=by cases r with
 |nil=>simp|cons _ _=>simp
end
end L2
namespace L2
open PySem PySem.Spec PyProof.Rows
noncomputable def AD(n:Nat)(i:Int):Option Nat:=if 0<=i then(if i<n then NF i.toNat else NN)else if-(n:Int)<=i then NF (i+n).toNat else NN
noncomputable def d_{a:Type}(xs:List a)(i:Int):Option a:=(AD xs.length i).bind λj=>xs[j]?
theorem uc{n:Nat}{i:Int}{j:Nat}(h:AD n i=NF j):seqIndex? i n=NF j/\j<n/\-(n:Int)<=i/\i<n:=by
 unfold AD at h;by_cases b:0<=i
 .rw[if_pos b]at h;by_cases a:i<n
  .rw[if_pos a]at h;have e:i.toNat=j:=NU h;exact⟨by rw[Xf b a,e],by omega,by omega,a⟩
  .rw[if_neg a]at h;cases h
 .rw[if_neg b]at h;by_cases a:-(n:Int)<=i
  .rw[if_pos a]at h;have e:(i+n).toNat=j:=NU h;exact⟨by rw[WS (by omega) a,e],by omega,a,by omega⟩
  .rw[if_neg a]at h;cases h
theorem nT{a:Type}{xs:List a}{i:Int}{v:a}(h:d_ xs i=NF v):∃j,seqIndex? i xs.length=NF j/\xs[j]?=NF v/\j<xs.length/\-(xs.length:Int)<=i/\i<xs.length:=by
 unfold d_ at h;cases e:AD xs.length i with
 |none=>rw[e]at h;cases h|some j=>
  rw[e]at h;obtain⟨f,d,c,b⟩:=uc e;exact⟨j,f,h,d,c,b⟩
theorem eV{a:Type}{xs:List a}{j:Nat}{v:a}(h:xs[j]?=NF v):d_ xs (j:Int)=NF v:=by
 have b:j<xs.length:=(List.getElem?_eq_some_iff.mp h).1;have e:AD xs.length (j:Int)=NF j:=by
  unfold AD;rw[if_pos (by omega),if_pos (by omega)];simp
 unfold d_;rw[e];exact h
theorem xQ{a:Type}(xs:List a)(v:a):d_ (xs++[v]) (-1)=NF v:=by
 have b:(xs++[v]).length=xs.length+1:=by simp
 have e:AD (xs++[v]).length (-1)=NF xs.length:=by
  unfold AD;rw[b,if_neg (by decide),if_pos (by omega)];congr 1;omega
 unfold d_;rw[e];show(xs++[v])[xs.length]?=NF v;simp
noncomputable def nU(b:Ob):Prop:=∀o i,Xg b NP o i=operate [o,i] (XN o i)
noncomputable def AE(X:Cx)(r:R2):Prop:=∀(c a:Ob)(b:List (NR×OW))(s:NL)(d:St)(H:Hp)(x y:V)(v u:NJ)(Q:VK),Inv X b d H s->RelV x v->RelV y u->r x y H Q->Xg a NP v u=operate [v,u] (XN v u)->wpAny (N2 X.prog X.w) X.A (Wr c a v u) (EP X b d Q) X.xe s
noncomputable def Ir(X:Cx)(id:String)(r:V->List V->Hp->VK->Prop):Prop:=∀(a:List (NR×OW))(s:NL)(b:St)(H:Hp)(x:V)(c:List V)(v:NJ)(d:List NJ)(Q:VK),Inv X a b H s->RelV x v->aq c d->r x c H Q->wpAny (N2 X.prog X.w) X.A (call (.builtin id) (v::d)) (EP X a b Q) X.xe s
section
variable{X:Cx}{a b:Ob}{ta tb:TE}{pos:P8}
theorem AE.or{r g:R2}(h:AE X r)(h':AE X g):AE X (λx y H Q=>r x y H Q\/g x y H Q):=by
 intro c d e s f H x y v u Q I rx ry q i;rcases q with q|q;.exact h c d e s f H x y v u Q I rx ry q i
 .exact h' c d e s f H x y v u Q I rx ry q i
theorem gr{r:R2}(g:AE X r)(ha:PE X a ta)(hb:PE X b tb)(f:nU b):PE X (.Subscript a b pos) (Ij r ta tb):=by
 intro c s d H Q I h;exact Subscript_ (Eu ha hb I h λv u e x y j i rx ry q=>g a b c e d j x y v u Q i rx ry q (f _ _))
noncomputable def Iu(K:NS):R2:=λx y H Q=>∃p c i v,x=.ref p/\y=.int i/\dy K H p c/\d_ c i=NF v/\Q v H
noncomputable def Iv(K:NS):R2:=λx y H Q=>∃p c i v,x=.ref p/\y=.int i/\kf K H p c/\d_ c i=NF v/\Q v H
noncomputable def Iw:R2:=λx y H Q=>∃z i c,x=.str z/\y=.int i/\z.length<=NW/\d_ z.cps.toList i=NF c/\Q (.str ⟨#[c]⟩) H
theorem cV:AE X (Iu X.K):=by
 intro f g c s o H x y v u Q I rx ry h A;obtain⟨p,N,i,z,rfl,rfl,E,G,q⟩:=h;cases rx;obtain⟨t,rfl⟩:=ry;obtain⟨m,r,l,O⟩:=I.list E;obtain⟨j,e,M,R,L,J⟩:=nT G;obtain⟨w,C,k⟩:=r.get M;have F:=r.length;have P:=gP;have d:EP X c o Q w s:=⟨z,H,I,k,q⟩;by_cases B:0<=i
 .have n:i.toNat=j:=by
   rw[Xf B J]at e;exact NU e
  exact item_listR l.isList B (by omega) (by rw[n];simpa using C) d A
 .have n:(i+(m.toArray.size:Int)).toNat=j:=by
   rw[WS (by omega) L]at e;rw[N5,<-F];exact NU e
  exact Vm (x:=w) l.isList.typeIs slot_list_getitem.lookup (wpAny_getItem_list_neg (Q:=λr D=>r=w/\EP X c o Q r D) l.isList (by omega) (by rw[N5]<;>omega) (by omega) (by rw[n];simpa using C) ⟨rfl,d⟩) A
theorem EG:AE X (Iv X.K):=by
 intro d e c s k H x y v u Q I rx ry h o;obtain⟨p,G,i,z,rfl,rfl,A,C,q⟩:=h;cases rx;obtain⟨t,rfl⟩:=ry;obtain⟨n,r,l,J⟩:=I.tuple A;obtain⟨j,E,D,O,N,M⟩:=nT C;obtain⟨w,F,f⟩:=r.get D;have B:=r.length;have L:=gP;have g:EP X c k Q w s:=⟨z,H,I,f,q⟩;exact Vm (x:=w) l.typeIs slot_tuple_getitem.lookup (getItem_tuple (j:=j) (Q:=λr m=>r=w/\EP X c k Q r m) l (by omega) (by omega) (by rw[N5,<-B];exact E) (by simpa using F) ⟨rfl,g⟩) o
theorem EH:AE X Iw:=by
 intro d e f s A H x y v u Q I rx ry h k;obtain⟨z,i,c,rfl,rfl,C,m,q⟩:=h;obtain⟨t,rfl⟩:=rx;obtain⟨B,rfl⟩:=ry;obtain⟨j,g,p,E,o,n⟩:=nT m;have l:z.cps.toList.length=z.length:=by simp[Str.length]
 rw[l]at g o n;have D:=gP;exact tail_any (typeIs_str s z t) slot_str_getitem.lookup (getItem_str (c:=c) (by
  have w:decide (i< -(2^63:Int))=NP:=decide_eq_false (by omega);have r:decide (i>=2^63)=NP:=decide_eq_false (by omega);rw[w,r,Bool.or_false]) (by rw[g];simpa using p) ⟨.str ⟨#[c]⟩,H,I.tok _,⟨_,rfl⟩,q⟩) k
noncomputable def Na(K:NS):R2:=λx y H Q=>Iu K x y H Q\/Iv K x y H Q\/Iw x y H Q
theorem EI:AE X (Na X.K):=cV.or (EG.or EH)
theorem su(its:List NJ)(n j:Nat)(u:NJ):Pq (·.setIfInBounds j u) {cls:=.type "list",data:=.seq its.toArray n}={cls:=.type "list",data:=.seq (its.set j u).toArray n}:=by simp[Pq]
theorem Inv.lst{pins:List (NR×OW)}{σ:St}{H:Hp}{s:NL}{p:NR}{xs:List V}(I:Inv X pins σ H s)(h:H p=NF (.lst xs)):∃(its:List NJ)(n:Nat),aq xs its/\s.heap.get? p=NF {cls:=.type "list",data:=.seq its.toArray n}/\xs.length<=NW:=by
 obtain⟨z,its,n,r,e⟩:=I.aD p _ h;exact⟨its,n,r,e,z⟩
theorem Inv.EJ{pins:List (NR×OW)}{σ:St}{H:Hp}{s:NL}{p:NR}{xs c:List V}{its its':List NJ}{n n':Nat}{f:OW->OW}(I:Inv X pins σ H s)(h:H p=NF (.lst xs))(i:s.heap.get? p=NF {cls:=.type "list",data:=.seq its.toArray n})(d:f {cls:=.type "list",data:=.seq its.toArray n}={cls:=.type "list",data:=.seq its'.toArray n'})(r:aq c its')(g:c.length<=NW)(t:Nat):Inv X pins σ (upd H p (.lst c)) {s with heap:=s.heap.update p f,toks:=t}:=by
 have e:(s.heap.update p f).get? p=NF {cls:=.type "list",data:=.seq its'.toArray n'}:=by rw[OF f i (by rw[d]<;>rfl),d]
 refine I.write (x:=p) (e:=p) (by rw[h];trivial) (.inl rfl) (λb u hb q=>(Oa _ _ (OX hb)).trans q) ⟨_,e⟩ ?_;exact⟨g,its',n',r,e⟩
noncomputable def Iy:V->V->V->Hp->(Hp->Prop)->Prop:=λo i v H Q=>∃p c k j,o=.ref p/\i=.int k/\H p=NF (.lst c)/\AD c.length k=NF j/\Q (upd H p (.lst (c.set j v)))
theorem set_list:Ie X Iy:=by
 intro c s B H o i v K L u Q I E F D h;obtain⟨p,C,k,j,rfl,rfl,m,J,q⟩:=h;cases E;obtain⟨t,rfl⟩:=F;obtain⟨d,n,r,f,G⟩:=I.lst m;obtain⟨e,N,y,x⟩:=uc J;have g:=r.length;have M:=gP;have A:Inv X c B (upd H p (.lst (C.set j v))) {s with heap:=s.heap.update p (Pq (·.setIfInBounds j u))}:=I.EJ m f (su d n j u) (r.set D j) (by rw[VC];exact G) s.toks;by_cases z:0<=k
 .have l:k.toNat=j:=by
   rw[Xf z x]at e;exact NU e
  exact PySem.W.ki_setAt f z (by omega) (by rw[N5,<-g];exact x) (by rw[l];exact⟨_,A,q⟩)
 .have l:(k+(d.toArray.size:Int)).toNat=j:=by
   rw[WS (by omega) y]at e;rw[N5,<-g];exact NU e
  exact PySem.W.ki_setBack f (by omega) (by rw[N5,<-g];exact y) (by omega) (by rw[l];exact⟨_,A,q⟩)
theorem nV(lo c:Option Int)(n:Nat):(SK lo c NN n).1=((HT.pj n 0 lo:Nat):Int)/\(SK lo c NN n).2.1=((HT.pj n n c:Nat):Int)/\(SK lo c NN n).2.2=1:=by
 refine⟨?_,?_,rfl⟩;.cases lo with
  |none=>simp[SK,HT.pj]|some i=>
   simp only[SK,HT.pj,Si,show(1:Int)>0 by decide,if_true];by_cases h:i<0;.simp only[h,if_true]<;>omega
   .simp only[h,if_false]<;>omega
 .cases c with
  |none=>simp[SK,HT.pj]|some i=>
   simp only[SK,HT.pj,Si,show(1:Int)>0 by decide,if_true];by_cases h:i<0;.simp only[h,if_true]<;>omega
   .simp only[h,if_false]<;>omega
theorem mC(its:List NJ)(lo c:Option Int):slicePick its.toArray lo c NN=((its.drop (HT.pj its.length 0 lo)).take (HT.pj its.length its.length c-HT.pj its.length 0 lo)).toArray:=by
 obtain⟨f,e,d⟩:=nV lo c its.toArray.size;unfold slicePick;rw[f,e,d];simp only[sliceRange_one,pick_run,N5]<;>rfl
noncomputable def LK(K:NS):V->Option Int->Option Int->Hp->VK->Prop:=λx lo d H Q=>∃a c,x=.ref a/\dy K H a c/\∀p,H p=NN->Q (.ref p) (upd H p (.lst (v8 c lo d)))
theorem A3:MO X (LK X.K):=by
 intro f s m H x v p n lo e t Q I rx l i pu h;obtain⟨a,c,rfl,hx,q⟩:=h;cases rx;obtain⟨j,r,g,k⟩:=I.list hx;have d:=r.length;refine⟨"list",_,slot_list_getitem.lookup,g.isList.typeIs,?_⟩;refine wpAny_getItem_list_slice g.isList l i pu .none (by simp) ?_ (by rw[N5]<;>omega);rw[mC,<-d];refine⟨.ref s.heap.objs.size,_,I.laid (t':=s.toks) (o:=.lst (v8 c lo e)) (λb ob q=>NQ _ q) (NZ _) ?_,rfl,q _ (I.aD.fresh (NZ _))⟩;exact⟨OC (pE c lo e) k,_,0,(r.drop (HT.pj c.length 0 lo)).take (HT.pj c.length c.length e-HT.pj c.length 0 lo),N4 _ rfl⟩
theorem eW:fh X (.builtin "len") (λxs H Q=>∃p d,xs=[.ref p]/\(dy X.K H p d\/kf X.K H p d)/\Q (.int d.length) H):=by
 intro j s l H xs m Q I r h;obtain⟨p,d,rfl,e,q⟩:=h;obtain⟨u,rfl,rx⟩:=vals1 r;cases rx;have n:=gP;rcases e with e|e
 .obtain⟨i,f,g,k⟩:=I.list e;have c:=f.length;exact Wg g.isList (by simp only[N5]<;>omega) ⟨.int d.length,H,I.tok _,⟨s.toks+1,by rw[N5,c]⟩,q⟩
 .obtain⟨i,f,g,k⟩:=I.tuple e;have c:=f.length;exact len_tuple g (by simp only[N5]<;>omega) ⟨.int d.length,H,I.tok _,⟨s.toks+1,by rw[N5,c]⟩,q⟩
theorem nW:fh X (.type "list") (λxs H Q=>∃p f,xs=[.ref p]/\(dy X.K H p f\/kf X.K H p f)/\∀l,H l=NN->Q (.ref l) (upd H l (.lst f))):=by
 intro j s B H xs C Q I r h;obtain⟨p,f,rfl,m,q⟩:=h;obtain⟨u,rfl,rx⟩:=vals1 r;cases rx;have v:∀(c:List NJ),aq f c->f.length<=NW->∀(d:Oy)(i:Nat),(∀b A,s.heap.get? b=NF A->d.get? b=NF A)->d.get? s.heap.objs.size=NF {cls:=.type "list",dict:=NN,data:=.seq c.toArray i,slots:=#[]}->EP X j B Q (.ref s.heap.objs.size) {s with heap:=d}:=λc g k d i kp e=>⟨.ref s.heap.objs.size,_,I.laid (t':=s.toks) kp (NZ _) (show be X.prog X.w _ d _ (.lst f)from⟨k,c,i,g,e⟩),rfl,q _ (I.aD.fresh (NZ _))⟩;rcases m with m|m
 .obtain⟨c,g,x,k⟩:=I.list m;have t:=g.length;obtain⟨o,y,z,n,hd⟩:=x.isList;exact call_list_seq p (.inl rfl) y z hd (λd i kp e=>v c g k d i kp e) (by simp only[N5]<;>omega)
 .obtain⟨c,g,x,k⟩:=I.tuple m;have t:=g.length;obtain⟨o,y,z,n,hd⟩:=x;exact call_list_seq p (.inr rfl) y z hd (λd i kp e=>v c g k d i kp e) (by simp only[N5]<;>omega)
theorem mD:fh X (.type "tuple") (λxs H Q=>∃p f,xs=[.ref p]/\((dy X.K H p f/\∀l,H l=NN->Q (.ref l) (upd H l (.tup f)))\/(kf X.K H p f/\Q (.ref p) H))):=by
 intro c s n H xs A Q I r h;obtain⟨p,f,rfl,h⟩:=h;obtain⟨u,rfl,rx⟩:=vals1 r;cases rx;rcases h with⟨m,q⟩|⟨m,q⟩
 .obtain⟨d,j,k,t⟩:=I.list m;have v:=j.length;refine call_tuple_list k.isList (λi kp=>?_) (by simp only[N5]<;>omega);have y:Inv X c n H {s with heap:=i}:=I.kept (t':=s.toks) kp;have z:Inv X c n (upd H i.objs.size (.tup f)) {s with heap:=i.push {cls:=.type "tuple",data:=.seq d.toArray}}:=y.laid (t':=s.toks) (λb o e=>NQ _ e) (NZ _) (show be X.prog X.w _ _ _ (.tup f)from⟨t,d,j,IsTup.new _ _⟩);exact⟨.ref i.objs.size,_,z,rfl,q _ (y.aD.fresh (NZ _))⟩
 .obtain⟨d,j,k,t⟩:=I.tuple m;exact call_tuple_same k ⟨.ref p,H,I,rfl,q⟩
noncomputable def LL(K:NS)(T:String)(x:V)(H:Hp):Prop:=match x with
 |.str _=>T="str"|.int _=>T="int"|.ref p=>(T="list"/\∃d,dy K H p d)\/(T="tuple"/\∃o,K.lookup p=NF o/\o.cls=.type "tuple"/\o.dict=NN)\/(T="dict"/\((∃c,H p=NF (.dK c))\/∃c,H p=NF (.dT c)))\/(T="set"/\∃S n,H p=NF (.set S n))|_=>False
theorem xR{pins:List (NR×OW)}{σ:St}{H:Hp}{s:NL}{T:String}{x:V}{v:NJ}(I:Inv X pins σ H s)(r:RelV x v)(ty:LL X.K T x H):s.TypeIs v T/\∀a,v=.ref a->∃ob,s.heap.get? a=NF ob/\ob.dict=NN:=by cases x with
 |str z=>
  obtain⟨t,rfl⟩:=r;cases(show T="str"from ty);exact⟨typeIs_str s z t,λ_ e=>nomatch e⟩|int i=>
  obtain⟨t,rfl⟩:=r;cases(show T="int"from ty);exact⟨typeIs_int s i t,λ_ e=>nomatch e⟩|ref p=>
  cases r;rcases ty with⟨rfl,m,k⟩|⟨rfl,o,d,l,hd⟩|⟨rfl,d⟩|⟨rfl,S,n,d⟩
  .obtain⟨j,_,h,_⟩:=I.list k;refine⟨h.isList.typeIs,λa e=>?_⟩;cases e;obtain⟨o,n,e,c,hd,_⟩:=h;exact⟨o,e,hd⟩
  .refine⟨⟨o,I.jg p o d,l⟩,λa e=>?_⟩;cases e;exact⟨o,I.jg _ o d,hd⟩
  .have z:∃o,s.heap.get? p=NF o/\o.ExactDict:=by
    rcases d with⟨f,d⟩|⟨f,d⟩
    .obtain⟨_,_,_,_,o,_,_,e,ex,_⟩:=I.aD p _ d;exact⟨o,e,ex⟩
    .obtain⟨_,_,_,_,o,_,_,e,ex,_⟩:=I.aD p _ d;exact⟨o,e,ex⟩
   obtain⟨o,e,ex⟩:=z;refine⟨⟨o,e,ex.1⟩,λa g=>?_⟩;cases g;exact⟨o,e,ex.2.1⟩
  .obtain⟨o,_,_,_,e,ex,_⟩:=I.aD p _ d;refine⟨⟨o,e,ex.1⟩,λa g=>?_⟩;cases g;exact⟨o,e,ex.2.1⟩|_=>exact PZ ty
noncomputable def LM(K:NS)(T:String)(r:V->List V->Hp->VK->Prop)(e:TE):TE:=λd H Q=>e d H λx c=>LL K T x c/\r x [] c Q
noncomputable def Nb(K:NS)(T:String)(r:V->List V->Hp->VK->Prop)(f:TE)(t:TA):TE:=λc H Q=>f c H λx d=>LL K T x d/\t c d λe g=>r x e g Q
variable{o e:Ob}{es:List Ob}{to:TE}{t:TA}{name:Oo}{apos cpos:P8}{T id:String}{r:V->List V->Hp->VK->Prop}
theorem EK(pa:WC T)(slot:Slot T name id)(i:VX (.builtin id)=pure (.type "method_descriptor"))(q:Ir X id r)(p:PE X o to)(f:R0 o name X.env (Qa o X.env)=Qa o X.env:=by rfl)(d:(apos.endLine==cpos.line)=NM:=by rfl):PE X (.Call (.Attribute o name apos) [] [] cpos) (LM X.K T r to):=by
 intro c s j H Q I h;refine wpAny_Call_method0_late f d (bo (p c s j H _ I h) λv m g=>?_);obtain⟨x,y,l,k,ty,n⟩:=g;obtain⟨w,u⟩:=xR l k ty;exact⟨T,id,pa,slot,i,w,u,SX rfl (PySem.evalArgs_none (q c m j y x [] v [] Q l k .nil n))⟩
theorem Iz(pa:WC T)(slot:Slot T name id)(l:VX (.builtin id)=pure (.type "method_descriptor"))(D:Ir X id r)(C:PE X o to)(ha:PA X (e::es) t)(g:R0 o name X.env (Qa o X.env)=Qa o X.env:=by rfl)(i:((Qu cpos (Og (e::es) X.env)).all (λx=>!x.1)&&(VY cpos (TK [] X.env)).all (λx=>x.1.isSome)&&decide ((e::es).length+([]:List Sj).length+(if([]:List Sj).isEmpty then 0 else 1)<30))=NM:=by rfl)(f:(apos.endLine==cpos.line)=NM:=by rfl)(B:Og (e::es) X.env=(NP,Qa e X.env)::Og es X.env:=by rfl)(d:(Qu cpos (Og es X.env)).any (·.1)=NP:=by rfl):PE X (.Call (.Attribute o name apos) (e::es) [] cpos) (Nb X.K T r to t):=by
 intro c s j H Q I h;refine Vn g i f rfl (bo (C c s j H _ I h) λv w k=>?_);obtain⟨x,L,n,m,ty,A⟩:=k;obtain⟨F,E⟩:=xR n m ty;refine⟨T,id,pa,slot,l,F,E,?_⟩;have hA:=ha cpos c w j L _ n A;rw[B]at hA⊢;refine SX (by show(NP||(Qu cpos (Og es X.env)).any (·.1))=NP;rw[d]<;>rfl) (TL ?_);exact bo hA λq u⟨p,J,G,y,z⟩=>D c u j J x p v q Q G m y z
end
end L2
namespace L2
open PySem PySem.Spec PyProof.Rows
noncomputable def LN(X:Cx)(id:String)(r:V->List V->Hp->VK->Prop):Prop:=∀(a:List (NR×OW))(s:NL)(b:St)(H:Hp)(x:V)(c:List V)(v:NJ)(d:List NJ)(Q:VK),Inv X a b H s->RelV x v->aq c d->r x c H Q->wpAny (N2 X.prog X.w) X.A (call (.builtin id) (v::d)) (EP X a b Q) X.xe s
theorem aq.one:∀{x:V}{us:List NJ},aq [x] us->∃u,us=[u]/\RelV x u|_,_,.cons r .nil=>⟨_,rfl,r⟩
theorem aq.zero:∀{us:List NJ},aq [] us->us=[]|_,.nil=>rfl
theorem aq.dropLast{xs:List V}{us:List NJ}(h:aq xs us):aq xs.dropLast us.dropLast:=by induction h with
 |nil=>exact .nil|cons r t a=>cases t with
  |nil=>exact .nil|cons q b=>exact .cons r a
theorem sv{c:Type}(l:List c):l.eraseIdx (l.length-1)=l.dropLast:=by induction l with
 |nil=>rfl|cons a r d=>cases r with
  |nil=>rfl|cons b r=>
   have e:(a::b::r).length-1=((b::r).length-1)+1:=by
    have g:(a::b::r).length=r.length+2:=rfl;have f:(b::r).length=r.length+1:=rfl;omega
   rw[e,U3,d];all_goals rfl
section
variable{X:Cx}{pins:List (NR×OW)}{σ:St}{H:Hp}{s:NL}{l b:NR}{xs ys zs:List V}
theorem Inv.IA{its its':List NJ}{n:Nat}{f:Array NJ->Array NJ}{t':Nat}(I:Inv X pins σ H s)(g:H l=NF (.lst xs))(e:s.heap.get? l=NF {cls:=.type "list",data:=.seq its.toArray n})(d:f its.toArray=its'.toArray)(c:aq ys its')(a:ys.length<=NW):Inv X pins σ (upd H l (.lst ys)) {s with heap:=s.heap.update l (Pq f),toks:=t'}:=by
 have q:=PySem.IsL.update e f;rw[d]at q;refine I.write (x:=l) (e:=l) (by rw[g];exact trivial) (.inl rfl) (λh u hb hu=>(Oa s.heap (Pq f) (OX hb)).trans hu) ⟨_,q⟩ ?_;exact⟨a,its',_,c,q⟩
theorem Inv.LO{its:List NJ}{t':Nat}(I:Inv X pins σ H s)(c:aq ys its)(a:ys.length<=NW):Inv X pins σ (upd H s.heap.objs.size (.lst ys)) {s with heap:=s.heap.push {cls:=.type "list",data:=.seq its.toArray},toks:=t'}:=I.laid (λ_ _ q=>NQ _ q) (NZ _) ⟨a,its,0,c,N4 _ rfl⟩
theorem Inv.fresh(I:Inv X pins σ H s):H s.heap.objs.size=NN:=I.aD.fresh (NZ _)
theorem Inv.IB(I:Inv X pins σ H s)(a:H l=NF (.lst xs)):xs.length<=NW/\∃(its:List NJ)(n:Nat),aq xs its/\xs.length=its.length/\s.heap.get? l=NF {cls:=.type "list",data:=.seq its.toArray n}:=by
 obtain⟨z,its,n,r,e⟩:=I.aD l _ a;exact⟨z,its,n,r,r.length,e⟩
end
section
variable{X:Cx}
noncomputable def A4:V->List V->Hp->VK->Prop:=λx b H Q=>∃l a y,x=.ref l/\b=[y]/\H l=NF (.lst a)/\a.length<NW/\Q .aU (upd H l (.lst (a++[y])))
theorem v9:LN X "list.append" A4:=by
 intro b s g H x j v k Q I rx d h;obtain⟨l,i,y,rfl,rfl,c,m,q⟩:=h;cases rx;obtain⟨u,rfl,f⟩:=d.one;obtain⟨z,a,n,r,o,e⟩:=I.IB c;refine Xu F.slot_list_append ⟨_,e,rfl⟩ F.entry_list_append (F.args_list_append_2 _ _) (PySem.list_append l a.toArray n u (by rw[N5];omega)) ⟨e,?_⟩;refine⟨.aU,_,I.IA (its':=a++[u]) c e (by simp) (r.append (.cons f .nil)) ?_,rfl,q⟩;rw[OO,Tp];omega
noncomputable def LP:V->List V->Hp->VK->Prop:=λx b H Q=>∃l a y,x=.ref l/\b=[]/\H l=NF (.lst a)/\a[a.length-1]?=NF y/\Q y (upd H l (.lst a.dropLast))
theorem EL:LN X "list.pop" LP:=by
 intro d s k H x o v p Q I rx g h;obtain⟨l,m,y,rfl,rfl,f,hy,q⟩:=h;cases rx;have c:=g.zero;subst c;obtain⟨z,a,n,r,j,e⟩:=I.IB f;obtain⟨u,hu,i⟩:=r.get hy;have b:a.toArray[a.toArray.size-1]?=NF u:=by
  show a.toArray[a.length-1]?=NF u;rw[<-OR,<-j];exact hu
 refine Xu F.slot_list_pop ⟨_,e,rfl⟩ F.entry_list_pop (F.args_list_pop_1 _) (MeetsSeq.list_pop_last l a.toArray n u b (by rw[N5];omega+splitNatSub)) ⟨e,?_⟩;refine⟨y,_,I.IA (its':=a.dropLast) f e ?_ r.dropLast ?_,i,q⟩
 .show a.toArray.eraseIdxIfInBounds (a.toArray.size-1)=a.dropLast.toArray;rw[N5,List.eraseIdxIfInBounds_toArray,sv]
 .rw[List.length_dropLast];omega+splitNatSub
end
end L2
namespace L2
open PySem PySem.Spec PyProof.Rows
section
variable{κ:Type}[DecidableEq κ]
noncomputable def gh(a:List (κ×V))(k:κ):Option V:=(a.find? λb=>decide (b.1=k)).map (·.2)
noncomputable def putK(a:List (κ×V))(k:κ)(v:V):List (κ×V):=if(a.any λb=>decide (b.1=k))=NM then a.map (λb=>if b.1=k then(b.1,v)else b)else a++[(k,v)]
theorem pF{p:κ×V}{r:List (κ×V)}{k:κ}(e:p.1=k):gh (p::r) k=NF p.2:=by simp[gh,RS,e]
theorem pG{p:κ×V}{r:List (κ×V)}{k:κ}(e:¬p.1=k):gh (p::r) k=gh r k:=by simp[gh,RS,e]
theorem kR(k:κ):∀a:List (κ×V),(a.any λb=>decide (b.1=k))=(gh a k).isSome
 |[]=>rfl|p::r=>by
  rw[Rv];by_cases e:p.1=k;.simp only[pF e,decide_eq_true e,Bool.true_or,WD]
  .rw[pG e,decide_eq_false e,Bool.false_or];exact kR k r
theorem gH.mT{o:Option V}{u:Option NJ}(r:gH o u):o.isSome=u.isSome:=by cases o with
 |none=>cases u with
  |none=>rfl|some _=>exact(show False from r).elim
 |some _=>cases u with
  |none=>exact(show False from r).elim|some _=>rfl
theorem KV.val{a:List (κ×V)}{vs:List (κ×NJ)}(r:KV a vs)(k:κ):gH (gh a k) (TC vs k):=by
 unfold KV at r;induction r with
 |nil=>exact Uk|@cons p q ps c h t g=>
  obtain⟨f,i⟩:=h;by_cases e:p.1=k
  .have d:q.1=k:=f.symm.trans e;have b:TC (q::c) k=NF q.2:=by simp[TC,RS,d]
   rw[pF e,b];exact i
  .have d:¬q.1=k:=λz=>e (f.trans z);have b:TC (q::c) k=TC c k:=by simp[TC,RS,d]
   rw[pG e,b];exact g
theorem KV.any{a:List (κ×V)}{vs:List (κ×NJ)}(r:KV a vs)(k:κ):(a.any λb=>decide (b.1=k))=vs.any λb=>decide (b.1=k):=by
 unfold KV at r;induction r with
 |nil=>rfl|cons h t c=>rw[Rv,Rv,c,h.1]
theorem KV.A5{b:List (κ×V)}{vs:List (κ×NJ)}(r:KV b vs)(k:κ){y:V}{u:NJ}(ry:RelV y u):KV (b.map λa=>if a.1=k then(a.1,y)else a) (vs.map λa=>if a.1=k then(a.1,u)else a):=by
 unfold KV at r⊢;induction r with
 |nil=>exact .nil|@cons p q ps g h t d=>
  rw[Ot,Ot];refine .cons ?_ d;obtain⟨c,f⟩:=h;by_cases e:p.1=k;.rw[if_pos e,if_pos (c.symm.trans e)];exact⟨c,ry⟩
  .rw[if_neg e,if_neg (λz=>e (c.trans z))];exact⟨c,f⟩
theorem KV.put{a:List (κ×V)}{vs:List (κ×NJ)}(r:KV a vs)(k:κ){y:V}{u:NJ}(ry:RelV y u):KV (putK a k y) (stored vs k u):=by
 unfold putK stored;rw[r.any k];by_cases e:(vs.any λb=>decide (b.1=k))=NM;.rw[if_pos e,if_pos e];exact r.A5 k ry
 .rw[if_neg e,if_neg e];exact Paired.snoc r ⟨rfl,ry⟩
end
theorem fx{P:N7}{w:Oq}{k:Key}{u:NJ}(r:RelV (kV k) u):(ar P w).is k u=NM:=by cases k with
 |inl i=>obtain⟨t,e⟩:=(show∃t,u=Q_ i t from r);subst e;exact jK P w i t|inr x=>obtain⟨t,e⟩:=(show∃t,u=W9 x t from r);subst e;exact pA P w x t
theorem mU{P:N7}{w:Oq}:∀{ks:List Key}{us:List NJ},aq (ks.map kV) us->ItemsAre (ar P w) ks us
 |[],_,r=>by rw[RJ]at r;cases r;exact .nil|k::ks,_,r=>by
  rw[Ot]at r;cases r with|cons h t=>exact .cons (fx h) (mU t)
section
variable{X:Cx}{pins:List (NR×OW)}{σ:St}{H:Hp}{s:NL}{a:NR}{y v:V}{u r:NJ}{o:Option V}{A:Ov}{E:NJ->NL->Prop}
theorem Inv.Dh(I:Inv X pins σ H s):Qi<s.heap.objs.size:=by
 have h:OQ<s.heap.objs.size:=(I.mod.glob.keeps I.bk).lt;exact T8 (by decide) h
end
end L2
namespace Att
open PySem PySem.W PySem.Calls PyProof.Rows
theorem j4{P:TX}{h:Oy}:∀(ns:List Int)(vs:List NJ),WellAll P h vs (ns.map WData.int)->QM vs ns:=by
 intro ns;induction ns with
 |nil=>
  intro vs w;rw[RJ]at w;cases w;exact .nil|cons n ns c=>
  intro vs w;rw[Ot]at w;cases w with|cons a b=>
   cases a;exact .cons _ _ (c _ b)
theorem v_{l:OpenLaw}{n:Nat}(u:l.most=NF n){P:TX}{h:Oy}{b:List WData}{vals:List NJ}(c:l.row.toRowW.claim.pre b=NM)(j:WellAll P h vals b):∃a vs ns,vals=[Of a]/\b=[WData.list (ns.map WData.int)]/\h.get? a=NF {cls:=.type "list",data:=.seq vs.toArray}/\QM vs ns/\ns.length<=n:=by
 have k:WShape.hasAll [] b [.list .int]=NM:=(pre_splitW c).1;have m:l.pre.holds [] {args:=b}=NM:=(pre_splitW c).2;obtain⟨d,r,rfl,x,w⟩:=hasAllW_cons k;obtain rfl:=hasAllW_nil w;obtain⟨y,rfl,v⟩:=hasW_list x;obtain⟨ns,rfl⟩:=items_int v;have e:ns.length<=n:=by
  unfold OpenLaw.pre at m;have i:(WTm.not (.lt (.lit (.int (n:Int))) (.len (.arg 0)))).holds [] {args:=[.list (ns.map .int)]}=NM:=by
   have i:=(holds_andW m).1;rw[u]at i;exact i
  have g:=condW_of i (w_not (w_lt w_lit (w_len_list (w_arg rfl))));rw[NY]at g;refine Nat.le_of_not_lt λq=>?_;have s:(n:Int)<((ns.length:Nat):Int):=by omega+splitNatSub
  first
   |(rw[decide_eq_true s]at g;exact absurd g (by decide))|(simp at g;omega+splitNatSub)
 cases j with|cons p o=>
  cases o;cases p with|list t f=>exact⟨_,_,ns,rfl,rfl,t,j4 ns _ f,e⟩
theorem wa(l:OpenLaw)(a:List WData):l.row.toRowW.claim.post a (.bool NM) a=NM:=postW_of (r:=l.row.toRowW) (X:=(NM==NM)) (show WShape.has [] (.bool NM) .bool=NM by first|rfl|decide|simp[WShape.has,WShape.arms,WShape.armsAll]) (show(WTm.eq .res (.lit (.bool NM))).value [] {args:=a,res:=NF (.bool NM),after:=a}=NF (.bool (NM==NM))from w_eq_bool (w_res rfl) w_lit) rfl
theorem pH{l:OpenLaw}{n:Nat}{q:N7}{c:List Oo}{C:(Oo->Option NJ)->Oy->Prop}{B:Oq->Oy->Prop}{d:DefRec}(H:l.most=NF n)(u:d.params.defaults=[])(call:∀(w:Oq)(br b:NL)(mg p:Oo->Option NJ)(k:NR)(o:OW)(m cd g:NJ)(a:NR)(vs:List NJ)(ns:List Int),Ground q c [] C w br mg p b.heap->B w b.heap->b.heap.get? k=NF o->o.data=.func (docDef d.name d.params d.body d.scope m cd g)->b.heap.CodeRec cd d.name->mg d.name=NF (.ref k)->b.heap.get? a=NF {cls:=.type "list",data:=.seq vs.toArray}->QM vs ns->ns.length<=n->b.gens=#[]->codeAny (N2 l.prog w) We (.call (.ref k) ⟨[.ref a],[]⟩) (λr s'=>r=.ok (.ret (.bool NM))/\OldK b.heap s'.heap/\s'.os=b.os/\Tz s'.gens) b):WalkO q c C B l.row.toRowW d [] (λf vs=>SI f vs):=by
 intro w br b mg p G Y k o m cd g O kV F hd v z t K A x as h y D s J;obtain rfl:O=.none:=Dflts.none z u;obtain rfl:kV=.none:=Dflts.noKw z;obtain⟨a,vs,ns,rfl,rfl,i,e,j⟩:=v_ H h s;refine enter_call (Ro (call w br b mg p k o m cd g a vs ns G Y F (fd_plain hd) v t i e j K) λr s' E=>?_);obtain⟨rfl,N,M,L⟩:=E;exact⟨.inl ⟨.bool NM,.bool NM,[],rfl,λ_=>rfl,.bool NM,wa l _,λ_=>⟨List.Pairwise.nil,λ_ I=>(nomatch I)⟩⟩,N,M,L⟩
end Att
namespace L2
open PySem PySem.Spec PyProof.Rows
theorem mV:∀{vs:List NJ}{ns:List Int},QM vs ns->aq (ns.map V.int) vs
 |_,_,.nil=>.nil|_,_,.cons n t h=>.cons ⟨t,rfl⟩ (mV h)
noncomputable def EM(H:Hp):Prop:=∀b,H b=NN\/∃o a,H b=NF (.bP o (.lst a))
theorem xS{P:N7}{w:Oq}{K:NS}{mg E:Oo->Option NJ}{CX:t_}{k:Nat}{M a:NR}{fd:PH}{x:Oo}{sp:Sp}{c:NL}{vs:List NJ}{ns:List Int}(U:K.In c.heap)(t:c.heap.Ns OQ mg)(hb:c.heap.Ns Vf E)(J:∀x:Oo,x≠"__name__"->E x=P7 x)(y:c.heap.NoLimit)(hg:c.gens=#[])(ha:c.heap.get? a=NF {cls:=.type "list",data:=.seq vs.toArray})(R:QM vs ns)(Q:ns.length<=NW)(Z:d9 k We)(F:∀base:Oy,K.In base->base.Ns OQ mg->dA P w K mg base CX k M fd [x] sp)(i:∀(s:NL)(u:NJ),XJ s fd ⟨[u],[]⟩ [(x,u)])(G:∀H:Hp,EM H->dy K H a (ns.map V.int)->sp [.ref a] H (λv _=>v=.bl NM) λ_ _ _=>False)(L:∀H e s',CX [] H c (λ_ _ _=>False) e s'->False):codeAny (N2 P w) We (.call (.ref M) ⟨[.ref a],[]⟩) (λr s'=>r=.ok (.ret (.bool NM))/\OldK c.heap s'.heap/\s'.os=c.os/\Tz s'.gens) c:=by
 have O:=mV R;have l:=R.length;have g:∀H:Hp,EM H->dy K H a (ns.map V.int)->iq P w H c.heap->(∀b,H b≠NN->b=a)->(H a≠NN->K.lookup a=NN)->codeAny (N2 P w) We (.call (.ref M) ⟨[.ref a],[]⟩) (λr s'=>r=.ok (.ret (.bool NM))/\OldK c.heap s'.heap/\s'.os=c.os/\Tz s'.gens) c:=by
  intro H S hS aD hA hK;have iF:∀{b:NR}{o:OW},c.heap.get? b=NF o->H b=NN->(nN c.heap H).get? b=NF o:=λe n=>xA e n;have D:∀{b:NR}{o:OW}{B:Array SN}{C:Nat},c.heap.get? b=NF o->o.data=.dict B C->H b=NN:=λ{b o B C}e d=>by cases q:H b with
   |none=>rfl|some u=>
    have N:b=a:=hA b (by rw[q];simp);subst N;rw[ha]at e;cases e;have d':Data.seq vs.toArray _=Data.dict B C:=d;cases d'
  have f:∀{b:NR}{m:Oo->Option NJ},c.heap.Ns b m->(nN c.heap H).Ns b m:=λ{b m}⟨o,B,C,e,d,r⟩=>⟨o,B,C,iF e (D e d),d,r⟩;have A:K.In (nN c.heap H):=λb o e=>iF (U b o e) (by cases q:H b with
   |none=>rfl|some u=>
    have N:b=a:=hA b (by rw[q];simp);subst N;rw[hK (by rw[q];simp)]at e;cases e);have hM:Mod K mg (nN c.heap H):=⟨A,f t,⟨E,f hb,J⟩,let⟨mc,h1,h2⟩:=y;⟨mc,f h1,h2⟩⟩;have e0:AV P w K mg (nN c.heap H) We [] c H:=⟨rfl,hM,λb o e=>AI e,Vo (vT _ _),trivial,λb hb=>absurd (show b∈([]:List NR)from hb) (by simp),aD,.of_eq hg⟩;refine Ro ((F _ A (f t)).run We [] c H ⟨[.ref a],[]⟩ [.ref a] [.ref a] _ _ Z e0 (i c (.ref a)) (.cons rfl .nil) (G H S hS)) λr s' h=>?_;cases r with
  |error e=>exact(L H e s' h).elim|ok fl=>cases fl with
   |next=>exact PZ h|brk=>exact PZ h|cont=>exact PZ h|ret u=>
    obtain⟨v,H',os,bare,un,p,X,q⟩:=h;have Y:v=.bl NM:=q;subst Y;obtain rfl:u=Uh NM:=X;refine⟨rfl,OldK.of_keep λb o e=>?_,os,bare⟩;cases q:H b with
    |none=>exact un.keep b o e q (by intro z;exact absurd (show b∈([]:List NR)from z) (by simp)) (by simp)|some u=>
     rcases S b with z|⟨ob,xs,z⟩;.rw[q]at z;cases z
     .have W:=un.gc b ob _ z;obtain⟨T,_⟩:=aD b _ z;obtain⟨e2,_⟩:=p b _ W;rw[e]at T;cases T;exact e2
 cases I:K.lookup a with
 |some o=>
  have e:=U a o I;rw[ha]at e;cases e;refine g (λ_=>NN) (λ_=>.inl rfl) (.inr ⟨_,vs.toArray,_,I,rfl,rfl,rfl,by rw[N5,l];exact Q,by simpa using O⟩) (λb u z=>by have j:(NN:Option HO)=NF u:=z;cases j) (λb z=>absurd rfl z) λz=>absurd rfl z|none=>
  refine g (λb=>if b=a then NF (.bP {cls:=.type "list",data:=.seq vs.toArray} (.lst (ns.map V.int)))else NN) (λb=>?_) (.inl (.inr ⟨{cls:=.type "list",data:=.seq vs.toArray},if_pos rfl⟩)) (λb u z=>?_) (λb z=>?_) λ_=>I
  .by_cases hb:b=a;.exact .inr ⟨_,_,if_pos hb⟩
   .exact .inl (if_neg hb)
  .by_cases hb:b=a
   .have j:=(if_pos hb).symm.trans z;cases j;subst hb;exact⟨ha,by rw[NY];exact Q,vs,_,O,ha⟩
   .have j:=(if_neg hb).symm.trans z;cases j
  .by_cases hb:b=a;.exact hb
   .exact absurd (if_neg hb) z
end L2
namespace L2
open PySem PySem.Spec PyProof.Rows
theorem A6{l:PySem.W.OpenLaw}{n k:Nat}{q:N7}{i:List Oo}{R:(Oo->Option NJ)->Oy->Prop}{C:Oq->Oy->Prop}{d:DefRec}{K:TX->NS}{CX:Oq->t_}{sp:Oq->Sp}{x:Oo}(I:l.most=NF n)(y:n<=NW)(A:d.params.defaults=[])(E:d9 k We)(M:∀(w:Oq)(h:Oy),C w h->(K w.params).In h)(F:∀(w:Oq)(mg:Oo->Option NJ)(r:NR)(h:Oy),(K w.params).In h->h.Ns OQ mg->mg d.name=NF (.ref r)->∃fd:PH,(∀(s:NL)(u:NJ),XJ s fd ⟨[u],[]⟩ [(x,u)])/\∀base:Oy,(K w.params).In base->base.Ns OQ mg->dA l.prog w (K w.params) mg base (CX w) k r fd [x] (sp w))(t:∀(w:Oq)(H:Hp)(a:NR)(ns:List Int),ns.length<=n->EM H->dy (K w.params) H a (ns.map V.int)->sp w [.ref a] H (λv _=>v=.bl NM) λ_ _ _=>False)(B:∀(w:Oq)(H:Hp)(s:NL)(e:NJ)(s':NL),CX w [] H s (λ_ _ _=>False) e s'->False):PySem.W.WalkO q i R C l.row.toRowW d [] (λf vs=>SI f vs):=by
 refine Att.pH I A λw br m mg U r o S cd Q a vs ns G Y X hd L z p j c J=>?_;have D:=M w _ Y;obtain⟨fd,hb,P⟩:=F w mg r _ D G.T.g z;exact xS D G.T.g G.T.b G.T.builtins G.T.nolimit J p j (OC c y) E P hb (λH O N=>t w H a ns c O N) λH e s'=>B w H m e s'
end L2
namespace L2
open PySem PySem.Spec PyProof.Rows
noncomputable def di(s:Qq):U0:=match s with
 |.FunctionDef _ a _ _ _ _ _ _ _ _=>a|_=>{posonlyargs:=[],args:=[],vararg:=NN,kwonlyargs:=[],kw_defaults:=[],kwarg:=NN,defaults:=[]}
noncomputable def b5(s:Qq):List Qq:=match s with
 |.FunctionDef _ _ b _ _ _ _ _ _ _=>b|_=>[]
noncomputable def ak(s:Qq):Qr:=match s with
 |.FunctionDef _ _ _ _ _ _ sc _ _ _=>sc|_=>{kind:=.function,names:=[],isGenerator:=NP,isCoroutine:=NP}
noncomputable abbrev wb:t_:=λ_ _ _ _ _ _=>False
noncomputable abbrev E0:XK:=λ_ _ _=>False
theorem IC{X:Cx}:sk wb X E0:=λ_ _ _ _ _ _ _ h=>h.elim
structure xT(K:NS)(x qual:Oo)(st:Qq)(f:NR)(fd:PH):Prop where
 ex:∃(oc:NJ)(od:Option NR)(kV doc pm:NJ)(an:Option NR)(cdv ct:NJ)(osl:Array (Option NJ)),fd=Vk x qual (di st) (b5 st) (ak st) .none kV doc pm an cdv ct/\K.lookup f=NF ⟨oc,od,.func fd,osl⟩/\Qk K cdv qual=NM
 kp:R9 K (.ref f)=NM
section
variable{P:N7}{w:Oq}{K:NS}{mg:Oo->Option NJ}{base:Oy}
theorem xT.ok{x a:Oo}{st:Qq}{f:NR}{fd:PH}{N ps:List Oo}{k:Nat}{sp:Sp}(F:xT K x a st f fd)(S:cR N ps (ak st))(len:∀vs H Q E,sp vs H Q E->vs.length=ps.length)(c:∀(b:NJ)(A:Ov)(outer:List Uc)(s:NL)(H:Hp)(vs:List V)(Q:VK)(E:XK),d9 k (A.deeper (UT a (ak st) s.heap.objs.size f b))->sp vs H Q E->∃t,ph (j3 wb P w K mg base N a (ak st) f b A outer s H E).K0 (b5 st) t/\t {nx:=λ_ H'=>Q .aU H',rt:=Q} (start N vs) H):dA P w K mg base wb (k+1) f fd ps sp:=by
 obtain⟨n,m,kV,j,l,o,b,ct,g,rfl,lk,e⟩:=F.ex;refine xK lk e S len λA outer s H vs Q E i d=>?_;obtain⟨t,h,q⟩:=c b A outer s H vs Q E i d;exact⟨t,h.K0,q⟩
end
theorem ID{A:Ov}{k:Nat}(a:d9 k A):A.units+1<Pj:=RK (Nat.add_le_add_left (by decide:1<=64) _) a.units
section
variable{X:Cx}
theorem pv(i:Nat){x:Oo}{pos:P8}(hN:X.N[i]?=NF x:=by rfl)(b:t4 X.env.scope x:=by first|exact SY rfl|exact Um (SY rfl)|exact Um (Um rfl))(hd:(x==("__debug__":Oo))=NP:=by decide)(a:(x==("__classdict__":Oo))=NP:=by decide):PE X (.Name x pos) (HX i):=d7 hN b hd a
end
theorem LQ{A B:Prop}(h:B):if NP=NM then A else B:=by
 rw[if_neg O9];exact h
theorem A7{c A B:Prop}[Decidable c](b:c->A)(a:¬c->B):if c then A else B:=by
 by_cases h:c
 .rw[if_pos h];exact b h
 .rw[if_neg h];exact a h
noncomputable def sx(H H':Hp):Prop:=∀b o,H b=NF o->H' b=NF o
end L2
namespace L2
open PySem PySem.Spec PyProof.Rows
abbrev NK:=Key⊕List Key
section
variable{prog:N7}{w:Oq}
inductive aO(prog:N7)(w:Oq)(h:Oy):List NK->List NJ->Prop|nil:aO prog w h [] []|sc{k:Key}{v:NJ}{ks:List NK}{vs:List NJ}:(ar prog w).is k v=NM->aO prog w h ks vs->aO prog w h (.inl k::ks) (v::vs)|tp{k:List Key}{b:NR}{ks:List NK}{vs:List NJ}:IsTupleKey (ar prog w) h k b->aO prog w h ks vs->aO prog w h (.inr k::ks) (.ref b::vs)
noncomputable def bE(prog:N7)(w:Oq)(h:Oy)(ks:List NK)(a:NR):Prop:=∃o items n,h.get? a=NF o/\o.cls=.type "tuple"/\o.data=.seq items n/\aO prog w h ks items.toList
theorem aO.inj{h:Oy}{x y:List NK}{vs:List NJ}(hx:aO prog w h x vs)(hy:aO prog w h y vs):x=y:=by induction hx generalizing y with
 |nil=>cases hy;rfl|sc c _ d=>cases hy with
  |sc a b=>rw[(ar prog w).inj _ _ _ c a,d b]|tp a b=>have:=(ar prog w).byValue _ _ c;cases this
 |tp c _ d=>cases hy with
  |sc a b=>have:=(ar prog w).byValue _ _ a;cases this|tp a b=>rw[c.inj a,d b]
theorem bE.typeIs{s:NL}{ks:List NK}{a:NR}(x:bE prog w s.heap ks a):s.TypeIs (.ref a) "tuple":=let⟨o,_,_,b,c,_⟩:=x;⟨o,b,c⟩
theorem bE.inj{h:Oy}{a:NR}{x y:List NK}(hx:bE prog w h x a)(hy:bE prog w h y a):x=y:=by
 obtain⟨o,items,n,g,_,hd,i⟩:=hx;obtain⟨f,c,k,d,_,b,e⟩:=hy;obtain rfl:o=f:=NU (g.symm.trans d);rw[hd]at b;injection b with j _;subst j;exact i.inj e
theorem aO.keeps{h h':Oy}{d:NR}{o:OW}{es ep}{x:List NK}{vs:List NJ}(hx:aO prog w h x vs)(e:h.get? d=NF o)(hd:o.data=.dict es ep)(c:PF d h h'):aO prog w h' x vs:=by induction hx with
 |nil=>exact .nil|sc b _ a=>exact .sc b a|tp b _ a=>exact .tp (b.keeps e hd c) a
theorem bE.keeps{h h':Oy}{ks:List NK}{a d:NR}{o:OW}{es ep}(x:bE prog w h ks a)(i:h.get? d=NF o)(hd:o.data=.dict es ep)(g:PF d h h'):bE prog w h' ks a:=by
 obtain⟨f,items,n,c,k,b,j⟩:=x;have e:a≠d:=by
  rintro rfl;obtain rfl:f=o:=NU (c.symm.trans i);rw[hd]at b;exact nomatch b
 exact⟨f,items,n,(g.2 a e).trans c,k,b,j.keeps i hd g⟩
noncomputable def gu(prog:N7)(w:Oq):NK->Int
 |.inl k=>(ar prog w).hash k|.inr ks=>tupleKeyHash (ar prog w) ks
noncomputable def kS(prog:N7)(w:Oq)(ks:List NK):Int:=reduceHash (PY (ks.map (gu prog w)))
noncomputable def IE:NK->Nat
 |.inl _=>1|.inr ks=>ks.length+1
noncomputable def fi:List NK->Nat
 |[]=>0|k::ks=>IE k+fi ks
theorem kT(a:List NK)(k:NK):fi (a++[k])=fi a+IE k:=by induction a with
 |nil=>simp[fi]|cons x r b=>simp[fi,b,Sw]
variable{A:Ov}{E:NJ->NL->Prop}{s:NL}
theorem in1_units{A:Ov}(h:A.units+1<Pj):A.in1.units<Pj:=h
theorem wc{ks:List NK}{a:NR}{Q:Int->NL->Prop}(hu:A.units+1<Pj)(t:bE prog w s.heap ks a)(h:Q (kS prog w ks) {s with toks:=s.toks+(fi ks+1)}):wpAny (N2 prog w) A (pyHash (.ref a)) Q E s:=by
 have m:=t.typeIs;obtain⟨o,items,n,u,_,hd,v⟩:=t;unfold pyHash;first|unfold pyHashByItsType|skip
 first|refine NG (wpAny_cRoomFor_or (.inr (by omega)) ?_)|skip
 refine NG (RT m PySem.F.slot_tuple_hash.lookup ?_);show wpAny _ _ (if(NF (Sx "tuple.__hash__")==NF Oz)=NM then _ else _) Q E s;rw[if_neg (by rw[beq_builtin_none];exact O9)];refine NG (RT m PySem.F.slot_tuple_hash.lookup ?_);show wpAny _ _ (callSpecialIfBoundUnlessNone? (.ref a) "__hash__" _>>=_) Q E s;refine NG (wpAny_callSpecialIfBoundUnlessNone?_slot m U4 (O7 U4 m PySem.F.entry_tuple_hash ?_ (PySem.F.args_tuple_hash_1 _)));show wpAny _ _ (Uo (.ref a)>>=_) _ _ s;refine NG (Uq u hd ?_);refine NG ?_;rw[<-Ur];refine QB _ (λrest(b:Array Int)p=>∃done left,ks=done++left/\aO prog w s.heap left rest/\b.toList=done.map (gu prog w)/\p={s with toks:=s.toks+fi done}) _ ?_ ?_ _ _ ⟨[],ks,rfl,v,rfl,rfl⟩
 .rintro x rest b p⟨done,left,rfl,q,hb,rfl⟩;cases q with
  |@sc k _ g _ r j=>
   refine NG ((ar prog w).pyHash r ?_);have i:∃d e,done++.inl k::g=d++e/\aO prog w s.heap e rest/\(b.push ((ar prog w).hash k)).toList=d.map (gu prog w)/\({s with toks:=s.toks+fi done+1}:NL)={s with toks:=s.toks+fi d}:=⟨done++[.inl k],g,by simp,j,by simp[hb,gu],by rw[kT];rfl⟩;first
    |exact NO i|exact NG (NO (NO i))
  |@tp k c g _ r j=>
   refine NG (wpAny_pyHash_tuple (in1_units hu) r ?_);have i:∃d e,done++.inr k::g=d++e/\aO prog w s.heap e rest/\(b.push (tupleKeyHash (ar prog w) k)).toList=d.map (gu prog w)/\({s with toks:=s.toks+fi done+(k.length+1)}:NL)={s with toks:=s.toks+fi d}:=⟨done++[.inr k],g,by simp,j,by simp[hb,gu],by rw[kT,Sw];rfl⟩;first
    |exact NO i|exact NG (NO (NO i))
 .rintro b p⟨done,left,rfl,q,hb,rfl⟩;cases q;rw[Pn]at h;show wpAny _ _ (retInt (PY b.toList)) _ _ _;rw[hb];refine wpAny_ret_mkInt ?_;show wpAny _ _ (if(decide (-(2:Int)^63<=PY (done.map (gu prog w)))&&decide (PY (done.map (gu prog w))<2^63))=NM then _ else _) Q E _;unfold kS reduceHash at h;by_cases l:(decide (-(2:Int)^63<=PY (done.map (gu prog w)))&&decide (PY (done.map (gu prog w))<2^63))=NM
  .rw[if_pos l];rw[if_pos l]at h;exact NO (by simpa[Sw]using h)
  .rw[if_neg l];rw[if_neg l]at h;exact NG (Tu (NO (by simpa[Sw]using h)))
theorem ud{k:Key}{v:NJ}(h:(ar prog w).is k v=NM):(∃i t,v=.int i t/\k=.inl i)\/∃x t,v=.str x t/\k=.inr x:=by
 rcases aN (k:=k) (v:=v) h with⟨i,t,b,a⟩|⟨i,t,b,a⟩;.exact .inl ⟨i,t,a,b⟩
 .exact .inr ⟨i,t,a,b⟩
theorem IsTupleKey.tup{h:Oy}{k:List Key}{b:NR}(x:IsTupleKey (ar prog w) h k b):∃items,h.IsTuple b items:=let⟨o,items,n,a,c,hd,_⟩:=x;⟨items,o,a,c,n,hd⟩
theorem aO.two{x y:List NK}{xs r:List NJ}{u v:NJ}{rest:List (NJ×NJ)}(hu:A.units<Pj)(hx:aO prog w s.heap x xs)(hy:aO prog w s.heap y r)(c:(u,v)::rest=List.zip xs r):∃n m F D g f,x=n::F/\y=m::D/\xs=u::g/\r=v::f/\rest=List.zip g f/\aO prog w s.heap F g/\aO prog w s.heap D f/\∀(Q:Bool->NL->Prop),Q (decide (n=m)) s->wpAny (N2 prog w) A (eqBool u v) Q E s:=by cases hx with
 |nil=>simp at c|@sc k I G B p l=>cases hy with
  |nil=>simp at c|@sc d H z e j h=>
   simp only[O_,RU,Rw]at c;obtain⟨⟨rfl,rfl⟩,rfl⟩:=c;refine⟨_,_,_,_,_,_,rfl,rfl,rfl,rfl,rfl,l,h,λQ q=>(ar prog w).eqBool (a:=k) (b:=d) p j ?_⟩;rw[show decide (k=d)=decide ((Tx k:NK)=Tx d)by simp];exact q|@tp d b z e j h=>
   simp only[O_,RU,Rw]at c;obtain⟨⟨rfl,rfl⟩,rfl⟩:=c;refine⟨_,_,_,_,_,_,rfl,rfl,rfl,rfl,rfl,l,h,λQ q=>?_⟩;rw[decide_eq_false (by simp)]at q;obtain⟨C,o⟩:=IsTupleKey.tup j;rcases ud p with⟨i,t,rfl,_⟩|⟨i,t,rfl,_⟩;.exact VZ i t o hu prog w E Q q
   .exact V0 i t o hu prog w E Q q
 |@tp k b1 G B p l=>cases hy with
  |nil=>simp at c|@sc d H z e j h=>
   simp only[O_,RU,Rw]at c;obtain⟨⟨rfl,rfl⟩,rfl⟩:=c;refine⟨_,_,_,_,_,_,rfl,rfl,rfl,rfl,rfl,l,h,λQ q=>?_⟩;rw[decide_eq_false (by simp)]at q;obtain⟨C,o⟩:=IsTupleKey.tup p;rcases ud j with⟨i,t,rfl,_⟩|⟨i,t,rfl,_⟩;.exact V1 i t o hu prog w E Q q
   .exact V2 i t o hu prog w E Q q|@tp d b z e j h=>
   simp only[O_,RU,Rw]at c;obtain⟨⟨rfl,rfl⟩,rfl⟩:=c;refine⟨_,_,_,_,_,_,rfl,rfl,rfl,rfl,rfl,l,h,λQ q=>WE hu p j ?_⟩;rw[show decide (k=d)=decide ((UD k:NK)=UD d)by simp];exact q
theorem aO.length{h:Oy}{x:List NK}{xs:List NJ}(hx:aO prog w h x xs):x.length=xs.length:=by induction hx with
 |nil=>rfl|sc _ _ a=>simp[a]|tp _ _ a=>simp[a]
theorem A8{x y:List NK}{a b:NR}{P:PySem.Fin->NL->Prop}(hu:A.units<Pj)(hx:bE prog w s.heap x a)(hy:bE prog w s.heap y b)(h:P (.done (.ret (.bool (decide (x=y))))) s):wpAny (N2 prog w) A (Builtin.«tuple.__eq__» ⟨[.ref a,.ref b],[]⟩) P E s:=by
 have S:=hy.typeIs;obtain⟨W,G,Y,L,_,R,O⟩:=hx;obtain⟨ob,F,X,K,_,Q,N⟩:=hy;show wpAny _ _ (Us (.ref b) (.type "tuple")>>=_) _ _ s;refine NG (RD S Tq ?_);simp only[Pz,Oh,if_false];refine NG (Uq L R ?_);refine NG (Uq K Q ?_);refine NG ?_;refine QB _ (λrest r H=>r.1=NN/\H=s/\∃q j e d,rest=List.zip e d/\aO prog w s.heap q e/\aO prog w s.heap j d/\decide (q=j)=decide (x=y)/\(e.length==d.length)=(G.size==F.size)) _ ?_ ?_ _ _ ⟨rfl,rfl,x,y,G.toList,F.toList,rfl,O,N,rfl,by simp⟩
 .rintro⟨u,v⟩rest r H⟨J,rfl,q,j,e,d,I,i,g,c,f⟩;obtain⟨n,m,p,l,o,k,rfl,rfl,rfl,rfl,rfl,C,z,ask⟩:=i.two (E:=E) hu g I;refine NG (ask _ ?_);by_cases M:n=m
  .subst M;rw[decide_eq_true rfl];simp only[Pz,Oh,if_false];refine NO ⟨rfl,rfl,p,l,o,k,rfl,C,z,?_,by simpa using f⟩;rw[<-c];by_cases B:p=l;.simp[B]
   .simp[B]
  .rw[decide_eq_false M];simp only[Bool.not_false,if_true];have T:decide (x=y)=NP:=by rw[<-c];simp[M]
   rw[T]at h;exact NG (NO (NO (NO h)))
 .rintro⟨V,U⟩H⟨J,rfl,q,j,e,d,I,i,g,c,f⟩;simp only at J;subst J;refine NO ?_;have D:(G.size==F.size)=decide (x=y):=by
   rw[<-c,<-f,<-i.length,<-g.length];have t:=congrArg Qc I;simp only[Ox,List.length_zip,<-i.length,<-g.length]at t;cases q with
   |nil=>cases j<;>simp|cons _ _=>cases j with
    |nil=>simp|cons _ _=>simp at t
  show P (.done (.ret (.bool (G.size==F.size)))) H;rw[D];exact h
theorem A9{x y:List NK}{a b:NR}{Q:Bool->NL->Prop}(hu:A.units+1<Pj)(hx:bE prog w s.heap x a)(hy:bE prog w s.heap y b)(h:Q (decide (x=y)) s):wpAny (N2 prog w) A (eqBool (.ref a) (.ref b)) Q E s:=by
 unfold eqBool;try with_reducible refine OE ?_
 show wpAny _ _ (if(Of a==Of b)=NM then _ else _) Q E s;by_cases c:(Of a==Of b)=NM
 .rw[if_pos c];have e:a=b:=by have:=eq_of_beq c;injection this
  subst e;obtain rfl:=hx.inj hy;exact NG (Tu (NO (by simpa using h)))
 .rw[if_neg c];exact NG (wpAny_richCompare_same_room (op:=.Eq) hx.typeIs hy.typeIs VI (O7 VI hx.typeIs PySem.F.entry_tuple_eq (A8 (in1_units hu) hx hy ⟨_,rfl,(λe=>nomatch e),QV h⟩) (PySem.F.args_tuple_eq_2 _ _)) (by omega))
theorem wd(n:Nat){ks:List Key}{a:NR}{Q:Bool->NL->Prop}(f:IsTupleKey (ar prog w) s.heap ks a)(h:Q NM s):wpAny (N2 prog w) A (Xa (n+1) (.ref a)) Q E s:=by
 have g:=f.typeIs;obtain⟨o,items,m,i,_,hd,j⟩:=f;unfold Xa;refine NG (RT g PySem.F.slot_tuple_eq.lookup ?_);show wpAny _ _ (Us (.ref a) (.type "tuple")>>=_) _ _ s;refine NG (RD g Tq ?_);simp only[Pz,Oh,if_false];refine NG (Ql i hd ?_);refine NG ?_;show wpAny _ _ (forIn items _ _) _ _ s;rw[<-Ur];refine QB _ (λrest r c=>r.1=NN/\c=s/\∀v∈rest,carriedByValue v=NM) _ ?_ ?_ _ _ ⟨rfl,rfl,j.byValue⟩
 .rintro v rest r c⟨e,rfl,b⟩;rw[WT _ (b v NV)];refine NG (NO ?_);simp only[Pz,Oh,if_false];exact NO ⟨rfl,rfl,λu d=>b u (NX _ d)⟩
 .rintro⟨l,k⟩c⟨e,rfl,_⟩;simp only at e;subst e;exact NO h
theorem sy{ks:List NK}{a:NR}{Q:Bool->NL->Prop}(e:bE prog w s.heap ks a)(h:Q NM s):wpAny (N2 prog w) A (Xa 8 (.ref a)) Q E s:=by
 have f:=e.typeIs;obtain⟨o,items,m,g,_,hd,j⟩:=e;unfold Xa;refine NG (RT f PySem.F.slot_tuple_eq.lookup ?_);show wpAny _ _ (Us (.ref a) (.type "tuple")>>=_) _ _ s;refine NG (RD f Tq ?_);simp only[Pz,Oh,if_false];refine NG (Ql g hd ?_);refine NG ?_;show wpAny _ _ (forIn items _ _) _ _ s;rw[<-Ur];refine QB _ (λrest r b=>r.1=NN/\b=s/\∃ks,aO prog w s.heap ks rest) _ ?_ ?_ _ _ ⟨rfl,rfl,ks,j⟩
 .rintro v rest r b⟨c,rfl,ks,i⟩;cases i with
  |sc d t=>
   rw[WT _ ((ar prog w).byValue _ _ d)];refine NG (NO ?_);simp only[Pz,Oh,if_false];exact NO ⟨rfl,rfl,_,t⟩|tp d t=>
   refine NG (wd 6 d ?_);simp only[Pz,Oh,if_false];exact NO ⟨rfl,rfl,_,t⟩
 .rintro⟨l,k⟩b⟨c,rfl,_⟩;simp only at c;subst c;exact NO h
end
noncomputable def bJ(prog:N7)(w:Oq):HeapKind prog w (List NK)where
 is:=bE prog w;hash:=kS prog w;draws:=λks=>fi ks+1;room:=λA=>A.units+1<Pj;inj:=λhx hy=>hx.inj hy;keeps:=λx c hd b=>x.keeps c hd b;pyHash:=λhu a h=>wc hu a h;eqBool:=λhu hx hy h=>A9 hu hx hy h;quiet:=λa h=>sy a h
theorem du{prog:N7}{w:Oq}{A:Ov}(hu:A.units+2<Pj):(bJ prog w).room A.in1:=hu
structure IF(X:Cx)(scope:Qr)(cl:List (Oo×NR)):Prop where
 IG:Xv scope X.env=pure cl
 sub:∀x c,cl.lookup x=NF c->X.env.cells.lookup x=NF c
 has:∀x,scope.names.lookup x=NF .free->(∃c,cl.lookup x=NF c)/\(X.env.kindOf x=NF .cell\/X.env.kindOf x=NF .free)kind:scope.kind=.function
 cells:∀y∈scope.names,y.2=.cell->scope.names.lookup y.1=NF .cell
 names:∀y∈scope.names,y.2=.local->scope.names.lookup y.1=NF .local
noncomputable def dP(X:Cx)(pins:List (NR×OW))(a:Qr)(N:List Oo)(cl:List (Oo×NR))(C:NR)(b:List NR)(s:NL)(H:Hp):Cx:={X with N:=N,br:=s,gL:=H,env:=compEnvC a cl C X.env,outer:=X.stack,stack:=X.stack,ex:=b,fn:=λx=>a.names.lookup x==NF .cell,pn:=X.pn++pins,xe:=λ_ _=>False}
theorem dB{env:Uc}:∀{names:List (Oo×Rb)}{x:Oo}{k:Rb},(names.map λ(n,k)=>if(k==PQ&&env.scope.kind==.function&&env.kindOf n==NF .cell)then(n,PB)else(n,k)).lookup x=NF k->(k=.cell\/k=.free)->names.lookup x=NF .free\/names.lookup x=NF .cell
 |[],_,_,h,_=>by simp at h|(n,b)::r,x,k,h,c=>by
  have d:=@dB env r x k;have h:Xh x ((if(b==PQ&&env.scope.kind==.function&&env.kindOf n==NF .cell)=NM then(n,PB)else(n,b))::_)=NF k:=h;cases hx:x==n with
  |true=>
   by_cases a:(b==PQ&&env.scope.kind==.function&&env.kindOf n==NF .cell)=NM
   .rw[if_pos a]at h;simp only[N0,beq_iff_eq]at a;simp only[OP,hx];exact .inl (by rw[a.1.1])
   .rw[if_neg a]at h;simp only[OP,hx]at h⊢;cases h;rcases c with z|z;.exact .inr (by rw[z])
    .exact .inl (by rw[z])|false=>
   by_cases a:(b==PQ&&env.scope.kind==.function&&env.kindOf n==NF .cell)=NM
   .rw[if_pos a]at h;simp only[OP,hx]at h⊢;exact d h c
   .rw[if_neg a]at h;simp only[OP,hx]at h⊢;exact d h c
theorem iG:∀(names:List (Oo×Rb))(n:Nat)(a:List (Oo×NR)),(∀x c,a.lookup x=NF c->c<n)->(∀x y c,a.lookup x=NF c->a.lookup y=NF c->x=y)->(∀x y c,(Qp n names a).lookup x=NF c->(Qp n names a).lookup y=NF c->x=y)/\∀x c,(Qp n names a).lookup x=NF c->(a.lookup x=NF c/\(x,PB)∉names)\/(n<=c/\(x,PB)∈names/\∀h:Oy,h.objs.size=n->(Ra h names).IsCell c NN)
 |[],n,a,_,k=>⟨k,λx c e=>.inl ⟨e,by simp⟩⟩|(b,kind)::r,n,a,hb,k=>by
  by_cases s:kind=.cell
  .subst s;have t:Qp n ((b,PB)::r) a=Qp (n+1) r ((b,n)::a):=rfl;have lk:∀x c,((b,n)::a).lookup x=NF c->(x=b/\c=n)\/(x≠b/\a.lookup x=NF c):=λx c e=>by
    rw[OP]at e;cases hx:x==b with
    |true=>rw[hx]at e;cases e;exact .inl ⟨beq_iff_eq.mp hx,rfl⟩|false=>rw[hx]at e;exact .inr ⟨by simpa using hx,e⟩
   obtain⟨p,o⟩:=iG r (n+1) ((b,n)::a) (λx c e=>by
    rcases lk x c e with⟨_,z⟩|⟨_,z⟩;.rw[z];exact OY n
    .exact Pu (hb x c z)) (λx y c w v=>by
    rcases lk x c w with⟨f,d⟩|⟨_,d⟩<;>rcases lk y c v with⟨m,g⟩|⟨_,g⟩;.rw[f,m]
    .exact absurd (hb y c g) (by rw[d];exact OD n)
    .exact absurd (hb x c d) (by rw[g];exact OD n)
    .exact k x y c d g);rw[t];refine⟨p,λx c e=>?_⟩;rcases o x c e with⟨f,d⟩|⟨f,d,l⟩
   .rcases lk x c f with⟨rfl,rfl⟩|⟨m,g⟩
    .refine .inr ⟨NZ _,NV,λh i=>?_⟩;show(Ra (h.push {cls:=.type "cell",data:=.cell NN}) r).IsCell c NN;exact⟨_,SA r _ _ _ (i▸N4 _ rfl),rfl⟩
    .refine .inl ⟨g,λq=>?_⟩;rcases List.mem_cons.mp q with q|q;.exact m (Prod.mk.inj q).1
     .exact d q
   .refine .inr ⟨Nat.le_of_succ_le f,NX _ d,λh i=>?_⟩;show(Ra (h.push {cls:=.type "cell",data:=.cell NN}) r).IsCell c NN;exact l _ (by rw[OS,i])
  .have j:(kind==PB)=NP:=beq_eq_false_iff_ne.mpr s;have t:Qp n ((b,kind)::r) a=Qp n r a:=by
    show(if kind==PB then _ else _)=_;rw[j];rfl
   have u:∀h:Oy,Ra h ((b,kind)::r)=Ra h r:=λh=>by
    show(if kind==PB then _ else _)=_;rw[j];rfl
   obtain⟨p,o⟩:=iG r n a hb k;rw[t];refine⟨p,λx c e=>?_⟩;rcases o x c e with⟨f,d⟩|⟨f,d,l⟩
   .refine .inl ⟨f,λq=>?_⟩;rcases List.mem_cons.mp q with q|q;.exact s (Prod.mk.inj q).2.symm
    .exact d q
   .exact .inr ⟨f,NX _ d,λh i=>by rw[u];exact l h i⟩
structure A_(X:Cx)(scope:Qr)(s:NL)(C:NR)(h':Oy)(cs:List (Oo×NR)):Prop where
 inj:∀x y c,cs.lookup x=NF c->cs.lookup y=NF c->x=y
 sub:∀x c,cs.lookup x=NF c->(X.env.cells.lookup x=NF c/\scope.names.lookup x≠NF .cell)\/(s.heap.objs.size<=C/\C<c/\h'.IsCell c NN)free:∀x c,cs.lookup x=NF c->scope.names.lookup x=NF .free->X.env.cells.lookup x=NF c
 has:∀x,scope.names.lookup x=NF .cell\/scope.names.lookup x=NF .free->∃c,cs.lookup x=NF c
theorem iH{M:To}{A:Ov}{E:NJ->NL->Prop}{s:NL}{a:Qr}{globals:NR}{cl:List (Oo×NR)}{c:Oo}{b:Uc}{Q:Uc->NL->Prop}(h:Q (newEnv a s.heap.objs.size globals (Qp (s.heap.objs.size+1) a.names cl) c NN .none (NF b) Vf) {s with heap:=Ra (s.heap.push {cls:=.type "dict",data:=.dict #[]}) a.names}):wpAny M A (newFunctionEnv a globals cl [] c NN .none (NF b)) Q E s:=by
 simp only[newFunctionEnv,WD,if_true];refine NG (Xi ?_);refine NG (wpAny_layCells _ (λe kind cells=>by cases d:kind==PB<;>simp[d]) _ _ _ _ ?_);rw[S7];refine NG (NO (NO ?_));rw[show({s with heap:=s.heap.push {cls:=.type "dict",data:=.dict #[]}}:NL).heap.objs.size=s.heap.objs.size+1 from OS ..];exact h
section
variable{X:Cx}{pins:List (NR×OW)}{σ:St}{H H':Hp}{s s':NL}{cs:List (Oo×NR)}{fp:List NR}{scope:Qr}{cl:List (Oo×NR)}{own fr:List Oo}{js:List Nat}{C:NR}{h':Oy}
noncomputable def bw(σ:St)(n:Nat)(js:List Nat):St:=OV n NN++js.map λj=>(σ[j]?).join
theorem nX(I:Inv X pins σ H s)(a:∀b∈fp,fu X pins H b):∀b∈fp,b∉gf X.stack:=λb hb z=>by
 obtain⟨_,d,c,_⟩:=a b hb;rcases List.mem_cons.mp (I.gM b z)with e|e;.exact d e
 .exact c e
theorem EN(I:Inv X pins σ H s)(d:∀b∈fp,fu X pins H b)(f:∀b∈fp,b<s.heap.objs.size)(c:IF X scope cl)(k:A_ X scope s C h' cs)(i:s.heap.objs.size<=C){N:List Oo}:(dP X pins scope N cs C fp s H).Ok where
 mod:=I.mod;kind:=c.kind;glob:=I.ok.glob;blt:=I.ok.blt;above:=i;inj:=k.inj;has:=λx hx=>by
  have j:scope.names.lookup x=NF .free\/scope.names.lookup x=NF .cell:=by
   rcases hx with hx|hx;.exact dB hx (.inl rfl)
   .exact dB hx (.inr rfl)
  exact k.has x j.symm
 Ed:=λx a z e=>by
  have z:(scope.names.lookup x==NF .cell)=NM:=z;rcases k.sub x a e with⟨_,q⟩|⟨h,g,_⟩;.exact absurd (beq_iff_eq.mp z) q
  .exact Sg (RK h g)
 hd:=I.ok.hd;frames:=I.ok.frames;HD:=.inl rfl;KZ:=λb hb=>⟨Oj (Od (f b hb) i),λx a e=>by
  rcases k.sub x a e with⟨q,_⟩|⟨h,g,_⟩;.exact(d b hb).2.2.2.2.1 x a q
  .exact PU (T8 (Od (f b hb) h) g)⟩;bs:=I.bs;AB:=OC I.ok.AB I.sz;r9:=λb o e hb=>by
  rcases(d b hb).2.2.2.1 with z|z;.exact I.ok.r9 b o e z
  .exact absurd (Od (Od (N1 e) I.ok.AB) z) (OD _)
 vU:=nX I d;jj:=I.stack;C_:=I.j_
theorem mW(I:Inv X pins σ H s)(K:∀b∈fp,fu X pins H b)(L:∀b∈fp,b<s.heap.objs.size)(c:IF X scope cl)(w:A_ X scope s C h' cs)(R:js.map (λj=>X.N[j]?)=fr.map NF)(J:∀x∈fr,scope.names.lookup x=NF .free){t':Nat}(M:s.heap.objs.size<=C)(k:∀b o,s.heap.get? b=NF o->h'.get? b=NF o){m:Oo->Option NJ}(hn:h'.Ns C m):Inv (dP X pins scope (own++fr) cs C fp s H) [] (bw σ own.length js) H {s with heap:=h',toks:=t'}:=by
 have Z:js.length=fr.length:=by simpa using congrArg Qc R
 refine⟨EN I K L c w M,rfl,I.bare,Un.kept k,⟨m,hn,λi x v h f _=>?_⟩,λx a e=>?_,I.aD.fresh M,λx a e=>?_,λp E=>?_,I.aD.kept k,?_⟩
 .unfold bw at f;have h:(own++fr)[i]?=NF x:=h;by_cases G:i<own.length
  .rw[Pf (by simpa using G),QY,if_pos G]at f;cases f
  .rw[OI (by simpa using G)]at f;rw[OI (by omega)]at h;rw[Qx]at f;generalize i-own.length=t at h f;have D:=congrArg (λl=>l[t]?) R;rw[Om,Om,h]at D;rw[Om]at f;cases T:js[t]? with
   |none=>rw[T]at f;cases f|some j=>
    rw[T]at f D;have hx:X.N[j]?=NF x:=NU D;have hv:σ[j]?=NF (NF v):=by
     have f:(σ[j]?).join=NF v:=NU f;cases S:σ[j]? with
     |none=>rw[S]at f;cases f|some o=>
      rw[S]at f;have f:o=NF v:=f;rw[f]
    have g:=J x (OH h);obtain⟨_,O⟩:=c.has x g;obtain⟨a,U⟩:=w.has x (.inr g);obtain⟨m0,_,hl⟩:=I.loc;obtain⟨u,r,lk⟩:=hl j x v hx hv (.inr O);refine⟨u,r,.inr ⟨?_,a,U,?_⟩⟩
    .show(XO scope X.env).names.lookup x=NF .cell\/(XO scope X.env).names.lookup x=NF .free;have gen:∀names:List (Oo×Rb),names.lookup x=NF .free->(names.map λ(n,k)=>if(k==PQ&&X.env.scope.kind==.function&&X.env.kindOf n==NF .cell)then(n,PB)else(n,k)).lookup x=NF .cell\/(names.map λ(n,k)=>if(k==PQ&&X.env.scope.kind==.function&&X.env.kindOf n==NF .cell)then(n,PB)else(n,k)).lookup x=NF .free:=by
      intro names;induction names with
      |nil=>intro z;simp at z|cons y r Q=>
       obtain⟨n,A⟩:=y;intro z;show Xh x ((if(A==PQ&&X.env.scope.kind==.function&&X.env.kindOf n==NF .cell)=NM then(n,PB)else(n,A))::_)=_\/Xh x ((if(A==PQ&&X.env.scope.kind==.function&&X.env.kindOf n==NF .cell)=NM then(n,PB)else(n,A))::_)=_;cases hx:x==n with
       |true=>
        simp only[OP,hx]at z;cases z;by_cases B:(PQ==PQ&&X.env.scope.kind==.function&&X.env.kindOf n==NF .cell)=NM;.rw[if_pos B];exact .inl (by simp[OP,hx])
        .rw[if_neg B];exact .inr (by simp[OP,hx])|false=>
        simp only[OP,hx]at z;by_cases B:(A==PQ&&X.env.scope.kind==.function&&X.env.kindOf n==NF .cell)=NM;.rw[if_pos B];simp only[OP,hx];exact Q z
        .rw[if_neg B];simp only[OP,hx];exact Q z
     exact gen scope.names g
    .rcases lk with⟨P,_⟩|⟨_,b,eb,z⟩
     .rcases O with q|q;.rw[P]at q;cases q
      .rw[P]at q;cases q
     .have e:=w.free x a U g;rw[eb]at e;cases e;obtain⟨o,F,hd⟩:=z;exact⟨o,k _ _ F,hd⟩
 .rcases w.sub x a e with⟨q,_⟩|⟨_,_,q⟩
  .obtain⟨v,o,F,hd⟩:=I.cell x a q;exact⟨v,o,k _ _ F,hd⟩
  .exact⟨NN,q⟩
 .rcases w.sub x a e with⟨q,_⟩|⟨W,V,_⟩;.exact I.cF x a q
  .exact I.aD.fresh (Sg (RK W V))
 .have E:p∈X.pn++pins:=by simpa[dP]using E
  obtain⟨e,n,ne,Y,d⟩:=I.pin p E;refine⟨k _ _ e,n,Oj (Od (N1 e) M),λz=>?_,d⟩;rcases List.mem_cons.mp (I.gM _ z)with q|q;.exact ne q
  .exact Y q
 .show(bw σ own.length js).length=(own++fr).length;unfold bw;simp[Z]
theorem Ba{a:St}{d:List (NR×OW)}{N:List Oo}(I:Inv X pins σ H s)(c:∀b∈fp,fu X pins H b)(J:Inv (dP X pins scope N cl C fp s H) d a H' s'):Inv X pins σ H' s':=by
 refine I.t5 (ch:=fp) J.os J.base J.aD J.bare λb hb=>?_;obtain⟨_,h,_,g,f,e⟩:=c b hb;exact⟨g,h,f,e⟩
theorem xU{d:St}{j:List (NR×OW)}{N:List Oo}(I:Inv X pins σ H s)(f:∀b∈fp,fu X pins H b)(J:Inv (dP X pins scope N cl C fp s H) j d H' s')(m:s.heap.objs.size<=C)(a:PF C s'.heap h'):Inv X pins σ H' {s' with heap:=h'}:=by
 have ne:∀b o,s.heap.get? b=NF o->b≠C:=λb o e=>Oj (Od (N1 e) m);have h:H' C=NN:=J.free;refine I.t5 (s':={s' with heap:=h'}) (ch:=fp) J.os ⟨λb o e n hb hx=>(a.2 b (ne b o e)).trans (J.base.keep b o e n hb hx),λb o e n hb hx=>?_,J.base.free,λb o e hx=>?_,J.base.gJ,J.base.gc,J.base.gK⟩ (λb ob e=>?_) J.bare λb hb=>?_
 .obtain⟨i,g⟩:=J.base.slot b o e n hb hx;exact⟨i,(a.2 b (ne b o e)).trans g⟩
 .obtain⟨k,g⟩:=J.base.there b o e hx;exact⟨k,(a.2 b (ne b o e)).trans g⟩
 .refine(J.aD b ob e).gI (λc v l q=>(a.2 c ?_).trans q) (λ_ q=>q) λ_ _ q=>q;rintro rfl;rcases l with z|z;.rw[<-z,h]at e;cases e
  .rw[h]at z;cases z
 .obtain⟨_,u,_,t,r,p⟩:=f b hb;exact⟨t,u,r,p⟩
theorem Inv.uf{a:NR}{o:HO}(I:Inv X pins σ H s)(ha:X.br.heap.objs.size<=a)(f:H a=NN)(k:a≠X.env.locals)(j:∀x c,X.env.cells.lookup x=NF c->c≠a)(i:∀p∈X.pn++pins,p.1≠a)(new:be X.prog X.w (upd H a o) s.heap a o):Inv X pins σ (upd H a o) s:=by
 refine⟨I.ok,I.os,I.bare,⟨I.base.keep,I.base.slot,λb ob e n hx=>?_,I.base.there,λb g e=>?_,λb ob u e=>?_,λb ps e=>?_⟩,I.loc,I.cell,?_,λx c e=>?_,λp h=>?_,λb u e=>?_,I.len⟩
 .rw[ai (Oj (Od (N1 e) ha))];exact I.base.free b ob e n hx
 .have q:=I.base.gJ b g e;rw[ai (aB q f)];exact q
 .have q:=I.base.gc b ob u e;rw[ai (aB q f)];exact q
 .obtain⟨d,q⟩:=I.base.gK b ps e;exact⟨d,by rw[ai (aB q f)];exact q⟩
 .rw[ai (OX k)];exact I.free
 .rw[ai (j x c e)];exact I.cF x c e
 .obtain⟨e,n,r⟩:=I.pin p h;exact⟨e,by rw[ai (i p h)];exact n,r⟩
 .by_cases hb:b=a
  .subst hb;rw[aj]at e;cases e;exact new
  .rw[ai hb]at e;exact(I.aD b u e).gI (λ_ _ _ q=>q) (λc q=>by rw[ai (aB q f)];exact q) λc g q=>by rw[ai (aB q f)];exact q
end
noncomputable def we(Y:Cx)(ifs:List Ob)(t:TT):Prop:=∀(a:List (NR×OW))(s:NL)(b:St)(H:Hp)(Q:Bool->Hp->Prop),Inv Y a b H s->t b H Q->wpAny (N2 Y.prog Y.w) Y.A (forIn ifs NM λc r=>if r=NM then do let ok<-Vg c Y.env (Qa c Y.env);pure (P9 ok)else pure (P9 r)) (TP Y a b Q) Y.xe s
noncomputable def LR:TT:=λ_ H Q=>Q NM H
theorem xV{Y:Cx}:we Y [] LR:=λa s b H Q I h=>wpAny_tests_nil ⟨H,I,h⟩
theorem xW{Y:Cx}{c:Ob}{t:TT}(h:PT Y c t):we Y [c] t:=λa s b H Q I q=>wpAny_tests_one (h a s b H Q I q)
noncomputable abbrev RB(a:Type):=St->Hp->a->(a->St->Hp->Prop)->Prop
noncomputable def Body(Y:Cx){e:Type}(ok:e->OW->Prop)(D:NR)(body:UG Unit)(rd:RB e):Prop:=∀(b:List (NR×OW))(s:NL)(f:St)(H:Hp)(a:e)(ob:OW)(Q:e->St->Hp->Prop),Inv Y ((D,ob)::b) f H s->(∀p∈Y.pn++b,p.1≠D)->ok a ob->rd f H a Q->wpAny (N2 Y.prog Y.w) Y.A body (λ_ i=>∃g d c h,Inv Y ((D,d)::b) c h i/\ok g d/\Q g c h) Y.xe s
noncomputable def ug{j:Type}(J:It)(g:TG)(e:TT)(rd:RB j):RB j:=λd H a Q=>∃W:Nat->Nat->j->St->Hp->Prop,(∃m,W 0 m a d H)/\∀i m a d H,W i m a d H->(J.stop i H/\Q a d H)\/(J.go i H/\∀x l,J.K1 i H x l->g x d l λc p=>e c p λb k=>if b=NM then rd c k a λn h o=>∃f,f<m/\W (i+1) f n h o else∃f,f<m/\W (i+1) f a c k)
theorem jL{Y:Cx}{α:Type}{ok:α->OW->Prop}{D it:NR}{e tg:Ob}{d:Nat}{ifs:List Ob}{body:UG Unit}{pos0:P8}{J:It}{y:List NR}{tn:Nat->Oy->Prop}{g:TG}{E:TT}{rd:RB α}(hc:Y.calm=NM)(hx:∀x s',¬Y.xe x s')(a7:(N2 Y.prog Y.w).den (.compLoop e d (.ref it) (.ref D) Y.env)=(U5 e d (.ref it) (.ref D) Y.env).onRaise (λx=>do SO x Y.env;VD x))(a4:Y.A.under (.compLoop e d (.ref it) (.ref D) Y.env)=Y.A)(b2:U5 e d (.ref it) (.ref D) Y.env=(do
   SR pos0;match<-Rt (.ref it)with
   |none=>pure (.done .next)|some v=>
    Rm tg (.ref it) v;Tt tg Y.env v;let mut ok:=NM;for c in ifs do if ok then ok<-Vg c Y.env (Qa c Y.env)
    if ok then body
    Xq (.compLoop e d (.ref it) (.ref D) Y.env)))(T:Turn Y.prog Y.w Y.K tg J y it tn)(hg:PG Y tg g)(hi:we Y ifs E)(hb:Body Y ok D body rd){pins:List (NR×OW)}{ob:OW}{a:α}{σ:St}{H:Hp}{s:NL}{Q:α->St->Hp->Prop}(I:Inv Y ((D,ob)::pins) σ H s)(a6:∀p∈Y.pn++pins,p.1≠D)(aD:ok a ob)(O:∀b∈y,fu Y ((D,ob)::pins) H b)(b0:tn 0 s.heap)(h:ug J g E rd σ H a Q):codeAny (N2 Y.prog Y.w) Y.A (.compLoop e d (.ref it) (.ref D) Y.env) (λr s'=>∃a' C Z H',r=.ok .next/\Inv Y ((D,C)::pins) Z H' s'/\ok a' C/\Q a' Z H'/\∀b∈y,H' b=NN) s:=by
 obtain⟨W,⟨m0,w0⟩,a0⟩:=h;have B:∀{H':Hp}{C:OW},(∀b∈y,H' b=NN)->∀b∈y,fu Y ((D,C)::pins) H' b:=λ{H' C}hn b hb=>by
  obtain⟨_,h1,h2,h3,h4,h5⟩:=O b hb;refine⟨hn b hb,h1,h2,h3,h4,λp hp=>?_⟩;rcases List.mem_append.mp hp with z|z;.exact h5 p (OL _ z)
  .rcases List.mem_cons.mp z with q|q;.rw[q];exact h5 (D,ob) (Oe _ NV)
   .exact h5 p (Oe _ (NX _ q))
 have a5:∀h:Oy,∀p∈Y.pn++(pins++eT y h),p.1≠D:=λh p hp=>by
  rcases List.mem_append.mp hp with z|z;.exact a6 p (OL _ z)
  .rcases List.mem_append.mp z with q|q;.exact a6 p (Oe _ q)
   .exact OX ((O p.1 (mL q).1).2.2.2.2.2 (D,ob) (Oe _ NV))
 have t:∀{R:NJ->NL->Prop}(x:NJ)(s':NL),Y.xe x s'->R x s':=λx s' z=>(hx x s' z).elim;refine codeAny_loop rfl (λn s'=>∃i a ob σ H,Inv Y ((D,ob)::pins) σ H s'/\ok a ob/\tn i s'.heap/\(∀b∈y,H b=NN)/\W i n a σ H) ?_ m0 ⟨0,a,ob,σ,H,I,aD,b0,λb hb=>(O b hb).1,w0⟩;rintro n s3⟨i,a3,N,k,H3,I3,M,a2,P,w3⟩;rw[a7,a4];refine wpAny_noted ?_;rw[b2];refine NG (Qe (NG ?_));rcases a0 i n a3 k H3 w3 with⟨stop,qn⟩|⟨go,step⟩
 .refine O3 (T.done Y rfl rfl rfl hc i _ s3 k H3 Y.xe I3 (B P) a2 stop) (λr s4⟨hr,I4⟩=>?_) t;subst hr;exact NO ⟨a3,N,k,H3,rfl,I4,M,qn,P⟩
 .refine O3 (T.item Y rfl rfl rfl hc i _ s3 k H3 Y.xe I3 (B P) a2 go) (λr s4⟨u,hr,h4⟩=>?_) t;subst hr;refine NG (O3 h4 (λ_ U⟨x,H5,I5,r5,y5,G,b3⟩=>?_) t);have b6:Inv Y ((D,N)::(pins++eT y U.heap)) k H5 U:=I5.pinned (B b3) (T.obj _ _ G);refine NG (O3 (hg _ U k H5 x u _ b6 r5 (step x H5 y5)) (λ_ s6⟨X,H6,I6,q6⟩=>?_) t);refine NG (O3 (hi _ s6 X H6 _ I6 q6) (λb s7⟨H7,I7,q7⟩=>?_) t);have f:∀{a8:α}{l:OW}{j:St}{V:Hp}{S:NL},Inv Y ((D,l)::(pins++eT y U.heap)) j V S->ok a8 l->(∃m',m'<n/\W (i+1) m' a8 j V)->∃m,m<n/\∃i a ob σ H,Inv Y ((D,ob)::pins) σ H S/\ok a ob/\tn i S.heap/\(∀b∈y,H b=NN)/\W i m a σ H:=λ{a8 l j V S}I8 L a9=>by
   obtain⟨m',hm,w8⟩:=a9;have F:=λ(b:NR)(o:OW)(z:(b,o)∈eT y U.heap)=>I8.pin (b,o) (Oe _ (NX _ (Oe _ z)));have b4:Inv Y (((D,l)::pins)++eT y U.heap) j V S:=I8;refine⟨m',hm,i+1,a8,l,j,V,b4.iD,L,T.keep _ _ _ G λb hb o e=>(F b o (eU hb e)).1,λb hb=>?_,w8⟩;obtain⟨o,e,_⟩:=T.obj _ _ G b hb;exact(F b o (eU hb e)).2.1
  cases b with
  |false=>
   rw[if_neg O9]at q7;exact NO ⟨rfl,f I7 M q7⟩|true=>
   rw[if_pos rfl]at q7;refine NG (O3 (hb _ s7 X H7 a3 N _ I7 (a5 _) M q7) (λ_ S⟨a8,l,j,V,I8,L,q8⟩=>?_) t);exact NO ⟨rfl,f I8 L q8⟩
noncomputable def K3(b:List V)(ob:OW):Prop:=b.length<=NW/\∃(a:List NJ)(n:Nat),aq b a/\ob={cls:=.type "list",data:=.seq a.toArray n}
noncomputable def kU(c:TE):RB (List V):=λb H a Q=>c b H λy d=>a.length<NW/\Q (a++[y]) b d
theorem aq.snoc{xs:List V}{us:List NJ}{x:V}{u:NJ}(r:aq xs us)(q:RelV x u):aq (xs++[x]) (us++[u]):=r.append (.cons q .nil)
theorem Inv.Di{Y:Cx}{pins:List (NR×OW)}{σ:St}{H:Hp}{s:NL}{D:NR}{ob a:OW}{h':Oy}(I:Inv Y ((D,ob)::pins) σ H s)(m:Y.br.heap.objs.size<=D)(h:∀x c,Y.env.cells.lookup x=NF c->c≠D)(l:∀p∈Y.pn++pins,p.1≠D)(k:∀b o,b≠D->s.heap.get? b=NF o->h'.get? b=NF o)(e:h'.get? D=NF a)(hd:∀v,a.data≠.cell v){t':Nat}:Inv Y ((D,a)::pins) σ H {s with heap:=h',toks:=t'}:=by
 obtain⟨_,n,ne,j,_⟩:=I.pin (D,ob) (Oe _ NV);have q:Inv Y pins σ H s:=I.dO λp g=>I.pin p (Oe _ (NX _ g));have i:Inv Y pins σ H {s with heap:=h',toks:=t'}:=q.turned (it:=D) k n ne (.inr m) h l;refine i.dO λp g=>?_;rcases List.mem_cons.mp g with z|z;.rw[z];exact⟨e,n,ne,j,hd⟩
 .exact i.pin p (Oe _ z)
structure HE(Y:Cx)(D:NR):Prop where
 young:Y.br.heap.objs.size<=D
 cells:∀x c,Y.env.cells.lookup x=NF c->c≠D
theorem mX{Y:Cx}{D:NR}{c:Ob}{j:TE}(o:HE Y D)(h:PE Y c j):Body Y K3 D (do let _<-call (.builtin "list.append") [.ref D,<-Qa c Y.env]) (kU j):=by
 intro m s i H g ob Q I f aD q;refine NG (bo (h _ s i H _ I q) λu E d=>?_);obtain⟨y,C,p,r,F,t⟩:=d;obtain⟨A,a,n,k,rfl⟩:=aD;have eD:=(p.pin _ (Oe _ NV)).1;refine NG (wpAny_list_append_plain (l:=D) (items:=a.toArray) ⟨n,eD⟩ (λG⟨w,B⟩x=>NO ?_) (by rw[N5,<-k.length];exact A));refine⟨g++[y],_,i,C,p.Di o.young o.cells f (λb ob hb e=>(x.2 b hb).trans e) B (λv z=>nomatch z),⟨by simp;omega,a++[u],w,k.snoc r,by simp⟩,t⟩
end L2
end
section
namespace ST
open PySem
noncomputable def f5(n i:Nat):Nat:=(i*5+1)%n
noncomputable def uh(n:Nat):Nat->Nat->Nat
 |0,i=>i|k+1,i=>f5 n (uh n k i)
theorem kh(n a b i:Nat):uh n (a+b) i=uh n a (uh n b i):=by induction a with
 |zero=>simp[uh]|succ a c=>rw[Nat.succ_add];simp only[uh];rw[c]
noncomputable def row(n:Nat):Nat->Nat->List Nat
 |0,_=>[]|k+1,i=>i::row n k (f5 n i)
theorem wg(n k i:Nat):uh n (k+1) i=uh n k (f5 n i):=by
 have:=kh n k 1 i;rw[this];rfl
theorem ui{n:Nat}:∀{k i j:Nat},j∈row n k i->∃m,m<k/\uh n m i=j
 |0,_,_,h=>by simp[row]at h|k+1,i,j,h=>by
  rcases List.mem_cons.mp h with rfl|h;.exact⟨0,T9 _,rfl⟩
  .obtain⟨m,b,a⟩:=ui h;exact⟨m+1,Nat.succ_lt_succ b,by rw[wg];exact a⟩
noncomputable def Mask(k:Nat):Prop:=k=7\/k=31\/k=127\/k=511
noncomputable def full(n:Nat):Bool:=(OJ n).all (λj=>(row n n 0).contains j)&&(uh n n 0==0)
theorem IH:full 8=NM:=by decide+kernel
theorem EO:full 32=NM:=by decide+kernel
theorem Bb:full 128=NM:=by decide+kernel
theorem Bc:full 512=NM:=by decide+kernel
theorem Mask.full{k:Nat}(h:Mask k):ST.full (k+1)=NM:=by
 rcases h with rfl|rfl|rfl|rfl;.exact IH
 .exact EO
 .exact Bb
 .exact Bc
theorem wj{n:Nat}(h:full n=NM){i j:Nat}(g:i<n)(f:j<n):∃m,m<n/\uh n m i=j:=by
 unfold full at h;rw[N0,O8,beq_iff_eq]at h;obtain⟨l,k⟩:=h;have get:∀x,x<n->∃m,m<n/\uh n m 0=x:=λx hx=>ui (by simpa using l x (List.mem_range.mpr hx));obtain⟨a,ha,e⟩:=get i g;obtain⟨b,hb,d⟩:=get j f;by_cases c:a<=b
 .refine⟨b-a,by omega,?_⟩;rw[<-e,<-kh,Nat.sub_add_cancel c,d]
 .refine⟨b+(n-a),by omega,?_⟩;rw[<-e,<-kh,show b+(n-a)+a=b+n by omega,kh,k,d]
noncomputable def run(mask:Nat)(b:Nat):Nat->Nat×Nat
 |0=>(b%(mask+1),b)|m+1=>R1 mask (run mask b m).1 (run mask b m).2
theorem pJ(mask b m:Nat):(run mask b m).2=b/32^m:=by induction m with
 |zero=>simp[run]|succ m a=>
  show(run mask b m).2/32=_;rw[a,Vp,Nat.pow_succ]
theorem ER(mask b m:Nat):(run mask b m).1<mask+1:=by cases m with
 |zero=>exact Vq _ (T9 _)|succ m=>exact Vq _ (T9 _)
theorem xX{mask b:Nat}(hb:b<2^64)(m:Nat):(run mask b (13+m)).1=uh (mask+1) m (run mask b 13).1:=by induction m with
 |zero=>rfl|succ m a=>
  show((run mask b (13+m)).1*5+1+(run mask b (13+m)).2/32)%(mask+1)=f5 (mask+1) (uh (mask+1) m (run mask b 13).1);have:(run mask b (13+m)).2/32=0:=by
   rw[pJ,Vp,<-Nat.pow_succ];refine Nat.div_eq_of_lt (Od hb ?_);have:(32:Nat)^13<=32^(13+m).succ:=Nat.pow_le_pow_right (by decide) (by omega);exact OC (by decide) this
  rw[this,WU,a];rfl
theorem uj{mask b:Nat}(a:Mask mask)(hb:b<2^64){j:Nat}(d:j<=mask):∃m,m<=13+mask/\(run mask b m).1=j:=by
 obtain⟨m,e,c⟩:=wj a.full (ER mask b 13) (show j<mask+1 by omega);exact⟨13+m,by omega,by rw[xX hb];exact c⟩
noncomputable def fy(mask:Nat)(p:Rc):Rc:=if 0<p.more then{p with more:=p.more-1,j:=p.j+1}else{p with j:=(R1 mask p.i p.perturb).1,more:=OG mask (R1 mask p.i p.perturb).1-(R1 mask p.i p.perturb).1,i:=(R1 mask p.i p.perturb).1,perturb:=(R1 mask p.i p.perturb).2}
noncomputable def begin(mask b:Nat):Rc:={j:=b%(mask+1),more:=OG mask (b%(mask+1))-b%(mask+1),i:=b%(mask+1),perturb:=b,dummy:=NN}
noncomputable def bI(mask b:Nat):Nat->Rc
 |0=>begin mask b|n+1=>fy mask (bI mask b n)
noncomputable def jm(mask b m:Nat):Rc:={j:=(run mask b m).1,more:=OG mask (run mask b m).1-(run mask b m).1,i:=(run mask b m).1,perturb:=(run mask b m).2,dummy:=NN}
theorem more_le(mask i:Nat):OG mask i-i<=9:=by
 unfold OG;split<;>omega
theorem nY{mask b n:Nat}{p:Rc}(h:bI mask b n=p):∀o,o<=p.more->bI mask b (n+o)={p with j:=p.j+o,more:=p.more-o}
 |0,_=>by rw[WU,h];rfl|o+1,c=>by
  have a:=nY h o (by omega);show fy mask (bI mask b (n+o))=_;rw[a];unfold fy;have:p.more-o>0:=by omega
  rw[if_pos (show(({p with j:=p.j+o,more:=p.more-o}:Rc)).more>0 from this)];show({p with j:=p.j+o+1,more:=p.more-o-1}:Rc)={p with j:=p.j+(o+1),more:=p.more-(o+1)};rw[Sw,Nat.sub_sub]
theorem uk(mask b:Nat):∀m,∃n,n<=10*m/\bI mask b n=jm mask b m
 |0=>⟨0,NZ _,rfl⟩|m+1=>by
  obtain⟨n,d,a⟩:=uk mask b m;have c:=more_le mask (run mask b m).1;refine⟨n+(jm mask b m).more+1,by show n+(OG mask (run mask b m).1-(run mask b m).1)+1<=_;omega,?_⟩;show fy mask (bI mask b (n+(jm mask b m).more))=_;rw[nY a _ (NZ _)];unfold fy;rw[if_neg (by show¬(jm mask b m).more-(jm mask b m).more>0;omega)];rfl
theorem Bd{mask b:Nat}(c:Mask mask)(hb:b<2^64){j:Nat}(a:j<=mask):∃n,n<10*Qm mask/\(bI mask b n).j=j:=by
 obtain⟨m,g,e⟩:=uj c hb a;obtain⟨n,f,d⟩:=uk mask b m;refine⟨n,by unfold Qm;omega,?_⟩;rw[d];exact e
theorem wm(mask b n:Nat):(bI mask b n).dummy=NN:=by induction n with
 |zero=>rfl|succ n a=>
  show(fy mask (bI mask b n)).dummy=NN;unfold fy;split<;>exact a
theorem xY(mask b n:Nat):(bI mask b n).j+(bI mask b n).more<=mask/\(bI mask b n).i<=mask:=by
 have start:∀i,i<=mask->i+(OG mask i-i)<=mask:=λi c=>by
  unfold OG;split<;>omega
 induction n with
 |zero=>
  have lt:b%(mask+1)<=mask:=WV (Vq _ (T9 _));exact⟨start _ lt,lt⟩|succ n a=>
  show(fy mask (bI mask b n)).j+(fy mask (bI mask b n)).more<=mask/\(fy mask (bI mask b n)).i<=mask;unfold fy;split;.exact⟨by show(bI mask b n).j+1+((bI mask b n).more-1)<=mask;omega,a.2⟩
  .have lt:(R1 mask (bI mask b n).i (bI mask b n).perturb).1<=mask:=WV (Vq _ (T9 _));exact⟨start _ lt,lt⟩
end ST
end
section
namespace ST
open PySem
noncomputable def aW(l:List Nat):Prop:=l.Pairwise (·<·)
theorem aW.get{l:List Nat}(h:aW l){i j x y:Nat}(e:l[i]?=NF x)(d:l[j]?=NF y)(c:i<j):x<y:=by
 obtain⟨a,rfl⟩:=List.getElem?_eq_some_iff.mp e;obtain⟨b,rfl⟩:=List.getElem?_eq_some_iff.mp d;exact List.pairwise_iff_getElem.mp h i j a b c
theorem kW{xs:Array Nat}{j:Nat}(h:aW xs.toList):∀(fuel lo a:Nat),a-lo<=fuel->lo<=a->a<=xs.size->(∀i x,i<lo->xs[i]?=NF x->x<j)->(∀i x,a<=i->xs[i]?=NF x->j<=x)->∃p,WW xs j fuel lo a=p/\p<=xs.size/\(∀i x,i<p->xs[i]?=NF x->x<j)/\∀i x,p<=i->xs[i]?=NF x->j<=x
 |0,lo,a,r,q,l,g,f=>⟨lo,rfl,by omega,g,λi x c e=>f i x (by omega) e⟩|fuel+1,lo,a,r,q,l,g,f=>by
  unfold WW;by_cases d:lo<a
  .rw[if_pos d];have s:(lo+a)/2<a:=by omega
   have o:lo<=(lo+a)/2:=by omega
   have b:(lo+a)/2<xs.size:=by omega
   have eD:xs.getD ((lo+a)/2) j=xs[(lo+a)/2]:=by simp[WG,b]
   have n:xs.toList[(lo+a)/2]?=NF xs[(lo+a)/2]:=by simp[b]
   simp only[eD];by_cases m:xs[(lo+a)/2]<j
   .rw[if_pos m];refine kW h fuel ((lo+a)/2+1) a (by omega) (by omega) l (λi x c e=>?_) f;by_cases k:i=(lo+a)/2
    .subst k;have:x=xs[(lo+a)/2]:=by rw[N6 b]at e;exact(NU e).symm
     omega
    .have:x<xs[(lo+a)/2]:=h.get (i:=i) (j:=(lo+a)/2) (by simpa using e) n (by omega);omega
   .rw[if_neg m];refine kW h fuel lo ((lo+a)/2) (by omega) (by omega) (by omega) g (λi x c e=>?_);by_cases k:i=(lo+a)/2
    .subst k;have:x=xs[(lo+a)/2]:=by rw[N6 b]at e;exact(NU e).symm
     omega
    .have:xs[(lo+a)/2]<x:=h.get (i:=(lo+a)/2) (j:=i) n (by simpa using e) (by omega);omega
  .rw[if_neg d];exact⟨lo,rfl,by omega,g,λi x c e=>f i x (by omega) e⟩
theorem fA{xs:Array Nat}(h:aW xs.toList)(j:Nat):N8 xs j<=xs.size/\(∀i x,i<N8 xs j->xs[i]?=NF x->x<j)/\∀i x,N8 xs j<=i->xs[i]?=NF x->j<=x:=by
 obtain⟨p,e,r⟩:=kW h (j:=j) xs.size 0 xs.size (by omega) (OB _) (NZ _) (λi x a=>absurd a (Qt _)) (λi x a e=>absurd (Array.getElem?_eq_some_iff.mp e).1 (by omega));have:N8 xs j=p:=e;rw[this];exact r
theorem below_at{xs:Array Nat}(h:aW xs.toList){i j:Nat}(a:xs[i]?=NF j):N8 xs j=i:=by
 obtain⟨_,e,d⟩:=fA h j;rcases Rp (N8 xs j) i with c|c|c
 .have b:N8 xs j<xs.size:=T8 c (Array.getElem?_eq_some_iff.mp a).1;have f:xs[N8 xs j]?=NF xs[N8 xs j]:=N6 b;have:=d _ _ (NZ _) f;have:=h.get (i:=N8 xs j) (j:=i) (x:=xs[N8 xs j]) (y:=j) (by simp[b]) (by simpa using a) c;omega
 .exact c
 .have:=e i j c a;omega
theorem wo{t:Pk}(h:aW t.place.toList){i j:Nat}(a:t.place[i]?=NF j):t.slot j=.live i:=by
 unfold SetTable.slot;rw[below_at h a];simp[a]
theorem sA{t:Pk}(h:aW t.place.toList)(hd:t.dummies=#[]){j:Nat}(a:∀i:Nat,t.place[i]?≠NF j):t.slot j=.empty:=by
 unfold SetTable.slot;have c:(t.place[N8 t.place j]?==NF j)=NP:=by cases e:t.place[N8 t.place j]? with
  |none=>rfl|some x=>
   have:x≠j:=λz=>a _ (by rw[e,z]);simpa using this
 have b:SetTable.has t.dummies j=NP:=by rw[hd];rfl
 simp[c,b]
theorem ee{a:Type}(xs:Array a)(p:Nat)(x:a)(b:p<=xs.size):(OZ xs p x).toList=xs.toList.take p++x::xs.toList.drop p:=by
 unfold OZ;simp[RL]
theorem mE{xs:Array Nat}(h:aW xs.toList){j:Nat}(m:∀i:Nat,xs[i]?≠NF j):aW (OZ xs (N8 xs j) j).toList:=by
 obtain⟨l,n,g⟩:=fA h j;rw[ee _ _ _ l];unfold aW;rw[V3,List.pairwise_cons];refine⟨h.sublist (WQ _ _),⟨λy hy=>?_,h.sublist (List.drop_sublist _ _)⟩,λa ha b hb=>?_⟩
 .obtain⟨i,c⟩:=List.mem_iff_getElem?.mp hy;rw[Ut]at c;have e:xs[N8 xs j+i]?=NF y:=by simpa using c
  have:=g _ y (Sk _ _) e;have:y≠j:=λz=>m _ (by rw[e,z]);omega
 .obtain⟨i,c⟩:=List.mem_iff_getElem?.mp ha;have d:i<N8 xs j:=by
   have:=(List.getElem?_eq_some_iff.mp c).1;simp at this;omega
  rw[Ss d]at c;have o:=n i a d (by simpa using c);rcases List.mem_cons.mp hb with rfl|hb;.exact o
  .obtain⟨k,f⟩:=List.mem_iff_getElem?.mp hb;rw[Ut]at f;have:=g _ b (Sk _ _) (show xs[N8 xs j+k]?=NF b by simpa using f);omega
end ST
end
section
namespace ST
open PySem
structure pK(t:Pk)(hs:List Int):Prop where
 mask:Mask t.mask
 rise:aW t.place.toList
 II:t.dummies=#[]len:t.place.size=hs.length
 low:∀(i j:Nat),t.place[i]?=NF j->j<=t.mask
 HF:hs.length<=t.mask
 way:∀(i:Nat)(h:Int)(j:Nat),hs[i]?=NF h->t.place[i]?=NF j->∃n,(bI t.mask (N9 h) n).j=j/\∀m,m<n->∃i':Nat,t.place[i']?=NF (bI t.mask (N9 h) m).j
theorem um(h:Int):N9 h<2^64:=by
 unfold N9;have a:=SD h (show(2^64:Int)≠0 by decide);have b:=RM h (show(0:Int)<2^64 by decide);have:((h%2^64).toNat:Int)=h%2^64:=Int.toNat_of_nonneg a;have e:((2^64:Nat):Int)=(2^64:Int):=by decide
 omega
theorem jM{l:List Nat}(h:aW l):∀k,(∀j,j<=k->∃i:Nat,l[i]?=NF j)->∃i,k<=i/\l[i]?=NF k
 |0,f=>by obtain⟨i,e⟩:=f 0 (NZ _);exact⟨i,OB _,e⟩|k+1,f=>by
  obtain⟨i,m,d⟩:=jM h k λj g=>f j (by omega);obtain⟨b,a⟩:=f (k+1) (NZ _);refine⟨b,?_,a⟩;rcases Rp i b with c|c|c;.omega
  .subst c;rw[d]at a;cases a
  .have:=h.get a d c;omega
theorem pK.room{t:Pk}{b:List Int}(T:pK t b):∃j,j<=t.mask/\∀i:Nat,t.place[i]?≠NF j:=by
 by_cases hx:∃j,j<=t.mask/\∀i:Nat,t.place[i]?≠NF j;.exact hx
 .exfalso;have all:∀j,j<=t.mask->∃i:Nat,t.place.toList[i]?=NF j:=λj c=>by
   by_cases hy:∃i:Nat,t.place[i]?=NF j;.obtain⟨i,a⟩:=hy;exact⟨i,by simpa using a⟩
   .exact(hx ⟨j,c,λi a=>hy ⟨i,a⟩⟩).elim
  obtain⟨i,e,d⟩:=jM T.rise t.mask all;have:i<t.place.size:=by
   have:=(List.getElem?_eq_some_iff.mp d).1;simpa using this
  have:=T.len;have:=T.HF;omega
noncomputable def aR(t:Pk)(h:Int)(N:Nat):Prop:=(∀i:Nat,t.place[i]?≠NF (bI t.mask (N9 h) N).j)/\∀m,m<N->∃i:Nat,t.place[i]?=NF (bI t.mask (N9 h) m).j
theorem pK.first{t:Pk}{g:List Int}(T:pK t g)(h:Int):∃N,N<10*Qm t.mask/\aR t h N:=by
 obtain⟨j,k,e⟩:=T.room;obtain⟨n,b,a⟩:=Bd T.mask (um h) k;have ex:∃n,n<10*Qm t.mask/\∀i:Nat,t.place[i]?≠NF (bI t.mask (N9 h) n).j:=⟨n,b,λi=>by rw[a];exact e i⟩;clear b a e;obtain⟨n,b,a⟩:=ex;induction n using Nat.strongRecOn with|ind n f=>
  by_cases hx:∃m,m<n/\∀i:Nat,t.place[i]?≠NF (bI t.mask (N9 h) m).j
  .obtain⟨m,d,c⟩:=hx;exact f m d (by omega) c
  .refine⟨n,b,a,λm d=>?_⟩;by_cases hy:∃i:Nat,t.place[i]?=NF (bI t.mask (N9 h) m).j;.exact hy
   .exact(hx ⟨m,d,λi l=>hy ⟨i,l⟩⟩).elim
theorem pL{t:Pk}{p:List Int}(T:pK t p){h:Int}{N:Nat}(F:aR t h N)(Vr:Nat->Int):∀(fuel n:Nat),n<=N->N<n+fuel->(∃n' i,n<=n'/\n'<N/\t.place[i]?=NF (bI t.mask (N9 h) n').j/\Vr i=h/\(∀m,n<=m->m<n'->∀k:Nat,t.place[k]?=NF (bI t.mask (N9 h) m).j->Vr k≠h)/\UJ t Vr h fuel (bI t.mask (N9 h) n)=NF (.candidate (bI t.mask (N9 h) n').j i (bI t.mask (N9 h) (n'+1))))\/((∀m,n<=m->m<N->∀k:Nat,t.place[k]?=NF (bI t.mask (N9 h) m).j->Vr k≠h)/\UJ t Vr h fuel (bI t.mask (N9 h) n)=NF (.empty (bI t.mask (N9 h) N).j NN))
 |0,n,u,s=>by omega|fuel+1,n,u,s=>by
  unfold UJ;by_cases q:n=N
  .subst q;refine .inr ⟨λm a b=>by omega,?_⟩;rw[sA T.rise T.II F.1];simp only[wm]
  .obtain⟨i,l⟩:=F.2 n (by omega);rw[wo T.rise l];by_cases hh:Vr i=h
   .refine .inl ⟨n,i,NZ _,by omega,l,hh,λm a b=>by omega,?_⟩;simp only[hh,beq_self_eq_true,if_true];rfl
   .have hb:(Vr i==h)=NP:=by simpa using hh
    simp only[hb,Oh,if_false];have one:∀k:Nat,t.place[k]?=NF (bI t.mask (N9 h) n).j->Vr k≠h:=λk r=>by
     have:k=i:=by rw[<-below_at T.rise r,below_at T.rise l]
     rw[this];exact hh
    rcases pL T F Vr fuel (n+1) (by omega) (by omega)with⟨n',o,a,b,c,d,e,g⟩|⟨e,g⟩;.exact .inl ⟨n',o,by omega,b,c,d,λm x y=>by
      by_cases f:m=n;.subst f;exact one
      .exact e m (by omega) y,g⟩
    .exact .inr ⟨λm x y=>by
      by_cases f:m=n;.subst f;exact one
      .exact e m (by omega) y,g⟩
theorem pK.put{t:Pk}{l:List Int}(T:pK t l){h:Int}{N:Nat}(F:aR t h N)(y:l.length+1<=t.mask):(t.put (bI t.mask (N9 h) N).j).2<=l.length/\pK (t.put (bI t.mask (N9 h) N).j).1 (l.take (t.put (bI t.mask (N9 h) N).j).2++h::l.drop (t.put (bI t.mask (N9 h) N).j).2):=by
 have hd:SetTable.has t.dummies (bI t.mask (N9 h) N).j=NP:=by rw[T.II];rfl
 generalize D:(bI t.mask (N9 h) N).j=J at*;obtain⟨B,b1,K⟩:=fA T.rise J;have G:(t.put J).2=N8 t.place J:=rfl;have I:(t.put J).1={t with place:=OZ t.place (N8 t.place J) J}:=by
  unfold SetTable.put;simp[hd]
 have E:=F.1;rw[D]at E;have w:(OZ t.place (N8 t.place J) J).toList=t.place.toList.take (N8 t.place J)++J::t.place.toList.drop (N8 t.place J):=ee _ _ _ B;have s:∀(i j:Nat),t.place[i]?=NF j->∃o:Nat,(OZ t.place (N8 t.place J) J)[o]?=NF j:=λi j f=>by
  have r:j∈(OZ t.place (N8 t.place J) J).toList:=by
   rw[w];have:j∈t.place.toList:=OH (i:=i) (by simpa using f);rw[<-Qy (N8 t.place J) t.place.toList]at this;rcases List.mem_append.mp this with q|q;.exact OL _ q
   .exact Oe _ (NX _ q)
  obtain⟨o,A⟩:=List.mem_iff_getElem?.mp r;exact⟨o,by simpa using A⟩
 refine⟨by rw[G,<-T.len];exact B,?_⟩;rw[G,I];have C:t.place.toList.length=l.length:=by simpa using T.len
 refine⟨T.mask,mE T.rise E,T.II,?_,λi j f=>?_,?_,λi g j f H=>?_⟩
 .have:=congrArg Qc w;simp only[OO,Sh,Ol,Tv]at this⊢;rw[<-Pc];omega
 .have r:j∈(OZ t.place (N8 t.place J) J).toList:=OH (i:=i) (by simpa using f);rw[w]at r;have:j∈t.place.toList\/j=J:=by
   rcases List.mem_append.mp r with q|q;.exact .inl (V4 q)
   .rcases List.mem_cons.mp q with q|q;.exact .inr q
    .exact .inl (V5 q)
  rcases this with q|q
  .obtain⟨k,z⟩:=List.mem_iff_getElem?.mp q;exact T.low k j (by simpa using z)
  .have:=(xY t.mask (N9 h) N).1;show j<=t.mask;omega
 .show(l.take (N8 t.place J)++h::l.drop (N8 t.place J)).length<=t.mask;simp only[OO,Sh,Ol,Tv];omega
 .have e:(t.place.toList.take (N8 t.place J)++J::t.place.toList.drop (N8 t.place J))[i]?=NF j:=by rw[<-w];simpa using H
  have v:(t.place.toList.take (N8 t.place J)).length=N8 t.place J:=by simp;omega
  have u:(l.take (N8 t.place J)).length=N8 t.place J:=by simp;have:=T.len;omega
  have p:∀(g:Int)(j i:Nat),l[i]?=NF g->t.place[i]?=NF j->∃n,(bI t.mask (N9 g) n).j=j/\∀m,m<n->∃o:Nat,(OZ t.place (N8 t.place J) J)[o]?=NF (bI t.mask (N9 g) m).j:=λg j i a b=>by
   obtain⟨n,c,d⟩:=T.way i g j a b;exact⟨n,c,λm r=>by obtain⟨o,q⟩:=d m r;exact s o _ q⟩
  rcases Rp i (N8 t.place J)with c|c|c
  .rw[Pf (by omega)]at f e;rw[Ss c]at f e;exact p g j i f (by simpa using e)
  .rw[OI (by omega),u,c,Nat.sub_self]at f;rw[OI (by omega),v,c,Nat.sub_self]at e;simp at f e;subst f e;exact⟨N,D,λm r=>by obtain⟨o,q⟩:=F.2 m r;exact s o _ q⟩
  .rw[OI (by omega),u]at f;rw[OI (by omega),v]at e;obtain⟨k,z⟩:∃k,i=N8 t.place J+1+k:=⟨i-N8 t.place J-1,by omega⟩;subst z;rw[show N8 t.place J+1+k-N8 t.place J=k+1 by omega]at f e;rw[QZ,Ut]at f e;exact p g j _ f (by simpa using e)
end ST
end
section
namespace ST
open PySem
theorem dQ:∀(k:Nat)(l:List Nat),l.Nodup->(∀x∈l,x<k)->l.length<=k
 |0,[],_,_=>NZ _|0,x::_,_,h=>absurd (h x NV) (Qt _)|k+1,l,a,h=>by
  by_cases b:k∈l
  .have:=dQ k (l.erase k) (a.erase k) λx hx=>by
    have d:=h x (List.mem_of_mem_erase hx);have c:x≠k:=λe=>by
     subst e;exact(List.Nodup.not_mem_erase a) hx
    omega
   rw[Sy b]at this;omega
  .have:=dQ k l a λx hx=>by
    have d:=h x hx;have c:x≠k:=λe=>b (e▸hx);omega
   omega
theorem mY:∀(k:Nat)(l:List Nat),(∀x,x<k->x∈l)->k<=l.length
 |0,_,_=>OB _|k+1,l,h=>by
  have a:k∈l:=h k (OY _);have:=mY k (l.erase k) λx hx=>(V6 (by omega)).mpr (h x (by omega));rw[Sy a]at this;have:=Vs a;omega
structure Be(mask:Nat)(hs:List Int)(owner:Array (Option Nat))(k:Nat):Prop where
 size:owner.size=mask+1
 has:∀i,i<k->∃j:Nat,owner[j]?=NF (NF i)low:∀(j i:Nat),owner[j]?=NF (NF i)->i<k
 one:∀(j j' i:Nat),owner[j]?=NF (NF i)->owner[j']?=NF (NF i)->j=j'
 way:∀(j i:Nat)(h:Int),owner[j]?=NF (NF i)->hs[i]?=NF h->∃n,(bI mask (N9 h) n).j=j/\∀m,m<n->∃i':Nat,owner[(bI mask (N9 h) m).j]?=NF (NF i')
theorem Be.room{mask k:Nat}{o:List Int}{owner:Array (Option Nat)}(O:Be mask o owner k)(r:k<=mask):∃j,j<=mask/\owner[j]?=NF NN:=by
 by_cases hx:∃j,j<=mask/\owner[j]?=NF NN;.exact hx
 .exfalso;have all:∀j,j<=mask->∃i,owner[j]?=NF (NF i):=λj a=>by
   have f:j<owner.size:=by rw[O.size];omega
   cases e:owner[j]with
   |none=>exact(hx ⟨j,a,by rw[N6 f,e]⟩).elim|some i=>exact⟨i,by rw[N6 f,e]⟩
  have key:∀n,n<=mask+1->∃l:List Nat,l.length=n/\l.Nodup/\(∀x∈l,x<k)/\∀x∈l,∃j,j<n/\owner[j]?=NF (NF x):=λn=>by induction n with
   |zero=>exactλ_=>⟨[],rfl,.nil,(λx hx=>absurd hx (by simp)),(λx hx=>absurd hx (by simp))⟩|succ n m=>
    intro q;obtain⟨l,h,d,c,g⟩:=m (by omega);obtain⟨i,b⟩:=all n (by omega);refine⟨i::l,by simp[h],List.nodup_cons.mpr ⟨λp=>?_,d⟩,λx hx=>?_,λx hx=>?_⟩
    .obtain⟨j,a,e⟩:=g i p;have:=O.one j n i e b;omega
    .rcases List.mem_cons.mp hx with rfl|hx;.exact O.low _ _ b
     .exact c x hx
    .rcases List.mem_cons.mp hx with rfl|hx;.exact⟨n,by omega,b⟩
     .obtain⟨j,a,e⟩:=g x hx;exact⟨j,by omega,e⟩
  obtain⟨l,h,d,c,_⟩:=key (mask+1) (NZ _);have:=dQ k l d c;omega
theorem uo{mask:Nat}(B:Mask mask){b:Nat}{owner:Array (Option Nat)}(w:owner.size=mask+1){ms:Nat}(p:owner[(run mask b ms).1]?=NF NN):∀(fuel m n:Nat),m<=ms->ms<m+fuel->bI mask b n=jm mask b m->(∀q,q<n->∃t:Nat,owner[(bI mask b q).j]?=NF (NF t))->∃N,RN mask owner fuel (run mask b m).1 (run mask b m).2=NF (bI mask b N).j/\owner[(bI mask b N).j]?=NF NN/\∀q,q<N->∃t:Nat,owner[(bI mask b q).j]?=NF (NF t)
 |0,m,n,D,C,_,_=>by omega|fuel+1,m,n,D,C,y,x=>by
  unfold RN;have pos:∀o,o<=OG mask (run mask b m).1-(run mask b m).1->(bI mask b (n+o)).j=(run mask b m).1+o:=λo f=>by
   rw[nY y o f];rfl
  have h:∀o,o<=OG mask (run mask b m).1-(run mask b m).1->(run mask b m).1+o<owner.size:=λo f=>by
   have:=(xY mask b (n+o)).1;rw[<-pos o f,w];omega
  have gd:∀o,o<=OG mask (run mask b m).1-(run mask b m).1->((owner.getD ((run mask b m).1+o) (NF 0)).isNone=NM↔owner[(run mask b m).1+o]?=NF NN):=λo f=>by
   have a:=h o f;simp[WG,a]
  have E:OG mask (run mask b m).1+1-(run mask b m).1=OG mask (run mask b m).1-(run mask b m).1+1:=by
   have:(run mask b m).1<=OG mask (run mask b m).1:=by unfold OG;split<;>omega
   omega
  rw[E];cases s:(OJ (OG mask (run mask b m).1-(run mask b m).1+1)).find? λk=>(owner.getD ((run mask b m).1+k) (NF 0)).isNone with
  |some o=>
   have f:o<=OG mask (run mask b m).1-(run mask b m).1:=by
    have:=List.mem_range.mp (UB s);omega
   have hb:=List.find?_some s;refine⟨n+o,by simp only[pos o f],?_,λq u=>?_⟩;.rw[pos o f];exact(gd o f).mp hb
   .by_cases a:q<n;.exact x q a
    .obtain⟨c,rfl⟩:∃c,q=n+c:=⟨q-n,by omega⟩;have d:c<=OG mask (run mask b m).1-(run mask b m).1:=by omega
     rw[pos c d];have g:=h c d;cases e:owner[(run mask b m).1+c]with
     |some i=>exact⟨i,by rw[N6 g,e]⟩|none=>
      exfalso;have v:(owner.getD ((run mask b m).1+c) (NF 0)).isNone=NM:=(gd c d).mpr (by rw[N6 g,e]);have:=(List.find?_range_eq_some.mp s).2.2 c (by omega);rw[v]at this;cases this
  |none=>
   have r:=List.find?_eq_none.mp s;have l:∀o,o<=OG mask (run mask b m).1-(run mask b m).1->∃i:Nat,owner[(run mask b m).1+o]?=NF (NF i):=λo f=>by
    have a:=h o f;cases e:owner[(run mask b m).1+o]with
    |some i=>exact⟨i,by rw[N6 a,e]⟩|none=>exact absurd ((gd o f).mpr (by rw[N6 a,e])) (r o (List.mem_range.mpr (by omega)))
   have A:m≠ms:=λe=>by
    subst e;obtain⟨i,z⟩:=l 0 (OB _);rw[WU,p]at z;cases z
   have nx:bI mask b (n+(jm mask b m).more+1)=jm mask b (m+1):=by
    show fy mask (bI mask b (n+(jm mask b m).more))=_;rw[nY y _ (NZ _)];unfold fy;rw[if_neg (by show¬(jm mask b m).more-(jm mask b m).more>0;omega)];rfl
   refine uo B w p fuel (m+1) (n+(jm mask b m).more+1) (by omega) (by omega) nx λq u=>?_;by_cases a:q<n;.exact x q a
   .obtain⟨c,rfl⟩:∃c,q=n+c:=⟨q-n,by omega⟩;have d:c<=OG mask (run mask b m).1-(run mask b m).1:=by
     have:(jm mask b m).more=OG mask (run mask b m).1-(run mask b m).1:=rfl;omega
    rw[pos c d];exact l c d
theorem Be.lay{mask k:Nat}(B:Mask mask){u:List Int}{owner:Array (Option Nat)}(O:Be mask u owner k)(F:k<=mask){h:Int}(hh:u[k]?=NF h):∃j,RN mask owner (Qm mask) (N9 h%(mask+1)) (N9 h)=NF j/\Be mask u (owner.setIfInBounds j (NF k)) (k+1):=by
 obtain⟨j0,x,L⟩:=O.room F;obtain⟨ms,P,H⟩:=uj B (um h) x;obtain⟨N,K,C,I⟩:=uo B (b:=N9 h) O.size (ms:=ms) (by rw[H];exact L) (Qm mask) 0 0 (OB _) (by unfold Qm;omega) rfl (λq E=>absurd E (Qt _));refine⟨_,K,?_⟩;generalize G:(bI mask (N9 h) N).j=J at*;have p:J<owner.size:=(Array.getElem?_eq_some_iff.mp C).1;have o:(owner.setIfInBounds J (NF k))[J]?=NF (NF k):=by simp[p]
 have l:∀j:Nat,j≠J->(owner.setIfInBounds J (NF k))[j]?=owner[j]?:=λj f=>by
  rw[TY];rw[if_neg (OX f)]
 have d:∀(j i:Nat),(owner.setIfInBounds J (NF k))[j]?=NF (NF i)->(j=J/\i=k)\/(j≠J/\owner[j]?=NF (NF i)):=λj i e=>by
  by_cases f:j=J
  .subst f;rw[o]at e;exact .inl ⟨rfl,(NU (NU e)).symm⟩
  .rw[l j f]at e;exact .inr ⟨f,e⟩
 have keep:∀(j i:Nat),owner[j]?=NF (NF i)->∃t:Nat,(owner.setIfInBounds J (NF k))[j]?=NF (NF t):=λj i e=>by
  by_cases f:j=J;.subst f;exact⟨k,o⟩
  .exact⟨i,by rw[l j f];exact e⟩
 refine⟨by simp[O.size],λi M=>?_,λj i e=>?_,λj s i e D=>?_,λj i g e A=>?_⟩
 .by_cases y:i=k;.subst y;exact⟨J,o⟩
  .obtain⟨j,f⟩:=O.has i (by omega);have v:j≠J:=λz=>by subst z;rw[C]at f;cases f
   exact⟨j,by rw[l j v];exact f⟩
 .rcases d j i e with⟨_,rfl⟩|⟨_,q⟩;.omega
  .have:=O.low j i q;omega
 .rcases d j i e with⟨rfl,rfl⟩|⟨_,q⟩
  .rcases d s i D with⟨rfl,_⟩|⟨_,r⟩;.rfl
   .exact absurd (O.low _ _ r) (OD _)
  .rcases d s i D with⟨rfl,rfl⟩|⟨_,r⟩;.exact absurd (O.low _ _ q) (OD _)
   .exact O.one j s i q r
 .rcases d j i e with⟨rfl,rfl⟩|⟨_,q⟩
  .rw[hh]at A;cases A;exact⟨N,G,λm w=>by obtain⟨t,z⟩:=I m w;exact keep _ _ z⟩
  .obtain⟨n,a,c⟩:=O.way j i g q A;exact⟨n,a,λm w=>by obtain⟨t,z⟩:=c m w;exact keep _ _ z⟩
noncomputable def Bf(mask:Nat)(b:Option (Array (Option Nat)×Nat))(h:Int):Option (Array (Option Nat)×Nat):=do
 let(a,k)<-b;let j<-RN mask a (Qm mask) (N9 h%(mask+1)) (N9 h)pure (a.setIfInBounds j (NF k),k+1)
theorem pM(mask:Nat)(a:Array Int):UK mask a=(a.toList.foldl (Bf mask) (NF (Array.replicate (mask+1) NN,0))).map (·.1):=by
 unfold UK;rw[<-Array.foldl_toList];rfl
theorem pN{mask:Nat}(f:Mask mask){b:List Int}(g:b.length<=mask):∀(r:List Int)(k:Nat)(owner:Array (Option Nat)),b.drop k=r->k<=b.length->Be mask b owner k->∃a,r.foldl (Bf mask) (NF (owner,k))=NF (a,b.length)/\Be mask b a b.length
 |[],k,owner,e,c,O=>by
  have d:b.length<=k:=List.drop_eq_nil_iff.mp e;have:k=b.length:=by omega
  subst this;exact⟨owner,rfl,O⟩|h::r,k,owner,e,c,O=>by
  have d:k<b.length:=by
   have:=congrArg Qc e;simp at this;omega
  have hh:b[k]?=NF h:=by
   have:=congrArg (λl=>l[0]?) e;simpa using this
  obtain⟨j,o,n⟩:=O.lay f (by omega) hh;have p:b.drop (k+1)=r:=by
   have:=congrArg List.tail e;simpa using this
  obtain⟨a,m,i⟩:=pN f g r (k+1) _ p d n;refine⟨a,?_,i⟩;rw[List.foldl_cons];have:Bf mask (NF (owner,k)) h=NF (owner.setIfInBounds j (NF k),k+1):=by simp[Bf,o]
  rw[this];exact m
theorem pO{mask:Nat}(d:Mask mask){a:List Int}(b:a.length<=mask):∃owner,UK mask a.toArray=NF owner/\Be mask a owner a.length:=by
 have k:Be mask a (Array.replicate (mask+1) NN) 0:=by
  refine⟨by simp,λi c=>absurd c (Qt _),λj i e=>?_,λj l i e=>?_,λj i h e=>?_⟩;all_goals
   rw[Array.getElem?_replicate]at e;split at e<;>cases e
 obtain⟨owner,g,f⟩:=pN d b a 0 _ rfl (OB _) k;exact⟨owner,by rw[pM];simp[g],f⟩
noncomputable def aS(owner:Array (Option Nat)):List Nat->List (Nat×Nat)
 |[]=>[]|j::r=>match owner.getD j NN with
  |some i=>(j,i)::aS owner r|none=>aS owner r
theorem uq(owner:Array (Option Nat)):∀l:List Nat,(l.filterMap λj=>(owner.getD j NN).map (j,·))=aS owner l
 |[]=>rfl|j::r=>by
  rw[PC];unfold aS;have a:=uq owner r;cases e:owner.getD j NN with
  |none=>exact a|some i=>exact congrArg (List.cons (j,i)) a
theorem fB{owner:Array (Option Nat)}:∀{l:List Nat}{p:Nat×Nat},p∈aS owner l↔p.1∈l/\owner.getD p.1 NN=NF p.2
 |[],p=>by simp[aS]|j::r,p=>by
  unfold aS;cases e:owner.getD j NN with
  |none=>
   simp only[];rw[fB];constructor;.rintro⟨a,b⟩;exact⟨NX _ a,b⟩
   .rintro⟨a,b⟩;rcases List.mem_cons.mp a with z|z;.rw[z,e]at b;cases b
    .exact⟨z,b⟩|some i=>
   simp only[];rw[Pe,fB];constructor
   .rintro(z|⟨a,b⟩);.rw[z];exact⟨NV,e⟩
    .exact⟨NX _ a,b⟩
   .rintro⟨a,b⟩;rcases List.mem_cons.mp a with z|z
    .left;rw[z,e]at b;cases b;exact Prod.ext z rfl
    .exact .inr ⟨z,b⟩
theorem dR{owner:Array (Option Nat)}:∀{l:List Nat},aW l->aW ((aS owner l).map (·.1))
 |[],_=>by simp[aS,aW]|j::r,h=>by
  have a:aW r:=(List.pairwise_cons.mp h).2;unfold aS;cases e:owner.getD j NN with
  |none=>exact dR a|some i=>
   show aW (j::(aS owner r).map (·.1));refine List.pairwise_cons.mpr ⟨λy hy=>?_,dR a⟩;obtain⟨p,b,rfl⟩:=List.mem_map.mp hy;exact(List.pairwise_cons.mp h).1 _ (fB.mp b).1
theorem getD_at{owner:Array (Option Nat)}{j i:Nat}:owner.getD j NN=NF i↔owner[j]?=NF (NF i):=by
 by_cases h:j<owner.size;.simp[WG,h]
 .simp[WG,h]
theorem Bg{mask finger moves:Nat}{led plain:Bool}(C:Mask mask){d:List Int}(H:d.length<=mask):∃(t:Pk)(O:List Nat),SetTable.laid mask finger moves led plain d.toArray=NF (t,O.toArray)/\t.mask=mask/\t.led=led/\t.plain=plain/\O.Nodup/\O.length=d.length/\(∀i,i∈O↔i<d.length)/\∀c:List Int,c.length=O.length->(∀(k i:Nat)(h:Int),O[k]?=NF i->d[i]?=NF h->c[k]?=NF h)->pK t c:=by
 obtain⟨owner,M,f⟩:=pO C H;have w:aW (OJ (mask+1)):=List.pairwise_lt_range;have r:∀p∈aS owner (OJ (mask+1)),owner[p.1]?=NF (NF p.2):=λp o=>getD_at.mp (fB.mp o).2;have lv:∀(j i:Nat),owner[j]?=NF (NF i)->(j,i)∈aS owner (OJ (mask+1)):=λj i e=>by
  refine fB.mpr ⟨List.mem_range.mpr ?_,getD_at.mpr e⟩;have:=(Array.getElem?_eq_some_iff.mp e).1;rw[f.size]at this;exact this
 have mem:∀i,i∈(aS owner (OJ (mask+1))).map (·.2)↔i<d.length:=λi=>by
  constructor
  .intro h;obtain⟨p,o,rfl⟩:=List.mem_map.mp h;exact f.low _ _ (r p o)
  .intro h;obtain⟨j,K⟩:=f.has i h;exact List.mem_map.mpr ⟨(j,i),lv j i K,rfl⟩
 have nd:((aS owner (OJ (mask+1))).map (·.2)).Nodup:=by
  have E:=dR (owner:=owner) w;have l:((aS owner (OJ (mask+1))).map (·.1)).Nodup:=E.imp λh=>Oj h;rw[List.Nodup,List.pairwise_map]at l⊢;refine UU (λ{p q}o G u e=>u ?_) l;exact f.one _ _ _ (r p o) (by rw[e];exact r q G)
 have len:((aS owner (OJ (mask+1))).map (·.2)).length=d.length:=Nat.le_antisymm (dQ _ _ nd λx hx=>(mem x).mp hx) (mY _ _ λx hx=>(mem x).mpr hx);refine⟨_,(aS owner (OJ (mask+1))).map (·.2),by simp only[SetTable.laid,M,uq];rfl,rfl,rfl,rfl,nd,len,mem,λc v hh=>?_⟩;have A:∀k j:Nat,((aS owner (OJ (mask+1))).map (·.1)).toArray[k]?=NF j->∃i,(aS owner (OJ (mask+1)))[k]?=NF (j,i)/\owner[j]?=NF (NF i):=λk j e=>by
  have e:((aS owner (OJ (mask+1))).map (·.1))[k]?=NF j:=by simpa using e
  rw[Om]at e;cases q:(aS owner (OJ (mask+1)))[k]? with
  |none=>rw[q]at e;cases e|some p=>
   rw[q]at e;cases e;exact⟨p.2,rfl,r p (OH q)⟩
 have s:∀j i:Nat,owner[j]?=NF (NF i)->∃k:Nat,((aS owner (OJ (mask+1))).map (·.1)).toArray[k]?=NF j:=λj i e=>by
  obtain⟨k,J⟩:=List.mem_iff_getElem?.mp (lv j i e);exact⟨k,by simp[J]⟩
 refine⟨C,dR w,rfl,?_,λk j e=>?_,?_,λk g j L e=>?_⟩;.rw[v];simp
 .obtain⟨i,_,q⟩:=A k j e;have:=(Array.getElem?_eq_some_iff.mp q).1;rw[f.size]at this;show j<=mask;omega
 .show c.length<=mask;omega
 .obtain⟨i,F,y⟩:=A k j e;have B:=f.low j i y;have D:c[k]?=NF d[i]:=hh k i d[i] (by rw[Om,F];rfl) (Oc B);rw[L]at D;cases D;obtain⟨n,a,b⟩:=f.way j i d[i] y (Oc B);exact⟨n,a,λm I=>by obtain⟨N,z⟩:=b m I;exact s _ _ z⟩
end ST
end
section
namespace ST
open PySem PyProof.Rows
end ST
end
section
namespace ST
open PySem PyProof.Rows
section
variable{prog:N7}{w:Oq}{K:Type}[DecidableEq K]{kk:PySem.KeyKind prog w K}{A:Ov}{E:NJ->NL->Prop}{s:NL}
theorem bQ{a:Type}{m b:UG a}{Q:a->NL->Prop}(e:m=b)(h:wpAny (N2 prog w) A b Q E s):wpAny (N2 prog w) A m Q E s:=e▸h
theorem ki{l d:List Nat}:l.Nodup->d.Nodup->(∀i,i∈l↔i∈d)->l.Perm d:=λa b c=>(Uu a b).mpr c
theorem wq{a:Type}(l:List a)(d:a):(OJ l.length).map (λi=>(l[i]?).getD d)=l:=by
 apply U6;.simp
 .intro i c b;simp[b]
theorem fits_of{t:Pk}{a:List Int}(T:pK t a){n:Nat}(e:n=a.length):t.fits n=NM:=by
 unfold SetTable.fits SetTable.fill;have b:=T.len;have c:=T.HF;rw[T.II,e];simp[b];omega+splitNatSub
end
end ST
end
section
namespace ST
open PySem PyProof.Rows
theorem pQ{t:Pk}{a:List Int}(T:pK t a){h:Int}{N:Nat}(F:aR t h N)(hN:N<10*Qm t.mask):t.freeSlot h=NF ((bI t.mask (N9 h) N).j,NP):=by
 unfold SetTable.freeSlot;have e:t.probe (λ_=>h+1) h (t.probeStart h)=NF (.empty (bI t.mask (N9 h) N).j NN):=by
  rcases pL T F (λ_=>h+1) (10*Qm t.mask) 0 (OB _) (by omega)with⟨b,i,_,_,_,hh,_⟩|⟨_,g⟩;.omega
  .exact g
 rw[e];rfl
theorem wu{t:Pk}{a:List Int}(T:pK t a)(Dh:¬a.length*5<t.mask*3)(f:(a.length-1)*5<t.mask*3)(pos:0<a.length)(g:a.length<=306):∃(b:Pk)(O:List Nat),t.relaid a.toArray (V7 a.length)=NF (b,O.toArray)/\a.length*5<b.mask*3/\a.length<=b.mask/\b.led=t.led/\b.plain=t.plain/\O.Perm (OJ a.length)/\∀c:List Int,c.length=O.length->(∀(k i:Nat)(h:Int),O[k]?=NF i->a[i]?=NF h->c[k]?=NF h)->pK b c:=by
 obtain⟨mask,v,u,l,s,d⟩:∃mask,SetTable.sizeAbove (V7 a.length)=mask+1/\Mask mask/\a.length<=mask/\mask+1<=512/\a.length*5<mask*3:=by
  rcases T.mask with e|e|e|e<;>rw[e]at Dh f
  .have:a.length=5:=by omega
   rw[this];exact⟨31,by decide,.inr (.inl rfl),by omega,by omega,by omega⟩
  .have:a.length=19:=by omega
   rw[this];exact⟨127,by decide,.inr (.inr (.inl rfl)),by omega,by omega,by omega⟩
  .have:a.length=77:=by omega
   rw[this];exact⟨511,by decide,.inr (.inr (.inr rfl)),by omega,by omega,by omega⟩
  .omega
 obtain⟨b,O,r,j,q,p,o,w,n,m⟩:=Bg (finger:=t.finger) (moves:=t.movedTo mask) (led:=t.led) (plain:=t.plain) u l;refine⟨b,O,?_,by rw[j];exact d,by rw[j];exact l,q,p,ki o List.nodup_range λi=>by rw[n i,List.mem_range],m⟩;unfold SetTable.relaid;rw[v];exact r
section
variable{prog:N7}{w:Oq}{A:Ov}{E:NJ->NL->Prop}{s:NL}
noncomputable def jn(prog:N7)(w:Oq)(x:Int×Vz):Int×NJ:=((OU prog w).hash x.1,.int x.1 x.2)
structure rZ(prog:N7)(w:Oq)(h:Oy)(a:NR)(xs:List (Int×Vz))(t:Pk):Prop where
 ob:∃o es ep,h.get? a=NF o/\o.ExactSet/\o.data=.set es ep t/\es.toList=xs.map (jn prog w)tab:pK t (xs.map λx=>(OU prog w).hash x.1)HF:xs.length*5<t.mask*3
 nd:(xs.map (·.1)).Nodup
 led:t.led=!w.params.followText "set-order"plain:t.plain=NM
theorem ur(xs:List (Int×Vz)):ElemsOf (OU prog w) (xs.map (jn prog w)):=λe a=>by
 obtain⟨x,_,rfl⟩:=List.mem_map.mp a;exact⟨⟨x.1,R_ _ _ _ _,rfl⟩,rfl⟩
theorem sC{es:Array (Int×NJ)}{xs:List (Int×Vz)}{t:Pk}(f:es.toList=xs.map (jn prog w))(T:pK t (xs.map λx=>(OU prog w).hash x.1))(Dh:¬xs.length*5<t.mask*3)(q:(xs.length-1)*5<t.mask*3)(pos:0<xs.length)(e:xs.length<=306):∃(o:Array (Int×NJ))(t':Pk)(d:List (Int×Vz)),relayAll t es (V7 es.size)=(o,t',NP)/\o.toList=d.map (jn prog w)/\d.Perm xs/\pK t' (d.map λx=>(OU prog w).hash x.1)/\d.length*5<t'.mask*3/\t'.led=t.led/\t'.plain=t.plain:=by
 have r:es.size=xs.length:=by have:=congrArg Qc f;simpa using this
 have a:(xs.map λx=>(OU prog w).hash x.1).length=xs.length:=NY ..;obtain⟨v,O,z,y,M,L,K,m,J⟩:=wu T (by rw[a];exact Dh) (by rw[a];exact q) (by rw[a];exact pos) (by rw[a];exact e);rw[a]at z y M m;have hh:es.map (·.1)=(xs.map λx=>(OU prog w).hash x.1).toArray:=by
  apply Array.ext';rw[Sl,f,PJ];rfl
 let g:Nat->Int×Vz:=λi=>(xs[i]?).getD (0,0);have G:∀i∈O,i<xs.length:=λi c=>List.mem_range.mp (m.mem_iff.mp c);have H:∀i(c:i<xs.length),g i=xs[i]:=λi c=>by show(xs[i]?).getD _=_;rw[Oc c];rfl
 have n:∀i∈O,es[i]?=NF (jn prog w (g i)):=λi c=>by
  have b:=G i c;have:es.toList[i]?=NF (jn prog w xs[i]):=by rw[f,Om,Oc b];rfl
  rw[H i b];simpa using this
 have Q:∀l:List Nat,(∀i∈l,es[i]?=NF (jn prog w (g i)))->l.filterMap (λi=>es[i]?)=(l.map g).map (jn prog w):=by
  intro l;induction l with
  |nil=>intro _;rfl|cons i l N=>
   intro D;rw[PC,D i NV,N λj P=>D j (NX _ P)];rfl
 have p:(O.toArray.filterMap (λi=>es[i]?)).toList=(O.map g).map (jn prog w):=by
  rw[Array.toList_filterMap];exact Q O n
 have C:O.length=xs.length:=by rw[m.length_eq,UL]
 have u:(O.toArray.filterMap (λi=>es[i]?)).size=xs.length:=by
  rw[<-Pc,p];simp[C]
 have I:pK v ((O.map g).map λx=>(OU prog w).hash x.1):=by
  refine J _ (by simp) λk i h F c=>?_;rw[Om,Om,F];have b:=G i (OH F);rw[Om,Oc b]at c;simp only[Rn,Pw]at c⊢;rw[H i b,c]
 have B:(O.map g).Perm xs:=by
  have:=m.map g;rwa[wq]at this
 refine⟨_,v,O.map g,?_,p,B,I,by rw[B.length_eq];exact y,L,K⟩;unfold relayAll;rw[r,hh,z];dsimp only;rw[if_pos];rw[N0];refine⟨?_,fits_of I (by rw[u];simp[C])⟩;unfold coversAll;exact List.isPerm_iff.mpr m
theorem uu{a:NR}{xs:List (Int×Vz)}{t:Pk}{i:Int}{b:Vz}(S:rZ prog w s.heap a xs t)(hn:xs.length<306){Q:Bool->NL->Prop}(X:i∈xs.map (·.1)->Q NP s)(new:i∉xs.map (·.1)->∀h' v t',PF a s.heap h'->rZ prog w h' a v t'->v.Perm ((i,b)::xs)->Q NM {s with heap:=h'}):wpAny (N2 prog w) A (setAddHashed a (.int i b) ((OU prog w).hash i)) Q E s:=by
 obtain⟨o,d,ep,L,hex,hd,g⟩:=id S.ob;have T:=S.tab;have Y:d.size=xs.length:=by have:=congrArg Qc g;simpa using this
 have I:ElemsOf (OU prog w) d.toList:=by rw[g];exact ur xs
 have hf:t.fits d.size=NM:=fits_of T (by rw[Y,NY]);have hb:d.size<scanBound:=by unfold scanBound;omega
 unfold setAddHashed setAddHashedIn;refine OE (NG (S_ L hd hf ?_));dsimp only;rw[byScan_of (knd:=OU prog w) rfl hb I];simp only[↓reduceIte];unfold setAddByScan;refine NG (NG (Tu (NG (wpAny_setScan_of (knd:=OU prog w) (R_ _ _ _ _) L hd hf I ?_))));cases hr:List.findIdx? (λe=>(OU prog w).is i e.2) d.toList with
 |some j=>
  obtain⟨hj,Z,_⟩:=List.findIdx?_eq_some_iff_getElem.mp hr;have hm:∃e∈xs.map (jn prog w),(OU prog w).is i e.2=NM:=⟨_,g▸List.getElem_mem hj,Z⟩;obtain⟨e,he,hp⟩:=hm;obtain⟨x,hx,rfl⟩:=List.mem_map.mp he;have:i=x.1:=(OU prog w).inj _ _ _ hp (R_ _ _ _ _);exact NO (NO (X (by rw[this];exact Rz hx)))|none=>
  have f:i∉xs.map (·.1):=λz=>by
   obtain⟨x,hx,rfl⟩:=List.mem_map.mp z;have:=List.findIdx?_eq_none_iff.mp hr (jn prog w x) (by rw[g];exact Rz hx);rw[show(OU prog w).is x.1 (jn prog w x).2=NM from R_ _ _ _ _]at this;cases this
  dsimp only;obtain⟨N,hN,F⟩:=T.first ((OU prog w).hash i);have n:(xs.map λx=>(OU prog w).hash x.1).length+1<=t.mask:=by
   have:=S.HF;simp only[NY];rcases T.mask with e|e|e|e<;>rw[e]at this⊢<;>omega
  obtain⟨hp,u⟩:=T.put F n;have ed:(t.put (bI t.mask (N9 ((OU prog w).hash i)) N).j).1.plain=t.plain:=rfl;have M:(t.put (bI t.mask (N9 ((OU prog w).hash i)) N).j).1.mask=t.mask:=rfl;have el:(t.put (bI t.mask (N9 ((OU prog w).hash i)) N).j).1.led=t.led:=rfl;have eL:layNew t d ((OU prog w).hash i) (.int i b)=(OZ d (t.put (bI t.mask (N9 ((OU prog w).hash i)) N).j).2 ((OU prog w).hash i,.int i b),(t.put (bI t.mask (N9 ((OU prog w).hash i)) N).j).1.orStandIn (OZ d (t.put (bI t.mask (N9 ((OU prog w).hash i)) N).j).2 ((OU prog w).hash i,.int i b)).size,NP,!(t.put (bI t.mask (N9 ((OU prog w).hash i)) N).j).1.fits (OZ d (t.put (bI t.mask (N9 ((OU prog w).hash i)) N).j).2 ((OU prog w).hash i,.int i b)).size):=by
   unfold layNew;rw[pQ T F hN]
  generalize(t.put (bI t.mask (N9 ((OU prog w).hash i)) N).j).2=p at*;generalize(t.put (bI t.mask (N9 ((OU prog w).hash i)) N).j).1=m at*;simp only[NY]at hp;have eh:((xs.take p++(i,b)::xs.drop p).map λx=>(OU prog w).hash x.1)=((xs.map λx=>(OU prog w).hash x.1).take p++(OU prog w).hash i::(xs.map λx=>(OU prog w).hash x.1).drop p):=by rw[Po,Ot,List.map_take,List.map_drop]
  rw[<-eh]at u;have K:(xs.take p++(i,b)::xs.drop p).Perm ((i,b)::xs):=by
   have:=List.perm_middle (a:=(i,b)) (l₁:=xs.take p) (l₂:=xs.drop p);rwa[Qy]at this
  have r:(OZ d p ((OU prog w).hash i,.int i b)).toList=(xs.take p++(i,b)::xs.drop p).map (jn prog w):=by
   rw[ee d p _ (by omega),g,Po,Ot,List.map_take,List.map_drop];rfl
  generalize a0:xs.take p++(i,b)::xs.drop p=xs1 at*;generalize OZ d p ((OU prog w).hash i,.int i b)=h at*;have C:xs1.length=xs.length+1:=by rw[K.length_eq];rfl
  have y:h.size=xs1.length:=by have:=congrArg Qc r;simpa using this
  have l:m.fits h.size=NM:=fits_of u (by rw[y,NY]);have W:m.orStandIn h.size=m:=by unfold SetTable.orStandIn;rw[l];rfl
  rw[eL,W,l];have B:(xs1.map (·.1)).Nodup:=(K.map (·.1)).nodup_iff.mpr (List.nodup_cons.mpr ⟨f,S.nd⟩);dsimp only;refine NG (NO ?_);rw[ed,S.plain];simp only[if_true];refine NG (NO ?_);simp only[if_true];refine NG (WX L hd ?_ (by rw[y,Qb];omega));have k:=OF (Obj.putSet h m) L (by rw[Xb _ _ hd];rfl);rw[Xb _ _ hd]at k;have H:({o with data:=.set h (ep+1) m}:OW).ExactSet:=hex;have tf:m.tooFull=decide (¬xs1.length*5<t.mask*3):=by
   unfold SetTable.tooFull SetTable.fill;have h3:=u.len;have h4:=u.II;simp only[NY]at h3;simp only[h3,h4,M];simp
  rw[tf];by_cases c:xs1.length*5<t.mask*3
  .rw[if_neg (by simpa using c)];exact NO (NO (new f _ xs1 m (O2 ..) ⟨⟨_,_,_,k,H,rfl,r⟩,u,by rw[M];exact c,B,by rw[el];exact S.led,by rw[ed];exact S.plain⟩ K))
  .rw[if_pos (by simpa using c)];have P:=S.HF;obtain⟨q,R,O,q1,q2,V,q4,q5,q6,q7⟩:=sC r u (by rw[M];exact c) (by rw[M,C];exact P) (by omega) (by omega);rw[q1];dsimp only;refine NG (NO ?_);have U:q.size=xs1.length:=by have:=congrArg Qc q2;rw[NY,V.length_eq]at this;simpa using this
   refine NG (WX (s:={s with heap:=_}) k rfl ?_ (by rw[U,Qb];omega));have D:=OF (Obj.putSet q R) k (by rw[Xb _ _ rfl];rfl);rw[Xb _ _ rfl]at D;have G:({o with data:=.set q (ep+1+1) R}:OW).ExactSet:=hex;exact NO (NO (new f _ O R ((O2 ..).trans (O2 ..)) ⟨⟨_,_,_,D,G,rfl,q2⟩,q4,q5,(V.map (·.1)).nodup_iff.mpr B,by rw[q6,el];exact S.led,by rw[q7,ed];exact S.plain⟩ (V.trans K)))
end
end ST
end
section
namespace SortM
open PySem PySem.W PyProof.Rows
structure Ord(N:Nat)(lt:Nat->Nat->Bool)(cmp:Nat->Nat->(Bool->NL->Prop)->NL->Prop)(s:NL):Prop where
 ask:∀(i j:Nat)(C:Bool->NL->Prop),i<N->j<N->C (lt i j) s->cmp i j C s
 xZ:∀a b,lt a b=NM->lt b a=NP
 x4:∀a b c,lt a b=NP->lt b c=NP->lt a c=NP
noncomputable abbrev at'(p:Array Nat)(k:Nat):Nat:=p.getD k 0
noncomputable def Ok(N:Nat)(p:Array Nat):Prop:=p.size=N/\p.toList.Perm (OJ N)
section
variable{N:Nat}{lt:Nat->Nat->Bool}{cmp:Nat->Nat->(Bool->NL->Prop)->NL->Prop}{s:NL}
theorem Ok.gw{p:Array Nat}(v:Ok N p){k:Nat}(a:k<N):at' p k<N:=by
 have h:k<p.size:=by rw[v.1];exact a
 have m:at' p k∈p.toList:=by
  unfold at';rw[OM,N6 h];exact Array.getElem_mem_toList h
 exact List.mem_range.mp (v.2.mem_iff.mp m)
theorem Ok.rev{p:Array Nat}(v:Ok N p)(i j:Nat):Ok N (UM p i j):=⟨(mirror_size _ _ _ _).trans v.1,((mirror_perm p i j _).toList).trans v.2⟩
theorem Ok.Nc{p:Array Nat}(v:Ok N p)(i j:Nat):Ok N (bubble p i j):=⟨(bubble_size _ _ _).trans v.1,((bubble_perm p i j).toList).trans v.2⟩
theorem eX{p:Array Nat}{i j:Nat}(a:j<=p.size)(k:Nat):at' (UM p i j) k=if i<=k/\k<j then at' p (i+j-1-k)else at' p k:=by
 unfold at' UM;rw[OM,getElem?_mirror_all a];split;.rw[OM]
 .rw[OM]
theorem x6{p:Array Nat}{k d:Nat}(a:k<p.size)(hd:d<=k)(i:Nat):at' (bubble p k d) i=if i=k-d then at' p k else if k-d<i/\i<=k then at' p (i-1)else at' p i:=by
 show(bubble p k d).getD i 0=if i=k-d then p.getD k 0 else if k-d<i/\i<=k then p.getD (i-1) 0 else p.getD i 0;rw[OM,OM,OM,OM,getElem?_bubble a d hd];split;.rfl
 .split;.rfl
  .rfl
noncomputable def Up(lt:Nat->Nat->Bool)(p:Array Nat)(k:Nat):Prop:=∀i j,i<=j->j<k->lt (at' p j) (at' p i)=NP
noncomputable def Down(lt:Nat->Nat->Bool)(p:Array Nat)(k:Nat):Prop:=∀i j,i<=j->j<k->lt (at' p i) (at' p j)=NP
theorem Ord.refl(O:Ord N lt cmp s)(a:Nat):lt a a=NP:=by cases h:lt a a with
 |false=>rfl|true=>
  have:=O.xZ a a h;rw[h]at this;cases this
theorem Up.step(O:Ord N lt cmp s){p:Array Nat}{k:Nat}(u:Up lt p k)(h:1<=k->lt (at' p k) (at' p (k-1))=NP):Up lt p (k+1):=by
 intro i j b d;by_cases a:j<k;.exact u i j b a
 .have e:j=k:=by omega
  subst e;by_cases c:i=j;.subst c;exact O.refl _
  .exact O.x4 _ _ _ (h (by omega)) (u i (j-1) (by omega) (by omega))
theorem Down.step(O:Ord N lt cmp s){p:Array Nat}{k:Nat}(u:Down lt p k)(h:1<=k->lt (at' p (k-1)) (at' p k)=NP):Down lt p (k+1):=by
 intro i j b d;by_cases a:j<k;.exact u i j b a
 .have e:j=k:=by omega
  subst e;by_cases c:i=j;.subst c;exact O.refl _
  .exact O.x4 _ _ _ (u i (j-1) (by omega) (by omega)) (h (by omega))
theorem sD(O:Ord N lt cmp s){p:Array Nat}(v:Ok N p){Q:Nat->NL->Prop}:∀(f n:Nat),1<=n->n+f<=N->Up lt p n->(∀m,n<=m->m<=n+f->Up lt p m->(m<n+f->lt (at' p m) (at' p (m-1))=NM)->Q m s)->(kas_asc p f n).kasWp cmp Q s
 |0,n,_,_,u,q=>q n (NZ _) (NZ _) u λh=>absurd h (by omega)|f+1,n,i,g,u,q=>by
  refine O.ask _ _ _ (v.gw (by omega)) (v.gw (by omega)) ?_;cases e:lt (at' p n) (at' p (n-1))with
  |true=>exact q n (NZ _) (by omega) u λ_=>e|false=>
   show(kas_asc p f (n+1)).kasWp cmp Q s;exact sD O v f (n+1) (by omega) (by omega) (u.step O λ_=>e) λm a b c d=>q m (by omega) (by omega) c λz=>d (by omega)
noncomputable def Bh(lt:Nat->Nat->Bool)(p:Array Nat)(n q:Nat):Prop:=q+1<=n/\∀i j,n-(q+1)<=i->i<n->n-(q+1)<=j->j<n->lt (at' p i) (at' p j)=NP
theorem Down.uv{p:Array Nat}{n q:Nat}(c:n<=p.size)(O:Ord N lt cmp s)(u:Down lt p n)(t:Bh lt p n q):Down lt (UM p (n-(q+1)) n) n:=by
 obtain⟨f,t⟩:=t;intro i j b e;rw[eX c,eX c];by_cases d:n-(q+1)<=i/\i<n
 .rw[if_pos d,if_pos (by omega)];exact t _ _ (by omega) (by omega) (by omega) (by omega)
 .rw[if_neg d];by_cases a:n-(q+1)<=j/\j<n
  .rw[if_pos a];exact u _ _ (by omega) (by omega)
  .rw[if_neg a];exact u i j b e
theorem pR{p:Array Nat}{i n k:Nat}(a:n<=p.size)(b:n<=k):at' (UM p i n) k=at' p k:=by rw[eX a,if_neg (by omega)]
theorem Down.revAll{p:Array Nat}{n:Nat}(a:n<=p.size)(u:Down lt p n):Up lt (UM p 0 n) n:=by
 intro i j b c;rw[eX a,eX a,if_pos (by omega+splitNatSub),if_pos (by omega+splitNatSub)];exact u _ _ (by omega+splitNatSub) (by omega+splitNatSub)
theorem kj(O:Ord N lt cmp s){Q:Array Nat×Nat×Nat->NL->Prop}:∀(f:Nat)(p:Array Nat)(n q:Nat),Ok N p->1<=n->n+f<=N->Down lt p n->Bh lt p n q->(∀g n' h,Ok N g->1<=n'->n'<=n+f->Down lt g n'->Bh lt g n' h->Q (g,n',h) s)->(kas_desc f p n q).kasWp cmp Q s
 |0,p,n,q,v,o,z,u,t,k=>k p n q v o (NZ _) u t|f+1,p,n,q,v,o,z,u,t,k=>by
  have l:n<=p.size:=by rw[v.1];omega
  have one:∀g,Bh lt g (n+1) 0:=λg=>⟨by omega,λi j a b c d=>by
   have D:i=n:=by omega
   have C:j=n:=by omega
   subst D;subst C;exact O.refl _⟩;refine O.ask _ _ _ (v.gw (by omega)) (v.gw (by omega)) ?_;cases e:lt (at' p n) (at' p (n-1))with
  |true=>
   have y:=O.xZ _ _ e;show(if q>0 then kas_desc f (UM p (n-(q+1)) n) (n+1) 0 else kas_desc f p (n+1) 0).kasWp cmp Q s;by_cases w:q>0
   .rw[if_pos w];refine kj O f _ (n+1) 0 (v.rev _ _) (by omega) (by omega) ((u.uv l O t).step O λ_=>?_) (one _) λg n' h a b c d e=>k g n' h a b (by omega) d e;rw[pR l (NZ _),eX l,if_pos (by have:=t.1;omega)];exact O.x4 _ _ _ (t.2 _ (n-1) (by omega) (by have:=t.1;omega) (by omega) (by omega)) y
   .rw[if_neg w];exact kj O f p (n+1) 0 v (by omega) (by omega) (u.step O λ_=>y) (one _) λg n' h a b c d e=>k g n' h a b (by omega) d e|false=>
   refine O.ask _ _ _ (v.gw (by omega)) (v.gw (by omega)) ?_;cases d:lt (at' p (n-1)) (at' p n)with
   |true=>exact k p n q v o (by omega) u t|false=>
    refine kj O f p (n+1) (q+1) v (by omega) (by omega) (u.step O λ_=>d) ⟨by have:=t.1;omega,λi j a b c E=>?_⟩ λg n' h a b c d e=>k g n' h a b (by omega) d e;have A:=t.1;by_cases x:i<n
    .by_cases m:j<n;.exact t.2 i j (by omega) x (by omega) m
     .have r:j=n:=by omega
      subst r;exact O.x4 _ _ _ (t.2 i (j-1) (by omega) x (by omega) (by omega)) d
    .have B:i=n:=by omega
     subst B;by_cases m:j<i;.exact O.x4 _ _ _ e (t.2 (i-1) j (by omega) (by omega) (by omega) m)
     .have r:j=i:=by omega
      subst r;exact O.refl _
theorem pS(O:Ord N lt cmp s){p:Array Nat}(v:Ok N p){n:Nat}{Q:Nat×Array Nat->NL->Prop}(g:1<=n)(f:n<=N)(u:Down lt p n)(k:∀m d,Ok N d->m<=N->Up lt d m->Q (m,d) s):(Xd n N p).kasWp cmp Q s:=by
 have e:n<=p.size:=by rw[v.1];exact f
 unfold Xd;rw[SE];exact sD O (v.rev 0 n) (N-n) n g (by omega) (u.revAll e) λm a b c _=>k m _ (v.rev 0 n) (by omega) c
theorem jN(O:Ord N lt cmp s){p:Array Nat}(v:Ok N p){n:Nat}{Q:Nat×Array Nat->NL->Prop}(y:1<=n)(x:n+1<=N)(u:Down lt p (n+1))(k:∀m e,Ok N e->m<=N->Up lt e m->Q (m,e) s):(Vt n N p).kasWp cmp Q s:=by
 unfold Vt;rw[SE];refine kj O (N-(n+1)) p (n+1) 0 v (by omega) (by omega) u ⟨by omega,λi j a b c d=>?_⟩ λe f h g a b o r=>?_
 .have w:i=n:=by omega
  have t:j=n:=by omega
  subst w;subst t;exact O.refl _
 .have l:f<=e.size:=by rw[g.1];omega
  show(if h>0 then Xd f N (UM e (f-(h+1)) f)else Xd f N e).kasWp cmp Q s;by_cases q:h>0
  .rw[if_pos q];exact pS O (g.rev _ _) a (by omega) (o.uv l O r) k
  .rw[if_neg q];exact pS O g a (by omega) o k
theorem x8(O:Ord N lt cmp s){p:Array Nat}(v:Ok N p){Q:Nat×Array Nat->NL->Prop}(x:2<=N)(k:∀m g,Ok N g->m<=N->Up lt g m->Q (m,g) s):(kas_count N p).kasWp cmp Q s:=by
 unfold kas_count;rw[SE];refine sD O v (N-1) 1 (NZ _) (by omega) (λi j a b=>?_) λn a b u d=>?_
 .have o:i=0:=by omega
  have l:j=0:=by omega
  subst o;subst l;exact O.refl _
 .have f:n<=p.size:=by rw[v.1];omega
  show(if(n==N)=NM then Xw (n,p)else if n>1 then KasT.ask (p.getD 0 0) (p.getD (n-1) 0) λc=>if c=NM then Xw (n,p)else Vt n N (UM p 0 n)else Vt n N p).kasWp cmp Q s;by_cases hN:(n==N)=NM
  .rw[if_pos hN];exact k n p v (by omega) u
  .rw[if_neg hN];have t:n<N:=by
    have:n≠N:=λz=>hN (by rw[z];simp);omega
   have d:=d (by omega);by_cases r:n>1
   .rw[if_pos r];refine O.ask _ _ _ (v.gw (by omega)) (v.gw (by omega)) ?_;cases e:lt (at' p 0) (at' p (n-1))with
    |true=>exact k n p v (by omega) u|false=>
     have all:∀i j,i<n->j<n->lt (at' p i) (at' p j)=NP:=λi j w q=>O.x4 _ _ _ (u i (n-1) (by omega) (by omega)|>λ_=>O.x4 _ _ _ (O.x4 _ _ _ (u 0 i (by omega) w) e) (O.refl _)) (u j (n-1) (by omega) (by omega));refine jN O (v.rev 0 n) a (by omega) (Down.step O (λi j h q=>?_) λ_=>?_) k
     .rw[eX f,eX f,if_pos (by omega),if_pos (by omega)];exact all _ _ (by omega) (by omega)
     .rw[pR f (NZ _),eX f,if_pos (by omega)];exact O.x4 _ _ _ (all _ (n-1) (by omega) (by omega)) (O.xZ _ _ d)
   .rw[if_neg r];have en:n=1:=by omega
    subst en;refine jN O v (NZ _) (by omega) (Down.step O (λi j h q=>?_) λ_=>O.xZ _ _ d) k;have o:i=0:=by omega
    have l:j=0:=by omega
    subst o;subst l;exact O.refl _
theorem kX(O:Ord N lt cmp s){p:Array Nat}(v:Ok N p){k:Nat}(h:k<N)(u:Up lt p k){Q:Nat->NL->Prop}:∀(f l r:Nat),l<=r->r<=k->r-l<=f->(∀i,i<l->lt (at' p k) (at' p i)=NP)->(∀i,r<=i->i<k->lt (at' p i) (at' p k)=NP)->(∀m,m<=k->(∀i,i<m->lt (at' p k) (at' p i)=NP)->(∀i,m<=i->i<k->lt (at' p i) (at' p k)=NP)->Q m s)->(kas_place p k f l r).kasWp cmp Q s
 |0,l,r,t,g,o,a,b,q=>by
  have e:l=r:=by omega+splitNatSub
  subst e;exact q l g a b|f+1,l,r,t,g,o,a,b,q=>by
  show(if l>=r then Xw l else KasT.ask (p.getD k 0) (p.getD ((l+r)/2) 0) λc=>if c=NM then kas_place p k f l ((l+r)/2)else kas_place p k f ((l+r)/2+1) r).kasWp cmp Q s;by_cases d:l>=r
  .rw[if_pos d];have e:l=r:=by omega+splitNatSub
   subst e;exact q l g a b
  .rw[if_neg d];refine O.ask _ _ _ (v.gw h) (v.gw (by omega+splitNatSub)) ?_;cases e:lt (at' p k) (at' p ((l+r)/2))with
   |true=>
    refine kX O v h u f l ((l+r)/2) (by omega+splitNatSub) (by omega+splitNatSub) (by omega+splitNatSub) a (λi j n=>?_) q;exact O.x4 _ _ _ (u _ _ j n) (O.xZ _ _ e)|false=>
    refine kX O v h u f ((l+r)/2+1) r (by omega+splitNatSub) g (by omega+splitNatSub) (λi j=>?_) b q;exact O.x4 _ _ _ e (u _ _ (by omega+splitNatSub) (by omega+splitNatSub))
theorem x9(O:Ord N lt cmp s){Q:Array Nat->NL->Prop}(q:∀l,Ok N l->Up lt l N->Q l s):∀(f:Nat)(p:Array Nat)(k:Nat),Ok N p->k+f=N->Up lt p k->(kas_bin f p k).kasWp cmp Q s
 |0,p,k,v,h,u=>q p v (by have e:k=N:=h;subst e;exact u)|f+1,p,k,v,h,u=>by
  have d:k<p.size:=by rw[v.1];omega
  unfold kas_bin;rw[SE];refine kX O v (by omega) u k 0 k (OB _) (NZ _) (by omega) (λi h=>absurd h (by omega)) (λi r x=>absurd r (by omega)) λm t a b=>?_;refine x9 O q f _ (k+1) (v.Nc _ _) (by omega) λi j n w=>?_;have e:k-(k-m)=m:=by omega
  rw[x6 d (by omega),x6 d (by omega),e];by_cases o:i=m
  .rw[if_pos o];by_cases c:j=m;.rw[if_pos c];exact O.refl _
   .rw[if_neg c,if_pos (by omega)];exact b _ (by omega) (by omega)
  .rw[if_neg o];by_cases c:j=m
   .rw[if_pos c,if_neg (by omega)];exact a _ (by omega)
   .rw[if_neg c];by_cases pk:m<i/\i<=k
    .rw[if_pos pk,if_pos (by omega)];exact u _ _ (by omega) (by omega)
    .rw[if_neg pk];by_cases g:m<j/\j<=k
     .rw[if_pos g];exact u _ _ (by omega) (by omega)
     .rw[if_neg g];exact u _ _ n (by omega)
theorem Bi(O:Ord N lt cmp s)(c:2<=N){Q:Array Nat->NL->Prop}(q:∀p,Ok N p->Up lt p N->Q p s):(kas_sort N).kasWp cmp Q s:=by
 unfold kas_sort;rw[SE];refine x8 O (p:=Pb (OJ N)) ⟨by simp,by simp⟩ c λm p v g u=>?_;show(if m<N then kas_bin (N-max m 1) p (max m 1)else Xw p).kasWp cmp Q s;by_cases h:m<N
 .rw[if_pos h];refine x9 O q _ p _ v (by omega) λi j a k=>?_;by_cases b:1<=m;.exact u i j a (by omega)
  .have f:i=0:=by omega
   have d:j=0:=by omega
   subst f;subst d;exact O.refl _
 .rw[if_neg h];have e:m=N:=by omega
  subst e;exact q p v u
end
end SortM
end
section
namespace SortM
open PySem PySem.W PyProof.Rows
noncomputable def Kept(a:NR)(h h':Oy):Prop:=∀b o,b≠a->h.get? b=NF o->h'.get? b=NF o
theorem x_(n:Nat):Ok n (Pb (OJ n)):=⟨by simp,by simp⟩
theorem mZ(vs:List NJ):((Pb (OJ vs.length)).toList.map λi=>vs.getD i Oz)=vs:=by
 show(OJ vs.length).map (λi=>vs.getD i Oz)=vs;apply U6;.simp
 .intro i a b;simp at a;simp[PN,a]
section
variable{prog:N7}{w:Oq}{A:Ov}{E:NJ->NL->Prop}{s:NL}
theorem nZ{a:NR}{vs:List NJ}{n:Nat}{P:PySem.Fin->NL->Prop}{H:Qd}{lt:Nat->Nat->Bool}(F:s.heap.get? a=NF (P6 "list" vs.toArray n))(K:vs.length<64)(I:∀i,lt i i=NP)(V:2<=vs.length->∀h',Kept a s.heap h'->(∀R:Qd->NL->Prop,R H {s with heap:=h'}->wpAny (N2 prog w) A (Xx vs.toArray) R (λ_ _=>False) {s with heap:=h'})/\Ord vs.length lt (kas_ask prog w A H vs) {s with heap:=h'})(h:∀(p:Array Nat)(h':Oy)(c:Nat),Ok vs.length p->Up lt p vs.length->Kept a s.heap h'->h'.get? a=NF (P6 "list" (Pb (p.toList.map λi=>vs.getD i Oz)) c)->P (.done (.ret .none)) {s with heap:=h'}):wpAny (N2 prog w) A (Builtin.«list.sort» ⟨[.ref a],[]⟩) P E s:=by
 have ha:a<s.heap.objs.size:=N1 F;have S:=O2 s.heap a (Pq λ_=>(#[]:Array NJ));obtain⟨D,z⟩:∃D,(s.heap.update a (Pq λ_=>(#[]:Array NJ))).get? a=NF (P6 "list" #[] D):=⟨_,RV F λ_=>#[]⟩;rw[list_sort_plain];refine NG (listItems_at F rfl ?_);refine NG (Sz F rfl ?_ (by rw[N5,Qb];omega) (OB _));refine NG (TM z rfl ?_);refine NG (wpAny_newTuple ?_ (by show vs.length<=_;rw[Qb];omega));refine NG (UW ?_ (OB _));refine OE ?_;show wpAny (N2 prog w) A _ P E {s with heap:=((s.heap.update a (Pq λ_=>(#[]:Array NJ))).push (P6 "tuple" vs.toArray 0)).push (P6 "list" #[] 0)};generalize B:((s.heap.update a (Pq λ_=>(#[]:Array NJ))).push (P6 "tuple" vs.toArray 0)).push (P6 "list" #[] 0)=h6;have M:Kept a s.heap h6:=λb o hb e=>by
  rw[<-B];exact NQ _ (NQ _ ((S.2 b hb).trans e))
 have d:h6.get? a=NF (P6 "list" #[] D):=by
  rw[<-B];exact NQ _ (NQ _ z)
 dsimp only;have C:∀(p:Array Nat),Ok vs.length p->Up lt p vs.length->∀g,(h6.update a (Pq λ_=>Pb (p.toList.map λi=>vs.getD i Oz))).get? a=NF (P6 "list" (Pb (p.toList.map λi=>vs.getD i Oz)) g)->P (.done (.ret .none)) {s with heap:=h6.update a (Pq λ_=>Pb (p.toList.map λi=>vs.getD i Oz))}:=λp v u g L=>h p _ g v u (λb o hb e=>((O2 h6 a _).2 b hb).trans (M b o hb e)) L;by_cases r:vs.toArray.size<2
 .rw[if_pos r,if_pos r];refine NG (NO ?_);rw[StateT.run_pure];refine NG (NO ?_);dsimp only;have f:(QO (Vu general' (vs.toArray.zip vs.toArray) #[] 7 NN)).map (·.2)=Pb ((Pb (OJ vs.length)).toList.map λi=>vs.getD i Oz):=by
   rw[mZ];show(vs.toArray.zip vs.toArray).map (·.2)=vs.toArray;apply Array.toList_inj.mp;rw[Sl,Array.toList_zip];exact List.map_snd_zip (NZ _)
  rw[f];obtain⟨g,m⟩:∃g,(h6.update a (Pq λ_=>Pb ((Pb (OJ vs.length)).toList.map λi=>vs.getD i Oz))).get? a=NF (P6 "list" (Pb ((Pb (OJ vs.length)).toList.map λi=>vs.getD i Oz)) g):=⟨_,RV d λ_=>_⟩;refine NG (TM d rfl ?_);refine NG (Sz d rfl ?_ (OB _) (by rw[mZ,N5,Qb];omega));simp only[bne_self_eq_false,Oh,if_false];refine NO (C _ (x_ _) (λi j W hj=>?_) g m);have y:vs.length<2:=by simpa using r
  have D:i=0:=by omega
  have L:j=0:=by omega
  subst D;subst L;exact I _
 .rw[if_neg r,if_neg r];have q:2<=vs.length:=by
   have:¬vs.length<2:=by simpa using r
   omega
  obtain⟨T,O⟩:=V q h6 M;refine NG (O3 (T (λt l=>t=H/\l={s with heap:=h6}) ⟨rfl,rfl⟩) (λt s0 Y=>?_) λ_ _ x=>x.elim);obtain⟨rfl,rfl⟩:=Y;refine NG (O3 (kat_run (Q:=λk l=>∃p:Array Nat,l={s with heap:=h6}/\QO k=p.map (kas_item (vs.toArray.zip vs.toArray))/\U7 k=NN/\Ok vs.length p/\Up lt p vs.length) (G:=λp l=>l={s with heap:=h6}/\Ok vs.length p/\Up lt p vs.length) rfl q K (λU k l a1 a2 Z N=>⟨U,N.1,a2,Z,N.2⟩) (Bi O q λp v u=>⟨rfl,v,u⟩)) ?_ λ_ _ e=>e);rintro⟨⟨⟩,k⟩l⟨p,rfl,J,X,v,u⟩;dsimp only;have f:=kat_snds rfl J;rw[f];have y:(Pb (p.toList.map λi=>vs.getD i Oz)).size=vs.length:=by rw[N5,NY,Pc,v.1]
  obtain⟨g,m⟩:∃g,(h6.update a (Pq λ_=>Pb (p.toList.map λi=>vs.getD i Oz))).get? a=NF (P6 "list" (Pb (p.toList.map λi=>vs.getD i Oz)) g):=⟨_,RV d λ_=>_⟩;refine NG (TM d rfl ?_);refine NG (Sz d rfl ?_ (OB _) (OC (Vo y) (by rw[Qb];omega)));rw[X];simp only[bne_self_eq_false,Oh,if_false];exact NO (C p v u g m)
end
end SortM
end
section
namespace SortM
open PySem PySem.W PyProof.Rows L2
noncomputable abbrev dC(h h':Oy):Prop:=∀b o,h.get? b=NF o->h'.get? b=NF o
section
variable{prog:N7}{w:Oq}{A:Ov}{E:NJ->NL->Prop}{s:NL}
structure ya(prog:N7)(w:Oq)(A:Ov)(vals:List NJ)(κ:Qd)(lt:Nat->Nat->Bool)(s:NL):Prop where
 rf:∀i,lt i i=NP
 kind:2<=vals.length->∀h',dC s.heap h'->∀Q':Qd->NL->Prop,Q' κ {s with heap:=h'}->wpAny (N2 prog w) A (Xx vals.toArray) Q' (λ_ _=>False) {s with heap:=h'}ord:2<=vals.length->∀h',dC s.heap h'->Ord vals.length lt (kas_ask prog w A κ vals) {s with heap:=h'}
theorem wx{v:NJ}{Q:NJ->NL->Prop}(h:wpAny (N2 prog w) A.in1 (WY v) (λvals s1=>vals.length<64/\∃d lt,ya prog w A.in1.in1 vals d lt s1/\∀(p:Array Nat)(h':Oy)(c:Nat),Ok vals.length p->Up lt p vals.length->dC s1.heap h'->h'.get? s1.heap.objs.size=NF (P6 "list" (Pb (p.toList.map λi=>vals.getD i Oz)) c)->Q (.ref s1.heap.objs.size) {s1 with heap:=h'}) E s):wpAny (N2 prog w) A (call (.builtin "sorted") [v]) Q E s:=by
 refine UC kind_sorted plain_sorted entry_sorted (args_sorted1 _) ?_;unfold Builtin.«sorted»;refine NG (m:=checkCount "sorted" 1 1 _) (NO ?_);refine NG (O3 h (λvals s1⟨g,d,lt,K,q⟩=>?_) λ_ _ e=>e);refine NG (UW ?_ (by rw[Qb];omega+splitNatSub));have a:(s1.heap.push (P6 "list" vals.toArray 0)).get? s1.heap.objs.size=NF (P6 "list" vals.toArray 0):=N4 _ rfl;have keep:∀h',Kept s1.heap.objs.size (s1.heap.push (P6 "list" vals.toArray 0)) h'->dC s1.heap h':=λh' k b o e=>k b o (Oj (N1 e)) (NQ _ e);refine NG (OE (O7 slot_list_sort ⟨_,a,rfl⟩ entry_list_sort ?body (args_list_sort _)));case body=>
  refine nZ (s:={s1 with heap:=s1.heap.push (P6 "list" vals.toArray 0)}) a g K.rf (λf h' k=>⟨K.kind f h' (keep h' k),K.ord f h' (keep h' k)⟩) λp h' c v u k e=>⟨_,rfl,?_⟩;exact NO ⟨_,rfl,q p h' c v u (keep h' k) e⟩
theorem uw{Q:Bool->NL->Prop}{a:Bool}:∀(xs c:List NJ)(ns ms:List Int)(i:Nat),QM xs ns->QM c ms->(ns.length<ms.length↔a=NM)->Q (HT.lexLt ns ms) s->KatLex prog w A NM a Q (xs.zip c) i s
 |[],[],[],[],i,_,_,b,q=>by
  have:a=NP:=by cases a with|false=>rfl|true=>exact absurd (b.mpr rfl) (by simp)
  subst this;exact q|[],y::c,[],m::ms,i,_,_,b,q=>by
  have:a=NM:=b.mp (by simp);subst this;exact q|x::xs,[],n::ns,[],i,_,_,b,q=>by
  have:a=NP:=by cases a with|false=>rfl|true=>exact absurd (b.mpr rfl) (by simp)
  subst this;exact q|x::xs,y::c,n::ns,m::ms,i,hx,hy,b,q=>by cases hx with|cons _ j f=>cases hy with|cons _ g d=>
    rw[HT.kO]at q;refine kat_cons (wpAny_eqBool_int ?_);by_cases e:n=m
    .rw[if_pos e]at q;rw[show(n==m)=NM by simp[e]];exact kat_yes (uw xs c ns ms (i+1) f d (by simpa using b) q)
    .rw[if_neg e]at q;rw[show(n==m)=NP by simp[e]];refine kat_no ?_;cases i with
     |zero=>exact oneLt_int q|succ i=>exact kat_one _ _ (lt_int q)
 |[],_,n::_,_,_,h,_,_,_=>by cases h|_::_,_,[],_,_,h,_,_,_=>by cases h|_,[],_,m::_,_,_,h,_,_=>by cases h|_,_::_,_,[],_,_,h,_,_=>by cases h
theorem jo{M:To}{h:Oy}(n:Int)(t:Vz):Looks M h (VX (.int n t)) (.type "int"):=λA Q E s _ q=>NO q
theorem kY{b a:Type}{F:b->a->Prop}{d:b}{c:a}:∀{l₁:List b}{l₂:List a},Paired F l₁ l₂->∀i,i<l₁.length->F (l₁.getD i d) (l₂.getD i c)
 |_,_,.nil,i,h=>absurd h (by simp)|_,_,.cons r _,0,_=>r|_,_,.cons _ t,i+1,h=>kY t i (by simpa using h)
theorem sE{vals:List NJ}{ns:List Int}(t:QM vals ns):ya prog w A vals oneType' (λi j=>decide (ns.getD i 0<ns.getD j 0)) s where
 rf:=λi=>decide_eq_false (Int.lt_irrefl _);kind:=λm o g G q=>by
  refine kas_kind (s:={s with heap:=o}) m (T:=.type "int") (λv l=>?_) (by decide) (by decide) q;have:∀{d:List NJ}{ns:List Int},QM d ns->v∈d->Looks (N2 prog w) o (VX v) (.type "int"):=λ{d ns}t l=>by induction t with
   |nil=>cases l|cons i f _ n=>
    rcases List.mem_cons.mp l with z|z;.rw[z];exact jo i f
    .exact n z
  exact this t l
 ord:=λm o g=>⟨λi j C r p q=>by
   have:∀{d:List NJ}{ns:List Int},QM d ns->∀i,i<d.length->∃f,d.getD i Oz=.int (ns.getD i 0) f:=λ{d ns}t=>by induction t with
    |nil=>intro i h;exact absurd h (by simp)|cons k f _ n=>
     intro i h;cases i with
     |zero=>exact⟨f,rfl⟩|succ i=>
      obtain⟨u,e⟩:=n i (by simpa using h);exact⟨u,e⟩
   obtain⟨F,B⟩:=this t i r;obtain⟨D,y⟩:=this t j p;unfold kas_ask;rw[B,y,keyLt'_oneType];exact oneLt_int q,λa b h=>by have:=of_decide_eq_true h;exact decide_eq_false (by omega),λa b c x m=>by
   have:=of_decide_eq_false x;have:=of_decide_eq_false m;exact decide_eq_false (by omega)⟩
end
end SortM
end
section
namespace L2
open PySem PySem.W PyProof.Rows SortM
theorem wy{a:Type}{p:Array Nat}{n:Nat}(v:Ok n p)(xs:List a)(d:a)(h:xs.length=n):(p.toList.map λi=>xs.getD i d).Perm xs:=by
 have e:(OJ n).map (λi=>xs.getD i d)=xs:=by
  subst h;apply U6;.simp
  .intro i b c;simp at b;simp[PN,b]
 exact(v.2.map λi=>xs.getD i d).trans (by rw[e])
theorem pT{b:Type}{p:Array Nat}{n:Nat}{lt:Nat->Nat->Bool}(v:Ok n p)(u:Up lt p n){f:Nat->b}{R:b->b->Prop}(k:∀i j,lt j i=NP->R (f i) (f j)):(p.toList.map f).Pairwise R:=by
 rw[List.pairwise_iff_getElem];intro i j g e c;have d:i<p.size:=by simpa using g
 have a:j<p.size:=by simpa using e
 rw[List.getElem_map,List.getElem_map];refine k _ _ ?_;have h:=u i j (Sg c) (by rw[<-v.1];exact a);unfold at' at h;rw[OM,OM,N6 d,N6 a]at h;simpa using h
theorem jO{b a:Type}{F:b->a->Prop}{e:b}{d:a}{l₁:List b}{l₂:List a}(r:Paired F l₁ l₂):∀(is:List Nat),(∀i∈is,i<l₁.length)->Paired F (is.map λi=>l₁.getD i e) (is.map λi=>l₂.getD i d)
 |[],_=>.nil|i::is,h=>.cons (kY r i (h i NV)) (jO r is λj c=>h j (NX _ c))
section
variable{X:Cx}
theorem Inv.newList{pins:List (NR×OW)}{σ:St}{H:Hp}{s:NL}{h':Oy}{D c:Nat}{a:List V}{us:List NJ}(I:Inv X pins σ H s)(g:dC s.heap h')(d:s.heap.objs.size<=D)(r:aq a us)(b:a.length<=NW)(e:h'.get? D=NF (P6 "list" us.toArray c)){t:Nat}:Inv X pins σ (upd H D (.lst a)) {s with heap:=h',toks:=t}:=I.laid g d ⟨b,us,c,r,e⟩
end
end L2
end
section
namespace DictIt
open PySem PySem.W PyProof.Rows
section
variable{prog:N7}{w:Oq}{A:Ov}{E:NJ->NL->Prop}{s:NL}
theorem ux{d:NR}{o:OW}{es:Array SN}{e:Nat}{Q:NJ->NL->Prop}(a:(d==Qi)=NP)(b:s.heap.get? d=NF o)(f:o.cls=.type "dict")(hd:o.data=.dict es e)(g:Q (.ref s.heap.objs.size) {s with heap:=s.heap.push {cls:=.type "dict_keyiterator",data:=.fields #[.ref d,.int 0 0,.int es.size 0,.int e 0]}}):wpAny (N2 prog w) A (US (.ref d)) Q E s:=by
 have c:s.TypeIs (.ref d) "dict":=⟨o,b,f⟩;refine Ta c F.slot_dict_iter (O7 F.slot_dict_iter c F.entry_dict_iter ?_ (F.args_dict_iter_1 _));unfold Builtin.«dict.__iter__»;refine NG ?_;unfold Builtin.Dict.dictSlotNone;refine NG (VJ c ?_);show wpAny _ _ (pure (Of d)) _ _ s;refine NO ?_;show wpAny _ _ (VL d>>=_) _ _ s;unfold VL;rw[if_neg (by rw[a];exact O9)];refine NG (NO ?_);refine NG (UN b hd ?_);refine NG (VE b hd ?_);refine NG (ON (NO ⟨_,rfl,"dict_keyiterator",_,⟨_,N4 _ rfl,rfl⟩,F.slot_dict_keyiterator_next.lookup,?_⟩));simpa[R6]using g
theorem uy{it d:NR}{i g:Nat}{k:OW}{es:Array SN}{Q:Option NJ->NL->Prop}(a:s.heap.IsKeyIter it d i es.size g)(e:s.heap.get? d=NF k)(f:k.data=.dict es g)(j:i<es.size)(m:∀h',h'.IsKeyIter it d (i+1) es.size g->PF it s.heap h'->Q (NF es[i].key) {s with heap:=h'}):wpAny (N2 prog w) A (Rt (.ref it)) Q E s:=by
 obtain⟨o,h,l,hd⟩:=id a;unfold Rt;refine NG (TF (RE (name:=NH "__next__") a.typeIs Q4 (O7 Q4 a.typeIs TN ?_ (Tw _))));refine NG (NO ?_);refine NG ?_;refine NG ?_;first|refine NG (QP a.typeIs (NO ?_))|refine NG (Rx a.typeIs (NO ?_))
 refine NG (Uv h hd ?_);have c:TZ "dict_keyiterator"=NP:=by decide
 simp only[c,Oh,if_false];show wpAny _ _ (if(Of d==Oz)=NM then _ else _) _ _ s;rw[if_neg (show¬((Of d==Oz)=NM)from O9)];refine NG (NO ?_);refine NG (UN e f ?_);rw[if_neg (by simp)];refine NG (NO ?_);refine NG (VE e f ?_);rw[if_neg (by simp)];refine NO ?_;simp only[show¬((i:Int)<0)from by omega,if_false,SW,N6 j];refine NG ?_;first|refine NG (QP a.typeIs (NO ?_))|refine NG (Rx a.typeIs (NO ?_))
 refine NG (VM a.typeIs ?_);show wpAny _ _ (V8 (.ref it) 1 (R6 ((i:Int)+1))>>=_) _ _ s;refine NG (Rf h hd (by simp) ?_);have b:(s.heap.update it (Qf (·.setIfInBounds 1 (R6 ((i:Int)+1))))).IsKeyIter it d (i+1) es.size g:=⟨_,OF _ h (P5 (Pa hd _)),(Tb ..).trans l,by rw[Pa hd];simp[R6]⟩;refine NG (OE ?_);refine NG (VM (s:={s with heap:=s.heap.update it (Qf (·.setIfInBounds 1 (R6 ((i:Int)+1))))}) b.typeIs ?_);show wpAny _ _ (pure es[i].key) _ _ _;exact NO (NO ⟨_,rfl,NO (m _ b (O2 ..))⟩)
theorem yb{it d:NR}{i l:Nat}{j:OW}{es:Array SN}{Q:Option NJ->NL->Prop}(hh:A.handled=NN)(c:s.heap.IsKeyIter it d i es.size l)(f:s.heap.get? d=NF j)(g:j.data=.dict es l)(h:es.size<=i)(n:∀h',Heap.ExtBut it s.heap h'->Q NN {s with heap:=h'}):wpAny (N2 prog w) A (Rt (.ref it)) Q E s:=by
 obtain⟨o,k,p,hd⟩:=id c;unfold Rt;refine NG (TF (RE (name:=NH "__next__") c.typeIs Q4 (O7 Q4 c.typeIs TN ?_ (Tw _))));refine NG (NO ?_);refine NG ?_;refine NG ?_;first|refine NG (QP c.typeIs (NO ?_))|refine NG (Rx c.typeIs (NO ?_))
 refine NG (Uv k hd ?_);have e:TZ "dict_keyiterator"=NP:=by decide
 simp only[e,Oh,if_false];show wpAny _ _ (if(Of d==Oz)=NM then _ else _) _ _ s;rw[if_neg (show¬((Of d==Oz)=NM)from O9)];refine NG (NO ?_);refine NG (UN f g ?_);rw[if_neg (by simp)];refine NG (NO ?_);refine NG (VE f g ?_);rw[if_neg (by simp)];refine NO ?_;simp only[show¬((i:Int)<0)from by omega,if_false,SW,PV h];refine NG ?_;first|refine NG (QP c.typeIs (NO ?_))|refine NG (Rx c.typeIs (NO ?_))
 show wpAny _ _ (V8 (.ref it) 0 .none>>=_) _ _ s;refine NG (Rf k hd (by simp) ?_);show wpAny _ _ (newExc (.type "StopIteration") []>>=_) _ _ _;refine NG ?_;simp only[newExc,Xy];refine NG (ON ?_ (by size_fits));refine NG (m:=Uw _ _) (RH (a:=Oz) (by first|rfl|(simp only[Uw];rfl)) ?_);refine ON ?_ (by size_fits);simp only[raiseNew];refine NG (wpAny_handled ?_);rw[show A.in1.handled=NN from hh];refine NG (NO (wpAny_throw ?_));refine NG (RD (T:="StopIteration") (b:=NM) ⟨_,N4 _ rfl,rfl⟩ isSubtype_stop ?_);exact NO (n _ (((O2 ..).extBut.push _).push _))
theorem yc(hh:A.handled=NN)(I d:NR)(g:d≠I)(o:OW)(es:Array SN)(n:Nat)(hd:o.data=.dict es n):Xj prog w A I [I,d] [I] es.size (λi v=>∃e,es[i]?=NF e/\v=e.key) (λi h=>h.IsKeyIter I d i es.size n/\h.get? d=NF o)where
 sub:=λb hb=>by simp at hb;simp[hb]
 frame:=λ_ _ _ st l=>⟨st.1.at λo e=>l I (by simp) o e,l d (by simp) o st.2⟩;item:=λi s Q E m st f=>uy st.1 st.2 hd m λk c a=>f _ k s.toks ⟨es[i],by simp[m],rfl⟩ ⟨c,(a.2 d g).trans st.2⟩ λb o hb e=>a.extBut b o (λh=>hb (by simp[h])) e;done:=λs Q E st f=>yb hh st.1 st.2 hd (NZ _) λk j=>f k s.toks λb o hb e=>j b o (λh=>hb (by simp[h])) e;self:=λ_ _ _ _ st f=>V9 st.1 f
theorem ES{d:NR}{o:OW}{es:Array SN}{g:Nat}(b:(d==Qi)=NP)(f:o.cls=.type "dict")(hd:o.data=.dict es g):KdlSrc prog w "dict" d d es.size (λi v=>∃e,es[i]?=NF e/\v=e.key) (λh=>h.get? d=NF o)where
 type:=λ_ a=>⟨o,a,f⟩;there:=λ_ a=>⟨N1 a,N1 a⟩;keep:=λ_ _ a j=>j d (.inl rfl) o a;notList:=by decide
 notTuple:=by decide
 hint:=λ_ _ s _ a c=>kdl_hint_dict ⟨o,a,f⟩ c;iter:=λ_ _ hh a=>⟨_,_,(λ_ _ c=>ux b a f hd c),yc hh _ d (Oj (N1 a)) o es g hd,⟨⟨_,N4 _ rfl,rfl,rfl⟩,NQ _ a⟩⟩
theorem sF{d:NR}{o:OW}{es:Array SN}{t:Nat}{R:List NJ->NL->Prop}(hh:A.handled=NN)(j:(d==Qi)=NP)(m:s.heap.get? d=NF o)(p:o.cls=.type "dict")(hd:o.data=.dict es t)(n:es.size<=NW)(h:∀(h':Oy)(k:Nat),(∀b o,s.heap.get? b=NF o->h'.get? b=NF o)->R (es.toList.map (·.key)) {s with heap:=h',toks:=k}):wpAny (N2 prog w) A (WY (.ref d)) R E s:=by
 refine kdu_collect (ES (prog:=prog) (w:=w) j p hd) hh m n λh' k f g a=>?_;have e:f.toList=es.toList.map (·.key):=by
  apply WZ;intro i;rw[Om];by_cases l:i<es.size
  .have c:i<f.size:=by rw[a.1];exact l
   obtain⟨e,r,q⟩:=a.2 i f[i] (by simp[c]);simp only[OR,r,N6 c,q,Rn]
  .have c:f.size<=i:=by rw[a.1];omega
   simp only[OR,PV c,PV (Nat.not_lt.mp l),Option.map_none]
 rw[e];exact h h' k g
end
end DictIt
end
section
namespace ST
open PySem PySem.W PyProof.Rows
theorem yd:Manifest.owners.lookup (String.ofList ['r','o','t','a','r','e','t','i','_','t','e','s'].reverse)=NF Manifest.sig_set_iterator:=by kernel_rfl
theorem bA:Slot "set_iterator" "__next__" "set_iterator.__next__":=.of (owner:="set_iterator") (n:="__next__") (by rw[VF,Tr];kernel_rfl) (by decide+kernel) (by decide+kernel) (by decide+kernel) (by first|exact .inl (by decide+kernel)|exact .inr (by decide+kernel)) (by rw[V_];kernel_rfl)
theorem iI:Slot "set_iterator" "__iter__" "set_iterator.__iter__":=.of (owner:="set_iterator") (n:="__iter__") (by rw[VF,Tr];kernel_rfl) (by decide+kernel) (by decide+kernel) (by decide+kernel) (by first|exact .inl (by decide+kernel)|exact .inr (by decide+kernel)) (by rw[V_];kernel_rfl)
theorem gx:Xz table "set_iterator.__next__"=NF Builtin.«set_iterator.__next__»:=entryFor_of_tree (by kernel_rfl)
theorem mF:Xz table "set_iterator.__iter__"=NF Builtin.«dict_keyiterator.__iter__»:=entryFor_alias (id':="dict_keyiterator.__iter__") (by kernel_rfl) rfl (by decide+kernel) (by kernel_rfl)
theorem n0:Xz table "set.__iter__"=NF Builtin.«frozenset.__iter__»:=entryFor_alias (id':="frozenset.__iter__") (by kernel_rfl) rfl (by decide+kernel) (by kernel_rfl)
theorem iJ(a:NJ):argsOk "set_iterator.__next__" ⟨[a],[]⟩:=by unfold argsOk;rw[signature?_of (id:="set_iterator.__next__") (n:=['_','_','t','x','e','n','_','_']) (o:=['r','o','t','a','r','e','t','i','_','t','e','s']) (by kernel_rfl) yd];kernel_rfl
theorem n4(a:NJ):argsOk "set_iterator.__iter__" ⟨[a],[]⟩:=by unfold argsOk;rw[signature?_of (id:="set_iterator.__iter__") (n:=['_','_','r','e','t','i','_','_']) (o:=['r','o','t','a','r','e','t','i','_','t','e','s']) (by kernel_rfl) yd];kernel_rfl
theorem kZ{a:Type}:∀{l:List a}{i:Nat}{x:a},l[i]?=NF x->(x::l.eraseIdx i).Perm l
 |[],i,x,h=>by simp at h|y::l,0,x,h=>by simp at h;subst h;exact .refl _|y::l,i+1,x,h=>by
  rw[U3];exact(List.Perm.swap _ _ _).trans ((kZ (by simpa using h)).cons y)
theorem uz{b:Type}(Vh:Nat->Nat):∀(fuel k:Nat)(left:List b)(a:Array b),left.length<=fuel->(W0 Vh fuel k left a).toList.Perm (a.toList++left)
 |0,k,left,a,h=>by
  have:left=[]:=List.length_eq_zero_iff.mp (by omega);subst this;unfold W0;simp|fuel+1,k,left,a,h=>by
  unfold W0;cases e:left[Vh k%left.length]? with
  |none=>
   have:left=[]:=by cases left with
    |nil=>rfl|cons y l=>
     have:Vh k%(y::l).length<(y::l).length:=Vq _ (by simp);rw[Oc this]at e;cases e
   subst this;simp|some x=>
   have c:=(List.getElem?_eq_some_iff.mp e).1;have:=uz Vh fuel (k+1) (left.eraseIdx (Vh k%left.length)) (a.push x) (by rw[List.length_eraseIdx_of_lt c];omega);refine this.trans ?_;rw[P0,OK];exact(kZ e).append_left _
theorem wz{a:Type}(Vh:Nat->Nat)(xs:Array a):(Wf Vh xs).toList.Perm xs.toList:=by
 have:=uz Vh xs.size 0 xs.toList #[] (by simp);simpa[Wf]using this
structure Wk(w:Oq)(o:OW)(es:Array (Int×NJ))(ep:Nat)(t:Pk):Prop where
 ex:o.ExactSet
 dat:o.data=.set es ep t
 Dj:t.fits es.size=NM
 rise:aW t.place.toList
 plain:t.plain=NM
 led:t.led=!w.params.followText "set-order"
noncomputable def fj(w:Oq)(a:NR)(es:Array (Int×NJ))(b:Nat):Array (Int×NJ):=if w.params.followText "set-order"then Wf (w.params.setOrder a b) es else es
theorem pU(w:Oq)(a:NR)(es:Array (Int×NJ))(b:Nat):(fj w a es b).toList.Perm es.toList:=by
 unfold fj;split;.exact wz _ _
 .exact .refl _
theorem seq_size(w:Oq)(a:NR)(es:Array (Int×NJ))(b:Nat):(fj w a es b).size=es.size:=by
 have:=(pU w a es b).length_eq;simpa using this
noncomputable def iK(h:Oy)(it a:NR)(b i n c:Nat):Prop:=∃o,h.get? it=NF o/\o.cls=.type "set_iterator"/\o.data=.fields #[.int b 0,.int i 0,.ref a,.int n 0,.int c 0]
theorem iK.typeIs{s:NL}{it a:NR}{b i n e:Nat}(h:iK s.heap it a b i n e):s.TypeIs (.ref it) "set_iterator":=let⟨o,c,d,_⟩:=h;⟨o,c,d⟩
section
variable{prog:N7}{w:Oq}{A:Ov}{E:NJ->NL->Prop}{s:NL}{a it:NR}{o:OW}{es:Array (Int×NJ)}{ep:Nat}{t:Pk}
theorem ye(W:Wk w o es ep t)(b:s.heap.get? a=NF o){Q:NJ->NL->Prop}(d:Q (.ref s.heap.objs.size) {s with heap:=s.heap.push {cls:=.type "set_iterator",data:=.fields #[.int 0 0,.int 0 0,.ref a,.int es.size 0,.int ep 0]}}):wpAny (N2 prog w) A (US (.ref a)) Q E s:=by
 have c:s.TypeIs (.ref a) "set":=⟨o,b,W.ex.1⟩;refine Ta c VN (O7 VN c n0 ?_ (PySem.F.args_set_iter_1 _));unfold Builtin.«frozenset.__iter__»Builtin.Frozenset.slot0 slotArgs;simp only[Sm,Pz,Oh,↓reduceIte,bind_assoc,Ox,bne_self_eq_false];unfold UX Builtin.Frozenset.sizeOf setDrawn XA;refine NG (NO ?_);try dsimp only
 refine NG (NO ?_);refine NG (NG (T7 b W.dat W.Dj (NO ?_)));refine NG (NG (S_ b W.dat W.Dj ?_));dsimp only;refine NG (NG (QF (NO (NO ?_))));refine bQ (if_neg ?_) ?_
 .show¬((!w.params.followText "set-order"&&(!t.plain&&decide (es.size>1)))=NM);rw[W.plain];simp
 refine NG (NO (NG (wpAny_setEpoch_of b W.dat W.Dj ?_)));refine NG (ON (NO ⟨_,rfl,"set_iterator",_,⟨_,N4 _ rfl,rfl⟩,bA.lookup,?_⟩));simpa[R6]using d
noncomputable def k8(w:Oq)(t:Pk)(b i:Nat):Prop:=w.params.followText "set-order"=NM\/N8 t.place b=i
theorem sG(w:Oq){t:Pk}(h:aW t.place.toList):k8 w t 0 0:=by
 refine .inr ?_;obtain⟨e,b,d⟩:=fA h 0;by_cases c:N8 t.place 0=0;.exact c
 .have:0<t.place.size:=by omega
  exact absurd (b 0 t.place[0] (by omega) (N6 this)) (Qt _)
theorem sH{w:Oq}{t:Pk}(h:aW t.place.toList){i j:Nat}(e:t.place[i]?=NF j):N8 t.place (j+1)=i+1:=by
 obtain⟨g,d,b⟩:=fA h (j+1);have f:=(Array.getElem?_eq_some_iff.mp e).1;rcases Rp (N8 t.place (j+1)) (i+1)with c|c|c
 .have:=b i j (by omega) e;omega
 .exact c
 .have pk:i+1<t.place.size:=by omega
  have a1:=d (i+1) t.place[i+1] c (N6 pk);have k:=aW.get h (i:=i) (j:=i+1) (x:=j) (y:=t.place[i+1]) (by simpa using e) (by simp[pk]) (OY _);omega
theorem pV(W:Wk w o es ep t){j i:Nat}(k:k8 w t j i)(m:s.heap.get? a=NF o){Q:Option (NJ×Nat)->NL->Prop}(uA:∀(d:i<es.size)f,k8 w t f (i+1)->Q (NF (((fj w a es ep)[i]'(by rw[seq_size];exact d)).2,f)) s)(c:es.size<=i->Q NN s):wpAny (N2 prog w) A (setNext a j i ep) Q E s:=by
 unfold setNext setWalk XA;refine NG (S_ m W.dat W.Dj ?_);dsimp only;refine NG (NG (QF (NO ?_)));have g:=seq_size w a es ep;cases b:w.params.followText "set-order"with
 |true=>
  refine bQ (if_pos b) ?_;refine bQ (if_neg (by simp)) ?_;refine NG (NG (S_ m W.dat W.Dj ?_));dsimp only;refine NG (NG (QF (NO ?_)));refine bQ (if_pos b) ?_;refine NG (QF (NO (NO ?_)));have e:Wf (w.params.setOrder a ep) es=fj w a es ep:=by unfold fj;rw[if_pos b]
  show Q (((Wf (w.params.setOrder a ep) es)[i]?).map λe=>(e.2,j)) s;rw[e];by_cases d:i<es.size
  .rw[N6 (by rw[g];exact d)];exact uA d j (.inl b)
  .rw[PV (by rw[g];omega)];exact c (by omega)|false=>
  refine bQ (if_neg (by rw[show({program:=(N2 prog w).prog,params:=(N2 prog w).w.params}:Setting).params.followText "set-order"=NP from b];exact O9)) ?_;refine bQ (if_neg ?_) ?_
  .show¬((!t.plain&&decide (es.size>1))=NM);rw[W.plain];simp
  refine NG (bQ (if_neg ?_) (NO ?_))
  .show¬((!t.led&&!es.isEmpty)=NM);rw[W.led,b];simp
  refine NO ?_;rcases k with z|z;.rw[b]at z;cases z
  have e:fj w a es ep=es:=by unfold fj;rw[b];rfl
  have l:t.place.size=es.size:=by
   have:=W.Dj;unfold SetTable.fits at this;rw[N0]at this;exact beq_iff_eq.mp this.1
  rw[z];by_cases d:i<es.size
  .have h:i<t.place.size:=by rw[l];exact d
   have:=uA d (t.place[i]+1) (.inr (sH (w:=w) W.rise (N6 h)));rw[N6 d,N6 h];simpa only[e]using this
  .rw[PV (by omega:es.size<=i)];exact c (by omega)
end
end ST
end
section
namespace ST
open PySem PySem.W PyProof.Rows
section
variable{prog:N7}{w:Oq}{A:Ov}{E:NJ->NL->Prop}{s:NL}{a it:NR}{o:OW}{es:Array (Int×NJ)}{ep:Nat}{t:Pk}
theorem Bj(W:Wk w o es ep t){l i:Nat}(j:k8 w t l i)(e:iK s.heap it a l i es.size ep)(m:s.heap.get? a=NF o)(h:i<es.size){Q:Option NJ->NL->Prop}(p:∀h' b,k8 w t b (i+1)->iK h' it a b (i+1) es.size ep->PF it s.heap h'->Q (NF ((fj w a es ep)[i]'(by rw[seq_size];exact h)).2) {s with heap:=h'}):wpAny (N2 prog w) A (Rt (.ref it)) Q E s:=by
 obtain⟨q,d,n,hd⟩:=id e;unfold Rt;refine NG (TF (RE (name:=NH "__next__") e.typeIs bA (O7 bA e.typeIs gx ?_ (iJ _))));unfold Builtin.«set_iterator.__next__»slotArgs;simp only[Sm,Pz,Oh,↓reduceIte,bind_assoc,Ox,bne_self_eq_false];refine NG (NO ?_);refine NG (Uv d hd ?_);show wpAny _ _ (setEntries a>>=_) _ _ s;refine NG (T7 m W.dat W.Dj ?_);rw[if_neg (by simp)];refine NG (pV W (by simpa using j) m (λu b c=>?_) λz=>absurd h (Nat.not_lt.mpr (by simpa using z)));simp only[SW]at c;show wpAny _ _ (V8 (.ref it) 0 (R6 (b:Int))>>=_) _ _ s;refine NG (Rf d hd (by simp) ?_);have xv:iK (s.heap.update it (Qf (·.setIfInBounds 0 (R6 (b:Int))))) it a b i es.size ep:=⟨_,OF _ d (P5 (Pa hd _)),(Tb ..).trans n,by rw[Pa hd];simp[R6]⟩;obtain⟨r,g,k,f⟩:=id xv;show wpAny _ _ (V8 (.ref it) 1 (R6 ((i:Int)+1))>>=_) _ _ _;refine NG (Rf (s:={s with heap:=_}) g f (by simp) ?_);have pk:iK ((s.heap.update it (Qf (·.setIfInBounds 0 (R6 (b:Int))))).update it (Qf (·.setIfInBounds 1 (R6 ((i:Int)+1))))) it a b (i+1) es.size ep:=⟨_,OF _ g (P5 (Pa f _)),(Tb ..).trans k,by rw[Pa f];simp[R6]⟩;have:=p _ b c pk ((O2 ..).trans (O2 ..));exact NO ⟨_,rfl,NO this⟩
theorem ET(hh:A.handled=NN)(W:Wk w o es ep t){g i:Nat}(e:k8 w t g i)(c:iK s.heap it a g i es.size ep)(j:s.heap.get? a=NF o)(f:es.size<=i){Q:Option NJ->NL->Prop}(n:∀h',Heap.ExtBut it s.heap h'->Q NN {s with heap:=h'}):wpAny (N2 prog w) A (Rt (.ref it)) Q E s:=by
 obtain⟨p,d,q,hd⟩:=id c;unfold Rt;refine NG (TF (RE (name:=NH "__next__") c.typeIs bA (O7 bA c.typeIs gx ?_ (iJ _))));unfold Builtin.«set_iterator.__next__»slotArgs;simp only[Sm,Pz,Oh,↓reduceIte,bind_assoc,Ox,bne_self_eq_false];refine NG (NO ?_);refine NG (Uv d hd ?_);show wpAny _ _ (setEntries a>>=_) _ _ s;refine NG (T7 j W.dat W.Dj ?_);rw[if_neg (by simp)];refine NG (pV W (by simpa using e) j (λl k h=>absurd l (Nat.not_lt.mpr (by simpa using f))) λ_=>?_);show wpAny _ _ (V8 (.ref it) 2 .none>>=_) _ _ s;refine NG (Rf d hd (by simp) ?_);show wpAny _ _ (newExc (.type "StopIteration") []>>=_) _ _ _;refine NG ?_;simp only[newExc,Xy];refine NG (ON ?_ (by size_fits));refine NG (m:=Uw _ _) (RH (a:=Oz) (by first|rfl|(simp only[Uw];rfl)) ?_);refine ON ?_ (by size_fits);simp only[raiseNew];refine NG (wpAny_handled ?_);rw[show A.in1.handled=NN from hh];refine NG (NO (wpAny_throw ?_));refine NG (RD (T:="StopIteration") (b:=NM) ⟨_,N4 _ rfl,rfl⟩ isSubtype_stop ?_);exact NO (n _ (((O2 ..).extBut.push _).push _))
theorem Bk{c i n:Nat}(b:iK s.heap it a c i n ep){Q:NJ->NL->Prop}(h:Q (.ref it) s):wpAny (N2 prog w) A (US (.ref it)) Q E s:=by
 refine Ta b.typeIs iI (O7 iI b.typeIs mF ?_ (n4 _));show wpAny _ _ (Xm (.ref it)) _ _ s;exact NO ⟨_,rfl,"set_iterator",_,b.typeIs,bA.lookup,h⟩
theorem yf{r:NR}{Q:Bool->NL->Prop}(e:s.TypeIs (.ref r) "set")(h:Q NP s):wpAny (N2 prog w) A (T_ (.ref r)) Q E s:=by
 unfold T_;refine NG (RT e PySem.F.slot_set_len.lookup ?_);generalize d:("set.__len__":String)=id0;wp_delta;rw[show splitId id0=NF ("set","__len__")from by subst d;decide+kernel];subst d;refine NG (RD (T:="set") (b:=NM) e (by rw[V_];kernel_rfl) ?_);refine wpAny_ite_split (λc=>absurd c (by decide)) (λ_=>?_);refine wpAny_ite_split (λ_=>?_) (λc=>absurd (by decide+kernel) c);refine NG (Vv e ?_);exact NO h
noncomputable def IJ(w:Oq)(a:NR)(es:Array (Int×NJ))(ep:Nat)(i:Nat)(v:NJ):Prop:=∃e,(fj w a es ep)[i]?=NF e/\v=e.2
theorem yg(hh:A.handled=NN)(I:NR)(n:a≠I)(W:Wk w o es ep t):Xj prog w A I [I,a] [I] es.size (IJ w a es ep) (λi h=>(∃c,k8 w t c i/\iK h I a c i es.size ep)/\h.get? a=NF o)where
 sub:=λb hb=>by simp at hb;simp[hb]
 frame:=λ_ _ _⟨⟨c,f,v,d,x⟩,st⟩r=>⟨⟨c,f,v,r I (by simp) _ d,x⟩,r a (by simp) o st⟩;item:=λi s Q E u⟨⟨c,f,d⟩,st⟩l=>Bj W f d st u λq m g k j=>l _ q s.toks ⟨_,N6 (by rw[seq_size];exact u),rfl⟩ ⟨⟨m,g,k⟩,(j.2 a n).trans st⟩ λb o hb e=>j.extBut b o (λh=>hb (by simp[h])) e;done:=λs Q E⟨⟨c,f,d⟩,st⟩l=>ET hh W f d st (NZ _) λq p=>l q s.toks λb o hb e=>p b o (λh=>hb (by simp[h])) e;self:=λ_ _ _ _⟨⟨c,f,d⟩,st⟩l=>Bk d l
theorem Bl(W:Wk w o es ep t):KdlSrc prog w "set" a a es.size (IJ w a es ep) (λh=>h.get? a=NF o)where
 type:=λ_ b=>⟨o,b,W.ex.1⟩;there:=λ_ b=>⟨N1 b,N1 b⟩;keep:=λ_ _ b d=>d a (.inl rfl) o b;notList:=by decide
 notTuple:=by decide
 hint:=λ_ _ s _ b c=>yf ⟨o,b,W.ex.1⟩ c;iter:=λ_ _ hh b=>⟨_,_,(λ_ _ c=>ye W b c),yg hh _ (Oj (N1 b)) W,⟨⟨0,sG w W.rise,_,N4 _ rfl,rfl,rfl⟩,NQ _ b⟩⟩
theorem pX(W:Wk w o es ep t)(hh:A.handled=NN)(l:s.heap.get? a=NF o)(m:es.size<=NW){R:List NJ->NL->Prop}(h:∀(h':Oy)(j:Nat)(vs:List NJ),(∀b o,s.heap.get? b=NF o->h'.get? b=NF o)->vs.Perm (es.toList.map (·.2))->R vs {s with heap:=h',toks:=j}):wpAny (N2 prog w) A (WY (.ref a)) R E s:=by
 refine kdu_collect (Bl (prog:=prog) W) hh l m λh' j d g c=>?_;have k:=seq_size w a es ep;have e:d.toList=(fj w a es ep).toList.map (·.2):=by
  apply WZ;intro i;rw[Om];by_cases n:i<es.size
  .have f:i<d.size:=by rw[c.1];exact n
   obtain⟨e,q,p⟩:=c.2 i d[i] (by simp[f]);simp only[OR,q,N6 f,p,Rn]
  .have f:d.size<=i:=by rw[c.1];omega
   simp only[OR,PV f,PV (show(fj w a es ep).size<=i by omega),Option.map_none]
 exact h h' j d.toList g (by rw[e];exact(pU w a es ep).map _)
end
end ST
end
section
namespace L2
open PySem PySem.Spec PyProof.Rows
noncomputable def jP(P:N7)(w:Oq)(o:OW)(xs:List (Int×Vz)):Prop:=o.data≠.freed/\(∀v,o.data≠.cell v)/\∀(h:Oy)(a:NR),h.get? a=NF o->∃t,ST.rZ P w h a xs t
theorem jP.of{P:N7}{w:Oq}{h:Oy}{a:NR}{o:OW}{xs:List (Int×Vz)}{t:Pk}(S:ST.rZ P w h a xs t)(e:h.get? a=NF o):jP P w o xs:=by
 obtain⟨i,d,f,c,hex,hd,b⟩:=S.ob;rw[e]at c;cases c;exact⟨λz=>(by rw[hd]at z;cases z),λv z=>(by rw[hd]at z;cases z),λj k g=>⟨t,⟨o,d,f,g,hex,hd,b⟩,S.tab,S.HF,S.nd,S.led,S.plain⟩⟩
noncomputable def bp(w:Oq):OW:={cls:=.type "set",dict:=NN,data:=.set #[] 0 (.fresh 0 0 (!w.params.followText "set-order"))}
theorem Bm{prog:N7}{w:Oq}{A:Ov}{E:NJ->NL->Prop}{s:NL}{Q:NJ->NL->Prop}(h:Q (.ref s.heap.objs.size) {s with heap:=s.heap.push (bp w)}):wpAny (N2 prog w) A (newSet (.type "set")) Q E s:=by
 unfold newSet XA;refine NG (NG (QF (NO ?_)));dsimp only;simp only[newObj];exact NG (Xi (NO h))
theorem uB(P:N7)(w:Oq):jP P w (bp w) []:=by
 refine⟨(λz=>nomatch z),(λv z=>nomatch z),λh a e=>⟨_,⟨_,_,_,e,⟨rfl,rfl,rfl⟩,rfl,rfl⟩,?_,(by show 0*5<7*3;omega),.nil,rfl,rfl⟩⟩;exact⟨.inl rfl,.nil,rfl,rfl,λi j e=>(by simp[SetTable.fresh]at e),OB _,λi h j e=>(by simp at e)⟩
section
variable{prog:N7}{w:Oq}{A:Ov}{E:NJ->NL->Prop}{s:NL}
open ST
theorem rZ.typeIs{a:NR}{xs:List (Int×Vz)}{t:Pk}(S:rZ prog w s.heap a xs t):s.TypeIs (.ref a) "set":=let⟨o,_,_,b,c,_⟩:=S.ob;⟨o,b,c.1⟩
theorem n6{a:NR}{xs:List (Int×Vz)}{t:Pk}{i:Int}{d:Vz}{Q:NJ->NL->Prop}(S:rZ prog w s.heap a xs t)(j:xs.length<306)(f:i∈xs.map (·.1)->∀d,Q .none {s with toks:=d})(new:i∉xs.map (·.1)->∀h' b t' e,PF a s.heap h'->rZ prog w h' a b t'->b.Perm ((i,d)::xs)->Q .none {s with heap:=h',toks:=e}):wpAny (N2 prog w) A (call (.builtin "set.add") [.ref a,.int i d]) Q E s:=by
 refine O7 Wa (rZ.typeIs S) PySem.F.entry_set_add ?_ (PySem.F.args_set_add_2 _ _);unfold Builtin.«set.add»Builtin.Frozenset.oneOther;simp only[Sm,bind_assoc];unfold UX XB;refine NG (NO ?_);try dsimp only
 refine NG (NO ?_);try dsimp only
 refine NG (OE (NG ((OU prog w).pyHash (R_ _ _ _ _) ?_)));refine uu (A:=A.in1) (s:={s with toks:=s.toks+1}) S j (λg=>?_) λc h' b t' sb k h=>?_
 .show wpAny _ _ (Xm Oz) _ _ _;exact NO ⟨_,rfl,f g _⟩
 .show wpAny _ _ (Xm Oz) _ _ _;exact NO ⟨_,rfl,new c h' b t' _ sb k h⟩
theorem k_{a:NR}{xs:List (Int×Vz)}{t:Pk}{i:Int}{e:Vz}{Q:Bool->NL->Prop}(S:rZ prog w s.heap a xs t)(g:xs.length<306)(d:i∈xs.map (·.1)->Q NP {s with toks:=s.toks+1})(new:i∉xs.map (·.1)->∀h' b t',PF a s.heap h'->rZ prog w h' a b t'->b.Perm ((i,e)::xs)->Q NM {s with heap:=h',toks:=s.toks+1}):wpAny (N2 prog w) A (XB a (.int i e)) Q E s:=by
 unfold XB;refine OE (NG ((OU prog w).pyHash (R_ _ _ _ _) ?_));exact uu (s:={s with toks:=s.toks+1}) S g d λc h' b t' sb h f=>new c h' b t' sb h f
end
section
variable{prog:N7}{w:Oq}
open ST in
theorem rZ.setOf{h:Oy}{a:NR}{xs:List (Int×Vz)}{t:Pk}(S:ST.rZ prog w h a xs t)(n:xs.length<=511):h.SetOf (OU prog w) a (λi=>decide (i∈xs.map (·.1))) xs.length:=by
 obtain⟨o,d,m,g,hex,hd,b⟩:=S.ob;have c:d.size=xs.length:=by have:=congrArg Qc b;simpa using this
 refine⟨o,d,m,t,g,hex,hd,by rw[b];exact ST.ur xs,λk=>?_,by unfold scanBound;omega,ST.fits_of S.tab (by rw[c,NY]),c⟩;rw[decide_eq_true_eq,b];constructor
 .intro j;obtain⟨x,hx,rfl⟩:=List.mem_map.mp j;exact⟨_,Rz hx,R_ _ _ _ _⟩
 .rintro⟨e,l,f⟩;obtain⟨x,hx,rfl⟩:=List.mem_map.mp l;have:k=x.1:=(OU prog w).inj _ _ _ f (R_ _ _ _ _);rw[this];exact Rz hx
end
noncomputable def Fills(prog:N7)(w:Oq)(A:Ov)(S:NR)(e:Oy)(J:Nat->OW->Prop)(P:Nat->NJ->Prop)(n:Nat):Prop:=∀(i:Nat)(v:NJ)(s:NL)(ob:OW),i<n->P i v->(∀b o,b<S->e.get? b=NF o->s.heap.get? b=NF o)->s.heap.get? S=NF ob->J i ob->∀(Q:Bool->NL->Prop)(E:NJ->NL->Prop),(∀b c d a,s.toks<=d->PF S s.heap c->c.get? S=NF a->J (i+1) a->Q b {s with heap:=c,toks:=d})->wpAny (N2 prog w) A (XB S v) Q E s
section
variable{prog:N7}{w:Oq}{A:Ov}{R:Xr->NL->Prop}{I:NR}{fp wr:List NR}{G:Array VR->Array VR->Prop}{n:Nat}{P:Nat->NJ->Prop}{St:Nat->NL->Prop}
theorem pY(W:WalksS prog w A.in1 I fp wr G n P St)(S:NR)(u:S∉fp)(hw:∀b∈wr,S<b){L:Oy}{J:Nat->OW->Prop}(F:Fills prog w A.in1 S L J P n):∀(k i:Nat)(s:NL)(ob:OW),n-i=k->i<=n->St i s->(∀b o,b<S->L.get? b=NF o->s.heap.get? b=NF o)->s.heap.get? S=NF ob->J i ob->(∀s' c,Moved (S::wr) G s s'->s'.heap.get? S=NF c->J n c->R (.ok (.ret .none)) s')->codeAny (N2 prog w) A (.builtin "set.update.loop" ⟨[.ref S,.ref I],[]⟩) R s:=by
 have t:S∉wr:=λh=>u (W.sub _ h);have a:∀b,b<S->b∉wr:=λb hb z=>absurd (hw b z) (Nat.lt_asymm hb);intro k;induction k with
 |zero=>
  intro i s ob N O d j C K E;have D:i=n:=by omega
  subst D;refine Pp Sr ?_;rw[O4 Q6 _];show wpAny _ A.in1 (Rt (.ref I)>>=_) _ _ s;refine NG (W.done s _ _ d λs' f=>?_);show wpAny _ A.in1 (Xm Oz) _ _ s';exact NO (E s' ob (f.mono λb hb=>NX _ hb) (f.heap S _ t C) K)|succ k M=>
  intro i s ob N O d j C K E;have g:i<n:=by omega
  refine Pp Sr ?_;rw[O4 Q6 _];show wpAny _ A.in1 (Rt (.ref I)>>=_) _ _ s;refine NG (W.item i s _ _ g d λv s' hP p f=>?_);show wpAny _ A.in1 (TB [v] (XB S v)>>=_) _ _ s';refine NG (OE (F i v s' ob g hP (λb o hb e=>f.heap b o (a b hb) (j b o hb e)) (f.heap S _ t C) K _ _ λ_ Q T c m sb B H=>?_));refine NO ⟨Qg Q6 _,M (i+1) _ c (by omega) g (W.frame _ s' _ _ p m λb hb o e=>?_) (λb o hb e=>?_) B H λy l r q x=>?_⟩;.rw[sb.2 b (λh:b=S=>u (by rw[<-h];exact hb))];exact e
  .show Q.get? b=NF o;rw[sb.2 b (Oj hb)];exact f.heap b o (a b hb) (j b o hb e)
  .refine E y l (Moved.trans W.gtrans ((f.mono λb hb=>NX _ hb).then_heap m λb o hb e=>?_) r) q x;rw[sb.2 b (λh:b=S=>hb (by rw[h];exact NV))];exact e
end
section
variable{prog:N7}{w:Oq}{A:Ov}{E:NJ->NL->Prop}{s:NL}
theorem code_set_new(a:NJ){Q₁:NJ->NL->Prop}(h:Q₁ (.ref s.heap.objs.size) {s with heap:=s.heap.push (bp w)}):codeAny (N2 prog w) A (.call (.builtin "set.__new__") ⟨[.type "set",a],[]⟩) (wants Q₁ E) s:=by
 refine T2 ?_;show wpAny _ A.in1 (do U8 "set.__new__" ⟨[.type "set",a],[]⟩;Xq (.builtin "set.__new__" ⟨[.type "set",a],[]⟩)) _ _ s;refine NG (RH (PySem.F.newCall_set_1 a) (NO ⟨Qg VO _,Pp PySem.F.entry_set_new ?_⟩));rw[O4 VO _];unfold Builtin.«set.__new__»Builtin.Frozenset.newClass;have b:=sub_set_self;obtain⟨e,g,d,c,os⟩:=s;dsimp only;wp_walk;refine QF (NO ?_);dsimp only;simp only[newObj];refine NG (Xi (NO ?_));exact NO h
end
section
variable{prog:N7}{w:Oq}{A:Ov}{E:NJ->NL->Prop}{s:NL}
theorem pZ{l:NR}{items:Array NJ}{J:Nat->OW->Prop}{Q:NJ->NL->Prop}(hh:A.handled=NN)(hl:s.heap.IsList l items)(J0:J 0 (bp w))(F:Fills prog w A.in1.in1.in1 s.heap.objs.size s.heap J (λi v=>items[i]?=NF v) items.size)(h:∀(h':Oy)(B:Nat)(ob:OW),h'.get? s.heap.objs.size=NF ob->J items.size ob->(∀b o,b<s.heap.objs.size->s.heap.get? b=NF o->h'.get? b=NF o)->Q (.ref s.heap.objs.size) {s with heap:=h',toks:=B}):wpAny (N2 prog w) A (call (.type "set") [.ref l]) Q E s:=by
 obtain⟨c,tl,Z⟩:=PySem.F.called_set.mro;have L:=PySem.F.called_set.made;have W:=PySem.F.called_set.sub;refine Vj (T2 ?_);show wpAny _ _ (callAny (.type "set") _) _ _ _;refine NO ⟨Rg _ (by decide+kernel),Pp PySem.F.entry_type_call ?_⟩;rw[Around.under_plain (weight_type_call_type "set" [.ref l] []) rfl];have h1:=PySem.F.called_set.notType;have h2:=PySem.F.called_set.canCreate;have a3:=PySem.F.typeCall_set_1 (.ref l);repeat(any_goals(first|assumption|wp_step))
 refine Ro (code_set_new (.ref l) (E:=E) (Q₁:=λobj j=>obj=.ref s.heap.objs.size/\j={s with heap:=s.heap.push (bp w)}) ⟨rfl,rfl⟩) λr j I=>?_;cases r with
 |error e=>exact I|ok fl=>cases fl with
  |ret obj=>
   obtain⟨rfl,rfl⟩:=I;have hS:(s.heap.push (bp w)).get? s.heap.objs.size=NF (bp w):=N4 _ rfl;have hT:Shared.TypeIs {s with heap:=s.heap.push (bp w)} (.ref s.heap.objs.size) "set":=⟨_,hS,rfl⟩;have a2:=PySem.F.called_set.init.lookup;have a4:=PySem.F.called_set.init.bind (.ref s.heap.objs.size);repeat(any_goals(first|assumption|wp_step))
   refine Ro (Sa (R:=wants (λr g=>r=.none/\∃h' B ob,g={s with heap:=h',toks:=B}/\h'.get? s.heap.objs.size=NF ob/\J items.size ob/\(∀b o,b<s.heap.objs.size->s.heap.get? b=NF o->h'.get? b=NF o)) E) PySem.F.called_set.init.plain PySem.F.entry_set_init (check_set_init_1 hT ?_)) λn g a=>?_
   .obtain⟨ol,q,z,nl,y⟩:=hl;obtain⟨V,k,H,f⟩:=ol;simp only at z y;subst z;subst y;have p:(s.heap.push (bp w)).get? l=NF {cls:=.type "list",dict:=k,data:=.seq items nl,slots:=f}:=NQ _ q;have X:=PySem.F.sub_list_set;have Y:=PySem.F.sub_list_frozenset;have a0:(Ww "list"==Ww "dict")=NP:=by decide
    have x:(s.heap.push (bp w)).IsList l items:=⟨_,p,rfl,nl,rfl⟩;unfold Builtin.«set.__init__»noKeywords Builtin.Frozenset.updateFrom;generalize T:US=PI;wp_walk;subst T;refine Tc x ?_;refine NG (wpAny_runValue ?_);have u:l<s.heap.objs.size:=N1 q;have N:A.in1.in1.in1.handled=NN:=by simp[hh]
    have t:l≠(s.heap.push (bp w)).objs.size:=by rw[OS];exact Oj (Pu u)
    have S:s.heap.objs.size∉[(s.heap.push (bp w)).objs.size,l]:=by
     rw[OS];simp only[Pe,Rh,QJ,or_false,not_or];exact⟨Oj (OY _),PU u⟩
    refine pY ((Walks.list N _ l t items).toS) s.heap.objs.size S (λb hb=>?_) F (items.size-0) 0 _ (bp w) (by omega) (OB _) ⟨⟨_,N4 _ rfl,rfl,rfl⟩,(x.push _)⟩ (λb o hb e=>NQ _ (NQ _ e)) (NQ _ hS) J0 ?hR
    .rw[List.mem_singleton.mp hb,OS];exact OY _
    case hR=>
     intro s' ob C K U;obtain⟨h',g',d',D,G⟩:=s';have eg:g'=s.gens:=C.gens;have ed:d'=s.drawn:=C.drawn;have eo:G=s.os:=C.os;subst eg;subst ed;subst eo;show wpAny _ _ _ _ _ _;refine NO ?_;show wpAny _ _ (Xm Oz) _ _ _;refine NO ⟨rfl,h',D,ob,rfl,K,U,λb o hb e=>?_⟩;have P:b≠s.heap.objs.size:=Oj hb;have O:b≠(s.heap.push (bp w)).objs.size:=by rw[OS];exact Oj (Pu hb)
     exact C.heap b o (by simp only[Pe,Rh,QJ,or_false,not_or];exact⟨P,O⟩) (NQ _ (NQ _ e))
   .cases n with
    |error e=>exact a|ok m=>cases m with
     |ret r=>
      obtain⟨rfl,h',B,ob,rfl,K,U,M⟩:=a;repeat(any_goals(first|assumption|wp_step))
      exact h _ _ _ K U M|_=>exact a.elim
  |_=>exact I.elim
end
inductive D where|aU|bl(b:Bool)|int(i:Int)|str(x:Oo)|tup(xs:List D)|lst(xs:List D)|aH(ks vs:List D)|exc(c:NR)(nm:List D)|aA(xs:List Int)
inductive W where|d(x:D)|feed|own(d:D)
abbrev af:=List (Option W)
structure Xc where
 x:D
 en:af
structure M(α:Type)where
 run:Nat->(α->Nat->Prop)->(Xc->Nat->Prop)->Prop
 mono:∀{k Q Q' E E'},run k Q E->(∀a k,Q a k->Q' a k)->(∀x k,E x k->E' x k)->run k Q' E'
namespace M
variable{α β:Type}
protected def pure(a:α):M α:=⟨λk Q _=>Q a k,λh q _=>q _ _ h⟩
protected def bind(m:M α)(f:α->M β):M β:=⟨λk Q E=>m.run k (λa k'=>(f a).run k' Q E) E,λh q e=>m.mono h (λa k' h=>(f a).mono h q e) e⟩
instance:Monad M where
 pure:=M.pure;bind:=M.bind
noncomputable def fail:M α:=⟨λ_ _ _=>False,λh _ _=>h⟩
noncomputable def need(P:Prop):M Unit:=⟨λk Q _=>P/\Q () k,λh q _=>⟨h.1,q _ _ h.2⟩⟩
noncomputable def any(P:α->Prop):M α:=⟨λk Q _=>∀a,P a->Q a k,λh q _ a p=>q _ _ (h a p)⟩
noncomputable def throw(x:Xc):M α:=⟨λk _ E=>E x k,λh _ e=>e _ _ h⟩
noncomputable def tick(n:Nat):M Unit:=⟨λk Q _=>k+n<=1000000/\∀c,k<=c->c<=k+n->Q () c,λh q _=>⟨h.1,λc a b=>q _ _ (h.2 c a b)⟩⟩
noncomputable def get(o:Option α):M α:=match o with
 |some a=>pure a|none=>fail
theorem run_bind{m:M α}{f:α->M β}{k Q E}:(m>>=f).run k Q E=m.run k (λa b=>(f a).run b Q E) E:=rfl
theorem run_get{o:Option α}{k Q E}:(get o).run k Q E↔∃a,o=NF a/\Q a k:=by cases o with
 |none=>exact⟨λh=>h.elim,λ⟨a,h,_⟩=>nomatch h⟩|some a=>exact⟨λh=>⟨a,rfl,h⟩,λ⟨b,h,q⟩=>by cases h;exact q⟩
end M
structure b7(H:Hp)(p q:NR)(ns:List Int)(i r:Int):Prop where
 ob:H p=NF (.lst [.ref q,.int i,.int r])cs:∃o,H q=NF (.bP o (.lst (ns.map V.int)))ne:q≠p
 i0:0<=i
 r0:0<=r
 ln:ns.length<=63
noncomputable def lb(H:Hp)(p q:NR)(k:Nat):Prop:=∃ns i r,b7 H p q ns i r/\i<=(k:Int)
noncomputable def HG(H:Hp)(p:NR)(k:Nat):Prop:=∃q,lb H p q k
theorem lb.same{H H':Hp}{p q:NR}{k:Nat}(F:lb H p q k)(h:sx H H'):lb H' p q k:=by
 obtain⟨ns,i,r,⟨g,⟨o,f⟩,e,d,c,b⟩,a⟩:=F;exact⟨ns,i,r,⟨h _ _ g,⟨o,h _ _ f⟩,e,d,c,b⟩,a⟩
structure Fb where
 K:NS
 p:NR
 P:N7
 w:Oq
structure Fx extends Fb where
 H0:Hp
 k0:Nat
 E:Xc->Nat->Prop
 Hs:Hp
 ks:Nat
noncomputable def EU(H:Hp)(a:NR)(xs:List V):Prop:=∃o,H a=NF (.bP o (.lst xs))
theorem EU.sq{K:NS}{H:Hp}{a:NR}{xs:List V}(h:EU H a xs):dy K H a xs:=.inl (.inr h)
noncomputable def TupAt(F:Fb)(H:Hp)(a:NR)(xs:List V):Prop:=a≠F.p/\kf F.K H a xs
noncomputable def LstAt(F:Fb)(H:Hp)(a:NR)(xs:List V):Prop:=a≠F.p/\EU H a xs
theorem EV{X:Cx}{pins:List (NR×OW)}{σ:St}{H:Hp}{s:NL}{a:NR}{ks:List Key}(I:Inv X pins σ H s)(h:kf X.K H a (ks.map kV)):IsTupleKey (ar X.prog X.w) s.heap ks a:=by
 obtain⟨b,r,⟨o,e,d,n,c⟩,_⟩:=I.tuple h;exact⟨o,b.toArray,n,e,d,c,by simpa using mU r⟩
noncomputable def kD:Key->D
 |.inl i=>.int i|.inr x=>.str x
noncomputable def nD:NK->D
 |.inl k=>kD k|.inr ks=>.tup (ks.map kD)
noncomputable def HH(F:Fb)(H:Hp):V->NK->Prop
 |v,.inl k=>v=kV k|v,.inr ks=>∃b,v=.ref b/\TupAt F H b (ks.map kV)
noncomputable def ek(F:Fb)(H:Hp)(a:NR)(ks:List NK):Prop:=∃b,TupAt F H a b/\Paired (HH F H) b ks
noncomputable def jq(P:N7)(w:Oq)(o:OW)(us:List (Key×NJ)):Prop:=∃a b,o.ExactDict/\o.data=.dict a b/\KeysOf (ar P w) a/\Pairs (ar P w) a.toList us/\(us.map (·.1)).Nodup
noncomputable def jr(P:N7)(w:Oq)(o:OW)(xs:List (List NK×NR×NJ)):Prop:=∃a b,o.ExactDict/\o.data=.dict a b/\a.toList=xs.map (Xo (bJ P w))/\(xs.map (·.1)).Nodup
noncomputable def KA:List (List NK×NR×V)->List (List NK×NR×NJ)->Prop:=Paired λp q=>p.1=q.1/\p.2.1=q.2.1/\RelV p.2.2 q.2.2
noncomputable def bq(F:Fb)(H:Hp)(o:OW)(ks:List D)(vs:List V):Prop:=ks.length<=NW/\((∃(a:List (Key×V))(c:List (Key×NJ)),KV a c/\jq F.P F.w o c/\ks=a.map (λx=>kD x.1)/\vs=a.map (·.2))\/(∃(a:List (List NK×NR×V))(b:List (List NK×NR×NJ)),KA a b/\jr F.P F.w o b/\(∀x∈a,ek F H x.2.1 x.1)/\ks=a.map (λx=>D.tup (x.1.map nD))/\vs=a.map (·.2.2)))
noncomputable def wA(F:Fb)(H:Hp)(a:NR)(o:OW):Prop:=a≠F.p/\(a==Qi)=NP/\((∃u,H a=NF (.bP o u))\/F.K.lookup a=NF o)
noncomputable def uC(F:Fb)(H:Hp)(a:NR)(ks:List D)(vs:List V):Prop:=∃o,wA F H a o/\bq F H o ks vs
noncomputable def gj(a:NR)(o:OW):HO:=.ext λh=>h.get? a=NF o
noncomputable def Bp(F:Fb)(H:Hp)(a c:NR):List V->Prop
 |[]=>a≠F.p/\∃ob u,H a=NF (.bP ob u)/\ob.cls=.ref c/\(∃b,ob.data=.fields b)|[v]=>a≠F.p/\∃ob u d e,H a=NF (.bP ob u)/\ob.cls=.ref c/\(∃b,ob.data=.fields b)/\ob.dict=NF d/\d≠F.p/\H d=NF (.bP e (.xd [("name",v)]))|_=>False
noncomputable def eY(F:Fb)(o:OW)(xs:List Int):Prop:=∃a,jP F.P F.w o a/\(a.map (·.1)).Perm xs
noncomputable def EW(F:Fb)(H:Hp)(a:NR)(xs:List Int):Prop:=a≠F.p/\∃o u,H a=NF (.bP o u)/\eY F o xs
mutual
noncomputable def Is(F:Fb)(H:Hp):V->D->Prop
 |v,.aU=>v=.aU|v,.bl b=>v=.bl b|v,.int i=>v=.int i|v,.str x=>v=.str x|v,.tup e=>∃a d,v=.ref a/\TupAt F H a d/\ae F H d e|v,.lst e=>∃a d,v=.ref a/\LstAt F H a d/\ae F H d e|v,.aH ks e=>∃a d,v=.ref a/\uC F H a ks d/\ae F H d e|v,.exc c e=>∃a d,v=.ref a/\Bp F H a c d/\ae F H d e|v,.aA d=>∃a,v=.ref a/\EW F H a d
noncomputable def ae(F:Fb)(H:Hp):List V->List D->Prop
 |xs,[]=>xs=[]|xs,d::b=>∃x a,xs=x::a/\Is F H x d/\ae F H a b
end
noncomputable def HO.m6:HO->Bool
 |.tup _=>NM|.bP _ _=>NM|_=>NP
structure Kp(F:Fb)(H:Hp)(k:Nat)(H':Hp)(k':Nat):Prop where
 keep:∀a o,a≠F.p->o.m6=NM->H a=NF o->H' a=NF o
 live:H F.p≠NN->H' F.p≠NN
 le:k<=k'
 dD:∀q,lb H F.p q k->lb H' F.p q k'
structure Ext(F:Fb)(H:Hp)(k:Nat)(H':Hp)(k':Nat):Prop where
 keep:∀a o,a≠F.p->H a=NF o->H' a=NF o
 live:H F.p≠NN->H' F.p≠NN
 le:k<=k'
 dD:∀q,lb H F.p q k->lb H' F.p q k'
section
variable{F:Fb}{H H1 H2 H':Hp}{k k1 k2 k':Nat}
theorem Ext.kp(e:Ext F H k H' k'):Kp F H k H' k':=⟨λa o h _ q=>e.keep a o h q,e.live,e.le,e.dD⟩
theorem Ext.feed(e:Ext F H k H' k'):HG H F.p k->HG H' F.p k':=λ⟨q,h⟩=>⟨q,e.dD q h⟩
theorem Kp.feed(e:Kp F H k H' k'):HG H F.p k->HG H' F.p k':=λ⟨q,h⟩=>⟨q,e.dD q h⟩
theorem Ext.refl:Ext F H k H k:=⟨λ_ _ _ h=>h,λh=>h,NZ _,λ_ h=>h⟩
theorem Kp.refl:Kp F H k H k:=Ext.refl.kp
theorem Ext.trans(a:Ext F H k H1 k1)(b:Ext F H1 k1 H2 k2):Ext F H k H2 k2:=⟨λc o d h=>b.keep c o d (a.keep c o d h),λh=>b.live (a.live h),OC a.le b.le,λq h=>b.dD q (a.dD q h)⟩
theorem Kp.trans(a:Kp F H k H1 k1)(b:Kp F H1 k1 H2 k2):Kp F H k H2 k2:=⟨λc o d s h=>b.keep c o d s (a.keep c o d s h),λh=>b.live (a.live h),OC a.le b.le,λq h=>b.dD q (a.dD q h)⟩
theorem wB(h:sx H H'):H F.p≠NN->H' F.p≠NN:=λn z=>n (by cases e:H F.p with
 |none=>rfl|some o=>rw[h _ _ e]at z;cases z)
theorem Ext.of(h:sx H H'):Ext F H k H' k:=⟨λa o _ e=>h a o e,wB h,NZ _,λ_ f=>f.same h⟩
theorem yh{a:NR}{o:HO}(h:H a=NN):sx H (upd H a o):=λb u e=>by rw[ai (aB e h)];exact e
theorem Ext.new{a:NR}{o:HO}(h:H a=NN):Ext F H k (upd H a o) k:=.of (yh h)
theorem gQ{a:NR}(l:H F.p≠NN)(h:H a=NN):a≠F.p:=λz=>l (z▸h)
theorem TupAt.mono{a:NR}{xs:List V}(h:TupAt F H a xs)(e:Kp F H k H' k'):TupAt F H' a xs:=by
 refine⟨h.1,?_⟩;rcases h.2 with b|b
 .refine .inl ?_;rcases b with b|⟨o,b⟩;.exact .inl (e.keep _ _ h.1 rfl b)
  .exact .inr ⟨o,e.keep _ _ h.1 rfl b⟩
 .exact .inr b
theorem ek.mono{a:NR}{ks:List NK}(h:ek F H a ks)(e:Kp F H k H' k'):ek F H' a ks:=by
 obtain⟨f,i,g⟩:=h;refine⟨f,i.mono e,Paired.Eb g λv n z=>?_⟩;cases n with
 |inl k=>exact z|inr ks=>obtain⟨b,d,c⟩:=z;exact⟨b,d,c.mono e⟩
theorem LstAt.mono{a:NR}{xs:List V}(h:LstAt F H a xs)(e:Kp F H k H' k'):LstAt F H' a xs:=by
 refine⟨h.1,?_⟩;obtain⟨o,b⟩:=h.2;exact⟨o,e.keep _ _ h.1 rfl b⟩
theorem wA.mono{a:NR}{o:OW}(h:wA F H a o)(e:Kp F H k H' k'):wA F H' a o:=by
 obtain⟨c,d,b⟩:=h;refine⟨c,d,?_⟩;rcases b with⟨u,b⟩|b;.exact .inl ⟨u,e.keep _ _ c rfl b⟩
 .exact .inr b
theorem bq.mono{o:OW}{ks:List D}{xs:List V}(h:bq F H o ks xs)(e:Kp F H k H' k'):bq F H' o ks xs:=by
 obtain⟨b,h⟩:=h;refine⟨b,?_⟩;rcases h with h|⟨a,xs,g,f,d,c⟩;.exact .inl h
 .exact .inr ⟨a,xs,g,f,λx hx=>(d x hx).mono e,c⟩
theorem uC.mono{a:NR}{ks:List D}{xs:List V}(h:uC F H a ks xs)(e:Kp F H k H' k'):uC F H' a ks xs:=let⟨o,c,b⟩:=h;⟨o,c.mono e,b.mono e⟩
theorem Bp.mono{a c:NR}{xs:List V}(h:Bp F H a c xs)(e:Kp F H k H' k'):Bp F H' a c xs:=by match xs,h with
 |[],⟨b,ob,u,f,d⟩=>exact⟨b,ob,u,e.keep _ _ b rfl f,d⟩|[v],⟨b,ob,u,n,i,f,d,m,l,g,j⟩=>exact⟨b,ob,u,n,i,e.keep _ _ b rfl f,d,m,l,g,e.keep _ _ g rfl j⟩
mutual
theorem Is.mono(e:Kp F H k H' k'):∀{v:V}{d:D},Is F H v d->Is F H' v d
 |_,.aU,h=>by simp only[Is]at h⊢;exact h|_,.bl _,h=>by simp only[Is]at h⊢;exact h|_,.int _,h=>by simp only[Is]at h⊢;exact h|_,.str _,h=>by simp only[Is]at h⊢;exact h|_,.tup _,h=>by
  simp only[Is]at h⊢;obtain⟨a,g,f,b,c⟩:=h;exact⟨a,g,f,b.mono e,ae.mono e c⟩|_,.lst _,h=>by
  simp only[Is]at h⊢;obtain⟨a,g,f,b,c⟩:=h;exact⟨a,g,f,b.mono e,ae.mono e c⟩|_,.aH _ _,h=>by
  simp only[Is]at h⊢;obtain⟨a,g,f,b,c⟩:=h;exact⟨a,g,f,b.mono e,ae.mono e c⟩|_,.exc _ _,h=>by
  simp only[Is]at h⊢;obtain⟨a,g,f,b,c⟩:=h;exact⟨a,g,f,b.mono e,ae.mono e c⟩|_,.aA _,h=>by
  simp only[Is]at h⊢;obtain⟨a,f,b,o,u,c,i⟩:=h;exact⟨a,f,b,o,u,e.keep _ _ b rfl c,i⟩
theorem ae.mono(e:Kp F H k H' k'):∀{xs:List V}{ds:List D},ae F H xs ds->ae F H' xs ds
 |_,[],h=>by simp only[ae]at h⊢;exact h|_,d::ds,h=>by
  simp only[ae]at h⊢;obtain⟨x,a,f,c,b⟩:=h;exact⟨x,a,f,Is.mono e c,ae.mono e b⟩
end
theorem ae.nil:ae F H [] []:=by simp only[ae]
theorem ae.cons{x:V}{xs:List V}{d:D}{ds:List D}(h:Is F H x d)(t:ae F H xs ds):ae F H (x::xs) (d::ds):=by simp only[ae];exact⟨x,xs,rfl,h,t⟩
theorem ae.length:∀{xs:List V}{ds:List D},ae F H xs ds->xs.length=ds.length
 |_,[],h=>by simp only[ae]at h;rw[h];rfl|_,d::ds,h=>by
  simp only[ae]at h;obtain⟨x,b,rfl,_,a⟩:=h;simp[ae.length a]
theorem ae.append:∀{xs a:List V}{ds es:List D},ae F H xs ds->ae F H a es->ae F H (xs++a) (ds++es)
 |_,_,[],_,h,t=>by simp only[ae]at h;rw[h];exact t|_,_,d::ds,_,h,t=>by
  simp only[ae]at h;obtain⟨x,a,rfl,c,b⟩:=h;exact .cons c (ae.append b t)
theorem ae.get:∀{xs:List V}{ds:List D}{i:Nat}{d:D},ae F H xs ds->ds[i]?=NF d->∃x,xs[i]?=NF x/\Is F H x d
 |_,[],_,_,_,e=>by simp at e|_,c::ds,i,d,h,e=>by
  simp only[ae]at h;obtain⟨x,f,rfl,b,a⟩:=h;cases i with
  |zero=>simp at e;subst e;exact⟨x,rfl,b⟩|succ i=>simpa using ae.get (i:=i) a (by simpa using e)
end
noncomputable def lg(F:Fb)(H:Hp)(a:NR):D->Prop
 |.lst c=>∃b,H a=NF (.lst b)/\ae F H b c|.aH ks c=>∃o b,H a=NF (gj a o)/\(a==Qi)=NP/\bq F H o ks b/\ae F H b c|.aA b=>∃o,H a=NF (gj a o)/\eY F o b|_=>False
noncomputable def iL(F:Fx)(H:Hp)(a:NR)(d:D):Prop:=a≠F.p/\F.H0 a=NN/\lg F.toFb H a d
noncomputable def HI(F:Fx)(H:Hp)(k:Nat):V->W->Prop
 |v,.d x=>Is F.toFb H v x|v,.feed=>v=.ref F.p/\HG H F.p k|v,.own d=>∃a,v=.ref a/\iL F H a d
inductive A where|d(x:D)|feed
noncomputable def A.w:A->W
 |.d x=>.d x|.feed=>.feed
noncomputable def HJ(F:Fb)(H:Hp)(k:Nat):V->A->Prop
 |v,.d x=>Is F H v x|v,.feed=>v=.ref F.p/\HG H F.p k
noncomputable abbrev wC(F:Fb)(H:Hp)(k:Nat):List V->List A->Prop:=Paired (HJ F H k)
section
variable{F:Fx}{H H1 H2 H':Hp}{k k1 k2 k':Nat}
theorem lg.keep{B:Fb}{a:NR}{d:D}(h:lg B H a d)(e:Kp B H k H' k')(ha:∀o,H a=NF o->H' a=NF o):lg B H' a d:=by cases d with
 |lst j=>obtain⟨f,c,b⟩:=h;exact⟨f,ha _ c,b.mono e⟩|aH ks j=>obtain⟨o,f,c,b,i,g⟩:=h;exact⟨o,f,ha _ c,b,i.mono e,g.mono e⟩|aA f=>obtain⟨o,c,b⟩:=h;exact⟨o,ha _ c,b⟩|_=>exact h.elim
theorem iL.mono{a:NR}{d:D}(h:iL F H a d)(e:Ext F.toFb H k H' k'):iL F H' a d:=⟨h.1,h.2.1,h.2.2.keep e.kp λo q=>e.keep a o h.1 q⟩
theorem HI.mono{v:V}{x:W}(h:HI F H k v x)(e:Ext F.toFb H k H' k'):HI F H' k' v x:=by cases x with
 |d x=>exact Is.mono e.kp h|feed=>exact⟨h.1,e.feed h.2⟩|own d=>
  obtain⟨a,c,b⟩:=h;exact⟨a,c,b.mono e⟩
theorem HJ.w{v:V}{x:A}(h:HJ F.toFb H k v x):HI F H k v x.w:=by cases x<;>exact h
end
noncomputable def W.yi:W->Bool
 |.own _=>NM|_=>NP
structure bX(F:Fx)(ρ:af)(k:Nat)(σ:St)(H:Hp):Prop where
 len:ρ.length=σ.length
 at_:∀(i:Nat)(d:W),ρ[i]?=NF (NF d)->∃v,σ[i]?=NF (NF v)/\HI F H k v d
 apart:∀(i j:Nat)(d e:W)(v:V),i≠j->ρ[i]?=NF (NF d)->ρ[j]?=NF (NF e)->d.yi=NM->e.yi=NM->σ[i]?=NF (NF v)->σ[j]?≠NF (NF v)live:H F.p≠NN
 ext:Ext F.toFb F.H0 F.k0 H k
 km:Kp F.toFb F.Hs F.ks H k
theorem bX.mono{F:Fx}{ρ:af}{k a:Nat}{σ:St}{H H':Hp}(h:bX F ρ k σ H)(e:Ext F.toFb H k H' a):bX F ρ a σ H' where
 len:=h.len;at_:=λi d q=>let⟨v,c,b⟩:=h.at_ i d q;⟨v,c,b.mono e⟩;apart:=h.apart;live:=e.live h.live;ext:=h.ext.trans e;km:=h.km.trans e.kp
noncomputable def qE(F:Fb)(H:Hp)(k:Nat)(Q:V->Hp->Prop):D->Nat->Prop:=λd b=>∀v a,Ext F H k a b->Is F a v d->Q v a
noncomputable def qT(F:Fb)(H:Hp)(k:Nat)(Q:Bool->Hp->Prop):Bool->Nat->Prop:=λb c=>∀a,Ext F H k a c->Q b a
noncomputable def qA(F:Fb)(H:Hp)(k:Nat)(Q:List V->Hp->Prop):List A->Nat->Prop:=λd c=>∀b a,Ext F H k a c->wC F a c b d->Q b a
noncomputable def eO(F:Fx)(t:af->M D):TE:=λb H Q=>∃a k,bX F a k b H/\(t a).run k (qE F.toFb H k Q) F.E
noncomputable def p_(F:Fx)(t:af->M Bool):TT:=λb H Q=>∃a k,bX F a k b H/\(t a).run k (qT F.toFb H k Q) F.E
noncomputable def qb(F:Fx)(t:af->M (List A)):TA:=λb H Q=>∃a k,bX F a k b H/\(t a).run k (qA F.toFb H k Q) F.E
structure DE(X:Cx)(F:Fx)(e:Ob)(t:af->M D):Prop where
 hK:X.K=F.K
 pe:PE X e (eO F t)
structure DT(X:Cx)(F:Fx)(e:Ob)(t:af->M Bool):Prop where
 hK:X.K=F.K
 pt:PT X e (p_ F t)
structure DA(X:Cx)(F:Fx)(es:List Ob)(t:af->M (List A)):Prop where
 hK:X.K=F.K
 pa:PA X es (qb F t)
inductive Fl where|nx(ρ:af)|rt(d:D)|bk(ρ:af)|ct(ρ:af)
noncomputable def wD(F:Fx)(Z:Ends)(H:Hp)(k:Nat)(f:Fl)(c:Nat):Prop:=match f with
 |.nx e=>∀b a,Kp F.toFb H k a c->bX F e c b a->Z.nx b a|.rt d=>∀v a,Ext F.toFb F.H0 F.k0 a c->Is F.toFb a v d->Z.rt v a|.bk e=>∀b a,Kp F.toFb H k a c->bX F e c b a->Z.bk b a|.ct e=>∀b a,Kp F.toFb H k a c->bX F e c b a->Z.ct b a
noncomputable def LS(F:Fx)(t:af->M Fl):TS:=λZ b H=>∃a k,bX F a k b H/\(t a).run k (wD F Z H k) F.E
structure DS(X:Cx)(F:Fx)(st:Qq)(t:af->M Fl):Prop where
 hK:X.K=F.K
 ps:PS X st (LS F t)
structure wF(X:Cx)(F:Fx)(st:List Qq)(t:af->M Fl):Prop where
 hK:X.K=F.K
 ps:ph X st (LS F t)
theorem wD.mono{F:Fx}{Z:Ends}{H H':Hp}{k g j:Nat}{c:Fl}(e:Kp F.toFb H k H' g)(h:wD F Z H k c j):wD F Z H' g c j:=by cases c with
 |nx f=>exactλa b q S=>h a b (e.trans q) S|rt d=>exact h|bk f=>exactλa b q S=>h a b (e.trans q) S|ct f=>exactλa b q S=>h a b (e.trans q) S
section
variable{X:Cx}
theorem PE.imp{e:Ob}{t t':TE}(h:PE X e t)(q:∀σ H Q,t' σ H Q->t σ H Q):PE X e t':=λa s σ H Q I z=>h a s σ H Q I (q σ H Q z)
theorem PT.imp{e:Ob}{t t':TT}(h:PT X e t)(q:∀σ H Q,t' σ H Q->t σ H Q):PT X e t':=λa s σ H Q I z=>h a s σ H Q I (q σ H Q z)
theorem PW.imp{e:Ob}{t t':TT}(h:PW X e t)(q:∀σ H Q,t' σ H Q->t σ H Q):PW X e t':=λw a s σ H Q I z=>h w a s σ H Q I (q σ H Q z)
theorem PA.imp{e:List Ob}{t t':TA}(h:PA X e t)(q:∀σ H Q,t' σ H Q->t σ H Q):PA X e t':=λpos a s σ H Q I z=>h pos a s σ H Q I (q σ H Q z)
theorem PS.imp{e:Qq}{t t':TS}(h:PS X e t)(q:∀D σ H,t' D σ H->t D σ H):PS X e t':=λa s σ H D I z=>h a s σ H D I (q D σ H z)
theorem ph.imp{e:List Qq}{t t':TS}(h:ph X e t)(q:∀D σ H,t' D σ H->t D σ H):ph X e t':=λa s σ H D I z=>h a s σ H D I (q D σ H z)
end
theorem eO.next{F:Fx}{t:af->M D}{σ:St}{H:Hp}{ρ:af}{k:Nat}{R:D->Nat->Prop}{Q:V->Hp->Prop}(S:bX F ρ k σ H)(h:(t ρ).run k R F.E)(q:∀d a v H',Ext F.toFb H k H' a->bX F ρ a σ H'->Is F.toFb H' v d->R d a->Q v H'):eO F t σ H Q:=⟨ρ,k,S,(t ρ).mono h (λd a r v H' e i=>q d a v H' e (S.mono e) i r) λ_ _ z=>z⟩
theorem p_.next{F:Fx}{t:af->M Bool}{σ:St}{H:Hp}{ρ:af}{k:Nat}{R:Bool->Nat->Prop}{Q:Bool->Hp->Prop}(S:bX F ρ k σ H)(h:(t ρ).run k R F.E)(q:∀b a H',Ext F.toFb H k H' a->bX F ρ a σ H'->R b a->Q b H'):p_ F t σ H Q:=⟨ρ,k,S,(t ρ).mono h (λb a r H' e=>q b a H' e (S.mono e) r) λ_ _ z=>z⟩
theorem qb.next{F:Fx}{t:af->M (List A)}{σ:St}{H:Hp}{ρ:af}{k:Nat}{R:List A->Nat->Prop}{Q:List V->Hp->Prop}(S:bX F ρ k σ H)(h:(t ρ).run k R F.E)(q:∀ds a vs H',Ext F.toFb H k H' a->bX F ρ a σ H'->wC F.toFb H' a vs ds->R ds a->Q vs H'):qb F t σ H Q:=⟨ρ,k,S,(t ρ).mono h (λds a r vs H' e i=>q ds a vs H' e (S.mono e) i r) λ_ _ z=>z⟩
noncomputable def gk(ρ:af)(i:Nat):Option D:=match ρ[i]? with
 |some (NF (.d x))=>NF x|_=>NN
theorem uD{ρ:af}{i:Nat}{x:D}(h:gk ρ i=NF x):ρ[i]?=NF (NF (.d x)):=by
 unfold gk at h;split at h;.rename_i y e;cases h;exact e
 .cases h
noncomputable def jt:D->M Bool
 |.bl b=>pure b|_=>M.fail
noncomputable def fC:D->M Int
 |.int i=>pure i|_=>M.fail
theorem gR{d:D}{k Q E}:(jt d).run k Q E↔∃b,d=.bl b/\Q b k:=by cases d with
 |bl b=>exact⟨λh=>⟨b,rfl,h⟩,λ⟨c,e,h⟩=>by cases e;exact h⟩|_=>exact⟨λh=>h.elim,λ⟨c,e,h⟩=>nomatch e⟩
theorem bB{d:D}{k Q E}:(fC d).run k Q E↔∃b,d=.int b/\Q b k:=by cases d with
 |int b=>exact⟨λh=>⟨b,rfl,h⟩,λ⟨c,e,h⟩=>by cases e;exact h⟩|_=>exact⟨λh=>h.elim,λ⟨c,e,h⟩=>nomatch e⟩
section
variable{X:Cx}{F:Fx}{a b c e:Ob}{es rest:List Ob}{pos:P8}{ta tb tc:af->M D}
theorem yj(i:Nat){x:Oo}{pos:P8}(hN:X.N[i]?=NF x:=by rfl)(g:t4 X.env.scope x:=by first|exact SY rfl|exact Um (SY rfl)|exact Um (Um rfl))(hd:(x==("__debug__":Oo))=NP:=by decide)(f:(x==("__classdict__":Oo))=NP:=by decide)(hK:X.K=F.K:=by rfl):DE X F (.Name x pos) (λρ=>M.get (gk ρ i)):=by
 refine⟨hK,(d7 hN g hd f).imp λo H Q⟨ρ,k,S,h⟩=>?_⟩;obtain⟨d,n,m⟩:=M.run_get.mp h;obtain⟨v,l,j⟩:=S.at_ i _ (uD n);exact⟨v,l,m v H .refl j⟩
theorem EX{i j pos}(hK:X.K=F.K:=by rfl):DE X F (.Constant (.int i) j pos) (λ_=>pure (.int i)):=⟨hK,aC.imp λd H Q⟨f,k,S,h⟩=>h _ H .refl (by simp only[Is])⟩
theorem IK{i j pos}(hK:X.K=F.K:=by rfl):DE X F (.Constant (.bool i) j pos) (λ_=>pure (.bl i)):=⟨hK,HY.imp λd H Q⟨f,k,S,h⟩=>h _ H .refl (by simp only[Is])⟩
theorem EY{j pos}(hK:X.K=F.K:=by rfl):DE X F (.Constant .none j pos) (λ_=>pure .aU):=⟨hK,Ee.imp λd H Q⟨f,k,S,h⟩=>h _ H .refl (by simp only[Is])⟩
theorem EZ{i j pos}(hK:X.K=F.K:=by rfl):DE X F (.Constant (.str i) j pos) (λ_=>pure (.str i)):=⟨hK,Ef.imp λd H Q⟨f,k,S,h⟩=>h _ H .refl (by simp only[Is])⟩
structure ji(X:Cx)(F:Fx)(f:NJ->NJ->UG NJ)(m:D->D->M D):Prop where
 op:∀(pins:List (NR×OW))(s:NL)(σ:St)(H:Hp)(k:Nat)(x y:V)(v u:NJ)(d e:D)(Q:VK),Inv X pins σ H s->RelV x v->RelV y u->H F.p≠NN->X.K=F.K->Is F.toFb H x d->Is F.toFb H y e->(m d e).run k (qE F.toFb H k Q) F.E->wpAny (N2 X.prog X.w) X.A (f v u) (EP X pins σ Q) X.xe s
noncomputable def LU(F:Fx)(m:D->D->M D):R2:=λx y H Q=>∃k d e,H F.p≠NN/\Is F.toFb H x d/\Is F.toFb H y e/\(m d e).run k (qE F.toFb H k Q) F.E
theorem ji.LV{f:NJ->NJ->UG NJ}{m:D->D->M D}(h:ji X F f m)(hK:X.K=F.K):mM X f (LU F m):=λg s i H x y v u Q I rx ry⟨k,d,e,l,n,j,q⟩=>h.op g s i H k x y v u d e Q I rx ry l hK n j q
theorem ji.of{f:NJ->NJ->UG NJ}{m:D->D->M D}{r:R2}(h:mM X f r)(q:X.K=F.K->∀H k x y d e Q,H F.p≠NN->Is F.toFb H x d->Is F.toFb H y e->(m d e).run k (qE F.toFb H k Q) F.E->r x y H Q):ji X F f m:=⟨λg s i H k x y v u d e Q I rx ry l hK n j z=>h g s i H x y v u Q I rx ry (q hK H k x y d e Q l n j z)⟩
theorem qE.ext{B:Fb}{H f:Hp}{k k1:Nat}{Q:V->Hp->Prop}{d:D}{j:Nat}(e:Ext B H k f k1)(h:qE B H k Q d j):qE B f k1 Q d j:=λv l g i=>h v l (e.trans g) i
theorem qT.ext{B:Fb}{H f:Hp}{k k1:Nat}{Q:Bool->Hp->Prop}{d:Bool}{j:Nat}(e:Ext B H k f k1)(h:qT B H k Q d j):qT B f k1 Q d j:=λi g=>h i (e.trans g)
theorem M.wk{d:Type}{m:M d}{k Q Q' E}(h:m.run k Q E)(q:∀a k,Q a k->Q' a k):m.run k Q' E:=m.mono h q λ_ _ z=>z
theorem uE{m:D->D->M D}{σ:St}{H:Hp}{Q:VK}(h:eO F (λρ=>do let d<-ta ρ;let e<-tb ρ;m d e) σ H Q):Ij (LU F m) (eO F ta) (eO F tb) σ H Q:=by
 obtain⟨ρ,k,S,h⟩:=h;refine eO.next S h λd t v w o r j n=>?_;refine eO.next r n λp g s u f q i l=>?_;exact⟨g,d,p,q.live,j.mono f.kp,i,M.wk l λ_ _ z=>z.ext (o.trans f)⟩
theorem IL{op:VV}{m:D->D->M D}(f:ji X F (RC op) m)(ha:DE X F a ta)(hb:DE X F b tb):DE X F (.BinOp a op b pos) (λρ=>do let d<-ta ρ;let e<-tb ρ;m d e):=⟨ha.hK,(bj (f.LV ha.hK) ha.pe hb.pe).imp λg H Q h=>uE h⟩
theorem E3{op:RR}{m:D->D->M D}(f:ji X F (O6 op) m)(ha:DE X F a ta)(hb:DE X F b tb)(g:RZ op b=NP:=by first|exact jk _|with_unfolding_all rfl):DE X F (.Compare a [op] [b] pos) (λρ=>do let d<-ta ρ;let e<-tb ρ;m d e):=⟨ha.hK,(AS (f.LV ha.hK) ha.pe hb.pe g).imp λi H Q h=>uE h⟩
theorem Bq{t:af->M D}{σ:St}{H:Hp}{Q:Bool->Hp->Prop}(h:p_ F (λρ=>do jt (<-t ρ)) σ H Q):Dg (eO F t) σ H Q:=by
 obtain⟨ρ,k,S,h⟩:=h;refine eO.next S h λd l v j i m g f=>?_;obtain⟨c,rfl,f⟩:=gR.mp f;simp only[Is]at g;exact⟨c,g,f j i⟩
theorem E4{op:RR}{m:D->D->M D}(f:ji X F (O6 op) m)(ha:DE X F a ta)(hb:DE X F b tb)(g:RZ op b=NP:=by first|exact jk _|with_unfolding_all rfl):DT X F (.Compare a [op] [b] pos) (λρ=>do jt (<-(do let d<-ta ρ;let e<-tb ρ;m d e))):=⟨ha.hK,(iE (f.LV ha.hK) ha.pe hb.pe g).imp λi H Q h=>by
  obtain⟨ρ,k,S,h⟩:=Bq (t:=λρ=>do let d<-ta ρ;let e<-tb ρ;m d e) h;exact uE ⟨ρ,k,S,h⟩⟩
noncomputable def mI(C:Int->Int->Prop)(g:Int->Int->D):D->D->M D:=λd e=>do
 let i<-fC d;let j<-fC e;M.need (C i j)pure (g i j)
noncomputable def MP(g:Int->Int->D):D->D->M D:=λd e=>do
 let i<-fC d;let j<-fC e;pure (g i j)
theorem Dl{f:NJ->NJ->UG NJ}{C:Int->Int->Prop}{g:Int->Int->Int}(h:mM X f (rI C λi j=>.int (g i j))):ji X F f (mI C λi j=>.int (g i j)):=.of h λhK H k x y d e Q l n m q=>by
  obtain⟨i,rfl,q⟩:=bB.mp q;obtain⟨j,rfl,q⟩:=bB.mp q;simp only[Is]at n m;exact⟨i,j,n,m,q.1,q.2 _ H .refl (by simp only[Is])⟩
theorem E5{f:NJ->NJ->UG NJ}{g:Int->Int->Bool}(h:mM X f (Et λi j=>.bl (g i j))):ji X F f (MP λi j=>.bl (g i j)):=.of h λhK H k x y d e Q l n m q=>by
  obtain⟨i,rfl,q⟩:=bB.mp q;obtain⟨j,rfl,q⟩:=bB.mp q;simp only[Is]at n m;exact⟨i,j,n,m,q _ H .refl (by simp only[Is])⟩
theorem E6:ji X F (RC .Mult) (mI AQ λi j=>.int (i*j)):=Dl gO
theorem E7:ji X F (RC .Mod) (mI (λ_ j=>0<j) λi j=>.int (i%j)):=Dl d8
theorem IM:ji X F (O6 .Lt) (MP λi j=>.bl (decide (i<j))):=E5 Dd
noncomputable def iM:D->Bool
 |.aU=>NM|_=>NP
theorem qc{B:Fb}{H:Hp}{v:V}{d:D}(h:Is B H v d):decide (v=.aU)=iM d:=by cases d with
 |aU=>simp only[Is]at h;rw[h];rfl|bl b=>simp only[Is]at h;rw[h];rfl|int i=>simp only[Is]at h;rw[h];rfl|str x=>simp only[Is]at h;rw[h];rfl|tup g=>simp only[Is]at h;obtain⟨a,f,h,_⟩:=h;rw[h];rfl|lst g=>simp only[Is]at h;obtain⟨a,f,h,_⟩:=h;rw[h];rfl|aH ks g=>simp only[Is]at h;obtain⟨a,f,h,_⟩:=h;rw[h];rfl|exc c g=>simp only[Is]at h;obtain⟨a,f,h,_⟩:=h;rw[h];rfl|aA f=>simp only[Is]at h;obtain⟨a,h,_⟩:=h;rw[h];rfl
noncomputable def IP(neg:Bool):D->D->M D:=λd e=>do
 M.need (iM e=NM)pure (.bl (if neg then !iM d else iM d))
theorem qd{B:Fb}{H:Hp}{v:V}{e:D}(h:iM e=NM)(i:Is B H v e):v=.aU:=by cases e<;>first|(simp only[Is]at i;exact i)|cases h
theorem E8:ji X F (O6 .Is) (IP NP):=.of EA λhK H k x y d e Q l g f q=>⟨qd q.1 f,by rw[qc g];exact q.2 _ H .refl (by simp only[Is];rfl)⟩
theorem Br:ji X F (O6 .IsNot) (IP NM):=.of AR λhK H k x y d e Q l g f q=>⟨qd q.1 f,by rw[qc g];exact q.2 _ H .refl (by simp only[Is];rfl)⟩
noncomputable def LW(ta tb:af->M D)(ρ:af):M D:=do
 let b<-jt (<-ta ρ)if b then tb ρ else pure (.bl NP)
theorem E9{op}(h:DE X F a ta):DE X F (.BoolOp op [a] pos) ta:=⟨h.hK,Ej h.pe⟩
theorem E_(ha:DE X F a ta)(hb:DE X F (.BoolOp .And (b::rest) pos) tb):DE X F (.BoolOp .And (a::b::rest) pos) (LW ta tb):=⟨ha.hK,(Ek ha.pe hb.pe).imp λp H Q g=>by
  obtain⟨l,k,S,h⟩:=g;refine eO.next S h λd m v o j n i f=>?_;obtain⟨c,rfl,f⟩:=gR.mp f;simp only[Is]at i;refine⟨c,i,?_⟩;cases c with
  |true=>exact⟨l,m,n,M.wk f λ_ _ z=>z.ext j⟩|false=>exact f _ o j (by simp only[Is])⟩
theorem Fc(ha:DE X F a ta):DE X F (.UnaryOp .Not a pos) (λρ=>do let b<-jt (<-ta ρ);pure (.bl (!b))):=⟨ha.hK,(El ha.pe).imp λm H Q f=>by
  obtain⟨ρ,k,S,h⟩:=f;refine eO.next S h λd n v l j o i g=>?_;obtain⟨c,rfl,g⟩:=gR.mp g;simp only[Is]at i;exact⟨c,i,g _ l j (by simp only[Is])⟩⟩
structure xw(X:Cx)(F:Fx)(e:Ob)(t:af->M Bool):Prop where
 hK:X.K=F.K
 pw:PW X e (p_ F t)
theorem xw.dt{t:af->M Bool}(h:xw X F e t):DT X F e t:=⟨h.hK,h.pw.pt⟩
variable{tA tB:af->M Bool}
noncomputable def LX(ta tb:af->M Bool)(ρ:af):M Bool:=do
 let b<-ta ρ;if b then tb ρ else pure NP
noncomputable def Nd(ta tb:af->M Bool)(ρ:af):M Bool:=do
 let b<-ta ρ;if b then pure NM else tb ρ
theorem Bt(ha:DT X F a tA):xw X F (.BoolOp .And [a] pos) tA:=⟨ha.hK,t6 ha.pt⟩
theorem Fd(ha:DT X F a tA):xw X F (.BoolOp .Or [a] pos) tA:=⟨ha.hK,Eh ha.pt⟩
theorem Fe(ha:DT X F a tA)(hb:xw X F (.BoolOp .And (b::rest) pos) tB):xw X F (.BoolOp .And (a::b::rest) pos) (LX tA tB):=⟨ha.hK,(xC ha.pt hb.pw).imp λn H Q d=>by
  obtain⟨i,k,S,h⟩:=d;refine p_.next S h λc j m g l f=>?_;cases c with
  |true=>exact⟨i,j,l,M.wk f λ_ _ z=>z.ext g⟩|false=>exact f m g⟩
theorem IQ(ha:DT X F a tA)(hb:xw X F (.BoolOp .Or (b::rest) pos) tB):xw X F (.BoolOp .Or (a::b::rest) pos) (Nd tA tB):=⟨ha.hK,(HZ ha.pt hb.pw).imp λn H Q d=>by
  obtain⟨i,k,S,h⟩:=d;refine p_.next S h λc j m g l f=>?_;cases c with
  |false=>exact⟨i,j,l,M.wk f λ_ _ z=>z.ext g⟩|true=>exact f m g⟩
theorem Ff(ha:DT X F a tA):DT X F (.UnaryOp .Not a pos) (λρ=>do let b<-tA ρ;pure (!b)):=⟨ha.hK,(Ei ha.pt).imp λj H Q d=>by
  obtain⟨ρ,k,S,h⟩:=d;refine p_.next S h λc l i g m f=>?_;exact f i g⟩
variable{tas:af->M (List A)}
theorem Fg(hK:X.K=F.K:=by rfl):DA X F [] (λ_=>pure []):=⟨hK,dz.imp λd H Q⟨f,k,S,h⟩=>h [] H .refl .nil⟩
theorem Bu(ha:DE X F e ta)(o:DA X F es tas)(n:Og (e::es) X.env=(NP,Qa e X.env)::Og es X.env:=by rfl):DA X F (e::es) (λρ=>do let d<-ta ρ;let r<-tas ρ;pure (.d d::r)):=⟨ha.hK,(aZ ha.pe o.pa n).imp λu H Q f=>by
  obtain⟨ρ,k,S,h⟩:=f;refine eO.next S h λd x v B s t m q=>?_;refine qb.next t q λy j w i g z l p=>?_;exact p _ i (s.trans g) (.cons (show HJ F.toFb i j v (.d d)from m.mono g.kp) l)⟩
theorem Bv(i:Nat){x:Oo}{pos:P8}(g:DA X F es tas)(hN:X.N[i]?=NF x:=by rfl)(p:t4 X.env.scope x:=by first|exact SY rfl|exact Um (SY rfl)|exact Um (Um rfl))(hd:(x==("__debug__":Oo))=NP:=by decide)(f:(x==("__classdict__":Oo))=NP:=by decide)(q:Og (.Name x pos::es) X.env=(NP,Qa (.Name x pos) X.env)::Og es X.env:=by rfl):DA X F (.Name x pos::es) (λρ=>do M.need (ρ[i]?=NF (NF .feed));let r<-tas ρ;pure (.feed::r)):=⟨g.hK,(aZ (d7 hN p hd f) g.pa q).imp λu H Q d=>by
  obtain⟨ρ,k,S,h⟩:=d;obtain⟨v,s,j⟩:=S.at_ i _ h.1;refine⟨v,s,?_⟩;refine qb.next S h.2 λy n w m l z o t=>?_;exact t _ m l (.cons (show HJ F.toFb m n v .feed from⟨j.1,l.feed j.2⟩) o)⟩
noncomputable def gS:List A->M (List D)
 |[]=>pure []|.d x::r=>do let f<-gS r;pure (x::f)|.feed::_=>M.fail
theorem bK:∀{as:List A}{k Q E},(gS as).run k Q E->∃ds,as=ds.map A.d/\Q ds k
 |[],_,_,_,h=>⟨[],rfl,h⟩|.d x::r,k,Q,E,h=>by
  obtain⟨ds,e,q⟩:=bK (as:=r) h;exact⟨x::ds,by rw[e];rfl,q⟩|.feed::_,_,_,_,h=>h.elim
theorem bL{B:Fb}{H:Hp}{k:Nat}:∀{vs:List V}{ds:List D},wC B H k vs (ds.map A.d)->ae B H vs ds
 |_,[],h=>by cases h;exact .nil|_,d::ds,h=>by cases h with|cons r t=>exact .cons r (bL t)
theorem Fh{x1}(h:DA X F es tas):DE X F (.Tuple es x1 pos) (λρ=>do let ds<-gS (<-tas ρ);M.need (ds.length<=NW);pure (.tup ds)):=⟨h.hK,(ED h.pa).imp λp H Q f=>by
  obtain⟨ρ,k,S,h⟩:=f;refine qb.next S h λas l j q n o d m=>?_;obtain⟨ds,rfl,i⟩:=bK m;have d:=bL d;refine⟨by rw[d.length];exact i.1,λt g=>i.2 _ _ (n.trans (.new g)) ?_⟩;simp only[Is];exact⟨t,j,rfl,⟨gQ o.live g,.of aj⟩,d.mono (Ext.new (k:=l) g).kp⟩⟩
end
end L2
end
section
namespace L2
open PySem PySem.Spec PySem.W PyProof.Rows SortM
section
variable{X:Cx}{pins:List (NR×OW)}{σ:St}{H:Hp}{s:NL}
theorem lh:∀{a:List (Key×V)}{vs:List (Key×NJ)}{es:List SN}{prog:N7}{w:Oq},KV a vs->Pairs (ar prog w) es vs->aq (a.map λf=>kV f.1) (es.map (·.key))
 |_,_,_,_,_,.nil,.nil=>.nil|_,_,_,_,_,.cons ⟨e,_⟩ t,.cons h _ r=>by
  refine .cons ?_ (lh t r);dsimp only;rw[e];obtain⟨i,b,d,c⟩|⟨x,b,d,c⟩:=aN h;.rw[d,c];exact⟨b,rfl⟩
  .rw[d,c];exact⟨b,rfl⟩
theorem Inv.freeze{a:NR}{o:OW}{u:HO}(I:Inv X pins σ H s)(hu:H a=NF u)(j:s.heap.get? a=NF o)(nt:∀xs,u≠.tup xs)(g:∀b v,u≠.bP b v)(h:∀ps,u≠.xu ps)(no:∀x,u≠.own x):Inv X pins σ (upd H a (.bP o u)) s:=by
 have ne:∀{b:NR},H b=NN->b≠a:=λ{b}n z=>by rw[z,hu]at n;cases n
 have tp:∀b xs,H b=NF (.tup xs)->(upd H a (.bP o u)) b=NF (.tup xs):=λb xs e=>by rw[ai (λz=>by rw[z,hu]at e;cases e;exact nt _ rfl)];exact e
 have f:∀b x,H b=NF (.own x)->(upd H a (.bP o u)) b=NF (.own x):=λb x e=>by rw[ai (λz=>by rw[z,hu]at e;cases e;exact no _ rfl)];exact e
 refine⟨I.ok,I.os,I.bare,⟨I.base.keep,I.base.slot,λb ob e n hx=>?_,I.base.there,λb xs e=>tp b xs (I.base.gJ b xs e),λb ob v e=>?_,λb ps e=>?_⟩,I.loc,I.cell,?_,λx c e=>?_,λp i=>?_,λb v e=>?_,I.len⟩
 .have:=I.base.free b ob e n hx;rw[ai (ne this)];exact this
 .have q:=I.base.gc b ob v e;rw[ai (λz=>by rw[z,hu]at q;cases q;exact g _ _ rfl)];exact q
 .obtain⟨d,q⟩:=I.base.gK b ps e;exact⟨d,by rw[ai (λz=>by rw[z,hu]at q;cases q;exact h _ rfl)];exact q⟩
 .rw[ai (ne I.free)];exact I.free
 .rw[ai (ne (I.cF x c e))];exact I.cF x c e
 .obtain⟨e,n,r⟩:=I.pin p i;exact⟨e,by rw[ai (ne n)];exact n,r⟩
 .by_cases hb:b=a
  .subst hb;rw[aj]at e;cases e;exact⟨j,(I.aD b u hu).gI (λ_ _ _ q=>q) (λc q=>f c _ q) tp⟩
  .rw[ai hb]at e;exact(I.aD b v e).gI (λ_ _ _ q=>q) (λc q=>f c _ q) tp
end
section
variable{X:Cx}{F:Fx}{a b c e:Ob}{es rest:List Ob}{pos:P8}{ta tb tc:af->M D}{tas:af->M (List A)}
theorem yk{t:TE}(h:PE X e t):PE X e (λσ H Q=>t σ H λv g=>∃a xs,v=.ref a/\g a=NF (.lst xs)/\∀o,Q v (upd g a (.bP o (.lst xs)))):=by
 intro d s σ H Q I q;refine bo (h d s σ H _ I q) λu m f=>?_;obtain⟨v,g,i,r,a,xs,e,ha,j⟩:=f;obtain⟨_,k,n,p,l⟩:=i.aD a _ ha;exact⟨v,_,i.freeze ha l (λ_ z=>nomatch z) (λ_ _ z=>nomatch z) (λ_ z=>nomatch z) (λ_ z=>nomatch z),r,j _⟩
theorem dE{B:Fb}{H:Hp}{k:Nat}{l:NR}{vs:List V}{ds:List D}{o:OW}(lv:H B.p≠NN)(d:H l=NN)(i:ae B H vs ds):Is B (upd H l (.bP o (.lst vs))) (.ref l) (.lst ds):=by
 simp only[Is];exact⟨l,vs,rfl,⟨gQ lv d,⟨o,aj⟩⟩,i.mono (Ext.new (k:=k) d).kp⟩
theorem gU{B:Fb}{H:Hp}{k:Nat}{l:NR}{vs:List V}{ds:List D}(lv:H B.p≠NN)(d:H l=NN)(i:ae B H vs ds):Is B (upd H l (.tup vs)) (.ref l) (.tup ds):=by
 simp only[Is];exact⟨l,vs,rfl,⟨gQ lv d,.of aj⟩,i.mono (Ext.new (k:=k) d).kp⟩
theorem Fj(h:DA X F es tas):DE X F (.List es pos) (λρ=>do let ds<-gS (<-tas ρ);M.need (ds.length<=NW);pure (.lst ds)):=⟨h.hK,(yk (si h.pa)).imp λq H Q f=>by
  obtain⟨ρ,k,S,h⟩:=f;refine qb.next S h λas l j r n p d m=>?_;obtain⟨ds,rfl,i⟩:=bK m;have d:=bL d;refine⟨by rw[d.length];exact i.1,λt g=>⟨t,j,rfl,aj,λo=>?_⟩⟩;rw[bN];exact i.2 _ _ (n.trans (.new g)) (dE (k:=l) p.live g d)⟩
noncomputable def items:D->Option (List D)
 |.tup d=>NF d|.lst d=>NF d|_=>NN
theorem ym{B:Fb}{H:Hp}{vs:List V}{ds:List D}{i:Int}{d:D}(h:ae B H vs ds)(e:d_ ds i=NF d):∃v,d_ vs i=NF v/\Is B H v d:=by
 unfold d_ at e⊢;rw[h.length];cases q:AD ds.length i with
 |none=>rw[q]at e;cases e|some j=>
  rw[q]at e;exact h.get e
noncomputable def IS(x:Oo)(i:Int):Option D:=(d_ x.cps.toList i).map λc=>.str ⟨#[c]⟩
noncomputable def MQ:D->D->M D:=λd e=>do
 let i<-fC e;match d with
 |.tup f=>M.get (d_ f i)|.lst f=>M.get (d_ f i)|.str x=>do M.need (x.length<=NW);M.get (IS x i)|_=>M.fail
structure K4(X:Cx)(F:Fx)(m:D->D->M D):Prop where ix:X.K=F.K->AE X (LU F m)
theorem Bw:K4 X F MQ:=⟨λhK g j n s J H x y v u Q I rx ry h N=>by
 refine EI g j n s J H x y v u Q I rx ry ?_ N;obtain⟨k,d,e,l,m,p,q⟩:=h;obtain⟨i,rfl,q⟩:=bB.mp q;simp only[Is]at p;cases d with
 |tup K=>
  obtain⟨z,f,o⟩:=M.run_get.mp q;simp only[Is]at m;obtain⟨a,r,G,E,C⟩:=m;obtain⟨w,B,t⟩:=ym C f;exact .inr (.inl ⟨a,r,i,w,G,p,by rw[hK];exact E.2,B,o w H .refl t⟩)|lst K=>
  obtain⟨z,f,o⟩:=M.run_get.mp q;simp only[Is]at m;obtain⟨a,r,G,E,C⟩:=m;obtain⟨w,B,t⟩:=ym C f;exact .inl ⟨a,r,i,w,G,p,by rw[hK];exact E.2.sq,B,o w H .refl t⟩|str x=>
  obtain⟨L,q⟩:=q;obtain⟨z,f,o⟩:=M.run_get.mp q;simp only[Is]at m;unfold IS at f;cases q:d_ x.cps.toList i with
  |none=>rw[q]at f;cases f|some c=>
   rw[q]at f;cases f;exact .inr (.inr ⟨x,i,c,m,p,L,q,o _ H .refl (by simp only[Is])⟩)
 |_=>exact q.elim⟩
theorem IT{m:D->D->M D}(g:K4 X F m)(ha:DE X F a ta)(hb:DE X F b tb)(f:nU b:=by intro _ _;rfl):DE X F (.Subscript a b pos) (λρ=>do let d<-ta ρ;let e<-tb ρ;m d e):=⟨ha.hK,(gr (g.ix ha.hK) ha.pe hb.pe f).imp λi H Q h=>uE h⟩
structure aX(X:Cx)(F:Fx)(f:NJ)(m:List D->M D):Prop where
 call:∀(pins:List (NR×OW))(s:NL)(σ:St)(H:Hp)(k:Nat)(xs:List V)(us:List NJ)(ds:List D)(Q:VK),Inv X pins σ H s->aq xs us->H F.p≠NN->X.K=F.K->ae F.toFb H xs ds->(m ds).run k (qE F.toFb H k Q) F.E->wpAny (N2 X.prog X.w) X.A (SI f us) (EP X pins σ Q) X.xe s
noncomputable def Dm(F:Fx)(m:List D->M D):List V->Hp->VK->Prop:=λf H Q=>∃k d,H F.p≠NN/\ae F.toFb H f d/\(m d).run k (qE F.toFb H k Q) F.E
theorem aX.Dp{f:NJ}{m:List D->M D}(h:aX X F f m)(hK:X.K=F.K):fh X f (Dm F m):=λd s g H j n Q I r⟨k,o,l,i,q⟩=>h.call d s g H k j n o Q I r l hK i q
theorem aX.of{f:NJ}{m:List D->M D}{r:List V->Hp->VK->Prop}(h:fh X f r)(q:X.K=F.K->∀H k xs ds Q,H F.p≠NN->ae F.toFb H xs ds->(m ds).run k (qE F.toFb H k Q) F.E->r xs H Q):aX X F f m:=⟨λd s g H k xs j ds Q I n l hK i z=>h d s g H xs j Q I n (q hK H k xs ds Q l i z)⟩
theorem uF{m:List D->M D}{σ:St}{H:Hp}{Q:VK}(h:eO F (λρ=>do m (<-gS (<-tas ρ))) σ H Q):LJ (Dm F m) (qb F tas) σ H Q:=by
 obtain⟨ρ,k,S,h⟩:=h;refine qb.next S h λas d o p j n f i=>?_;obtain⟨l,rfl,g⟩:=bK i;exact⟨d,l,n.live,bL f,M.wk g λ_ _ z=>z.ext j⟩
theorem yo{id:String}{x:Oo}{m:List D->M D}{p:P8}(n:aX X F (.builtin id) m)(j:X.mg x=NN)(g:P7 x=NF (.builtin id))(ha:DA X F (e::es) tas)(k:Gl X x:=by rfl)(i:x≠"__name__":=by decide)(f:(x==("__debug__":Oo))=NP:=by decide)(l:Og (e::es) X.env=(NP,Qa e X.env)::Og es X.env:=by rfl)(d:(Qu pos (Og es X.env)).any (·.1)=NP:=by rfl):DE X F (.Call (.Name x p) (e::es) [] pos) (λρ=>do m (<-gS (<-tas ρ))):=⟨ha.hK,(eN (n.Dp ha.hK) k j g ha.pa i f l d).imp λo H Q h=>uF h⟩
theorem wG{T:String}{x:Oo}{m:List D->M D}{p:P8}(n:aX X F (.type T) m)(j:X.mg x=NN)(g:P7 x=NF (.type T))(ha:DA X F (e::es) tas)(k:Gl X x:=by rfl)(i:x≠"__name__":=by decide)(f:(x==("__debug__":Oo))=NP:=by decide)(l:Og (e::es) X.env=(NP,Qa e X.env)::Og es X.env:=by rfl)(d:(Qu pos (Og es X.env)).any (·.1)=NP:=by rfl):DE X F (.Call (.Name x p) (e::es) [] pos) (λρ=>do m (<-gS (<-tas ρ))):=⟨ha.hK,(mS (n.Dp ha.hK) k j g ha.pa i f l d).imp λo H Q h=>uF h⟩
noncomputable def one(f:D->M D):List D->M D
 |[d]=>f d|_=>M.fail
theorem dj{f:D->M D}{ds:List D}{k Q E}(h:(one f ds).run k Q E):∃d,ds=[d]/\(f d).run k Q E:=by match ds,h with|[d],h=>exact⟨d,rfl,h⟩
theorem ae.one{B:Fb}{H:Hp}{vs:List V}{d:D}(h:ae B H vs [d]):∃v,vs=[v]/\Is B H v d:=by
 simp only[ae]at h;obtain⟨x,g,rfl,f,rfl⟩:=h;exact⟨x,rfl,f⟩
theorem ae.two{B:Fb}{H:Hp}{vs:List V}{d e:D}(h:ae B H vs [d,e]):∃v u,vs=[v,u]/\Is B H v d/\Is B H u e:=by
 simp only[ae]at h;obtain⟨x,j,rfl,g,y,i,rfl,f,rfl⟩:=h;exact⟨x,y,rfl,g,f⟩
noncomputable def LY(d:D):M D:=match d with
 |.tup f=>pure (.int f.length)|.lst f=>pure (.int f.length)|.str x=>do M.need (x.length<=NW);pure (.int x.length)|_=>M.fail
theorem yq:aX X F (.builtin "len") (one LY):=.of xJ λhK H k j o Q l n m=>by
 obtain⟨d,rfl,q⟩:=dj m;obtain⟨v,rfl,i⟩:=n.one;cases d with
 |tup j=>
  simp only[Is]at i;obtain⟨a,f,rfl,h,g⟩:=i;exact⟨_,f.length,rfl,.inr ⟨f,by rw[hK];exact h.2,rfl⟩,q _ H .refl (by simp only[Is];rw[g.length])⟩|lst j=>
  simp only[Is]at i;obtain⟨a,f,rfl,h,g⟩:=i;exact⟨_,f.length,rfl,.inl ⟨f,by rw[hK];exact h.2.sq,rfl⟩,q _ H .refl (by simp only[Is];rw[g.length])⟩|str x=>
  simp only[Is]at i;subst i;exact⟨_,x.length,rfl,⟨q.1,rfl⟩,q.2 _ H .refl (by simp only[Is])⟩|_=>exact q.elim
noncomputable def LZ:D->M D
 |.int i=>pure (.int i)|.bl b=>pure (.int (if b then 1 else 0))|_=>M.fail
theorem Fk:aX X F (.type "int") (one LZ):=.of vZ λhK H k h m Q l g f=>by
 obtain⟨d,rfl,q⟩:=dj f;obtain⟨v,rfl,i⟩:=g.one;cases d with
 |int j=>simp only[Is]at i;subst i;exact .inl ⟨j,rfl,q _ H .refl (by simp only[Is])⟩|bl b=>simp only[Is]at i;subst i;exact .inr ⟨b,rfl,q _ H .refl (by simp only[Is])⟩|_=>exact q.elim
noncomputable def IU:D->M D
 |.int i=>do M.need (i.natAbs.log2<1920);pure (.str (toString i))|_=>M.fail
theorem Fm:aX X F (.type "str") (one IU):=.of nS λhK H k h m Q l g f=>by
 obtain⟨d,rfl,q⟩:=dj f;obtain⟨v,rfl,i⟩:=g.one;cases d with
 |int j=>simp only[Is]at i;subst i;exact⟨j,rfl,q.1,q.2 _ H .refl (by simp only[Is])⟩|_=>exact q.elim
theorem yr:aX X F (.type "tuple") (one λd=>do pure (.tup (<-M.get (items d)))):=.of mD λhK H k p o Q l n m=>by
 obtain⟨d,rfl,q⟩:=dj m;obtain⟨v,rfl,i⟩:=n.one;obtain⟨o,e,q⟩:=M.run_get.mp q;cases d<;>first|cases e|skip
 .simp only[Is]at i;obtain⟨a,f,rfl,g,h⟩:=i;exact⟨a,f,rfl,.inr ⟨by rw[hK];exact g.2,q _ H .refl (by simp only[Is];exact⟨a,f,rfl,g,h⟩)⟩⟩
 .simp only[Is]at i;obtain⟨a,f,rfl,g,h⟩:=i;exact⟨a,f,rfl,.inl ⟨by rw[hK];exact g.2.sq,λt j=>q _ _ (.new j) (gU (k:=k) l j h)⟩⟩
noncomputable def Fo:D->Option String
 |.aU=>NF "NoneType"|.bl _=>NF "bool"|.int _=>NF "int"|.str _=>NF "str"|.tup _=>NF "tuple"|.lst _=>NF "list"|.aH _ _=>NN|.exc _ _=>NN|.aA _=>NN
theorem yt{pins:List (NR×OW)}{σ:St}{H:Hp}{s:NL}{Q:NJ->NL->Prop}{E:NJ->NL->Prop}{A:Ov}{d:D}{t:String}{c:NJ}{b:Bool}{v:V}{u:NJ}(I:Inv X pins σ H s)(r:RelV v u)(hK:X.K=F.K)(i:Is F.toFb H v d)(f:Fo d=NF t)(e:Py X.K (.type t) c=NF b)(h:∀q,Q (.bool b) {s with toks:=q}):wpAny (N2 X.prog X.w) A (SI (.builtin "isinstance") [u,c]) Q E s:=by cases d with
 |aU=>cases f;simp only[Is]at i;subst i;exact fV I r .aU e h|bl y=>cases f;simp only[Is]at i;subst i;exact fV I r (.bl _) e h|int y=>cases f;simp only[Is]at i;subst i;exact fV I r (.int _) e h|str y=>cases f;simp only[Is]at i;subst i;exact fV I r (.str _) e h|tup m=>
  cases f;simp only[Is]at i;obtain⟨a,p,rfl,k,C⟩:=i;cases(show u=Of a from r);obtain⟨g,x,⟨o,l,j,_⟩,_⟩:=I.tuple (by rw[hK];exact k.2);exact Pg Wx I.jg ⟨o,l,j⟩ e (λz=>nomatch z) h|lst m=>
  cases f;simp only[Is]at i;obtain⟨a,p,rfl,k,C⟩:=i;cases(show u=Of a from r);obtain⟨g,x,B,_⟩:=I.list (by rw[hK];exact k.2.sq);obtain⟨o,n,l,j,_⟩:=B;exact Pg UH I.jg ⟨o,l,j⟩ e (λz=>nomatch z) h|aH ks p=>cases f|exc c G=>cases f|aA m=>cases f
end
noncomputable def fD(N:List Oo)(as:List A):af:=as.map (λa=>NF a.w)++OV (N.length-as.length) NN
noncomputable def IV(Q:D->Nat->Prop)(a:Fl)(k:Nat):Prop:=match a with
 |.rt d=>Q d k|.nx _=>Q .aU k|_=>False
section
variable{P:N7}{w:Oq}{K:NS}{mg:Oo->Option NJ}{base:Oy}
theorem Paired.IW{b a:Type}{R:b->a->Prop}:∀{l:List b}{r:List a},Paired R l r->∀{i:Nat}{y:a},r[i]?=NF y->∃x,l[i]?=NF x/\R x y
 |_,_,.nil,i,y,e=>by simp at e|_,_,.cons h t,0,y,e=>by simp at e;subst e;exact⟨_,rfl,h⟩|_,_,.cons h t,i+1,y,e=>by simpa using Paired.IW t (i:=i) (by simpa using e)
theorem wH{B:Fb}{H:Hp}{k:Nat}{E:Xc->Nat->Prop}{N:List Oo}{vs:List V}{as:List A}(lv:H B.p≠NN)(i:wC B H k vs as):bX ⟨B,H,k,E,H,k⟩ (fD N as) k (start N vs) H:=by
 have m:=Paired.length i;refine⟨by simp[fD,start,m],λj d e=>?_,λi j d e v l b g h n=>?_,lv,.refl,.refl⟩
 .unfold fD at e;by_cases f:j<as.length
  .rw[Pf (by simpa using f),Om]at e;cases c:as[j]? with
   |none=>rw[c]at e;cases e|some a=>
    rw[c]at e;cases e;obtain⟨v,b,g⟩:=Paired.IW i c;refine⟨v,?_,HJ.w (F:=⟨B,H,k,E,H,k⟩) g⟩;unfold start;rw[Pf (by simp;omega),Om,b];rfl
  .rw[OI (by simpa using f),QY]at e;split at e<;>cases e
 .exfalso;unfold fD at b;by_cases f:i<as.length
  .rw[Pf (by simpa using f),Om]at b;cases c:as[i]? with
   |none=>rw[c]at b;cases b|some a=>
    rw[c]at b;cases b;cases a<;>cases h
  .rw[OI (by simpa using f),QY]at b;split at b<;>cases b
end
section
variable{F:Fx}{ρ:af}{σ:St}{H H':Hp}{k k':Nat}
theorem bX.set{v:V}{d:D}(S:bX F ρ k σ H)(i:Nat)(h:Is F.toFb H v d):bX F (ρ.set i (NF (.d d))) k (σ.set i (NF v)) H where
 len:=by simp[S.len]
 at_:=λj x e=>by
  rw[PK]at e⊢;by_cases o:i=j
  .subst o;rw[if_pos rfl]at e⊢;split at e
   .rename_i p;cases e;rw[if_pos (by rw[<-S.len];exact p)];exact⟨v,rfl,h⟩
   .cases e
  .rw[if_neg o]at e⊢;exact S.at_ j x e
 apart:=λn m x y u f b a l g c=>by
  rw[PK]at b a c⊢;have n1:i≠n:=by
   rintro rfl;rw[if_pos rfl]at b;split at b;.cases b;cases l
   .cases b
  have n2:i≠m:=by
   rintro rfl;rw[if_pos rfl]at a;split at a;.cases a;cases g
   .cases a
  rw[if_neg n1]at b c;rw[if_neg n2]at a⊢;exact S.apart n m x y u f b a l g c
 live:=S.live;ext:=S.ext;km:=S.km
end
noncomputable def IX(F:Fx)(t:D->af->M af):TG:=λv g H Q=>∃e k d,bX F e k g H/\Is F.toFb H v d/\(t d e).run k (λb f=>∀a c,Ext F.toFb H k c f->bX F b f a c->Q a c) F.E
noncomputable def L0(F:Fx)(t:List D->af->M af):AL:=λh g H Q=>∃d k f,bX F d k g H/\ae F.toFb H h f/\(t f d).run k (λb e=>∀a c,Ext F.toFb H k c e->bX F b e a c->Q a c) F.E
structure DG(X:Cx)(F:Fx)(tg:Ob)(t:D->af->M af):Prop where
 hK:X.K=F.K
 pg:PG X tg (IX F t)
structure Dq(X:Cx)(F:Fx)(tgs:List Ob)(t:List D->af->M af):Prop where
 hK:X.K=F.K
 pg:Dc X tgs (L0 F t)
section
variable{X:Cx}{F:Fx}{a b c e tg:Ob}{es tgs:List Ob}{pos:P8}{ta tb tc:af->M D}{tas:af->M (List A)}{g:D->af->M af}{gs:List D->af->M af}
theorem PG.imp{t t':TG}(h:PG X tg t)(q:∀v σ H Q,t' v σ H Q->t v σ H Q):PG X tg t':=λd s σ H v u Q I r z=>h d s σ H v u Q I r (q v σ H Q z)
theorem Dc.imp{t t':AL}(h:Dc X tgs t)(q:∀v σ H Q,t' v σ H Q->t v σ H Q):Dc X tgs t':=λd s σ H v u Q I r z=>h d s σ H v u Q I r (q v σ H Q z)
noncomputable def gN(i:Nat)(d:D)(ρ:af):M af:=pure (ρ.set i (NF (.d d)))
theorem Bx(i:Nat){x:Oo}{pos:P8}(hN:X.N.Nodup)(j:X.N[i]?=NF x:=by rfl)(hx:Loc X.env.scope x:=by first|exact SY rfl|exact Um rfl)(l:X.fn x=NM\/X.env.scope.names.lookup x=NF .local:=by first|exact SY rfl|exact Um rfl)(hK:X.K=F.K:=by rfl):DG X F (.Name x pos) (gN i):=⟨hK,(t8 (i:=i) hN j hx l).imp λv m H Q⟨n,k,d,S,f,h⟩=>h _ H .refl (S.set i f)⟩
noncomputable def IY:List D->af->M af
 |[],d=>pure d|_::_,_=>M.fail
noncomputable def Fp(g:D->af->M af)(gs:List D->af->M af):List D->af->M af
 |[],_=>M.fail|d::h,f=>do gs h (<-g d f)
theorem By(hK:X.K=F.K:=by rfl):Dq X F [] IY:=⟨hK,AM.imp λv l H Q f=>by
 obtain⟨m,k,j,S,i,h⟩:=f;cases j with
 |nil=>simp only[ae]at i;exact⟨i,h l H .refl S⟩|cons d j=>exact h.elim⟩
theorem yu(m:DG X F e g)(B:Dq X F es gs)(y:(Qj (e::es) X.env).map (·.2)=Tt e X.env::(Qj es X.env).map (·.2):=by rfl):Dq X F (e::es) (Fp g gs):=by
 refine⟨m.hK,(xE m.pg B.pg y).imp λv J H Q⟨r,k,l,S,i,h⟩=>?_⟩;cases l with
 |nil=>exact h.elim|cons d l=>
  simp only[ae]at i;obtain⟨x,s,rfl,w,u⟩:=i;refine⟨x,s,rfl,r,k,d,S,w,M.wk h λj t q o L n G=>?_⟩;exact⟨j,t,l,G,u.mono n.kp,M.wk q λp K z f I C E=>z f I (n.trans C) E⟩
noncomputable def gT(n:Nat)(gs:List D->af->M af):D->af->M af
 |.tup d,f=>do M.need (d.length=n);gs d f|_,_=>M.fail
theorem Fq{n:Nat}{j:Nat}(s:X.calm=NM)(h:Dq X F es gs)(r:(Qj es X.env).length=n:=by rfl)(l:(Qj es X.env).findIdx? (·.1)=NN:=by rfl):DG X F (.Tuple es j pos) (gT n gs):=⟨h.hK,(Eo s h.pg r l).imp λv w H Q f=>by
  obtain⟨p,k,d,S,i,m⟩:=f;cases d with
  |tup u=>
   simp only[Is]at i;obtain⟨a,q,rfl,t,o⟩:=i;exact⟨a,q,rfl,by rw[h.hK];exact t.2,by rw[o.length];exact m.1,p,k,u,S,o,m.2⟩|_=>exact m.elim⟩
theorem Fs(l:DE X F e ta)(r:DG X F tg g)(p:UR [tg] e pos.line X.env=pure NP:=by rfl)(hw:QL [tg] e X.env=pure NN:=by rfl)(j:(Qj [tg] X.env).map (·.2)=[Tt tg X.env]:=by rfl):DS X F (.Assign [tg] e pos) (λρ=>do let d<-ta ρ;let ρ'<-g d ρ;pure (.nx ρ')):=⟨l.hK,(nQ l.pe r.pg p hw j).imp λZ y H i=>by
  obtain⟨ρ,k,S,h⟩:=i;refine eO.next S h λd n v B t w o j=>?_;exact⟨ρ,n,d,w,o,M.wk j λm z q f x s u=>q f x (t.trans s).kp u⟩⟩
theorem yv(i:Nat){x:Oo}{f:P8}(hN:X.N.Nodup)(l:DE X F e ta)(o:X.N[i]?=NF x:=by rfl)(hx:Loc X.env.scope x:=by first|exact SY rfl|exact Um rfl)(n:Qz e (NF (.Name x f)) pos.line X.env=pure NP:=by rfl)(p:X.fn x=NM\/X.env.scope.names.lookup x=NF .local:=by first|exact .inl rfl|exact .inr rfl):DS X F (.Assign [.Name x f] e pos) (λρ=>do let d<-ta ρ;pure (.nx (ρ.set i (NF (.d d))))):=⟨l.hK,(c7 (i:=i) hN o hx l.pe n p).imp λZ u H j=>by
  obtain⟨ρ,k,S,h⟩:=j;refine eO.next S h λd w v t r s m q=>?_;exact q _ t r.kp (s.set i m)⟩
theorem Ft(i j:Nat){x y:Oo}{p o pt:P8}{kt k2 pt2}(J:X.calm=NM)(hN:X.N.Nodup)(ha:DA X F [a,b] tas)(s:i≠j)(n:∀{ta:TA},PA X [a,b] ta->PS X (.Assign [.Tuple [.Name x p,.Name y o] kt pt] (.Tuple [a,b] k2 pt2) pos) (Ih i j ta)):DS X F (.Assign [.Tuple [.Name x p,.Name y o] kt pt] (.Tuple [a,b] k2 pt2) pos) (λρ=>do match<-gS (<-tas ρ)with
   |[d,e]=>pure (.nx ((ρ.set i (NF (.d d))).set j (NF (.d e))))|_=>M.fail):=⟨ha.hK,(n ha.pa).imp λZ E H l=>by
  obtain⟨ρ,k,S,h⟩:=l;refine qb.next S h λas I G C w B m t=>?_;obtain⟨z,rfl,f⟩:=bK t;match z,f,m with
  |[d,e],f,m=>
   obtain⟨v,u,rfl,r,q⟩:=(bL m).two;exact⟨v,u,rfl,f _ C w.kp ((B.set i r).set j q)⟩|[],f,_=>exact f.elim|[_],f,_=>exact f.elim|_::_::_::_,f,_=>exact f.elim⟩
theorem Bz(i:DE X F e ta)(l:Qz e NN pos.line X.env=pure NP:=by rfl):DS X F (.Expr e pos) (λρ=>do let _<-ta ρ;pure (.nx ρ)):=⟨i.hK,(nP i.pe l).imp λZ j H f=>by
  obtain⟨ρ,k,S,h⟩:=f;refine eO.next S h λd q v p n o r m=>?_;exact m j p n.kp o⟩
theorem Fu(i:DE X F e ta):DS X F (.Return (NF e) pos) (λρ=>do let d<-ta ρ;pure (.rt d)):=⟨i.hK,(kL i.pe).imp λZ o H f=>by
  obtain⟨ρ,k,S,h⟩:=f;refine eO.next S h λd p v n q m j l=>?_;exact l v n m.ext j⟩
variable{st:Qq}{sts sts':List Qq}{t u:af->M Fl}{tA:af->M Bool}
noncomputable def L1(t u:af->M Fl)(ρ:af):M Fl:=do match<-t ρ with
 |.nx d=>u d|f=>pure f
theorem BA(hK:X.K=F.K:=by rfl):wF X F [] (λρ=>pure (.nx ρ)):=⟨hK,kg.imp λZ d H⟨ρ,k,S,h⟩=>h d H .refl S⟩
theorem yw(j:DS X F st t)(o:wF X F sts u):wF X F (st::sts) (L1 t u):=⟨j.hK,(bf j.ps o.ps).imp λZ w H i=>by
  obtain⟨m,k,S,h⟩:=i;refine⟨m,k,S,M.wk h λr n q=>?_⟩;cases r with
  |nx f=>exactλl y s v=>⟨f,n,v,M.wk q λp x z=>z.mono s⟩|rt d=>exact q|bk f=>exact q|ct f=>exact q⟩
theorem IZ{m:Ob}(i:DT X F m tA)(ha:wF X F sts t)(hb:wF X F sts' u):DS X F (.If m sts sts' pos) (λρ=>do let b<-tA ρ;if b then t ρ else u ρ):=⟨i.hK,(t7 i.pt ha.ps hb.ps).imp λZ q H d=>by
  obtain⟨ρ,k,S,h⟩:=d;refine p_.next S h λb f r l n j=>?_;cases b with
  |true=>exact⟨ρ,f,n,M.wk j λp o z=>z.mono l.kp⟩|false=>exact⟨ρ,f,n,M.wk j λp o z=>z.mono l.kp⟩⟩
structure sI(F:Fb)(J:It)(ds:List D)(H0:Hp)(k0:Nat):Prop where
 step:∀(i:Nat)(d:D)(H:Hp)(k:Nat),ds[i]?=NF d->Kp F H0 k0 H k->H F.p≠NN->J.go i H/\∀x H',J.K1 i H x H'->Ext F H k H' k/\Is F H' x d
 stop:∀(H:Hp)(k:Nat),Kp F H0 k0 H k->H F.p≠NN->J.stop ds.length H
 len:ds.length<=NW
noncomputable def L3(F:Fx)(t:af->M (List D)):TI:=λi H R=>∃f k,bX F f k i H/\(t f).run k (λj h=>∀J d,Ext F.toFb H k d h->sI F.toFb J j d h->R J d) F.E
structure DI(X:Cx)(F:Fx)(tg iter:Ob)(t:af->M (List D)):Prop where
 hK:X.K=F.K
 pi:PI X tg iter (L3 F t)
noncomputable def wI(g:D->af->M af)(body:af->M Fl):List D->af->M Fl
 |[],i=>pure (.nx i)|d::j,i=>do
  let h<-g d i;match<-body h with
  |.nx f=>wI g body j f|.ct f=>wI g body j f|.bk f=>pure (.nx f)|.rt r=>pure (.rt r)
theorem n8{d:Type}{l:List d}{i:Nat}(h:i<l.length):∃x,l[i]?=NF x/\l.drop i=x::l.drop (i+1):=⟨l[i],Oc h,Rk h⟩
theorem Fv{iter:Ob}{tI:af->M (List D)}(hp:Ud (N2 X.prog X.w) X.A X.env X.xe)(hc:X.calm=NM)(hi:DI X F tg iter tI)(hg:DG X F tg g)(hb:wF X F sts t)(hs:∀x,QX iter X.env x=pure x:=by intro _;rfl):DS X F (.For tg iter sts [] pos) (λρ=>do wI g t (<-tI ρ) ρ):=⟨hi.hK,(Es hp hc hi.pi hg.pg hb.ps hs).imp λZ σ H R=>by
  obtain⟨ρ,k,S,h⟩:=R;refine⟨ρ,k,S,M.wk h λl N q J H1 V it=>?_⟩;refine⟨λi m o v=>m=l.length-i/\i<=l.length/\∃j p,bX F j p o v/\Kp F.toFb H1 N v p/\(wI g t (l.drop i) j).run p (wD F Z H k) F.E,⟨l.length,rfl,OB _,ρ,N,S.mono V,.refl,q⟩,?_⟩;rintro i m o v⟨rfl,a2,j,p,P,O,L⟩;by_cases C:i<l.length
  .obtain⟨d,hd,U⟩:=n8 C;rw[U]at L;obtain⟨go,yl⟩:=it.step i d v p hd O P.live;refine .inr ⟨go,λz Y=>∃B T,bX F B T z Y/\Kp F.toFb H1 N Y T/\(wI g t (l.drop (i+1)) B).run T (wD F Z H k) F.E,λz Y h3=>⟨l.length-(i+1),by omega+splitNatSub,rfl,C,h3⟩,λx H' y=>?_⟩;obtain⟨e3,i3⟩:=yl x H' y;refine⟨j,p,d,P.mono e3,i3,M.wk L λQ k4 q4 a0 H4 e4 S4=>?_⟩;have s:Kp F.toFb H1 N H4 k4:=O.trans (e3.trans e4).kp;refine⟨Q,k4,S4,M.wk q4 λfl k5 K=>?_⟩;cases fl with
   |nx f=>exactλn W G I=>⟨f,k5,I,s.trans G,K⟩|ct f=>exactλn W G I=>⟨f,k5,I,s.trans G,K⟩|bk f=>exactλn W G I=>K n W ((V.kp.trans s).trans G) I|rt r=>exact K
  .have e:i=l.length:=by omega+splitNatSub
   subst e;rw[U9]at L;exact .inl ⟨it.stop v p O P.live,L o v (V.kp.trans O) P⟩⟩
noncomputable def eZ(c:af->M Bool)(body:af->M Fl):Nat->af->M Fl
 |0,_=>M.fail|n+1,f=>do
  let b<-c f;if b then do match<-body f with
   |.nx d=>eZ c body n d|.ct d=>eZ c body n d|.bk d=>pure (.nx d)|.rt r=>pure (.rt r)else pure (.nx f)
noncomputable def Fw(c:af->M Bool)(body:af->M Fl)(ρ:af):M Fl:=⟨λk Q E=>∃n,(eZ c body n ρ).run k Q E,λ⟨n,h⟩q e=>⟨n,(eZ c body n ρ).mono h q e⟩⟩
theorem yx{Q:Ob}(V:Ud (N2 X.prog X.w) X.A X.env X.xe)(N:DT X F Q tA)(hb:wF X F sts t):DS X F (.While Q sts [] pos) (Fw tA t):=⟨N.hK,(xF V N.pt hb.ps).imp λZ σ H y=>by
  obtain⟨U,k,S,n,h⟩:=y;refine⟨λm j G=>∃f x,bX F f x j G/\Kp F.toFb H k G x/\(eZ tA t m f).run x (wD F Z H k) F.E,⟨n,U,k,S,.refl,h⟩,?_⟩;rintro m j G⟨f,x,S2,P,J⟩;cases m with
  |zero=>exact J.elim|succ m=>
   refine p_.next S2 J λb L T O R I=>?_;cases b with
   |false=>exact I j T (P.trans O.kp) R|true=>
    refine⟨λo C=>∃p z,bX F p z o C/\Kp F.toFb H k C z/\(eZ tA t m p).run z (wD F Z H k) F.E,λo C W=>⟨m,OY _,W⟩,f,L,R,M.wk I λY K v=>?_⟩;have l:Kp F.toFb H k T L:=P.trans O.kp;cases Y with
    |nx d=>exactλi B q s=>⟨d,K,s,l.trans q,v⟩|ct d=>exactλi B q s=>⟨d,K,s,l.trans q,v⟩|bk d=>exactλi B q s=>v i B (l.trans q) s|rt r=>exact v⟩
theorem PI.imp{iter:Ob}{t t':TI}(h:PI X tg iter t)(q:∀σ H R,t' σ H R->t σ H R):PI X tg iter t':=λd s σ H R I z=>h d s σ H R I (q σ H R z)
noncomputable def Fy{h:Type}(f:D->M h):List D->M h
 |[d]=>f d|_=>M.fail
theorem qf{i:Type}{f:D->M i}{ds:List D}{k Q E}(h:(Fy f ds).run k Q E):∃d,ds=[d]/\(f d).run k Q E:=by match ds,h with|[d],h=>exact⟨d,rfl,h⟩
noncomputable def bR(n:Nat):List D:=(OJ n).map λ(i:Nat)=>D.int (i:Int)
noncomputable def Fz(d:D):M (List D):=do
 let j<-fC d;M.need (-(2^62)<=j/\j<=1000000)pure (bR j.toNat)
theorem wJ{p:P8}(B:X.mg "range"=NN)(ha:DA X F [a] tas)(C:Gl X "range":=by rfl)(z:Og [a] X.env=[(NP,Qa a X.env)]:=by rfl):DI X F tg (.Call (.Name "range" p) [a] [] pos) (λρ=>do Fy Fz (<-gS (<-tas ρ))):=⟨ha.hK,(vY C B ha.pa z).imp λO H R m=>by
  obtain⟨ρ,k,S,h⟩:=m;refine qb.next S h λas T P N K V w I=>?_;obtain⟨U,rfl,G⟩:=bK I;obtain⟨d,rfl,E⟩:=qf G;obtain⟨j,rfl,l⟩:=bB.mp E;obtain⟨v,rfl,q⟩:=(bL w).one;simp only[Is]at q;subst q;refine⟨j,rfl,l.1.1,Int.lt_of_le_of_lt l.1.2 (by decide),l.2 _ N K ⟨λi d L s hd J Q=>?_,λL s J _=>?_,?_⟩⟩
  .unfold bR at hd;rw[Om]at hd;cases o:(OJ j.toNat)[i]? with
   |none=>rw[o]at hd;cases hd|some n=>
    rw[o]at hd;cases hd;obtain⟨f,r⟩:=List.getElem?_eq_some_iff.mp o;rw[List.getElem_range]at r;subst r;rw[UL]at f;refine⟨f,λx W y=>?_⟩;obtain⟨rfl,rfl⟩:=y;exact⟨.refl,by simp only[Is];simp⟩
  .show j.toNat<=_;simp[bR]
  .have:=l.1.2;simp only[bR,NY,UL,Qb];omega⟩
theorem yy{B:Fb}{H:Hp}{k:Nat}{a:NR}{vs:List V}{ds:List D}(h:LstAt B H a vs)(i:ae B H vs ds)(p:vs.length<=NW):sI B (MM B.K a) ds H k where
 step:=λj d n o hd e l=>by
  obtain⟨x,m,q⟩:=(i.mono e).get hd;have f:dy B.K n a vs:=(h.mono e).2.sq;refine⟨⟨vs,x,f,m⟩,λy r z=>?_⟩;obtain⟨rfl,z⟩:=z;have:=z vs f;rw[m]at this;cases this;exact⟨.refl,q⟩
 stop:=λn o e l=>⟨vs,(h.mono e).2.sq,Vo i.length⟩;len:=by rw[<-i.length];exact p
theorem yz{B:Fb}{H:Hp}{k:Nat}{a:NR}{vs:List V}{ds:List D}(h:TupAt B H a vs)(i:ae B H vs ds)(o:vs.length<=NW):sI B (MN B.K a) ds H k where
 step:=λj d q n hd e l=>by
  obtain⟨x,m,p⟩:=(i.mono e).get hd;have f:=(h.mono e).2;refine⟨⟨vs,x,f,m⟩,λy r z=>?_⟩;obtain⟨rfl,z⟩:=z;have:=z vs f;rw[m]at this;cases this;exact⟨.refl,p⟩
 stop:=λq n e l=>⟨vs,(h.mono e).2,Vo i.length⟩;len:=by rw[<-i.length];exact o
end
noncomputable def m7(outer a:Qr):Bool:=(a.kind==.function)&&a.names.all λy=>((y.2 !=.cell)||(a.names.lookup y.1==NF .cell))&&((y.2 !=.local)||(a.names.lookup y.1==NF .local))&&((y.2 !=.free)||(outer.names.lookup y.1==NF .cell)||(outer.names.lookup y.1==NF .free))
noncomputable def sJ(env:Uc)(y:Oo×Rb)(cs:List (Oo×NR)):UG (ForInStep (List (Oo×NR))):=do if y.2==.free then pure (P9 ((y.1,<-cellOf env y.1)::cs))else pure (P9 cs)
theorem sL{a:Qr}{env:Uc}{cl:List (Oo×NR)}(h:forIn a.names [] (sJ env)=(pure cl:UG _)):Xv a env=pure cl:=by
 have e:Xv a env=(forIn a.names [] (sJ env)>>=λs=>pure s):=rfl;rw[e,h];rfl
theorem sM{env:Uc}:∀(names:List (Oo×Rb)),(∀y∈names,y.2=.free->∃c,env.cells.lookup y.1=NF c)->∀a:List (Oo×NR),(∀x c,a.lookup x=NF c->env.cells.lookup x=NF c)->∃cl,forIn names a (sJ env)=(pure cl:UG _)/\(∀x c,cl.lookup x=NF c->env.cells.lookup x=NF c)/\(∀x c,a.lookup x=NF c->∃b,cl.lookup x=NF b)/\∀y∈names,y.2=.free->∃c,cl.lookup y.1=NF c
 |[],_,a,ha=>⟨a,rfl,ha,λx c e=>⟨c,e⟩,λy hy=>nomatch hy⟩|(n,f)::r,i,a,ha=>by
  by_cases j:f=.free
  .subst j;obtain⟨c,p⟩:=i (n,.free) NV rfl;have k:∀x b,((n,c)::a).lookup x=NF b->env.cells.lookup x=NF b:=λx b e=>by
    rw[OP]at e;cases hx:x==n with
    |true=>
     rw[hx]at e;cases e;rw[beq_iff_eq.mp hx];exact p|false=>
     rw[hx]at e;exact ha x b e
   obtain⟨cl,o,m,h,l⟩:=sM r (λy hy=>i y (NX _ hy)) ((n,c)::a) k;have keep:∀x b,a.lookup x=NF b->∃d,((n,c)::a).lookup x=NF d:=λx b e=>by
    rw[OP];cases hx:x==n with
    |true=>exact⟨c,rfl⟩|false=>exact⟨b,e⟩
   refine⟨cl,?_,m,λx b e=>?_,λy hy g=>?_⟩
   .rw[T4];have e:sJ env (n,.free) a=(pure (P9 ((n,c)::a)):UG _):=by
     unfold sJ cellOf;rw[p];rfl
    rw[e];exact o
   .obtain⟨d,q⟩:=keep x b e;exact h x d q
   .rcases List.mem_cons.mp hy with z|z
    .subst z;exact h n c (by rw[OP,beq_self_eq_true])
    .exact l y z g
  .obtain⟨cl,o,m,h,l⟩:=sM r (λy hy=>i y (NX _ hy)) a ha;refine⟨cl,?_,m,h,λy hy g=>?_⟩
   .rw[T4];have e:sJ env (n,f) a=(pure (P9 a):UG _):=by
     unfold sJ;have:(f==PQ)=NP:=by cases f<;>first|rfl|exact absurd rfl j
     rw[this];rfl
    rw[e];exact o
   .rcases List.mem_cons.mp hy with z|z
    .subst z;exact absurd g j
    .exact l y z g
theorem yA{X:Cx}(ok:X.Ok){a:Qr}(h:m7 X.env.scope a=NM):∃cl,IF X a cl:=by
 unfold m7 at h;rw[N0,O8]at h;obtain⟨f,ha⟩:=h;have b:∀y∈a.names,y.2=.free->X.env.kindOf y.1=NF .cell\/X.env.kindOf y.1=NF .free:=λy hy d=>by
  have:=ha y hy;simp only[N0,PR,bne_iff_ne,beq_iff_eq,ne_eq]at this;rcases this.2 with(z|z)|z;.exact absurd d z
  .exact .inl z
  .exact .inr z
 obtain⟨cl,j,i,k,g⟩:=sM (env:=X.env) a.names (λy hy d=>ok.has y.1 (b y hy d)) [] (λx c e=>nomatch e);refine⟨cl,sL j,i,λx e=>⟨g (x,.free) (PD e) rfl,b (x,.free) (PD e) rfl⟩,beq_iff_eq.mp f,λy hy z=>?_,λy hy z=>?_⟩
 .have:=ha y hy;rw[z]at this;simpa using this
 .have:=ha y hy;rw[z]at this;simpa using this
noncomputable def gV(ρ:af)(n:Nat)(js:List Nat):af:=OV n NN++js.map λj=>(ρ[j]?).join
theorem n9{ρ:af}{n:Nat}{js:List Nat}{i:Nat}{w:W}(h:(gV ρ n js)[i]?=NF (NF w)):n<=i/\∃j,js[i-n]?=NF j/\ρ[j]?=NF (NF w):=by
 unfold gV at h;by_cases a:i<n
 .rw[Pf (by simpa using a),QY,if_pos a]at h;cases h
 .rw[OI (by simpa using a),Qx,Om]at h;refine⟨by omega,?_⟩;cases c:js[i-n]? with
  |none=>rw[c]at h;cases h|some j=>
   rw[c]at h;refine⟨j,rfl,?_⟩;have h:(ρ[j]?).join=NF w:=NU h;cases b:ρ[j]? with
   |none=>rw[b]at h;cases h|some o=>
    rw[b]at h;have h:o=NF w:=h;rw[h]
theorem fE{σ:St}{n:Nat}{js:List Nat}{i j:Nat}{v:V}(b:n<=i)(a:js[i-n]?=NF j)(h:σ[j]?=NF (NF v)):(bw σ n js)[i]?=NF (NF v):=by
 unfold bw;rw[OI (by simpa using b),Qx,Om,a];show NF ((σ[j]?).join)=_;rw[h];rfl
theorem bX.dP{F:Fx}{ρ:af}{k:Nat}{σ:St}{H:Hp}(S:bX F ρ k σ H)(n:Nat){js:List Nat}(C:js.Nodup):bX F (gV ρ n js) k (bw σ n js) H where
 len:=by simp[gV,bw]
 at_:=λi w e=>by
  obtain⟨q,j,d,g⟩:=n9 e;obtain⟨v,f,s⟩:=S.at_ j w g;exact⟨v,fE q d f,s⟩
 apart:=λi B w r v l e E o A y x=>by
  obtain⟨q,j,d,g⟩:=n9 e;obtain⟨p,h,c,b⟩:=n9 E;obtain⟨u,f,s⟩:=S.at_ j w g;obtain⟨G,a,D⟩:=S.at_ h r b;have a1:=fE q d f;have t:=fE p c a;rw[y]at a1;rw[x]at t;cases a1;cases t;have m:j≠h:=λz=>by
   subst z;have:i-n=B-n:=(List.getElem?_inj (List.getElem?_eq_some_iff.mp d).1 C).mp (d.trans c.symm);exact l (by omega+splitNatSub)
  exact S.apart j h w r v m g b o A f a
 live:=S.live;ext:=S.ext;km:=S.km
structure lj(X:Cx)(F:Fx)(ifs:List Ob)(t:af->M Bool):Prop where
 hK:X.K=F.K
 pi:we X ifs (p_ F t)
section
variable{X:Cx}{F:Fx}{elt tg iter c:Ob}{ifs:List Ob}{pos:P8}{scope:Qr}{own fr:List Oo}{js:List Nat}{g:D->af->M af}{tc:af->M Bool}{te:af->M D}{tI:af->M (List D)}
theorem yB(hK:X.K=F.K:=by rfl):lj X F [] (λ_=>pure NM):=⟨hK,λa s b H Q I⟨d,k,S,h⟩=>xV a s b H Q I (h H .refl)⟩
theorem yC(h:DT X F c tc):lj X F [c] tc:=⟨h.hK,xW h.pt⟩
noncomputable def m8(g:D->af->M af)(tc:af->M Bool)(te:af->M D):List D->af->M (List D)
 |[],_=>pure []|d::e,f=>do
  let a<-g d f;let b<-tc a;if b then do
   let x<-te a;let r<-m8 g tc te e a;pure (x::r)else m8 g tc te e a
theorem BB{σ:St}{ρ:af}{u:Hp}{k1:Nat}{J:It}{ds:List D}{Q:List D->Nat->Prop}{O:List V->St->Hp->Prop}(it:sI F.toFb J ds u k1)(S:bX F ρ k1 σ u)(h:(m8 g tc te ds ρ).run k1 Q F.E)(q:∀vs xs A H' w,Ext F.toFb u k1 H' w->ae F.toFb H' vs xs->Q xs w->vs.length<=NW->O vs A H'):ug J (IX F g) (p_ F tc) (kU (eO F te)) σ u [] O:=by
 refine⟨λi m k n l=>m=ds.length-i/\i<=ds.length/\k.length<=i/\∃f a as,bX F f a n l/\Ext F.toFb u k1 l a/\ae F.toFb l k as/\(m8 g tc te (ds.drop i) f).run a (λr w=>Q (as++r) w) F.E,⟨ds.length,rfl,OB _,NZ _,ρ,k1,[],S,.refl,.nil,h⟩,?_⟩;rintro i m k n l⟨rfl,a0,a2,f,a,as,G,t,B,o⟩;by_cases p:i<ds.length
 .obtain⟨d,hd,C⟩:=n8 p;rw[C]at o;obtain⟨go,R⟩:=it.step i d l a hd t.kp G.live;refine .inr ⟨go,λx H3 y=>?_⟩;obtain⟨L,i3⟩:=R x H3 y;refine⟨f,a,d,G.mono L,i3,M.wk o λs k4 W P H4 e4 S4=>?_⟩;refine p_.next S4 W λb I H5 e5 N H=>?_;have j:Ext F.toFb l a H5 I:=(L.trans e4).trans e5;cases b with
  |false=>exact⟨ds.length-(i+1),by omega,rfl,p,by omega,s,I,as,N,t.trans j,B.mono j.kp,H⟩|true=>
   rw[if_pos rfl];refine eO.next N H λT Y v H6 K S6 Z U=>?_;have hz:=it.len;refine⟨by omega,ds.length-(i+1),by omega,rfl,p,by simp;omega,s,Y,as++[T],S6,t.trans (j.trans K),(B.mono (j.trans K).kp).append (.cons Z .nil),M.wk U λr k7 z=>?_⟩;rw[OK];exact z
 .have e:i=ds.length:=by omega
  subst e;rw[U9]at o;have o:Q (as++[]) a:=o;rw[Pn]at o;exact .inl ⟨it.stop l a t.kp G.live,q k as n l a t B o (by have:=it.len;omega)⟩
end
noncomputable def sN(e:Ob)(d:Nat):Prop:=∀{prog:N7}{w:Oq}{A:Ov}{R:Xr->NL->Prop}{s:NL}{it a:NJ}{env:Uc},codeAny (N2 prog w) A (.compLoop e d it a env) R s->wpAny (N2 prog w) A (US it) (λc b=>codeAny (N2 prog w) A (.compLoop e d c a env) R b) (notedBy (N2 prog w) A env λx b=>R (.error x) b) s->codeAny (N2 prog w) A (.compStart e d it a env) R s
noncomputable def uG{c:Type}(n:Nat)(js:List Nat)(f:TI)(g:TG)(b:TT)(rd:RB c)(a0:c)(o:c->HO):TE:=λd H Q=>f d H λJ h=>ug J g b rd (bw d n js) h a0 λa _ e=>∀p,e p=NN->(p==Qi)=NP->Q (.ref p) (upd e p (o a))
theorem uH{X:Cx}{Z:Type}{e tg iter:Ob}{ifs:List Ob}{rest:List TH}{f:Qr}{pos:P8}{cl:List (Oo×NR)}{own fr:List Oo}{js:List Nat}{wi:TI}{g:TG}{L:TT}{rd:RB Z}{ok:Z->OW->Prop}{a0:Z}{ob0:OW}{o:Z->HO}{newAcc:UG NJ}{body:NR->Uc->UG Unit}(S:X.calm=NM)(c:IF X f cl)(hj:js.map (λj=>X.N[j]?)=fr.map NF)(e4:∀x∈fr,f.names.lookup x=NF .free)(hw:PI X tg iter wi)(e5:Qa e X.env=comprehension e f X.env pos newAcc NP (Qa iter X.env) NN)(b8:clausesOf e=⟨tg,iter,ifs,0⟩::rest)(d3:sN e 0)(b2:∀{Q:NJ->NL->Prop}{s:NL},Q (.ref s.heap.objs.size) {s with heap:=s.heap.push ob0}->wpAny (N2 X.prog X.w) X.A newAcc Q X.xe s)(e0:∀a ob v,ok a ob->ob.data≠.cell v)(a6:ok a0 ob0)(d6:ob0.data≠.freed)(b6:∀it D env,(N2 X.prog X.w).den (.compLoop e 0 (.ref it) (.ref D) env)=(U5 e 0 (.ref it) (.ref D) env).onRaise (λx=>do SO x env;VD x))(a9:∀it D env,X.A.under (.compLoop e 0 (.ref it) (.ref D) env)=X.A)(e6:∀it D env,U5 e 0 (.ref it) (.ref D) env=(do
   SR iter.pos;match<-Rt (.ref it)with
   |none=>pure (.done .next)|some v=>
    Rm tg (.ref it) v;Tt tg env v;let mut ok:=NM;for c in ifs do if ok then ok<-Vg c env (Qa c env)
    if ok then body D env
    Xq (.compLoop e 0 (.ref it) (.ref D) env)))(hg:∀pins cs C l s H,PG (dP X pins f (own++fr) cs C l s H) tg g)(hi:∀pins cs C l s H,we (dP X pins f (own++fr) cs C l s H) ifs L)(hb:∀pins cs C l s H D,HE (dP X pins f (own++fr) cs C l s H) D->Body (dP X pins f (own++fr) cs C l s H) ok D (body D (dP X pins f (own++fr) cs C l s H).env) rd)(b4:∀(a:Z)(ob:OW)(H:Hp)(h:Oy)(D:NR),ok a ob->h.get? D=NF ob->iq X.prog X.w H h->be X.prog X.w (upd H D (o a)) h D (o a))(hs:∀x,QX iter X.env x=pure x:=by intro _;rfl):PE X e (uG own.length js wi g L rd a0 o):=by
 intro pins s σ H Q I h;rw[e5];refine UY (use:=NN) b8 hs c.IG c.kind c.names (bo (hw pins s σ H _ I h) λv s1 h1=>bo h1 λf4 i h2=>?_);obtain⟨it,l,tn,J,F,e1,B,T,a3,f2,d0⟩:=h2;subst e1;refine b2 (iH ?_);dsimp only;generalize U:i.heap.push ob0=k;have hC:k.objs.size=i.heap.objs.size+1:=by rw[<-U,OS]
 have c0:i.heap.objs.size≠k.objs.size:=by rw[hC];exact Oj (OY _)
 have u:i.heap.objs.size<=k.objs.size:=by rw[hC];exact QQ _
 have V:∀b,b<i.heap.objs.size->b≠k.objs.size:=λb hb=>by rw[hC];exact Oj (Pu hb)
 have a7:∀x a,X.env.cells.lookup x=NF a->a<i.heap.objs.size:=λx a e=>by
  obtain⟨v,q⟩:=B.cell x a e;exact q.lt
 obtain⟨cj,ck⟩:=iG f.names (k.objs.size+1) cl (λx a e=>Pu (Od (a7 x a (c.sub x a e)) u)) (λx y a e1 e2=>B.ok.inj x y a (c.sub x a e1) (c.sub y a e2));have kc:A_ X f i k.objs.size (Ra (k.push {cls:=.type "dict",data:=.dict #[]}) f.names) (Qp (k.objs.size+1) f.names cl):=by
  refine⟨cj,λx a e=>?_,λx a e hf=>?_,λx hx=>?_⟩
  .rcases ck x a e with⟨R,W⟩|⟨R,_,z3⟩;.exact .inl ⟨c.sub x a R,λq=>W (PD q)⟩
   .exact .inr ⟨u,R,z3 _ (OS ..)⟩
  .rcases ck x a e with⟨R,W⟩|⟨_,W,_⟩;.exact c.sub x a R
   .have:=c.cells _ W rfl;rw[hf]at this;cases this
  .have:((Qp (k.objs.size+1) f.names cl).lookup x).isSome=NM:=RI _ _ _ (by
    rcases hx with z|z;.exact .inl z
    .obtain⟨a,e⟩:=(c.has x z).1;exact .inr (by rw[e];rfl));exact Option.isSome_iff_exists.mp this
 have t:(Ra (k.push {cls:=.type "dict",data:=.dict #[]}) f.names).Ns k.objs.size (λ_=>NN):=(Heap.Ns.new k (.type "dict")).keeps (SA _ _);have E:∀b o,k.get? b=NF o->(Ra (k.push {cls:=.type "dict",data:=.dict #[]}) f.names).get? b=NF o:=λb o e=>SA _ _ _ _ (NQ _ e);generalize Ra (k.push {cls:=.type "dict",data:=.dict #[]}) f.names=m at kc t E⊢;generalize Qp (k.objs.size+1) f.names cl=cs at kc⊢;have a5:∀b o,i.heap.get? b=NF o->m.get? b=NF o:=λb o e=>E b o (U▸NQ _ e);have b9:m.get? i.heap.objs.size=NF ob0:=E _ _ (U▸N4 _ (by cases ob0;rename_i c d n sl;cases n<;>first|rfl|exact absurd rfl d6));have K:∀b∈l,b<i.heap.objs.size:=λb hb=>by
  obtain⟨o,e,_⟩:=T.obj _ _ a3 b hb;exact N1 e
 have J0:=mW (own:=own) (fr:=fr) (t':=i.toks) B f2 K c kc hj e4 u a5 t;have oD:HE (dP X pins f (own++fr) cs k.objs.size l i F) i.heap.objs.size:=⟨NZ _,λx a e z=>by
  rcases kc.sub x a e with⟨q,_⟩|⟨q1,q2,_⟩;.exact absurd (a7 x a q) (by rw[z];exact OD _)
  .exact absurd (RK q1 q2) (by rw[z];exact OD _)⟩;have e9:F i.heap.objs.size=NN:=B.aD.fresh (NZ _);have d2:i.heap.objs.size∉gf X.stack:=λz=>by
  rcases List.mem_cons.mp (B.gM _ z)with q|q;.exact absurd B.lt (by rw[<-q];exact OD _)
  .exact B.AJ (NZ _) q
 have M:∀p∈(X.pn++pins)++([]:List (NR×OW)),p.1≠i.heap.objs.size:=λp G z=>by
  rw[Pn]at G;exact absurd (N1 (B.pin p G).1) (by rw[z];exact OD _)
 have J1:Inv (dP X pins f (own++fr) cs k.objs.size l i F) [(i.heap.objs.size,ob0)] (bw σ own.length js) F {i with heap:=m,toks:=i.toks}:=J0.dO λp G=>by
   have G:=List.mem_singleton.mp G;rw[G];exact⟨b9,e9,c0,d2,λv=>e0 a0 ob0 v a6⟩
 have b3:∀b∈l,fu (dP X pins f (own++fr) cs k.objs.size l i F) [(i.heap.objs.size,ob0)] F b:=λb hb=>by
  obtain⟨q0,q1,q2,q3,q4,q5⟩:=f2 b hb;refine⟨q0,V b (K b hb),nX B f2 b hb,.inl hb,λx a e=>?_,λp G=>?_⟩
  .rcases kc.sub x a e with⟨q,_⟩|⟨R,W,_⟩;.exact q4 x a q
   .exact PU (T8 (Od (K b hb) R) W)
  rcases List.mem_append.mp G with z|z;.exact q5 p z
  .have z:=List.mem_singleton.mp z;rw[z];exact OX (Oj (K b hb))
 have a4:tn 0 m:=T.keep _ _ _ a3 λb hb o e=>a5 b o e;have a8:=jL (Y:=dP X pins f (own++fr) cs k.objs.size l i F) (ok:=ok) (D:=i.heap.objs.size) (it:=it) (e:=e) (d:=0) (tg:=tg) (ifs:=ifs) (pos0:=iter.pos) (body:=body i.heap.objs.size (dP X pins f (own++fr) cs k.objs.size l i F).env) S (λ_ _ z=>z) (b6 _ _ _) (a9 _ _ _) (e6 _ _ _) T (hg pins _ _ l i F) (hi pins _ _ l i F) (hb pins _ _ l i F _ oD) J1 M (a:=a0) a6 b3 a4 d0;have c1:codeAny (N2 X.prog X.w) X.A (.compLoop e 0 (.ref it) (.ref i.heap.objs.size) (compEnvC f cs k.objs.size X.env)) (compPost (N2 X.prog X.w) X.A X.xe NN (EP X pins σ Q) (.ref i.heap.objs.size) k.objs.size) {i with heap:=m,toks:=i.toks}:=by
  refine Ro a8 λr s' c3=>?_;obtain⟨a,d1,f1,H',hr,I',b0,q',_⟩:=c3;subst hr;obtain⟨m',e3,_⟩:=I'.loc;refine⟨m',e3,λf0 O=>?_⟩;obtain⟨eD,nD,f3,_,_⟩:=I'.pin _ (Oe _ NV);have c2:=xU B f2 I' u O;refine⟨.ref i.heap.objs.size,upd H' i.heap.objs.size (o a),c2.uf B.sz nD (PU B.lt) (λx a e z=>?_) (λp G=>M p (by rw[Pn];exact G)) (b4 a d1 H' f0 _ b0 ((O.2 _ c0).trans eD) c2.aD),rfl,q' _ nD (beq_eq_false_iff_ne.mpr (OX (Oj B.Dh)))⟩;obtain⟨v,q⟩:=B.cell x a e;exact absurd q.lt (by rw[z];exact OD _)
 exact d3 c1 (T.self _ 0 _ _ _ a4 c1)
theorem uI{X:Cx}{α:Type}{e tg iter:Ob}{ifs:List Ob}{rest:List TH}{f:Qr}{pos:P8}{cl:List (Oo×NR)}{own fr:List Oo}{js:List Nat}{wi:TI}{g:TG}{O:TT}{rd:RB α}{ok:α->OW->Prop}{a0:α}{ob0:OW}{o:α->HO}{newAcc:UG NJ}{body:NR->Uc->UG Unit}(a2:X.calm=NM)(c:IF X f cl)(hj:js.map (λj=>X.N[j]?)=fr.map NF)(g2:∀x∈fr,f.names.lookup x=NF .free)(hw:PI X tg iter wi)(g3:∀u,evalThenUse e X.env u=(do let _<-comprehension e f X.env pos newAcc NP (Qa iter X.env) (NF u)))(d2:clausesOf e=⟨tg,iter,ifs,0⟩::rest)(f3:sN e 0)(c1:∀{Q:NJ->NL->Prop}{s:NL},Q (.ref s.heap.objs.size) {s with heap:=s.heap.push ob0}->wpAny (N2 X.prog X.w) X.A newAcc Q X.xe s)(f9:∀a ob v,ok a ob->ob.data≠.cell v)(b4:ok a0 ob0)(f7:ob0.data≠.freed)(d0:∀it D env,(N2 X.prog X.w).den (.compLoop e 0 (.ref it) (.ref D) env)=(U5 e 0 (.ref it) (.ref D) env).onRaise (λx=>do SO x env;VD x))(b9:∀it D env,X.A.under (.compLoop e 0 (.ref it) (.ref D) env)=X.A)(g4:∀it D env,U5 e 0 (.ref it) (.ref D) env=(do
   SR iter.pos;match<-Rt (.ref it)with
   |none=>pure (.done .next)|some v=>
    Rm tg (.ref it) v;Tt tg env v;let mut ok:=NM;for c in ifs do if ok then ok<-Vg c env (Qa c env)
    if ok then body D env
    Xq (.compLoop e 0 (.ref it) (.ref D) env)))(hg:∀pins cs C n s H,PG (dP X pins f (own++fr) cs C n s H) tg g)(hi:∀pins cs C n s H,we (dP X pins f (own++fr) cs C n s H) ifs O)(hb:∀pins cs C n s H D,HE (dP X pins f (own++fr) cs C n s H) D->Body (dP X pins f (own++fr) cs C n s H) ok D (body D (dP X pins f (own++fr) cs C n s H).env) rd)(c3:∀(a:α)(ob:OW)(H:Hp)(h:Oy)(D:NR),ok a ob->h.get? D=NF ob->iq X.prog X.w H h->be X.prog X.w (upd H D (o a)) h D (o a))(hs:∀x,QX iter X.env x=pure x:=by intro _;rfl):∀(pins:List (NR×OW))(s:NL)(σ:St)(H:Hp)(x:Oo)(p' p2:P8)(gt:TG)(D:Ends),Inv X pins σ H s->Qz e (NF (.Name x p')) p2.line X.env=pure NM->PG X (.Name x p') gt->AN (uG own.length js wi g O rd a0 o) gt D σ H->wpAny (N2 X.prog X.w) X.A (exec (.Assign [.Name x p'] e p2) X.env) (SP X pins D) X.xe s:=by
 intro pins s σ H x p' p2 gt Z I f1 g1 h;rw[exec_Assign_Name_used _ _ _ _ f1];refine NG (Qe ?_);rw[g3];refine NG (NG ?_);refine UY (use:=NF (Tt (.Name x p') X.env)) (Q:=λ_ L=>wpAny (N2 X.prog X.w) X.A (pure XD) (λ_ W=>wpAny (N2 X.prog X.w) X.A (pure W_) (SP X pins Z) X.xe W) X.xe L) d2 hs c.IG c.kind c.names (bo (hw pins s σ H _ I h) λv s1 h1=>bo h1 λh5 i h2=>?_);obtain⟨it,n,tn,J,K,e1,m,T,a9,f2,e4⟩:=h2;subst e1;refine c1 (iH ?_);dsimp only;generalize a3:i.heap.push ob0=k;have hC:k.objs.size=i.heap.objs.size+1:=by rw[<-a3,OS]
 have d6:i.heap.objs.size≠k.objs.size:=by rw[hC];exact Oj (OY _)
 have l:i.heap.objs.size<=k.objs.size:=by rw[hC];exact QQ _
 have a6:∀b,b<i.heap.objs.size->b≠k.objs.size:=λb hb=>by rw[hC];exact Oj (Pu hb)
 have b6:∀x a,X.env.cells.lookup x=NF a->a<i.heap.objs.size:=λx a e=>by
  obtain⟨v,q⟩:=m.cell x a e;exact q.lt
 obtain⟨cj,ck⟩:=iG f.names (k.objs.size+1) cl (λx a e=>Pu (Od (b6 x a (c.sub x a e)) l)) (λx y a e1 e2=>m.ok.inj x y a (c.sub x a e1) (c.sub y a e2));have kc:A_ X f i k.objs.size (Ra (k.push {cls:=.type "dict",data:=.dict #[]}) f.names) (Qp (k.objs.size+1) f.names cl):=by
  refine⟨cj,λx a e=>?_,λx a e hf=>?_,λx hx=>?_⟩
  .rcases ck x a e with⟨V,z2⟩|⟨V,_,z3⟩;.exact .inl ⟨c.sub x a V,λq=>z2 (PD q)⟩
   .exact .inr ⟨l,V,z3 _ (OS ..)⟩
  .rcases ck x a e with⟨V,z2⟩|⟨_,z2,_⟩;.exact c.sub x a V
   .have:=c.cells _ z2 rfl;rw[hf]at this;cases this
  .have:((Qp (k.objs.size+1) f.names cl).lookup x).isSome=NM:=RI _ _ _ (by
    rcases hx with z|z;.exact .inl z
    .obtain⟨a,e⟩:=(c.has x z).1;exact .inr (by rw[e];rfl));exact Option.isSome_iff_exists.mp this
 have F:(Ra (k.push {cls:=.type "dict",data:=.dict #[]}) f.names).Ns k.objs.size (λ_=>NN):=(Heap.Ns.new k (.type "dict")).keeps (SA _ _);have G:∀b o,k.get? b=NF o->(Ra (k.push {cls:=.type "dict",data:=.dict #[]}) f.names).get? b=NF o:=λb o e=>SA _ _ _ _ (NQ _ e);generalize Ra (k.push {cls:=.type "dict",data:=.dict #[]}) f.names=t at kc F G⊢;generalize Qp (k.objs.size+1) f.names cl=cs at kc⊢;have b3:∀b o,i.heap.get? b=NF o->t.get? b=NF o:=λb o e=>G b o (a3▸NQ _ e);have d3:t.get? i.heap.objs.size=NF ob0:=G _ _ (a3▸N4 _ (by cases ob0;rename_i c d B sl;cases B<;>first|rfl|exact absurd rfl f7));have M:∀b∈n,b<i.heap.objs.size:=λb hb=>by
  obtain⟨o,e,_⟩:=T.obj _ _ a9 b hb;exact N1 e
 have J0:=mW (own:=own) (fr:=fr) (t':=i.toks) m f2 M c kc hj g2 l b3 F;have oD:HE (dP X pins f (own++fr) cs k.objs.size n i K) i.heap.objs.size:=⟨NZ _,λx a e z=>by
  rcases kc.sub x a e with⟨q,_⟩|⟨q1,q2,_⟩;.exact absurd (b6 x a q) (by rw[z];exact OD _)
  .exact absurd (RK q1 q2) (by rw[z];exact OD _)⟩;have g5:K i.heap.objs.size=NN:=m.aD.fresh (NZ _);have e9:i.heap.objs.size∉gf X.stack:=λz=>by
  rcases List.mem_cons.mp (m.gM _ z)with q|q;.exact absurd m.lt (by rw[<-q];exact OD _)
  .exact m.AJ (NZ _) q
 have P:∀p∈(X.pn++pins)++([]:List (NR×OW)),p.1≠i.heap.objs.size:=λp E z=>by
  rw[Pn]at E;exact absurd (N1 (m.pin p E).1) (by rw[z];exact OD _)
 have J1:Inv (dP X pins f (own++fr) cs k.objs.size n i K) [(i.heap.objs.size,ob0)] (bw σ own.length js) K {i with heap:=t,toks:=i.toks}:=J0.dO λp E=>by
   have E:=List.mem_singleton.mp E;rw[E];exact⟨d3,g5,d6,e9,λv=>f9 a0 ob0 v b4⟩
 have c2:∀b∈n,fu (dP X pins f (own++fr) cs k.objs.size n i K) [(i.heap.objs.size,ob0)] K b:=λb hb=>by
  obtain⟨q0,q1,q2,q3,q4,q5⟩:=f2 b hb;refine⟨q0,a6 b (M b hb),nX m f2 b hb,.inl hb,λx a e=>?_,λp E=>?_⟩
  .rcases kc.sub x a e with⟨q,_⟩|⟨V,z2,_⟩;.exact q4 x a q
   .exact PU (T8 (Od (M b hb) V) z2)
  rcases List.mem_append.mp E with z|z;.exact q5 p z
  .have z:=List.mem_singleton.mp z;rw[z];exact OX (Oj (M b hb))
 have b0:tn 0 t:=T.keep _ _ _ a9 λb hb o e=>b3 b o e;have b8:=jL (Y:=dP X pins f (own++fr) cs k.objs.size n i K) (ok:=ok) (D:=i.heap.objs.size) (it:=it) (e:=e) (d:=0) (tg:=tg) (ifs:=ifs) (pos0:=iter.pos) (body:=body i.heap.objs.size (dP X pins f (own++fr) cs k.objs.size n i K).env) a2 (λ_ _ z=>z) (d0 _ _ _) (b9 _ _ _) (g4 _ _ _) T (hg pins _ _ n i K) (hi pins _ _ n i K) (hb pins _ _ n i K _ oD) J1 P (a:=a0) b4 c2 b0 e4;have e0:codeAny (N2 X.prog X.w) X.A (.compLoop e 0 (.ref it) (.ref i.heap.objs.size) (compEnvC f cs k.objs.size X.env)) (compPost (N2 X.prog X.w) X.A X.xe (NF (Tt (.Name x p') X.env)) (λ_ L=>wpAny (N2 X.prog X.w) X.A (pure XD) (λ_ W=>wpAny (N2 X.prog X.w) X.A (pure W_) (SP X pins Z) X.xe W) X.xe L) (.ref i.heap.objs.size) k.objs.size) {i with heap:=t,toks:=i.toks}:=by
  refine Ro b8 λr L U=>?_;obtain⟨a,e6,h0,H',hr,I',c0,q',_⟩:=U;subst hr;show wpAny (N2 X.prog X.w) X.A (Tt (.Name x p') X.env (.ref i.heap.objs.size)) _ X.xe L;obtain⟨m',g0,_⟩:=I'.loc;obtain⟨oC,g6,g7,f8,d1,f6⟩:=id g0;have nC:H' k.objs.size=NN:=I'.free;obtain⟨eD,nD,h4,_,_⟩:=I'.pin _ (Oe _ NV);have e3:Inv X pins σ H' L:=Ba m f2 I';have a4:∀y c,X.env.cells.lookup y=NF c->c≠i.heap.objs.size:=λy c e z=>by
   obtain⟨v,q⟩:=m.cell y c e;exact absurd q.lt (by rw[z];exact OD _)
  have a5:∀y c,X.env.cells.lookup y=NF c->c≠k.objs.size:=λy c e z=>by
   obtain⟨v,q⟩:=m.cell y c e;exact absurd (Od q.lt l) (by rw[z];exact OD _)
  have b2:∀p∈X.pn++pins,p.1≠k.objs.size:=λp E z=>absurd (Od (N1 (m.pin p E).1) l) (by rw[z];exact OD _);have R:k.objs.size≠X.env.locals:=PU (Od m.lt l);have f0:k.objs.size∉X.fs:=m.AJ l;have I3:Inv X pins σ (upd H' i.heap.objs.size (o a)) L:=e3.uf m.sz nD (PU m.lt) a4 (λp E=>P p (by rw[Pn];exact E)) (c3 a e6 H' L.heap _ c0 eD e3.aD);have I4:Inv X ((k.objs.size,oC)::pins) σ (upd H' i.heap.objs.size (o a)) L:=I3.dO λp E=>by
   rcases List.mem_cons.mp E with z|z
   .rw[z];exact⟨f8,by rw[ai (OX d6)];exact nC,R,f0,λv q=>by rw[d1]at q;cases q⟩
   .exact I3.pin p (Oe _ z)
  refine bo (g1 _ L σ _ (.ref i.heap.objs.size) (.ref i.heap.objs.size) Z.nx I4 rfl (q' _ nD (beq_eq_false_iff_ne.mpr (OX (Oj m.Dh))))) λ_ s5 U=>?_;obtain⟨a7,H5,I5,q5⟩:=U;obtain⟨e5,n5,_,_,_⟩:=I5.pin (k.objs.size,oC) (Oe _ NV);refine⟨m',⟨oC,g6,g7,e5,d1,f6⟩,λh6 f4=>NO (NO ?_)⟩;have I6:Inv X pins a7 H5 s5:=I5.dO λp E=>I5.pin p (Oe _ (NX _ E));exact⟨a7,H5,I6.turned (t':=s5.toks) (it:=k.objs.size) (λb ob hb e=>(f4.2 b hb).trans e) n5 R (.inr (OC m.sz l)) a5 b2,q5⟩
 exact f3 e0 (T.self _ 0 _ _ _ b0 e0)
theorem fW{e:Ob}{d:Nat}{g:TH}(j:(clausesOf e)[d]?=NF g)(ha:(g.is_async !=0)=NP)(c:∀prog w it a env,(N2 prog w).den (.compStart e d it a env)=(compStart e d it a env).onRaise (λx=>do SO x env;SR theWindowsPlace):=by intros;rfl)(b:∀(A:Ov)it a env,A.under (.compStart e d it a env)=A:=by intros;rfl):sN e d:=by
 intro prog w A R s it a env f h;refine T2 ?_;rw[c,b];refine wpAny_notedAt ?_;unfold compStart;rw[j];simp only[Option.elim,ha,Oh,if_false];refine NG (QF (wpAny_ite ?_));split;.first
   |exact NG (NO (NO (And.intro rfl f)))|exact NO (And.intro rfl f)
 .refine NG (Tu (NG (Qe (NG (O3 h (λi l k=>NO (And.intro rfl k)) λ_ _ x=>x)))))
section
variable{X:Cx}{elt tg iter tg2 iter2:Ob}{ifs ifs2:List Ob}{scope:Qr}{pos:P8}{cl:List (Oo×NR)}{own fr:List Oo}{js:List Nat}{wi wi2:TI}{g g2:TG}{tifs tifs2:TT}{te:TE}
theorem qg{P:N7}{w:Oq}(a:List V)(ob:OW)(H:Hp)(h:Oy)(D:NR)(ok:K3 a ob)(e:h.get? D=NF ob)(_:iq P w H h):be P w (upd H D (.lst a)) h D (.lst a):=by
 obtain⟨d,b,n,c,rfl⟩:=ok;exact⟨d,b,n,c,e⟩
end
mutual
noncomputable def aG(h:Oy):NJ->D->Prop
 |u,.aU=>u=.none|u,.bl b=>u=.bool b|u,.int i=>∃t,u=.int i t|u,.str x=>∃t,u=.str x t|u,.tup d=>∃a c,u=.ref a/\h.IsTuple a c/\aI h c.toList d|u,.lst d=>∃a c,u=.ref a/\h.IsList a c/\aI h c.toList d|u,.aH _ _=>∃a,u=.ref a|u,.exc _ _=>∃a,u=.ref a|u,.aA _=>∃a,u=.ref a
noncomputable def aI(h:Oy):List NJ->List D->Prop
 |us,[]=>us=[]|us,d::a=>∃u r,us=u::r/\aG h u d/\aI h r a
end
theorem aI.length{h:Oy}:∀{us:List NJ}{ds:List D},aI h us ds->us.length=ds.length
 |_,[],q=>by simp only[aI]at q;rw[q];rfl|_,d::ds,q=>by
  simp only[aI]at q;obtain⟨u,r,rfl,_,q⟩:=q;simp[aI.length q]
theorem aI.get{h:Oy}:∀{us:List NJ}{ds:List D}{i:Nat}{u:NJ},aI h us ds->us[i]?=NF u->∃d,ds[i]?=NF d/\aG h u d
 |_,[],_,_,q,e=>by simp only[aI]at q;rw[q]at e;simp at e|_,c::ds,i,u,q,e=>by
  simp only[aI]at q;obtain⟨x,r,rfl,a,q⟩:=q;cases i with
  |zero=>simp at e;subst e;exact⟨c,rfl,a⟩|succ i=>simpa using aI.get (i:=i) q (by simpa using e)
section
variable{X:Cx}{pins:List (NR×OW)}{σ:St}{H:Hp}{s:NL}{B:Fb}
mutual
theorem et(I:Inv X pins σ H s)(hK:X.K=B.K):∀{v:V}{u:NJ}{d:D},RelV v u->Is B H v d->aG s.heap u d
 |_,_,.aU,r,i=>by simp only[Is]at i;subst i;simp only[aG];exact r|_,_,.bl _,r,i=>by simp only[Is]at i;subst i;simp only[aG];exact r|_,_,.int _,r,i=>by simp only[Is]at i;subst i;simp only[aG];exact r|_,_,.str _,r,i=>by simp only[Is]at i;subst i;simp only[aG];exact r|_,_,.tup k,r,i=>by
  simp only[Is]at i;obtain⟨a,h,rfl,g,f⟩:=i;obtain⟨b,c,e,_⟩:=I.tuple (by rw[hK];exact g.2);simp only[aG];exact⟨a,b.toArray,r,e,fX I hK c f⟩|_,_,.lst k,r,i=>by
  simp only[Is]at i;obtain⟨a,h,rfl,g,f⟩:=i;obtain⟨b,c,e,_⟩:=I.list (by rw[hK];exact g.2.sq);simp only[aG];exact⟨a,b.toArray,r,e.isList,fX I hK c f⟩|_,_,.aH _ _,r,i=>by
  simp only[Is]at i;obtain⟨a,h,rfl,_⟩:=i;simp only[aG];exact⟨a,r⟩|_,_,.exc _ _,r,i=>by
  simp only[Is]at i;obtain⟨a,j,rfl,_⟩:=i;simp only[aG];exact⟨a,r⟩|_,_,.aA j,r,i=>by
  simp only[Is]at i;obtain⟨a,rfl,_⟩:=i;simp only[aG];exact⟨a,r⟩
theorem fX(I:Inv X pins σ H s)(hK:X.K=B.K):∀{vs:List V}{us:List NJ}{ds:List D},aq vs us->ae B H vs ds->aI s.heap us ds
 |_,_,[],r,i=>by
  simp only[ae]at i;subst i;cases r;simp only[aI]|_,_,d::ds,r,i=>by
  simp only[ae]at i;obtain⟨x,f,rfl,e,c⟩:=i;cases r with|cons b a=>
   simp only[aI];exact⟨_,_,rfl,et I hK b e,fX I hK a c⟩
end
end
noncomputable def aT(f:D->D->Option Bool):List D->List D->Option Bool
 |x::d,y::c=>match f x y,aT f d c with
  |some a,NF b=>NF (a&&b)|_,_=>NN
 |_,_=>NF NM
noncomputable def bZ:Nat->D->D->Option Bool
 |0=>λ_ _=>NN|n+1=>λd e=>match d,e with
  |.tup f,.tup c=>(aT (bZ n) f c).map λb=>b&&f.length==c.length|.lst f,.lst c=>(aT (bZ n) f c).map λb=>b&&f.length==c.length|.aU,.aU=>NF NM|.bl a,.bl b=>NF (a==b)|.bl a,.int b=>NF ((if a then 1 else 0)==b)|.int a,.bl b=>NF (a==(if b then 1 else 0))|.int a,.int b=>NF (a==b)|.str a,.str b=>NF (a==b)|.aH _ _,_=>NN|.exc _ _,_=>NN|.aA _,_=>NN|_,.aH _ _=>NN|_,.exc _ _=>NN|_,.aA _=>NN|_,_=>NF NP
theorem cZ{f:D->D->Option Bool}:∀{xs d:List D}{b:Bool},aT f xs d=NF b->(∀(j:Nat)(x y:D),xs[j]?=NF x->d[j]?=NF y->∃c,f x y=NF c)/\∀g:Nat->Bool,(∀(j:Nat)(x y:D),xs[j]?=NF x->d[j]?=NF y->f x y=NF (g j))->(OJ (min xs.length d.length)).all g=b
 |[],d,b,h=>by cases d<;>(simp[aT]at h;subst h;exact⟨λj x y e=>absurd e (by simp),λg _=>(by simp)⟩)|x::xs,[],b,h=>by
  simp[aT]at h;subst h;exact⟨λj x y e i=>by simp at i,λg _=>by simp⟩|x::xs,y::d,b,h=>by
  simp only[aT]at h;cases k:f x y with
  |none=>rw[k]at h;simp at h|some a=>cases n:aT f xs d with
   |none=>rw[k,n]at h;simp at h|some c=>
    rw[k,n]at h;simp only[Pw]at h;obtain⟨q,p⟩:=cZ n;refine⟨λj m l e i=>?_,λg o=>?_⟩;.cases j with
     |zero=>simp at e i;subst e i;exact⟨a,k⟩|succ j=>exact q j m l (by simpa using e) (by simpa using i)
    .have s:g 0=a:=by
      have:=o 0 x y rfl rfl;rw[k]at this;exact(NU this).symm
     have r:=p (λj=>g (j+1)) λj m l e i=>o (j+1) m l (by simpa using e) (by simpa using i);rw[<-h,<-r,<-s];have:min (x::xs).length (y::d).length=min xs.length d.length+1:=by simp only[Ol];omega
     rw[this,List.range_succ_eq_map,Q9,List.all_map];rfl
theorem jQ{h:Oy}{a:NR}{its its':Array NJ}(p:h.IsTuple a its)(q:h.IsTuple a its'):its=its':=by
 obtain⟨o,e,c,n,d⟩:=p;obtain⟨g,b,j,i,f⟩:=q;rw[e]at b;cases b;rw[d]at f;cases f;rfl
theorem ll{h:Oy}{a:NR}{its its':Array NJ}(p:h.IsList a its)(q:h.IsList a its'):its=its':=by
 obtain⟨o,e,c,n,d⟩:=p;obtain⟨g,b,j,i,f⟩:=q;rw[e]at b;cases b;rw[d]at f;cases f;rfl
theorem uJ{h:Oy}{a:NR}{its its':Array NJ}(p:h.IsList a its)(q:h.IsTuple a its'):False:=by
 obtain⟨o,e,c,n,d⟩:=p;obtain⟨g,b,f,i,j⟩:=q;rw[e]at b;cases b;rw[c]at f;exact absurd (Value.type.inj f) (by decide)
theorem lq{h:Oy}:∀(n:Nat){u:NJ}{d e:D}{b:Bool},aG h u d->aG h u e->bZ n d e=NF b->b=NM
  |0,_,_,_,_,_,_,q=>by cases q|n+1,u,d,e,b,p,g,q=>by
    have step:∀{its:List NJ}{xs l:List D}{c:Bool},aI h its xs->aI h its l->aT (bZ n) xs l=NF c->(c&&xs.length==l.length)=NM:=λ{its xs l c}o s k=>by
      obtain⟨G,F⟩:=cZ k;have:=F (λ_=>NM) λj x y ex B=>by
        obtain⟨z,v⟩:=G j x y ex B;have A:j<its.length:=by rw[o.length];exact(List.getElem?_eq_some_iff.mp ex).1
        obtain⟨L,E,I⟩:=o.get (Oc A);obtain⟨K,C,H⟩:=s.get (Oc A);rw[ex]at E;rw[B]at C;cases E;cases C;rw[v,lq n I H v]
      rw[<-this,<-o.length,<-s.length];simp
    cases d<;>first
      |exact nomatch(show(NN:Option Bool)=NF b from q)|(cases e<;>first
          |exact nomatch(show(NN:Option Bool)=NF b from q)
          | (simp only[aG]at p g;first
               | (exfalso;(first|(obtain⟨_,rfl⟩:=p)|(obtain⟨_,_,rfl,_⟩:=p)|subst p)<;>(first|(obtain⟨_,z⟩:=g;cases z;done)|(obtain⟨_,_,z,_⟩:=g;cases z;done)|(cases g;done)))|(subst p;cases g;have q:=NU (show NF _=NF b from q);rw[<-q];try simp;done)|(obtain⟨t,rfl⟩:=p;obtain⟨J,z⟩:=g;cases z;have q:=NU (show NF _=NF b from q);rw[<-q];try simp;done)|skip))
    all_goals
      obtain⟨a,its,rfl,m,w⟩:=p;obtain⟨M,r,z,f,i⟩:=g;cases z
    · obtain rfl:=jQ m f;obtain⟨c,k,rfl⟩:=Option.map_eq_some_iff.mp (show(aT (bZ n) _ _).map _=NF b from q);exact step w i k
    ·exact(uJ f m).elim
    ·exact(uJ m f).elim
    · obtain rfl:=ll m f;obtain⟨c,k,rfl⟩:=Option.map_eq_some_iff.mp (show(aT (bZ n) _ _).map _=NF b from q);exact step w i k
theorem m9{h:Oy}{n:Nat}{its its':Array NJ}{xs a:List D}{b:Bool}{A:Ov}{s:NL}(l:aI s.heap its.toList xs)(f:aI s.heap its'.toList a)(q:(aT (bZ n) xs a).map (λb=>b&&xs.length==a.length)=NF b)(C:∀{u v:NJ}{d e:D}{c:Bool},aG s.heap u d->aG s.heap v e->bZ n d e=NF c->Ru A s u v c):∃e:Nat->Bool,(∀j(o:j<its.size)(m:j<its'.size),Ru A s its[j] its'[j] (e j))/\((OJ (min its.size its'.size)).all e&&its.size==its'.size)=b:=by
 simp only[Vw]at q;obtain⟨c,F,rfl⟩:=q;obtain⟨t,r⟩:=cZ F;have B:its.size=xs.length:=by have:=l.length;simpa using this
 have w:its'.size=a.length:=by have:=f.length;simpa using this
 have all:∀j:Nat,∃g:Bool,∀(x y:D),xs[j]?=NF x->a[j]?=NF y->bZ n x y=NF g:=λj=>by cases hx:xs[j]? with
  |none=>exact⟨NM,λx y z=>nomatch z⟩|some x=>cases hy:a[j]? with
   |none=>exact⟨NM,λx y _ z=>nomatch z⟩|some y=>
    obtain⟨g,k⟩:=t j x y hx hy;exact⟨g,λJ I z p=>by cases z;cases p;exact k⟩
 obtain⟨g,k⟩:∃g:Nat->Bool,∀(j:Nat)(x y:D),xs[j]?=NF x->a[j]?=NF y->bZ n x y=NF (g j):=⟨λj=>(all j).choose,λj=>(all j).choose_spec⟩;refine⟨g,λj o m=>?_,?_⟩
 .obtain⟨d,hd,H⟩:=l.get (i:=j) (u:=its[j]) (by simp[o]);obtain⟨e,E,G⟩:=f.get (i:=j) (u:=its'[j]) (by simp[m]);exact C H G (k j d e hd E)
 .rw[B,w,r g k]
theorem FA{n:Nat}{A:Ov}{s:NL}{a1 k:NR}{f a:Array NJ}{xs p:List D}{b:Bool}(o:aI s.heap f.toList xs)(m:aI s.heap a.toList p)(j:s.heap.IsTuple a1 f)(i:s.heap.IsTuple k a)(l:A.units<Pj)(q:bZ (n+1) (.tup xs) (.tup p)=NF b)(y:∀{u v:NJ}{d e:D}{c:Bool},aG s.heap u d->aG s.heap v e->bZ n d e=NF c->Ru A.in1 s u v c):Vx A s (.ref a1) (.ref k) b/\Ua A s (.ref a1) (.ref k) (!b)/\Ru A s (.ref a1) (.ref k) b:=by
 obtain⟨g,w,hb⟩:=m9 (h:=s.heap) o m q y;have r:Vx A s (.ref a1) (.ref k) b:=hb▸SeqAt.RcAt.tuples j i l w;have x:Ua A s (.ref a1) (.ref k) (!b):=hb▸SeqAt.RcNeAt.tuples j i l w;refine⟨r,x,?_⟩;by_cases t:a1=k
 .subst t;have:b=NM:=lq (h:=s.heap) (n+1) (u:=.ref a1) (by simp only[aG];exact⟨a1,f,rfl,j,o⟩) (by simp only[aG];exact⟨a1,a,rfl,i,m⟩) q;subst this;exact .same _
 .exact .of_refs t r
theorem FC{n:Nat}{A:Ov}{s:NL}{a1 m:NR}{a f:Array NJ}{xs w:List D}{b:Bool}(r:aI s.heap a.toList xs)(p:aI s.heap f.toList w)(j:s.heap.IsList a1 a)(i:s.heap.IsList m f)(k:A.units<Pj)(q:bZ (n+1) (.lst xs) (.lst w)=NF b)(C:∀{u v:NJ}{d e:D}{c:Bool},aG s.heap u d->aG s.heap v e->bZ n d e=NF c->Ru A.in1 s u v c):Vx A s (.ref a1) (.ref m) b/\Ua A s (.ref a1) (.ref m) (!b)/\Ru A s (.ref a1) (.ref m) b:=by
 obtain⟨g,z,hb⟩:=m9 (h:=s.heap) r p q C;have t:Vx A s (.ref a1) (.ref m) b/\Ua A s (.ref a1) (.ref m) (!b):=by
  by_cases o:a.size=f.size
  .have l:(OJ a.size).all g=b:=by rw[<-o]at hb;simpa using hb
   exact⟨l▸SeqAt.RcAt.lists j i o k z,l▸SeqAt.RcNeAt.lists j i o k z⟩
  .have l:b=NP:=by rw[<-hb];simp[o]
   subst l;exact⟨SeqAt.RcAt.lists_lengths j i (by simpa using o) k,SeqAt.RcNeAt.lists_lengths j i (by simpa using o) k⟩
 obtain⟨x,B⟩:=t;refine⟨x,B,?_⟩;by_cases y:a1=m
 .subst y;have:b=NM:=lq (h:=s.heap) (n+1) (u:=.ref a1) (by simp only[aG];exact⟨a1,a,rfl,j,r⟩) (by simp only[aG];exact⟨a1,f,rfl,i,p⟩) q;subst this;exact .same _
 .exact .of_refs y x
theorem ju:∀(n:Nat){A:Ov}{s:NL}{u v:NJ}{d e:D}{b:Bool},aG s.heap u d->aG s.heap v e->A.units+n<Pj->bZ n d e=NF b->Vx A s u v b/\Ua A s u v (!b)/\Ru A s u v b
 |0,_,_,_,_,_,_,_,_,_,_,q=>by cases q|n+1,A,s,u,v,d,e,b,p,i,hu,q=>by
  have a:A.units<Pj:=by omega
  have H:∀{u v:NJ}{d e:D}{c:Bool},aG s.heap u d->aG s.heap v e->bZ n d e=NF c->Ru A.in1 s u v c:=λK E J=>(ju n K E (by rw[RF];omega) J).2.2;have G:=q;cases d with
  |aU=>cases e with
   |aU=>
    simp only[aG]at p i;subst p;subst i;have q:=NU (show NF _=NF b from q);subst q;exact⟨SeqAt.RcAt.none_none,SeqAt.RcNeAt.none_none,SeqAt.EqAt.same _⟩|bl y=>
    simp only[aG]at p i;subst p;subst i;have q:=NU (show NF _=NF b from q);subst q;exact⟨SeqAt.RcAt.none_bool _,SeqAt.RcNeAt.none_bool _,SeqAt.EqAt.none_bool _⟩|int y=>
    simp only[aG]at p i;subst p;obtain⟨t,rfl⟩:=i;have q:=NU (show NF _=NF b from q);subst q;exact⟨SeqAt.RcAt.none_int _ _,SeqAt.RcNeAt.none_int _ _,SeqAt.EqAt.none_int _ _⟩|str y=>
    simp only[aG]at p i;subst p;obtain⟨t,rfl⟩:=i;have q:=NU (show NF _=NF b from q);subst q;exact⟨SeqAt.RcAt.none_str _ _,SeqAt.RcNeAt.none_str _ _,SeqAt.EqAt.none_str _ _⟩|tup o=>
    simp only[aG]at p i;subst p;obtain⟨C,j,rfl,g,l⟩:=i;have q:=NU (show NF _=NF b from q);subst q;exact⟨SeqAt.RcAt.none_tuple g a,SeqAt.RcNeAt.none_tuple g a,SeqAt.EqAt.none_tuple g a⟩|lst o=>
    simp only[aG]at p i;subst p;obtain⟨C,j,rfl,g,l⟩:=i;have q:=NU (show NF _=NF b from q);subst q;exact⟨SeqAt.RcAt.none_list g a,SeqAt.RcNeAt.none_list g a,SeqAt.EqAt.none_list g a⟩|aH z r=>exact nomatch(show(NN:Option Bool)=NF b from q)|exc E B=>exact nomatch(show(NN:Option Bool)=NF b from q)|aA F=>exact nomatch(show(NN:Option Bool)=NF b from q)
  |bl x=>cases e with
   |aU=>
    simp only[aG]at p i;subst p;subst i;have q:=NU (show NF _=NF b from q);subst q;exact⟨SeqAt.RcAt.bool_none _,SeqAt.RcNeAt.bool_none _,SeqAt.EqAt.bool_none _⟩|bl y=>
    simp only[aG]at p i;subst p;subst i;have q:=NU (show NF _=NF b from q);subst q;exact⟨SeqAt.RcAt.bool_bool _ _,SeqAt.RcNeAt.bool_bool _ _,SeqAt.EqAt.bool_bool _ _⟩|int y=>
    simp only[aG]at p i;subst p;obtain⟨t,rfl⟩:=i;have q:=NU (show NF _=NF b from q);subst q;exact⟨SeqAt.RcAt.bool_int _ _ _,SeqAt.RcNeAt.bool_int _ _ _,SeqAt.EqAt.bool_int _ _ _⟩|str y=>
    simp only[aG]at p i;subst p;obtain⟨t,rfl⟩:=i;have q:=NU (show NF _=NF b from q);subst q;exact⟨SeqAt.RcAt.bool_str _ _ _,SeqAt.RcNeAt.bool_str _ _ _,SeqAt.EqAt.bool_str _ _ _⟩|tup o=>
    simp only[aG]at p i;subst p;obtain⟨C,j,rfl,g,l⟩:=i;have q:=NU (show NF _=NF b from q);subst q;exact⟨SeqAt.RcAt.bool_tuple _ g a,SeqAt.RcNeAt.bool_tuple _ g a,SeqAt.EqAt.bool_tuple _ g a⟩|lst o=>
    simp only[aG]at p i;subst p;obtain⟨C,j,rfl,g,l⟩:=i;have q:=NU (show NF _=NF b from q);subst q;exact⟨SeqAt.RcAt.bool_list _ g a,SeqAt.RcNeAt.bool_list _ g a,SeqAt.EqAt.bool_list _ g a⟩|aH z r=>exact nomatch(show(NN:Option Bool)=NF b from q)|exc E B=>exact nomatch(show(NN:Option Bool)=NF b from q)|aA F=>exact nomatch(show(NN:Option Bool)=NF b from q)
  |int x=>cases e with
   |aU=>
    simp only[aG]at p i;obtain⟨w,rfl⟩:=p;subst i;have q:=NU (show NF _=NF b from q);subst q;exact⟨SeqAt.RcAt.int_none _ _,SeqAt.RcNeAt.int_none _ _,SeqAt.EqAt.int_none _ _⟩|bl y=>
    simp only[aG]at p i;obtain⟨w,rfl⟩:=p;subst i;have q:=NU (show NF _=NF b from q);subst q;exact⟨SeqAt.RcAt.int_bool _ _ _,SeqAt.RcNeAt.int_bool _ _ _,SeqAt.EqAt.int_bool _ _ _⟩|int y=>
    simp only[aG]at p i;obtain⟨w,rfl⟩:=p;obtain⟨t,rfl⟩:=i;have q:=NU (show NF _=NF b from q);subst q;exact⟨SeqAt.RcAt.int_int _ _ _ _,SeqAt.RcNeAt.int_int _ _ _ _,WB _ _ _ _⟩|str y=>
    simp only[aG]at p i;obtain⟨w,rfl⟩:=p;obtain⟨t,rfl⟩:=i;have q:=NU (show NF _=NF b from q);subst q;exact⟨SeqAt.RcAt.int_str _ _ _ _,SeqAt.RcNeAt.int_str _ _ _ _,Wu _ _ _ _⟩|tup o=>
    simp only[aG]at p i;obtain⟨w,rfl⟩:=p;obtain⟨C,j,rfl,g,l⟩:=i;have q:=NU (show NF _=NF b from q);subst q;exact⟨SeqAt.RcAt.int_tuple _ _ g a,SeqAt.RcNeAt.int_tuple _ _ g a,VZ _ _ g a⟩|lst o=>
    simp only[aG]at p i;obtain⟨w,rfl⟩:=p;obtain⟨C,j,rfl,g,l⟩:=i;have q:=NU (show NF _=NF b from q);subst q;exact⟨SeqAt.RcAt.int_list _ _ g a,SeqAt.RcNeAt.int_list _ _ g a,SeqAt.EqAt.int_list _ _ g a⟩|aH z r=>exact nomatch(show(NN:Option Bool)=NF b from q)|exc E B=>exact nomatch(show(NN:Option Bool)=NF b from q)|aA F=>exact nomatch(show(NN:Option Bool)=NF b from q)
  |str x=>cases e with
   |aU=>
    simp only[aG]at p i;obtain⟨w,rfl⟩:=p;subst i;have q:=NU (show NF _=NF b from q);subst q;exact⟨SeqAt.RcAt.str_none _ _,SeqAt.RcNeAt.str_none _ _,SeqAt.EqAt.str_none _ _⟩|bl y=>
    simp only[aG]at p i;obtain⟨w,rfl⟩:=p;subst i;have q:=NU (show NF _=NF b from q);subst q;exact⟨SeqAt.RcAt.str_bool _ _ _,SeqAt.RcNeAt.str_bool _ _ _,SeqAt.EqAt.str_bool _ _ _⟩|int y=>
    simp only[aG]at p i;obtain⟨w,rfl⟩:=p;obtain⟨t,rfl⟩:=i;have q:=NU (show NF _=NF b from q);subst q;exact⟨SeqAt.RcAt.str_int _ _ _ _,SeqAt.RcNeAt.str_int _ _ _ _,Wv _ _ _ _⟩|str y=>
    simp only[aG]at p i;obtain⟨w,rfl⟩:=p;obtain⟨t,rfl⟩:=i;have q:=NU (show NF _=NF b from q);subst q;exact⟨SeqAt.RcAt.str_str _ _ _ _,SeqAt.RcNeAt.str_str _ _ _ _,SeqAt.EqAt.str_str _ _ _ _⟩|tup o=>
    simp only[aG]at p i;obtain⟨w,rfl⟩:=p;obtain⟨C,j,rfl,g,l⟩:=i;have q:=NU (show NF _=NF b from q);subst q;exact⟨SeqAt.RcAt.str_tuple _ _ g a,SeqAt.RcNeAt.str_tuple _ _ g a,V0 _ _ g a⟩|lst o=>
    simp only[aG]at p i;obtain⟨w,rfl⟩:=p;obtain⟨C,j,rfl,g,l⟩:=i;have q:=NU (show NF _=NF b from q);subst q;exact⟨SeqAt.RcAt.str_list _ _ g a,SeqAt.RcNeAt.str_list _ _ g a,SeqAt.EqAt.str_list _ _ g a⟩|aH z r=>exact nomatch(show(NN:Option Bool)=NF b from q)|exc E B=>exact nomatch(show(NN:Option Bool)=NF b from q)|aA F=>exact nomatch(show(NN:Option Bool)=NF b from q)
  |tup I=>cases e with
   |aU=>
    simp only[aG]at p i;obtain⟨a1,k,rfl,h,m⟩:=p;subst i;have q:=NU (show NF _=NF b from q);subst q;exact⟨SeqAt.RcAt.tuple_none h a,SeqAt.RcNeAt.tuple_none h a,SeqAt.EqAt.tuple_none h a⟩|bl y=>
    simp only[aG]at p i;obtain⟨a1,k,rfl,h,m⟩:=p;subst i;have q:=NU (show NF _=NF b from q);subst q;exact⟨SeqAt.RcAt.tuple_bool _ h a,SeqAt.RcNeAt.tuple_bool _ h a,SeqAt.EqAt.tuple_bool _ h a⟩|int y=>
    simp only[aG]at p i;obtain⟨a1,k,rfl,h,m⟩:=p;obtain⟨t,rfl⟩:=i;have q:=NU (show NF _=NF b from q);subst q;exact⟨SeqAt.RcAt.tuple_int _ _ h a,SeqAt.RcNeAt.tuple_int _ _ h a,V1 _ _ h a⟩|str y=>
    simp only[aG]at p i;obtain⟨a1,k,rfl,h,m⟩:=p;obtain⟨t,rfl⟩:=i;have q:=NU (show NF _=NF b from q);subst q;exact⟨SeqAt.RcAt.tuple_str _ _ h a,SeqAt.RcNeAt.tuple_str _ _ h a,V2 _ _ h a⟩|tup o=>
    simp only[aG]at p i;obtain⟨a1,k,rfl,h,m⟩:=p;obtain⟨C,j,rfl,g,l⟩:=i;exact FA m l h g a G H|lst o=>
    simp only[aG]at p i;obtain⟨a1,k,rfl,h,m⟩:=p;obtain⟨C,j,rfl,g,l⟩:=i;have q:=NU (show NF _=NF b from q);subst q;exact⟨SeqAt.RcAt.tuple_list h g a,SeqAt.RcNeAt.tuple_list h g a,SeqAt.EqAt.tuple_list h g a⟩|aH z r=>exact nomatch(show(NN:Option Bool)=NF b from q)|exc E B=>exact nomatch(show(NN:Option Bool)=NF b from q)|aA F=>exact nomatch(show(NN:Option Bool)=NF b from q)
  |lst I=>cases e with
   |aU=>
    simp only[aG]at p i;obtain⟨a1,k,rfl,h,m⟩:=p;subst i;have q:=NU (show NF _=NF b from q);subst q;exact⟨SeqAt.RcAt.list_none h a,SeqAt.RcNeAt.list_none h a,SeqAt.EqAt.list_none h a⟩|bl y=>
    simp only[aG]at p i;obtain⟨a1,k,rfl,h,m⟩:=p;subst i;have q:=NU (show NF _=NF b from q);subst q;exact⟨SeqAt.RcAt.list_bool _ h a,SeqAt.RcNeAt.list_bool _ h a,SeqAt.EqAt.list_bool _ h a⟩|int y=>
    simp only[aG]at p i;obtain⟨a1,k,rfl,h,m⟩:=p;obtain⟨t,rfl⟩:=i;have q:=NU (show NF _=NF b from q);subst q;exact⟨SeqAt.RcAt.list_int _ _ h a,SeqAt.RcNeAt.list_int _ _ h a,SeqAt.EqAt.list_int _ _ h a⟩|str y=>
    simp only[aG]at p i;obtain⟨a1,k,rfl,h,m⟩:=p;obtain⟨t,rfl⟩:=i;have q:=NU (show NF _=NF b from q);subst q;exact⟨SeqAt.RcAt.list_str _ _ h a,SeqAt.RcNeAt.list_str _ _ h a,SeqAt.EqAt.list_str _ _ h a⟩|tup o=>
    simp only[aG]at p i;obtain⟨a1,k,rfl,h,m⟩:=p;obtain⟨C,j,rfl,g,l⟩:=i;have q:=NU (show NF _=NF b from q);subst q;exact⟨SeqAt.RcAt.list_tuple h g a,SeqAt.RcNeAt.list_tuple h g a,SeqAt.EqAt.list_tuple h g a⟩|lst o=>
    simp only[aG]at p i;obtain⟨a1,k,rfl,h,m⟩:=p;obtain⟨C,j,rfl,g,l⟩:=i;exact FC m l h g a G H|aH z r=>exact nomatch(show(NN:Option Bool)=NF b from q)|exc E B=>exact nomatch(show(NN:Option Bool)=NF b from q)|aA F=>exact nomatch(show(NN:Option Bool)=NF b from q)
  |aH ks L=>exact nomatch(show(NN:Option Bool)=NF b from q)|exc c M=>exact nomatch(show(NN:Option Bool)=NF b from q)|aA f=>exact nomatch(show(NN:Option Bool)=NF b from q)
theorem lr{h:Oy}{n:Nat}{its:List NJ}{xs f e:List D}{a b:Bool}(p:aI h its xs)(v:aI h its f)(q:aT (bZ n) xs e=NF a)(H:aT (bZ n) f e=NF b)(L:∀{u:NJ}{d d' x:D}{a b:Bool},aG h u d->aG h u d'->bZ n d x=NF a->bZ n d' x=NF b->a=b):(a&&xs.length==e.length)=(b&&f.length==e.length):=by
 obtain⟨t,I⟩:=cZ q;obtain⟨o,m⟩:=cZ H;have A:xs.length=f.length:=p.length.symm.trans v.length;have same:∀j x y z,xs[j]?=NF x->f[j]?=NF y->e[j]?=NF z->bZ n x z=bZ n y z:=λj x y z s k i=>by
  obtain⟨S,C⟩:=t j x z s i;obtain⟨R,B⟩:=o j y z k i;have c:j<its.length:=by rw[p.length];exact(List.getElem?_eq_some_iff.mp s).1
  obtain⟨Q,F,K⟩:=p.get (Oc c);obtain⟨P,E,J⟩:=v.get (Oc c);rw[s]at F;rw[k]at E;cases F;cases E;rw[C,B,L K J C B]
 have all:∀j:Nat,∃g:Bool,∀(x z:D),xs[j]?=NF x->e[j]?=NF z->bZ n x z=NF g:=λj=>by cases hx:xs[j]? with
  |none=>exact⟨NM,λx y z=>nomatch z⟩|some x=>cases M:e[j]? with
   |none=>exact⟨NM,λx y _ z=>nomatch z⟩|some z=>
    obtain⟨g,l⟩:=t j x z hx M;exact⟨g,λO N w G=>by cases w;cases G;exact l⟩
 obtain⟨g,l⟩:∃g:Nat->Bool,∀(j:Nat)(x z:D),xs[j]?=NF x->e[j]?=NF z->bZ n x z=NF (g j):=⟨λj=>(all j).choose,λj=>(all j).choose_spec⟩;have r:∀(j:Nat)(y z:D),f[j]?=NF y->e[j]?=NF z->bZ n y z=NF (g j):=λj y z k i=>by
  have c:j<xs.length:=by rw[A];exact(List.getElem?_eq_some_iff.mp k).1
  rw[<-same j xs[j] y z (Oc c) k i];exact l j _ z (Oc c) i
 rw[<-I g l,<-m g r,A]
theorem ls{h:Oy}:∀(n:Nat){u:NJ}{d d' x:D}{a b:Bool},aG h u d->aG h u d'->bZ n d x=NF a->bZ n d' x=NF b->a=b
  |0,_,_,_,_,_,_,_,_,q,_=>by cases q|n+1,u,d,d',x,a,b,p,g,q,e=>by
    cases d<;>first
      |exact nomatch(show(NN:Option Bool)=NF a from q)|(cases d'<;>first
          |exact nomatch(show(NN:Option Bool)=NF b from e)
          | (simp only[aG]at p g;first
               | (exfalso;(first|(obtain⟨_,rfl⟩:=p)|(obtain⟨_,_,rfl,_⟩:=p)|subst p)<;>(first|(obtain⟨_,z⟩:=g;cases z;done)|(obtain⟨_,_,z,_⟩:=g;cases z;done)|(cases g;done)))|(subst p;cases g;rw[q]at e;exact NU e)|(obtain⟨t,rfl⟩:=p;obtain⟨t',z⟩:=g;cases z;rw[q]at e;exact NU e)|skip))
    all_goals
      obtain⟨a1,its,rfl,k,w⟩:=p;obtain⟨B,v,z,f,j⟩:=g;cases z
    · obtain rfl:=jQ k f;cases x with
      |tup y=>
        obtain⟨c,o,rfl⟩:=Option.map_eq_some_iff.mp (show(aT (bZ n) _ _).map _=NF a from q);obtain⟨A,i,rfl⟩:=Option.map_eq_some_iff.mp (show(aT (bZ n) _ _).map _=NF b from e);exact lr w j o i λm l s r=>ls n m l s r|aH _ _=>exact nomatch(show(NN:Option Bool)=NF a from q)|exc _ _=>exact nomatch(show(NN:Option Bool)=NF a from q)|aA _=>exact nomatch(show(NN:Option Bool)=NF a from q)|_=>exact(NU (show NF NP=NF a from q)).symm.trans (NU (show NF NP=NF b from e))
    ·exact(uJ f k).elim
    ·exact(uJ k f).elim
    · obtain rfl:=ll k f;cases x with
      |lst y=>
        obtain⟨c,o,rfl⟩:=Option.map_eq_some_iff.mp (show(aT (bZ n) _ _).map _=NF a from q);obtain⟨A,i,rfl⟩:=Option.map_eq_some_iff.mp (show(aT (bZ n) _ _).map _=NF b from e);exact lr w j o i λm l s r=>ls n m l s r|aH _ _=>exact nomatch(show(NN:Option Bool)=NF a from q)|exc _ _=>exact nomatch(show(NN:Option Bool)=NF a from q)|aA _=>exact nomatch(show(NN:Option Bool)=NF a from q)|_=>exact(NU (show NF NP=NF a from q)).symm.trans (NU (show NF NP=NF b from e))
noncomputable def aJ:Nat:=60
noncomputable def Nf:D->D->M D:=λd e=>do
 let b<-M.get (bZ aJ d e)pure (.bl b)
noncomputable def Ng:D->D->M D:=λd e=>do
 let b<-M.get (bZ aJ d e)pure (.bl (!b))
noncomputable def gW(x:D):List D->Option Bool
 |[]=>NF NP|y::c=>match bZ 50 y x,gW x c with
  |some a,NF b=>NF (a||b)|_,_=>NN
noncomputable def MR(neg:Bool):D->D->M D:=λd e=>do
 let a<-M.get (items e)let b<-M.get (gW d a)pure (.bl (if neg then !b else b))
section
variable{X:Cx}{F:Fx}
theorem I_(hu:X.A.units+64<Pj):ji X F (O6 .Eq) Nf:=⟨λa s g H k x y v u d e Q I rx ry l hK f c q=>by
 obtain⟨b,hb,q⟩:=M.run_get.mp q;exact EqBoolInt.of_rc (ju aJ (et I hK rx f) (et I hK ry c) (by unfold aJ;omega) hb).1 ⟨.bl b,H,I,rfl,q _ H .refl (by simp only[Is])⟩⟩
theorem Ja(hu:X.A.units+64<Pj):ji X F (O6 .NotEq) Ng:=⟨λa s g H k x y v u d e Q I rx ry l hK f c q=>by
 obtain⟨b,hb,q⟩:=M.run_get.mp q;exact EqBoolInt.of_rcne (ju aJ (et I hK rx f) (et I hK ry c) (by unfold aJ;omega) hb).2.1 ⟨.bl (!b),H,I,rfl,q _ H .refl (by simp only[Is])⟩⟩
theorem qh{x:D}:∀{g:List D}{b:Bool},gW x g=NF b->(∀y∈g,∃c,bZ 50 y x=NF c)/\(b=NM↔∃y∈g,bZ 50 y x=NF NM)
 |[],b,h=>by
  simp only[gW,Pw]at h;subst h;exact⟨λy hy=>(nomatch hy),⟨λz=>(nomatch z),λ⟨y,hy,_⟩=>(nomatch hy)⟩⟩|y::g,b,h=>by
  simp only[gW]at h;cases f:bZ 50 y x with
  |none=>rw[f]at h;simp at h|some a=>cases k:gW x g with
   |none=>rw[f,k]at h;simp at h|some c=>
    rw[f,k]at h;simp only[Pw]at h;obtain⟨m,l⟩:=qh k;refine⟨λz j=>?_,?_⟩
    .rcases List.mem_cons.mp j with rfl|j;.exact⟨a,f⟩
     .exact m z j
    .rw[<-h,PR,l];constructor
     .rintro(z|⟨i,d,e⟩);.exact⟨y,NV,by rw[f,z]⟩
      .exact⟨i,NX _ d,e⟩
     .rintro⟨i,d,e⟩;rcases List.mem_cons.mp d with rfl|d;.rw[f]at e;exact .inl (NU e)
      .exact .inr ⟨i,d,e⟩
theorem iN{s:NL}{A:Ov}{its:Array NJ}{a:List D}{x:D}{v:NJ}{b:Bool}(n:aI s.heap its.toList a)(hx:aG s.heap v x)(hu:A.units+51<Pj)(q:gW x a=NF b):∃e:NJ->Bool,(∀y,y∈its->Ru A.in1 s y v (e y))/\its.any e=b:=by classical
 obtain⟨t,r⟩:=qh q;refine⟨λu=>decide (∃y∈a,aG s.heap u y/\bZ 50 y x=NF NM),λu m=>?_,?_⟩
 .obtain⟨i,g,rfl⟩:=Array.mem_iff_getElem.mp m;obtain⟨y,hy,j⟩:=n.get (i:=i) (u:=its[i]) (by simp[g]);obtain⟨c,o⟩:=t y (OH hy);have:decide (∃y∈a,aG s.heap its[i] y/\bZ 50 y x=NF NM)=c:=by cases c with
   |true=>exact decide_eq_true ⟨y,OH hy,j,o⟩|false=>
    refine decide_eq_false λl=>?_;obtain⟨p,_,k,e⟩:=l;have:=ls 50 j k o e;cases this
  show Ru A.in1 s its[i] v (decide (∃y∈a,aG s.heap its[i] y/\bZ 50 y x=NF NM));rw[this];exact(ju 50 j hx (by rw[RF];omega+splitNatSub) o).2.2
 .have key:its.any (λu=>decide (∃y∈a,aG s.heap u y/\bZ 50 y x=NF NM))=NM↔b=NM:=by
   rw[r,Array.any_eq_true];constructor
   .rintro⟨i,g,h⟩;obtain⟨y,hy,_,e⟩:=of_decide_eq_true h;exact⟨y,hy,e⟩
   .rintro⟨y,hy,e⟩;obtain⟨i,g⟩:=List.mem_iff_getElem?.mp hy;have f:i<its.size:=by have:=n.length;have:=(List.getElem?_eq_some_iff.mp g).1;simp at*;omega+splitNatSub
    refine⟨i,f,decide_eq_true ⟨y,hy,?_,e⟩⟩;obtain⟨p,d,j⟩:=n.get (i:=i) (u:=its[i]) (by simp[f]);rw[g]at d;cases d;exact j
  cases b with
  |true=>exact key.mpr rfl|false=>cases hb:its.any (λu=>decide (∃y∈a,aG s.heap u y/\bZ 50 y x=NF NM))with
   |false=>rfl|true=>exact absurd (key.mp hb) (by decide)
theorem Jb(hu:X.A.units+64<Pj):ji X F (O6 .In) (MR NP):=⟨λn s w H k x y v u d e Q I rx ry l hK t r q=>by
 obtain⟨z,hx,p⟩:=M.run_get.mp q;obtain⟨b,hb,m⟩:=M.run_get.mp p;have o:=et I hK rx t;have c:=et I hK ry r;cases e<;>first|cases hx|skip
 .simp only[aG]at c;obtain⟨a,f,rfl,g,h⟩:=c;obtain⟨e,j,i⟩:=iN (A:=X.A) h o (by omega) hb;exact SeqAt.in_tupleAt e g j (by rw[i];exact⟨.bl b,H,I,rfl,m _ H .refl (by simp only[Is];rfl)⟩)
 .simp only[aG]at c;obtain⟨a,f,rfl,g,h⟩:=c;obtain⟨e,j,i⟩:=iN (A:=X.A) h o (by omega) hb;exact SeqAt.in_listAt e g j (by rw[i];exact⟨.bl b,H,I,rfl,m _ H .refl (by simp only[Is];rfl)⟩)⟩
theorem yD(hu:X.A.units+64<Pj):ji X F (O6 .NotIn) (MR NM):=⟨λn s w H k x y v u d e Q I rx ry l hK t r q=>by
 obtain⟨z,hx,p⟩:=M.run_get.mp q;obtain⟨b,hb,m⟩:=M.run_get.mp p;have o:=et I hK rx t;have c:=et I hK ry r;cases e<;>first|cases hx|skip
 .simp only[aG]at c;obtain⟨a,f,rfl,g,h⟩:=c;obtain⟨e,j,i⟩:=iN (A:=X.A) h o (by omega) hb;exact SeqAt.notIn_tupleAt e g j (by rw[i];exact⟨.bl (!b),H,I,rfl,m _ H .refl (by simp only[Is];rfl)⟩)
 .simp only[aG]at c;obtain⟨a,f,rfl,g,h⟩:=c;obtain⟨e,j,i⟩:=iN (A:=X.A) h o (by omega) hb;exact SeqAt.notIn_listAt e g j (by rw[i];exact⟨.bl (!b),H,I,rfl,m _ H .refl (by simp only[Is];rfl)⟩)⟩
end
noncomputable def n_:RR->Int->Int->Bool
 |.Lt,i,j=>decide (i<j)|.LtE,i,j=>decide (i<=j)|.Gt,i,j=>decide (j<i)|_,i,j=>decide (j<=i)
noncomputable def j5(op:RR)(eq:D->D->Option Bool)(lt:D->D->Option Bool):List D->List D->Option Bool
 |x::xs,y::a=>match eq x y with
  |some NM=>j5 op eq lt xs a|some NP=>lt x y|none=>NN
 |xs,a=>NF (n_ op xs.length a.length)
noncomputable def gX(op:RR):Nat->D->D->Option Bool
 |0=>λ_ _=>NN|n+1=>λd e=>match d,e with
  |.int i,.int j=>NF (n_ op i j)|.tup b,.tup a=>j5 op (bZ n) (gX op n) b a|_,_=>NN
noncomputable def yE(op:RR)(A:Ov)(s:NL)(u v:NJ)(b:Bool):Prop:=∀(prog:N7)(w:Oq)(E:NJ->NL->Prop)(Q:NJ->NL->Prop),Q (.bool b) s->wpAny (N2 prog w) A (Qs op u v) Q E s
section
open PySem.SeqAt
open PySem.AutoSeq1 (wpAny_loadPart')
open PySem.MeetsSeq PySem.MeetsSeq2 PySem.MeetsSeq3
theorem sO(l b:NR)(items a:Array NJ)(n n2:Nat)(dd P:Option NR)(Y F:Array (Option NJ))(xs C:List D)(eq lt:D->D->Option Bool)(c:Bool)(hc:j5 .Lt eq lt xs C=NF c):Meets (Builtin.«tuple.__lt__» ⟨[.ref l,.ref b],[]⟩) (λA R s=>s.heap.get? l=NF {cls:=.type "tuple",dict:=dd,data:=.seq items n,slots:=Y}/\s.heap.get? b=NF {cls:=.type "tuple",dict:=P,data:=.seq a n2,slots:=F}/\aI s.heap items.toList xs/\aI s.heap a.toList C/\(∀u v d e z,aG s.heap u d->aG s.heap v e->eq d e=NF z->EqAt A.in1 s u v z)/\(∀u v d e z,aG s.heap u d->aG s.heap v e->lt d e=NF z->yE .Lt A.in1 s u v z)/\R (.ok (.ret (.bool c))) s):=.of_wp λprog w A R s h=>by
  obtain⟨L,g,d,X,os⟩:=s;obtain⟨hl,hb,U,T,N,M,h⟩:=h;have f2:=Su;have z1:items.size=xs.length:=by rw[<-U.length];simp
  have z2:a.size=C.length:=by rw[<-T.length];simp
  wp_walk using Q3 hl,Q3 hb,QB _ (λrest b G=>b.1=NN/\G=⟨L,g,d,X,os⟩/\∃(E ws:List NJ)(i f:List D),rest=E.zip ws/\aI L E i/\aI L ws f/\i.length+a.size=f.length+items.size/\j5 .Lt eq lt i f=NF c) _;case turn=>
   rintro⟨y,x⟩rest b G⟨B,rfl,E,ws,i,f,p,k,j,m,o⟩;cases i with
   |nil=>simp only[aI]at k;subst k;rw[UI]at p;cases p|cons S i=>cases f with
    |nil=>simp only[aI]at j;subst j;rw[SH]at p;cases p|cons Q f=>
     simp only[aI]at k j;obtain⟨W,r1,rfl,I,r⟩:=k;obtain⟨V,Z,rfl,H,q⟩:=j;rw[O_]at p;injection p with J t;injection J with hy hx;subst hy hx;simp only[j5]at o;simp only[Ol]at m;cases O:eq S Q with
     |none=>rw[O]at o;cases o|some z=>
      rw[O]at o;refine NG (N _ _ _ _ z I H O prog w _ _ ?_);cases z with
      |true=>
       wp_walk;exact⟨rfl,rfl,_,_,_,_,t,r,q,by omega,o⟩|false=>
       have K:=M _ _ _ _ c I H o prog w;wp_walk using K;exact⟨_,rfl,by simpa using h⟩
  case fin=>
   rintro⟨b1,b2⟩G⟨B,rfl,E,ws,i,f,p,k,j,m,o⟩;simp only at B;subst B;have hv:c=n_ .Lt items.size a.size:=by cases i with
    |nil=>
     simp only[j5,Pw]at o;rw[<-o];simp only[Ox]at m;simp only[n_,Ox];exact decide_eq_decide.mpr (by omega)|cons S i=>cases f with
     |nil=>
      simp only[j5,Pw]at o;rw[<-o];simp only[Ox]at m;simp only[n_,Ox];exact decide_eq_decide.mpr (by omega)|cons Q f=>
      simp only[aI]at k j;obtain⟨W,r1,rfl,I,r⟩:=k;obtain⟨V,Z,rfl,H,q⟩:=j;rw[O_]at p;cases p
   rw[hv]at h;wp_walk;refine⟨_,rfl,?_⟩;have e:PM .Lt items.size a.size=.bool (n_ .Lt items.size a.size):=by
    simp only[PM,n_,Value.bool.injEq];exact decide_eq_decide.mpr (by omega)
   rw[e];exact h
  case h=>exact⟨rfl,rfl,items.toList,a.toList,xs,C,rfl,U,T,by omega,hc⟩
theorem sP(l b:NR)(items a:Array NJ)(n n2:Nat)(dd P:Option NR)(Y F:Array (Option NJ))(xs C:List D)(eq lt:D->D->Option Bool)(c:Bool)(hc:j5 .Gt eq lt xs C=NF c):Meets (Builtin.«tuple.__gt__» ⟨[.ref l,.ref b],[]⟩) (λA R s=>s.heap.get? l=NF {cls:=.type "tuple",dict:=dd,data:=.seq items n,slots:=Y}/\s.heap.get? b=NF {cls:=.type "tuple",dict:=P,data:=.seq a n2,slots:=F}/\aI s.heap items.toList xs/\aI s.heap a.toList C/\(∀u v d e z,aG s.heap u d->aG s.heap v e->eq d e=NF z->EqAt A.in1 s u v z)/\(∀u v d e z,aG s.heap u d->aG s.heap v e->lt d e=NF z->yE .Gt A.in1 s u v z)/\R (.ok (.ret (.bool c))) s):=.of_wp λprog w A R s h=>by
  obtain⟨L,g,d,X,os⟩:=s;obtain⟨hl,hb,U,T,N,M,h⟩:=h;have f2:=Su;have z1:items.size=xs.length:=by rw[<-U.length];simp
  have z2:a.size=C.length:=by rw[<-T.length];simp
  wp_walk using Q3 hl,Q3 hb,QB _ (λrest b G=>b.1=NN/\G=⟨L,g,d,X,os⟩/\∃(E ws:List NJ)(i f:List D),rest=E.zip ws/\aI L E i/\aI L ws f/\i.length+a.size=f.length+items.size/\j5 .Gt eq lt i f=NF c) _;case turn=>
   rintro⟨y,x⟩rest b G⟨B,rfl,E,ws,i,f,p,k,j,m,o⟩;cases i with
   |nil=>simp only[aI]at k;subst k;rw[UI]at p;cases p|cons S i=>cases f with
    |nil=>simp only[aI]at j;subst j;rw[SH]at p;cases p|cons Q f=>
     simp only[aI]at k j;obtain⟨W,r1,rfl,I,r⟩:=k;obtain⟨V,Z,rfl,H,q⟩:=j;rw[O_]at p;injection p with J t;injection J with hy hx;subst hy hx;simp only[j5]at o;simp only[Ol]at m;cases O:eq S Q with
     |none=>rw[O]at o;cases o|some z=>
      rw[O]at o;refine NG (N _ _ _ _ z I H O prog w _ _ ?_);cases z with
      |true=>
       wp_walk;exact⟨rfl,rfl,_,_,_,_,t,r,q,by omega+splitNatSub,o⟩|false=>
       have K:=M _ _ _ _ c I H o prog w;wp_walk using K;exact⟨_,rfl,by simpa using h⟩
  case fin=>
   rintro⟨b1,b2⟩G⟨B,rfl,E,ws,i,f,p,k,j,m,o⟩;simp only at B;subst B;have hv:c=n_ .Gt items.size a.size:=by cases i with
    |nil=>
     simp only[j5,Pw]at o;rw[<-o];simp only[Ox]at m;simp only[n_,Ox];exact decide_eq_decide.mpr (by omega+splitNatSub)|cons S i=>cases f with
     |nil=>
      simp only[j5,Pw]at o;rw[<-o];simp only[Ox]at m;simp only[n_,Ox];exact decide_eq_decide.mpr (by omega+splitNatSub)|cons Q f=>
      simp only[aI]at k j;obtain⟨W,r1,rfl,I,r⟩:=k;obtain⟨V,Z,rfl,H,q⟩:=j;rw[O_]at p;cases p
   rw[hv]at h;wp_walk;refine⟨_,rfl,?_⟩;have e:PM .Gt items.size a.size=.bool (n_ .Gt items.size a.size):=by
    simp only[PM,n_,Value.bool.injEq];exact decide_eq_decide.mpr (by omega+splitNatSub)
   rw[e];exact h
  case h=>exact⟨rfl,rfl,items.toList,a.toList,xs,C,rfl,U,T,by omega+splitNatSub,hc⟩
end
theorem qi(op:RR)(a:op=.Lt\/op=.LtE\/op=.Gt\/op=.GtE)(A:Ov)(s:NL)(i j:Int)(t u:Vz):yE op A s (.int i t) (.int j u) (n_ op i j):=λprog w E Q h=>by
 rcases a with rfl|rfl|rfl|rfl;.exact(Wh h:wpAny (N2 prog w) A (O6 .Lt (.int i t) (.int j u)) Q E s)
 .exact(PyProof.Rows.le_int h:wpAny (N2 prog w) A (O6 .LtE (.int i t) (.int j u)) Q E s)
 .exact(PyProof.Rows.gt_int h:wpAny (N2 prog w) A (O6 .Gt (.int i t) (.int j u)) Q E s)
 .exact(PyProof.Rows.ge_int h:wpAny (N2 prog w) A (O6 .GtE (.int i t) (.int j u)) Q E s)
theorem yF:∀(n:Nat){A:Ov}{s:NL}{u v:NJ}{d e:D}{b:Bool},aG s.heap u d->aG s.heap v e->A.units+n<Pj->gX .Lt n d e=NF b->yE .Lt A s u v b
 |0,_,_,_,_,_,_,_,_,_,_,q=>by cases q|n+1,A,s,u,v,d,e,b,p,j,hu,q=>by
  cases d<;>cases e<;>simp only[gX,reduceCtorEq]at q
  .simp only[aG]at p j;obtain⟨t,rfl⟩:=p;obtain⟨N,rfl⟩:=j;cases q;exact qi .Lt (by decide) A s _ _ _ _
  .simp only[aG]at p j;obtain⟨a1,c,rfl,y,C⟩:=p;obtain⟨M,a,rfl,r,B⟩:=j;obtain⟨⟨cls,L,I,K⟩,G,H,n1,hd⟩:=id y;obtain⟨⟨J,F,data2,k⟩,f,i,n2,g⟩:=id r;simp only at H hd i g;subst H hd i g;intro prog w E Q h;exact SU (op:=.Lt) ⟨_,G,rfl⟩ ⟨_,f,rfl⟩ VH Vl (U1 _ _) (sO a1 M c a n1 n2 L F K k _ _ _ _ b q) ⟨G,f,C,B,λu v d e z m l o=>(ju n m l (by rw[RF];omega) o).2.2,λu v d e z m l o=>yF n m l (by rw[RF];omega) o,show Uh b≠TJ/\Q (.bool b) s from⟨(λx=>nomatch x),h⟩⟩ (by omega)
theorem yG:∀(n:Nat){A:Ov}{s:NL}{u v:NJ}{d e:D}{b:Bool},aG s.heap u d->aG s.heap v e->A.units+n<Pj->gX .Gt n d e=NF b->yE .Gt A s u v b
 |0,_,_,_,_,_,_,_,_,_,_,q=>by cases q|n+1,A,s,u,v,d,e,b,p,j,hu,q=>by
  cases d<;>cases e<;>simp only[gX,reduceCtorEq]at q
  .simp only[aG]at p j;obtain⟨t,rfl⟩:=p;obtain⟨O,rfl⟩:=j;cases q;exact qi .Gt (by decide) A s _ _ _ _
  .simp only[aG]at p j;obtain⟨a1,c,rfl,y,C⟩:=p;obtain⟨N,a,rfl,r,B⟩:=j;obtain⟨⟨cls,M,J,L⟩,H,I,n1,hd⟩:=id y;obtain⟨⟨K,G,data2,k⟩,f,i,n2,g⟩:=id r;simp only at I hd i g;subst I hd i g;intro prog w E Q h;exact SU (op:=.Gt) ⟨_,H,rfl⟩ ⟨_,f,rfl⟩ PySem.F.slot_tuple_gt PySem.F.entry_tuple_gt (PySem.F.args_tuple_gt_2 _ _) (sP a1 N c a n1 n2 M G L k _ _ _ _ b q) ⟨H,f,C,B,λu v d e z m l o=>(ju n m l (by rw[RF];omega) o).2.2,λu v d e z m l o=>yG n m l (by rw[RF];omega) o,show Uh b≠TJ/\Q (.bool b) s from⟨(λx=>nomatch x),h⟩⟩ (by omega)
end L2
end
section
namespace HT
open PySem PyProof.Rows
section
variable{prog:N7}{w:Oq}{A:Ov}{E:NJ->NL->Prop}{s:NL}
theorem yH{t b:NR}{ws:List NJ}{Q:NJ->NL->Prop}(l:WL s.heap t ([]:List NJ).toArray)(hb:WL s.heap b ws.toArray)(m:Q (.ref b) s):wpAny (N2 prog w) A (RC .Add (.ref t) (.ref b)) Q E s:=by
 obtain⟨⟨cls,o,i,k⟩,g,h,n,hd⟩:=id l;obtain⟨⟨j,f,data2,e⟩,a,d,n2,c⟩:=id hb;simp only at h hd d c;subst h hd d c;exact WR ⟨_,g,rfl⟩ ⟨_,a,rfl⟩ U2 Wq SV SJ (Sv _ _) (tuple_addW0 t b ([]:List NJ).toArray ws.toArray n n2 o f k e (by rfl)) ⟨g,a,m⟩
end
end HT
namespace L2
open PySem PySem.Spec PyProof.Rows
section
variable{X:Cx}{F:Fx}{e:Ob}{te:af->M D}{lo hi:Option Ob}{tl th:af->M (Option Int)}{pos p2:P8}
noncomputable def Jc:D->D->M D
 |.int i,.int j=>pure (.int (i+j))|.tup b,.tup a=>do M.need (b.length+a.length<=NW);pure (.tup (b++a))|.lst b,.lst a=>do M.need (b.length+a.length<=NW);pure (.lst (b++a))|_,_=>M.fail
theorem BC:ji X F (RC .Add) Jc:=⟨λG s Z H k x y v u d e Q I rx ry l hK E C q=>by cases d with
 |int i=>cases e with
  |int j=>
   simp only[Is]at E C;subst E C;obtain⟨t,rfl⟩:=rx;obtain⟨t',rfl⟩:=ry;exact add_int ⟨.int (i+j),H,I.tok _,⟨_,rfl⟩,q _ H .refl (by simp only[Is])⟩|_=>exact q.elim
 |tup w=>cases e with
  |tup U=>
   simp only[Is]at E C;obtain⟨a,A,rfl,K,p⟩:=E;obtain⟨L,f,rfl,m,c⟩:=C;cases rx;cases ry;obtain⟨h,N,V,_⟩:=I.tuple (by rw[hK];exact K.2);obtain⟨g,B,p2,_⟩:=I.tuple (by rw[hK];exact m.2);by_cases hx:h=[]
   .subst hx;have R:A=[]:=N.ua.mp rfl;subst R;have hd:w=[]:=List.length_eq_zero_iff.mp (by rw[<-p.length];rfl);subst hd;exact HT.yH V p2 ⟨.ref L,H,I,rfl,q.2 _ H .refl (by simp only[Is];exact⟨L,f,rfl,m,c⟩)⟩
   .have O:A.length+f.length<=NW:=by rw[p.length,c.length];exact q.1
    refine HT.AX V p2 hx (λz=>?_) (λz=>?_) (by rw[<-N.length,<-B.length];exact O)
    .have R:f=[]:=B.ua.mp z;subst R;have hd:U=[]:=List.length_eq_zero_iff.mp (by rw[<-c.length];rfl);subst hd;exact⟨.ref a,H,I,rfl,q.2 _ H .refl (by simp only[Is];exact⟨a,A,rfl,K,by rw[Pn];exact p⟩)⟩
    .have W:=I.aD.fresh (NZ _);refine⟨.ref s.heap.objs.size,_,I.laid (t':=s.toks) (o:=.tup (A++f)) (λb ob q=>NQ _ q) (NZ _) ?_,rfl,q.2 _ _ (.new W) (gU (k:=k) l W (p.append c))⟩;exact⟨by rw[OO];exact O,_,N.append B,IsTup.new _ _⟩|_=>exact q.elim
 |lst w=>cases e with
  |lst U=>
   simp only[Is]at E C;obtain⟨a,A,rfl,K,p⟩:=E;obtain⟨L,f,rfl,m,c⟩:=C;cases rx;cases ry;obtain⟨o,S⟩:=K.2;obtain⟨o',J⟩:=m.2;obtain⟨_,z,h,n,r,e⟩:=I.aD a _ S;obtain⟨_,z2,g,n2,B,e2⟩:=I.aD L _ J;have l1:=r.length;have l2:=B.length;have O:A.length+f.length<=NW:=by rw[p.length,c.length];exact q.1
   refine bo (PySem.P.add_list e e2 (Q:=EP X G Z λv T=>∃a w,v=.ref a/\T a=NF (.lst w)/\∀o,Q v (upd T a (.bP o (.lst w)))) ?_ (by rw[N5,N5];omega)) λu s1⟨v,T,Y,r,a,w,e,ha,q1⟩=>?_
   .have ea:h.toArray++g.toArray=(h++g).toArray:=by simp
    rw[ea];refine⟨.ref _,_,I.LO (t':=s.toks) (r.append B) (by rw[OO];omega),rfl,_,_,rfl,aj,λo=>?_⟩;rw[bN];exact q.2 _ _ (.new I.fresh) (dE (k:=k) l I.fresh (p.append c))
   .obtain⟨_,h,n,rv,ho⟩:=Y.aD a _ ha;exact⟨v,_,Y.freeze ha ho (λ_ z=>nomatch z) (λ_ _ z=>nomatch z) (λ_ z=>nomatch z) (λ_ z=>nomatch z),r,q1 _⟩|_=>exact q.elim
 |_=>exact q.elim⟩
noncomputable def FD:D->D->M D
 |.int i,.int j=>pure (.int (i-j))|_,_=>M.fail
theorem uK:ji X F (RC .Sub) FD:=⟨λa s f H k x y v u d e Q I rx ry l hK c b q=>by cases d with
 |int i=>cases e with
  |int j=>
   simp only[Is]at c b;subst c b;obtain⟨t,rfl⟩:=rx;obtain⟨g,rfl⟩:=ry;exact sub_int ⟨.int (i-j),H,I.tok _,⟨_,rfl⟩,q _ H .refl (by simp only[Is])⟩|_=>exact q.elim
 |_=>exact q.elim⟩
theorem FE(f:DE X F e te):DE X F (.UnaryOp .USub e pos) (λρ=>do let i<-fC (<-te ρ);pure (.int (-i))):=⟨f.hK,(Ik Ez f.pe).imp λl H Q a=>by
  obtain⟨ρ,k,S,h⟩:=a;refine eO.next S h λd m v j g n c b=>?_;obtain⟨i,rfl,b⟩:=bB.mp b;simp only[Is]at c;exact⟨i,c,b _ j g (by simp only[Is])⟩⟩
end
end L2
end
section
namespace ZP
open PySem PyProof.Rows
end ZP
namespace L2
open PySem PySem.Spec PyProof.Rows ZP
section
variable{X:Cx}{pins:List (NR×OW)}{σ:St}{H:Hp}{s:NL}
theorem Inv.Ds{f:List NR}{h':Oy}{t':Nat}(I:Inv X pins σ H s)(a:∀b∈f,fu X pins H b)(keep:∀c o,c∉f->s.heap.get? c=NF o->h'.get? c=NF o):Inv X pins σ H {s with heap:=h',toks:=t'}:=I.call (h':=h') (g':=s.gens) (d':=s.drawn) (t':=t') (ch:=f) (H':=H) ⟨λb o e n hb hx=>keep b o hx e,λb o e n hb hx=>⟨o.slots,keep b o hx e⟩,λb o e n hx=>n,λb o e hx=>⟨o,keep b o hx e⟩,λb l e=>e,λb o u e=>e,λb ps e=>⟨#[],by rw[Array.append_empty];exact e⟩⟩ (λb o e=>(I.aD b o e).gI (λc v d q=>keep c v (λh=>by
   have g:=(a c h).1;rcases d with rfl|d;.rw[g]at e;cases e
   .rw[g]at d;cases d) q) (λ_ q=>q) λ_ _ q=>q) I.bare (λb hb=>by
   obtain⟨_,k,m,j,i,f5⟩:=a b hb;exact⟨j,k,i,f5⟩)
end
end L2
end
section
namespace L2
open PySem PySem.Spec PyProof.Rows ZP
noncomputable def K5(K:NS)(a:NR):It:=⟨λi H=>∃b x,dy K H a b/\b[i]?=NF x,λi H x c=>∃t v,H t=NN/\x=.ref t/\c=upd H t (.tup [.int i,v])/\∀b,dy K H a b->b[i]?=NF v,λi H=>∃b,dy K H a b/\b.length<=i⟩
structure MS(h:Oy)(e it a:NR)(k:Nat):Prop where
 en:∃old,IsEnum h e it (k:Int) old
 ii:h.IsListIter it a k
theorem wK{P:N7}{w:Oq}{K:NS}{elts:List Ob}{x1:Nat}{pos:P8}{e it a:NR}(n:e≠it):Turn P w K (.Tuple elts x1 pos) (K5 K a) [e,it] e (λk h=>MS h e it a k)where
 mem:=by simp
 obj:=λi h st b hb=>by
  simp only[Pe,QJ,or_false]at hb;rcases hb with rfl|rfl;.obtain⟨d,q⟩:=st.en;exact⟨_,q,λv q=>nomatch q⟩
  .obtain⟨o,q,_,r⟩:=st.ii;exact⟨o,q,λv z=>by rw[r]at z;cases z⟩
 keep:=λi h N st k=>by
  obtain⟨d,q⟩:=st.en;obtain⟨o,Z,r⟩:=st.ii;exact⟨⟨d,k e (by simp) _ q⟩,⟨o,k it (by simp) _ Z,r⟩⟩
 item:=λX hP hw hK g i j s O H E I f st go=>by
  subst hP hw hK;obtain⟨W,x,hx,ex⟩:=go;obtain⟨D,y,C,_⟩:=I.list hx;obtain⟨u,eu,Y⟩:=y.get ex;obtain⟨d,en⟩:=st.en;refine wpAny_pyNext_enum_item en st.ii C.isList (x:=u) (by simpa using eu) n λN eo L pr hz J=>⟨_,rfl,?_⟩;refine wpAny_letOwnedTupleGo_enum eo λt e2 m=>?_;have m:PF e N t:=m;have U:H s.heap.objs.size=NN:=I.aD.fresh (NZ _);have S:∀b∈[e,it],b<s.heap.objs.size:=λb hb=>by
   simp only[Pe,QJ,or_false]at hb;rcases hb with rfl|rfl;.exact N1 en
   .obtain⟨o,q,_⟩:=st.ii;exact N1 q
  have l:∀c o,c∉[e,it]->s.heap.get? c=NF o->t.get? c=NF o:=λc o g q=>by
   simp only[Pe,QJ,or_false,not_or]at g;exact m.extBut _ _ g.1 (J c o g.1 g.2 q)
  have B:t.get? s.heap.objs.size=NF {cls:=.type "tuple",data:=.seq #[.int i s.toks,u]}:=m.extBut _ _ (PU (S e (by simp))) pr;have I2:Inv X j O H {s with heap:=t,toks:=s.toks+1}:=I.Ds (t':=s.toks+1) f l;refine⟨.ref s.heap.objs.size,upd H s.heap.objs.size (.tup [.int i,x]),I2.uf (a:=s.heap.objs.size) I.sz U (PU I.lt) (λv c q z=>?_) (λp hp z=>?_) ⟨by show 2<=NW;decide,[.int i s.toks,u],.cons ⟨_,rfl⟩ (.cons Y .nil),⟨_,B,rfl,_,rfl⟩⟩,rfl,⟨_,x,U,rfl,rfl,λzs G=>?_⟩,?_,λb hb=>?_⟩
  .obtain⟨w',q'⟩:=I.cell v c q;exact absurd q'.lt (by rw[z];exact OD _)
  .exact absurd (N1 (I.pin p hp).1) (by rw[z];exact OD _)
  .rw[I.pB G hx];exact ex
  .refine⟨⟨_,by rw[show((i+1:Nat):Int)=(i:Int)+1 from by push_cast;rfl];exact e2⟩,?_⟩;obtain⟨o,q,r⟩:=L;exact⟨o,m.extBut _ _ n.symm q,r⟩
  .rw[ai (Oj (S b hb))];exact(f b hb).1
 done:=λX hP hw hK g i j s O H E I f st stop=>by
  subst hP hw hK;obtain⟨W,hx,T⟩:=stop;obtain⟨D,y,C,_⟩:=I.list hx;obtain⟨d,en⟩:=st.en;refine wpAny_pyNext_enum_end (I.ok.hd g) en st.ii C.isList (by rw[y.length]at T;simpa using T) λN J=>⟨rfl,?_⟩;exact I.Ds (t':=s.toks) f λc o g q=>J c o (λz=>g (by simp[z])) q
 self:=λA i s Q E st q=>by
  obtain⟨d,en⟩:=st.en;have M:s.TypeIs (.ref e) "enumerate":=⟨_,en,rfl⟩;refine Ta M Ub (O7 Ub M PySem.F.entry_enumerate_iter ?_ (PySem.F.args_enumerate_iter_1 _));show wpAny _ _ (Xm (.ref e)) _ _ s;exact NO ⟨_,rfl,"enumerate",_,M,PySem.F.slot_enumerate_next.lookup,q⟩
noncomputable def Jd(K:NS)(f:TA):TI:=λd H R=>f d H λe c=>∃a b,e=[.ref a]/\dy K c a b/\(b.length<=NW->R (K5 K a) c)
theorem BD{X:Cx}{elts:List Ob}{x1:Nat}{tp:P8}{a:Ob}{j:TA}{p pos:P8}(z:Gl X "enumerate")(x:X.mg "enumerate"=NN)(ha:PA X [a] j)(v:Og [a] X.env=[(NP,Qa a X.env)]:=by rfl):PI X (.Tuple elts x1 tp) (.Call (.Name "enumerate" p) [a] [] pos) (Jd X.K j):=by
 intro d s k H R I h;refine Call_ (kK I z x (by decide+kernel:P7 "enumerate"=NF (.type "enumerate")) (R8 (bo (ha pos d s k H _ I h) λF c⟨E,C,f,n,o⟩=>?_) v rfl));obtain⟨a1,D,rfl,A,q⟩:=o;obtain⟨u,rfl,m⟩:=vals1 n;cases m;obtain⟨t,G,r,l⟩:=f.list A;refine call_enumerate_list r.isList λB en g J y=>?_;have T:MS B (c.heap.objs.size+1) c.heap.objs.size a1 0:=⟨⟨_,en⟩,g⟩;have i:=wK (P:=X.prog) (w:=X.w) (K:=X.K) (elts:=elts) (x1:=x1) (pos:=tp) (a:=a1) (show c.heap.objs.size+1≠c.heap.objs.size by omega);refine i.self _ 0 _ _ _ T ?_;refine⟨c.heap.objs.size+1,[c.heap.objs.size+1,c.heap.objs.size],_,K5 X.K a1,C,rfl,f.kept (t':=c.toks) y,i,T,λb hb=>?_,q l⟩;have e:c.heap.objs.size<=b:=by
  simp only[Pe,QJ,or_false]at hb;rcases hb with rfl|rfl;.exact Sk _ _
  .exact NZ _
 exact f.AO e (f.aD.fresh e)
noncomputable def gy(xs:List D):List D:=xs.zipIdx.map λx=>D.tup [.int (x.2:Nat),x.1]
noncomputable def Je(d:D):M (List D):=match d with
 |.lst a=>pure (gy a)|_=>M.fail
theorem yI{xs:List D}{i:Nat}{d:D}(h:(gy xs)[i]?=NF d):∃x,xs[i]?=NF x/\d=.tup [.int (i:Nat),x]:=by
 unfold gy at h;rw[Om,List.getElem?_zipIdx]at h;cases hx:xs[i]? with
 |none=>rw[hx]at h;simp at h|some x=>
  rw[hx]at h;simp at h;exact⟨x,rfl,h.symm⟩
theorem wL{B:Fb}{H:Hp}{k:Nat}{a:NR}{vs:List V}{xs:List D}(h:LstAt B H a vs)(i:ae B H vs xs)(f:vs.length<=NW):sI B (K5 B.K a) (gy xs) H k where
 step:=λj d o c hd e l=>by
  obtain⟨x,hx,rfl⟩:=yI hd;obtain⟨v,n,r⟩:=(i.mono e).get hx;have b:dy B.K o a vs:=(h.mono e).2.sq;refine⟨⟨vs,v,b,n⟩,λz u p=>?_⟩;obtain⟨t,s,g,rfl,rfl,q⟩:=p;have m:=q vs b;rw[n]at m;cases m;exact⟨.new g,gU (k:=c) l g (.cons (by simp only[Is]) (.cons r .nil))⟩
 stop:=λo c e l=>⟨vs,(h.mono e).2.sq,by rw[i.length];simp[gy]⟩;len:=by rw[i.length]at f;simpa[gy]using f
section
variable{X:Cx}{F:Fx}{a:Ob}{elts:List Ob}{x1:Nat}{tp p pos:P8}{tas:af->M (List A)}
theorem BE(l:X.mg "enumerate"=NN)(ha:DA X F [a] tas)(m:Gl X "enumerate":=by rfl)(j:Og [a] X.env=[(NP,Qa a X.env)]:=by rfl):DI X F (.Tuple elts x1 tp) (.Call (.Name "enumerate" p) [a] [] pos) (λρ=>do Fy Je (<-gS (<-tas ρ))):=⟨ha.hK,(BD m l ha.pa j).imp λt H R b=>by
  obtain⟨ρ,k,S,h⟩:=b;refine qb.next S h λas x w s q z i o=>?_;obtain⟨y,rfl,n⟩:=bK o;obtain⟨d,rfl,f⟩:=qf n;obtain⟨v,rfl,e⟩:=(bL i).one;rw[ha.hK];cases d with
  |lst u=>
   simp only[Is]at e;obtain⟨a,ws,rfl,c,r⟩:=e;exact⟨a,ws,rfl,c.2.sq,λg=>f _ s q (wL c r g)⟩|_=>exact f.elim⟩
end
noncomputable def yJ(x:D):Prop:=∃k:List NK,x=.tup (k.map nD)
theorem eA{B:Fb}{H:Hp}{v:V}{k:Key}(h:Is B H v (kD k)):v=kV k:=by cases k with
 |inl i=>simp only[kD,Is]at h;exact h|inr x=>simp only[kD,Is]at h;exact h
theorem og{B:Fb}{H:Hp}:∀{vs:List V}{ks:List Key},ae B H vs (ks.map kD)->vs=ks.map kV
 |_,[],h=>by simp only[RJ,ae]at h;rw[h];rfl|_,k::ks,h=>by
  simp only[Ot,ae]at h;obtain⟨x,c,rfl,b,a⟩:=h;rw[eA b,og a];rfl
theorem Jf{B:Fb}{H:Hp}{v:V}{k:NK}(h:Is B H v (nD k)):HH B H v k:=by cases k with
 |inl k=>exact eA h|inr ks=>
  simp only[nD,Is]at h;obtain⟨a,d,rfl,c,b⟩:=h;exact⟨a,rfl,by rw[<-og b];exact c⟩
theorem yK{B:Fb}{H:Hp}:∀{vs:List V}{ks:List NK},ae B H vs (ks.map nD)->Paired (HH B H) vs ks
 |_,[],h=>by simp only[RJ,ae]at h;rw[h];exact .nil|_,k::ks,h=>by
  simp only[Ot,ae]at h;obtain⟨x,c,rfl,b,a⟩:=h;exact .cons (Jf b) (yK a)
theorem key_is{B:Fb}{H:Hp}(k:Key):Is B H (kV k) (kD k):=by cases k<;>simp only[kD,kV,Is]
theorem uL{B:Fb}{H:Hp}:∀(ks:List Key),ae B H (ks.map kV) (ks.map kD)
 |[]=>.nil|k::ks=>.cons (key_is k) (uL ks)
theorem Jg{B:Fb}{H:Hp}{v:V}{k:NK}(h:HH B H v k):Is B H v (nD k):=by cases k with
 |inl k=>rw[show v=kV k from h];exact key_is k|inr ks=>
  obtain⟨b,rfl,h⟩:=h;simp only[nD,Is];exact⟨b,_,rfl,h,uL ks⟩
theorem yL{B:Fb}{H:Hp}:∀{vs:List V}{ks:List NK},Paired (HH B H) vs ks->ae B H vs (ks.map nD)
 |_,_,.nil=>.nil|_,_,.cons h t=>.cons (Jg h) (yL t)
theorem ek.is{B:Fb}{H:Hp}{a:NR}{ks:List NK}(h:ek B H a ks):Is B H (.ref a) (.tup (ks.map nD)):=by
 obtain⟨b,d,c⟩:=h;simp only[Is];exact⟨a,b,rfl,d,yL c⟩
theorem ek.of{B:Fb}{H:Hp}{v:V}{ks:List NK}(h:Is B H v (.tup (ks.map nD))):∃a,v=.ref a/\ek B H a ks:=by
 simp only[Is]at h;obtain⟨a,b,rfl,d,c⟩:=h;exact⟨a,rfl,b,d,yK c⟩
theorem sQ{X:Cx}{F:Fb}{pins:List (NR×OW)}{σ:St}{H:Hp}{s:NL}(I:Inv X pins σ H s)(hK:X.K=F.K):∀{xs:List V}{us:List NJ}{ks:List NK},aq xs us->Paired (HH F H) xs ks->aO X.prog X.w s.heap ks us
 |_,_,_,.nil,.nil=>.nil|_,_,.inl k::_,.cons r a,.cons h t=>by
  have h:_=kV k:=h;subst h;exact .sc (fx r) (sQ I hK a t)|_,_,.inr ks::_,.cons r a,.cons h t=>by
  obtain⟨b,rfl,hb⟩:=(show∃b,_=V.ref b/\TupAt F H b (ks.map kV)from h);cases(show _=Of b from r);exact .tp (EV I (by rw[hK];exact hb.2)) (sQ I hK a t)
theorem dS{X:Cx}{F:Fb}{pins:List (NR×OW)}{σ:St}{H:Hp}{s:NL}{a:NR}{ks:List NK}(I:Inv X pins σ H s)(hK:X.K=F.K)(h:ek F H a ks):bE X.prog X.w s.heap ks a:=by
 obtain⟨c,i,g⟩:=h;obtain⟨b,r,⟨o,f,e,n,d⟩,_⟩:=I.tuple (show kf X.K H a c by rw[hK];exact i.2);exact⟨o,b.toArray,n,f,e,d,by simpa using sQ I hK r g⟩
inductive T(α:Type)where|ok(a:α)|exc(x:Xc)|stuck|draw(n:Int)(k:Int->T α)|perm(l:List D)(k:List D->T α)
namespace T
variable{α β:Type}
protected def bind:T α->(α->T β)->T β
 |.ok a,f=>f a|.exc x,_=>.exc x|.stuck,_=>.stuck|.draw n k,f=>.draw n λi=>(k i).bind f|.perm l k,f=>.perm l λi=>(k i).bind f
instance:Monad T where
 pure:=T.ok;bind:=T.bind
noncomputable def get:Option α->T α
 |some a=>.ok a|none=>.stuck
noncomputable def need(b:Bool):T Unit:=if b then .ok ()else .stuck
noncomputable def at'(ρ:af):T α->T α
 |.ok a=>.ok a|.exc x=>.exc ⟨x.x,ρ⟩|.stuck=>.stuck|.draw n k=>.draw n λi=>(k i).at' ρ|.perm l k=>.perm l λi=>(k i).at' ρ
noncomputable def calm:T α->T α
 |.ok a=>.ok a|.exc _=>.stuck|.stuck=>.stuck|.draw n k=>.draw n λi=>(k i).calm|.perm l k=>.perm l λi=>(k i).calm
noncomputable def iO(n:Int):M Int:=do
 M.need (0<n/\n<1073741824)M.tick 1;M.any λi=>0<=i/\i<n
noncomputable def ay:T α->M α
 |.ok a=>pure a|.exc x=>M.throw x|.stuck=>M.fail|.draw n k=>do let i<-iO n;(k i).ay|.perm l k=>do let i<-M.any λi=>i.Perm l;(k i).ay
end T
theorem M.ext{b:Type}{m a:M b}(h:∀k Q E,m.run k Q E=a.run k Q E):m=a:=by
 obtain⟨r,p⟩:=m;obtain⟨c,d⟩:=a;have:r=c:=by funext k Q E;exact h k Q E
 subst this;rfl
theorem M.bind_assoc{c b d:Type}(m:M c)(f:c->M b)(g:b->M d):(m>>=f)>>=g=m>>=λa=>f a>>=g:=M.ext λ_ _ _=>rfl
namespace T
variable{α β:Type}
theorem bx(t:T α)(f:α->T β):(t>>=f).ay=t.ay>>=λa=>(f a).ay:=by
 show(T.bind t f).ay=_;induction t with
 |ok a=>rfl|exc x=>rfl|stuck=>rfl|draw n k b=>
  show(iO n>>=λi=>((k i).bind f).ay)=(iO n>>=λi=>(k i).ay)>>=_;rw[M.bind_assoc];congr 1;funext i;exact b i|perm l k b=>
  show((M.any λi=>i.Perm l)>>=λi=>((k i).bind f).ay)=((M.any λi=>i.Perm l)>>=λi=>(k i).ay)>>=_;rw[M.bind_assoc];congr 1;funext i;exact b i
theorem iP(o:Option α):(T.get o).ay=M.get o:=by cases o<;>rfl
end T
noncomputable def Ref{a:Type}(t m:M a):Prop:=∀k Q E,t.run k Q E->m.run k Q E
theorem Ref.refl{a:Type}(m:M a):Ref m m:=λ_ _ _ h=>h
theorem Ref.of_eq{a:Type}{t m:M a}(h:t=m):Ref t m:=h▸.refl _
theorem Ref.bind{b c:Type}{t m:M b}{f g:b->M c}(h:Ref t m)(q:∀a,Ref (f a) (g a)):Ref (t>>=f) (m>>=g):=λk Q E z=>by
 refine h k _ E ?_;exact t.mono z (λa d y=>q a d Q E y) λ_ _ y=>y
theorem Ref.fail{a:Type}{m:M a}:Ref M.fail m:=λ_ _ _ h=>h.elim
theorem Ref.need{b:Bool}{P:Prop}(h:b=NM->P):Ref (T.need b).ay (M.need P):=λk Q E z=>by
 unfold T.need at z;split at z;.rename_i hb;exact⟨h hb,z⟩
 .exact z.elim
theorem Ref.get{a:Type}{o:Option a}:Ref (T.get o).ay (M.get o):=.of_eq (T.iP o)
section
variable{X:Cx}{F:Fx}{e:Ob}{es:List Ob}{st:Qq}{sts:List Qq}
theorem DE.ref{t m:af->M D}(h:DE X F e m)(r:∀ρ,Ref (t ρ) (m ρ)):DE X F e t:=⟨h.hK,h.pe.imp λa H Q⟨ρ,k,S,z⟩=>⟨ρ,k,S,r ρ _ _ _ z⟩⟩
theorem DT.ref{t m:af->M Bool}(h:DT X F e m)(r:∀ρ,Ref (t ρ) (m ρ)):DT X F e t:=⟨h.hK,h.pt.imp λa H Q⟨ρ,k,S,z⟩=>⟨ρ,k,S,r ρ _ _ _ z⟩⟩
theorem xw.ref{t m:af->M Bool}(h:xw X F e m)(r:∀ρ,Ref (t ρ) (m ρ)):xw X F e t:=⟨h.hK,h.pw.imp λa H Q⟨ρ,k,S,z⟩=>⟨ρ,k,S,r ρ _ _ _ z⟩⟩
theorem DA.ref{t m:af->M (List A)}(h:DA X F es m)(r:∀ρ,Ref (t ρ) (m ρ)):DA X F es t:=⟨h.hK,h.pa.imp λa H Q⟨ρ,k,S,z⟩=>⟨ρ,k,S,r ρ _ _ _ z⟩⟩
theorem DS.ref{t m:af->M Fl}(h:DS X F st m)(r:∀ρ,Ref (t ρ) (m ρ)):DS X F st t:=⟨h.hK,h.ps.imp λZ a H⟨ρ,k,S,z⟩=>⟨ρ,k,S,r ρ _ _ _ z⟩⟩
theorem wF.ref{t m:af->M Fl}(h:wF X F sts m)(r:∀ρ,Ref (t ρ) (m ρ)):wF X F sts t:=⟨h.hK,h.ps.imp λZ a H⟨ρ,k,S,z⟩=>⟨ρ,k,S,r ρ _ _ _ z⟩⟩
theorem DG.ref{tg:Ob}{t m:D->af->M af}(h:DG X F tg m)(r:∀d ρ,Ref (t d ρ) (m d ρ)):DG X F tg t:=⟨h.hK,h.pg.imp λv a H Q⟨ρ,k,d,S,i,z⟩=>⟨ρ,k,d,S,i,r d ρ _ _ _ z⟩⟩
theorem Dq.ref{a:List Ob}{t m:List D->af->M af}(h:Dq X F a m)(r:∀d ρ,Ref (t d ρ) (m d ρ)):Dq X F a t:=⟨h.hK,h.pg.imp λv b H Q⟨ρ,k,d,S,i,z⟩=>⟨ρ,k,d,S,i,r d ρ _ _ _ z⟩⟩
theorem DI.ref{tg iter:Ob}{t m:af->M (List D)}(h:DI X F tg iter m)(r:∀ρ,Ref (t ρ) (m ρ)):DI X F tg iter t:=⟨h.hK,h.pi.imp λa H R⟨ρ,k,S,z⟩=>⟨ρ,k,S,r ρ _ _ _ z⟩⟩
theorem lj.ref{ifs:List Ob}{t m:af->M Bool}(h:lj X F ifs m)(r:∀ρ,Ref (t ρ) (m ρ)):lj X F ifs t:=⟨h.hK,λa s b H Q I⟨ρ,k,S,z⟩=>h.pi a s b H Q I ⟨ρ,k,S,r ρ _ _ _ z⟩⟩
theorem DE.stuck(hK:X.K=F.K):DE X F e (λ_=>M.fail):=⟨hK,λa s b H Q I⟨c,k,S,z⟩=>z.elim⟩
theorem DT.stuck(hK:X.K=F.K):DT X F e (λ_=>M.fail):=⟨hK,λa s b H Q I⟨c,k,S,z⟩=>z.elim⟩
theorem DS.stuck(hK:X.K=F.K):DS X F st (λ_=>M.fail):=⟨hK,λa s b H Q I⟨c,k,S,z⟩=>z.elim⟩
theorem DI.stuck{tg iter:Ob}(hK:X.K=F.K):DI X F tg iter (λ_=>M.fail):=⟨hK,λa s b H R I⟨c,k,S,z⟩=>z.elim⟩
theorem ji.ref{f:NJ->NJ->UG NJ}{t:D->D->M D}(h:∀d e,∃m,ji X F f m/\Ref (t d e) (m d e)):ji X F f t:=⟨λa s b H k x y v u d e Q I rx ry l hK g c q=>by
 obtain⟨m,o,r⟩:=h d e;exact o.op a s b H k x y v u d e Q I rx ry l hK g c (r _ _ _ q)⟩
theorem aX.ref{f:NJ}{t:List D->M D}(h:∀ds,∃m,aX X F f m/\Ref (t ds) (m ds)):aX X F f t:=⟨λa s b H k c d ds Q I g l hK i q=>by
 obtain⟨m,o,r⟩:=h ds;exact o.call a s b H k c d ds Q I g l hK i (r _ _ _ q)⟩
end
structure lu(lo:Nat)(h:Oy)(H:Hp)(a c:NR)(dx:Option NR):Prop where
 un:H a=NN
 ge:lo<=a
 ob:∃oe vs,h.get? a=NF oe/\oe.cls=.ref c/\oe.dict=dx/\oe.data=.fields vs/\(vs[1]?=NF .none\/∃T oT ts,vs[1]?=NF (.ref T)/\T≠a/\lo<=T/\H T=NN/\h.get? T=NF oT/\oT.data=.fields ts/\ts[3]?=NF .none)
theorem lu.mono{lo b:Nat}{h:Oy}{H:Hp}{a c:NR}{g:Option NR}(f:lu lo h H a c g)(e:b<=lo):lu b h H a c g:=by
 obtain⟨u,l,p,i,v,t,s,r,d⟩:=f;refine⟨u,OC e l,p,i,v,t,s,r,?_⟩;rcases d with d|⟨T,q,j,o,n,m,k⟩;.exact .inl d
 .exact .inr ⟨T,q,j,o,n,OC e m,k⟩
section
variable{M:To}{A:Ov}{E:NJ->NL->Prop}{s:NL}
theorem qj{base:Oy}{env:Uc}{outer:List Uc}{L e:NR}{z:OW}{vs:Array NJ}{head:NJ}{l:Bool}{Q:Unit->NL->Prop}(J:A.frames=NF (env::outer))(P:s.heap.FunFrames base (env::outer))(V:env.frame=NF L)(R:s.heap.get? e=NF z)(hd:z.data=.fields vs)(hsz:1<vs.size)(h:∀h',(∀b o,s.heap.get? b=NF o->b≠e->b∉gf (env::outer)->h'.get? b=NF o)->(∀b o,s.heap.get? b=NF o->b∈gf (env::outer)->∃H,h'.get? b=NF {o with slots:=H})->(∃n B T N K,h'.get? e=NF n/\n.cls=z.cls/\n.dict=z.dict/\n.data=.fields B/\B[1]?=NF (.ref T)/\T≠e/\s.heap.objs.size<=T/\h'.get? T=NF N/\N.data=.fields K/\K[3]?=NF .none)->Q () {s with heap:=h'}):wpAny M A (do let a<-frameOf env;let y<-entryPlaceOf L l;let b<-Wj head a .none (R6 L) .none y;V8 (.ref e) 1 b) (λ_ s'=>wpAny M A (Ue (.ref e) NN) Q E s') E s:=by
 have p:e∉(env::outer).filterMap (·.frame):=λU=>by
  obtain⟨_,o,G,I⟩:=P.mem U;rw[R]at G;injection G with G;subst G;exact I vs hd
 refine NG (wpAny_frameOf_fun J P V λc d=>?_);refine NG (wpAny_entryPlaceOf λy C=>?_);unfold Wj newFields;refine NG (ON ?_ (C.sizeOk5 _ _ _ _ _));have j:c.get? e=NF z:=(d.2.1 e p).trans R;generalize D:({cls:=.type "traceback",dict:=NN,data:=.fields ([head,.ref L,.none,R6 L,.none]++(if y.isEmpty then OV 6 Oz else y)).toArray}:OW)=ob;have i:=NQ (h:=c) ob j;have k:ob.data=.fields ([head,.ref L,.none,R6 L,.none]++(if y.isEmpty then OV 6 Oz else y)).toArray:=by rw[<-D]
 have r:ob.isFreed=NP:=by rw[<-D];rfl
 refine Rf i hd hsz ?_;have w:c.objs.size≠e:=PU (N1 j);have f:=Pa hd (·.setIfInBounds 1 (Of c.objs.size));have g:=OF (Qf (·.setIfInBounds 1 (Of c.objs.size))) i (P5 f);have m:=(Oa (c.push ob) (Qf (·.setIfInBounds 1 (Of c.objs.size))) (OX w)).trans (N4 c r);unfold Ue;refine NG (UO g f (x:=.ref c.objs.size) (by simp[hsz]) ?_);rw[if_pos (show(Of c.objs.size !=Oz)=NM from by simp)];refine Rf m k (by simp only[N5,OO,Ol,Ox]<;>omega) (h _ ?_ ?_ ?_)
 .intro b o hb u t;have F:c.get? b=NF o:=(d.2.1 b t).trans hb;have v:c.objs.size≠b:=PU (N1 F);show Heap.get? _ b=NF o;rw[Oa _ _ v,Oa _ _ (OX u)];exact NQ _ F
 .intro b o hb t;obtain⟨H,O⟩:=d.2.2 b o hb;have u:b≠e:=λq=>p (q▸t);have v:c.objs.size≠b:=PU (N1 O);refine⟨H,?_⟩;show Heap.get? _ b=_;rw[Oa _ _ v,Oa _ _ (OX u)];exact NQ _ O
 .refine⟨_,_,c.objs.size,_,_,?_,Tb _ _,?_,f,by simp[hsz],w,by rw[d.1];exact NZ _,OF _ m (P5 (Pa k _)),Pa k _,by first|(simp;done)|(rcases C with rfl|⟨_,_,_,_,_,_,_,rfl⟩<;>simp)⟩
  .show Heap.get? _ e=_;rw[Oa _ _ w];exact g
  .obtain⟨X,W,dt,S⟩:=z;cases dt<;>rfl
structure L4(lo:Nat)(fs:List NR)(H:Hp)(a c:NR)(dx:Option NR)(h h':Oy)(ch:List NR):Prop where
 keep:∀b o,h.get? b=NF o->b∉ch->b∉fs->h'.get? b=NF o
 slot:∀b o,h.get? b=NF o->b∈fs->∃sl,h'.get? b=NF {o with slots:=sl}there:∀b o,h.get? b=NF o->∃o',h'.get? b=NF o'
 un:∀b∈ch,H b=NN
 ge:∀b∈ch,lo<=b
 MT:lu lo h' H a c dx
theorem uM{base:Oy}{env:Uc}{outer:List Uc}{L a c lo:NR}{R:Option NR}{H:Hp}{Q:Unit->NL->Prop}(r:A.frames=NF (env::outer))(J:s.heap.FunFrames base (env::outer))(K:env.frame=NF L)(I:lo<=s.heap.objs.size)(XF:∀b,s.heap.objs.size<=b->H b=NN)(fl:lu lo s.heap H a c R)(h:∀h' ch,L4 lo (gf (env::outer)) H a c R s.heap h' ch->Q () {s with heap:=h'}):wpAny M A (SO (.ref a) env) (λ_ s'=>wpAny M A (Ue (.ref a) NN) Q E s') E s:=by
 obtain⟨un,Y,W,vs,B,hc,N,hd,G⟩:=fl;unfold SO;simp only[K];have x:∀(hh h':Oy)(ch:List NR),(∀b o,s.heap.get? b=NF o->b∉ch->hh.get? b=NF o)->(∀b o,s.heap.get? b=NF o->b∈gf (env::outer)->hh.get? b=NF o)->(∀b o,s.heap.get? b=NF o->∃o',hh.get? b=NF o')->hh.objs.size=s.heap.objs.size->(∀b∈ch,H b=NN)->(∀b∈ch,lo<=b)->(∀b o,hh.get? b=NF o->b≠a->b∉gf (env::outer)->h'.get? b=NF o)->(∀b o,hh.get? b=NF o->b∈gf (env::outer)->∃S,h'.get? b=NF {o with slots:=S})->(∃g j T p k,h'.get? a=NF g/\g.cls=W.cls/\g.dict=W.dict/\g.data=.fields j/\j[1]?=NF (.ref T)/\T≠a/\hh.objs.size<=T/\h'.get? T=NF p/\p.data=.fields k/\k[3]?=NF .none)->L4 lo (gf (env::outer)) H a c R s.heap h' (a::ch):=by
  intro hh h' ch k1 k2 k3 Z c1 c2 n m⟨g,j,T,p,k,V,q2,q3,q4,q5,q6,U,q8,q9,C⟩;refine⟨λb o e hb f=>?_,λb o e f=>m b o (k2 b o e f) f,λb o e=>?_,λb hb=>?_,λb hb=>?_,⟨un,Y,g,j,V,q2.trans hc,q3.trans N,q4,.inr ⟨T,p,k,q5,q6,OC I (by rw[<-Z];exact U),XF T (by rw[<-Z];exact U),q8,q9,C⟩⟩⟩
  .rw[Pe,not_or]at hb;exact n b o (k1 b o e hb.2) hb.1 f
  .obtain⟨X,e1⟩:=k3 b o e;by_cases t:b=a;.subst t;exact⟨_,V⟩
   .by_cases f:b∈gf (env::outer)
    .obtain⟨S,e2⟩:=m b X e1 f;exact⟨_,e2⟩
    .exact⟨_,n b X e1 t f⟩
  .rcases List.mem_cons.mp hb with z|z;.rw[z];exact un
   .exact c1 b z
  .rcases List.mem_cons.mp hb with z|z;.rw[z];exact Y
   .exact c2 b z
 rcases G with w|⟨T,p,k,w,P,u,O,v,i,h3⟩
 .refine NG (UO B hd w ?_);rw[if_neg (by decide)];exact qj r J K B hd (Array.getElem?_eq_some_iff.mp w).1 λh' n m F=>h h' _ (x s.heap h' [] (λb o e _=>e) (λb o e _=>e) (λb o e=>⟨o,e⟩) rfl (λb hb=>nomatch hb) (λb hb=>nomatch hb) n m F)
 .refine NG (UO B hd w ?_);rw[if_pos (show(Of T !=Oz)=NM from by simp)];refine NG (UO v i h3 ?_);rw[if_neg (show¬((Oz==R6 L)=NM)from by simp[R6])];refine NG (Rf v i (Array.getElem?_eq_some_iff.mp h3).1 ?_);have d:∀b,b≠T->(s.heap.update T (Qf (·.setIfInBounds 3 Oz))).get? b=s.heap.get? b:=λb hb=>Oa _ _ (OX hb);have D:∀b,b∈gf (env::outer)->b≠T:=λb hb q=>by
   obtain⟨_,o,y,l⟩:=J.mem hb;rw[q,v]at y;injection y with y;subst y;exact l k i
  refine qj (s:={s with heap:=s.heap.update T (Qf (·.setIfInBounds 3 Oz))}) r (J.of_keeps λb o hb l=>⟨o,(d b λq=>by rw[q,v]at hb;injection hb with hb;subst hb;exact l k i).trans hb,rfl⟩) K ((d a (OX P)).trans B) hd (Array.getElem?_eq_some_iff.mp w).1 λh' n m F=>h h' _ (x _ h' [T] (λb o e hb=>(d b λz=>hb (by rw[z];exact List.mem_singleton_self _)).trans e) (λb o e hb=>(d b (D b hb)).trans e) (λb o e=>?_) (Heap.size_after_update ..) (λb hb=>by rw[List.mem_singleton.mp hb];exact O) (λb hb=>by rw[List.mem_singleton.mp hb];exact u) n m F);by_cases hb:b=T
  .subst hb;exact⟨_,OF _ v (P5 (Pa i _))⟩
  .exact⟨o,(d b hb).trans e⟩
theorem yM{base:Oy}{env:Uc}{outer:List Uc}{L a c lo:NR}{f:Option NR}{H:Hp}{Q:Unit->NL->Prop}(e:A.frames=NF (env::outer))(g:s.heap.FunFrames base (env::outer))(i:env.frame=NF L)(d:lo<=s.heap.objs.size)(XF:∀b,s.heap.objs.size<=b->H b=NN)(j:lu lo s.heap H a c f)(h:∀h' ch,L4 lo (gf (env::outer)) H a c f s.heap h' ch->Q () {s with heap:=h'}):wpAny M A (XM env (.ref a)) Q E s:=by
 unfold XM;exact NG (uM e g i d XF j h)
end
noncomputable def qk(F:Fb)(H:Hp)(b:Option NR):List D->Prop
 |[]=>True|[d]=>∃x a v,b=NF x/\x≠F.p/\H x=NF (.bP a (.xd [("name",v)]))/\Is F H v d|_=>False
theorem qk.mono{F:Fb}{H H':Hp}{k f:Nat}{b:Option NR}{nm:List D}(h:qk F H b nm)(e:Kp F H k H' f):qk F H' b nm:=by match nm,h with
 |[],_=>trivial|[d],⟨x,c,v,j,a,i,g⟩=>exact⟨x,c,v,j,a,e.keep _ _ a rfl i,g.mono e⟩
noncomputable def FG(P:N7)(w:Oq):t_:=λouter H s E e b=>∃a c f d,e=.ref a/\b.os=s.os/\Tz b.gens/\Un (gf outer) [] H d s.heap b.heap/\iq P w d b.heap/\lu s.heap.objs.size b.heap d a c f/\E (.ref c) f d
section
variable{X:Cx}{F:Fx}{pins:List (NR×OW)}{σ:St}{H:Hp}{s s':NL}
noncomputable def sR(X:Cx)(pins:List (NR×OW))(σ:St)(h:Oy)(H:Hp)(a c:NR)(d:Option NR):Prop:=∃b H0,Inv X pins σ H0 b/\lu b.heap.objs.size h H a c d
noncomputable def xx(X:Cx)(F:Fx):Prop:=∀(pins:List (NR×OW))(σ:St)(b:af)(H:Hp)(k:Nat)(s:NL)(a c:NR)(d:Option NR)(nm:List D),Inv X pins σ H s->bX F b k σ H->sR X pins σ s.heap H a c d->qk F.toFb H d nm->F.E ⟨.exc c nm,b⟩ k->X.xe (.ref a) s
theorem xx.never(h:∀x k,¬F.E x k):xx X F:=λ_ _ _ _ _ _ _ _ _ _ _ _ _ _ z=>(h _ _ z).elim
theorem Inv.Jh{E:XK}{e:NJ}(I:Inv X pins σ H s)(h:FG X.prog X.w X.stack H s E e s'):∃a c d H',e=.ref a/\Inv X pins σ H' s'/\lu s.heap.objs.size s'.heap H' a c d/\E (.ref c) d H':=by
 obtain⟨a,c,d,H',rfl,os,bare,un,aD,f,q⟩:=h;exact⟨a,c,d,H',rfl,I.t5 os un aD bare λb z=>absurd z (by simp),f,q⟩
theorem Inv.leave{A:Ov}{outer:List Uc}{a c:NR}{C:Option NR}{M:To}{Q:Unit->NL->Prop}{E:NJ->NL->Prop}(I:Inv X pins σ H s)(hA:A.frames=NF X.stack)(i:X.stack=X.env::outer)(m:X.env.frame=NF X.env.locals)(v:X.outer=outer)(hex:X.ex=[])(x:sR X pins σ s.heap H a c C)(h:∀s',s'.os=X.br.os->Tz s'.gens->Un (gf outer) [] X.gL H X.br.heap s'.heap->iq X.prog X.w H s'.heap->lu X.br.heap.objs.size s'.heap H a c C->Q () s'):wpAny M A (XM X.env (.ref a)) Q E s:=by
 have g:=I.stack;obtain⟨S,H0,P,y⟩:=x;have y:lu X.br.heap.objs.size s.heap H a c C:=y.mono P.sz;rw[i]at hA g;refine yM hA g m I.sz (λb hb=>I.aD.fresh hb) y λN G L=>?_;have k:∀b o,X.br.heap.get? b=NF o->b∉G:=λb o e z=>absurd (N1 e) (Nat.not_lt.mpr (L.ge b z));have j:∀b,H b≠NN->b∉G:=λb n z=>n (L.un b z);have l:X.fs=gf outer:=by show gf X.outer=_;rw[v]
 have t:∀b,b∈gf (X.env::outer)->H b=NN:=λb hb=>I.j_ b (by rw[i];exact hb);have mem:∀b,b∈gf (X.env::outer)->b=X.env.locals\/b∈gf outer:=λb hb=>by
  have:=I.gM b (by rw[i];exact hb);rw[l]at this;exact List.mem_cons.mp this
 have r:∀b o,X.br.heap.get? b=NF o->b<X.br.heap.objs.size:=λb o e=>N1 e;have K:∀b o,X.br.heap.get? b=NF o->b≠X.env.locals:=λb o e z=>by
  have D:=r b o e;rw[z]at D;exact absurd I.ok.above (Nat.not_le.mpr D)
 have f:=I.base;rw[l,hex]at f;refine h {s with heap:=N} I.os I.bare ⟨λb o e n hb hx=>?_,λb o e n hb hx=>?_,f.free,λb o e hx=>?_,f.gJ,f.gc,f.gK⟩ (λb o e=>?_) L.MT
 .refine L.keep b o (f.keep b o e n hb hx) (k b o e) λz=>?_;rcases mem b z with q|q;.exact K b o e q
  .exact hb q
 .obtain⟨R,B⟩:=f.slot b o e n hb hx;have:b∈gf (X.env::outer):=by
   show b∈List.filterMap _ _;rw[PC,m];exact NX _ hb
  obtain⟨p,O⟩:=L.slot b _ B this;exact⟨p,O⟩
 .obtain⟨J,B⟩:=f.there b o e hx;exact L.there b J B
 .refine(I.aD b o e).gI (λd u hd q=>L.keep d u q (j d ?_) λz=>?_) (λ_ q=>q) λ_ _ q=>q
  .rcases hd with z|z;.rw[z,e];exact(λq=>nomatch q)
   .rw[z];exact(λq=>nomatch q)
  .have n:=t d z;rcases hd with q|q;.rw[q,e]at n;cases n
   .rw[q]at n;cases n
end
noncomputable def qX(B:Fb)(H:Hp)(k:Nat)(E:XK):Xc->Nat->Prop:=λx d=>∀a c nm b,Ext B H k a d->x.x=.exc c nm->qk B a b nm->E (.ref c) b a
noncomputable def spT(P:N7)(w:Oq)(K:NS)(n:Nat)(m:List A->M D):Sp:=λa H Q E=>∃p k as,H p≠NN/\wC ⟨K,p,P,w⟩ H k a as/\as.length=n/\(m as).run k (qE ⟨K,p,P,w⟩ H k Q) (qX ⟨K,p,P,w⟩ H k E)
noncomputable def ly(P:N7)(w:Oq)(K:NS)(mg:Oo->Option NJ)(base:Oy)(x:Oo)(n:Nat)(k:Nat)(m:List A->M D):Prop:=∃ps:List Oo,ps.length=n/\∃f fd,dA P w K mg base (FG P w) k f fd ps (spT P w K n m)/\mg x=NF (.ref f)/\R9 K (.ref f)=NM/\Binds K fd ps []
section
variable{X:Cx}{F:Fx}{e:Ob}{es:List Ob}{pos:P8}{tas:af->M (List A)}
theorem BF(hK:X.K=F.K)(hP:X.prog=F.P)(hw:X.w=F.w):(⟨X.K,F.p,X.prog,X.w⟩:Fb)=F.toFb:=by
 have:F.toFb=⟨F.K,F.p,F.P,F.w⟩:=rfl;rw[this,hK,hP,hw]
noncomputable def L5{a:Type}(ρ:af)(m:M a):M a:=⟨λk Q E=>m.run k Q (λx b=>E ⟨x.x,ρ⟩ b),λh q e=>m.mono h q λx b z=>e _ _ z⟩
theorem T.FH{c:Type}(ρ:af)(t:T c):(t.at' ρ).ay=L5 ρ t.ay:=by induction t with
 |ok a=>rfl|exc x=>rfl|stuck=>rfl|draw n k b=>
  refine M.ext λj Q E=>?_;show((T.iO n)>>=λi=>((k i).at' ρ).ay).run j Q E=((T.iO n)>>=λi=>(k i).ay).run j Q _;rw[M.run_bind,M.run_bind];simp only[b];rfl|perm l k b=>
  refine M.ext λj Q E=>?_;show((M.any λi=>i.Perm l)>>=λi=>((k i).at' ρ).ay).run j Q E=((M.any λi=>i.Perm l)>>=λi=>(k i).ay).run j Q _;rw[M.run_bind,M.run_bind];simp only[b];rfl
theorem BG{x:Oo}{n k:Nat}{m:List A->M D}{p:P8}(Df:ly X.prog X.w X.K X.mg X.base x n k m)(hr:d9 k X.A)(ho:xx X F)(ha:DA X F (e::es) tas)(hg:Gl X x)(hP:X.prog=F.P)(hw:X.w=F.w)(U:(x==("__debug__":Oo))=NP)(he:Og (e::es) X.env=(NP,Qa e X.env)::Og es X.env)(R:(Qu pos (Og es X.env)).any (·.1)=NP):DE X F (.Call (.Name x p) (e::es) [] pos) (λρ=>do let as<-tas ρ;M.need (as.length=n);L5 ρ (m as)):=by
 obtain⟨ps,hl,f,fd,FN,hm,hk,hb⟩:=Df;refine⟨ha.hK,λi s J H Q I⟨ρ,k0,S,h⟩=>?_⟩;refine SG (iB I hg hm ?_ U);refine Wz (h₀:=X.base) I.ok.mod.Ec hk (bo (ha.pa pos i s J H _ I (qb.next (Q:=λv g=>∃as b,Ext F.toFb H k0 g b/\bX F ρ b J g/\wC F.toFb g b v as/\as.length=n/\(L5 ρ (m as)).run b (qE F.toFb H k0 Q) F.E) S h λas b v g Y G O h1=>⟨as,b,Y,G,O,h1.1,h1.2⟩)) λC N⟨v,g,t,r,as,b,Y,G,O,hn,q⟩=>⟨t.jg,?_⟩) he R;have eF:=BF (X:=X) (F:=F) ha.hK hP hw;have y:spT X.prog X.w X.K n m v g Q (λcl o j=>∃c nm l,cl=.ref c/\Ext F.toFb g b j l/\qk F.toFb j o nm/\F.E ⟨.exc c nm,ρ⟩ l):=by
  refine⟨F.p,b,as,G.live,?_,hn,?_⟩;.rw[eF];exact O
  .rw[eF];refine(m as).mono q (λd Z z=>z.ext Y) λx Z z=>?_;intro j c nm o W ex L;exact⟨c,nm,Z,rfl,W,L,by rw[<-ex];exact z⟩
 have T:C.length=ps.length:=by rw[<-r.length];exact FN.len _ _ _ _ y
 refine Vj (Ro (FN.run X.A X.stack N g ⟨C,[]⟩ C v Q _ hr t.sj ?_ r y) λr s' B=>?_)
 .have:=hb N C t.jg (by rw[Pn];exact T);rw[Pn]at this;exact this
 .cases r with
  |error e=>
   obtain⟨a,c,o,j,rfl,I2,V,c',nm,l,ec,W,L,z⟩:=t.Jh (E:=λcl o j=>∃c nm l,cl=.ref c/\Ext F.toFb g b j l/\qk F.toFb j o nm/\F.E ⟨.exc c nm,ρ⟩ l) (e:=e) (s':=s') B;cases ec;exact ho i J ρ j l s' a c o nm I2 (G.mono W) ⟨N,g,t,V⟩ L z|ok V=>cases V with
   |ret u=>exact t.after B|next=>exact PZ B|brk=>exact PZ B|cont=>exact PZ B
end
section
variable{P:N7}{w:Oq}{K:NS}{mg:Oo->Option NJ}{base:Oy}
theorem xT.Nh{x b:Oo}{st:Qq}{f:NR}{fd:PH}{N ps:List Oo}{n k:Nat}{m:List A->M D}(Fn:xT K x b st f fd)(S:cR N ps (ak st))(hn:ps.length=n)(l:∀(g:NJ)(o:Ov)(outer:List Uc)(s:NL)(H:Hp)(p:NR)(k0:Nat)(E:XK)(y:Xc->Nat->Prop),d9 k (o.deeper (UT b (ak st) s.heap.objs.size f g))->Qk K g b=NM->xx (j3 (FG P w) P w K mg base N b (ak st) f g o outer s H E) ⟨⟨K,p,P,w⟩,H,k0,y,H,k0⟩->∃t,wF (j3 (FG P w) P w K mg base N b (ak st) f g o outer s H E) ⟨⟨K,p,P,w⟩,H,k0,y,H,k0⟩ (b5 st) t/\∀(as:List A)(Q:D->Nat->Prop),as.length=n->(m as).run k0 Q y->(t (fD N as)).run k0 (IV Q) y):dA P w K mg base (FG P w) (k+1) f fd ps (spT P w K n m):=by
 obtain⟨oc,od,kV,a0,pm,an,g,ct,V,rfl,lk,u⟩:=Fn.ex;refine xK lk u S (λU H Q E h=>?_) λo outer s H U Q E Y h=>?_
 .obtain⟨p,j,as,_,i,C,_⟩:=h;rw[Paired.length i,C,hn]
 .obtain⟨p,j,as,lv,i,C,q⟩:=h;have F:xx (j3 (FG P w) P w K mg base N b (ak st) f g o outer s H E) ⟨⟨K,p,P,w⟩,H,j,qX ⟨K,p,P,w⟩ H j E,H,j⟩:=by
   intro L R B r W s' a c O nm I S' J T z;refine I.leave (A:=o.deeper (UT b (ak st) s.heap.objs.size f g)) (outer:=outer) I.ok.frames rfl rfl rfl rfl J λs2 os bare un aD G=>?_;exact⟨a,c,O,r,rfl,os,bare,un,aD,G,z r c nm O S'.ext rfl T⟩
  obtain⟨t,X,Z⟩:=l g o outer s H p j E (qX ⟨K,p,P,w⟩ H j E) Y u F;refine⟨_,X.ps,fD N as,j,wH lv i,M.wk (Z as _ C q) λJ W z=>?_⟩;cases J with
  |nx B=>exactλR r kp S=>z .aU r S.ext (by simp only[Is])|rt d=>exactλv r e i=>z v r e i|bk B=>exact z.elim|ct B=>exact z.elim
end
open PySem (wpAny_loadPart_at wpAny_madeBy_exc)
noncomputable def yN:List NJ:=[.type "ValueError",.type "Exception",.type "BaseException",.type "object"]
noncomputable def Dt(C t:NR):OW:={cls:=.ref C,data:=.fields #[.ref t,.none,.none,.none,.bool NP,.none]}
structure yO(h h':Oy)(e C:NR):Prop where
 keeps:∀b o,h.get? b=NF o->h'.get? b=NF o
 ge:h.objs.size<=e
 there:∃t,h'.get? e=NF (Dt C t)
section
variable{prog:N7}{w:Oq}{A:Ov}{E:NJ->NL->Prop}{h:Oy}{g:Array VR}{d:Drawn}{t:Nat}{os:OsState}
variable{nm q:Oo}{C N:NR}{bs bm bmB:List NJ}{hdct:Bool}{sn:List Oo}{sub:List NJ}{ab:Bool}{col:Option Bool}{dd:Option NR}{k0 k1 k2 k3 k5:Option NJ}{B newId initId:String}
theorem lz(F:ExcBaseFacts B newId initId bmB)(T:OwnTail h bmB bm){l:Oo->Option NJ}{rest:List NJ}{Q:Fin->NL->Prop}(k:h.get? C=NF (Wb nm q C N bs bm hdct sn sub ab col dd k0 k1 k2 k3 k5 newId))(s:h.Ns N l)(m:l "__init__"=NN)(p:∀h' e,yO h h' e C->Q (.done (.ret (.ref e))) ⟨h',g,d,t,os⟩)(i:rest.length<=NW):wpAny (N2 prog w) A (Builtin.«type.__call__» ⟨.ref C::rest,[]⟩) Q E ⟨h,g,d,t,os⟩:=by
 repeat(first|with_reducible refine Ph k ?_|with_reducible refine wpAny_madeBy_exc k ?_|wp_step)
 refine codeAny_call_builtin_code (Rg _ F.quiet) (wpAny_check_new_subT F T k ?_);refine codeAny_exc_new_subT F T k ?_ i;show wpAny _ _ _ _ _ _;have a:=NQ {cls:=.ref C,data:=.fields #[.ref h.objs.size,.none,.none,.none,.bool NP,.none]} (NQ {cls:=.type "tuple",data:=.seq rest.toArray} k);have j:((h.push {cls:=.type "tuple",data:=.seq rest.toArray}).push {cls:=.ref C,data:=.fields #[.ref h.objs.size,.none,.none,.none,.bool NP,.none]}).Ns N l:=let⟨o,u,v,e,r⟩:=s;⟨o,u,v,NQ _ (NQ _ e),r⟩;have c:((h.push {cls:=.type "tuple",data:=.seq rest.toArray}).push {cls:=.ref C,data:=.fields #[.ref h.objs.size,.none,.none,.none,.bool NP,.none]}).get? (h.objs.size+1)=NF {cls:=.ref C,data:=.fields #[.ref h.objs.size,.none,.none,.none,.bool NP,.none]}:=by heap_get
 have n:(Of C::bm).contains (.ref C)=NM:=by simp
 have f:=T.keeps (h':=(h.push {cls:=.type "tuple",data:=.seq rest.toArray}).push {cls:=.ref C,data:=.fields #[.ref h.objs.size,.none,.none,.none,.bool NP,.none]}) λb o e=>NQ _ (NQ _ e);unfold Us;repeat(first|with_reducible refine Ph c ?_|(with_reducible refine Wl a ?_;rw[n])|wp_step)
 show wpAny _ _ (Ul (.ref C) _) _ _ _;refine wpAny_typeLookup_tail a j f F.mroIs F.init.lookup ?_;rw[m];refine OE (NG (RH (F.init.bind _) ?_));refine NG (Vj (Sa F.init.plain F.initEntry (wpAny_check_init_subT F f a c rfl ?_)));wp_walk;refine p _ _ ⟨λb o hb=>?_,QQ _,h.objs.size+2,?_⟩
 .rw[Oa _ _ (PU (Pu (N1 hb)))];exact NQ _ (NQ _ (NQ _ hb))
 .rw[OF _ (NQ _ c) rfl];simp only[OS];rfl
theorem wM(F:ExcBaseFacts B newId initId bmB)(T:OwnTail h bmB bm){f:Oo->Option NJ}{rest:List NJ}{Q:NJ->NL->Prop}(b:h.get? C=NF (Wb nm q C N bs bm hdct sn sub ab col dd k0 k1 k2 k3 k5 newId))(j:h.Ns N f)(c:f "__init__"=NN)(i:∀h' e,yO h h' e C->Q (.ref e) ⟨h',g,d,t,os⟩)(a:rest.length<=NW):wpAny (N2 prog w) A (call (.ref C) rest) Q E ⟨h,g,d,t,os⟩:=by
 have n:=tc_lookup;have m:=tc_bind (.ref C);have l:(⟨h,g,d,t,os⟩:NL).TypeIs (.ref C) "type":=⟨_,b,rfl⟩;refine Vj (T2 ?_);show wpAny _ _ (callAny (.ref C) _) _ _ _;repeat(any_goals(first|assumption|with_reducible refine Ph b ?_|wp_step))
 refine⟨rfl,?_⟩;exact codeAny_call_builtin_at (Rg _ (by decide+kernel)) entry_typeCall (wpAny_check_type_call_sub b (lz F T b j c (λh' e k=>i h' e k) a))
theorem ql{s:NL}{M:To}{env:Uc}{x:UG NJ}{Q:Flow->NL->Prop}(b:bm.contains (.type "BaseException")=NM)(hh:A.handled=NN)(h:wpAny M A x (λv a=>∃e t j,v=.ref e/\a.heap.get? C=NF (Wb nm q C N bs bm hdct sn sub ab col dd k0 k1 k2 k3 k5 newId)/\a.heap.get? e=NF {cls:=.ref C,dict:=j,data:=.fields #[.ref t,.none,.none,.none,.bool NP,.none]}/\E (.ref e) a) E s):wpAny M A (raiseStmt env (NF x) NN) Q E s:=by
 have f:(Of C::bm).contains (.type "BaseException")=NM:=by rw[List.contains_cons,b,Bool.or_true]
 unfold raiseStmt;refine NG (O3 h (λv a c=>?_) λ_ _ x=>x);obtain⟨e,t,j,rfl,i,k,hE⟩:=c;obtain⟨m,g,d,l,os⟩:=a;repeat(first|with_reducible refine Ph k ?_|with_reducible refine Ph i ?_|(with_reducible refine Wl i ?_;rw[f])|wp_step)
 exact wpAny_raiseNew_none hh hE
end
noncomputable def qm(K:NS)(C:NR):Bool:=PySem.W.excIn K C yN "ValueError.__new__"
inductive L6(h:Oy)(C:NR):Prop where|mk(bm:List NJ)(N:NR)(nm q:Oo)(bs:List NJ)(hdct:Bool)(sn:List Oo)(sub:_)(ab:_)(col:_)(dd:Option NR)(k0 k1 k2 k3 k5:Option NJ)(mN:Oo->Option NJ)(hC:h.get? C=NF (Wb nm q C N bs bm hdct sn sub ab col dd k0 k1 k2 k3 k5 "ValueError.__new__"))(hN:h.Ns N mN)(hi:mN "__init__"=NN)(T:OwnTail h yN bm)
theorem uN{K:NS}{h:Oy}{C:NR}(X:K.In h)(q:qm K C=NM):L6 h C:=by
 unfold qm PySem.W.excIn at q;split at q
 .rename_i v cd e t;split at q
  .rename_i y w k0 j i g n f m k;simp only[N0,beq_iff_eq,P4]at q;obtain⟨⟨⟨⟨⟨rfl,rfl⟩,a⟩,s⟩,aD⟩,b⟩:=q;obtain⟨nm,bs,r,ns,p,hd,o,sub,x,d,u⟩:=cd;dsimp only at m a aD b;subst m a;have c:e=#[k0,j,i,g,NF (.builtin "ValueError.__new__"),f]:=by
    obtain⟨l⟩:=e;simp only at k;rw[k]
   subst c;exact⟨w,ns,nm,p,bs,hd,o,sub,x,d,v,k0,j,i,g,f,_,X _ _ t,.of_isNs (PySem.W.isNs_of_in X aD),PySem.W.nsMap_none_of_in X aD b,PySem.W.tail_of_in X s⟩
  .cases q
 .cases q
section
variable{X:Cx}{F:Fx}{e:Ob}{es:List Ob}{tas:af->M (List A)}
theorem FJ{x:Oo}{C:NR}{np cpos:P8}{pins:List (NR×OW)}{s:NL}{σ:St}{H:Hp}{ρ:af}{k:Nat}{R:Nat->Prop}{Q:NJ->NL->Prop}(I:Inv X pins σ H s)(S:bX F ρ k σ H)(ha:DA X F (e::es) tas)(h:(do let as<-tas ρ;M.need (as.length<=NW):M Unit).run k (λ_ J=>R J) F.E)(Y:Gl X x)(V:X.mg x=NF (.ref C))(U:qm X.K C=NM)(n:(x==("__debug__":Oo))=NP)(v:Og (e::es) X.env=(NP,Qa e X.env)::Og es X.env)(l:(Qu cpos (Og es X.env)).any (·.1)=NP)(q:∀k1 b s1 h' a t,Inv X pins σ b s1->Ext F.toFb H k b k1->bX F ρ k1 σ b->R k1->yO s1.heap h' a C->h'.get? a=NF (Dt C t)->Q (.ref a) {s1 with heap:=h'}):wpAny (N2 X.prog X.w) X.A (Qa (.Call (.Name x np) (e::es) [] cpos) X.env) Q X.xe s:=by
 obtain⟨bm,N,nm,q0,bs,y,sn,sub,ab,a0,dd,k0,k1,k2,k3,k5,mN,Z,hN,m,T⟩:=uN I.ok.mod.Ec U;refine wpAny_Call_ofName (iB I Y V ?_ n);unfold callWith;rw[v];have u:=ha.pa cpos pins s σ H _ I (qb.next (Q:=λi b=>∃as k1,i.length=as.length/\Ext F.toFb H k b k1/\bX F ρ k1 σ b/\as.length<=NW/\R k1) S h λas k1 i b o p L B=>⟨as,k1,Paired.length L,o,p,B.1,B.2⟩);rw[v]at u;have c:(Qu cpos ((NP,Qa e X.env)::Og es X.env)).any (·.1)=NP:=by
  show(NP||(Qu cpos (Og es X.env)).any (·.1))=NP;rw[l];rfl
 refine NG (OE (TL (bo u λG s1⟨i,b,g,r,as,j,W,o,p,O,z⟩=>NG (Qe ?_))));obtain⟨hh,gg,d,tk,os⟩:=s1;have D:=g.bk _ _ Z;have c2:=hN.keeps g.bk;have c3:=T.keeps g.bk;simp only[c];refine NG (wpAny_keeperOf_exc D ?_);refine NG (wM PySem.F.excBase_ValueError c3 D c2 m (λh' a f=>NG (OE (wpAny_point (NO ?_)))) (by show G.length<=NW;rw[<-r.length,W];exact O));obtain⟨t,P⟩:=f.there;exact q j b _ h' a t g o p z f P
theorem yP{x:Oo}{C:NR}{np cpos pos:P8}(J:X.calm=NM)(w:xx X F)(ha:DA X F (e::es) tas)(D:Gl X x)(B:X.mg x=NF (.ref C))(o:qm X.K C=NM)(j:(x==("__debug__":Oo))=NP)(G:Og (e::es) X.env=(NP,Qa e X.env)::Og es X.env)(i:(Qu cpos (Og es X.env)).any (·.1)=NP):DS X F (.Raise (NF (.Call (.Name x np) (e::es) [] cpos)) NN pos) (λρ=>do let as<-tas ρ;M.need (as.length<=NW);M.throw ⟨.exc C [],ρ⟩):=by
 refine⟨ha.hK,λb s m H Z I⟨ρ,k,S,h⟩=>?_⟩;obtain⟨bm,N,nm,q,bs,hdct,sn,sub,ab,col,dd,k0,k1,k2,k3,k5,Q,L,hN,y,T⟩:=uN I.ok.mod.Ec o;rw[arm_exec_Raise];refine NG (Qe ?_);refine ql (C:=C) (nm:=nm) (q:=q) (N:=N) (bs:=bs) (bm:=bm) (hdct:=hdct) (sn:=sn) (sub:=sub) (ab:=ab) (col:=col) (dd:=dd) (k0:=k0) (k1:=k1) (k2:=k2) (k3:=k3) (k5:=k5) (newId:="ValueError.__new__") (T.hasType PySem.F.excBase_ValueError.hasBase) (I.ok.hd J) ?_;have v:(do let as<-tas ρ;M.need (as.length<=NW):M Unit).run k (λ_ u=>F.E ⟨.exc C [],ρ⟩ u) F.E:=h;refine NG (FJ I S ha v D B o j G i λg d f O a t l R P z c n=>NG (Qe (NO ?_)));have un:d a=NN:=l.aD.fresh c.ge;have r:Inv X b m d {f with heap:=O}:=l.kept (t':=f.toks) c.keeps;exact⟨a,t,NN,rfl,r.bk _ _ L,n,w b m ρ d g _ a C NN [] r P ⟨f,d,l,un,c.ge,_,_,n,rfl,rfl,rfl,.inl rfl⟩ trivial z⟩
end
noncomputable def gY(K:NS)(c P:NR):Option Bool:=if Sb K (.ref P) (.type "BaseException")=NF NM then(match Sb K (.ref P) (.ref P)with
  |some _=>Sb K (.ref c) (.ref P)|none=>NN)else NN
theorem qo{K:NS}{M:To}{A:Ov}{E:NJ->NL->Prop}{s:NL}{e c P:NR}{h:OW}{b:Bool}{Q:Bool->NL->Prop}(X:K.In s.heap)(l:s.heap.get? e=NF h)(m:h.cls=.ref c)(hb:gY K c P=NF b)(q:Q b s):wpAny M A (excMatches (.ref e) (.ref P)) Q E s:=by
 unfold gY at hb;split at hb
 .rename_i p;split at hb
  .rename_i v n;obtain⟨k,j,t⟩:=RW (M:=M) X n;obtain⟨_,_,i⟩:=RW (M:=M) X p;obtain⟨_,_,f⟩:=RW (M:=M) X hb;have a:∀b o,s.heap.get? b=NF o->s.heap.get? b=NF o:=λ_ _ e=>e;unfold excMatches Us isExcClass;refine NG (NG (k A _ _ s a ?_));refine RH tc_notTuple ?_;rw[if_neg (by decide)];refine NG (NO ?_);refine NG ?_;rw[T4];refine NG (NG (NG (j A _ _ s a ?_)));rw[if_pos rfl];refine i A _ _ s a ?_;rw[if_neg (by decide)];obtain⟨u,g,d,r,os⟩:=s;repeat(first|(with_reducible refine Ph l ?_;rw[m])|(with_reducible refine f A _ _ _ a ?_)|wp_step)
   refine f A _ _ _ a ?_;cases b with
   |true=>exact NO (NO (NO q))|false=>exact NO (NO (NO q))
  .cases hb
 .cases hb
section
variable{X:Cx}{F:Fx}{pins:List (NR×OW)}{σ:St}{H:Hp}{s s':NL}
theorem Inv.Ji{a c:NR}{C:Option NR}{M:To}{Q:Unit->NL->Prop}{E:NJ->NL->Prop}(I:Inv X pins σ H s)(h:X.stack=X.env::X.outer)(t:X.env.frame=NF X.env.locals)(v:sR X pins σ s.heap H a c C)(q:∀s',Inv X pins σ H s'->sR X pins σ s'.heap H a c C->Q () s'):wpAny M X.A (SO (.ref a) X.env) (λ_ s'=>wpAny M X.A (Ue (.ref a) NN) Q E s') E s:=by
 obtain⟨l,H0,k,B⟩:=v;have hA:=I.ok.frames;have f:=I.stack;rw[h]at hA f;have r:l.heap.objs.size<=s.heap.objs.size:=by
  obtain⟨_,D,S,R,J,_⟩:=B;exact OC D (Sg (N1 J))
 refine uM hA f t r (λb hb=>I.aD.fresh hb) B λw ch L=>?_;have m:∀b,b∈gf (X.env::X.outer)->H b=NN:=λb hb=>I.j_ b (by rw[h];exact hb);have i:∀b,H b≠NN->b∉ch:=λb n z=>n (L.un b z);have g:∀{b:NR},b<l.heap.objs.size->b∉ch:=λhb z=>absurd hb (Nat.not_lt.mpr (L.ge _ z));have O:Inv X pins σ H {s with heap:=w}:=by
  refine I.t5 (s':={s with heap:=w}) (ch:=ch) rfl ?_ (λb o e=>?_) I.bare λb hb=>⟨.inr (OC k.sz (L.ge b hb)),λz=>?_,λx N e z=>?_,λp G z=>?_⟩
  .rw[h];exact⟨λb o e n hb hx=>L.keep b o e hx hb,λb o e n hb hx=>L.slot b o e hb,λ_ _ _ n _=>n,λb o e _=>L.there b o e,λ_ _ z=>z,λ_ _ _ z=>z,λb ps z=>⟨#[],by rw[z];simp⟩⟩
  .refine(I.aD b o e).gI (λd u hd z=>L.keep d u z (i d ?_) λy=>?_) (λ_ z=>z) λ_ _ z=>z
   .rcases hd with y|y;.rw[y,e];exact(λz=>nomatch z)
    .rw[y];exact(λz=>nomatch z)
   .have n:=m d y;rcases hd with y|y;.rw[y,e]at n;cases n
    .rw[y]at n;cases n
  .exact g (z▸k.lt) hb
  .obtain⟨P,K⟩:=k.cell x N e;exact g (z▸K.lt) hb
  .exact g (z▸N1 (k.pin p G).1) hb
 exact q _ O ⟨l,H0,k,L.MT⟩
theorem Inv.hold{a c:NR}{g:Option NR}(I:Inv X pins σ H s)(d:sR X pins σ s.heap H a c g):∃ob,Inv X pins σ (upd H a (.bP ob (.ext λ_=>True))) s/\ob.cls=.ref c/\ob.dict=g/\(∃vs,ob.data=.fields vs)/\H a=NN:=by
 obtain⟨o,H0,b,un,ge,h,vs,f,k,hd,j,_⟩:=d;refine⟨h,I.uf (OC b.sz ge) un (λz=>?_) (λx m e z=>?_) (λp i z=>?_) ⟨f,trivial,⟨_,f⟩,λ_ _ _ _=>trivial⟩,k,hd,⟨vs,j⟩,un⟩;.exact absurd (z▸b.lt) (Nat.not_lt.mpr ge)
 .obtain⟨n,l⟩:=b.cell x m e;exact absurd (z▸l.lt) (Nat.not_lt.mpr ge)
 .exact absurd (z▸N1 (b.pin p i).1) (Nat.not_lt.mpr ge)
theorem Inv.landed{a c:NR}{G:Option NR}{M:To}{A:Ov}{Q:Unit->NL->Prop}{E:NJ->NL->Prop}(I:Inv X pins σ H s)(v:sR X pins σ s.heap H a c G)(q:∀s',Inv X pins σ H s'->sR X pins σ s'.heap H a c G->Q () s'):wpAny M A (Ue (.ref a) NN) Q E s:=by
 obtain⟨t,H0,i,un,ge,y,w,r,C,hd,n,u⟩:=v;rcases u with m|⟨T,S,J,m,l,f,k,D,h,L⟩
 .unfold Ue;refine NG (UO r n m ?_);rw[if_neg (by decide)];exact NO (q s I ⟨t,H0,i,un,ge,y,w,r,C,hd,n,.inl m⟩)
 .have j:3<J.size:=(Array.getElem?_eq_some_iff.mp L).1;refine wpAny_setFlight_none r n m D h j ?_;have d:∀b,b≠T->(s.heap.update T (Qf (·.setIfInBounds 3 Oz))).get? b=s.heap.get? b:=λb hb=>Oa _ _ (OX hb);have g:∀{b:NR},b<t.heap.objs.size->b≠T:=λhb z=>absurd (z▸hb) (Nat.not_lt.mpr f);have P:Inv X pins σ H {s with heap:=s.heap.update T (Qf (·.setIfInBounds 3 Oz))}:=I.turned (t':=s.toks) (it:=T) (λb o hb e=>(d b hb).trans e) k (OX (g i.lt)) (.inr (OC i.sz f)) (λx O e=>by obtain⟨R,N⟩:=i.cell x O e;exact g N.lt) (λp K=>g (N1 (i.pin p K).1));exact q _ P ⟨t,H0,i,un,ge,y,w,(d a (OX l)).trans r,C,hd,n,.inr ⟨T,_,_,m,l,f,k,OF _ D (P5 (Pa h _)),Pa h _,by simp[TY,j]⟩⟩
theorem Inv.BH{i:Nat}{n:Oo}{l:P8}{M:To}{A:Ov}{Q:Unit->NL->Prop}{E:NJ->NL->Prop}(I:Inv X pins σ H s)(hN:X.N.Nodup)(W:X.N[i]?=NF n)(hx:X.env.scope.names.lookup n=NF .local)(q:∀s',Inv X pins (σ.set i NN) H s'->Q () s'):wpAny M A (do VU X.env n .none;Wc X.env n l) Q E s:=by
 obtain⟨m,U,V⟩:=id I.loc;have B:(X.env.scope.kind==.class||(X.env.scope.kind==.module&&X.env.locals !=X.env.globals))=NP:=by rw[I.ok.kind];rfl
 refine wpAny_nameGoes_keeps hx U B λh' v L f=>q _ ?_;have xB:=I.xB;have O:=I.free;have d:∀b o,X.br.heap.get? b=NF o->b≠X.env.locals:=λb o e=>Oj (Od (N1 e) I.ok.above);refine⟨I.ok,I.os,I.bare,⟨λb o e k hb a=>(f.2 b (d b o e)).trans (I.base.keep b o e k hb a),λb o e k hb a=>?_,I.base.free,λb o e a=>?_,I.base.gJ,I.base.gc,I.base.gK⟩,⟨_,L,λj y w h g Y=>?_⟩,λx c e=>?_,I.free,I.cF,λp T=>?_,λb ob e=>?_,?_⟩
 .obtain⟨P,h⟩:=I.base.slot b o e k hb a;exact⟨P,(f.2 b (d b o e)).trans h⟩
 .obtain⟨R,h⟩:=I.base.there b o e a;exact⟨R,(f.2 b (d b o e)).trans h⟩
 .have t:i≠j:=by
   rintro rfl;rw[PK]at g;rw[if_pos rfl]at g;split at g<;>cases g
  rw[PK,if_neg t]at g;have J:y≠n:=λz=>t (kJ hN W (z▸h));obtain⟨u,r,lk⟩:=V j y w h g Y;refine⟨u,r,?_⟩;rcases lk with⟨G,C⟩|⟨G,c,C,S⟩;.exact .inl ⟨G,(if_neg J).trans C⟩
  .obtain⟨o,K,hd⟩:=S;exact .inr ⟨G,c,C,o,(f.2 c (xB y c C)).trans K,hd⟩
 .obtain⟨w,o,K,hd⟩:=I.cell x c e;exact⟨w,o,(f.2 c (xB x c e)).trans K,hd⟩
 .obtain⟨e,k,ne,r⟩:=I.pin p T;exact⟨(f.2 p.1 ne).trans e,k,ne,r⟩
 .refine(I.aD b ob e).gI (λc Z D z=>(f.2 c ?_).trans z) (λ_ z=>z) λ_ _ z=>z;rintro rfl;rcases D with rfl|D;.rw[O]at e;cases e
  .rw[O]at D;cases D
 .rw[VC];exact I.len
end
inductive Hd where|slot(j:Nat)|cst(d:D)
noncomputable def K6(h:Hd)(ρ:af):Option D:=match h with
 |.slot j=>gk ρ j|.cst d=>NF d
noncomputable def uO(i:Option Nat)(x:D)(ρ:af):af:=match i with
 |some i=>ρ.set i (NF (.d x))|none=>ρ
noncomputable def MU(i:Option Nat)(ρ:af):af:=match i with
 |some i=>ρ.set i NN|none=>ρ
noncomputable def qp(K:NS)(P:NR)(i:Option Nat)(y:Nat)(h:Hd)(x:Xc):M Fl:=match x.x with
 |.exc c nm=>do
  M.need (gY K c P=NF NM)let d<-M.get (K6 h (uO i (.exc c nm) x.en))pure (.nx (MU i ((uO i (.exc c nm) x.en).set y (NF (.d d)))))|_=>M.fail
noncomputable def wN(m:M Fl)(h:Xc->M Fl):M Fl:=⟨λk Q E=>m.run k Q (λx a=>(h x).run a Q E),λz q e=>m.mono z q λx a y=>(h x).mono y q e⟩
section
variable{X:Cx}{F:Fx}{pins:List (NR×OW)}{σ:St}{H:Hp}{s s':NL}
noncomputable abbrev Cx.as(X:Cx)(A:Ov)(calm:Bool)(pn:List (NR×OW))(xe:NJ->NL->Prop):Cx:={X with A:=A,calm:=calm,pn:=pn,xe:=xe}
theorem Cx.Ok.as(h:X.Ok){A:Ov}{calm:Bool}{pn:List (NR×OW)}{xe:NJ->NL->Prop}(a:A.frames=X.A.frames)(hd:calm=NM->A.handled=NN):(X.as A calm pn xe).Ok:=⟨h.mod,h.kind,h.glob,h.blt,h.above,h.inj,h.has,h.Ed,hd,a.trans h.frames,h.HD,h.KZ,h.bs,h.AB,h.r9,h.vU,h.jj,h.C_⟩
theorem Inv.as{A:Ov}{calm:Bool}{pn pins':List (NR×OW)}{xe:NJ->NL->Prop}(I:Inv X pins σ H s)(b:A.frames=X.A.frames)(hd:calm=NM->A.handled=NN)(a:∀p∈pn++pins',p∈X.pn++pins):Inv (X.as A calm pn xe) pins' σ H s:=⟨I.ok.as b hd,I.os,I.bare,I.base,I.loc,I.cell,I.free,I.cF,λp h=>I.pin p (a p h),I.aD,I.len⟩
theorem Inv.yQ{A:Ov}{calm:Bool}{pn pins':List (NR×OW)}{xe:NJ->NL->Prop}(ok:X.Ok)(I:Inv (X.as A calm pn xe) pins' σ H s)(a:∀p∈X.pn++pins,p∈pn++pins'):Inv X pins σ H s:=⟨ok,I.os,I.bare,I.base,I.loc,I.cell,I.free,I.cF,λp h=>I.pin p (a p h),I.aD,I.len⟩
theorem bX.unset{ρ:af}{k:Nat}(S:bX F ρ k σ H)(i:Nat):bX F (ρ.set i NN) k (σ.set i NN) H where
 len:=by simp[S.len]
 at_:=λj x e=>by
  rw[PK]at e⊢;by_cases h:i=j
  .subst h;rw[if_pos rfl]at e;split at e<;>cases e
  .rw[if_neg h]at e⊢;exact S.at_ j x e
 apart:=λg f x y u d b a m l c=>by
  rw[PK]at b a c⊢;have n1:i≠g:=by
   rintro rfl;rw[if_pos rfl]at b;split at b<;>cases b
  have n2:i≠f:=by
   rintro rfl;rw[if_pos rfl]at a;split at a<;>cases a
  rw[if_neg n1]at b c;rw[if_neg n2]at a⊢;exact S.apart g f x y u d b a m l c
 live:=S.live;ext:=S.ext;km:=S.km
theorem FK{B:Fb}{a c:NR}{h:Option NR}{nm:List D}{ob:OW}{u:HO}(b:a≠B.p)(e:H a=NF (.bP ob u))(g:ob.cls=.ref c)(hd:ob.dict=h)(f:∃vs,ob.data=.fields vs)(i:qk B H h nm):Is B H (.ref a) (.exc c nm):=by
 simp only[Is];match nm,i with
 |[],_=>exact⟨a,[],rfl,⟨b,ob,u,e,g,f⟩,.nil⟩|[d],⟨x,j,v,n,m,l,k⟩=>exact⟨a,[v],rfl,⟨b,ob,u,x,j,e,g,f,hd.trans n,m,l⟩,.cons k .nil⟩
end
section
variable{X:Cx}{F:Fx}{body:List Qq}{tb:af->M Fl}
theorem yR{cn n J:Oo}{P:NR}{np C pos yp ap:P8}{i y:Nat}{hd:Hd}{ex:Ob}(a9:X.stack=X.env::X.outer)(b3:X.env.frame=NF X.env.locals)(hK:X.K=F.K)(hN:X.N.Nodup)(hc:X.calm=NM)(hb:∀(xe:NJ->NL->Prop)(pn:List (NR×OW))(E':Xc->Nat->Prop)(Hs:Hp)(ks:Nat),Ud (N2 X.prog X.w) X.A X.env xe->xx (X.as X.A NM pn xe) {F with E:=E',Hs:=Hs,ks:=ks}->wF (X.as X.A NM pn xe) {F with E:=E',Hs:=Hs,ks:=ks} body tb)(hg:Gl X cn)(hm:X.mg cn=NF (.ref P))(b6:(cn==("__debug__":Oo))=NP)(hi:X.N[i]?=NF n)(V:X.env.scope.names.lookup n=NF .local)(hy:X.N[y]?=NF J)(b0:Loc X.env.scope J)(b2:X.fn J=NM\/X.env.scope.names.lookup J=NF .local)(a8:Qz ex (NF (.Name J yp)) ap.line X.env=pure NP)(hex:∀(A:Ov)(pn:List (NR×OW))(xe:NJ->NL->Prop),DE (X.as A NP pn xe) F ex (λρ=>M.get (K6 hd ρ)))(he:X.env.kindOf n=NF .local):DS X F (.Try body [.ExceptHandler (NF (.Name cn np)) (NF n) [.Assign [.Name J yp] ex ap] C] [] [] pos) (λρ=>wN (tb ρ) (qp X.K P (NF i) y hd)):=by
 refine⟨hK,λg s σ H Z I⟨ρ,k,S,h⟩=>?_⟩;refine wpAny_Try_except ?_;have hA:X.A.handled=NN:=I.ok.hd hc;let L:NJ->NL->Prop:=λe a4=>wpAny (N2 X.prog X.w) X.A (SO e X.env) (λ_ a3=>wpAny (N2 X.prog X.w) X.A (Ue e NN) (λ_ a2=>wpAny (N2 X.prog X.w) X.A (handleBy e X.env [.ExceptHandler (NF (.Name cn np)) (NF n) [.Assign [.Name J yp] ex ap] C]) (SP X g Z) X.xe a2) X.xe a3) X.xe a4;have c0:xx (X.as X.A NM (X.pn++g) L) {F with E:=λx u=>(qp X.K P (NF i) y hd x).run u (wD F Z H k) F.E,Hs:=H,ks:=k}:=by
  intro pins' t R Q u T a c dx nm I' D c1 xn z;have l:∀{t:St}{Q:Hp}{T:NL},Inv (X.as X.A NM (X.pn++g) L) pins' t Q T->Inv X g t Q T:=λI'=>I'.yQ I.ok λp O=>OL _ O;obtain⟨s0,H0,I0,fl⟩:=c1;have S2:bX F R u t Q:=⟨D.len,D.at_,D.apart,D.live,D.ext,S.km.trans D.km⟩;show wpAny (N2 X.prog X.w) X.A (SO (.ref a) X.env) _ X.xe T;refine(l I').Ji a9 b3 ⟨s0,H0,l I0,fl⟩ λs3 I3 f3=>?_;obtain⟨a6,z⟩:=z;obtain⟨d,b8,z⟩:=M.run_get.mp z;have z:wD F Z H k (.nx (((R.set i (NF (.d (.exc c nm)))).set y (NF (.d d))).set i NN)) u:=z;refine wpAny_handleBy_cons (codeAny_handlers_test ?_) (by intro q;cases q);have a5:(X.A.mark (NF (.ref a))).frames=X.A.frames:=rfl;have I4:=I3.as (A:=X.A.mark (NF (.ref a))) (calm:=NP) (pn:=X.pn) (pins':=g) (xe:=λ_ _=>False) a5 (λq=>nomatch q) (λp O=>O);refine iB (X:=X.as (X.A.mark (NF (.ref a))) NP X.pn (λ_ _=>False)) I4 hg hm ?_ b6;obtain⟨e0,e5,e4,d3,e3,oe,vs,b4,b9,d2,e2,d1⟩:=id f3;refine qo I3.jg b4 b9 a6 ?_;rw[if_pos rfl];refine codeAny_handlers_suite_as ?_;refine I3.landed f3 λs5 I5 f5=>?_;obtain⟨ob,I6,o1,o2,o3,un⟩:=I5.hold f5;have ne:a≠F.p:=λe=>S2.live (e▸un);have ix:Is F.toFb (upd Q a (.bP ob (.ext λ_=>True))) (.ref a) (.exc c nm):=FK ne aj o1 o2 o3 (xn.mono (Ext.new (k:=u) un).kp);have S6:=S2.mono (Ext.new (F:=F.toFb) (k:=u) (o:=.bP ob (.ext λ_=>True)) un);have I7:=I6.as (A:=X.A.mark (NF (.ref a))) (calm:=NP) (pn:=X.pn) (pins':=g) (xe:=λ_ _=>False) a5 (λq=>nomatch q) (λp O=>O);refine fv (X:=X.as (X.A.mark (NF (.ref a))) NP X.pn (λ_ _=>False)) I7 hN hi (.inl V) (v:=.ref a) rfl (λs8 I8=>?_) (.inr V);have S8:=S6.set i ix;have c2:DS (X.as (X.A.mark (NF (.ref a))) NP X.pn (λ_ _=>False)) F (.Assign [.Name J yp] ex ap) _:=yv (X:=X.as (X.A.mark (NF (.ref a))) NP X.pn (λ_ _=>False)) y hN (hex _ _ _) hy b0 a8 b2;have run:=c2.ps g s8 _ _ ⟨λG Y=>∃k9,Kp F.toFb Q u Y k9/\bX F ((R.set i (NF (.d (.exc c nm)))).set y (NF (.d d))) k9 G Y/\k9=u,λ_ _=>False,λ_ _=>False,λ_ _=>False⟩ I8 ⟨_,u,S8,by
   refine M.run_get.mpr ⟨d,b8,?_⟩;exactλG Y e9 S9=>⟨u,((Ext.new (F:=F.toFb) (k:=u) (o:=.bP ob (.ext λ_=>True)) un).kp).trans e9,S9,rfl⟩⟩;have go:wpAny (N2 X.prog X.w) (X.A.mark (NF (.ref a))) (execs [.Assign [.Name J yp] ex ap] X.env) (λf s9=>wpAny (N2 X.prog X.w) X.A (do VU X.env n .none;Wc X.env n C) (λ_ a7=>SP X g Z f a7) X.xe s9) (λ_ _=>False) s8:=by
   refine NG (O3 run (λf s9 q9=>?_) λ_ _ q=>q);cases f with
   |next=>
    obtain⟨G,Y,I9,k9,e9,S9,rfl⟩:=q9;refine NO ?_;have d0:Inv X g G Y s9:=I9.yQ I.ok λp O=>O;refine d0.BH hN hi V λd6 c3=>⟨_,Y,c3,?_⟩;refine z _ Y ?_ (S9.unset i);exact⟨λb o hb st e=>e9.keep b o hb st (D.km.keep b o hb st e),λq=>e9.live (D.km.live q),OC D.km.le e9.le,λq f=>e9.dD q (D.km.dD q f)⟩|ret v=>obtain⟨_,_,_,_,_,q⟩:=q9;exact q.elim|brk=>obtain⟨_,_,_,q⟩:=q9;exact q.elim|cont=>obtain⟨_,_,_,q⟩:=q9;exact q.elim
  exact O3 go (λ_ _ q=>q) λ_ _ q=>q.elim
 have S0:bX {F with E:=λx u=>(qp X.K P (NF i) y hd x).run u (wD F Z H k) F.E,Hs:=H,ks:=k} ρ k σ H:=⟨S.len,S.at_,S.apart,S.live,S.ext,.refl⟩;have pb:=(hb L (X.pn++g) _ H k PassesOwn.looking c0).ps [] s σ H Z (I.as rfl (λ_=>hA) (by simp)) ⟨ρ,k,S0,M.wk h λfl u q=>by cases fl with
  |nx a0=>exactλj B e1 m=>q j B e1 ⟨m.len,m.at_,m.apart,m.live,m.ext,S.km.trans m.km⟩|rt d=>exact q|bk a0=>exactλj B e1 m=>q j B e1 ⟨m.len,m.at_,m.apart,m.live,m.ext,S.km.trans m.km⟩|ct a0=>exactλj B e1 m=>q j B e1 ⟨m.len,m.at_,m.apart,m.live,m.ext,S.km.trans m.km⟩⟩;refine O3 pb (λf s1 q=>?_) λ_ _ q=>q;have l:∀{t:St}{Q:Hp}{T:NL},Inv (X.as X.A NM (X.pn++g) L) [] t Q T->Inv X g t Q T:=λI'=>I'.yQ I.ok λp O=>OL _ O;cases f with
 |next=>
  obtain⟨j,B,W,U⟩:=q;exact NO ⟨j,B,l W,U⟩|ret v=>
  obtain⟨w,j,B,W,r,U⟩:=q;exact⟨w,j,B,l W,r,U⟩|brk=>
  obtain⟨j,B,W,U⟩:=q;exact⟨j,B,l W,U⟩|cont=>
  obtain⟨j,B,W,U⟩:=q;exact⟨j,B,l W,U⟩
end
noncomputable def FL:D->Bool
 |.int _=>NM|_=>NP
noncomputable def yS:D->Bool
 |.int _=>NM|.str _=>NM|_=>NP
noncomputable def FO:D->Bool
 |.tup a=>a.all yS|d=>yS d
noncomputable def oh:D->Bool
 |.tup a=>a.all FO|_=>NP
noncomputable def iQ:D->D->Bool
 |.int i,.int j=>decide (i=j)|.str x,.str y=>decide (x=y)|_,_=>NP
noncomputable def fF:List D->List D->Bool
 |[],[]=>NM|x::b,y::a=>iQ x y&&fF b a|_,_=>NP
noncomputable def wO:D->D->Bool
 |.tup b,.tup a=>fF b a|x,y=>iQ x y
noncomputable def iR:List D->List D->Bool
 |[],[]=>NM|x::b,y::a=>wO x y&&iR b a|_,_=>NP
noncomputable def dU:D->D->Bool
 |.tup b,.tup a=>iR b a|x,y=>iQ x y
noncomputable def sS(x:D):Prop:=∃k:Key,x=kD k
theorem iS{x:D}(h:yS x=NM):∃k:Key,x=kD k:=by cases x<;>first|exact⟨.inl _,rfl⟩|exact⟨.inr _,rfl⟩|cases h
theorem m_:∀{xs:List D},xs.all yS=NM->∃ks:List Key,xs=ks.map kD
 |[],_=>⟨[],rfl⟩|x::xs,h=>by
  rw[Q9,N0]at h;obtain⟨k,rfl⟩:=iS h.1;obtain⟨ks,rfl⟩:=m_ h.2;exact⟨k::ks,rfl⟩
theorem yT{x:D}(h:FO x=NM):∃k:NK,x=nD k:=by
 by_cases b:∃a,x=.tup a
 .obtain⟨a,rfl⟩:=b;obtain⟨ks,rfl⟩:=m_ h;exact⟨.inr ks,rfl⟩
 .have h:yS x=NM:=by cases x<;>first|exact h|exact absurd ⟨_,rfl⟩ b
  obtain⟨k,rfl⟩:=iS h;exact⟨.inl k,rfl⟩
theorem lA:∀{xs:List D},xs.all FO=NM->∃ks:List NK,xs=ks.map nD
 |[],_=>⟨[],rfl⟩|x::xs,h=>by
  rw[Q9,N0]at h;obtain⟨k,rfl⟩:=yT h.1;obtain⟨ks,rfl⟩:=lA h.2;exact⟨k::ks,rfl⟩
theorem qr{x:D}(h:oh x=NM):yJ x:=by cases x<;>first|(obtain⟨ks,rfl⟩:=lA h;exact⟨ks,rfl⟩)|cases h
theorem yU{l:List D}(h:l.all oh=NM):∀x∈l,yJ x:=λx hx=>qr (List.all_eq_true.mp h x hx)
theorem uP{l:List D}(h:l.all yS=NM):∀x∈l,sS x:=λx hx=>iS (List.all_eq_true.mp h x hx)
theorem fG(a b:Key):iQ (kD a) (kD b)=NM↔a=b:=by cases a<;>cases b<;>simp[kD,iQ]
theorem nc:∀(a b:List Key),fF (a.map kD) (b.map kD)=NM↔a=b
 |[],[]=>by simp[fF]|[],_::_=>by simp[fF]|_::_,[]=>by simp[fF]|x::a,y::b=>by simp[fF,fG,nc a b]
theorem lB(a b:Key):dU (kD a) (kD b)=decide (a=b):=by
 have:dU (kD a) (kD b)=iQ (kD a) (kD b):=by cases a<;>cases b<;>rfl
 rw[this,RX,fG,decide_eq_true_iff]
theorem BJ(a b:NK):wO (nD a) (nD b)=NM↔a=b:=by cases a with
 |inl a=>cases b with
  |inl b=>
   have:wO (nD (.inl a)) (nD (.inl b))=iQ (kD a) (kD b):=by cases a<;>cases b<;>rfl
   rw[this,fG];simp|inr b=>
   have:wO (nD (.inl a)) (nD (.inr b))=NP:=by cases a<;>rfl
   rw[this];simp
 |inr a=>cases b with
  |inl b=>
   have:wO (nD (.inr a)) (nD (.inl b))=NP:=by cases b<;>rfl
   rw[this];simp|inr b=>
   show fF (a.map kD) (b.map kD)=NM↔_;rw[nc];simp
theorem qt:∀(a b:List NK),iR (a.map nD) (b.map nD)=NM↔a=b
 |[],[]=>by simp[iR]|[],_::_=>by simp[iR]|_::_,[]=>by simp[iR]|x::a,y::b=>by simp[iR,BJ,qt a b]
theorem lC(a b:List NK):dU (.tup (a.map nD)) (.tup (b.map nD))=decide (a=b):=by
 show iR _ _=_;rw[RX,qt,decide_eq_true_iff]
noncomputable def aL:List D->List D->D->Option D
 |k::ks,v::a,d=>if dU k d then NF v else aL ks a d|_,_,_=>NN
noncomputable def bF(ks:List D)(d:D):Bool:=ks.any λk=>dU k d
section
variable{P:N7}{w:Oq}{o:OW}{us:List (Key×NJ)}{xs:List (List NK×NR×NJ)}{hp:Oy}{a:NR}
theorem jq.at(h:jq P w o us)(e:hp.get? a=NF o):hp.DictOf (ar P w) a us:=let⟨i,j,g,f,d,c,b⟩:=h;⟨o,i,j,e,g,f,d,c,b⟩
theorem jq.of(h:hp.DictOf (ar P w) a us):∃o,hp.get? a=NF o/\jq P w o us:=let⟨o,i,j,e,g,f,d,c,b⟩:=h;⟨o,e,i,j,g,f,d,c,b⟩
theorem jr.at(h:jr P w o xs)(e:hp.get? a=NF o)(k:∀x∈xs,(bJ P w).is hp x.1 x.2.1):hp.DictOfH (bJ P w) a xs:=let⟨g,i,f,d,c,b⟩:=h;⟨o,g,i,e,f,d,c,k,b⟩
theorem jr.of(h:hp.DictOfH (bJ P w) a xs):∃o,hp.get? a=NF o/\jr P w o xs:=let⟨o,g,i,e,f,d,c,_,b⟩:=h;⟨o,e,g,i,f,d,c,b⟩
theorem Jj(h:jq P w o []):jr P w o []:=by
 obtain⟨c,f,e,d,i,b,g⟩:=h;refine⟨c,f,e,d,?_,.nil⟩;generalize c.toList=l at b;cases b;rfl
theorem Jk(h:jr P w o []):jq P w o []:=by
 obtain⟨c,i,g,f,d,j⟩:=h;have e:c.toList=[]:=d;refine⟨c,i,g,f,λk b=>?_,by rw[e];exact .nil,.nil⟩;rw[<-TQ,e]at b;exact nomatch b
theorem jq.om(h:jq P w o us):∀v,o.data≠.cell v:=λv z=>by obtain⟨d,e,c,b,_⟩:=h;rw[b]at z;cases z
theorem jr.om(h:jr P w o xs):∀v,o.data≠.cell v:=λv z=>by obtain⟨d,e,c,b,_⟩:=h;rw[b]at z;cases z
end
section
variable{B:Fb}{H:Hp}{o:OW}{ks:List D}{vs:List V}
theorem bq.FP(h:bq B H o ks vs)(b:∀x∈ks,sS x):∃(a:List (Key×V))(us:List (Key×NJ)),KV a us/\jq B.P B.w o us/\ks=a.map (λx=>kD x.1)/\vs=a.map (·.2):=by
 rcases h.2 with h|⟨a,f,d,c,g,rfl,rfl⟩;.exact h
 .cases a with
  |nil=>cases d;exact⟨[],[],.nil,Jk c,rfl,rfl⟩|cons x r=>
   obtain⟨k,e⟩:=b _ NV;cases k<;>cases e
theorem bq.FQ(h:bq B H o ks vs)(c:∀x∈ks,yJ x):∃(a:List (List NK×NR×V))(xs:List (List NK×NR×NJ)),KA a xs/\jr B.P B.w o xs/\(∀x∈a,ek B H x.2.1 x.1)/\ks=a.map (λx=>D.tup (x.1.map nD))/\vs=a.map (·.2.2):=by
 rcases h.2 with⟨a,i,f,d,rfl,rfl⟩|h;.cases a with
  |nil=>cases f;exact⟨[],[],.nil,Jj d,λx hx=>(nomatch hx),rfl,rfl⟩|cons x r=>
   obtain⟨k,e⟩:=c _ NV;obtain⟨b,g⟩:=x;cases b<;>cases e
 .exact h
theorem ng{a:Type}[DecidableEq a]{k0 k:a}{v:V}{r:List (a×V)}:gh ((k0,v)::r) k=if k0=k then NF v else gh r k:=by
 unfold gh;rw[RS];by_cases h:k0=k;.simp[h]
 .simp[h]
theorem uQ{k:Key}{e:D}:∀{a:List (Key×V)}{ds:List D},ae B H (a.map (·.2)) ds->aL (a.map λx=>kD x.1) ds (kD k)=NF e->∃v,gh a k=NF v/\Is B H v e
 |[],ds,_,q=>by cases ds<;>cases q|(k0,c)::r,[],h,_=>by simp[ae]at h|(k0,c)::r,d::ds,h,q=>by
  simp only[Ot,ae]at h;obtain⟨x,j,i,g,f⟩:=h;cases i;simp only[Ot,aL,lB]at q;rw[ng];by_cases b:k0=k
  .simp only[b,decide_true,if_true]at q⊢;cases q;exact⟨_,rfl,g⟩
  .simp only[b,decide_false,if_false]at q⊢;exact uQ f q
theorem sT{k:Key}:∀(a:List (Key×V)),bF (a.map λx=>kD x.1) (kD k)=(gh a k).isSome
 |[]=>rfl|(k0,d)::r=>by
  have b:=sT (k:=k) r;unfold bF at b⊢;rw[Ot,Rv,b,ng,lB];by_cases c:k0=k<;>simp[c]
theorem lD{k0 k:List NK}{p:NR×NJ}{r:List (List NK×NR×NJ)}:W3 ((k0,p)::r) k=if k0=k then NF p else W3 r k:=by
 unfold W3;rw[RS];by_cases h:k0=k;.simp[h]
 .simp[h]
theorem uR{k:List NK}{e:D}:∀{a:List (List NK×NR×V)}{xs:List (List NK×NR×NJ)}{ds:List D},KA a xs->ae B H (a.map (·.2.2)) ds->aL (a.map λx=>D.tup (x.1.map nD)) ds (.tup (k.map nD))=NF e->∃p v,W3 xs k=NF p/\RelV v p.2/\Is B H v e
 |[],_,ds,_,_,q=>by cases ds<;>cases q|_::_,_,[],_,h,_=>by simp[ae]at h|(k0,w,n)::r,(u,b1,s)::xs,d::ds,.cons z t,h,q=>by
  obtain⟨c,g,b⟩:=z;simp only at c g b;subst c;simp only[Ot,ae]at h;obtain⟨x,m,l,j,i⟩:=h;cases l;simp only[Ot,aL,lC]at q;rw[lD];by_cases f:k0=k
  .simp only[f,decide_true,if_true]at q⊢;cases q;exact⟨_,_,rfl,b,j⟩
  .simp only[f,decide_false,if_false]at q⊢;exact uR t i q
theorem wQ{k:List NK}:∀{a:List (List NK×NR×V)}{xs:List (List NK×NR×NJ)},KA a xs->bF (a.map λx=>D.tup (x.1.map nD)) (.tup (k.map nD))=(W3 xs k).isSome
 |[],_,.nil=>rfl|(k0,j,g)::r,(i,b1,h)::xs,.cons z t=>by
  obtain⟨b,f,e⟩:=z;simp only at b;subst b;have c:=wQ (k:=k) t;unfold bF at c⊢;rw[Ot,Rv,c,lD,lC];by_cases d:k0=k<;>simp[d]
end
section
variable{X:Cx}{F:Fx}{pins:List (NR×OW)}{σ:St}{H:Hp}{s:NL}{a:NR}{o:OW}{ks ds:List D}{vs:List V}{d e:D}{x:V}{v:NJ}{A:Ov}{E:NJ->NL->Prop}
theorem wA.get(I:Inv X pins σ H s)(hK:X.K=F.K)(h:wA F.toFb H a o):s.heap.get? a=NF o:=by
 obtain⟨_,_,⟨u,h⟩|h⟩:=h;.exact(I.aD a _ h).1
 .exact I.jg _ _ (by rw[hK];exact h)
theorem dW(I:Inv X pins σ H s)(hK:X.K=F.K):∀{b:List (List NK×NR×V)}{xs:List (List NK×NR×NJ)},KA b xs->(∀x∈b,ek F.toFb H x.2.1 x.1)->∀x∈xs,(bJ X.prog X.w).is s.heap x.1 x.2.1
 |_,_,.nil,_,x,hx=>nomatch hx|(k0,l,i)::r,(k,b1,j)::xs,.cons z t,h,x,hx=>by
  obtain⟨f,c,g⟩:=z;simp only at f c;subst f c;rcases List.mem_cons.mp hx with rfl|hx;.exact dS I hK (h _ NV)
  .exact dW I hK t (λy hy=>h y (NX _ hy)) x hx
noncomputable def kinds(ks:List D)(d:D):Prop:=(∀x∈ks,sS x)/\sS d\/(∀x∈ks,yJ x)/\yJ d
theorem iT(h:bq F.toFb H o ks vs)(c:s.heap.get? a=NF o):s.TypeIs (.ref a) "dict":=by
 rcases h.2 with⟨_,_,_,⟨f,g,b,_⟩,_⟩|⟨_,_,_,⟨f,g,b,_⟩,_⟩;.exact⟨o,c,b.1⟩
 .exact⟨o,c,b.1⟩
theorem BK{Q:NJ->NL->Prop}(hu:A.units+2<Pj)(I:Inv X pins σ H s)(hK:X.K=F.K)(hP:X.prog=F.P)(hw:X.w=F.w)(h:bq F.toFb H o ks vs)(z:s.heap.get? a=NF o)(t:ae F.toFb H vs ds)(i:Is F.toFb H x d)(r:RelV x v)(c:kinds ks d)(B:aL ks ds d=NF e)(q:∀y u s',Inv X pins σ H s'->RelV y u->Is F.toFb H y e->Q u s'):wpAny (N2 X.prog X.w) A (XN (.ref a) v) Q E s:=by
 rcases c with⟨c,k,rfl⟩|⟨c,k,rfl⟩
 .obtain⟨g,C,L,ob,rfl,rfl⟩:=h.FP c;rw[<-hP,<-hw]at ob;obtain⟨y,m,l⟩:=uQ t B;have:=eA i;subst this;obtain⟨G,j,f⟩:=gH.some_of (v:=y) (o:=TC C k) (by rw[<-m];exact L.val k);exact wpAny_getItem_of (fx r) (ob.at z).mapOf j (q y G _ (I.tok _) f l)
 .obtain⟨g,N,n,ob,tp,rfl,rfl⟩:=h.FQ c;rw[<-hP,<-hw]at ob;obtain⟨p,y,m,l,M⟩:=uR n t B;obtain⟨b,rfl,J⟩:=ek.of i;cases(show v=Of b from r);exact wpAny_getItem_heap (du hu) (dS I hK J) (ob.at z (dW I hK n tp)) m (q y _ _ (I.tok _) l M)
theorem FR{Q:NJ->NL->Prop}(hu:A.units+2<Pj)(I:Inv X pins σ H s)(hK:X.K=F.K)(hP:X.prog=F.P)(hw:X.w=F.w)(h:bq F.toFb H o ks vs)(l:s.heap.get? a=NF o)(c:(a==Qi)=NP)(i:Is F.toFb H x d)(r:RelV x v)(f:kinds ks d)(q:∀s',Inv X pins σ H s'->Q (.bool (bF ks d)) s'):wpAny (N2 X.prog X.w) A (O6 .In v (.ref a)) Q E s:=by
 rcases f with⟨f,k,rfl⟩|⟨f,k,rfl⟩
 .obtain⟨g,t,n,ob,rfl,rfl⟩:=h.FP f;rw[<-hP,<-hw]at ob;have:=eA i;subst this;refine wpAny_in_of (fx r) c (ob.at l).mapOf ?_;rw[<-(n.val k).mT,<-sT];exact q _ (I.tok _)
 .obtain⟨g,p,j,ob,tp,rfl,rfl⟩:=h.FQ f;rw[<-hP,<-hw]at ob;obtain⟨b,rfl,m⟩:=ek.of i;cases(show v=Of b from r);refine wpAny_in_heap (du hu) (dS I hK m) c (ob.at l (dW I hK j tp)) ?_;rw[<-wQ j];exact q _ (I.tok _)
theorem wR{Q:NJ->NL->Prop}(hu:A.units+2<Pj)(I:Inv X pins σ H s)(hK:X.K=F.K)(hP:X.prog=F.P)(hw:X.w=F.w)(h:bq F.toFb H o ks vs)(l:s.heap.get? a=NF o)(c:(a==Qi)=NP)(i:Is F.toFb H x d)(r:RelV x v)(f:kinds ks d)(q:∀s',Inv X pins σ H s'->Q (.bool (!bF ks d)) s'):wpAny (N2 X.prog X.w) A (O6 .NotIn v (.ref a)) Q E s:=by
 rcases f with⟨f,k,rfl⟩|⟨f,k,rfl⟩
 .obtain⟨g,t,n,ob,rfl,rfl⟩:=h.FP f;rw[<-hP,<-hw]at ob;have:=eA i;subst this;refine wpAny_notIn_of (fx r) c (ob.at l).mapOf ?_;rw[<-(n.val k).mT,<-sT];exact q _ (I.tok _)
 .obtain⟨g,p,j,ob,tp,rfl,rfl⟩:=h.FQ f;rw[<-hP,<-hw]at ob;obtain⟨b,rfl,m⟩:=ek.of i;cases(show v=Of b from r);refine wpAny_notIn_heap (du hu) (dS I hK m) c (ob.at l (dW I hK j tp)) ?_;rw[<-wQ j];exact q _ (I.tok _)
theorem yV(h:bq F.toFb H o ks vs):∃es b,o.ExactDict/\o.data=.dict es b/\es.size=ks.length/\(es.size:Int)<2^63:=by
 have f:=h.1;rw[Qb]at f;rcases h.2 with⟨c,k,l,⟨es,b,i,g,_,n,_⟩,rfl,_⟩|⟨c,j,m,⟨es,b,i,g,p,_⟩,_,rfl,_⟩
 .have:es.size=k.length:=by rw[<-n.length];simp
  have q:=Paired.length l;rw[NY]at f;exact⟨es,b,i,g,by rw[NY];omega,by omega⟩
 .have:es.size=j.length:=size_of_entries p;have q:=Paired.length m;rw[NY]at f;exact⟨es,b,i,g,by rw[NY];omega,by omega⟩
end
theorem Kp.own{B:Fb}{H:Hp}{k:Nat}{a:NR}{u o':HO}(j:a≠B.p)(hu:H a=NF u)(ns:u.m6=NP):Kp B H k (upd H a o') k where
 keep:=λb o hb st e=>by
  by_cases c:b=a;.subst c;rw[hu]at e;cases e;rw[ns]at st;cases st
  .rw[ai c];exact e
 live:=λh=>by rw[ai (OX j)];exact h
 le:=NZ _;dD:=λq d=>by
  obtain⟨f,i,r,⟨w,⟨o,g⟩,v,t,s,n⟩,m⟩:=d;have l:q≠a:=λz=>by rw[z,hu]at g;cases g;cases ns
  exact⟨f,i,r,⟨by rw[ai (OX j)];exact w,⟨o,by rw[ai l];exact g⟩,v,t,s,n⟩,m⟩
section
variable{X:Cx}{F:Fx}{pins:List (NR×OW)}{σ:St}{H:Hp}{s:NL}{ρ:af}{k:Nat}
theorem bX.e7{i:Nat}{d:D}{a:NR}{u o':HO}{w':W}(S:bX F ρ k σ H)(r:ρ[i]?=NF (NF (.own d)))(I:σ[i]?=NF (NF (.ref a)))(N:a≠F.p)(O:F.H0 a=NN)(hu:H a=NF u)(ns:u.m6=NP)(hw:HI F (upd H a o') k (.ref a) w'):bX F (ρ.set i (NF w')) k σ (upd H a o'):=by
 have kp:Kp F.toFb H k (upd H a o') k:=Kp.own N hu ns;have M:i<ρ.length:=(List.getElem?_eq_some_iff.mp r).1;refine⟨by simp[S.len],λj x e=>?_,λB A x y v c t n G E w=>?_,kp.live S.live,⟨λb o hb e=>?_,λh=>kp.live (S.ext.live h),S.ext.le,λq f=>kp.dD q (S.ext.dD q f)⟩,S.km.trans kp⟩
 .rw[PK]at e;by_cases C:i=j
  .subst C;rw[if_pos rfl,if_pos M]at e;cases e;exact⟨_,I,hw⟩
  .rw[if_neg C]at e;obtain⟨v,m,l⟩:=S.at_ j x e;refine⟨v,m,?_⟩;cases x with
   |d x=>exact Is.mono kp l|feed=>exact⟨l.1,kp.feed l.2⟩|own P=>
    obtain⟨b,rfl,L,K,J⟩:=l;have g:b≠a:=λz=>by
     subst z;exact S.apart i j _ _ _ C r e rfl rfl I m
    exact⟨b,rfl,L,K,J.keep kp λo e=>by rw[ai g];exact e⟩
 .rw[PK]at t n;by_cases m:i=B
  .subst m;rw[if_neg c]at n;exact S.apart i A _ _ v c r n rfl E w
  .rw[if_neg m]at t;by_cases l:i=A
   .subst l;exact S.apart B i _ _ v c t r G rfl w
   .rw[if_neg l]at n;exact S.apart B A _ _ v c t n G E w
 .have g:b≠a:=λz=>by rw[z,O]at e;cases e
  rw[ai g];exact S.ext.keep b o hb e
noncomputable def Jl:D->Bool
 |.aH _ _=>NM|_=>NP
structure Jm(X:Cx)(F:Fx)(pins:List (NR×OW))(σ:St)(H:Hp)(s:NL)(k:Nat)(a:NR)(d:D)(u:HO)(o:OW):Prop where
 hu:H a=NF u
 ns:u.m6=NP
 nt:∀xs,u≠.tup xs
 inv:Inv X pins σ (upd H a (.bP o u)) s
 wU:Is F.toFb (upd H a (.bP o u)) (.ref a) d
 n1:∀xs,X.gL a≠NF (.tup xs)n2:∀ob v,X.gL a≠NF (.bP ob v)n3:∀ps,X.gL a≠NF (.xu ps)nl:Jl d=NM->∀xs,u≠.lst xs
theorem iL.yW{d:D}{a:NR}(I:Inv X pins σ H s)(h:iL F H a d):∃u o,Jm X F pins σ H s k a d u o:=by
  obtain⟨g,B,h⟩:=h;have base:∀{u:HO},H a=NF u->u.m6=NP->(∀f,u≠.tup f)->(∀b v,u≠.bP b v)->(∀ps,u≠.xu ps)->(∀f,X.gL a≠NF (.tup f))/\(∀ob v,X.gL a≠NF (.bP ob v))/\∀ps,X.gL a≠NF (.xu ps):=λ{u}hu ns nt q r=>⟨λf e=>by have:=I.base.gJ a f e;rw[hu]at this;cases this;exact nt _ rfl,λob v e=>by have:=I.base.gc a ob v e;rw[hu]at this;cases this;exact q _ _ rfl,λps e=>by obtain⟨m,this⟩:=I.base.gK a ps e;rw[hu]at this;cases this;exact r _ rfl⟩;cases d with
  |lst y=>
    obtain⟨f,c,j⟩:=h;obtain⟨_,t,n,A,i⟩:=I.aD a _ c;obtain⟨b1,p,l⟩:=base c rfl (λ_ z=>nomatch z) (λ_ _ z=>nomatch z) (λ_ z=>nomatch z);refine⟨_,_,c,rfl,(λ_ z=>nomatch z),I.freeze c i (λ_ z=>nomatch z) (λ_ _ z=>nomatch z) (λ_ z=>nomatch z) (λ_ z=>nomatch z),?_,b1,p,l,λz=>nomatch z⟩;simp only[Is];exact⟨a,f,rfl,⟨g,_,aj⟩,j.mono (Kp.own (k:=k) g c rfl)⟩|aH ks y=>
    obtain⟨o,f,c,j,x,w⟩:=h;have i:s.heap.get? a=NF o:=(I.aD a _ c).1;obtain⟨b1,p,l⟩:=base c rfl (λ_ z=>nomatch z) (λ_ _ z=>nomatch z) (λ_ z=>nomatch z);refine⟨_,o,c,rfl,(λ_ z=>nomatch z),I.freeze c i (λ_ z=>nomatch z) (λ_ _ z=>nomatch z) (λ_ z=>nomatch z) (λ_ z=>nomatch z),?_,b1,p,l,λ_ _ z=>nomatch z⟩;simp only[Is];exact⟨a,f,rfl,⟨o,⟨g,j,.inl ⟨_,aj⟩⟩,x.mono (Kp.own (k:=k) g c rfl)⟩,w.mono (Kp.own (k:=k) g c rfl)⟩|aA f=>
    obtain⟨o,c,j⟩:=h;have i:s.heap.get? a=NF o:=(I.aD a _ c).1;obtain⟨b1,p,l⟩:=base c rfl (λ_ z=>nomatch z) (λ_ _ z=>nomatch z) (λ_ z=>nomatch z);refine⟨_,o,c,rfl,(λ_ z=>nomatch z),I.freeze c i (λ_ z=>nomatch z) (λ_ _ z=>nomatch z) (λ_ z=>nomatch z) (λ_ z=>nomatch z),?_,b1,p,l,λz=>nomatch z⟩;simp only[Is];exact⟨a,rfl,g,o,_,aj,j⟩|_=>exact h.elim
theorem Inv.iU{a:NR}{o:OW}{u:HO}(I:Inv X pins σ H s)(f:H a=NF (.bP o u))(n1:∀xs,X.gL a≠NF (.tup xs))(n2:∀ob v,X.gL a≠NF (.bP ob v))(n3:∀ps,X.gL a≠NF (.xu ps)):Inv X pins σ (upd H a u) s:=by
 have ne:∀{b:NR},H b=NN->b≠a:=λ{b}n z=>by rw[z,f]at n;cases n
 have tp:∀b xs,H b=NF (.tup xs)->(upd H a u) b=NF (.tup xs):=λb xs e=>by rw[ai (λz=>by rw[z,f]at e;cases e)];exact e
 have g:∀b x,H b=NF (.own x)->(upd H a u) b=NF (.own x):=λb x e=>by rw[ai (λz=>by rw[z,f]at e;cases e)];exact e
 refine⟨I.ok,I.os,I.bare,⟨I.base.keep,I.base.slot,λb ob e n hx=>?_,I.base.there,λb xs e=>tp b xs (I.base.gJ b xs e),λb ob v e=>?_,λb ps e=>?_⟩,I.loc,I.cell,?_,λx c e=>?_,λp h=>?_,λb v e=>?_,I.len⟩
 .have:=I.base.free b ob e n hx;rw[ai (ne this)];exact this
 .have q:=I.base.gc b ob v e;rw[ai (λz=>by rw[z]at e;exact n2 _ _ e)];exact q
 .obtain⟨d,q⟩:=I.base.gK b ps e;exact⟨d,by rw[ai (λz=>by rw[z]at e;exact n3 _ e)];exact q⟩
 .rw[ai (ne I.free)];exact I.free
 .rw[ai (ne (I.cF x c e))];exact I.cF x c e
 .obtain⟨e,n,r⟩:=I.pin p h;exact⟨e,by rw[ai (ne n)];exact n,r⟩
 .by_cases hb:b=a
  .subst hb;rw[aj]at e;cases e;exact(I.aD b _ f).2.gI (λ_ _ _ q=>q) (λc q=>g c _ q) tp
  .rw[ai hb]at e;exact(I.aD b v e).gI (λ_ _ _ q=>q) (λc q=>g c _ q) tp
end
mutual
noncomputable def flat(l:Bool):D->Bool
 |.aU=>NM|.bl _=>NM|.int _=>NM|.str _=>NM|.tup a=>lE l a|.lst a=>l&&lE l a|_=>NP
noncomputable def lE(l:Bool):List D->Bool
 |[]=>NM|x::a=>flat l x&&lE l a
end
section
variable{B:Fb}{H:Hp}{a:NR}{o:OW}{u u':HO}
theorem TupAt.iU{b:NR}{xs:List V}(d:H a=NF (.bP o u))(nt:∀xs,u≠.tup xs)(h:TupAt B H b xs):TupAt B (upd H a u') b xs:=by
 refine⟨h.1,?_⟩;rcases h.2 with(c|⟨e,c⟩)|c;.exact .inl (.inl (by rw[ai (λz=>by rw[z,d]at c;cases c)];exact c))
 .exact .inl (.inr ⟨e,by rw[ai (λz=>by rw[z,d]at c;cases c;exact nt _ rfl)];exact c⟩)
 .exact .inr c
mutual
theorem Is.iU(c:H a=NF (.bP o u)){l:Bool}(nt:∀xs,u≠.tup xs)(nl:l=NM->∀xs,u≠.lst xs):∀{d:D}{v:V},flat l d=NM->Is B H v d->Is B (upd H a u') v d
 |.aU,_,_,h=>by simp only[Is]at h⊢;exact h|.bl _,_,_,h=>by simp only[Is]at h⊢;exact h|.int _,_,_,h=>by simp only[Is]at h⊢;exact h|.str _,_,_,h=>by simp only[Is]at h⊢;exact h|.tup _,_,f,h=>by
  simp only[Is]at h⊢;simp only[flat]at f;obtain⟨b,xs,j,i,g⟩:=h;exact⟨b,xs,j,i.iU c nt,ae.iU c nt nl f g⟩|.lst _,_,f,h=>by
  simp only[Is]at h⊢;simp only[flat,N0]at f;obtain⟨b,xs,j,⟨i,k,e⟩,g⟩:=h;exact⟨b,xs,j,⟨i,k,by rw[ai (λz=>by rw[z,c]at e;cases e;exact nl f.1 _ rfl)];exact e⟩,ae.iU c nt nl f.2 g⟩|.aH _ _,_,f,_=>by simp[flat]at f|.exc _ _,_,f,_=>by simp[flat]at f|.aA _,_,f,_=>by simp[flat]at f
theorem ae.iU(b:H a=NF (.bP o u)){l:Bool}(nt:∀xs,u≠.tup xs)(nl:l=NM->∀xs,u≠.lst xs):∀{ds:List D}{xs:List V},lE l ds=NM->ae B H xs ds->ae B (upd H a u') xs ds
 |[],_,_,h=>by simp only[ae]at h⊢;exact h|d::ds,_,f,h=>by
  simp only[ae]at h⊢;simp only[lE,N0]at f;obtain⟨x,c,i,g,e⟩:=h;exact⟨x,c,i,Is.iU b nt nl f.1 g,ae.iU b nt nl f.2 e⟩
end
end
noncomputable def gZ(ρ:af)(i:Nat):Bool:=match ρ[i]? with
 |some (NF (.own d))=>Jl d|_=>NP
noncomputable def pq(i:Nat)(ρ:af):af:=match ρ[i]? with
 |some (NF (.own d))=>ρ.set i (NF (.d d))|_=>ρ
section
variable{X:Cx}{F:Fx}{e:Ob}{st:Qq}
theorem oo{ρ:af}{i:Nat}{d:D}(h:ρ[i]?=NF (NF (.own d))):pq i ρ=ρ.set i (NF (.d d)):=by unfold pq;rw[h]
theorem sU{ρ:af}{i:Nat}(h:∀d,ρ[i]?≠NF (NF (.own d))):pq i ρ=ρ:=by
 unfold pq;split;.rename_i d e;exact absurd e (h d)
 .rfl
theorem sV(ρ:af)(i:Nat):(∃d,ρ[i]?=NF (NF (.own d)))\/∀d,ρ[i]?≠NF (NF (.own d)):=by
 by_cases h:∃d,ρ[i]?=NF (NF (.own d));.exact .inl h
 .exact .inr λd e=>h ⟨d,e⟩
theorem DS.fz(i:Nat){t:af->M Fl}(h:DS X F st t):DS X F st (λρ=>t (pq i ρ)):=by
 refine⟨h.hK,λb s j H Z I⟨ρ,k,S,z⟩=>?_⟩;rcases sV ρ i with⟨d,f⟩|f
 .obtain⟨v,l,a,rfl,g⟩:=S.at_ i _ f;obtain⟨u,o,c⟩:=iL.yW (k:=k) I g;have m:=S.e7 (w':=.d d) f l g.1 g.2.1 c.hu c.ns c.wU;dsimp only at z;rw[oo f]at z;exact h.ps b s j _ Z c.inv ⟨_,k,m,M.wk z λp n q=>q.mono (Kp.own g.1 c.hu c.ns)⟩
 .dsimp only at z;rw[sU f]at z;exact h.ps b s j H Z I ⟨ρ,k,S,z⟩
theorem Ext.iU{H m:Hp}{k k2:Nat}{a:NR}{u:HO}{o:OW}(h:a≠F.p)(hu:H a=NF u)(ns:u.m6=NP)(e:Ext F.toFb (upd H a (.bP o u)) k m k2):Ext F.toFb H k (upd m a u) k2:=by
 have ha:m a=NF (.bP o u):=e.keep a _ h aj;have kp:Kp F.toFb H k (upd H a (.bP o u)) k:=Kp.own h hu ns;refine⟨λb n hb q=>?_,λq=>by rw[ai (OX h)];exact e.live (kp.live q),e.le,λq f=>?_⟩
 .by_cases c:b=a;.subst c;rw[aj,<-hu];exact q
  .rw[ai c];exact e.keep b n hb (by rw[ai c];exact q)
 .have s:q≠a:=λz=>by
   obtain⟨_,_,_,g,_⟩:=f;obtain⟨d,j⟩:=g.cs;rw[z,hu]at j;cases j;cases ns
  obtain⟨l,i,r,⟨A,⟨d,j⟩,y,x,w,v⟩,t⟩:=e.dD q (kp.dD q f);exact⟨l,i,r,⟨by rw[ai (OX h)];exact A,⟨d,by rw[ai s];exact j⟩,y,x,w,v⟩,t⟩
theorem DE.mv(i:Nat){t:af->M D}(h:DE X F e t):DE X F e (λρ=>do let d<-t (pq i ρ);M.need (flat (gZ ρ i) d=NM);pure d):=by
 refine⟨h.hK,λc s r H Q I⟨ρ,k,S,z⟩=>?_⟩;rcases sV ρ i with⟨d,g⟩|g
 .obtain⟨v,B,a,rfl,l⟩:=S.at_ i _ g;obtain⟨u,o,b⟩:=iL.yW (k:=k) I l;have G:=S.e7 (w':=.d d) g B l.1 l.2.1 b.hu b.ns b.wU;have z:(t (pq i ρ)).run k (λd f=>flat (gZ ρ i) d=NM/\qE F.toFb H k Q d f) F.E:=z;rw[oo g]at z;refine bo (h.pe c s r _ (λv j=>∃n d,Ext F.toFb (upd H a (.bP o u)) k j n/\Is F.toFb j v d/\flat (gZ ρ i) d=NM/\qE F.toFb H k Q d n) b.inv ⟨_,k,G,M.wk z λd f q v j e p=>⟨f,d,e,p,q.1,q.2⟩⟩) λv K m=>?_;obtain⟨x,j,J,y,n,L,w,p,C,A⟩:=m;have ha:j a=NF (.bP o u):=w.keep a _ l.1 aj;exact⟨x,upd j a u,J.iU ha b.n1 b.n2 b.n3,y,A x _ (w.iU l.1 b.hu b.ns) (Is.iU ha b.nt (λz=>b.nl (by unfold gZ at z;rw[g]at z;exact z)) C p)⟩
 .have z:(t (pq i ρ)).run k (λd f=>flat (gZ ρ i) d=NM/\qE F.toFb H k Q d f) F.E:=z;rw[sU g]at z;exact h.pe c s r H Q I ⟨ρ,k,S,M.wk z λd f q=>q.2⟩
theorem DT.mv(i:Nat){t:af->M Bool}(h:DT X F e t):DT X F e (λρ=>t (pq i ρ)):=by
 refine⟨h.hK,λf s p H Q I⟨ρ,k,S,z⟩=>?_⟩;dsimp only at z;rcases sV ρ i with⟨d,j⟩|j
 .obtain⟨v,y,a,rfl,g⟩:=S.at_ i _ j;obtain⟨u,o,c⟩:=iL.yW (k:=k) I g;have A:=S.e7 (w':=.d d) j y g.1 g.2.1 c.hu c.ns c.wU;rw[oo j]at z;refine bo (h.pt f s p _ (λb l=>∃n,Ext F.toFb (upd H a (.bP o u)) k l n/\qT F.toFb H k Q b n) c.inv ⟨_,k,A,M.wk z λb x q l e=>⟨x,e,q⟩⟩) λb C m=>?_;obtain⟨l,B,n,r,w⟩:=m;have ha:l a=NF (.bP o u):=r.keep a _ g.1 aj;exact⟨upd l a u,B.iU ha c.n1 c.n2 c.n3,w _ (r.iU g.1 c.hu c.ns)⟩
 .rw[sU j]at z;exact h.pt f s p H Q I ⟨ρ,k,S,z⟩
end
section
variable{X:Cx}{F:Fx}
noncomputable def Jn:D->D->M D
 |.aH ks a,d=>do M.need (kinds ks d);M.get (aL ks a d)|_,_=>M.fail
theorem BL(hu:X.A.units+2<Pj)(hP:X.prog=F.P)(hw:X.w=F.w):K4 X F Jn:=⟨λhK f g c s m H x y v u Q I rx ry h O=>by
 obtain⟨k,d,e,l,t,L,q⟩:=h;cases d with
 |aH ks Y=>
  obtain⟨R,q⟩:=q;obtain⟨z,T,S⟩:=M.run_get.mp q;simp only[Is]at t;obtain⟨a,V,rfl,⟨o,J,D⟩,K⟩:=t;cases(show v=Of a from rx);have B:=J.get I hK;have key:=BK (A:=X.A) (E:=X.xe) (Q:=λr p=>EP X c m Q r p) hu I hK hP hw D B K L ry R T λn W p U G N=>⟨n,H,U,G,S n H .refl N⟩;have C:=iT D B;unfold Wr;refine NG ?_;rw[getitemInPython_of_ne C.not_modules];refine NG (RT C PySem.F.slot_dict_getitem.lookup ?_);have i:wpAny (N2 X.prog X.w) X.A (Xg g NP (.ref a) u) (λr b=>wpAny (N2 X.prog X.w) X.A (letTemporaryGo f (.ref a) r>>=λ_=>pure r) (EP X c m Q) X.xe b) X.xe s:=by
   rw[O];exact wpAny_operating (O3 key (λr b j=>NG (wpAny_letTemporaryGo (NO j))) λ_ _ x=>x)
  first
   |exact NO (NG i)|exact NG (NO (NG i))|exact NG i
 |_=>exact q.elim⟩
noncomputable def Jo(neg:Bool):D->D->M D
 |d,.aH ks _=>do M.need (kinds ks d);pure (.bl (if neg then !bF ks d else bF ks d))|_,_=>M.fail
theorem FT(hu:X.A.units+2<Pj)(hP:X.prog=F.P)(hw:X.w=F.w):ji X F (O6 .In) (Jo NP):=⟨λb s m H k x y v u d e Q I rx ry l hK g f q=>by cases e with
 |aH ks t=>
  obtain⟨h,q⟩:=q;simp only[Is]at f;obtain⟨a,n,rfl,⟨o,c,i⟩,r⟩:=f;cases(show u=Of a from ry);exact FR hu I hK hP hw i (c.get I hK) c.2.1 g rx h λp j=>⟨.bl (bF ks d),H,j,rfl,q _ H .refl (by simp only[Is];rfl)⟩|_=>exact q.elim⟩
theorem wV(hu:X.A.units+2<Pj)(hP:X.prog=F.P)(hw:X.w=F.w):ji X F (O6 .NotIn) (Jo NM):=⟨λb s m H k x y v u d e Q I rx ry l hK g f q=>by cases e with
 |aH ks t=>
  obtain⟨h,q⟩:=q;simp only[Is]at f;obtain⟨a,n,rfl,⟨o,c,i⟩,r⟩:=f;cases(show u=Of a from ry);exact wR hu I hK hP hw i (c.get I hK) c.2.1 g rx h λp j=>⟨.bl (!bF ks d),H,j,rfl,q _ H .refl (by simp only[Is];rfl)⟩|_=>exact q.elim⟩
noncomputable def L7(K:NS)(H:Hp)(a:NR)(o:OW):Prop:=(∃u,H a=NF (.bP o u))\/K.lookup a=NF o
noncomputable def Ni(K:NS)(a:NR)(o:OW)(b:List V):It:=⟨λi H=>L7 K H a o/\i<b.length,λi H x c=>c=H/\b[i]?=NF x,λi H=>L7 K H a o/\b.length<=i⟩
theorem sW{P:N7}{w:Oq}{K:NS}{tg:Ob}{a it:NR}{o:OW}{f:List V}{es:Array SN}{N:Nat}(hd:o.data=.dict es N)(r:aq f (es.toList.map (·.key)))(O:a≠it):Turn P w K tg (Ni K a o f) [it] it (λi h=>h.IsKeyIter it a i es.size N)where
 mem:=by simp
 obj:=λi h st b hb=>by
  have e:b=it:=by simpa using hb
  subst e;obtain⟨o,e,c,d⟩:=st;exact⟨o,e,λv z=>by rw[d]at z;cases z⟩
 keep:=λi h q st k=>st.at λo e=>k it (by simp) o e;item:=by
  intro X hP hw hK M i j s J H E I p st A;obtain⟨g,L⟩:=A;have Q:f.length=es.size:=by simpa using r.length
  have t:s.heap.get? a=NF o:=by
   rcases g with⟨u,g⟩|g;.exact(I.aD a _ g).1
   .exact I.jg _ _ (by rw[hK];exact g)
  obtain⟨x,hx⟩:∃x,f[i]?=NF x:=⟨f[i],by simp[L]⟩;obtain⟨y,hy,ry⟩:=r.get hx;have m:i<es.size:=by omega
  have S:y=es[i].key:=by
   rw[Om,OR,N6 m]at hy;exact(NU hy).symm
  obtain⟨G,D,R,C,B,f5⟩:=p it (by simp);refine DictIt.uy st t hd m λq l sb=>?_;have U:Inv X j J H {s with heap:=q}:=I.turned (t':=s.toks) (λb o hb e=>(sb.2 b hb).trans e) G D C B f5;obtain⟨W,e,c,d⟩:=id l;exact⟨_,rfl,t9 (s:={s with heap:=q}) e c d (by decide) ⟨x,H,U,by rw[<-S];exact ry,⟨rfl,hx⟩,l,λb hb=>(p b hb).1⟩⟩
 done:=by
  intro X hP hw hK M i j s J H E I p st A;obtain⟨g,L⟩:=A;have Q:f.length=es.size:=by simpa using r.length
  have t:s.heap.get? a=NF o:=by
   rcases g with⟨u,g⟩|g;.exact(I.aD a _ g).1
   .exact I.jg _ _ (by rw[hK];exact g)
  obtain⟨G,D,R,C,B,f5⟩:=p it (by simp);exact DictIt.yb (I.ok.hd M) st t hd (by omega) λq T=>⟨rfl,I.turned (t':=s.toks) (λb o hb e=>T b o hb e) G D C B f5⟩
 self:=λ_ _ _ _ _ st h=>V9 st h
theorem nh{P:N7}{w:Oq}:∀{a:List (List NK×NR×V)}{xs:List (List NK×NR×NJ)},KA a xs->aq (a.map λx=>V.ref x.2.1) ((xs.map (Xo (bJ P w))).map (·.key))
 |_,_,.nil=>.nil|_,_,.cons z t=>.cons (show Of _=_ by rw[z.2.1]) (nh t)
theorem lF{B:Fb}{H:Hp}:∀{a:List (List NK×NR×V)},(∀x∈a,ek B H x.2.1 x.1)->ae B H (a.map λx=>V.ref x.2.1) (a.map λx=>D.tup (x.1.map nD))
 |[],_=>.nil|x::r,h=>.cons (h x NV).is (lF λy hy=>h y (NX _ hy))
theorem lG{B:Fb}{H:Hp}:∀{a:List (Key×V)},ae B H (a.map λx=>kV x.1) (a.map λx=>kD x.1)
 |[]=>.nil|(k,v)::ks=>.cons (by cases k<;>simp only[kD,kV,Is]) lG
theorem qu{H:Hp}{o:OW}{ks:List D}{vs:List V}(h:bq F.toFb H o ks vs):∃a es b,o.ExactDict/\o.data=.dict es b/\aq a (es.toList.map (·.key))/\ae F.toFb H a ks:=by
 rcases h.2 with⟨c,l,f,⟨es,b,e,d,_,i,_⟩,rfl,_⟩|⟨c,k,g,⟨es,b,e,d,j,_⟩,tp,rfl,_⟩;.exact⟨_,es,b,e,d,lh f i,lG⟩
 .exact⟨_,es,b,e,d,by rw[j];exact nh g,lF tp⟩
end
noncomputable def oq(X:Cx)(e:Ob)(t:TE)(pins:List (NR×OW))(s:NL)(σ:St)(H:Hp):Prop:=(∀Q,t σ H Q->wpAny (N2 X.prog X.w) X.A (Qa e X.env) (EP X pins σ Q) X.xe s)/\∀(x:Oo)(a b:P8)(c:TG)(D:Ends),Qz e (NF (.Name x a)) b.line X.env=pure NM->PG X (.Name x a) c->AN t c D σ H->wpAny (N2 X.prog X.w) X.A (exec (.Assign [.Name x a] e b) X.env) (SP X pins D) X.xe s
structure DU(X:Cx)(F:Fx)(e:Ob)(t:af->M D):Prop where
 hK:X.K=F.K
 pu:∀pins s σ H,Inv X pins σ H s->oq X e (eO F t) pins s σ H
section
variable{X:Cx}{F:Fx}{e:Ob}{pins:List (NR×OW)}{s:NL}{σ:St}{H:Hp}
theorem DU.de{t:af->M D}(h:DU X F e t):DE X F e t:=⟨h.hK,λpins s σ H Q I q=>(h.pu pins s σ H I).1 Q q⟩
theorem DU.ref{t m:af->M D}(h:DU X F e m)(r:∀ρ,Ref (t ρ) (m ρ)):DU X F e t:=⟨h.hK,λpins s σ H I=>⟨λQ⟨ρ,k,S,z⟩=>(h.pu pins s σ H I).1 Q ⟨ρ,k,S,r ρ _ _ _ z⟩,λx b a f D c d⟨ρ,k,S,z⟩=>(h.pu pins s σ H I).2 x b a f D c d ⟨ρ,k,S,r ρ _ _ _ z⟩⟩⟩
theorem oq.imp{t t':TE}(h:oq X e t pins s σ H)(q:∀Q,t' σ H Q->t σ H Q):oq X e t' pins s σ H:=⟨λQ z=>h.1 Q (q Q z),λx b a f D c d z=>h.2 x b a f D c d (q _ z)⟩
noncomputable def L8(t:TE):TE:=λσ H Q=>t σ H λv c=>∃a b,v=.ref a/\c a=NF (.lst b)/\∀o,Q v (upd c a (.bP o (.lst b)))
theorem FU{tg:Ob}{b:TG}(h:PG X tg b):PG X tg (λv σ H Q=>∃a xs,v=.ref a/\H a=NF (.lst xs)/\∀o,b v σ (upd H a (.bP o (.lst xs))) Q):=by
 intro pins s σ H v u Q I r⟨a,xs,e,ha,q⟩;obtain⟨_,c,n,f,d⟩:=I.aD a _ ha;exact h pins s σ _ v u Q (I.freeze ha d (λ_ z=>nomatch z) (λ_ _ z=>nomatch z) (λ_ z=>nomatch z) (λ_ z=>nomatch z)) r (q _)
theorem oq.bP{t:TE}(I:Inv X pins σ H s)(h:oq X e t pins s σ H):oq X e (L8 t) pins s σ H:=by
 refine⟨λQ z=>?_,λx g f q D j l z=>h.2 x g f _ D j (FU l) z⟩;refine bo (h.1 _ z) λu o b=>?_;obtain⟨v,w,c,r,a,m,e,ha,d⟩:=b;obtain⟨_,i,n,p,k⟩:=c.aD a _ ha;exact⟨v,_,c.freeze ha k (λ_ z=>nomatch z) (λ_ _ z=>nomatch z) (λ_ z=>nomatch z) (λ_ z=>nomatch z),r,d _⟩
theorem BM(i:Nat){x:Oo}{a pos:P8}{b:af->M D}(hN:X.N.Nodup)(c:DU X F e b)(j:X.N[i]?=NF x)(hx:Loc X.env.scope x)(g:Qz e (NF (.Name x a)) pos.line X.env=pure NM)(l:X.fn x=NM\/X.env.scope.names.lookup x=NF .local):DS X F (.Assign [.Name x a] e pos) (λρ=>do let d<-b ρ;pure (.nx (ρ.set i (NF (.d d))))):=by
 refine⟨c.hK,λpins s σ H Z I⟨ρ,k,S,h⟩=>(c.pu pins s σ H I).2 x a pos (xD i) Z g (t8 (i:=i) hN j hx l) ?_⟩;refine eO.next S h λd q v p n o f m=>?_;exact m _ p n.kp (o.set i f)
end
section
variable{X:Cx}{F:Fx}{elt tg iter tg2 iter2:Ob}{ifs ifs2:List Ob}{pos:P8}{scope:Qr}{g g2:D->af->M af}{tc tc2:af->M Bool}{te:af->M D}{tI tI2:af->M (List D)}
theorem yX(own fr:List Oo)(js:List Nat)(d:X.calm=NM)(u:m7 X.env.scope scope=NM)(A:js.map (λj=>X.N[j]?)=fr.map NF)(f:∀x∈fr,scope.names.lookup x=NF .free)(n:js.Nodup)(hw:DI X F tg iter tI)(E:∀pins cl C b s H,DG (dP X pins scope (own++fr) cl C b s H) F tg g)(B:∀pins cl C b s H,lj (dP X pins scope (own++fr) cl C b s H) F ifs tc)(G:∀pins cl C b s H,DE (dP X pins scope (own++fr) cl C b s H) F elt te)(w:∀x,QX iter X.env x=pure x):DU X F (.ListComp elt [⟨tg,iter,ifs,0⟩] scope pos) (λρ=>do let ds<-tI ρ;let r<-m8 g tc te ds (gV ρ own.length js);pure (.lst r)):=by
  refine⟨hw.hK,λpins s i H I=>?_⟩;obtain⟨cl,c⟩:=yA I.ok u;have P:oq X (.ListComp elt [⟨tg,iter,ifs,0⟩] scope pos) (uG own.length js (L3 F tI) (IX F g) (p_ F tc) (kU (eO F te)) [] .lst) pins s i H:=⟨λQ z=>uH (ok:=K3) (ob0:={cls:=.type "list",dict:=NN,data:=.seq ([]:List NJ).toArray}) (newAcc:=newObj (.type "list") (.seq #[])) (o:=HO.lst) (a0:=[]) (rd:=kU (eO F te)) (body:=λD env=>do let _<-call (.builtin "list.append") [.ref D,<-Qa elt env]) d c A f hw.pi rfl rfl (fW rfl rfl) (λh=>ON h) (λa ob v⟨_,_,_,_,e⟩z=>by rw[e]at z;cases z) ⟨OB _,[],_,.nil,rfl⟩ (λz=>nomatch z) (λ_ _ _=>rfl) (λ_ _ _=>rfl) (λ_ _ _=>rfl) (λpins cs C b s H=>(E pins cs C b s H).pg) (λpins cs C b s H=>(B pins cs C b s H).pi) (λpins cs C b s H D o=>mX o (G pins cs C b s H).pe) qg w pins s i H Q I z,λx W V gt D m t z=>uI (ok:=K3) (ob0:={cls:=.type "list",dict:=NN,data:=.seq ([]:List NJ).toArray}) (newAcc:=newObj (.type "list") (.seq #[])) (o:=HO.lst) (a0:=[]) (rd:=kU (eO F te)) (body:=λD env=>do let _<-call (.builtin "list.append") [.ref D,<-Qa elt env]) d c A f hw.pi (λ_=>rfl) rfl (fW rfl rfl) (λh=>ON h) (λa ob v⟨_,_,_,_,e⟩z=>by rw[e]at z;cases z) ⟨OB _,[],_,.nil,rfl⟩ (λz=>nomatch z) (λ_ _ _=>rfl) (λ_ _ _=>rfl) (λ_ _ _=>rfl) (λpins cs C b s H=>(E pins cs C b s H).pg) (λpins cs C b s H=>(B pins cs C b s H).pi) (λpins cs C b s H D o=>mX o (G pins cs C b s H).pe) qg w pins s i H x W V gt D I m t z⟩;refine(P.bP I).imp λQ l=>?_;obtain⟨ρ,k,S,h⟩:=l;refine⟨ρ,k,S,M.wk h λds k1 q J H1 L it=>?_⟩;have O:=(S.mono L).dP own.length n;refine BB it O q λT xs R H' Y K Z U hz p y _=>⟨p,T,rfl,aj,λo=>?_⟩;rw[bN];exact U _ _ ((L.trans K).trans (.new y)) (dE (k:=Y) (K.live O.live) y Z)
end
noncomputable def dX:List D->List D->D->D->List D
 |k::ks,v::a,d,e=>(if dU k d then e else v)::dX ks a d e|_,_,_,_=>[]
noncomputable def putD(ks ds:List D)(d e:D):List D×List D:=if bF ks d then(ks,dX ks ds d e)else(ks++[d],ds++[e])
section
variable{B:Fb}{H:Hp}
theorem Du{k:Key}{y:V}{e:D}(hy:Is B H y e):∀{a:List (Key×V)}{ds:List D},ae B H (a.map (·.2)) ds->ae B H ((a.map λb=>if b.1=k then(b.1,y)else b).map (·.2)) (dX (a.map λx=>kD x.1) ds (kD k) e)
 |[],ds,h=>by cases ds<;>exact .nil|(k0,g)::r,[],h=>by simp[ae]at h|(k0,g)::r,d::ds,h=>by
  simp only[Ot,ae]at h;obtain⟨x,m,l,j,i⟩:=h;cases l;have c:=Du (k:=k) hy i;simp only[Ot,dX,lB];by_cases f:k0=k
  .simp only[f,decide_true,if_true];exact .cons hy c
  .simp only[f,decide_false,if_false];exact .cons j c
theorem Dv{k:List NK}{y:V}{e:D}(hy:Is B H y e):∀{a:List (List NK×NR×V)}{ds:List D},ae B H (a.map (·.2.2)) ds->ae B H ((a.map λx=>if x.1=k then(x.1,x.2.1,y)else x).map (·.2.2)) (dX (a.map λx=>D.tup (x.1.map nD)) ds (.tup (k.map nD)) e)
 |[],ds,h=>by cases ds<;>exact .nil|(k0,l,f)::r,[],h=>by simp[ae]at h|(k0,l,f)::r,d::ds,h=>by
  simp only[Ot,ae]at h;obtain⟨x,m,j,i,g⟩:=h;cases j;have b:=Dv (k:=k) hy g;simp only[Ot,dX,lC];by_cases c:k0=k
  .simp only[c,decide_true,if_true];exact .cons hy b
  .simp only[c,decide_false,if_false];exact .cons i b
theorem KA.A5{k:List NK}{y:V}{u:NJ}(r:RelV y u):∀{a:List (List NK×NR×V)}{xs:List (List NK×NR×NJ)},KA a xs->KA (a.map λx=>if x.1=k then(x.1,x.2.1,y)else x) (xs.map (putAt k u))
 |_,_,.nil=>.nil|(k0,j,f)::h,(i,b1,g)::xs,.cons z t=>by
  obtain⟨d,c,b⟩:=z;simp only at d c b;subst d c;refine .cons ?_ (KA.A5 r t);by_cases e:k0=k;.simp only[e,if_true,putAt];exact⟨trivial,trivial,r⟩
  .simp only[e,if_false,putAt];exact⟨trivial,trivial,b⟩
end
section
variable{X:Cx}{F:Fx}{pins:List (NR×OW)}{σ:St}{H:Hp}{s:NL}{a:NR}{o:OW}{ks ds:List D}{vs:List V}{d e:D}{x y:V}{v r:NJ}{A:Ov}{E:NJ->NL->Prop}
noncomputable def qv(F:Fx)(H:Hp)(ks ds:List D)(d e:D)(o':OW):Prop:=(∃b,bq F.toFb H o' (putD ks ds d e).1 b/\ae F.toFb H b (putD ks ds d e).2)/\∀v,o'.data≠.cell v
theorem uS{b:List (Key×V)}{us:List (Key×NJ)}{k:Key}{o':OW}(g:KV b us)(h:b.length<NW)(f:ae F.toFb H (b.map (·.2)) ds)(c:Is F.toFb H y e)(ry:RelV y r)(ob:jq F.P F.w o' (stored us k r)):qv F H (b.map λx=>kD x.1) ds (kD k) e o':=by
 refine⟨⟨(putK b k y).map (·.2),⟨?_,.inl ⟨putK b k y,_,g.put k ry,ob,?_,rfl⟩⟩,?_⟩,ob.om⟩
 .unfold putD;split;.simp;omega
  .simp;omega
 .unfold putD putK;rw[sT,<-kR];split
  .rw[PJ];refine Q8 λx _=>?_;simp only[Wm];split<;>rfl
  .simp
 .unfold putD putK;rw[sT,<-kR];split;.exact Du c f
  .rw[Po];exact f.append (.cons c .nil)
theorem uT{c:List (List NK×NR×V)}{xs:List (List NK×NR×NJ)}{k:List NK}{b:NR}{o':OW}(g:KA c xs)(m:c.length<NW)(l:ae F.toFb H (c.map (·.2.2)) ds)(tp:∀x∈c,ek F.toFb H x.2.1 x.1)(n:ek F.toFb H b k)(j:Is F.toFb H y e)(ry:RelV y r)(ob:jr F.P F.w o' (Xn xs k b r)):qv F H (c.map λx=>D.tup (x.1.map nD)) ds (.tup (k.map nD)) e o':=by
 have hh:=wQ (k:=k) g;by_cases f:(W3 xs k).isSome=NM
 .have i:Xn xs k b r=xs.map (putAt k r):=by unfold Xn;rw[if_pos f]
  have h:putD (c.map λx=>D.tup (x.1.map nD)) ds (.tup (k.map nD)) e=(c.map λx=>D.tup (x.1.map nD),dX (c.map λx=>D.tup (x.1.map nD)) ds (.tup (k.map nD)) e):=by unfold putD;rw[hh,if_pos f]
  rw[i]at ob;refine⟨?_,ob.om⟩;rw[h];refine⟨_,⟨by simp;omega,.inr ⟨c.map λx=>if x.1=k then(x.1,x.2.1,y)else x,_,KA.A5 ry g,ob,λx hx=>?_,?_,rfl⟩⟩,Dv j l⟩
  .obtain⟨z,m,rfl⟩:=List.mem_map.mp hx;split<;>exact tp z m
  .rw[PJ];refine Q8 λx _=>?_;simp only[Wm];split<;>rfl
 .have i:Xn xs k b r=xs++[(k,b,r)]:=by unfold Xn;rw[if_neg f]
  have h:putD (c.map λx=>D.tup (x.1.map nD)) ds (.tup (k.map nD)) e=(c.map (λx=>D.tup (x.1.map nD))++[.tup (k.map nD)],ds++[e]):=by unfold putD;rw[hh,if_neg f]
  rw[i]at ob;refine⟨?_,ob.om⟩;rw[h];refine⟨_,⟨by simp;omega,.inr ⟨c++[(k,b,y)],_,Paired.snoc g ⟨rfl,rfl,ry⟩,ob,λx hx=>?_,by simp,rfl⟩⟩,by rw[Po];exact l.append (.cons j .nil)⟩;rcases List.mem_append.mp hx with z|z;.exact tp x z
  .rw[List.mem_singleton.mp z];exact n
theorem uU{Q:Unit->NL->Prop}(hu:A.units+1<Pj)(I:Inv X pins σ H s)(hK:X.K=F.K)(hP:X.prog=F.P)(hw:X.w=F.w)(h:bq F.toFb H o ks vs)(C:s.heap.get? a=NF o)(B:ae F.toFb H vs ds)(i:Is F.toFb H x d)(rx:RelV x v)(z:Is F.toFb H y e)(ry:RelV y r)(g:kinds ks d)(j:ks.length<NW)(q:∀h' o' G,PF a s.heap h'->h'.get? a=NF o'->qv F H ks ds d e o'->Q () {s with heap:=h',toks:=G}):wpAny (N2 X.prog X.w) A (dictSet a v r) Q E s:=by
 rcases g with⟨g,k,rfl⟩|⟨g,k,rfl⟩
 .obtain⟨l,L,u,ob,rfl,rfl⟩:=h.FP g;rw[<-hP,<-hw]at ob;have:=eA i;subst this;rw[NY]at j;refine wpAny_dictSet_pairs (hsz:=by rw[<-Paired.length u];omega) (fx rx) (ob.at C) λh' f n=>?_;obtain⟨o',p,c⟩:=jq.of f;exact q h' o' _ n p (uS u j B z ry (by rw[<-hP,<-hw];exact c))
 .obtain⟨l,J,m,ob,tp,rfl,rfl⟩:=h.FQ g;rw[<-hP,<-hw]at ob;obtain⟨b,rfl,t⟩:=ek.of i;cases(show v=Of b from rx);rw[NY]at j;refine wpAny_dictSet_heap (hsz:=by rw[<-Paired.length m];omega) (show(bJ X.prog X.w).room A from hu) (dS I hK t) (ob.at C (dW I hK m tp)) λh' f n=>?_;obtain⟨o',p,c⟩:=jr.of f;exact q h' o' _ n p (uT m j B tp t z ry (by rw[<-hP,<-hw];exact c))
theorem qw{Q:Unit->NL->Prop}(hu:A.units+2<Pj)(I:Inv X pins σ H s)(hK:X.K=F.K)(hP:X.prog=F.P)(hw:X.w=F.w)(h:bq F.toFb H o ks vs)(C:s.heap.get? a=NF o)(B:ae F.toFb H vs ds)(i:Is F.toFb H x d)(rx:RelV x v)(z:Is F.toFb H y e)(ry:RelV y r)(g:kinds ks d)(j:ks.length<NW)(q:∀h' o' G,PF a s.heap h'->h'.get? a=NF o'->qv F H ks ds d e o'->Q () {s with heap:=h',toks:=G}):wpAny (N2 X.prog X.w) A (setItem (.ref a) v r) Q E s:=by
 rcases g with⟨g,k,rfl⟩|⟨g,k,rfl⟩
 .obtain⟨l,L,u,ob,rfl,rfl⟩:=h.FP g;rw[<-hP,<-hw]at ob;have:=eA i;subst this;rw[NY]at j;refine wpAny_setItem_pairs (hsz:=by rw[<-Paired.length u];omega) (fx rx) (ob.at C) λh' f n=>?_;obtain⟨o',p,c⟩:=jq.of f;exact q h' o' _ n p (uS u j B z ry (by rw[<-hP,<-hw];exact c))
 .obtain⟨l,J,m,ob,tp,rfl,rfl⟩:=h.FQ g;rw[<-hP,<-hw]at ob;obtain⟨b,rfl,t⟩:=ek.of i;cases(show v=Of b from rx);rw[NY]at j;refine wpAny_setItem_heap (hsz:=by rw[<-Paired.length m];omega) (du hu) (dS I hK t) (ob.at C (dW I hK m tp)) λh' f n=>?_;obtain⟨o',p,c⟩:=jr.of f;exact q h' o' _ n p (uT m j B tp t z ry (by rw[<-hP,<-hw];exact c))
end
theorem lg.uA{B:Fb}{H:Hp}{a:NR}{d:D}(h:lg B H a d):∃u,H a=NF u:=by cases d with
 |lst e=>obtain⟨c,b,f⟩:=h;exact⟨_,b⟩|aH ks e=>obtain⟨o,c,b,_⟩:=h;exact⟨_,b⟩|aA c=>obtain⟨o,b,_⟩:=h;exact⟨_,b⟩|_=>exact h.elim
section
variable{X:Cx}{F:Fx}{σ:St}{H:Hp}{ρ:af}{k:Nat}
theorem bX.ot{p:NR}{o':HO}{d:D}(S:bX F ρ k σ H)(i:Nat)(m:H p=NN)(h:lg F.toFb (upd H p o') p d):bX F (ρ.set i (NF (.own d))) k (σ.set i (NF (.ref p))) (upd H p o'):=by
 have s:=S.mono (Ext.new (F:=F.toFb) (k:=k) (o:=o') m);have ne:p≠F.p:=gQ S.live m;have G:F.H0 p=NN:=by cases e:F.H0 p with
  |none=>rfl|some o=>have:=S.ext.keep p o ne e;rw[m]at this;cases this
 have g:∀{j:Nat}{y:W},ρ[j]?=NF (NF y)->y.yi=NM->σ[j]?≠NF (NF (.ref p)):=λ{j y}e o z=>by
  obtain⟨v,f,n⟩:=S.at_ j y e;rw[z]at f;cases f;cases y with
  |own J=>
   obtain⟨b,I,_,_,q⟩:=n;cases I;obtain⟨u,q⟩:=q.uA;rw[m]at q;cases q|_=>cases o
 refine⟨by simp[S.len],λj x e=>?_,λB A x y v c r l w t a=>?_,s.live,s.ext,s.km⟩
 .rw[PK]at e⊢;by_cases C:i=j
  .subst C;rw[if_pos rfl]at e⊢;split at e
   .rename_i E;cases e;rw[if_pos (by rw[<-S.len];exact E)];exact⟨_,rfl,p,rfl,ne,G,h⟩
   .cases e
  .rw[if_neg C]at e⊢;exact s.at_ j x e
 .rw[PK]at r l a⊢;by_cases f:i=B
  .subst f;rw[if_pos rfl]at a;rw[if_neg c]at l⊢;split at a;.cases a;exact g l t
   .cases a
  .rw[if_neg f]at r a;by_cases n:i=A
   .subst n;rw[if_pos rfl];split;.intro z;cases z;exact g r w a
    .exactλz=>nomatch z
   .rw[if_neg n]at l⊢;exact S.apart B A x y v c r l w t a
end
section
variable{X:Cx}{F:Fx}{e:Ob}{es:List Ob}{tas:af->M (List A)}{ta tk:af->M D}{pos pos' lp:P8}{x:Oo}
theorem BN(i:Nat)(hN:X.N.Nodup)(ha:DA X F es tas)(m:X.N[i]?=NF x)(hx:Loc X.env.scope x)(n:X.fn x=NM\/X.env.scope.names.lookup x=NF .local):DS X F (.Assign [.Name x pos'] (.List es lp) pos) (λρ=>do let ds<-gS (<-tas ρ);M.need (ds.length<=NW);pure (.nx (ρ.set i (NF (.own (.lst ds)))))):=⟨ha.hK,(c7 (i:=i) hN m hx (si ha.pa) rfl n).imp λZ s H a=>by
  obtain⟨ρ,k,S,h⟩:=a;refine qb.next S h λas g f t q r j o=>?_;obtain⟨ds,rfl,c⟩:=bK o;obtain⟨l,c⟩:=c;have d:=bL j;refine⟨by rw[d.length];exact l,λp b=>?_⟩;exact c _ _ (q.trans (.new b)).kp (r.ot i b ⟨f,aj,d.mono (Ext.new (k:=g) b).kp⟩)⟩
noncomputable def dk:OW:={cls:=.type "dict",dict:=NN,data:=.dict #[]}
theorem ni{B:Fb}{H:Hp}:bq B H dk [] []:=⟨OB _,.inl ⟨[],[],.nil,⟨#[],0,⟨rfl,rfl,rfl⟩,rfl,λe a=>by simp at a,.nil,.nil⟩,rfl,rfl⟩⟩
theorem ou{P:N7}{w:Oq}{H:Hp}{h:Oy}{a:NR}{o:OW}(e:h.get? a=NF o):be P w H h a (gj a o):=⟨e,⟨o,e⟩,λc b q st=>st _ q⟩
theorem BO(i:Nat)(hN:X.N.Nodup)(hK:X.K=F.K)(g:X.N[i]?=NF x)(hx:Loc X.env.scope x)(j:X.fn x=NM\/X.env.scope.names.lookup x=NF .local):DS X F (.Assign [.Name x pos'] (.Dict [] [] lp) pos) (λρ=>pure (.nx (ρ.set i (NF (.own (.aH [] [])))))):=by
 have pe:PE X (.Dict [] [] lp) (λ_ H Q=>∀p,H p=NN->(p==Qi)=NP->Q (.ref p) (upd H p (gj p dk))):=λc s f H Q I h=>wpAny_Dict_empty ⟨.ref s.heap.objs.size,_,I.laid (a:=s.heap.objs.size) (o:=gj s.heap.objs.size dk) (t':=s.toks) (λ_ _ q=>NQ _ q) (NZ _) (ou (N4 _ rfl)),rfl,h _ (I.aD.fresh (NZ _)) (beq_eq_false_iff_ne.mpr (OX (Oj I.Dh)))⟩;exact⟨hK,(c7 (i:=i) hN g hx pe rfl j).imp λZ f H⟨ρ,k,S,h⟩p d b=>h _ _ (Ext.new (k:=k) d).kp (S.ot i d ⟨_,[],aj,b,ni,.nil⟩)⟩
noncomputable def gm(ρ:af)(i:Nat):Option D:=match ρ[i]? with
 |some (NF (.own d))=>NF d|_=>NN
theorem dm{ρ:af}{i:Nat}{d:D}(h:gm ρ i=NF d):ρ[i]?=NF (NF (.own d)):=by
 unfold gm at h;split at h;.rename_i y e;cases h;exact e
 .cases h
noncomputable def uV:D->M (List D)
 |.lst a=>pure a|_=>M.fail
theorem nj{d:D}{k Q E}(h:(uV d).run k Q E):∃xs,d=.lst xs/\Q xs k:=by cases d with
 |lst xs=>exact⟨xs,rfl,h⟩|_=>exact h.elim
theorem FV(i:Nat){np q p:P8}(C:X.N[i]?=NF x)(z:t4 X.env.scope x)(hd:(x==("__debug__":Oo))=NP)(m:(x==("__classdict__":Oo))=NP)(ha:DE X F e ta)(B:(q.endLine==p.line)=NM)(l:Og [e] X.env=(NP,Qa e X.env)::Og [] X.env):DS X F (.Expr (.Call (.Attribute (.Name x np) "append" q) [e] [] p) pos) (λρ=>do
   let ds<-uV (<-M.get (gm ρ i))let d<-ta ρ;M.need (ds.length<NW)pure (.nx (ρ.set i (NF (.own (.lst (ds++[d]))))))):=by
 have pe:=Iz (X:=X) (name:="append") (apos:=q) (cpos:=p) U_ PySem.F.slot_list_append (by rfl) v9 (d7 (pos:=np) C z hd m) (aZ ha.pe dz l) rfl (by rw[l];rfl) B l rfl;refine⟨ha.hK,(nP pe rfl).imp λZ G H⟨ρ,k,S,h⟩=>?_⟩;obtain⟨I,s,h⟩:=M.run_get.mp h;obtain⟨ds,rfl,h⟩:=nj h;obtain⟨v,g,a,rfl,b⟩:=S.at_ i _ (dm s);obtain⟨j,hx,ix⟩:=b.2.2;refine⟨_,g,.inl ⟨rfl,j,.inl (.inl hx)⟩,?_⟩;refine eO.next S h λd r u t o E w n=>?_;obtain⟨y,n⟩:=n;have c:=o.keep a _ b.1 hx;have f:=ix.mono o.kp;refine⟨a,j,u,rfl,rfl,c,by rw[f.length];exact y,?_⟩;have kp:Kp F.toFb t r (upd t a (.lst (j++[u]))) r:=Kp.own b.1 c rfl;refine n _ _ (o.kp.trans kp) ?_;exact E.e7 (dm s) g b.1 b.2.1 c rfl ⟨a,rfl,b.1,b.2.1,j++[u],aj,(f.append (.cons w .nil)).mono kp⟩
end
section
variable{X:Cx}{F:Fx}{e ke:Ob}{ta tk:af->M D}{pos pos' lp:P8}{x:Oo}
theorem fY{pins:List (NR×OW)}{σ:St}{H:Hp}{s:NL}{a:NR}{o o':OW}{h':Oy}{tk:Nat}(I:Inv X pins σ H s)(e:H a=NF (gj a o))(sb:PF a s.heap h')(c:h'.get? a=NF o'):Inv X pins σ (upd H a (gj a o')) {s with heap:=h',toks:=tk}:=I.write (x:=a) (e:=a) (by rw[e];exact trivial) (.inl rfl) (λb u hb q=>(sb.2 b hb).trans q) ⟨_,c⟩ (ou c)
noncomputable def uW:D->M (List D×List D)
 |.aH ks a=>pure (ks,a)|_=>M.fail
theorem wW{d:D}{k Q E}(h:(uW d).run k Q E):∃ks ds,d=.aH ks ds/\Q (ks,ds) k:=by cases d with
 |aH ks ds=>exact⟨ks,ds,rfl,h⟩|_=>exact h.elim
theorem FW(i:Nat){np:P8}(hu:X.A.units+2<Pj)(hP:X.prog=F.P)(hw:X.w=F.w)(hi:X.N[i]?=NF x)(hv:t4 X.env.scope x)(hd:(x==("__debug__":Oo))=NP)(Y:(x==("__classdict__":Oo))=NP)(hk:DE X F ke tk)(ha:DE X F e ta)(hs:Qz e (NF (.Subscript (.Name x np) ke pos')) pos.line X.env=pure NP):DS X F (.Assign [.Subscript (.Name x np) ke pos'] e pos) (λρ=>do
   let d<-ta ρ;let b<-uW (<-M.get (gm ρ i))let q<-tk ρ;M.need (b.1.length<NW/\kinds b.1 q)pure (.nx (ρ.set i (NF (.own (.aH (putD b.1 b.2 q d).1 (putD b.1 b.2 q d).2)))))):=by
 refine⟨ha.hK,λc s B H Z I⟨ρ,k,S,h⟩=>?_⟩;let R2:D->List D×List D->D->M Fl:=λd b q=>do
  M.need (b.1.length<NW/\kinds b.1 q)pure (.nx (ρ.set i (NF (.own (.aH (putD b.1 b.2 q d).1 (putD b.1 b.2 q d).2)))))
 let R:D->M Fl:=λd=>do
  let b<-uW (<-M.get (gm ρ i))let q<-tk ρ;R2 d b q
 refine wpAny_Assign_Subscript (bo (ha.pe c s B H (λu z=>∃d m,Ext F.toFb H k z m/\bX F ρ m B z/\Is F.toFb z u d/\(R d).run m (wD F Z H k) F.E) I (eO.next S h λd m u z e1 K U n=>⟨d,m,e1,K,U,n⟩)) λr s1⟨u,z,I1,ru,d,m,e1,K,U,n⟩=>?_) hs;obtain⟨d0,h0,n⟩:=M.run_get.mp n;obtain⟨ks,ds,rfl,n⟩:=wW n;obtain⟨v,G,a,rfl,l⟩:=K.at_ i _ (dm h0);refine bo (d7 (pos:=np) hi hv hd Y c s1 B z (λv L=>v=.ref a/\L=z) I1 ⟨_,G,rfl,rfl⟩) λov s2 j=>?_;obtain⟨w,L,I2,Q,ew,eH⟩:=j;subst ew eH;cases(show ov=Of a from Q);refine bo (hk.pe c s2 B L (λy t=>∃q g,Ext F.toFb L m t g/\bX F ρ g B t/\Is F.toFb t y q/\(R2 d (ks,ds) q).run g (wD F Z H k) F.E) I2 (eO.next K n λq g y t p S3 T J=>⟨q,g,p,S3,T,J⟩)) λkv s3 j=>?_;obtain⟨y,t,I3,ry,q,g,p,S3,T,J⟩:=j;obtain⟨⟨hz,W⟩,J⟩:=J;obtain⟨o,xs,ho,C,dd,ia⟩:=l.2.2;have f:=p.keep a _ l.1 ho;have V:s3.heap.get? a=NF o:=(I3.aD a _ f).1;refine qw (F:=F) hu I3 ha.hK hP hw (dd.mono p.kp) V (ia.mono p.kp) T ry (U.mono p.kp) ru W hz λh' o' tk sb eo po=>?_;obtain⟨⟨O,d1,d2⟩,_⟩:=po;have kp:Kp F.toFb t g (upd t a (gj a o')) g:=Kp.own l.1 f rfl;refine⟨B,_,fY I3 f sb eo,J _ _ (((e1.trans p).kp).trans kp) ?_⟩;exact S3.e7 (dm h0) G l.1 l.2.1 f rfl ⟨a,rfl,l.1,l.2.1,o',O,aj,C,d1.mono kp,d2.mono kp⟩
end
section
variable{X:Cx}{F:Fx}{o e:Ob}{es:List Ob}{to:TE}{t:TA}{name:Oo}{apos cpos:P8}{T id:String}{r:V->List V->Hp->VK->Prop}{ty:V->Hp->Prop}
theorem sX(D:∀{pins:List (NR×OW)}{σ:St}{H:Hp}{s:NL}{x:V}{v:NJ},Inv X pins σ H s->RelV x v->ty x H->s.TypeIs v T/\∀a,v=.ref a->∃ob,s.heap.get? a=NF ob/\ob.dict=NN)(pa:WC T)(slot:Slot T name id)(j:VX (.builtin id)=pure (.type "method_descriptor"))(C:Ir X id r)(B:PE X o to)(ha:PA X (e::es) t)(d:R0 o name X.env (Qa o X.env)=Qa o X.env)(f:((Qu cpos (Og (e::es) X.env)).all (λx=>!x.1)&&(VY cpos (TK [] X.env)).all (λx=>x.1.isSome)&&decide ((e::es).length+([]:List Sj).length+(if([]:List Sj).isEmpty then 0 else 1)<30))=NM)(c:(apos.endLine==cpos.line)=NM)(A:Og (e::es) X.env=(NP,Qa e X.env)::Og es X.env)(b:(Qu cpos (Og es X.env)).any (·.1)=NP):PE X (.Call (.Attribute o name apos) (e::es) [] cpos) (λσ H Q=>to σ H λx g=>ty x g/\t σ g λxs k=>r x xs k Q):=by
 intro pins s σ H Q I h;refine Vn d f c rfl (bo (B pins s σ H _ I h) λv u i=>?_);obtain⟨x,g,m,l,ty,z⟩:=i;obtain⟨G,E⟩:=D m l ty;refine⟨T,id,pa,slot,j,G,E,?_⟩;have hA:=ha cpos pins u σ g _ m z;rw[A]at hA⊢;refine SX (by show(NP||(Qu cpos (Og es X.env)).any (·.1))=NP;rw[b]<;>rfl) (TL ?_);exact bo hA λp q⟨n,k,J,w,y⟩=>C pins q σ k x n v p Q J l w y
end
section
variable{X:Cx}{F:Fx}
noncomputable def FX(T:String)(x:V)(H:Hp):Prop:=∃a o,x=.ref a/\H a=NF (gj a o)/\o.cls=.type T/\o.dict=NN
theorem BP{T:String}{pins:List (NR×OW)}{σ:St}{H:Hp}{s:NL}{x:V}{v:NJ}(I:Inv X pins σ H s)(r:RelV x v)(h:FX T x H):s.TypeIs v T/\∀a,v=.ref a->∃ob,s.heap.get? a=NF ob/\ob.dict=NN:=by
 obtain⟨a,o,rfl,e,f,d⟩:=h;cases(show v=Of a from r);have c:s.heap.get? a=NF o:=(I.aD a _ e).1;exact⟨⟨o,c,f⟩,λb q=>by cases q;exact⟨o,c,d⟩⟩
end
section
variable{X:Cx}{F:Fx}{e:Ob}{ta:af->M D}{pos pos' lp:P8}{x y:Oo}
theorem fH{B:Fb}{H:Hp}:∀{xs:List V}{ds:List D},ae B H xs ds->ae B H xs.dropLast ds.dropLast
 |_,[],h=>by simp only[ae]at h;rw[h];exact .nil|_,[d],h=>by
  simp only[ae]at h;obtain⟨x,f,rfl,_,a⟩:=h;rw[a];exact .nil|_,d::j::ds,h=>by
  simp only[ae]at h;obtain⟨x,f,rfl,g,i,c,rfl,b,a⟩:=h;exact .cons g (fH (.cons b a))
theorem FY(i j:Nat){np n m:P8}(hN:X.N.Nodup)(hK:X.K=F.K)(t:X.N[i]?=NF x)(q:t4 X.env.scope x)(hd:(x==("__debug__":Oo))=NP)(l:(x==("__classdict__":Oo))=NP)(s:X.N[j]?=NF y)(hy:Loc X.env.scope y)(w:X.fn y=NM\/X.env.scope.names.lookup y=NF .local)(r:(n.endLine==m.line)=NM):DS X F (.Assign [.Name y pos'] (.Call (.Attribute (.Name x np) "pop" n) [] [] m) pos) (λρ=>do
   let ds<-uV (<-M.get (gm ρ i))let d<-M.get ds[ds.length-1]?;pure (.nx ((ρ.set i (NF (.own (.lst ds.dropLast)))).set j (NF (.d d))))):=by
 have pe:=EK (X:=X) (name:="pop") (apos:=n) (cpos:=m) U_ PySem.F.slot_list_pop (by rfl) EL (d7 (pos:=np) t q hd l) rfl r;refine⟨hK,(c7 (i:=j) hN s hy pe rfl w).imp λZ A H⟨ρ,k,S,h⟩=>?_⟩;obtain⟨B,o,h⟩:=M.run_get.mp h;obtain⟨ds,rfl,h⟩:=nj h;obtain⟨d,g,h⟩:=M.run_get.mp h;obtain⟨v,f,a,rfl,b⟩:=S.at_ i _ (dm o);obtain⟨c,hx,ix⟩:=b.2.2;obtain⟨u,hu,p⟩:=ix.get g;refine⟨_,f,.inl ⟨rfl,c,.inl (.inl hx)⟩,a,c,u,rfl,rfl,hx,by rw[ix.length];exact hu,?_⟩;have kp:Kp F.toFb H k (upd H a (.lst c.dropLast)) k:=Kp.own b.1 hx rfl;refine h _ _ kp ?_;have z:=S.e7 (o':=.lst c.dropLast) (w':=.own (.lst ds.dropLast)) (dm o) f b.1 b.2.1 hx rfl ⟨a,rfl,b.1,b.2.1,c.dropLast,aj,(fH ix).mono kp⟩;exact z.set j (p.mono kp)
end
structure HK(M:To)(h:Oy)(C:NR):Prop where
 ga:R3 M h (Ul (.ref C) "__getattribute__") (NF (.builtin "BaseException.__getattribute__"))no:R3 M h (Ul (.ref C) "__getattr__") NN
 cl:R3 M h (Ul (.ref C) "__class__") (NF (.builtin "object.__class__"))sb:R3 M h (isSubtype (.ref C) (.type "BaseException")) NM
 so:R3 M h (isSubtype (.ref C) (.type "object")) NM
 it:R3 M h (isType (.ref C)) NM
section
variable{prog:N7}{w:Oq}{A:Ov}{E:NJ->NL->Prop}{h:Oy}{g:Array VR}{d:Drawn}{t:Nat}{os:OsState}{a C:NR}{o:OW}
theorem FZ{R:Xr->NL->Prop}(L:HK (N2 prog w) h C)(hx:h.get? a=NF o)(c:o.cls=.ref C)(f:R (.ok (.ret (.ref C))) ⟨h,g,d,t,os⟩):codeAny (N2 prog w) A (.call (.builtin "getset_descriptor.__get__") ⟨[.builtin "object.__class__",.ref a,.ref C],[]⟩) R ⟨h,g,d,t,os⟩:=by
 have b:(⟨h,g,d,t,os⟩:NL).TypeIs (.builtin "object.__class__") "getset_descriptor":=Ts;have e:R3 (N2 prog w) h (isSubtype (.ref C) (.type (".".intercalate ("object.__class__".cutAt '.').dropLast))) NM:=by rw[F.owner_object_class];exact L.so
 refine Sa F.slot_gs_get.plain F.entry_gs_get (F.slot_gs_get.check _ _ _ _ _ _ _ _ b (F.args_gs_get _ _ _) ?_);repeat(any_goals(first|assumption|(with_reducible refine Ph hx ?_;rw[c])|with_reducible refine e.at ?_|wp_step))
 refine⟨Rg _ (by decide+kernel),Pp F.entry_object_class ?_⟩;repeat(any_goals(first|assumption|(with_reducible refine Ph hx ?_;rw[c])|wp_step))
theorem yY{c:Vz}{Q:Fin->NL->Prop}(L:HK (N2 prog w) h C)(hx:h.get? a=NF o)(b:o.cls=.ref C)(i:Q (.done (.ret (.ref C))) ⟨h,g,d,t,os⟩):wpAny (N2 prog w) A (Builtin.«object.__getattribute__» ⟨[.ref a,.str "__class__" c],[]⟩) Q E ⟨h,g,d,t,os⟩:=by
 have e:(⟨h,g,d,t,os⟩:NL).TypeIs (.builtin "object.__class__") "getset_descriptor":=Ts;have f5:=Ts;have k:=F.slot_gs_get.lookup;have j:=F.slot_gs_set.lookup;have f:=L.cl;repeat(any_goals(first|assumption|(with_reducible refine Ph hx ?_;rw[b])|with_reducible refine f.at ?_|wp_step))
 refine FZ L hx b ?_;repeat(any_goals(first|assumption|wp_step))
theorem yZ{M:To}{b:NJ}{Q:Unit->NL->Prop}(L:HK M h C)(hx:h.get? a=NF o)(i:o.cls=.ref C)(e:Q () ⟨h,g,d,t,os⟩):wpAny M A (U8 "BaseException.__getattribute__" ⟨[.ref a,b],[]⟩) Q E ⟨h,g,d,t,os⟩:=by
 have f:builtinKind "BaseException.__getattribute__"=NF .slot:=by decide+kernel
 have c:splitId "BaseException.__getattribute__"=NF ("BaseException","__getattribute__"):=by decide+kernel
 have ha:=F.args_bexc_ga (.ref a) b;have sb:=L.sb;simp only[U8,f,c];refine NG ?_
 .unfold Us;repeat(first|(with_reducible refine Ph hx ?_;rw[i])|with_reducible refine sb.at ?_|wp_step)
  exact e
theorem Jp{e:Vz}{Q:NJ->NL->Prop}(L:HK (N2 prog w) h C)(hx:h.get? a=NF o)(c:o.cls=.ref C)(k:Q (.ref C) ⟨h,g,d,t,os⟩):wpAny (N2 prog w) A (getAttrBy (.ref a) (.str "__class__" e) NP) Q E ⟨h,g,d,t,os⟩:=by
 have j:=L.ga;have i:=L.no;have l:=F.excAttr_ValueError.ga.bind (.ref a);have b:(Sx "BaseException.__getattribute__"==Sx "object.__getattribute__")=NP:=by decide+kernel
 have f:(onTheHeap (Of C)&&Sx "BaseException.__getattribute__"==Sx "object.__getattribute__")=NP:=by rw[b];rfl
 repeat(any_goals(first|assumption|(with_reducible refine Ph hx ?_;rw[c])|with_reducible refine j.at ?_|with_reducible refine i.at ?_|wp_step))
 refine Sa F.excAttr_ValueError.ga.plain F.entry_bexc_ga (yZ L hx c (yY L hx c ?_));repeat(any_goals(first|assumption|wp_step))
theorem BQ{Q:Option NJ->NL->Prop}(L:HK (N2 prog w) h C)(hx:h.get? a=NF o)(b:o.cls=.ref C)(c:Q (NF (.ref C)) ⟨h,g,d,t+1,os⟩):wpAny (N2 prog w) A (W4 (.ref a) "__class__") Q E ⟨h,g,d,t,os⟩:=by
 unfold W4 getAttrBy?;repeat(any_goals(first|assumption|with_reducible apply Jp L hx b|wp_step))
end
noncomputable def AF(K:NS)(C:NR):Bool:=SS K (.ref C) "__getattribute__"==NF (NF (.builtin "BaseException.__getattribute__"))&&SS K (.ref C) "__getattr__"==NF NN&&SS K (.ref C) "__class__"==NF (NF (.builtin "object.__class__"))&&Sb K (.ref C) (.type "BaseException")==NF NM&&Sb K (.ref C) (.type "object")==NF NM&&(Sb K (.ref C) (.ref C)).isSome&&(PySem.W.clsIn K C).isSome
theorem y4{K:NS}{M:To}{h:Oy}{C:NR}(X:K.In h)(q:AF K C=NM):HK M h C:=by
 simp only[AF,N0,beq_iff_eq]at q;obtain⟨⟨⟨⟨⟨⟨f,e⟩,d⟩,c⟩,b⟩,a⟩,_⟩:=q;obtain⟨v,g⟩:=Option.isSome_iff_exists.mp a;exact⟨TR X f,TR X e,TR X d,(RW X c).2.2,(RW X b).2.2,(RW X g).2.1⟩
noncomputable def MV(a C:NR)(h:Oy):Prop:=∃o,h.get? a=NF o/\o.cls=.ref C
theorem y6{K:NS}{a C:NR}(q:AF K C=NM):PySem.W.KitX K (.ref a) (.ref C) (MV a C)where
 ty:=λM h _ p=>by
  obtain⟨o,i,f⟩:=p;exact f▸(PySem.W.Looks.ld i).andThen .now
 it:=λM h X p=>(y4 X q).it;ne:=λh tp v l n u X b=>by
  simp only[AF,N0]at q;obtain⟨cd,c⟩:=Option.isSome_iff_exists.mp q.2;refine Bool.eq_false_iff.mpr λz=>?_;have e:C=tp:=Value.ref.inj (beq_iff_eq.mp z);subst e;unfold PySem.W.clsIn at c;split at c
  .rename_i y x r j m;have z:=(X _ _ m).symm.trans b;cases z
  .cases c
 ca:=λ{prog w A E Q s}X p k=>by
  obtain⟨hh,g,d,t,os⟩:=s;obtain⟨o,i,f⟩:=p;exact BQ (y4 X q) i f k
noncomputable def gz(K:NS)(d:D)(c:NJ):Option Bool:=match d with
 |.exc a _=>if AF K a=NM then Py K (.ref a) c else NN|d=>match Fo d with
  |some t=>Py K (.type t) c|none=>NN
section
variable{X:Cx}{F:Fx}{a:Ob}{ta:af->M D}{pos:P8}
theorem qx{pins:List (NR×OW)}{σ:St}{H:Hp}{s:NL}{Q:NJ->NL->Prop}{E:NJ->NL->Prop}{A:Ov}{d:D}{c:NJ}{b:Bool}{v:V}{u:NJ}(I:Inv X pins σ H s)(r:RelV v u)(hK:X.K=F.K)(i:Is F.toFb H v d)(e:gz X.K d c=NF b)(h:∀n,Q (.bool b) {s with toks:=n}):wpAny (N2 X.prog X.w) A (SI (.builtin "isinstance") [u,c]) Q E s:=by
 by_cases hx:∃f nm,d=.exc f nm
 .obtain⟨f,nm,rfl⟩:=hx;have l:(if AF X.K f=NM then Py X.K (.ref f) c else NN)=NF b:=e;split at l
  .rename_i q;simp only[Is]at i;obtain⟨a,m,rfl,o,_⟩:=i;cases(show u=Of a from r);have:MV a f s.heap:=by match m,o with
    |[],⟨_,ob,u,k,j,_⟩=>exact⟨ob,(I.aD a _ k).1,j⟩|[v],⟨_,ob,u,x,p,k,j,_⟩=>exact⟨ob,(I.aD a _ k).1,j⟩
   exact Pg (y6 q) I.jg this l (λz=>nomatch z) h
  .cases l
 .have e:(match Fo d with
    |some t=>Py X.K (.type t) c|none=>NN)=NF b:=by cases d<;>first|exact e|exact absurd ⟨_,_,rfl⟩ hx
  cases g:Fo d with
  |none=>rw[g]at e;cases e|some t=>
   rw[g]at e;exact yt I r hK i g e h
theorem y7{x p1 f:P8}{cn:Oo}{P:NR}(ha:DE X F a ta)(B:X.mg "isinstance"=NN)(g:X.mg cn=NF (.ref P))(C:Gl X "isinstance")(j:Gl X cn)(l:(cn==("__debug__":Oo))=NP)(n:Og [a,.Name cn f] X.env=(NP,Qa a X.env)::Og [.Name cn f] X.env):DE X F (.Call (.Name "isinstance" p1) [a,.Name cn f] [] pos) (λρ=>do let d<-ta ρ;let b<-M.get (gz X.K d (.ref P));pure (.bl b)):=by
 refine⟨ha.hK,?_⟩;have E:fh X (.builtin "isinstance") (λp H Q=>∃k v d b,p=[v,.ref P]/\Is F.toFb H v d/\gz X.K d (.ref P)=NF b/\qE F.toFb H k Q (.bl b) k):=by
  intro m s o H N O Q I r h;obtain⟨k,v,d,b,rfl,i,hb,q⟩:=h;obtain⟨u,c,rfl,y,w⟩:=vals2 r;cases(show c=Of P from w);exact qx I y ha.hK i hb λt=>⟨.bl b,H,I.tok t,rfl,q _ H .refl (by simp only[Is])⟩
 refine(eN E C B (by decide+kernel) (aZ ha.pe (aZ (nO (v:=.ref P) j g rfl l) dz rfl) n) (by decide) (by decide) n rfl).imp λo H Q e=>?_;obtain⟨ρ,k,S,h⟩:=e;refine eO.next S h λd z v T L R A J=>?_;obtain⟨b,hb,G⟩:=M.run_get.mp J;exact⟨z,v,d,b,rfl,A,hb,G.ext L⟩
theorem y8{T:String}{p1 g:P8}{e:Oo}(ha:DE X F a ta)(E:X.mg "isinstance"=NN)(l:X.mg e=NN)(j:P7 e=NF (.type T))(G:Gl X "isinstance")(m:Gl X e)(C:e≠"__name__")(n:(e==("__debug__":Oo))=NP)(p:Og [a,.Name e g] X.env=(NP,Qa a X.env)::Og [.Name e g] X.env):DE X F (.Call (.Name "isinstance" p1) [a,.Name e g] [] pos) (λρ=>do let d<-ta ρ;let b<-M.get (gz X.K d (.type T));pure (.bl b)):=by
 refine⟨ha.hK,?_⟩;have J:fh X (.builtin "isinstance") (λw H Q=>∃k v d b,w=[v,.ty T]/\Is F.toFb H v d/\gz X.K d (.type T)=NF b/\qE F.toFb H k Q (.bl b) k):=by
  intro o s t H P R Q I r h;obtain⟨k,v,d,b,rfl,i,hb,q⟩:=h;obtain⟨u,c,rfl,z,y⟩:=vals2 r;cases(show c=Ww T from y);exact qx I z ha.hK i hb λx=>⟨.bl b,H,I.tok x,rfl,q _ H .refl (by simp only[Is])⟩
 refine(eN J G E (by decide+kernel) (aZ ha.pe (aZ (AK (v:=.ty T) m l j rfl C n) dz rfl) p) (by decide) (by decide) p rfl).imp λt H Q f=>?_;obtain⟨ρ,k,S,h⟩:=f;refine eO.next S h λd A v V O U B N=>?_;obtain⟨b,hb,L⟩:=M.run_get.mp N;exact⟨A,v,d,b,rfl,B,hb,L.ext O⟩
end
section
variable{X:Cx}{F:Fx}
structure L9(X:Cx)(F:Fx)(T:String)(id:String)(rc:D->Bool)(m:D->List D->M D):Prop where
 ty:∀{pins:List (NR×OW)}{σ:St}{H:Hp}{s:NL}{x:V}{v:NJ}{d:D},Inv X pins σ H s->RelV x v->X.K=F.K->Is F.toFb H x d->rc d=NM->s.TypeIs v T/\∀a,v=.ref a->∃ob,s.heap.get? a=NF ob/\ob.dict=NN
 call:∀(pins:List (NR×OW))(s:NL)(σ:St)(H:Hp)(k:Nat)(x:V)(xs:List V)(v:NJ)(us:List NJ)(d:D)(ds:List D)(Q:VK),Inv X pins σ H s->RelV x v->aq xs us->H F.p≠NN->X.K=F.K->Is F.toFb H x d->ae F.toFb H xs ds->rc d=NM->(m d ds).run k (qE F.toFb H k Q) F.E->wpAny (N2 X.prog X.w) X.A (SI (.builtin id) (v::us)) (EP X pins σ Q) X.xe s
variable{o e:Ob}{es:List Ob}{to:af->M D}{tas:af->M (List A)}{name:Oo}{ap cp:P8}{T id:String}{rc:D->Bool}{m:D->List D->M D}
theorem BR(J:L9 X F T id rc m)(pa:WC T)(slot:Slot T name id)(y:VX (.builtin id)=pure (.type "method_descriptor"))(t:DE X F o to)(ha:DA X F (e::es) tas)(f:R0 o name X.env (Qa o X.env)=Qa o X.env)(b:(ap.endLine==cp.line)=NM)(j:((Qu cp (Og (e::es) X.env)).all (λx=>!x.1)&&(VY cp (TK [] X.env)).all (λx=>x.1.isSome)&&decide ((e::es).length+([]:List Sj).length+(if([]:List Sj).isEmpty then 0 else 1)<30))=NM)(P:Og (e::es) X.env=(NP,Qa e X.env)::Og es X.env)(a:(Qu cp (Og es X.env)).any (·.1)=NP):DE X F (.Call (.Attribute o name ap) (e::es) [] cp) (λρ=>do let d<-to ρ;M.need (rc d=NM);let ds<-gS (<-tas ρ);m d ds):=by
 have mt:Ir X id (λx u H Q=>∃k d ds,H F.p≠NN/\Is F.toFb H x d/\ae F.toFb H u ds/\rc d=NM/\(m d ds).run k (qE F.toFb H k Q) F.E):=λg s C H x u v L Q I rx N⟨k,d,ds,l,n,w,c,q⟩=>J.call g s C H k x u v L d ds Q I rx N l t.hK n w c q;refine⟨t.hK,(sX (ty:=λx H=>∃d,Is F.toFb H x d/\rc d=NM) (λI r⟨d,i,c⟩=>J.ty I r t.hK i c) pa slot y mt t.pe ha.pa f j b P a).imp λC H Q⟨ρ,k,S,h⟩=>?_⟩;refine eO.next S h λd k1 v H1 V Y n B=>?_;obtain⟨G,B⟩:=B;refine⟨⟨d,n,G⟩,?_⟩;refine qb.next Y B λas O Z H2 K W w U=>?_;obtain⟨ds,rfl,R⟩:=bK U;exact⟨O,d,ds,W.live,n.mono K.kp,bL w,G,M.wk R λ_ _ z=>z.ext (V.trans K)⟩
end
section
variable{X:Cx}{F:Fx}
noncomputable def qy:D->Bool
 |.aH _ _=>NM|_=>NP
noncomputable def L_:D->List D->M D
 |.aH ks a,[d]=>do M.need (kinds ks d/\ks.length=a.length);pure ((aL ks a d).getD .aU)|_,_=>M.fail
theorem fI:∀{ks ds:List D}{d:D},ks.length=ds.length->(aL ks ds d).isSome=bF ks d
 |[],[],d,_=>rfl|[],_::_,d,h=>by simp at h|_::_,[],d,h=>by simp at h|k::ks,v::ds,d,h=>by
  have a:=fI (ks:=ks) (ds:=ds) (d:=d) (by simpa using h);unfold bF at a⊢;rw[Rv,<-a];simp only[aL];cases dU k d<;>simp
theorem F2(hu:X.A.units+2<Pj)(hP:X.prog=F.P)(hw:X.w=F.w):L9 X F "dict" "dict.get" qy L_ where
 ty:=λ{t W H s x v d}I r hK i c=>by
  cases d<;>first|cases c|skip
  simp only[Is]at i;obtain⟨a,Y,rfl,⟨o,B,n⟩,L⟩:=i;cases(show v=Of a from r);have m:=B.get I hK;obtain⟨G,ep,hx,_⟩:=yV n;exact⟨iT n m,λb q=>by cases q;exact⟨o,m,hx.2.1⟩⟩
 call:=λt s W H k x Y v us d ds Q I rx rs l hK U i2 c q=>by match d,ds,q with
  |.aH ks G,[d],q=>
   obtain⟨⟨E,C⟩,q⟩:=q;have q:qE F.toFb H k Q ((aL ks G d).getD .aU) k:=q;simp only[Is]at U;obtain⟨a,ws,rfl,⟨o,B,n⟩,L⟩:=U;cases(show v=Of a from rx);have m:=B.get I hK;obtain⟨w,rfl,iw⟩:=i2.one;obtain⟨u,rfl,S⟩:=vals1 rs;have V:=iT (F:=F) n m;rcases E with⟨E,f,rfl⟩|⟨E,f,rfl⟩
   .obtain⟨g,j,T,ob,rfl,rfl⟩:=n.FP E;rw[<-hP,<-hw]at ob;have:=eA iw;subst this;refine Vy Ri V RO (Va _ _) (meets_dict_get (ar X.prog X.w) a (fx S) B.2.1) ⟨_,(ob.at m).mapOf,?_⟩;cases h:aL (g.map λx=>kD x.1) G (kD f)with
    |some e=>
     obtain⟨y,R,O⟩:=uQ L h;obtain⟨u',M,J⟩:=gH.some_of (v:=y) (o:=TC j f) (by rw[<-R];exact T.val f);rw[M];rw[h]at q;exact⟨y,H,I.tok _,J,q y H .refl O⟩|none=>
     have N:gh g f=NN:=by
      have:=fI (d:=kD f) C;rw[h,sT]at this;cases e:gh g f with
      |none=>rfl|some z=>rw[e]at this;cases this
     have:TC j f=NN:=gH.none_of (by rw[<-N];exact T.val f);rw[this];rw[h]at q;exact⟨.aU,H,I.tok _,rfl,q _ H .refl (by simp only[Si,Is])⟩
   .obtain⟨g,j,K,ob,tp,rfl,rfl⟩:=n.FQ E;rw[<-hP,<-hw]at ob;obtain⟨b,rfl,Z⟩:=ek.of iw;cases(show u=Of b from S);refine Vy Ri V RO (Va _ _) (meetsH_dict_get (bJ X.prog X.w) a b B.2.1) ⟨du hu,f,j,dS I hK Z,ob.at m (dW I hK K tp),?_⟩;cases h:aL (g.map λx=>D.tup (x.1.map nD)) G (.tup (f.map nD))with
    |some e=>
     obtain⟨p,y,R,O,h3⟩:=uR K L h;rw[R];rw[h]at q;exact⟨y,H,I.tok _,O,q y H .refl h3⟩|none=>
     have N:W3 j f=NN:=by
      have:=fI (d:=.tup (f.map nD)) C;rw[h,wQ K]at this;cases e:W3 j f with
      |none=>rfl|some z=>rw[e]at this;cases this
     rw[N];rw[h]at q;exact⟨.aU,H,I.tok _,rfl,q _ H .refl (by simp only[Si,Is])⟩
end
noncomputable def fk:D->Option (List D)
 |.tup a=>NF a|.lst a=>NF a|.aH ks _=>NF ks|_=>NN
section
variable{X:Cx}{F:Fx}
theorem BS{tg a:Ob}{Y:af->M D}(ha:DE X F a Y):DI X F tg a (λρ=>do M.get (fk (<-Y ρ))):=⟨ha.hK,λg s σ H R I L=>by
  obtain⟨ρ,k,S,h⟩:=L;refine bo (ha.pe g s σ H _ I (eO.next S h (Q:=λv f=>∃d m w,Ext F.toFb H k f m/\Is F.toFb f v d/\fk d=NF w/\f F.p≠NN/\(∀J W,Ext F.toFb H k W m->sI F.toFb J w W m->R J W)) λd m v f u S1 j C=>by
   obtain⟨w,e,V⟩:=M.run_get.mp C;exact⟨d,m,w,u,j,e,S1.live,V⟩)) λv c⟨x,f,l,O,d,m,w,u,j,ed,lv,q⟩=>?_;have XF:∀b∈[c.heap.objs.size],fu X g f b:=λb hb=>by
   have e:b=c.heap.objs.size:=by simpa using hb
   subst e;exact l.AO (NZ _) (l.aD.fresh (NZ _))
  cases d with
  |tup xs=>
   cases ed;simp only[Is]at j;obtain⟨a,A,rfl,t,B⟩:=j;cases(show v=Of a from O);obtain⟨r,N,p,n⟩:=l.tuple (show kf X.K f a A by rw[ha.hK];exact t.2);refine Ux (show c.heap.IsTuple a r.toArray from p) ?_;exact⟨c.heap.objs.size,[c.heap.objs.size],_,_,f,rfl,l.kept (t':=c.toks) λb o e=>NQ _ e,se a _,⟨_,N4 _ rfl,rfl,rfl⟩,XF,q _ f u (by rw[ha.hK];exact yz t B n)⟩|lst xs=>
   cases ed;simp only[Is]at j;obtain⟨a,A,rfl,t,B⟩:=j;cases(show v=Of a from O);obtain⟨r,N,p,n⟩:=l.list (show dy X.K f a A by rw[ha.hK];exact t.2.sq);refine Tc p.isList ?_;exact⟨c.heap.objs.size,[c.heap.objs.size],_,_,f,rfl,l.kept (t':=c.toks) λb o e=>NQ _ e,vX a _,⟨_,N4 _ rfl,rfl,rfl⟩,XF,q _ f u (by rw[ha.hK];exact yy t B n)⟩|aH ks a2=>
   cases ed;simp only[Is]at j;obtain⟨a,A,rfl,⟨o,P,dd⟩,B⟩:=j;cases(show v=Of a from O);obtain⟨a0,es,ep,hx,hd,N,ik⟩:=qu dd;have ho:=P.get l ha.hK;have lt:a<c.heap.objs.size:=N1 ho;refine DictIt.ux P.2.1 ho hx.1 hd ?_;refine⟨c.heap.objs.size,[c.heap.objs.size],_,_,_,rfl,l.kept (t':=c.toks) λb o e=>NQ _ e,sW (K:=X.K) hd N (Oj lt),⟨_,N4 _ rfl,rfl,rfl⟩,XF,q _ _ u ?_⟩;have Z:∀{G:Hp}{T:Nat},Kp F.toFb f m G T->L7 X.K G a o:=λe=>by
    rcases(P.mono e).2.2 with z|z;.exact .inl z
    .exact .inr (by rw[ha.hK];exact z)
   refine⟨λi d G T U E l2=>?_,λG T E l2=>⟨Z E,by rw[ik.length];exact NZ _⟩,dd.1⟩;obtain⟨y,C,V⟩:=(ik.mono E).get U;refine⟨⟨Z E,(List.getElem?_eq_some_iff.mp C).1⟩,λz H3 yl=>?_⟩;obtain⟨rfl,n⟩:=yl;rw[C]at n;cases n;exact⟨.refl,V⟩|_=>cases ed⟩
noncomputable def BU:D->Option Bool
 |.aU=>NF NP|.bl b=>NF b|.int i=>NF (i !=0)|.str y=>if y.length<=NW then NF ((y.length:Int)!=0)else NN|.tup a=>NF (!a.isEmpty)|.lst a=>NF (!a.isEmpty)|_=>NN
theorem jR{B:Fb}{H:Hp}{xs:List V}{ds:List D}(h:ae B H xs ds):xs.isEmpty=ds.isEmpty:=by
 have:=h.length;cases xs<;>cases ds<;>first|rfl|simp at this
theorem F3{e:Ob}{t:af->M D}(h:DE X F e t)(o:∀whole,Vg e X.env whole=(do let v<-whole;SR e.pos;TB [v] (truthy v))):DT X F e (λρ=>do M.get (BU (<-t ρ))):=⟨h.hK,(xI h.pe o).imp λu H Q g=>by
  obtain⟨ρ,k,S,z⟩:=g;refine eO.next S z λd w v s r x f q=>?_;obtain⟨b,hb,p⟩:=M.run_get.mp q;refine⟨b,?_,p s r⟩;cases d with
  |aU=>cases hb;simp only[Is]at f;rw[f];rfl|bl c=>cases hb;simp only[Is]at f;rw[f];rfl|int i=>cases hb;simp only[Is]at f;rw[f];rfl|str y=>
   simp only[BU]at hb;split at hb
   .rename_i hy;cases hb;simp only[Is]at f;rw[f];exact⟨hy,rfl⟩
   .cases hb|tup n=>
   cases hb;simp only[Is]at f;obtain⟨a,j,rfl,m,l⟩:=f;exact .inr (.inl ⟨j,by rw[h.hK];exact m.2,by rw[jR l]⟩)|lst n=>
   cases hb;simp only[Is]at f;obtain⟨a,j,rfl,m,l⟩:=f;exact .inl ⟨j,by rw[h.hK];exact m.2.sq,by rw[jR l]⟩|_=>cases hb⟩
end
end L2
end
section
namespace SrtP
open PySem PyProof.Rows
section
variable{prog:N7}{w:Oq}{A:Ov}{E:NJ->NL->Prop}{s:NL}{κ:Qd}{a₀:Array Ou}
noncomputable def Cm(prog:N7)(w:Oq)(A:Ov)(s:NL)(κ:Qd)(a₀:Array Ou):Prop:=∀x∈a₀,∀y∈a₀,∀(Q:Bool->NL->Prop)(E:NJ->NL->Prop),(∀b,Q b s)->wpAny (N2 prog w) A (keyLt' κ x.1 y.1) Q E s
structure Bs(κ:Qd)(a₀:Array Ou)(st:OA):Prop where
 k:kindOf st=κ
 p:(QO st).Perm a₀
 f:U7 st=NN
theorem Bs.size{st:OA}(h:Bs κ a₀ st):(QO st).size=a₀.size:=h.p.size_eq
theorem Bs.mem{st:OA}(h:Bs κ a₀ st){x:Ou}(m:x∈QO st):x∈a₀:=h.p.mem_iff.mp m
theorem lH(C:Cm prog w A s κ a₀){st:OA}{x y:Ou}{Q:Option Bool->OA->Prop}(a:kindOf st=κ)(hx:x∈a₀)(hy:y∈a₀)(q:∀b,Q (NF b) st):VQ (N2 prog w) A E s (lt' x y) Q st:=by
 rw[lt'_eq];refine N3 (Td ?_);rw[a];refine N3 (wpS_lift (TF (C x hx y hy _ _ λb=>⟨rfl,?_⟩)));exact N_ (q b)
theorem av{st:OA}{a:Array Ou}{i:Nat}{Q:Ou->OA->Prop}(h:i<a.size)(q:∀x∈a,a[i]?=NF x->Q x st):VQ (N2 prog w) A E s (Qn a i) Q st:=by
 rw[elem'_eq,N6 h];exact N_ (q _ (Array.getElem_mem h) (N6 h))
theorem fJ(C:Cm prog w A s κ a₀){st:OA}{i j:Nat}{Q:Option Bool->OA->Prop}(h:Bs κ a₀ st)(c:i<a₀.size)(a:j<a₀.size)(q:∀b,Q (NF b) st):VQ (N2 prog w) A E s (ltAt' i j) Q st:=by
 rw[ltAt'_eq];refine N3 (Td ?_);refine N3 (av (by rw[h.size];exact c) λx hx _=>?_);refine N3 (av (by rw[h.size];exact a) λy hy _=>?_);exact lH C h.k (h.mem hx) (h.mem hy) q
theorem dY{st:OA}{i j:Nat}{Q:Unit->OA->Prop}(h:Bs κ a₀ st)(q:∀a,Bs κ a₀ a->Oi a=Oi st->Q () a):VQ (N2 prog w) A E s (reverseSlice' i j) Q st:=by
 rw[reverseSlice'_eq];exact RP (q _ ⟨h.k,(mirror_perm _ _ _ _).trans h.p,h.f⟩ rfl)
theorem y9{st:OA}{i j:Nat}{Q:Unit->OA->Prop}(h:Bs κ a₀ st)(q:∀a,Bs κ a₀ a->Oi a=Oi st->Q () a):VQ (N2 prog w) A E s (moveDown' i j) Q st:=by
 rw[moveDown'_eq];exact RP (q _ ⟨h.k,(bubble_perm _ _ _).trans h.p,h.f⟩ rfl)
theorem dF{st:OA}{x:String}{Q:Unit->OA->Prop}(q:Q () st):VQ (N2 prog w) A E s (liftM (VT x):StateT OA UG Unit) Q st:=wpS_lift (Tu ⟨rfl,q⟩)
theorem aY{e:Type}{a b:Nat}{f:Nat->e->StateT OA UG (ForInStep e)}{Q:e->OA->Prop}{c:e}{st:OA}(I:Nat->e->OA->Prop)(R:e->OA->Prop)(k:I a c st)(d:∀i c st,a<=i->i<b->I i c st->VQ (N2 prog w) A E s (f i c) (λr g=>match r with|.done j=>R j g|.yield j=>I (i+1) j g) st)(h:∀c st,I (max a b) c st->R c st)(q:∀c st,R c st->Q c st):VQ (N2 prog w) A E s (forIn [a:b] c f) Q st:=TU (wpS_forRange I d h k) q
theorem iV(C:Cm prog w A s κ a₀){st:OA}{lo a d:Nat}{Q:Option (Option Nat)×Nat->OA->Prop}(h:Bs κ a₀ st)(l:1<=a)(j:a<=d)(k:lo+d<=a₀.size)(q:∀n,a<=n->n<=d->Q (NN,n) st):VQ (N2 prog w) A E s (forIn [a:d] ((NN,a):Option (Option Nat)×Nat) λx __s=>do
   let __x<-ltAt' (lo+__s.snd) (lo+__s.snd-1)match __x with
    |some f=>if f=NM then pure (Te (NN,__s.snd))else pure (P9 (NN,__s.snd+1))|x=>pure (Te (NF NN,__s.snd))) Q st:=by
 refine aY (λi c e=>e=st/\c=(NN,i)) (λc e=>e=st/\∃n,c=(NN,n)/\a<=n/\n<=d) ⟨rfl,rfl⟩ ?_ ?_ ?_
 .rintro i c e xv pk⟨rfl,rfl⟩;refine N3 (fJ C h (by dsimp only;omega+splitNatSub) (by dsimp only;omega+splitNatSub) λb=>?_);cases b with
  |true=>exact N_ ⟨rfl,i,rfl,xv,by omega+splitNatSub⟩|false=>exact N_ ⟨rfl,rfl⟩
 .rintro c e⟨rfl,rfl⟩;exact⟨rfl,_,rfl,by omega+splitNatSub,by omega+splitNatSub⟩
 .rintro c e⟨rfl,n,rfl,a1,g⟩;exact q n a1 g
theorem qz(C:Cm prog w A s κ a₀){st:OA}{lo a e:Nat}{Q:Option (Option Nat)×Nat×Nat->OA->Prop}(h:Bs κ a₀ st)(v:1<=a)(t:a<=e)(u:lo+e<=a₀.size)(q:∀n m d,a<=n->n<=e->Bs κ a₀ d->Oi d=Oi st->Q (NN,n,m) d):VQ (N2 prog w) A E s (forIn [a:e] ((NN,a,0):Option (Option Nat)×Nat×Nat) λx __s=>do
   let __x<-ltAt' (lo+__s.snd.fst) (lo+__s.snd.fst-1)match __x with
    |some f=>
     if f=NM then
      if __s.snd.snd>0 then do
       let __r<-reverseSlice' (lo+__s.snd.fst-(__s.snd.snd+1)) (lo+__s.snd.fst)pure (P9 (NN,__s.snd.fst+1,0))else pure (P9 (NN,__s.snd.fst+1,0))else do
      let __x<-ltAt' (lo+__s.snd.fst-1) (lo+__s.snd.fst)match __x with
       |some g=>
        if g=NM then pure (Te (NN,__s.snd.fst,__s.snd.snd))else pure (P9 (NN,__s.snd.fst+1,__s.snd.snd+1))|x=>pure (Te (NF NN,__s.snd.fst,__s.snd.snd))
    |x=>pure (Te (NF NN,__s.snd.fst,__s.snd.snd))) Q st:=by
 refine aY (λi c d=>Bs κ a₀ d/\Oi d=Oi st/\∃m,c=(NN,i,m)) (λc d=>Bs κ a₀ d/\Oi d=Oi st/\∃n m,c=(NN,n,m)/\a<=n/\n<=e) ⟨h,rfl,0,rfl⟩ ?_ ?_ ?_
 .rintro i c d xv pk⟨hb,j,m,rfl⟩;refine N3 (fJ C hb (by dsimp only;omega) (by dsimp only;omega) λb=>?_);cases b with
  |true=>
   dsimp only;rw[if_pos rfl];by_cases o:m>0
   .rw[if_pos o];exact N3 (dY hb λp l k=>N_ ⟨l,k.trans j,0,rfl⟩)
   .rw[if_neg o];exact N_ ⟨hb,j,0,rfl⟩|false=>
   dsimp only;rw[if_neg (by decide)];refine N3 (fJ C hb (by omega) (by omega) λb=>?_);cases b with
   |true=>exact N_ ⟨hb,j,i,m,rfl,xv,by omega⟩|false=>exact N_ ⟨hb,j,m+1,rfl⟩
 .rintro c d⟨hb,j,m,rfl⟩;exact⟨hb,j,_,m,rfl,by omega,by omega⟩
 .rintro c d⟨hb,j,n,m,rfl,a1,r⟩;exact q n m d a1 r hb j
theorem wX(C:Cm prog w A s κ a₀){st:OA}{lo a:Nat}{Q:Option Nat->OA->Prop}(h:Bs κ a₀ st)(K:1<=a)(k:lo+a<=a₀.size)(q:∀n i,1<=n->n<=a->Bs κ a₀ i->Oi i=Oi st->Q (NF n) i):VQ (N2 prog w) A E s (countRun' lo a) Q st:=by
 rw[countRun'_eq];refine N3 (iV C h (NZ _) K k λn a1 G=>?_);dsimp only;by_cases B:(n==a)=NM
 .rw[if_pos B];exact N_ (q n st a1 G h rfl)
 .rw[if_neg B];have r:n+1<=a:=by
   have:n≠a:=λe=>B (by rw[e];exact beq_self_eq_true _);omega
  by_cases p:n>1
  .rw[if_pos p];refine N3 (fJ C h (by omega) (by omega) λb=>?_);cases b with
   |true=>exact N_ (q n st a1 G h rfl)|false=>
    refine N3 (dY h λI b1 F=>?_);refine N3 (dF ?_);refine N3 (qz C b1 (by omega) r k λJ m y H l u o=>?_);dsimp only;by_cases t:m>0
    .rw[if_pos t];refine N3 (dY u λx D z=>?_);refine N3 (dY D λc f j=>?_);refine N3 (iV C f (by omega) l k λd v g=>?_);exact N_ (q d c (by omega) g f (j.trans (z.trans (o.trans F))))
    .rw[if_neg t];refine N3 (dY u λc f j=>?_);refine N3 (iV C f (by omega) l k λd v g=>?_);exact N_ (q d c (by omega) g f (j.trans (o.trans F)))
  .rw[if_neg p];refine N3 (dF ?_);refine N3 (qz C h (by omega) r k λJ m y H l u o=>?_);dsimp only;by_cases t:m>0
   .rw[if_pos t];refine N3 (dY u λx D z=>?_);refine N3 (dY D λc f j=>?_);refine N3 (iV C f (by omega) l k λd v g=>?_);exact N_ (q d c (by omega) g f (j.trans (z.trans o)))
   .rw[if_neg t];refine N3 (dY u λc f j=>?_);refine N3 (iV C f (by omega) l k λd v g=>?_);exact N_ (q d c (by omega) g f (j.trans o))
theorem BV(C:Cm prog w A s κ a₀){st:OA}{lo n ok:Nat}{Q:Bool->OA->Prop}(h:Bs κ a₀ st)(x:lo+n<=a₀.size)(q:∀a,Bs κ a₀ a->Oi a=Oi st->Q NM a):VQ (N2 prog w) A E s (binarySort' lo n ok) Q st:=by
 rw[binarySort'_eq];refine N3 (aY (λk c a=>c=(NN,())/\Bs κ a₀ a/\Oi a=Oi st) (λc a=>c=(NN,())/\Bs κ a₀ a/\Oi a=Oi st) ⟨rfl,h,rfl⟩ ?_ (λ_ _ z=>z) ?_)
 .rintro k c d t p⟨rfl,b1,f⟩;refine N3 (aY (λi(c:Option Bool×Nat×Nat)a=>a=d/\c.1=NN/\c.2.2<=k) (λc a=>a=d/\c.1=NN) ⟨rfl,rfl,NZ _⟩ ?_ (λc a z=>⟨z.1,z.2.1⟩) ?_)
  .rintro i⟨u,l,r⟩a xv pk⟨rfl,e,g⟩;dsimp only at e g⊢;subst e;by_cases j:l>=r
   .rw[if_pos j];exact N_ ⟨rfl,rfl⟩
   .rw[if_neg j];refine N3 (fJ C b1 (by omega) (by omega) λb=>?_);cases b with
    |true=>exact N_ ⟨rfl,rfl,by show(l+r)/2<=k;omega⟩|false=>exact N_ ⟨rfl,rfl,g⟩
  .rintro⟨u,l,r⟩a⟨rfl,e⟩;dsimp only at e⊢;subst e;exact N3 (y9 b1 λm v o=>N_ ⟨rfl,v,o.trans f⟩)
 .rintro c d⟨rfl,b1,f⟩;exact N_ (q d b1 f)
noncomputable def bO:Bool->Ou->Array Ou->Nat->Nat->Nat->StateT OA UG (Option Nat):=sortPriv%PySem.Builtin.gallop
theorem sY(left:Bool)(key:Ou)(j:Array Ou)(base n a:Nat):bO left key j base n a=(do
 let e(i:Nat):StateT OA UG (Option Bool):=do
  let x<-Qn j (base+i)if left then lt' x key else return(<-lt' key x).map (!·)
 let mut c:=0;let mut d:=1;let mut lo:=0;let mut h:=0
 let NF right<-e a|return NN
 if right then
  let b:=n-a;for _ in[0:n]do
   if d>=b then break
   let NF f<-e (a+d)|return NN
   if !f then break
   c:=d;d:=2*d+1
  lo:=a+c+1;h:=a+min d b;else
  let b:=a+1;for _ in[0:n]do
   if d>=b then break
   let NF g<-e (a-d)|return NN
   if g then break
   c:=d;d:=2*d+1
  lo:=a+1-min d b;h:=a-c
 for _ in[0:n]do
  if lo>=h then break
  let m:=lo+(h-lo)/2
  let NF f<-e m|return NN
  if f then lo:=m+1 else h:=m
 return NF h):=rfl
theorem cL(C:Cm prog w A s κ a₀){st:OA}{left:Bool}{key:Ou}{h:Array Ou}{base n e:Nat}{Q:Option Nat->OA->Prop}(u:kindOf st=κ)(t:∀x∈h,x∈a₀)(g:key∈a₀)(hh:e<n)(y:base+n<=h.size)(q:∀k,k<=n->Q (NF k) st):VQ (N2 prog w) A E s (bO left key h base n e) Q st:=by
 rw[sY];extract_lets beyond la0 of0 jp mx1 mx2;have hb:∀(i:Nat)(Q:Option Bool->OA->Prop),i<n->(∀b,Q (NF b) st)->VQ (N2 prog w) A E s (beyond i) Q st:=λi Q o q=>by
  refine N3 (av (by omega) λx hx _=>?_);cases left with
  |true=>exact lH C u (t x hx) g q|false=>exact N3 (lH C u g (t x hx) λb=>N_ (q _))
 have v:∀(p of lo o:Nat),o<=n->VQ (N2 prog w) A E s (jp () p of lo o) Q st:=λp of lo o hh=>by
  refine N3 (aY (λi(c:Option (Option Nat)×Nat×Nat)a=>a=st/\c.1=NN/\c.2.2<=n) (λc a=>a=st/\c.1=NN/\c.2.2<=n) ⟨rfl,rfl,hh⟩ ?_ (λc a z=>z) ?_)
  .rintro i⟨m,l,r⟩a xv pk⟨rfl,d,j⟩;dsimp only at d j⊢;subst d;by_cases f:l>=r
   .rw[if_pos f];exact N_ ⟨rfl,rfl,j⟩
   .rw[if_neg f];refine N3 (hb _ _ (by omega) λb=>?_);cases b with
    |true=>exact N_ ⟨rfl,rfl,j⟩|false=>exact N_ ⟨rfl,rfl,by show l+(r-l)/2<=n;omega⟩
  .rintro⟨m,l,r⟩a⟨rfl,d,j⟩;dsimp only at d j⊢;subst d;exact N_ (q r j)
 refine N3 (hb _ _ hh λb=>?_);cases b with
 |true=>
  dsimp only;rw[if_pos rfl];refine N3 (aY (λi(c:Option (Option Nat)×Nat×Nat)a=>a=st/\c.1=NN) (λc a=>a=st/\c.1=NN) ⟨rfl,rfl⟩ ?_ (λc a z=>z) ?_)
  .rintro i⟨m,l,r⟩a xv pk⟨rfl,d⟩;dsimp only at d⊢;subst d;by_cases f:r>=mx1
   .rw[if_pos f];exact N_ ⟨rfl,rfl⟩
   .rw[if_neg f];refine N3 (hb _ _ (by have:mx1=n-e:=rfl;omega) λb=>?_);cases b<;>exact N_ ⟨rfl,rfl⟩
  .rintro⟨m,l,r⟩a⟨rfl,d⟩;dsimp only at d⊢;subst d;exact v l r _ _ (by have:mx1=n-e:=rfl;omega)|false=>
  dsimp only;rw[if_neg (by decide)];refine N3 (aY (λi(c:Option (Option Nat)×Nat×Nat)a=>a=st/\c.1=NN) (λc a=>a=st/\c.1=NN) ⟨rfl,rfl⟩ ?_ (λc a z=>z) ?_)
  .rintro i⟨m,l,r⟩a xv pk⟨rfl,d⟩;dsimp only at d⊢;subst d;by_cases f:r>=mx2
   .rw[if_pos f];exact N_ ⟨rfl,rfl⟩
   .rw[if_neg f];refine N3 (hb _ _ (by omega) λb=>?_);cases b<;>exact N_ ⟨rfl,rfl⟩
  .rintro⟨m,l,r⟩a⟨rfl,d⟩;dsimp only at d⊢;subst d;exact v l r _ _ (by omega)
noncomputable def aE:Nat->StateT OA UG Unit:=sortPriv%PySem.Builtin.setMinGallop
noncomputable abbrev F4(st:OA)(g:Nat):OA:=Vu (kindOf st) (QO st) (Oi st) g (U7 st)
theorem jv(g:Nat):aE g=modify λs=>F4 s g:=rfl
noncomputable def iW:Array Ou->Array Ou->StateT OA UG (Array Ou):=sortPriv%PySem.Builtin.mergeLo
theorem qB(a b:Array Ou):iW a b=(do
 VT "list.sort.merge-lo"let j:=a.size+b.size;let done(d:Array Ou)(e f:Nat):=d++a.extract e a.size++b.extract f b.size;let i(d:Array Ou)(e f:Nat):=d++b.extract f b.size++a.extract e a.size;let mut d:Array Ou:=#[<-Qn b 0]let mut e:=0;let mut f:=1;if f==b.size then return done d e f
 if e+1==a.size then return i d e f
 let mut c:=XG (<-get)for _ in[0:j]do
  let mut h:=0;let mut g:=0;for _ in[0:j]do
   let NF l<-lt' (<-Qn b f) (<-Qn a e)|return done d e f
   if l then
    d:=d.push (<-Qn b f);f:=f+1;g:=g+1;h:=0;if f==b.size then return done d e f
    if g>=c then break
   else
    d:=d.push (<-Qn a e);e:=e+1;h:=h+1;g:=0;if e+1==a.size then return i d e f
    if h>=c then break
  VT "list.sort.gallop"c:=c+1;for _ in[0:j]do
   if c>1 then c:=c-1
   aE c
   let NF k<-bO NP (<-Qn b f) a e (a.size-e) 0|return done d e f
   h:=k;if k>0 then
    d:=d++a.extract e (e+k);e:=e+k;if e+1==a.size then return i d e f
    if e==a.size then return done d e f
   d:=d.push (<-Qn b f);f:=f+1;if f==b.size then return done d e f
   let NF k<-bO NM (<-Qn a e) b f (b.size-f) 0|return done d e f
   g:=k;if k>0 then
    d:=d++b.extract f (f+k);f:=f+k;if f==b.size then return done d e f
   d:=d.push (<-Qn a e);e:=e+1;if e+1==a.size then return i d e f
   if h<7&&g<7 then break
  c:=c+1;aE c
 UP "internal:list.sort.merge-bound"):=rfl
structure Lo(a b out:Array Ou)(ia ib:Nat):Prop where
 p:(out.toList++a.toList.drop ia++b.toList.drop ib).Perm (a.toList++b.toList)ha:ia<=a.size
 hb:ib<=b.size
section
variable{a b out:Array Ou}{ia ib k:Nat}{x:Ou}
theorem Lo.size(h:Lo a b out ia ib):out.size+(a.size-ia)+(b.size-ib)=a.size+b.size:=by
 have:=h.p.length_eq;simp only[OO,Tv,Pc]at this;exact this
theorem qC(xs:Array Ou)(i:Nat):(xs.extract i xs.size).toList=xs.toList.drop i:=by
 rw[Rq];rw[Qw,RL (by simp)]
theorem qD(xs:Array Ou)(i k:Nat):(xs.extract i (i+k)).toList=(xs.toList.drop i).take k:=by rw[Rq,Qw,Vb]
theorem Lo.done(h:Lo a b out ia ib):(out++a.extract ia a.size++b.extract ib b.size).Perm (a++b):=by
 rw[Qo];simp only[Pm,qC];exact h.p
theorem Lo.last(h:Lo a b out ia ib):(out++b.extract ib b.size++a.extract ia a.size).Perm (a++b):=by
 rw[Qo];simp only[Pm,qC];refine P_ ?_ h.p;rw[OK,OK];exact O1 _ Rj
theorem qF{xs:Array Ou}{i:Nat}(e:xs[i]?=NF x):xs.toList.drop i=x::xs.toList.drop (i+1)/\i<xs.size:=by
 obtain⟨c,e⟩:=Array.getElem?_eq_some_iff.mp e;refine⟨?_,c⟩;rw[Rk (by simpa using c)];simp[e]
theorem Lo.nk(h:Lo a b out ia ib)(e:a[ia]?=NF x):Lo a b (out.push x) (ia+1) ib:=by
 obtain⟨c,d⟩:=qF e;refine⟨?_,by omega,h.hb⟩;have:=h.p;rw[c]at this;rw[P0];simpa using this
theorem Lo.nq(h:Lo a b out ia ib)(e:b[ib]?=NF x):Lo a b (out.push x) ia (ib+1):=by
 obtain⟨c,d⟩:=qF e;refine⟨?_,h.ha,by omega⟩;have:=h.p;rw[c]at this;rw[P0];refine P_ ?_ this;simp only[OK];refine O1 _ ?_;show(x::(a.toList.drop ia++b.toList.drop (ib+1))).Perm (a.toList.drop ia++x::b.toList.drop (ib+1));exact List.perm_middle.symm
theorem Lo.F5(h:Lo a b out ia ib)(c:ia+k<=a.size):Lo a b (out++a.extract ia (ia+k)) (ia+k) ib:=by
 refine⟨?_,c,h.hb⟩;rw[Pm,qD];refine P_ (SF ?_) h.p;have:a.toList.drop ia=(a.toList.drop ia).take k++a.toList.drop (ia+k):=by rw[<-List.drop_drop,Qy]
 conv=>rhs;rw[this]
 simp only[OK]
theorem Lo.F6(h:Lo a b out ia ib)(c:ib+k<=b.size):Lo a b (out++b.extract ib (ib+k)) ia (ib+k):=by
 refine⟨?_,h.ha,c⟩;rw[Pm,qD];refine P_ ?_ h.p;have:b.toList.drop ib=(b.toList.drop ib).take k++b.toList.drop (ib+k):=by rw[<-List.drop_drop,Qy]
 conv=>rhs;rw[this]
 simp only[OK];refine O1 _ ?_;rw[<-OK,<-OK];exact RQ _ Rj
end
structure Gs(κ:Qd)(a₀:Array Ou)(st st':OA):Prop where
 b:Bs κ a₀ st'
 e:QO st'=QO st
 p:Oi st'=Oi st
theorem ko{a st:OA}{g:Nat}{Q:Unit->OA->Prop}(h:Gs κ a₀ a st)(q:∀c,Gs κ a₀ a c->Q () c):VQ (N2 prog w) A E s (aE g) Q st:=by
 rw[jv];exact RP (q _ ⟨⟨h.b.k,h.b.p,h.b.f⟩,h.e,h.p⟩)
theorem aP{i n:Nat}(h:¬(i==n)=NM):i≠n:=λe=>h (by rw[e];exact beq_self_eq_true _)
abbrev C6:=Option (Array Ou)×Array Ou×Nat×Nat×Nat×Nat
abbrev C7:=Option (Array Ou)×Array Ou×Nat×Nat×Nat×Nat×Nat
abbrev C5:=Option (Array Ou)×Array Ou×Nat×Nat×Nat
abbrev SM:=StateT OA UG
noncomputable def dn(a b c:Array Ou)(e d:Nat):Array Ou:=c++a.extract e a.size++b.extract d b.size
noncomputable def lst(a b c:Array Ou)(e d:Nat):Array Ou:=c++b.extract d b.size++a.extract e a.size
noncomputable def lo1(a b:Array Ou)(mg:Nat)(c:C6):SM (ForInStep C6):=do
 let y<-Qn b c.2.2.2.1;let x<-Qn a c.2.2.1;match<-lt' y x with
 |some d=>
  if d=NM then do
   let z<-Qn b c.2.2.2.1;if(c.2.2.2.1+1==b.size)=NM then pure (.done (NF (dn a b (c.2.1.push z) c.2.2.1 (c.2.2.2.1+1)),c.2.1.push z,c.2.2.1,c.2.2.2.1+1,0,c.2.2.2.2.2+1))else if c.2.2.2.2.2+1>=mg then pure (.done (NN,c.2.1.push z,c.2.2.1,c.2.2.2.1+1,0,c.2.2.2.2.2+1))else pure (.yield (NN,c.2.1.push z,c.2.2.1,c.2.2.2.1+1,0,c.2.2.2.2.2+1))else do
   let z<-Qn a c.2.2.1;if(c.2.2.1+1+1==a.size)=NM then pure (.done (NF (lst a b (c.2.1.push z) (c.2.2.1+1) c.2.2.2.1),c.2.1.push z,c.2.2.1+1,c.2.2.2.1,c.2.2.2.2.1+1,0))else if c.2.2.2.2.1+1>=mg then pure (.done (NN,c.2.1.push z,c.2.2.1+1,c.2.2.2.1,c.2.2.2.2.1+1,0))else pure (.yield (NN,c.2.1.push z,c.2.2.1+1,c.2.2.2.1,c.2.2.2.2.1+1,0))|_=>pure (.done (NF (dn a b c.2.1 c.2.2.1 c.2.2.2.1),c.2))
noncomputable def Ma(a b:Array Ou)(mg g f d:Nat)(c:Array Ou)(e:Nat):SM (ForInStep C7):=do
 let z<-Qn a d;if(d+1+1==a.size)=NM then pure (.done (NF (lst a b (c.push z) (d+1) e),c.push z,d+1,e,mg,g,f))else if(decide (g<7)&&decide (f<7))=NM then pure (.done (NN,c.push z,d+1,e,mg,g,f))else pure (.yield (NN,c.push z,d+1,e,mg,g,f))
noncomputable def K7(a b:Array Ou)(mg f g c:Nat)(d:Array Ou)(e:Nat):SM (ForInStep C7):=do
 let z<-Qn b c;if(c+1==b.size)=NM then pure (.done (NF (dn a b (d.push z) e (c+1)),d.push z,e,c+1,mg,f,g))else do
  let x<-Qn a e;match<-bO NM x b (c+1) (b.size-(c+1)) 0 with
  |some k=>
   if k>0 then
    if(c+1+k==b.size)=NM then pure (.done (NF (dn a b (d.push z++b.extract (c+1) (c+1+k)) e (c+1+k)),d.push z++b.extract (c+1) (c+1+k),e,c+1+k,mg,f,k))else Ma a b mg f k e (d.push z++b.extract (c+1) (c+1+k)) (c+1+k)else Ma a b mg f k e (d.push z) (c+1)|_=>pure (.done (NF (dn a b (d.push z) e (c+1)),d.push z,e,c+1,mg,f,g))
noncomputable def K8(a b:Array Ou)(c:C7)(mg:Nat):SM (ForInStep C7):=do
 aE mg;let y<-Qn b c.2.2.2.1;match<-bO NP y a c.2.2.1 (a.size-c.2.2.1) 0 with
 |some k=>
  if k>0 then
   if(c.2.2.1+k+1==a.size)=NM then pure (.done (NF (lst a b (c.2.1++a.extract c.2.2.1 (c.2.2.1+k)) (c.2.2.1+k) c.2.2.2.1),c.2.1++a.extract c.2.2.1 (c.2.2.1+k),c.2.2.1+k,c.2.2.2.1,mg,k,c.2.2.2.2.2.2))else if(c.2.2.1+k==a.size)=NM then pure (.done (NF (dn a b (c.2.1++a.extract c.2.2.1 (c.2.2.1+k)) (c.2.2.1+k) c.2.2.2.1),c.2.1++a.extract c.2.2.1 (c.2.2.1+k),c.2.2.1+k,c.2.2.2.1,mg,k,c.2.2.2.2.2.2))else K7 a b mg k c.2.2.2.2.2.2 c.2.2.2.1 (c.2.1++a.extract c.2.2.1 (c.2.2.1+k)) (c.2.2.1+k)else K7 a b mg k c.2.2.2.2.2.2 c.2.2.2.1 c.2.1 c.2.2.1|_=>pure (.done (NF (dn a b c.2.1 c.2.2.1 c.2.2.2.1),c.2.1,c.2.2.1,c.2.2.2.1,mg,c.2.2.2.2.2.1,c.2.2.2.2.2.2))
noncomputable def Mb(a b:Array Ou)(c:C5):SM (ForInStep C5):=do
 let d<-forIn [0:a.size+b.size] ((NN,c.2.1,c.2.2.1,c.2.2.2.1,0,0):C6) λ_ d=>lo1 a b c.2.2.2.2 d;match d.1 with
 |some r=>pure (.done (NF r,d.2.1,d.2.2.1,d.2.2.2.1,c.2.2.2.2))|none=>do
  liftM (VT "list.sort.gallop")let e<-forIn [0:a.size+b.size] ((NN,d.2.1,d.2.2.1,d.2.2.2.1,c.2.2.2.2+1,d.2.2.2.2.1,d.2.2.2.2.2):C7) λ_ e=>if e.2.2.2.2.1>1 then K8 a b e (e.2.2.2.2.1-1)else K8 a b e e.2.2.2.2.1;match e.1 with
  |some r=>pure (.done (NF r,e.2.1,e.2.2.1,e.2.2.2.1,e.2.2.2.2.1))|none=>do
   aE (e.2.2.2.2.1+1)pure (.yield (NN,e.2.1,e.2.2.1,e.2.2.2.1,e.2.2.2.2.1+1))
theorem wY(a b:Array Ou):iW a b=(do
 liftM (VT "list.sort.merge-lo")let x<-Qn b 0;if(1==b.size)=NM then pure (dn a b #[x] 0 1)else if(0+1==a.size)=NM then pure (lst a b #[x] 0 1)else do
  let st<-get;let c<-forIn [0:a.size+b.size] ((NN,#[x],0,1,XG st):C5) λ_ c=>Mb a b c;match c.1 with
  |some r=>pure r|none=>liftM (UP "internal:list.sort.merge-bound":UG (Array Ou))):=by
 rw[qB];dsimp only;refine congrArg _ (funext λ_=>?_);refine congrArg _ (funext λx=>?_);refine congrArg _ ?_;refine congrArg _ ?_;refine congrArg _ (funext λst=>?_);refine congr (congrArg _ ?_) (funext λc=>by obtain⟨e,c⟩:=c;cases e<;>rfl);refine congrArg _ (funext λ_=>funext λc=>?_);unfold Mb;refine congr (congrArg _ rfl) (funext λd=>?_);obtain⟨f,d⟩:=d;cases f with
 |some r=>rfl|none=>
  dsimp only;refine congrArg _ (funext λ_=>?_);refine congr (congrArg _ ?_) (funext λc=>by obtain⟨e,c⟩:=c;cases e<;>rfl);refine congrArg _ (funext λ_=>funext λc=>?_);unfold K8;refine congr (congrArg _ ?_) ?_;all_goals
   refine congrArg _ (funext λ_=>?_);refine congrArg _ (funext λy=>?_);refine congrArg _ (funext λk=>?_);cases k with
   |none=>rfl|some k=>
    dsimp only;unfold K7;refine congr (congrArg _ ?_) ?_
    .refine congrArg _ ?_;refine congrArg _ ?_;refine congrArg _ (funext λy=>?_);refine congrArg _ ?_;refine congrArg _ (funext λy=>?_);refine congrArg _ (funext λk=>?_);cases k<;>rfl
    .refine congrArg _ (funext λy=>?_);refine congrArg _ ?_;refine congrArg _ (funext λy=>?_);refine congrArg _ (funext λk=>?_);cases k<;>rfl
structure Go(κ:Qd)(a₀:Array Ou)(st:OA)(a b:Array Ou)(o0:Nat)(r:Option (Array Ou))(out:Array Ou)(ia ib:Nat)(st':OA):Prop where
 g:Gs κ a₀ st st'
 n:r=NN
 l:Lo a b out ia ib
 a1:ia+1<a.size
 b1:ib<b.size
 o:o0<out.size
inductive Fi(κ:Qd)(a₀:Array Ou)(st:OA)(a b:Array Ou)(o0:Nat)(out:Array Ou)(ia ib:Nat)(st':OA):Option (Array Ou)->Prop where|ret{z:Array Ou}(g:Gs κ a₀ st st')(p:z.Perm (a++b)):Fi κ a₀ st a b o0 out ia ib st' (NF z)|go(h:Go κ a₀ st a b o0 NN out ia ib st'):Fi κ a₀ st a b o0 out ia ib st' NN
section
variable{st:OA}{a b:Array Ou}
noncomputable abbrev Q7(κ:Qd)(a₀:Array Ou)(st:OA)(a b:Array Ou)(e:Nat):ForInStep C7->OA->Prop:=λr d=>match r with
 |.done c=>Fi κ a₀ st a b e c.2.1 c.2.2.1 c.2.2.2.1 d c.1|.yield c=>Go κ a₀ st a b e c.1 c.2.1 c.2.2.1 c.2.2.2.1 d
theorem uX(u:∀x∈a,x∈a₀){mg n m e j i:Nat}{c:Array Ou}{d:OA}(h:Go κ a₀ st a b i NN c e j d):VQ (N2 prog w) A E s (Ma a b mg n m e c j) (Q7 κ a₀ st a b i) d:=by
 refine N3 (av (by have:=h.a1;omega) λv t ev=>?_);have k:=h.l.nk ev;have r:(c.push v).size=c.size+1:=Q5 ..;have q:=h.o;have p:=h.a1;by_cases f:(e+1+1==a.size)=NM
 .rw[if_pos f];exact N_ (.ret h.g k.last)
 rw[if_neg f];have f:=aP f;have g:Go κ a₀ st a b i NN (c.push v) (e+1) j d:=⟨h.g,rfl,k,by omega,h.b1,by omega⟩;split;.exact N_ (.go g)
 .exact N_ g
theorem uY(C:Cm prog w A s κ a₀)(p:∀x∈a,x∈a₀)(n:∀x∈b,x∈a₀){mg y u t f q:Nat}{c:Array Ou}{d:OA}(h:Go κ a₀ st a b q NN c t f d):VQ (N2 prog w) A E s (K7 a b mg y u f c t) (Q7 κ a₀ st a b q) d:=by
 refine N3 (av h.b1 λv F ev=>?_);have m:=h.l.nq ev;have D:(c.push v).size=c.size+1:=Q5 ..;have B:=h.o;have z:=h.b1;by_cases j:(f+1==b.size)=NM
 .rw[if_pos j];exact N_ (.ret h.g m.done)
 rw[if_neg j];have j:=aP j;refine N3 (av (by have:=h.a1;omega) λx hx ex=>?_);refine N3 (cL C h.g.b.k n (p x hx) (by omega) (by omega) λk G=>?_);show VQ _ _ _ _ (if k>0 then _ else _) _ _;by_cases e:k>0
 .rw[if_pos e];have r:=m.F6 (k:=k) (by omega);by_cases i:(f+1+k==b.size)=NM
  .rw[if_pos i];exact N_ (.ret h.g r.done)
  .rw[if_neg i];have i:=aP i;exact uX p ⟨h.g,rfl,r,h.a1,by omega,by rw[Tf];omega⟩
 .rw[if_neg e];exact uX p ⟨h.g,rfl,m,h.a1,by omega,by omega⟩
theorem uZ(C:Cm prog w A s κ a₀)(n:∀x∈a,x∈a₀)(d:∀x∈b,x∈a₀){mg p:Nat}{c:C7}{e:OA}(h:Go κ a₀ st a b p c.1 c.2.1 c.2.2.1 c.2.2.2.1 e):VQ (N2 prog w) A E s (K8 a b c mg) (Q7 κ a₀ st a b p) e:=by
 obtain⟨I,B,q,G,D,K,J⟩:=c;obtain⟨v,u,o,t,i,r⟩:=h;dsimp only at v u o t i r;subst u;refine N3 (ko v λz g=>?_);refine N3 (av i λy hy H=>?_);refine N3 (cL C g.b.k n (d y hy) (by dsimp only;omega) (by dsimp only;omega) λk F=>?_);show VQ _ _ _ _ (if k>0 then _ else _) _ _;dsimp only at F⊢;by_cases f:k>0
 .rw[if_pos f];have m:=o.F5 (k:=k) (by omega);by_cases l:(q+k+1==a.size)=NM
  .rw[if_pos l];exact N_ (.ret g m.last)
  rw[if_neg l];have l:=aP l;by_cases j:(q+k==a.size)=NM
  .rw[if_pos j];exact N_ (.ret g m.done)
  rw[if_neg j];have j:=aP j;exact uY C n d ⟨g,rfl,m,by omega,i,by rw[Tf];omega⟩
 .rw[if_neg f];exact uY C n d ⟨g,rfl,o,t,i,r⟩
theorem BW(C:Cm prog w A s κ a₀)(G:∀x∈a,x∈a₀)(o:∀x∈b,x∈a₀){mg t n:Nat}{c:C6}{d:OA}(h:Go κ a₀ st a b n c.1 c.2.1 c.2.2.1 c.2.2.2.1 d)(J:t<=n):VQ (N2 prog w) A E s (lo1 a b mg c) (λr d=>match r with
  |.done g=>Fi κ a₀ st a b (t+1) g.2.1 g.2.2.1 g.2.2.2.1 d g.1|.yield g=>Go κ a₀ st a b (n+1) g.1 g.2.1 g.2.2.1 g.2.2.2.1 d) d:=by
 obtain⟨L,e,D,B,N,M⟩:=c;obtain⟨i,u,q,p,l,H⟩:=h;dsimp only at i u q p l H;subst u;refine N3 (av l λy hy m=>?_);refine N3 (av (by dsimp only;omega) λz F K=>?_);refine N3 (lH C i.b.k (o y hy) (G z F) λI=>?_);cases I with
 |true=>
  dsimp only;rw[if_pos rfl];refine N3 (av l λy hy m=>?_);have j:=q.nq m;have v:(e.push y).size=e.size+1:=Q5 ..;by_cases f:(B+1==b.size)=NM
  .rw[if_pos f];exact N_ (.ret i j.done)
  .rw[if_neg f];have f:=aP f;split;.exact N_ (.go ⟨i,rfl,j,p,by dsimp only;omega,by dsimp only;omega⟩)
   .exact N_ ⟨i,rfl,j,p,by dsimp only;omega,by dsimp only;omega⟩|false=>
  dsimp only;rw[if_neg (by decide)];refine N3 (av (by omega) λy hy m=>?_);have j:=q.nk m;have v:(e.push y).size=e.size+1:=Q5 ..;by_cases f:(D+1+1==a.size)=NM
  .rw[if_pos f];exact N_ (.ret i j.last)
  .rw[if_neg f];have f:=aP f;split;.exact N_ (.go ⟨i,rfl,j,by dsimp only;omega,l,by dsimp only;omega⟩)
   .exact N_ ⟨i,rfl,j,by dsimp only;omega,l,by dsimp only;omega⟩
theorem BX(C:Cm prog w A s κ a₀)(J:∀x∈a,x∈a₀)(m:∀x∈b,x∈a₀){i:Nat}{c:C5}{v:OA}(h:Go κ a₀ st a b i c.1 c.2.1 c.2.2.1 c.2.2.2.1 v):VQ (N2 prog w) A E s (Mb a b c) (λr e=>match r with
  |.done q=>∃z,q.1=NF z/\z.Perm (a++b)/\Gs κ a₀ st e|.yield q=>Go κ a₀ st a b (i+1) q.1 q.2.1 q.2.2.1 q.2.2.2.1 e) v:=by
 refine N3 (aY (λj(d:C6)e=>Go κ a₀ st a b (i+j) d.1 d.2.1 d.2.2.1 d.2.2.2.1 e) (λd e=>Fi κ a₀ st a b (i+1) d.2.1 d.2.2.1 d.2.2.2.1 e d.1) ⟨h.g,rfl,h.l,h.a1,h.b1,h.o⟩ ?_ ?_ ?_)
 .rintro j d u _ P g;exact TU (BW C J m g (Sk _ _)) λr e h=>by cases r<;>exact h
 .rintro⟨K,k,I,H,M,L⟩u g;obtain⟨F,D,n,B,y,G⟩:=g;dsimp only at F D n B y G;subst D;have:=n.size;exact .go ⟨F,rfl,n,B,y,by dsimp only;omega⟩
 .rintro⟨K,k,I,H,M,L⟩u f;dsimp only at f⊢;cases f with
  |ret g p=>exact N_ ⟨_,rfl,p,g⟩|go g=>
   refine N3 (dF ?_);refine N3 (aY (λj(d:C7)e=>Go κ a₀ st a b (i+1) d.1 d.2.1 d.2.2.1 d.2.2.2.1 e) (λd e=>Fi κ a₀ st a b (i+1) d.2.1 d.2.2.1 d.2.2.2.1 e d.1) g ?_ ?_ ?_)
   .rintro j d t _ _ g;split;.exact TU (uZ C J m g) λr e h=>by cases r<;>exact h
    .exact TU (uZ C J m g) λr e h=>by cases r<;>exact h
   .rintro⟨K,k,I,H,mg,M,L⟩t g;obtain⟨F,D,n,B,y,G⟩:=g;dsimp only at F D n B y G;subst D;exact .go ⟨F,rfl,n,B,y,G⟩
   .rintro⟨K,k,I,H,mg,M,L⟩t f;dsimp only at f⊢;cases f with
    |ret g p=>exact N_ ⟨_,rfl,p,g⟩|go g=>exact N3 (ko g.g λN O=>N_ ⟨O,rfl,g.l,g.a1,g.b1,g.o⟩)
theorem qG(C:Cm prog w A s κ a₀){Q:Array Ou->OA->Prop}(h:Bs κ a₀ st)(D:∀x∈a,x∈a₀)(n:∀x∈b,x∈a₀)(ha:0<a.size)(hb:0<b.size)(q:∀r d,r.Perm (a++b)->Gs κ a₀ st d->Q r d):VQ (N2 prog w) A E s (iW a b) Q st:=by
 rw[wY];refine N3 (dF ?_);refine N3 (av hb λx hx ex=>?_);have m:Lo a b #[x] 0 1:=by
  have l:Lo a b #[] 0 0:=⟨by simp,OB _,OB _⟩;exact l.nq ex
 have t:Gs κ a₀ st st:=⟨h,rfl,rfl⟩;by_cases j:(1==b.size)=NM
 .rw[if_pos j];exact N_ (q _ _ m.done t)
 rw[if_neg j];by_cases f:(0+1==a.size)=NM
 .rw[if_pos f];exact N_ (q _ _ m.last t)
 rw[if_neg f];have j:=aP j;have f:=aP f;refine N3 (Td ?_);refine N3 (aY (λi(c:C5)d=>Go κ a₀ st a b i c.1 c.2.1 c.2.2.1 c.2.2.2.1 d) (λc d=>∃z,c.1=NF z/\z.Perm (a++b)/\Gs κ a₀ st d) ⟨t,rfl,m,by dsimp only;omega,by dsimp only;omega,by show 0<1;omega⟩ ?_ ?_ ?_)
 .rintro i c v _ _ g;exact TU (BX C D n g) λr d h=>by cases r<;>exact h
 .rintro⟨F,k,B,y,mg⟩e g;have:=g.l.size;have:=g.o;have:=g.a1;have:=g.b1;dsimp only at*;omega
 .rintro⟨F,k,B,y,mg⟩e⟨z,u,p,g⟩;dsimp only at u⊢;subst u;exact N_ (q z e p g)
end
end
end SrtP
end
section
namespace SrtP
open PySem PyProof.Rows
section
variable{prog:N7}{w:Oq}{A:Ov}{E:NJ->NL->Prop}{s:NL}{κ:Qd}{a₀:Array Ou}
noncomputable def iX:Array Ou->Array Ou->StateT OA UG (Array Ou):=sortPriv%PySem.Builtin.mergeHi
theorem qH(a b:Array Ou):iX a b=(do
 VT "list.sort.merge-hi"let j:=a.size+b.size;let done(d:Array Ou)(f e:Nat):=a.extract 0 f++b.extract 0 e++d.reverse;let g(d:Array Ou)(f e:Nat):=b.extract 0 e++a.extract 0 f++d.reverse;let mut f:=a.size-1;let mut e:=b.size;let mut d:Array Ou:=#[<-Qn a f]if f==0 then return done d f e
 if e==1 then return g d f e
 let mut c:=XG (<-get)for _ in[0:j]do
  let mut i:=0;let mut h:=0;for _ in[0:j]do
   let NF l<-lt' (<-Qn b (e-1)) (<-Qn a (f-1))|return done d f e
   if l then
    f:=f-1;d:=d.push (<-Qn a f);i:=i+1;h:=0;if f==0 then return done d f e
    if i>=c then break
   else
    e:=e-1;d:=d.push (<-Qn b e);h:=h+1;i:=0;if e==1 then return g d f e
    if h>=c then break
  VT "list.sort.gallop"c:=c+1;for _ in[0:j]do
   if c>1 then c:=c-1
   aE c
   let NF at_<-bO NP (<-Qn b (e-1)) a 0 f (f-1)|return done d f e
   let k:=f-at_;i:=k;if k>0 then
    d:=d++(a.extract at_ f).reverse;f:=at_;if f==0 then return done d f e
   e:=e-1;d:=d.push (<-Qn b e)if e==1 then return g d f e
   let NF at_<-bO NM (<-Qn a (f-1)) b 0 e (e-1)|return done d f e
   let k:=e-at_;h:=k;if k>0 then
    d:=d++(b.extract at_ e).reverse;e:=at_;if e==1 then return g d f e
    if e==0 then return done d f e
   f:=f-1;d:=d.push (<-Qn a f)if f==0 then return done d f e
   if i<7&&h<7 then break
  c:=c+1;aE c
 UP "internal:list.sort.merge-bound"):=rfl
structure Hi(a b out:Array Ou)(na nb:Nat):Prop where
 p:(a.toList.take na++b.toList.take nb++out.toList).Perm (a.toList++b.toList)ha:na<=a.size
 hb:nb<=b.size
section
variable{a b out:Array Ou}{na nb k:Nat}{x:Ou}
theorem Hi.size(h:Hi a b out na nb):na+nb+out.size=a.size+b.size:=by
 have:=h.p.length_eq;have d:=h.ha;have c:=h.hb;simp only[OO,Sh,Pc]at this;omega
noncomputable def u0(a b out:Array Ou)(na nb:Nat):Array Ou:=a.extract 0 na++b.extract 0 nb++out.reverse
noncomputable def HL(a b out:Array Ou)(na nb:Nat):Array Ou:=b.extract 0 nb++a.extract 0 na++out.reverse
theorem Dw(xs:Array Ou)(n:Nat):(xs.extract 0 n).toList=xs.toList.take n:=by
 rw[Rq,Qw];rfl
theorem Hi.done(h:Hi a b out na nb):(u0 a b out na nb).Perm (a++b):=by
 unfold u0;rw[Qo];simp only[Pm,Dw,Se];exact(O1 _ (Th _)).trans h.p
theorem Hi.first(h:Hi a b out na nb):(HL a b out na nb).Perm (a++b):=by
 unfold HL;rw[Qo];simp only[Pm,Dw,Se];exact(List.Perm.append Rj (Th _)).trans h.p
theorem qI{xs:Array Ou}{i:Nat}(e:xs[i]?=NF x):xs.toList.take (i+1)=xs.toList.take i++[x]:=by
 obtain⟨c,e⟩:=Array.getElem?_eq_some_iff.mp e;rw[List.take_succ_eq_append_getElem (by simpa using c)];simp[e]
theorem eP(xs:Array Ou){i n:Nat}(h:i<=n):xs.toList.take n=xs.toList.take i++(xs.extract i n).toList:=by
 rw[Rq,Qw];obtain⟨k,rfl⟩:∃k,n=i+k:=⟨n-i,by omega⟩;rw[Vb,<-List.take_add]
theorem Hi.nk(h:Hi a b out na nb)(c:1<=na)(e:a[na-1]?=NF x):Hi a b (out.push x) (na-1) nb:=by
 refine⟨?_,by have:=h.ha;omega,h.hb⟩;refine P_ ?_ h.p;have:=qI e;rw[show na-1+1=na by omega]at this;rw[this,P0];simp only[OK];refine O1 _ ?_;rw[<-OK];exact Rj
theorem Hi.nq(h:Hi a b out na nb)(c:1<=nb)(e:b[nb-1]?=NF x):Hi a b (out.push x) na (nb-1):=by
 refine⟨?_,h.ha,by have:=h.hb;omega⟩;refine P_ ?_ h.p;have:=qI e;rw[show nb-1+1=nb by omega]at this;rw[this,P0];simp only[OK];refine O1 _ (O1 _ ?_);exact Rj
theorem Hi.F5(h:Hi a b out na nb)(c:k<=na):Hi a b (out++(a.extract k na).reverse) k nb:=by
 refine⟨?_,by have:=h.ha;omega,h.hb⟩;refine P_ ?_ h.p;rw[eP a c,Pm,Se];simp only[OK];refine O1 _ ?_;rw[<-OK];exact List.perm_append_comm.trans (RQ _ (Th _))
theorem Hi.F6(h:Hi a b out na nb)(c:k<=nb):Hi a b (out++(b.extract k nb).reverse) na k:=by
 refine⟨?_,h.ha,by have:=h.hb;omega⟩;refine P_ ?_ h.p;rw[eP b c,Pm,Se];simp only[OK];refine O1 _ (O1 _ ?_);exact List.perm_append_comm.trans (RQ _ (Th _))
end
abbrev D6:=Option (Array Ou)×Nat×Nat×Array Ou×Nat×Nat
abbrev D7:=Option (Array Ou)×Nat×Nat×Array Ou×Nat×Nat×Nat
abbrev D5:=Option (Array Ou)×Nat×Nat×Array Ou×Nat
noncomputable def xv(a b:Array Ou)(mg:Nat)(c:D6):SM (ForInStep D6):=do
 let y<-Qn b (c.2.2.1-1)let x<-Qn a (c.2.1-1)match<-lt' y x with
 |some d=>
  if d=NM then do
   let z<-Qn a (c.2.1-1)if(c.2.1-1==0)=NM then pure (.done (NF (u0 a b (c.2.2.2.1.push z) (c.2.1-1) c.2.2.1),c.2.1-1,c.2.2.1,c.2.2.2.1.push z,c.2.2.2.2.1+1,0))else if c.2.2.2.2.1+1>=mg then pure (.done (NN,c.2.1-1,c.2.2.1,c.2.2.2.1.push z,c.2.2.2.2.1+1,0))else pure (.yield (NN,c.2.1-1,c.2.2.1,c.2.2.2.1.push z,c.2.2.2.2.1+1,0))else do
   let z<-Qn b (c.2.2.1-1)if(c.2.2.1-1==1)=NM then pure (.done (NF (HL a b (c.2.2.2.1.push z) c.2.1 (c.2.2.1-1)),c.2.1,c.2.2.1-1,c.2.2.2.1.push z,0,c.2.2.2.2.2+1))else if c.2.2.2.2.2+1>=mg then pure (.done (NN,c.2.1,c.2.2.1-1,c.2.2.2.1.push z,0,c.2.2.2.2.2+1))else pure (.yield (NN,c.2.1,c.2.2.1-1,c.2.2.2.1.push z,0,c.2.2.2.2.2+1))|_=>pure (.done (NF (u0 a b c.2.2.2.1 c.2.1 c.2.2.1),c.2))
noncomputable def Mc(a b:Array Ou)(mg g f d:Nat)(c:Array Ou)(e:Nat):SM (ForInStep D7):=do
 let z<-Qn a (d-1)if(d-1==0)=NM then pure (.done (NF (u0 a b (c.push z) (d-1) e),d-1,e,c.push z,mg,g,f))else if(decide (g<7)&&decide (f<7))=NM then pure (.done (NN,d-1,e,c.push z,mg,g,f))else pure (.yield (NN,d-1,e,c.push z,mg,g,f))
noncomputable def K9(a b:Array Ou)(mg f g d:Nat)(c:Array Ou)(e:Nat):SM (ForInStep D7):=do
 let z<-Qn b (d-1)if(d-1==1)=NM then pure (.done (NF (HL a b (c.push z) e (d-1)),e,d-1,c.push z,mg,f,g))else do
  let x<-Qn a (e-1)match<-bO NM x b 0 (d-1) (d-1-1)with
  |some p=>
   if d-1-p>0 then
    if(p==1)=NM then pure (.done (NF (HL a b (c.push z++(b.extract p (d-1)).reverse) e p),e,p,c.push z++(b.extract p (d-1)).reverse,mg,f,d-1-p))else if(p==0)=NM then pure (.done (NF (u0 a b (c.push z++(b.extract p (d-1)).reverse) e p),e,p,c.push z++(b.extract p (d-1)).reverse,mg,f,d-1-p))else Mc a b mg f (d-1-p) e (c.push z++(b.extract p (d-1)).reverse) p;else Mc a b mg f (d-1-p) e (c.push z) (d-1)|_=>pure (.done (NF (u0 a b (c.push z) e (d-1)),e,d-1,c.push z,mg,f,g))
noncomputable def pk(a b:Array Ou)(c:D7)(mg:Nat):SM (ForInStep D7):=do
 aE mg;let y<-Qn b (c.2.2.1-1)match<-bO NP y a 0 c.2.1 (c.2.1-1)with
 |some p=>
  if c.2.1-p>0 then
   if(p==0)=NM then pure (.done (NF (u0 a b (c.2.2.2.1++(a.extract p c.2.1).reverse) p c.2.2.1),p,c.2.2.1,c.2.2.2.1++(a.extract p c.2.1).reverse,mg,c.2.1-p,c.2.2.2.2.2.2))else K9 a b mg (c.2.1-p) c.2.2.2.2.2.2 c.2.2.1 (c.2.2.2.1++(a.extract p c.2.1).reverse) p;else K9 a b mg (c.2.1-p) c.2.2.2.2.2.2 c.2.2.1 c.2.2.2.1 c.2.1|_=>pure (.done (NF (u0 a b c.2.2.2.1 c.2.1 c.2.2.1),c.2.1,c.2.2.1,c.2.2.2.1,mg,c.2.2.2.2.2.1,c.2.2.2.2.2.2))
noncomputable def Md(a b:Array Ou)(c:D5):SM (ForInStep D5):=do
 let d<-forIn [0:a.size+b.size] ((NN,c.2.1,c.2.2.1,c.2.2.2.1,0,0):D6) λ_ d=>xv a b c.2.2.2.2 d;match d.1 with
 |some r=>pure (.done (NF r,d.2.1,d.2.2.1,d.2.2.2.1,c.2.2.2.2))|none=>do
  liftM (VT "list.sort.gallop")let e<-forIn [0:a.size+b.size] ((NN,d.2.1,d.2.2.1,d.2.2.2.1,c.2.2.2.2+1,d.2.2.2.2.1,d.2.2.2.2.2):D7) λ_ e=>if e.2.2.2.2.1>1 then pk a b e (e.2.2.2.2.1-1)else pk a b e e.2.2.2.2.1;match e.1 with
  |some r=>pure (.done (NF r,e.2.1,e.2.2.1,e.2.2.2.1,e.2.2.2.2.1))|none=>do
   aE (e.2.2.2.2.1+1)pure (.yield (NN,e.2.1,e.2.2.1,e.2.2.2.1,e.2.2.2.2.1+1))
theorem wZ(a b:Array Ou):iX a b=(do
 liftM (VT "list.sort.merge-hi")let x<-Qn a (a.size-1)if(a.size-1==0)=NM then pure (u0 a b #[x] (a.size-1) b.size)else if(b.size==1)=NM then pure (HL a b #[x] (a.size-1) b.size)else do
  let st<-get;let c<-forIn [0:a.size+b.size] ((NN,a.size-1,b.size,#[x],XG st):D5) λ_ c=>Md a b c;match c.1 with
  |some r=>pure r|none=>liftM (UP "internal:list.sort.merge-bound":UG (Array Ou))):=by
 rw[qH];dsimp only;refine congrArg _ (funext λ_=>?_);refine congrArg _ (funext λx=>?_);refine congrArg _ ?_;refine congrArg _ ?_;refine congrArg _ (funext λst=>?_);refine congr (congrArg _ ?_) (funext λc=>by obtain⟨e,c⟩:=c;cases e<;>rfl);refine congrArg _ (funext λ_=>funext λc=>?_);unfold Md;refine congr (congrArg _ rfl) (funext λd=>?_);obtain⟨f,d⟩:=d;cases f with
 |some r=>rfl|none=>
  dsimp only;refine congrArg _ (funext λ_=>?_);refine congr (congrArg _ ?_) (funext λc=>by obtain⟨e,c⟩:=c;cases e<;>rfl);refine congrArg _ (funext λ_=>funext λc=>?_);unfold pk;refine congr (congrArg _ ?_) ?_;all_goals
   refine congrArg _ (funext λ_=>?_);refine congrArg _ (funext λy=>?_);refine congrArg _ (funext λk=>?_);cases k with
   |none=>rfl|some k=>
    dsimp only;unfold K9;refine congr (congrArg _ ?_) ?_
    .refine congrArg _ ?_;refine congrArg _ (funext λy=>?_);refine congrArg _ ?_;refine congrArg _ (funext λy=>?_);refine congrArg _ (funext λk=>?_);cases k<;>rfl
    .refine congrArg _ (funext λy=>?_);refine congrArg _ ?_;refine congrArg _ (funext λy=>?_);refine congrArg _ (funext λk=>?_);cases k<;>rfl
structure Ho(κ:Qd)(a₀:Array Ou)(st:OA)(a b:Array Ou)(o0:Nat)(r:Option (Array Ou))(out:Array Ou)(na nb:Nat)(st':OA):Prop where
 g:Gs κ a₀ st st'
 n:r=NN
 l:Hi a b out na nb
 a1:1<=na
 b1:2<=nb
 o:o0<out.size
inductive Hf(κ:Qd)(a₀:Array Ou)(st:OA)(a b:Array Ou)(o0:Nat)(out:Array Ou)(na nb:Nat)(st':OA):Option (Array Ou)->Prop where|ret{z:Array Ou}(g:Gs κ a₀ st st')(p:z.Perm (a++b)):Hf κ a₀ st a b o0 out na nb st' (NF z)|go(h:Ho κ a₀ st a b o0 NN out na nb st'):Hf κ a₀ st a b o0 out na nb st' NN
section
variable{st:OA}{a b:Array Ou}
noncomputable abbrev R7(κ:Qd)(a₀:Array Ou)(st:OA)(a b:Array Ou)(e:Nat):ForInStep D7->OA->Prop:=λr d=>match r with
 |.done c=>Hf κ a₀ st a b e c.2.2.2.1 c.2.1 c.2.2.1 d c.1|.yield c=>Ho κ a₀ st a b e c.1 c.2.2.2.1 c.2.1 c.2.2.1 d
theorem u4(y:∀x∈a,x∈a₀){mg p n e j i:Nat}{c:Array Ou}{d:OA}(h:Ho κ a₀ st a b i NN c e j d):VQ (N2 prog w) A E s (Mc a b mg p n e c j) (R7 κ a₀ st a b i) d:=by
 have m:=h.a1;have q:=h.l.ha;refine N3 (av (by omega) λv u ev=>?_);have k:=h.l.nk m ev;have t:(c.push v).size=c.size+1:=Q5 ..;have r:=h.o;by_cases f:(e-1==0)=NM
 .rw[if_pos f];exact N_ (.ret h.g k.done)
 rw[if_neg f];have f:=aP f;have g:Ho κ a₀ st a b i NN (c.push v) (e-1) j d:=⟨h.g,rfl,k,by omega,h.b1,by omega⟩;split;.exact N_ (.go g)
 .exact N_ g
theorem u5(C:Cm prog w A s κ a₀)(r:∀x∈a,x∈a₀)(q:∀x∈b,x∈a₀){mg B z u e t:Nat}{c:Array Ou}{d:OA}(h:Ho κ a₀ st a b t NN c u e d):VQ (N2 prog w) A E s (K9 a b mg B z e c u) (R7 κ a₀ st a b t) d:=by
 have G:=h.b1;have F:=h.l.hb;have D:=h.a1;have y:=h.l.ha;refine N3 (av (by omega) λv J ev=>?_);have p:=h.l.nq (by omega) ev;have I:(c.push v).size=c.size+1:=Q5 ..;have H:=h.o;by_cases m:(e-1==1)=NM
 .rw[if_pos m];exact N_ (.ret h.g p.first)
 rw[if_neg m];have m:=aP m;refine N3 (av (by omega) λx hx ex=>?_);refine N3 (cL C h.g.b.k q (r x hx) (by omega) (by omega) λk K=>?_);show VQ _ _ _ _ (if e-1-k>0 then _ else _) _ _;by_cases f:e-1-k>0
 .rw[if_pos f];have n:=p.F6 (k:=k) (by omega);by_cases j:(k==1)=NM
  .rw[if_pos j];exact N_ (.ret h.g n.first)
  .rw[if_neg j];have j:=aP j;by_cases i:(k==0)=NM
   .rw[if_pos i];exact N_ (.ret h.g n.done)
   .rw[if_neg i];have i:=aP i;exact u4 r ⟨h.g,rfl,n,h.a1,by omega,by rw[Tf];omega⟩
 .rw[if_neg f];exact u4 r ⟨h.g,rfl,p,h.a1,by omega,by omega⟩
theorem u6(C:Cm prog w A s κ a₀)(l:∀x∈a,x∈a₀)(d:∀x∈b,x∈a₀){mg n:Nat}{c:D7}{e:OA}(h:Ho κ a₀ st a b n c.1 c.2.2.2.1 c.2.1 c.2.2.1 e):VQ (N2 prog w) A E s (pk a b c mg) (R7 κ a₀ st a b n) e:=by
 obtain⟨J,o,H,z,B,L,K⟩:=c;obtain⟨u,t,g,r,m,q⟩:=h;dsimp only at u t g r m q;subst t;have G:=g.ha;have F:=g.hb;refine N3 (ko u λv j=>?_);refine N3 (av (by dsimp only;omega) λy hy I=>?_);refine N3 (cL C j.b.k l (d y hy) (by dsimp only;omega) (by dsimp only;omega) λk D=>?_);show VQ _ _ _ _ (if o-k>0 then _ else _) _ _;dsimp only at D⊢;by_cases f:o-k>0
 .rw[if_pos f];have p:=g.F5 (k:=k) (by omega);by_cases i:(k==0)=NM
  .rw[if_pos i];exact N_ (.ret j p.done)
  rw[if_neg i];have i:=aP i;exact u5 C l d ⟨j,rfl,p,by omega,m,by rw[Tf];omega⟩
 .rw[if_neg f];exact u5 C l d ⟨j,rfl,g,r,m,q⟩
theorem BY(C:Cm prog w A s κ a₀)(G:∀x∈a,x∈a₀)(p:∀x∈b,x∈a₀){mg t o:Nat}{c:D6}{d:OA}(h:Ho κ a₀ st a b o c.1 c.2.2.2.1 c.2.1 c.2.2.1 d)(L:t<=o):VQ (N2 prog w) A E s (xv a b mg c) (λr d=>match r with
  |.done g=>Hf κ a₀ st a b (t+1) g.2.2.2.1 g.2.1 g.2.2.1 d g.1|.yield g=>Ho κ a₀ st a b (o+1) g.1 g.2.2.2.1 g.2.1 g.2.2.1 d) d:=by
 obtain⟨N,D,B,e,P,O⟩:=c;obtain⟨i,u,l,m,q,H⟩:=h;dsimp only at i u l m q H;subst u;have K:=l.ha;have J:=l.hb;refine N3 (av (by dsimp only;omega) λy hy n=>?_);refine N3 (av (by dsimp only;omega) λz F M=>?_);refine N3 (lH C i.b.k (p y hy) (G z F) λI=>?_);cases I with
 |true=>
  dsimp only;rw[if_pos rfl];refine N3 (av (by omega) λy hy n=>?_);have j:=l.nk m n;have v:(e.push y).size=e.size+1:=Q5 ..;by_cases f:(D-1==0)=NM
  .rw[if_pos f];exact N_ (.ret i j.done)
  .rw[if_neg f];have f:=aP f;split;.exact N_ (.go ⟨i,rfl,j,by dsimp only;omega,q,by dsimp only;omega⟩)
   .exact N_ ⟨i,rfl,j,by dsimp only;omega,q,by dsimp only;omega⟩|false=>
  dsimp only;rw[if_neg (by decide)];refine N3 (av (by omega) λy hy n=>?_);have j:=l.nq (by omega) n;have v:(e.push y).size=e.size+1:=Q5 ..;by_cases f:(B-1==1)=NM
  .rw[if_pos f];exact N_ (.ret i j.first)
  .rw[if_neg f];have f:=aP f;split;.exact N_ (.go ⟨i,rfl,j,m,by dsimp only;omega,by dsimp only;omega⟩)
   .exact N_ ⟨i,rfl,j,m,by dsimp only;omega,by dsimp only;omega⟩
theorem BZ(C:Cm prog w A s κ a₀)(J:∀x∈a,x∈a₀)(m:∀x∈b,x∈a₀){i:Nat}{c:D5}{v:OA}(h:Ho κ a₀ st a b i c.1 c.2.2.2.1 c.2.1 c.2.2.1 v):VQ (N2 prog w) A E s (Md a b c) (λr e=>match r with
  |.done q=>∃z,q.1=NF z/\z.Perm (a++b)/\Gs κ a₀ st e|.yield q=>Ho κ a₀ st a b (i+1) q.1 q.2.2.2.1 q.2.1 q.2.2.1 e) v:=by
 refine N3 (aY (λj(d:D6)e=>Ho κ a₀ st a b (i+j) d.1 d.2.2.2.1 d.2.1 d.2.2.1 e) (λd e=>Hf κ a₀ st a b (i+1) d.2.2.2.1 d.2.1 d.2.2.1 e d.1) ⟨h.g,rfl,h.l,h.a1,h.b1,h.o⟩ ?_ ?_ ?_)
 .rintro j d u _ P g;exact TU (BY C J m g (Sk _ _)) λr e h=>by cases r<;>exact h
 .rintro⟨K,I,H,k,M,L⟩u g;obtain⟨F,D,n,B,y,G⟩:=g;dsimp only at F D n B y G;subst D;have:=n.size;exact .go ⟨F,rfl,n,B,y,by dsimp only;omega⟩
 .rintro⟨K,I,H,k,M,L⟩u f;dsimp only at f⊢;cases f with
  |ret g p=>exact N_ ⟨_,rfl,p,g⟩|go g=>
   refine N3 (dF ?_);refine N3 (aY (λj(d:D7)e=>Ho κ a₀ st a b (i+1) d.1 d.2.2.2.1 d.2.1 d.2.2.1 e) (λd e=>Hf κ a₀ st a b (i+1) d.2.2.2.1 d.2.1 d.2.2.1 e d.1) g ?_ ?_ ?_)
   .rintro j d t _ _ g;split;.exact TU (u6 C J m g) λr e h=>by cases r<;>exact h
    .exact TU (u6 C J m g) λr e h=>by cases r<;>exact h
   .rintro⟨K,I,H,k,mg,M,L⟩t g;obtain⟨F,D,n,B,y,G⟩:=g;dsimp only at F D n B y G;subst D;exact .go ⟨F,rfl,n,B,y,G⟩
   .rintro⟨K,I,H,k,mg,M,L⟩t f;dsimp only at f⊢;cases f with
    |ret g p=>exact N_ ⟨_,rfl,p,g⟩|go g=>exact N3 (ko g.g λN O=>N_ ⟨O,rfl,g.l,g.a1,g.b1,g.o⟩)
theorem qJ(C:Cm prog w A s κ a₀){Q:Array Ou->OA->Prop}(h:Bs κ a₀ st)(D:∀x∈a,x∈a₀)(n:∀x∈b,x∈a₀)(ha:0<a.size)(hb:0<b.size)(q:∀r d,r.Perm (a++b)->Gs κ a₀ st d->Q r d):VQ (N2 prog w) A E s (iX a b) Q st:=by
 rw[wZ];refine N3 (dF ?_);refine N3 (av (by omega) λx hx ex=>?_);have m:Hi a b #[x] (a.size-1) b.size:=by
  have l:Hi a b #[] a.size b.size:=⟨by simp[RL],NZ _,NZ _⟩;exact l.nk ha ex
 have t:Gs κ a₀ st st:=⟨h,rfl,rfl⟩;by_cases j:(a.size-1==0)=NM
 .rw[if_pos j];exact N_ (q _ _ m.done t)
 rw[if_neg j];by_cases f:(b.size==1)=NM
 .rw[if_pos f];exact N_ (q _ _ m.first t)
 rw[if_neg f];have j:=aP j;have f:=aP f;refine N3 (Td ?_);refine N3 (aY (λi(c:D5)d=>Ho κ a₀ st a b i c.1 c.2.2.2.1 c.2.1 c.2.2.1 d) (λc d=>∃z,c.1=NF z/\z.Perm (a++b)/\Gs κ a₀ st d) ⟨t,rfl,m,by dsimp only;omega,by dsimp only;omega,by show 0<1;omega⟩ ?_ ?_ ?_)
 .rintro i c v _ _ g;exact TU (BZ C D n g) λr d h=>by cases r<;>exact h
 .rintro⟨F,B,y,k,mg⟩e g;have:=g.l.size;have:=g.o;have:=g.a1;have:=g.b1;dsimp only at*;omega
 .rintro⟨F,B,y,k,mg⟩e⟨z,u,p,g⟩;dsimp only at u⊢;subst u;exact N_ (q z e p g)
end
end
end SrtP
end
section
namespace SrtP
open PySem PyProof.Rows
inductive Runs:Nat->List (Nat×Nat×Nat)->Nat->Prop where|nil(s:Nat):Runs s [] s|cons{s n p e:Nat}{r:List (Nat×Nat×Nat)}(h:1<=n)(t:Runs (s+n) r e):Runs s ((s,n,p)::r) e
theorem Runs.le{s e:Nat}{l:List (Nat×Nat×Nat)}(h:Runs s l e):s<=e:=by induction h with
 |nil=>exact NZ _|cons _ _ a=>omega
theorem Runs.snoc{s e n p:Nat}{l:List (Nat×Nat×Nat)}(h:Runs s l e)(b:1<=n):Runs s (l++[(e,n,p)]) (e+n):=by induction h with
 |nil s=>exact .cons b (.nil _)|cons h t a=>exact .cons h a
theorem Runs.mod{s e i:Nat}{l:List (Nat×Nat×Nat)}(pw:Nat)(h:Runs s l e):Runs s (l.modify i λx=>(x.1,x.2.1,pw)) e:=by induction h generalizing i with
 |nil s=>cases i<;>exact .nil s|cons h t a=>cases i with
  |zero=>exact .cons h t|succ i=>exact .cons h a
theorem Runs.two{s e:Nat}:∀{i:Nat}{l:List (Nat×Nat×Nat)},Runs s l e->i+1<l.length->∃sa a p b q,l[i]?=NF (sa,a,p)/\l[i+1]?=NF (sa+a,b,q)/\1<=a/\1<=b/\sa+a+b<=e/\Runs s ((l.set i (sa,a+b,p)).eraseIdx (i+1)) e
 |i,[],h,c=>by simp at c|0,[_],h,c=>by simp at c|0,_::_::_,.cons (n:=n) (p:=p) d (.cons (n:=m) (p:=q) f t),c=>⟨_,n,p,m,q,rfl,rfl,d,f,t.le,.cons (by omega) (by rw[<-Sw];exact t)⟩|i+1,_::_,.cons d t,c=>by
  obtain⟨sa,a,p,b,q,u,r,o,k,j,g⟩:=t.two (i:=i) (by simpa using c);exact⟨sa,a,p,b,q,by simpa using u,by simpa using r,o,k,j,.cons d g⟩
theorem qK:∀(m pre c b:List Ou)(k:Nat),c.length=m.length->∀(xs:Array Ou),xs.toList=pre++c++b->k<=pre.length->((m.zipIdx k).foldl (λa(x:Ou×Nat)=>a.setIfInBounds (pre.length-k+x.2) x.1) xs).toList=pre++m++b
 |[],pre,c,b,k,h,xs,e,_=>by cases c with
  |nil=>exact e|cons _ _=>simp at h
 |y::m,pre,[],b,k,h,xs,e,_=>by simp at h|y::m,pre,z::c,b,k,h,xs,e,g=>by
  simp only[List.zipIdx_cons,List.foldl_cons];have f:(xs.setIfInBounds (pre.length-k+k) y).toList=(pre++[y])++c++b:=by
   rw[show pre.length-k+k=pre.length by omega+splitNatSub,Uy,e];simp
  have:=qK m (pre++[y]) c b (k+1) (by simpa using h) _ f (by simp;omega+splitNatSub);have d:(pre++[y]).length-(k+1)=pre.length-k:=by simp
  rw[d]at this;rw[this];simp
section
variable{prog:N7}{w:Oq}{A:Ov}{E:NJ->NL->Prop}{s:NL}{κ:Qd}{a₀:Array Ou}
theorem qL(i:Nat):mergeAt' i=(do
 let s<-get
 let(NF (sa,d,b),NF (sb,c,_)):=((Oi s)[i]?,(Oi s)[i+1]?)|unsupported "internal:list.sort.pending"
 set (setPending s (((Oi s).setIfInBounds i (sa,d+c,b)).eraseIdxIfInBounds (i+1)))
 let NF k<-bO NP (<-Qn (QO s) sb) (QO s) sa d 0|return NP
 let(sa,d):=(sa+k,d-k)if d==0 then return NM
 let NF c<-bO NM (<-Qn (QO s) (sa+d-1)) (QO s) sb c (c-1)|return NP
 if c==0 then return NM
 let x:=(QO s).extract sa sb;let y:=(QO s).extract sb (sb+c)let merged<-if d<=c then iW x y else iX x y
 modify λs=>setArr s (merged.toList.zipIdx.foldl (λa(p,j)=>a.setIfInBounds (sa+j) p) (QO s))return(U7 (<-get)).isNone):=rfl
theorem u7{xs:Array Ou}{i j:Nat}{z:Ou}(h:z∈xs.extract i j):z∈xs:=by
 rw[<-TQ,Rq,Qw]at h;exact Array.mem_toList_iff.mp (V5 (V4 h))
theorem B0{Q:PUnit->OA->Prop}{st a:OA}(h:Q ⟨⟩ a):VQ (N2 prog w) A E s (set a:StateT OA UG PUnit) Q st:=by
 unfold VQ;rw[StateT.run_set];exact NO ⟨rfl,h⟩
theorem fK(C:Cm prog w A s κ a₀){st:OA}{i lo:Nat}{Q:Bool->OA->Prop}(h:Bs κ a₀ st)(M:Runs 0 (Oi st).toList lo)(T:lo<=a₀.size)(I:i+1<(Oi st).size)(q:∀o,Bs κ a₀ o->Runs 0 (Oi o).toList lo->Q NM o):VQ (N2 prog w) A E s (mergeAt' i) Q st:=by
 obtain⟨sa,d,p,D,K,S,R,X,W,V,P⟩:=M.two (i:=i) (by simpa using I);rw[qL];refine N3 (Td ?_);rw[show(Oi st)[i]?=NF (sa,d,p)by rw[<-OR];exact S,show(Oi st)[i+1]?=NF (sa+d,D,K)by rw[<-OR];exact R];dsimp only;refine N3 (B0 ?_);have L:=h.size;generalize l:setPending st (((Oi st).setIfInBounds i (sa,d+D,p)).eraseIdxIfInBounds (i+1))=st1;have b1:Bs κ a₀ st1:=by subst l;exact⟨h.k,h.p,h.f⟩
 have B:Runs 0 (Oi st1).toList lo:=by
  subst l;show Runs 0 (((Oi st).setIfInBounds i (sa,d+D,p)).eraseIdxIfInBounds (i+1)).toList lo;rw[Array.eraseIdxIfInBounds_eq,dif_pos (by rw[Array.size_setIfInBounds];exact I),Array.toList_eraseIdx,Uy];exact P
 have a1:QO st1=QO st:=by subst l;rfl
 clear l;refine N3 (av (by omega) λx hx _=>?_);refine N3 (cL C b1.k (λy hy=>h.mem hy) (h.mem hx) (by omega) (by omega) λk U=>?_);dsimp only;by_cases v:(d-k==0)=NM
 .rw[if_pos v];exact N_ (q st1 b1 B)
 rw[if_neg v];have v:=aP v;refine N3 (av (by omega) λy hy _=>?_);refine N3 (cL C b1.k (λy hy=>h.mem hy) (h.mem hy) (by omega) (by omega) λm N=>?_);dsimp only;by_cases n:(m==0)=NM
 .rw[if_pos n];exact N_ (q st1 b1 B)
 rw[if_neg n];have n:=aP n;have hx:0<((QO st).extract (sa+k) (sa+d)).size:=by rw[WH];omega
 have hy:0<((QO st).extract (sa+d) (sa+d+m)).size:=by rw[WH];omega
 have H:∀z∈(QO st).extract (sa+k) (sa+d),z∈a₀:=λz F=>h.mem (u7 F);have G:∀z∈(QO st).extract (sa+d) (sa+d+m),z∈a₀:=λz F=>h.mem (u7 F);have u:∀(r:Array Ou)(c:OA),r.Perm ((QO st).extract (sa+k) (sa+d)++(QO st).extract (sa+d) (sa+d+m))->Gs κ a₀ st1 c->VQ (N2 prog w) A E s (do
   modify λs=>setArr s (r.toList.zipIdx.foldl (λa(x:Ou×Nat)=>match x with|(p,j)=>a.setIfInBounds (sa+k+j) p) (QO s))let __do_lift<-get;pure (U7 __do_lift).isNone) Q c:=λr c t g=>by
  refine N3 (RP ?_);refine N3 (Td ?_);have O:(U7 (setArr c (r.toList.zipIdx.foldl (λa(x:Ou×Nat)=>match x with|(p,j)=>a.setIfInBounds (sa+k+j) p) (QO c)))).isNone=NM:=by
   show(U7 c).isNone=NM;rw[g.b.f];rfl
  rw[O];refine N_ (q _ ⟨g.b.k,?_,g.b.f⟩ ?_)
  .show(r.toList.zipIdx.foldl (λa(x:Ou×Nat)=>match x with|(p,j)=>a.setIfInBounds (sa+k+j) p) (QO c)).Perm a₀;rw[g.e,a1];refine Array.Perm.trans ?_ h.p;rw[Qo];have J:=qK r.toList ((QO st).toList.take (sa+k)) (((QO st).extract (sa+k) (sa+d)++(QO st).extract (sa+d) (sa+d+m)).toList) ((QO st).toList.drop (sa+d+m)) 0 (by rw[Pc,Pc];exact t.size_eq.symm) (QO st) ?_ (OB _)
   .rw[show((QO st).toList.take (sa+k)).length-0=sa+k by simp;omega]at J;refine P_ (SF J) ?_;refine P_ (RQ _ (O1 _ t.toList)) (SF ?_);rw[Pm,<-OK,<-eP _ (by omega),<-eP _ (by omega),Qy]
   .rw[Pm,<-OK,<-eP _ (by omega),<-eP _ (by omega),Qy]
  .show Runs 0 (Oi c).toList lo;rw[g.p];exact B
 split;.exact N3 (qG C b1 H G hx hy λr c t g=>u r c t g)
 .exact N3 (qJ C b1 H G hx hy λr c t g=>u r c t g)
end
end SrtP
end
section
namespace SrtP
open PySem PyProof.Rows
section
variable{prog:N7}{w:Oq}{A:Ov}{E:NJ->NL->Prop}{s:NL}{κ:Qd}{a₀:Array Ou}
theorem lI:∀(f n r:Nat),1<=n->1<=minRun' f n r
 |0,n,r,h=>by show 1<=n+r;omega|f+1,n,r,h=>by
  rw[minRun'_succ];split;.omega
  .exact lI f _ _ (by omega)
theorem F7(c:Prop)[Decidable c]{n:Nat}(h:2<=n):(if c then n-2-1 else n-2)+1<n:=by split<;>omega+splitNatSub
theorem y_(C:Cm prog w A s κ a₀){st:OA}{Q:Unit->OA->Prop}(h:Bs κ a₀ st)(j:Oi st=#[])(q:∀a,Bs κ a₀ a->Q () a):VQ (N2 prog w) A E s sortRuns' Q st:=by
 rw[sortRuns'_eq];refine N3 (Td ?_);have G:=h.size;dsimp only;rw[G];refine N3 (aY (λ_(c:Option Unit×Nat)a=>c.1=NN/\Bs κ a₀ a/\Runs 0 (Oi a).toList c.2/\c.2<=a₀.size) (λc a=>c.1=NN/\Bs κ a₀ a/\∃lo,Runs 0 (Oi a).toList lo/\lo<=a₀.size) ⟨rfl,h,by rw[j];exact .nil _,OB _⟩ ?_ (λc a z=>⟨z.1,z.2.1,_,z.2.2⟩) ?_)
 .rintro i⟨V,lo⟩F _ _⟨v,b1,t,o⟩;dsimp only at v t o⊢;subst v;by_cases K:lo>=a₀.size
  .rw[if_pos K];exact N_ ⟨rfl,b1,lo,t,o⟩
  .rw[if_neg K];refine N3 (wX C b1 (by omega) (by omega) λn b u U d R=>?_);have e:Runs 0 (Oi b).toList lo:=by rw[R];exact t
   dsimp only;have H:=lI a₀.size a₀.size 0 (by omega);generalize minRun' a₀.size a₀.size 0=D at H⊢;by_cases J:n<D
   .rw[if_pos J];refine N3 (dF ?_);have hN:1<=min (a₀.size-lo) D:=by omega
    have B:lo+min (a₀.size-lo) D<=a₀.size:=by omega
    generalize min (a₀.size-lo) D=m at hN B⊢;refine N3 (BV C d B λg l P=>?_);have r:Runs 0 (Oi g).toList lo:=by rw[P];exact e
    simp only[Pz,Oh,if_false];refine N3 (Td ?_);cases I:(Oi g).back? with
    |none=>
     dsimp only;refine N3 (RP (N_ ⟨rfl,⟨l.k,l.p,l.f⟩,?_,by dsimp only;omega⟩));show Runs 0 ((Oi g).push (lo,m,0)).toList (lo+m);rw[P0];exact r.snoc hN|some x=>
     obtain⟨O,n1,S⟩:=x;dsimp only;refine N3 (aY (λ_ c a=>c=(NN,())/\Bs κ a₀ a/\Runs 0 (Oi a).toList lo) (λc a=>c=(NN,())/\Bs κ a₀ a/\Runs 0 (Oi a).toList lo) ⟨rfl,l,r⟩ ?_ (λ_ _ z=>z) ?_)
     .rintro i c b _ _⟨rfl,d,e⟩;refine N3 (Td ?_);by_cases j:(Oi b).size>1
      .rw[if_pos j];cases hx:(Oi b)[(Oi b).size-2]? with
       |none=>exact N_ ⟨rfl,d,e⟩|some y=>
        obtain⟨N,M,L⟩:=y;dsimp only;split;.exact N_ ⟨rfl,d,e⟩
        .refine N3 (fK C d e (by omega) (by omega) λg l r=>?_);exact N_ ⟨rfl,l,r⟩
      .rw[if_neg j];exact N_ ⟨rfl,d,e⟩
     .rintro c b⟨rfl,d,e⟩;dsimp only;refine N3 (RP (N3 (RP (N_ ⟨rfl,⟨d.k,d.p,d.f⟩,?_,by dsimp only;omega⟩))));show Runs 0 (((Oi b).modify ((Oi b).size-1) _).push (lo,m,0)).toList (lo+m);rw[P0,Wn];exact(e.mod _).snoc hN
   .rw[if_neg J];refine N3 (Td ?_);cases I:(Oi b).back? with
    |none=>
     dsimp only;refine N3 (RP (N_ ⟨rfl,⟨d.k,d.p,d.f⟩,?_,by dsimp only;omega⟩));show Runs 0 ((Oi b).push (lo,n,0)).toList (lo+n);rw[P0];exact e.snoc u|some x=>
     obtain⟨O,n1,S⟩:=x;dsimp only;refine N3 (aY (λ_ c a=>c=(NN,())/\Bs κ a₀ a/\Runs 0 (Oi a).toList lo) (λc a=>c=(NN,())/\Bs κ a₀ a/\Runs 0 (Oi a).toList lo) ⟨rfl,d,e⟩ ?_ (λ_ _ z=>z) ?_)
     .rintro i c b _ _⟨rfl,d,e⟩;refine N3 (Td ?_);by_cases j:(Oi b).size>1
      .rw[if_pos j];cases hx:(Oi b)[(Oi b).size-2]? with
       |none=>exact N_ ⟨rfl,d,e⟩|some y=>
        obtain⟨N,M,L⟩:=y;dsimp only;split;.exact N_ ⟨rfl,d,e⟩
        .refine N3 (fK C d e (by omega) (by omega) λg l r=>?_);exact N_ ⟨rfl,l,r⟩
      .rw[if_neg j];exact N_ ⟨rfl,d,e⟩
     .rintro c b⟨rfl,d,e⟩;dsimp only;refine N3 (RP (N3 (RP (N_ ⟨rfl,⟨d.k,d.p,d.f⟩,?_,by dsimp only;omega⟩))));show Runs 0 (((Oi b).modify ((Oi b).size-1) _).push (lo,n,0)).toList (lo+n);rw[P0,Wn];exact(e.mod _).snoc u
 .rintro⟨V,T⟩F⟨v,b1,lo,t,o⟩;dsimp only at v⊢;subst v;refine N3 (aY (λ_ c a=>c=(NN,())/\Bs κ a₀ a/\Runs 0 (Oi a).toList lo) (λc a=>c=(NN,())/\Bs κ a₀ a/\Runs 0 (Oi a).toList lo) ⟨rfl,b1,t⟩ ?_ (λ_ _ z=>z) ?_)
  .rintro i c b _ _⟨rfl,d,e⟩;refine N3 (Td ?_);by_cases j:(Oi b).size<=1
   .rw[if_pos j];exact N_ ⟨rfl,d,e⟩
   .rw[if_neg j];refine N3 (fK C d e o (F7 _ (by omega)) λg l r=>?_);exact N_ ⟨rfl,l,r⟩
  .rintro c b⟨rfl,d,e⟩;exact N_ (q b d)
end
end SrtP
end
section
namespace SrtP
open PySem PySem.W PyProof.Rows L2
noncomputable def Kept(a:NR)(h h':Oy):Prop:=∀b o,b≠a->h.get? b=NF o->h'.get? b=NF o
noncomputable abbrev dC(h h':Oy):Prop:=∀b o,h.get? b=NF o->h'.get? b=NF o
section
variable{prog:N7}{w:Oq}{A:Ov}{E:NJ->NL->Prop}{s:NL}
theorem qM(vs:List NJ):(vs.toArray.zip vs.toArray).toList=vs.map λv=>(v,v):=by
 rw[Array.toList_zip];induction vs with
 |nil=>rfl|cons v r a=>simpa using a
theorem lJ{a:NR}{vs:List NJ}{n:Nat}{P:PySem.Fin->NL->Prop}{D:Qd}(B:s.heap.get? a=NF (P6 "list" vs.toArray n))(K:vs.length<=NW)(R:2<=vs.length->∀h',Kept a s.heap h'->(∀L:Qd->NL->Prop,L D {s with heap:=h'}->wpAny (N2 prog w) A (Xx vs.toArray) L (λ_ _=>False) {s with heap:=h'})/\∀x∈vs,∀y∈vs,∀(Q:Bool->NL->Prop)(E:NJ->NL->Prop),(∀b,Q b {s with heap:=h'})->wpAny (N2 prog w) A (keyLt' D x y) Q E {s with heap:=h'})(h:∀(us:List NJ)(h':Oy)(c:Nat),us.Perm vs->Kept a s.heap h'->h'.get? a=NF (P6 "list" us.toArray c)->P (.done (.ret .none)) {s with heap:=h'}):wpAny (N2 prog w) A (Builtin.«list.sort» ⟨[.ref a],[]⟩) P E s:=by
 have ha:a<s.heap.objs.size:=N1 B;have M:=O2 s.heap a (Pq λ_=>(#[]:Array NJ));obtain⟨G,q⟩:∃G,(s.heap.update a (Pq λ_=>(#[]:Array NJ))).get? a=NF (P6 "list" #[] G):=⟨_,RV B λ_=>#[]⟩;rw[list_sort_plain];refine NG (listItems_at B rfl ?_);refine NG (Sz B rfl ?_ (by rw[N5];exact K) (OB _));refine NG (TM q rfl ?_);refine NG (wpAny_newTuple ?_ (by show vs.length<=_;exact K));refine NG (UW ?_ (OB _));refine OE ?_;show wpAny (N2 prog w) A _ P E {s with heap:=((s.heap.update a (Pq λ_=>(#[]:Array NJ))).push (P6 "tuple" vs.toArray 0)).push (P6 "list" #[] 0)};generalize r:((s.heap.update a (Pq λ_=>(#[]:Array NJ))).push (P6 "tuple" vs.toArray 0)).push (P6 "list" #[] 0)=l;have I:Kept a s.heap l:=λb o hb e=>by
  rw[<-r];exact NQ _ (NQ _ ((M.2 b hb).trans e))
 have g:l.get? a=NF (P6 "list" #[] G):=by
  rw[<-r];exact NQ _ (NQ _ q)
 dsimp only;have z:∀(us:Array NJ),us.toList.Perm vs->∀k,(l.update a (Pq λ_=>us)).get? a=NF (P6 "list" us k)->P (.done (.ret .none)) {s with heap:=l.update a (Pq λ_=>us)}:=λus hu k S=>h us.toList _ k hu (λb o hb e=>((O2 l a _).2 b hb).trans (I b o hb e)) S;have fz:∀(us:Array NJ),us.toList.Perm vs->us.size<=NW+1:=λus hu=>by have:=hu.length_eq;rw[Pc]at this;omega
 have J:((vs.toArray.zip vs.toArray).map (·.2)).toList=vs:=by
  rw[Sl,qM,PJ];exact List.map_id _
 by_cases t:vs.toArray.size<2
 .rw[if_pos t,if_pos t];refine NG (NO ?_);rw[StateT.run_pure];refine NG (NO ?_);dsimp only;have hu:((QO (Vu general' (vs.toArray.zip vs.toArray) #[] 7 NN)).map (·.2)).toList.Perm vs:=SF J;generalize(QO (Vu general' (vs.toArray.zip vs.toArray) #[] 7 NN)).map (·.2)=us at hu⊢;obtain⟨k,m⟩:∃k,(l.update a (Pq λ_=>us)).get? a=NF (P6 "list" us k):=⟨_,RV g λ_=>_⟩;refine NG (TM g rfl ?_);refine NG (Sz g rfl ?_ (OB _) (fz us hu));simp only[bne_self_eq_false,Oh,if_false];exact NO (z us hu k m)
 .rw[if_neg t,if_neg t];have F:2<=vs.length:=by
   have:¬vs.length<2:=by simpa using t
   omega
  obtain⟨N,C⟩:=R F l I;refine NG (O3 (N (λi H=>i=D/\H={s with heap:=l}) ⟨rfl,rfl⟩) (λi V T=>?_) λ_ _ x=>x.elim);obtain⟨rfl,rfl⟩:=T;have U:Cm prog w A {s with heap:=l} i (vs.toArray.zip vs.toArray):=λx hx y hy=>by
   rw[<-TQ,qM]at hx hy;obtain⟨v,O,rfl⟩:=List.mem_map.mp hx;obtain⟨u,hu,rfl⟩:=List.mem_map.mp hy;exact C v O u hu
  refine NG (O3 (y_ (st:=Vu i (vs.toArray.zip vs.toArray) #[] 7 NN) (Q:=λ_ j=>Bs i (vs.toArray.zip vs.toArray) j) U ⟨rfl,Array.Perm.refl _,rfl⟩ rfl λj b=>b) ?_ λ_ _ e=>e);rintro⟨⟨⟩,j⟩H⟨rfl,b⟩;dsimp only;have hu:((QO j).map (·.2)).toList.Perm vs:=by
   rw[Sl];refine(b.p.toList.map _).trans (SF ?_);rw[<-Sl];exact J
  rw[b.f];generalize(QO j).map (·.2)=us at hu⊢;obtain⟨k,m⟩:∃k,(l.update a (Pq λ_=>us)).get? a=NF (P6 "list" us k):=⟨_,RV g λ_=>_⟩;refine NG (TM g rfl ?_);refine NG (Sz g rfl ?_ (OB _) (fz us hu));simp only[bne_self_eq_false,Oh,if_false];exact NO (z us hu k m)
structure za(prog:N7)(w:Oq)(A:Ov)(vals:List NJ)(κ:Qd)(s:NL):Prop where
 kind:2<=vals.length->∀h',dC s.heap h'->∀Q':Qd->NL->Prop,Q' κ {s with heap:=h'}->wpAny (N2 prog w) A (Xx vals.toArray) Q' (λ_ _=>False) {s with heap:=h'}cmp:2<=vals.length->∀h',dC s.heap h'->∀x∈vals,∀y∈vals,∀(Q:Bool->NL->Prop)(E:NJ->NL->Prop),(∀b,Q b {s with heap:=h'})->wpAny (N2 prog w) A (keyLt' κ x y) Q E {s with heap:=h'}
theorem qN{v:NJ}{Q:NJ->NL->Prop}(h:wpAny (N2 prog w) A.in1 (WY v) (λvals s1=>vals.length<=NW/\∃d,za prog w A.in1.in1 vals d s1/\∀(us:List NJ)(h':Oy)(c:Nat),us.Perm vals->dC s1.heap h'->h'.get? s1.heap.objs.size=NF (P6 "list" us.toArray c)->Q (.ref s1.heap.objs.size) {s1 with heap:=h'}) E s):wpAny (N2 prog w) A (call (.builtin "sorted") [v]) Q E s:=by
 refine UC kind_sorted plain_sorted entry_sorted (args_sorted1 _) ?_;unfold Builtin.«sorted»;refine NG (m:=checkCount "sorted" 1 1 _) (NO ?_);refine NG (O3 h (λvals s1 i=>?_) λ_ _ e=>e);obtain⟨f,d,K,q⟩:=i;refine NG (UW ?_ f);have a:(s1.heap.push (P6 "list" vals.toArray 0)).get? s1.heap.objs.size=NF (P6 "list" vals.toArray 0):=N4 _ rfl;have keep:∀h',Kept s1.heap.objs.size (s1.heap.push (P6 "list" vals.toArray 0)) h'->dC s1.heap h':=λh' k b o e=>k b o (Oj (N1 e)) (NQ _ e);refine NG (OE (O7 slot_list_sort ⟨_,a,rfl⟩ entry_list_sort ?body (args_list_sort _)));case body=>
  refine lJ (s:={s1 with heap:=s1.heap.push (P6 "list" vals.toArray 0)}) a f (λg h' k=>⟨K.kind g h' (keep h' k),K.cmp g h' (keep h' k)⟩) λus h' c v k e=>⟨_,rfl,?_⟩;exact NO ⟨_,rfl,q us h' c v (keep h' k) e⟩
end
end SrtP
end
section
namespace SrtP
open PySem PySem.W PyProof.Rows L2
section
variable{prog:N7}{w:Oq}{A:Ov}{E:NJ->NL->Prop}{s:NL}
noncomputable def lK(h:Oy)(v:NJ)(k:List Int):Prop:=∃a b,v=.ref a/\WL h a (Pb b)/\QM b k
noncomputable def TT(h:Oy)(v:NJ):Prop:=∃k,k≠[]/\lK h v k
noncomputable def NT(h:Oy)(v:NJ):Prop:=∃a b,v=.ref a/\WL h a (Pb b)/\b≠[]/\∀u∈b,∃k,lK h u k
theorem lK.grown{h h':Oy}{v:NJ}{k:List Int}(t:lK h v k)(g:dC h h'):lK h' v k:=by
 obtain⟨a,b,e,⟨o,c,r⟩,d⟩:=t;exact⟨a,b,e,⟨o,g _ _ c,r⟩,d⟩
theorem TT.grown{h h':Oy}{v:NJ}(t:TT h v)(g:dC h h'):TT h' v:=let⟨k,a,t⟩:=t;⟨k,a,t.grown g⟩
theorem NT.grown{h h':Oy}{v:NJ}(t:NT h v)(g:dC h h'):NT h' v:=by
 obtain⟨a,b,e,⟨o,c,r⟩,d,f⟩:=t;exact⟨a,b,e,⟨o,g _ _ c,r⟩,d,λu hu=>let⟨k,z⟩:=f u hu;⟨k,z.grown g⟩⟩
theorem w4{M:To}{h:Oy}{v:NJ}{k:List Int}(t:lK h v k):Looks M h (VX v) (.type "tuple"):=λA Q E s g q=>by
 obtain⟨a,b,rfl,⟨o,c,d,n,hd⟩,e⟩:=t;exact Vv (T:="tuple") ⟨o,g _ _ c,d⟩ q
theorem qO{h:Oy}{M:To}:∀{vals:List NJ},(∀v∈vals,TT h v)->∃fs:List NJ,KatTups h vals fs/\fs.length=vals.length/\∀v∈fs,Looks M h (VX v) (.type "int")
 |[],_=>⟨[],trivial,rfl,λv b=>by cases b⟩|v::r,H=>by
  obtain⟨fs,p,m,l⟩:=qO (M:=M) (vals:=r) λu hu=>H u (NX _ hu);obtain⟨k,f,a,d,rfl,⟨o,e,j,n,hd⟩,g⟩:=H v NV;cases g with
  |nil=>exact absurd rfl f|cons i c r=>
   refine⟨.int i c::fs,KatTups.cons e j hd (by simp) p,by simp[m],λv b=>?_⟩;rcases List.mem_cons.mp b with z|z;.rw[z];exact SortM.jo i c
   .exact l v z
theorem qP{h:Oy}{M:To}:∀{vals:List NJ},(∀v∈vals,NT h v)->∃fs:List NJ,KatTups h vals fs/\fs.length=vals.length/\∀v∈fs,Looks M h (VX v) (.type "tuple")
 |[],_=>⟨[],trivial,rfl,λv c=>by cases c⟩|v::r,H=>by
  obtain⟨fs,l,j,i⟩:=qP (M:=M) (vals:=r) λu hu=>H u (NX _ hu);obtain⟨a,b,rfl,⟨o,d,g,n,hd⟩,e,f⟩:=H v NV;cases b with
  |nil=>exact absurd rfl e|cons u m=>
   refine⟨u::fs,KatTups.cons d g hd (by simp) l,by simp[j],λv c=>?_⟩;rcases List.mem_cons.mp c with z|z
   .rw[z];obtain⟨k,t⟩:=f u NV;exact w4 t
   .exact i v z
theorem w5{vals:List NJ}(t:∀v∈vals,∃i a,v=.int i a):za prog w A vals oneType' s where
 kind:=λb c g f q=>by
  refine kas_kind (s:={s with heap:=c}) b (T:=.type "int") (λv d=>?_) (by decide) (by decide) q;obtain⟨i,a,rfl⟩:=t v d;exact SortM.jo i a
 cmp:=λb c g x hx y hy Q E q=>by
  obtain⟨i,a,rfl⟩:=t x hx;obtain⟨j,e,rfl⟩:=t y hy;rw[keyLt'_oneType];exact oneLt_int (q _)
theorem F8{vals:List NJ}(t:∀v∈vals,TT s.heap v):za prog w A vals (tuples' NM) s where
 kind:=λu e g G q=>by
  obtain⟨fs,z,F,r⟩:=qO (M:=N2 prog w) λv l=>(t v l).grown g;exact kat_kind (s:={s with heap:=e}) z (by omega) r (by decide) q
 cmp:=λu e g x hx y hy Q E q=>by
  obtain⟨k,_,a,j,rfl,⟨o,m,D,n,hd⟩,h⟩:=(t x hx).grown g;obtain⟨C,_,b,i,rfl,⟨B,c,p,n2,d⟩,f⟩:=(t y hy).grown g;refine kat_lt (s:={s with heap:=e}) m hd c d (SortM.uw _ _ _ _ 0 h f ?_ (q _));rw[N5,N5,h.length,f.length,decide_eq_true_iff]
theorem items_int{its:List NJ}{k:List Int}(h:QM its k):ItemsAre (ar prog w) (k.map Tx) its:=by induction h with
 |nil=>exact .nil|cons i a _ b=>exact .cons (jK prog w i a) b
theorem lK.key{h:Oy}{v:NJ}{k:List Int}(t:lK h v k):∃a,v=.ref a/\IsTupleKey (ar prog w) h (k.map Tx) a:=by
 obtain⟨a,b,e,⟨o,c,f,n,hd⟩,d⟩:=t;exact⟨a,e,o,_,n,c,f,hd,by simpa using items_int d⟩
theorem Dx{Q:Bool->NL->Prop}{c:Bool}(hu:A.units<Pj)(q:∀b,Q b s):∀(xs d:List NJ)(i:Nat),(∀u∈xs,∃k,lK s.heap u k)->(∀u∈d,∃k,lK s.heap u k)->KatLex prog w A NP c Q (xs.zip d) i s
 |[],_,_,_,_=>q c|_::_,[],_,_,_=>q c|x::xs,y::d,i,hx,hy=>by
  obtain⟨k,f⟩:=hx x NV;obtain⟨v,ty⟩:=hy y NV;obtain⟨a,t,l⟩:=f.key (prog:=prog) (w:=w);obtain⟨b,r,j⟩:=ty.key (prog:=prog) (w:=w);have go:∀e,KatGo prog w A NP c Q x y (xs.zip d) i e s:=λe=>by cases e with
   |true=>exact kat_yes (Dx hu q xs d (i+1) (λu hu=>hx u (NX _ hu)) λu hu=>hy u (NX _ hu))|false=>
    refine kat_no ?_;obtain⟨B,n,rfl,h,p⟩:=f;obtain⟨z,m,rfl,g,o⟩:=ty;exact kat_one _ _ (HT.sr h g (by simpa using p) (by simpa using o) hu (q _))
  subst t r;exact WE hu l j (go _)
theorem F9{vals:List NJ}(hu:A.units<Pj)(t:∀v∈vals,NT s.heap v):za prog w A vals (tuples' NP) s where
 kind:=λu h g G q=>by
  obtain⟨fs,z,F,r⟩:=qP (M:=N2 prog w) λv i=>(t v i).grown g;exact kat_kind (s:={s with heap:=h}) z (by omega) r (by decide) q
 cmp:=λu h g x hx y hy Q E q=>by
  obtain⟨a,d,rfl,⟨o,j,D,n,hd⟩,C,m⟩:=(t x hx).grown g;obtain⟨b,c,rfl,⟨B,e,p,n2,f⟩,k,l⟩:=(t y hy).grown g;exact kat_lt (s:={s with heap:=h}) j hd e f (Dx hu q d c 0 m l)
end
end SrtP
end
section
namespace L2
open PySem PySem.Spec PyProof.Rows
section
variable{X:Cx}{F:Fx}
noncomputable def Dy:D->List D->M D
 |.aH ks a,[d,z]=>do M.need (kinds ks d/\ks.length=a.length);pure ((aL ks a d).getD z)|_,_=>M.fail
theorem B1(hu:X.A.units+2<Pj)(hP:X.prog=F.P)(hw:X.w=F.w):L9 X F "dict" "dict.get" qy Dy where
 ty:=(F2 hu hP hw).ty;call:=λS s σ H k x xs v us d ds Q I rx rs l hK W i2 c q=>by match d,ds,q with
  |.aH ks L,[d,z],q=>
   obtain⟨⟨n,m⟩,q⟩:=q;have q:qE F.toFb H k Q ((aL ks L d).getD z) k:=q;simp only[Is]at W;obtain⟨a,ws,rfl,⟨o,t,M⟩,V⟩:=W;cases(show v=Of a from rx);have E:=t.get I hK;obtain⟨w,N,rfl,iw,U⟩:=i2.two;obtain⟨u,O,rfl,R,j⟩:=vals2 rs;have Y:=iT (F:=F) M E;rcases n with⟨n,f,rfl⟩|⟨n,f,rfl⟩
   .obtain⟨g,i,T,ob,rfl,rfl⟩:=M.FP n;rw[<-hP,<-hw]at ob;have:=eA iw;subst this;refine Vy Ri Y RO (Vc _ _ _) (meets_dict_get_default (ar X.prog X.w) a (fx R) t.2.1 O) ⟨_,(ob.at E).mapOf,?_⟩;cases h:aL (g.map λx=>kD x.1) L (kD f)with
    |some e=>
     obtain⟨y,K,J⟩:=uQ V h;obtain⟨u',C,r⟩:=gH.some_of (v:=y) (o:=TC i f) (by rw[<-K];exact T.val f);rw[C];rw[h]at q;exact⟨y,H,I.tok _,r,q y H .refl J⟩|none=>
     have G:gh g f=NN:=by
      have:=fI (d:=kD f) m;rw[h,sT]at this;cases e:gh g f with
      |none=>rfl|some z=>rw[e]at this;cases this
     have:TC i f=NN:=gH.none_of (by rw[<-G];exact T.val f);rw[this];rw[h]at q;exact⟨N,H,I.tok _,j,q _ H .refl U⟩
   .obtain⟨g,i,B,ob,tp,rfl,rfl⟩:=M.FQ n;rw[<-hP,<-hw]at ob;obtain⟨b,rfl,Z⟩:=ek.of iw;cases(show u=Of b from R);refine Vy Ri Y RO (Vc _ _ _) (meetsH_dict_get_default (bJ X.prog X.w) a b t.2.1 O) ⟨du hu,f,i,dS I hK Z,ob.at E (dW I hK B tp),?_⟩;cases h:aL (g.map λx=>D.tup (x.1.map nD)) L (.tup (f.map nD))with
    |some e=>
     obtain⟨p,y,K,J,h3⟩:=uR B V h;rw[K];rw[h]at q;exact⟨y,H,I.tok _,J,q y H .refl h3⟩|none=>
     have G:W3 i f=NN:=by
      have:=fI (d:=.tup (f.map nD)) m;rw[h,wQ B]at this;cases e:W3 i f with
      |none=>rfl|some z=>rw[e]at this;cases this
     rw[G];rw[h]at q;exact⟨N,H,I.tok _,j,q _ H .refl U⟩
noncomputable def B2:D->Bool
 |.tup []=>NP|.tup a=>a.all FL|_=>NP
noncomputable def Jq:D->Bool
 |.tup a=>a.all FL|_=>NP
noncomputable def F_:D->Bool
 |.tup []=>NP|.tup a=>a.all Jq|_=>NP
noncomputable def gp(ds:List D):Bool:=ds.all FL||ds.all B2||ds.all F_
noncomputable def gA:D->Option (List D)
 |.lst a=>NF a|.aH ks _=>NF ks|_=>NN
noncomputable def zb(d:D):M D:=do
 let a<-M.get (gA d)M.need (a.length<=NW/\gp a=NM)let l<-M.any λl=>l.Perm a;pure (.lst l)
theorem u9{d:D}(h:FL d=NM):∃i,d=.int i:=by cases d<;>first|exact⟨_,rfl⟩|cases h
theorem u_:∀{ds:List D},ds.all FL=NM->∃ns:List Int,ds=ns.map D.int
 |[],_=>⟨[],rfl⟩|d::ds,h=>by
  rw[Q9,N0]at h;obtain⟨i,rfl⟩:=u9 h.1;obtain⟨ns,rfl⟩:=u_ h.2;exact⟨i::ns,rfl⟩
theorem g8{B:Fb}{H:Hp}:∀{vs:List V}{ns:List Int},ae B H vs (ns.map D.int)->vs=ns.map V.int
 |_,[],h=>by simp only[RJ,ae]at h;rw[h];rfl|_,n::ns,h=>by
  simp only[Ot,ae,Is]at h;obtain⟨x,b,rfl,rfl,a⟩:=h;rw[g8 a];rfl
section
variable{pins:List (NR×OW)}{σ:St}{H:Hp}{s:NL}
theorem va(I:Inv X pins σ H s)(hK:X.K=F.K){v:V}{u:NJ}{xs:List D}(r:RelV v u)(i:Is F.toFb H v (.tup xs))(h:xs.all FL=NM):∃ns:List Int,xs=ns.map D.int/\SrtP.lK s.heap u ns:=by
 obtain⟨ns,rfl⟩:=u_ h;simp only[Is]at i;obtain⟨a,g,rfl,c,e⟩:=i;cases(show u=Of a from r);have:=g8 e;subst this;obtain⟨b,d,f,_⟩:=I.tuple (show kf X.K H a _ by rw[hK];exact c.2);exact⟨ns,rfl,a,b,rfl,f,intsAre_of d⟩
theorem Jr(I:Inv X pins σ H s)(hK:X.K=F.K){v:V}{u:NJ}{d:D}(r:RelV v u)(i:Is F.toFb H v d)(h:B2 d=NM):SrtP.TT s.heap u:=by match d,h,i with
 |.tup (x::a),h,i=>
  obtain⟨ns,e,t⟩:=va I hK r i h;refine⟨ns,λz=>?_,t⟩;rw[z]at e;cases e
theorem Js(I:Inv X pins σ H s)(hK:X.K=F.K){v:V}{u:NJ}{d:D}(r:RelV v u)(i:Is F.toFb H v d)(h:F_ d=NM):SrtP.NT s.heap u:=by match d,h,i with
 |.tup (x::f),h,i=>
  simp only[Is]at i;obtain⟨a,A,rfl,l,b⟩:=i;cases(show u=Of a from r);obtain⟨g,m,n,_⟩:=I.tuple (show kf X.K H a _ by rw[hK];exact l.2);refine⟨a,g,rfl,n,?_,?_⟩
  .intro z;subst z;cases m;simp[ae]at b
  .have h:(x::f).all Jq=NM:=h;clear n l r;rename_i k;clear k;generalize x::f=c at b h;induction m generalizing c with
   |nil=>intro u hu;cases hu|cons o B p=>
    intro u hu;cases c with
    |nil=>simp[ae]at b|cons d c=>
     simp only[ae]at b;obtain⟨y,w,e,j,q⟩:=b;cases e;rw[Q9,N0]at h;rcases List.mem_cons.mp hu with z|z
     .subst z;match d,h.1,j with
      |.tup f,hd,j=>
       obtain⟨ns,_,t⟩:=va I hK o j hd;exact⟨ns,t⟩
     .exact p c q h.2 u z
theorem ox{P:NJ->Prop}{f:D->Bool}(c:∀{v:V}{u:NJ}{d:D},RelV v u->Is F.toFb H v d->f d=NM->P u):∀{vs:List V}{us:List NJ}{ds:List D},aq vs us->ae F.toFb H vs ds->ds.all f=NM->∀u∈us,P u
 |_,_,[],b,a,_,u,hu=>by
  simp only[ae]at a;subst a;cases b;cases hu|_,_,d::ds,b,a,h,u,hu=>by
  simp only[ae]at a;obtain⟨x,k,rfl,j,i⟩:=a;rw[Q9,N0]at h;cases b with|cons g e=>
   rcases List.mem_cons.mp hu with z|z;.subst z;exact c g j h.1
   .exact ox c e i h.2 u z
theorem B3(I:Inv X pins σ H s)(hK:X.K=F.K){A:Ov}(hu:A.units<Pj){vs:List V}{us:List NJ}{ds:List D}(a:aq vs us)(b:ae F.toFb H vs ds)(h:gp ds=NM):∃c,SrtP.za X.prog X.w A us c s:=by
 unfold gp at h;rw[PR,PR]at h;rcases h with(h|h)|h
 .refine⟨_,SrtP.w5 (ox (P:=λu=>∃i e,u=.int i e) (λ{v u d}r i hd=>?_) a b h)⟩;obtain⟨f,rfl⟩:=u9 hd;simp only[Is]at i;subst i;exact⟨f,r⟩
 .exact⟨_,SrtP.F8 (ox (λr i hd=>Jr I hK r i hd) a b h)⟩
 .exact⟨_,SrtP.F9 hu (ox (λr i hd=>Js I hK r i hd) a b h)⟩
end
theorem Paired.Jt{e d:Type}{P:e->d->Prop}{f us:List d}(p:us.Perm f):∀{xs:List e},Paired P xs f->∃vs,vs.Perm xs/\Paired P vs us:=by induction p with
 |nil=>intro xs h;exact⟨xs,.refl _,h⟩|cons x p n=>
  intro xs h;cases h with|cons r t=>
   obtain⟨vs,g,c⟩:=n t;exact⟨_::vs,g.cons _,.cons r c⟩
 |swap x y l=>
  intro xs h;cases h with|cons r t=>cases t with|cons j i=>exact⟨_,.swap _ _ _,.cons j (.cons r i)⟩
 |trans g q b a=>
  intro xs h;obtain⟨vs,m,c⟩:=a h;obtain⟨ws,k,o⟩:=b c;exact⟨ws,k.trans m,o⟩
theorem sZ{B:Fb}{H:Hp}{vs xs:List V}(p:vs.Perm xs):∀{ds:List D},ae B H xs ds->∃es,es.Perm ds/\ae B H vs es:=by induction p with
 |nil=>intro ds h;exact⟨ds,.refl _,h⟩|cons x p r=>
  intro ds h;cases ds with
  |nil=>simp[ae]at h|cons d ds=>
   simp only[ae]at h;obtain⟨n,k,e,b,a⟩:=h;cases e;obtain⟨es,i,g⟩:=r a;exact⟨d::es,i.cons _,.cons b g⟩
 |swap x y l=>
  intro ds h;cases ds with
  |nil=>simp[ae]at h|cons d ds=>cases ds with
   |nil=>simp[ae]at h|cons t ds=>
    simp only[ae]at h;obtain⟨n,k,e,b,m,j,s,a,g⟩:=h;cases e;cases s;exact⟨t::d::ds,.swap _ _ _,.cons a (.cons b g)⟩
 |trans i u f c=>
  intro ds h;obtain⟨es,q,b⟩:=c h;obtain⟨fs,o,a⟩:=f b;exact⟨fs,o.trans q,a⟩
theorem w6{pins:List (NR×OW)}{σ:St}{H:Hp}{s:NL}{a:NR}{vs:List V}{R:List NJ->NL->Prop}(I:Inv X pins σ H s)(k:dy X.K H a vs)(h:∀(h':Oy)(g:Nat)(us:List NJ),SrtP.dC s.heap h'->aq vs us->R us {s with heap:=h',toks:=g}):wpAny (N2 X.prog X.w) X.A.in1 (WY (.ref a)) R X.xe s:=by
 obtain⟨d,f,i,j⟩:=I.list k;have c:=f.length;refine collect_list i.isList ?_ (by simpa[c]using j);refine h _ s.toks d (λb o e=>?_) f;rw[Heap.get?_update_ne _ _ _ _ (Oj (N1 e))];exact NQ _ e
theorem w9(z:X.calm=NM){pins:List (NR×OW)}{σ:St}{H:Hp}{s:NL}{x:V}{u:NJ}{d:D}{ds:List D}{R:List NJ->NL->Prop}(I:Inv X pins σ H s)(hK:X.K=F.K)(r:RelV x u)(i:Is F.toFb H x d)(e:gA d=NF ds)(h:∀(h':Oy)(c:Nat)(vs:List V)(us:List NJ),SrtP.dC s.heap h'->aq vs us->ae F.toFb H vs ds->R us {s with heap:=h',toks:=c}):wpAny (N2 X.prog X.w) X.A.in1 (WY u) R X.xe s:=by
 have hd:(∃l,d=.lst l)\/∃ks n,d=.aH ks n:=by cases d<;>first|exact .inl ⟨_,rfl⟩|exact .inr ⟨_,_,rfl⟩|cases e
 rcases hd with⟨l,rfl⟩|⟨ks,n,rfl⟩
 .cases e;simp only[Is]at i;obtain⟨a,vs,rfl,p,q⟩:=i;cases(show u=Of a from r);exact w6 I (by rw[hK];exact p.2.sq) λh' c us g j=>h h' c vs us g j q
 .cases e;simp only[Is]at i;obtain⟨a,vs,rfl,⟨o,m,k⟩,C⟩:=i;cases(show u=Of a from r);obtain⟨f,B,E,hx,hd,j,t⟩:=qu k;have v:=m.get I hK;obtain⟨_,_,_,b,y,_⟩:=yV k;rw[hd]at b;injection b with b _;subst b;exact DictIt.sF (show X.A.in1.handled=NN from I.ok.hd z) m.2.1 v hx.1 hd (by rw[y];exact k.1) λh' c g=>h h' c f _ g j t
theorem zc(S:X.calm=NM)(hu:X.A.units+2<Pj):aX X F (.builtin "sorted") (one zb)where
 call:=λb s C H k W p ds Q I J l hK O L=>by
  obtain⟨d,rfl,q⟩:=dj L;obtain⟨v,rfl,i⟩:=O.one;obtain⟨Z,e,q⟩:=M.run_get.mp q;obtain⟨⟨w,P⟩,q⟩:=q;obtain⟨u,rfl,rx⟩:=vals1 J;refine SrtP.qN (w9 S I hK rx i e λf h Y p g a m=>?_);have o:Inv X b C H {s with heap:=f,toks:=h}:=I.kept (t':=h) g;obtain⟨E,K⟩:=B3 o hK (A:=X.A.in1.in1) (show X.A.units+1+1<Pj from hu) a m P;have R:p.length<=NW:=by rw[<-a.length,m.length];exact w
  refine⟨R,E,K,λG T c N U B=>?_⟩;obtain⟨ws,pw,j⟩:=Paired.Jt N a;obtain⟨n,pe,iw⟩:=sZ pw m;have x:H f.objs.size=NN:=o.aD.fresh (NZ _);have V:=o.newList (t:=h) (D:=f.objs.size) U (NZ _) j (by rw[iw.length,pe.length_eq];exact w) B;exact⟨.ref f.objs.size,_,V.freeze aj B (λ_ z=>nomatch z) (λ_ _ z=>nomatch z) (λ_ z=>nomatch z) (λ_ z=>nomatch z),rfl,by
   rw[bN];exact q n pe _ _ (.new x) (dE (k:=k) l x iw)⟩
end
section
variable{prog:N7}{w:Oq}{A:Ov}{E:NJ->NL->Prop}{s:NL}
theorem lL:Ul (.type "list") "keys"=pure NN:=by rw[VF,Tr];kernel_rfl
theorem w_{a:NR}{o:OW}{xs:Array NJ}{k:Nat}{Q:Option NJ->NL->Prop}(hx:s.heap.get? a=NF o)(q:o.cls=.type "list")(i:o.data=.seq xs k)(hd:o.dict=NN)(hA:A.handled=NN)(h:∀h' l,(∀b o,s.heap.get? b=NF o->h'.get? b=NF o)->Q NN {s with heap:=h',toks:=l}):wpAny (N2 prog w) A (W4 (.ref a) "keys") Q E s:=by
 obtain⟨c,B,dat,u⟩:=o;simp only at q i hd;subst q i hd;obtain⟨m,g,d,l,os⟩:=s;have t:∀f,(⟨m,g,d,f,os⟩:NL).TypeIs (.ref a) "list":=λ_=>⟨_,hx,rfl⟩;have J:=sub_AttributeError;have I:=F.slot_list_getattribute.lookup;have H:=F.slot_list_getattribute.bind (.ref a);have f5:=am_list_getattr_none;have n:wpAny (N2 prog w) A (W4 (.ref a) "keys") (λr p=>∃h' f,r=NN/\(∀b o,m.get? b=NF o->h'.get? b=NF o)/\p=⟨h',g,d,f,os⟩) E ⟨m,g,d,l,os⟩:=by
  unfold W4 getAttrBy? getAttrBy;repeat(any_goals(first|assumption|exact t _|((with_reducible show wpAny _ _ (call (Sx "list.__getattribute__") _ _) _ _ _);refine Xu F.slot_list_getattribute (t _) am_entry_list_getattribute (F.args_list_getattribute_2 _ _) (meets_getattribute_miss_list a xs k u "keys" _ lL (by decide+kernel) (by size_fits)) ⟨hx,hA,λh' f e j=>?_⟩)|wp_step))
  obtain⟨D,C,G⟩:=j.there;show wpAny _ _ (WI _ _ _ _ _ _ _) _ _ _;unfold WI;repeat(any_goals(first|assumption|wp_step))
  exact⟨_,_,rfl,j.of.keeps,rfl⟩
 exact O3 n (λr p⟨h',f,y,v,x⟩=>by subst y x;exact h h' f v) λ_ _ z=>z
theorem nr:Xz table "dict.update.loop"=NF Builtin.«dict.update.loop»:=entryFor_of_tree (by kernel_rfl)
theorem nu:plainId "dict.update.loop"=NM:=by decide+kernel
end
noncomputable def az(ks:List D)(d:D):Bool:=(ks.all yS&&yS d)||(ks.all oh&&oh d)
theorem cM{ks:List D}{d:D}(h:az ks d=NM):kinds ks d:=by
 unfold az at h;rw[PR,N0,N0]at h;rcases h with⟨b,a⟩|⟨b,a⟩;.exact .inl ⟨uP b,iS a⟩
 .exact .inr ⟨yU b,qr a⟩
noncomputable def gB:List D->List D×List D->Option (List D×List D)
 |[],a=>NF a|.tup [k,v]::r,a=>if az a.1 k&&decide (a.1.length<NW)then gB r (putD a.1 a.2 k v)else NN|_,_=>NN
section
variable{X:Cx}{F:Fx}{pins:List (NR×OW)}{σ:St}
theorem nv(hc:X.calm=NM)(hK:X.K=F.K)(hP:X.prog=F.P)(hw:X.w=F.w){A1:Ov}(hA:A1.handled=NN)(hu:A1.units+2<Pj){f a it:NR}{r:List D×List D}{R:Xr->NL->Prop}(hp:f≠F.p):∀(ps:List D)(i:Nat)(j:Int)(t:Vz)(ks ds:List D)(vs xs:List V)(o:OW)(c:Hp)(s:NL),Inv X pins σ c s->c f=NF (gj f o)->bq F.toFb c o ks vs->ae F.toFb c vs ds->LstAt F.toFb c a xs->ae F.toFb c (xs.drop i) ps->s.heap.IsListIter it a i->fu X pins c it->gB ps (ks,ds)=NF r->(∀o' h s',Inv X pins σ (upd c f (gj f o')) s'->bq F.toFb (upd c f (gj f o')) o' r.1 h->ae F.toFb (upd c f (gj f o')) h r.2->R (.ok (.ret .none)) s')->codeAny (N2 X.prog X.w) A1 (.builtin "dict.update.loop" ⟨[.ref f,.ref it,.int j t,.none],[]⟩) R s
 |[],i,j,t,ks,ds,vs,xs,o,c,s,I,m,dd,ia,S,l,st,fp,e,q=>by
  refine Pp nr ?_;rw[O4 nu _];unfold Builtin.«dict.update.loop»;dsimp only;obtain⟨G,rv,p,hz⟩:=I.list (show dy X.K c a xs by rw[hK];exact S.2.sq);have hl:G.toArray[i]?=NN:=by
   have h1:=l.length;have h2:=rv.length;simp at h1⊢;omega
  refine NG (VG hA st p.isList hl λL eb=>?_);obtain⟨y,Y,f2,W,U,f5⟩:=fp;have B:Inv X pins σ c {s with heap:=L}:=I.turned (t':=s.toks) (λb o hb e=>eb b o hb e) y Y W U f5;cases e;refine NG (NO (NO ?_));have:upd c f (gj f o)=c:=by
   funext b;by_cases hb:b=f;.rw[hb,aj,m]
   .rw[ai hb]
  exact q o vs _ (by rw[this];exact B) (by rw[this];exact dd) (by rw[this];exact ia)|d::ps,i,j,t,ks,ds,vs,xs,o,c,s,I,m,dd,ia,S,l,st,fp,e,q=>by match d,e,l with
  |.tup [k,v],e,l=>
   have e:(if az ks k&&decide (ks.length<NW)then gB ps (putD ks ds k v)else NN)=NF r:=e;by_cases J:(az ks k&&decide (ks.length<NW))=NM
   .rw[if_pos J]at e;rw[N0,decide_eq_true_eq]at J;refine Pp nr ?_;rw[O4 nu _];unfold Builtin.«dict.update.loop»;dsimp only;obtain⟨G,rv,p,hz⟩:=I.list (show dy X.K c a xs by rw[hK];exact S.2.sq);rw[show ae F.toFb c (xs.drop i) (.tup [k,v]::ps)=∃x O,xs.drop i=x::O/\Is F.toFb c x (.tup [k,v])/\ae F.toFb c O ps by simp only[ae]]at l;obtain⟨x,O,ex,l,ir⟩:=l;rw[show Is F.toFb c x (.tup [k,v])=∃a xs,x=.ref a/\TupAt F.toFb c a xs/\ae F.toFb c xs [k,v]by simp only[Is]]at l;obtain⟨Q,a7,rfl,tt,a0⟩:=l;obtain⟨x1,x2,rfl,i1,i2⟩:=a0.two;have hx:xs[i]?=NF (.ref Q):=by
     have:=congrArg List.head? ex;simpa[List.head?_drop]using this
    have a2:xs.drop (i+1)=O:=by
     have:=congrArg List.tail ex;simpa[List.tail_drop]using this
    obtain⟨u,a3,ru⟩:=rv.get hx;cases(show u=Of Q from ru);refine NG (Vi st p.isList (x:=.ref Q) (by simpa using a3) λL Z sb=>?_);obtain⟨y,Y,f2,W,U,f5⟩:=id fp;have B:Inv X pins σ c {s with heap:=L}:=I.turned (t':=s.toks) (λb o hb e=>(sb.2 b hb).trans e) y Y W U f5;obtain⟨a8,rj,⟨oj,ho,a5,n,hd⟩,_⟩:=B.tuple (show kf X.K c Q _ by rw[hK];exact tt.2);obtain⟨u1,u2,rfl,r1,r2⟩:=vals2 rj;dsimp only;refine NG (OE (NG (QR ?_)));unfold Builtin.Dict.pairItems;refine NG (Vv (T:="tuple") ⟨oj,ho,a5⟩ ?_);rw[if_pos (by decide)];refine NG (Ql ho hd (NO ?_));dsimp only[Option.getD_some];have a4:L.get? f=NF o:=(B.aD f _ m).1;refine OE (uU (F:=F) (A:=A1.in1) (show A1.units+1+1<Pj from hu) B hK hP hw dd a4 ia i1 r1 i2 r2 (cM J.1) J.2 λh2 o2 tk E eo po=>?_);refine NO ⟨Rg _ (by decide+kernel),?_⟩;obtain⟨⟨h,d1,d2⟩,_⟩:=po;have kp:Kp F.toFb c 0 (upd c f (gj f o2)) 0:=Kp.own hp m rfl;have H:it≠f:=λz=>by rw[z,m]at y;cases y
    have I2:Inv X pins σ (upd c f (gj f o2)) {s with heap:=h2,toks:=tk}:=fY (s:={s with heap:=L}) B m E eo;refine nv hc hK hP hw hA hu hp ps (i+1) _ _ (putD ks ds k v).1 (putD ks ds k v).2 h xs o2 _ _ I2 aj (d1.mono kp) (d2.mono kp) (S.mono kp) (by rw[a2];exact ir.mono kp) ?_ ⟨by rw[ai H];exact y,Y,f2,W,U,f5⟩ e λo' C s' I' N M=>?_
    .obtain⟨oi,z1,z2⟩:=Z;exact⟨oi,(E.2 it H).trans z1,z2⟩
    .rw[bN]at I' N M;exact q o' C s' I' N M
   .rw[if_neg J]at e;cases e
noncomputable def Ga:D->M D
 |.lst ps=>do let r<-M.get (gB ps ([],[]));pure (.aH r.1 r.2)|_=>M.fail
theorem zd(U:X.calm=NM)(hu:X.A.units+4<Pj)(hP:X.prog=F.P)(hw:X.w=F.w):aX X F (.type "dict") (one Ga)where
 call:=λpins s σ H k xs us ds Q I rv l hK ia qa=>by
  obtain⟨d,rfl,q⟩:=dj qa;obtain⟨v,rfl,i⟩:=ia.one;match d,q,i with
  |.lst ps,q,i=>
   obtain⟨r,e,q⟩:=M.run_get.mp q;have q:qE F.toFb H k Q (.aH r.1 r.2) k:=q;obtain⟨u,rfl,rx⟩:=vals1 rv;simp only[Is]at i;obtain⟨a,E,rfl,J,iv⟩:=i;cases(show u=Of a from rx);have R:H s.heap.objs.size=NN:=I.aD.fresh (NZ _);have j:s.heap.objs.size≠F.p:=gQ l R;have N:(s.heap.objs.size==Qi)=NP:=beq_eq_false_iff_ne.mpr (OX (Oj I.Dh));refine callType_codes (Q₁:=λobj h=>obj=.ref s.heap.objs.size/\h={s with heap:=s.heap.push {cls:=.type "dict",data:=.dict #[]}}) PySem.F.kt_called_dict (PySem.F.kt_typeCall_dict_1 _) PySem.F.entry_dict_init (kt_code_dict_new _ ⟨rfl,rfl⟩) ?_;rintro obj h⟨rfl,rfl⟩;have x:(s.heap.push {cls:=.type "dict",data:=.dict #[]}).get? s.heap.objs.size=NF dk:=N4 _ rfl;have I1:Inv X pins σ (upd H s.heap.objs.size (gj s.heap.objs.size dk)) {s with heap:=s.heap.push {cls:=.type "dict",data:=.dict #[]}}:=I.laid (a:=s.heap.objs.size) (t':=s.toks) (λ_ _ q=>NQ _ q) (NZ _) (ou x);have ex:Ext F.toFb H k (upd H s.heap.objs.size (gj s.heap.objs.size dk)) k:=.new R;have Z:Shared.TypeIs {s with heap:=s.heap.push {cls:=.type "dict",data:=.dict #[]}} (.ref s.heap.objs.size) "dict":=⟨_,x,rfl⟩;refine⟨Z,PySem.F.args_dict_init_2 _ _,?_⟩;unfold Builtin.«dict.__init__»;refine NG ?_;unfold Builtin.Dict.selfAndRest;refine NG (VJ Z ?_);show wpAny _ _ (pure (s.heap.objs.size,[Of a])) _ _ _;refine NO ?_;show wpAny _ _ (Vd "dict.__init__" s.heap.objs.size (.ref a) [] .none) _ _ _;unfold Vd;obtain⟨L,a2,pl,hz⟩:=I1.list (show dy X.K _ a E by rw[hK];exact(J.mono ex.kp).2.sq);obtain⟨o,Y,y,u0,n,S⟩:∃o,(s.heap.push {cls:=.type "dict",data:=.dict #[]}).get? a=NF o/\o.cls=.type "list"/\o.dict=NN/\∃n,o.data=.seq L.toArray n:=by
    obtain⟨o,n,B,h3,h1,h4⟩:=pl;exact⟨o,B,h3,h1,n,h4⟩
   refine NG (Vv (T:="list") ⟨o,Y,y⟩ ?_);rw[if_pos (by decide)];refine NG (w_ Y y S u0 (show X.A.in1.in1.handled=NN from I.ok.hd U) λB g g2=>?_);rw[if_pos (show(NN:Option NJ).isNone=NM from rfl)];refine NG (Tu ?_);have C:Inv X pins σ (upd H s.heap.objs.size (gj s.heap.objs.size dk)) {s with heap:=B,toks:=g}:=I1.kept (t':=g) g2;obtain⟨W,a0,G,a3⟩:=C.list (show dy X.K _ a E by rw[hK];exact(J.mono ex.kp).2.sq);refine NG (Tc G.isList ?_);refine NO ⟨Rg _ (by decide+kernel),?_⟩;have I3:Inv X pins σ (upd H s.heap.objs.size (gj s.heap.objs.size dk)) {s with heap:=B.push {cls:=.type "list_iterator",data:=.fields #[.ref a,.int 0 0]},toks:=g}:=C.kept (t':=g) λb o e=>NQ _ e;refine nv (a:=a) (it:=B.objs.size) U hK hP hw (A1:=X.A.in1) (I.ok.hd U) (show X.A.units+1+2<Pj by omega) j ps 0 0 _ [] [] [] E dk _ _ I3 aj ni .nil (J.mono ex.kp) (by simpa using iv.mono ex.kp) ⟨_,N4 _ rfl,rfl,rfl⟩ (C.AO (NZ _) (C.aD.fresh (NZ _))) e λm D s' V d1 d2=>⟨rfl,?_⟩;rw[bN]at V d1 d2;have O:s'.heap.get? s.heap.objs.size=NF m:=(V.aD _ _ aj).1;have I4:=V.freeze aj O (λ_ z=>nomatch z) (λ_ _ z=>nomatch z) (λ_ z=>nomatch z) (λ_ z=>nomatch z);have kp:Kp F.toFb (upd H s.heap.objs.size (gj s.heap.objs.size m)) k (upd (upd H s.heap.objs.size (gj s.heap.objs.size m)) s.heap.objs.size (.bP m (gj s.heap.objs.size m))) k:=Kp.own j aj rfl;refine⟨.ref s.heap.objs.size,_,I4,rfl,q _ _ ?_ ?_⟩
   .rw[bN];exact .new R
   .simp only[Is];exact⟨_,D,rfl,⟨m,⟨j,N,.inl ⟨_,aj⟩⟩,d1.mono kp⟩,d2.mono kp⟩|.aU,q,_=>exact q.elim|.bl _,q,_=>exact q.elim|.int _,q,_=>exact q.elim|.str _,q,_=>exact q.elim|.tup _,q,_=>exact q.elim|.aH _ _,q,_=>exact q.elim|.exc _ _,q,_=>exact q.elim|.aA _,q,_=>exact q.elim
end
mutual
noncomputable def pz:D->PyData
 |.bl b=>.bool b|.int i=>.int i|.str x=>.str x|.tup a=>.tuple (g9 a)|.lst a=>.list (g9 a)|_=>.none
noncomputable def g9:List D->List PyData
 |[]=>[]|x::a=>pz x::g9 a
end
mutual
noncomputable def oy:D->Bool
 |.aU=>NM|.bl _=>NM|.int _=>NM|.str _=>NM|.tup a=>lM a|.lst a=>lM a|_=>NP
noncomputable def lM:List D->Bool
 |[]=>NM|x::a=>oy x&&lM a
end
mutual
theorem vc:∀(d:D),(pz d).hasDict=NP
 |.aU=>rfl|.bl _=>rfl|.int _=>rfl|.str _=>rfl|.tup a=>by simp only[pz,PyData.hasDict];exact lN a|.lst a=>by simp only[pz,PyData.hasDict];exact lN a|.aH _ _=>rfl|.exc _ _=>rfl|.aA _=>rfl
theorem lN:∀(ds:List D),W5 (g9 ds)=NP
 |[]=>rfl|d::ds=>by simp only[g9,W5,vc d,lN ds,Bool.or_self]
end
mutual
theorem qQ{h:Oy}:∀{u:NJ}{d:D},oy d=NM->aG h u d->∃as,Reads h u (pz d) as
 |_,.aU,_,i=>by simp only[aG]at i;subst i;exact⟨_,.none⟩|_,.bl b,_,i=>by simp only[aG]at i;subst i;exact⟨_,.bool b⟩|_,.int n,_,i=>by simp only[aG]at i;obtain⟨t,rfl⟩:=i;exact⟨_,.int n t⟩|_,.str x,_,i=>by simp only[aG]at i;obtain⟨t,rfl⟩:=i;exact⟨_,.str x t⟩|_,.tup k,p,i=>by
  simp only[aG]at i;obtain⟨a,c,rfl,⟨o,j,g,n,f⟩,e⟩:=i;simp only[oy]at p;obtain⟨as,r⟩:=jw p e;exact⟨_,.tuple j g f r⟩|_,.lst k,p,i=>by
  simp only[aG]at i;obtain⟨a,c,rfl,⟨o,j,g,n,f⟩,e⟩:=i;simp only[oy]at p;obtain⟨as,r⟩:=jw p e;exact⟨_,.list j g f r⟩|_,.aH _ _,p,_=>by simp[oy]at p|_,.exc _ _,p,_=>by simp[oy]at p|_,.aA _,p,_=>by simp[oy]at p
theorem jw{h:Oy}:∀{us:List NJ}{ds:List D},lM ds=NM->aI h us ds->∃as,ReadsAll h us (g9 ds) as
 |_,[],_,i=>by simp only[aI]at i;subst i;exact⟨_,.nil⟩|_,d::ds,p,i=>by
  simp only[aI]at i;obtain⟨u,r,rfl,e,c⟩:=i;simp only[lM,N0]at p;obtain⟨as,b⟩:=qQ p.1 e;obtain⟨bs,a⟩:=jw p.2 c;exact⟨_,.cons b a⟩
end
noncomputable def oz(d:D):Bool:=oy d&&((pz d).showable&&(decide ((pz d).depth<=8)&&decide ((pz d).shown.length<=NW)))
noncomputable def j6:D->Bool
 |.tup _=>NM|_=>NP
noncomputable def Ju(d:D):M D:=do
 M.need (j6 d=NM/\oz d=NM)pure (.str (pz d).shown)
section
variable{X:Cx}{F:Fx}
theorem B4(p:X.A.guards=NF [])(hu:X.A.units+16<Pj):aX X F (.builtin "repr") (one Ju)where
 call:=λc s w H k x z C Q I g l hK j h=>by
  obtain⟨d,rfl,q⟩:=dj h;obtain⟨v,rfl,i⟩:=j.one;obtain⟨⟨m,b⟩,q⟩:=q;have q:qE F.toFb H k Q (.str (pz d).shown) k:=q;obtain⟨u,rfl,rx⟩:=vals1 g;unfold oz at b;rw[N0,N0,N0,decide_eq_true_eq,decide_eq_true_eq]at b;obtain⟨as,r⟩:=qQ b.1 (et I hK rx i);have n:∃a,u=.ref a:=by
   cases d<;>first|cases m|skip
   simp only[Is]at i;obtain⟨a,y,rfl,_⟩:=i;exact⟨a,rx⟩
  obtain⟨a,rfl⟩:=n;refine repr_of_reads' r b.2.1 (PyData.noDict_hsm (vc d)) p (by have:=b.2.2.1;omega) (λ_ _ e=>e) (λB t f o=>?_) b.2.2.2;exact⟨.str (pz d).shown,H,I.kept (t':=f) o,⟨t,rfl⟩,q _ H .refl (by simp only[Is])⟩
end
section
variable{prog:N7}{w:Oq}{A:Ov}{R:Xr->NL->Prop}{I:NR}{fp wr:List NR}{n:Nat}{P:Nat->NJ->Prop}{St:Nat->Oy->Prop}
theorem xa(W:Xj prog w A.in1 I fp wr n P St)(B:Nat->Nat->Bool)(G:Oy->Prop)(S:NR)(H:S∉fp)(X:∀h h',G h->(∀b o,b∉wr->b≠S->h.get? b=NF o->h'.get? b=NF o)->G h')(D:∀(j:Nat)T O(s:NL)(Q:NJ->NL->Prop)(E:NJ->NL->Prop),j+1<n->G s.heap->P (j+1) T->P (OT B j) O->Q (.bool (B (j+1) (OT B j))) s->wpAny (N2 prog w) A.in1 (Qs .Gt T O) Q E s):∀(k j:Nat)(s:NL)(p:NJ)(c:Nat),n-(j+1)=k->j+1<=n->St (j+1) s.heap->G s.heap->P (OT B j) p->s.heap.get? S=NF {cls:=.type "list",dict:=NN,data:=.seq #[p,p] c,slots:=#[]}->(∀v h' K,P (OT B (n-1)) v->(∀b o,b∉wr->b≠S->s.heap.get? b=NF o->h'.get? b=NF o)->R (.ok (.ret v)) {s with heap:=h',toks:=K})->codeAny (N2 prog w) A (.builtin "max.loop" ⟨[.ref I,.none,.ref S],[]⟩) R s:=by
 have F:S∉wr:=λh=>H (W.sub _ h);have i:(toString "max"++toString ".loop":String)="max.loop":=by decide
 intro k;induction k with
 |zero=>
  intro j s p c Y Z u V r J L;have C:j+1=n:=by omega+splitNatSub
  refine Pp Ti ?_;rw[O4 PX _];show wpAny _ A.in1 (Ug (.ref S)>>=_) _ _ s;refine NG (Ql J rfl ?_);show wpAny _ A.in1 (tryCatch (Rt (.ref I)) _>>=_) _ _ s;refine NG (QR (W.done s _ _ (C▸u) λh' K f=>?_));have m:=f S _ F J;show wpAny _ A.in1 (Xe S (λ_=>#[])>>=_) _ _ _;refine NG ?_;refine RY m rfl (NG (Sf (NO ?_)));refine L p _ K (by rw[<-C];exact r) λb o a d e=>(Oa _ _ (OX d)).trans (f b o a e)|succ k U=>
  intro j s p c Y Z u V r J L;have q:j+1<n:=by omega+splitNatSub
  refine Pp Ti ?_;rw[O4 PX _];show wpAny _ A.in1 (Ug (.ref S)>>=_) _ _ s;refine NG (Ql J rfl ?_);show wpAny _ A.in1 (tryCatch (Rt (.ref I)) _>>=_) _ _ s;refine NG (QR (W.item (j+1) s _ _ q u λv h' K hP t f=>?_));have m:=f S _ F J;have x:G h':=X _ _ V λb o a _ e=>f b o a e;show wpAny _ A.in1 (tryCatch (TB [v,v] (Qs .Gt v p>>=_)) _>>=_) _ _ _;refine NG (QR (OE (NG (D j v p _ _ _ q x hP r ?_))));refine NG (OE (QV ?_));refine NG (Sf (NO ?_));cases hb:B (j+1) (OT B j)with
  |true=>
   simp only[if_true];refine NG ?_;refine RY m rfl (NG (Sf ?_));rw[i];refine NO ⟨Qg PX _,U (j+1) _ v _ (by omega+splitNatSub) q (W.frame _ _ _ t λb N o e=>?_) (X _ _ x λb o _ d e=>(Oa _ _ (OX d)).trans e) (by simp only[OT,hb,if_true];exact hP) (OF _ m rfl) λM z g y l=>?_⟩;.exact(Oa _ _ (λh:S=b=>H (by rw[h];exact N))).trans e
   .exact L M z g y λb o a d e=>l b o a d ((Oa _ _ (OX d)).trans (f b o a e))|false=>
   simp only[Oh,if_false];refine NG (Sf ?_);rw[i];refine NO ⟨Qg PX _,U (j+1) _ p c (by omega+splitNatSub) q t x (by simp only[OT,hb,Oh,if_false];exact r) m λM z g y l=>?_⟩;exact L M z g y λb o a d e=>l b o a d (f b o a e)
theorem s_(W:Xj prog w A.in1 I fp wr n P St)(r:Nat->Nat->Bool)(G:Oy->Prop)(S:NR)(i:S∉fp)(B:∀h h',G h->(∀b o,b∉wr->b≠S->h.get? b=NF o->h'.get? b=NF o)->G h')(p:∀(j:Nat)F D(s:NL)(Q:NJ->NL->Prop)(E:NJ->NL->Prop),j+1<n->G s.heap->P (j+1) F->P (OT r j) D->Q (.bool (r (j+1) (OT r j))) s->wpAny (N2 prog w) A.in1 (Qs .Gt F D) Q E s)(J:0<n){s:NL}{c:Nat}(t:St 0 s.heap)(M:G s.heap)(K:s.heap.get? S=NF {cls:=.type "list",dict:=NN,data:=.seq #[] c,slots:=#[]})(N:∀v h' H,P (OT r (n-1)) v->(∀b o,b∉wr->b≠S->s.heap.get? b=NF o->h'.get? b=NF o)->R (.ok (.ret v)) {s with heap:=h',toks:=H}):codeAny (N2 prog w) A (.builtin "max.loop" ⟨[.ref I,.none,.ref S],[]⟩) R s:=by
 have y:S∉wr:=λh=>i (W.sub _ h);have f:(toString "max"++toString ".loop":String)="max.loop":=by decide
 refine Pp Ti ?_;rw[O4 PX _];show wpAny _ A.in1 (Ug (.ref S)>>=_) _ _ s;refine NG (Ql K rfl ?_);show wpAny _ A.in1 (tryCatch (Rt (.ref I)) _>>=_) _ _ s;refine NG (QR (W.item 0 s _ _ J t λv h' H hP l g=>?_));have q:=g S _ y K;have u:G h':=B _ _ M λb o a _ e=>g b o a e;show wpAny _ A.in1 (Xe S (λ_=>#[v,v])>>=_) _ _ _;refine NG ?_;refine RY q rfl ?_;rw[f];refine NO ⟨Qg PX _,xa W r G S i B p _ 0 _ v _ rfl J (W.frame _ _ _ l λb x o e=>?_) (B _ _ u λb o _ d e=>(Oa _ _ (OX d)).trans e) hP (OF _ q rfl) λL C k z m=>?_⟩;.exact(Oa _ _ (λh:S=b=>i (by rw[h];exact x))).trans e
 .exact N L C k z λb o a d e=>m b o a d ((Oa _ _ (OX d)).trans (g b o a e))
theorem td{E:NJ->NL->Prop}{s:NL}{a b:NJ}{Q:NJ->NL->Prop}(h:wpAny (N2 prog w) A.in1 (US (.ref s.heap.objs.size)) (λit c=>∃I fp wr n P St i,it=.ref I/\Xj prog w A.in1 I fp wr n P St/\St 0 c.heap/\(∀b∈fp,b<c.heap.objs.size)/\0<n/\(∀b o,s.heap.get? b=NF o->c.heap.get? b=NF o)/\(∀b∈wr,s.heap.objs.size<=b)/\s.heap.objs.size<=c.heap.objs.size/\(∀(j:Nat)B y(s':NL)(Q:NJ->NL->Prop)(E:NJ->NL->Prop),j+1<n->(∀b o,s.heap.get? b=NF o->s'.heap.get? b=NF o)->P (j+1) B->P (OT i j) y->Q (.bool (i (j+1) (OT i j))) s'->wpAny (N2 prog w) A.in1 (Qs .Gt B y) Q E s')/\∀v h' p,P (OT i (n-1)) v->(∀b o,s.heap.get? b=NF o->h'.get? b=NF o)->Q v {c with heap:=h',toks:=p}) E {s with heap:=s.heap.push {cls:=.type "tuple",data:=.seq #[a,b]}}):wpAny (N2 prog w) A (call (.builtin "max") [a,b]) Q E s:=by
 have f:(toString "max"++toString ".loop":String)="max.loop":=by decide
 refine Uz PySem.F.kind_max PySem.F.plain_max PySem.F.entry_max (PySem.F.args_max2 _ _) ?_;show wpAny _ A.in1 (PL "max" ["key","default"] 0 ⟨[],[]⟩>>=_) _ _ s;refine NG (RH (show PL "max" ["key","default"] 0 ⟨[],[]⟩=pure [NN,NN]from rfl) ?_);show wpAny _ A.in1 (Xy [a,b]>>=_) _ _ s;refine NG (ON ?_);refine NG (O3 h (λit c d=>?_) λ_ _ e=>e);obtain⟨I,fp,wr,n,P,St,i,rfl,W,t,u,D,l,q,r,m,J⟩:=d;refine NG (ON ?_);have x:c.heap.objs.size∉fp:=λG=>OD _ (u _ G);have lt:∀b o,s.heap.get? b=NF o->b∉wr/\b≠c.heap.objs.size:=λb o e=>⟨λhb=>absurd (N1 e) (Nat.not_lt.mpr (q b hb)),λz=>absurd (N1 e) (Nat.not_lt.mpr (by rw[z];exact r))⟩;rw[f];refine NO ⟨Qg PX _,s_ W i (λh'=>∀b o,s.heap.get? b=NF o->h'.get? b=NF o) c.heap.objs.size x (λC d g k b o e=>k b o (lt b o e).1 (lt b o e).2 (g b o e)) m D (W.frame _ _ _ t λb _ o e=>NQ _ e) (λb o e=>NQ _ (l b o e)) (N4 _ rfl) λv h' p hP H=>?_⟩;exact J v h' p hP λb o e=>H b o (lt b o e).1 (lt b o e).2 (NQ _ (l b o e))
theorem xb(W:Xj prog w A.in1 I fp wr n P St)(B:Nat->Nat->Bool)(G:Oy->Prop)(S:NR)(H:S∉fp)(X:∀h h',G h->(∀b o,b∉wr->b≠S->h.get? b=NF o->h'.get? b=NF o)->G h')(D:∀(j:Nat)T O(s:NL)(Q:NJ->NL->Prop)(E:NJ->NL->Prop),j+1<n->G s.heap->P (j+1) T->P (OT B j) O->Q (.bool (B (j+1) (OT B j))) s->wpAny (N2 prog w) A.in1 (Qs .Lt T O) Q E s):∀(k j:Nat)(s:NL)(p:NJ)(c:Nat),n-(j+1)=k->j+1<=n->St (j+1) s.heap->G s.heap->P (OT B j) p->s.heap.get? S=NF {cls:=.type "list",dict:=NN,data:=.seq #[p,p] c,slots:=#[]}->(∀v h' K,P (OT B (n-1)) v->(∀b o,b∉wr->b≠S->s.heap.get? b=NF o->h'.get? b=NF o)->R (.ok (.ret v)) {s with heap:=h',toks:=K})->codeAny (N2 prog w) A (.builtin "min.loop" ⟨[.ref I,.none,.ref S],[]⟩) R s:=by
 have F:S∉wr:=λh=>H (W.sub _ h);have i:(toString "min"++toString ".loop":String)="min.loop":=by decide
 intro k;induction k with
 |zero=>
  intro j s p c Y Z u V r J L;have C:j+1=n:=by omega
  refine Pp Tj ?_;rw[O4 Px _];show wpAny _ A.in1 (Ug (.ref S)>>=_) _ _ s;refine NG (Ql J rfl ?_);show wpAny _ A.in1 (tryCatch (Rt (.ref I)) _>>=_) _ _ s;refine NG (QR (W.done s _ _ (C▸u) λh' K f=>?_));have m:=f S _ F J;show wpAny _ A.in1 (Xe S (λ_=>#[])>>=_) _ _ _;refine NG ?_;refine RY m rfl (NG (Sf (NO ?_)));refine L p _ K (by rw[<-C];exact r) λb o a d e=>(Oa _ _ (OX d)).trans (f b o a e)|succ k U=>
  intro j s p c Y Z u V r J L;have q:j+1<n:=by omega
  refine Pp Tj ?_;rw[O4 Px _];show wpAny _ A.in1 (Ug (.ref S)>>=_) _ _ s;refine NG (Ql J rfl ?_);show wpAny _ A.in1 (tryCatch (Rt (.ref I)) _>>=_) _ _ s;refine NG (QR (W.item (j+1) s _ _ q u λv h' K hP t f=>?_));have m:=f S _ F J;have x:G h':=X _ _ V λb o a _ e=>f b o a e;show wpAny _ A.in1 (tryCatch (TB [v,v] (Qs .Lt v p>>=_)) _>>=_) _ _ _;refine NG (QR (OE (NG (D j v p _ _ _ q x hP r ?_))));refine NG (OE (QV ?_));refine NG (Sf (NO ?_));cases hb:B (j+1) (OT B j)with
  |true=>
   simp only[if_true];refine NG ?_;refine RY m rfl (NG (Sf ?_));rw[i];refine NO ⟨Qg Px _,U (j+1) _ v _ (by omega) q (W.frame _ _ _ t λb N o e=>?_) (X _ _ x λb o _ d e=>(Oa _ _ (OX d)).trans e) (by simp only[OT,hb,if_true];exact hP) (OF _ m rfl) λM z g y l=>?_⟩;.exact(Oa _ _ (λh:S=b=>H (by rw[h];exact N))).trans e
   .exact L M z g y λb o a d e=>l b o a d ((Oa _ _ (OX d)).trans (f b o a e))|false=>
   simp only[Oh,if_false];refine NG (Sf ?_);rw[i];refine NO ⟨Qg Px _,U (j+1) _ p c (by omega) q t x (by simp only[OT,hb,Oh,if_false];exact r) m λM z g y l=>?_⟩;exact L M z g y λb o a d e=>l b o a d (f b o a e)
theorem lP(W:Xj prog w A.in1 I fp wr n P St)(r:Nat->Nat->Bool)(G:Oy->Prop)(S:NR)(i:S∉fp)(B:∀h h',G h->(∀b o,b∉wr->b≠S->h.get? b=NF o->h'.get? b=NF o)->G h')(p:∀(j:Nat)F D(s:NL)(Q:NJ->NL->Prop)(E:NJ->NL->Prop),j+1<n->G s.heap->P (j+1) F->P (OT r j) D->Q (.bool (r (j+1) (OT r j))) s->wpAny (N2 prog w) A.in1 (Qs .Lt F D) Q E s)(J:0<n){s:NL}{c:Nat}(t:St 0 s.heap)(M:G s.heap)(K:s.heap.get? S=NF {cls:=.type "list",dict:=NN,data:=.seq #[] c,slots:=#[]})(N:∀v h' H,P (OT r (n-1)) v->(∀b o,b∉wr->b≠S->s.heap.get? b=NF o->h'.get? b=NF o)->R (.ok (.ret v)) {s with heap:=h',toks:=H}):codeAny (N2 prog w) A (.builtin "min.loop" ⟨[.ref I,.none,.ref S],[]⟩) R s:=by
 have y:S∉wr:=λh=>i (W.sub _ h);have f:(toString "min"++toString ".loop":String)="min.loop":=by decide
 refine Pp Tj ?_;rw[O4 Px _];show wpAny _ A.in1 (Ug (.ref S)>>=_) _ _ s;refine NG (Ql K rfl ?_);show wpAny _ A.in1 (tryCatch (Rt (.ref I)) _>>=_) _ _ s;refine NG (QR (W.item 0 s _ _ J t λv h' H hP l g=>?_));have q:=g S _ y K;have u:G h':=B _ _ M λb o a _ e=>g b o a e;show wpAny _ A.in1 (Xe S (λ_=>#[v,v])>>=_) _ _ _;refine NG ?_;refine RY q rfl ?_;rw[f];refine NO ⟨Qg Px _,xb W r G S i B p _ 0 _ v _ rfl J (W.frame _ _ _ l λb x o e=>?_) (B _ _ u λb o _ d e=>(Oa _ _ (OX d)).trans e) hP (OF _ q rfl) λL C k z m=>?_⟩;.exact(Oa _ _ (λh:S=b=>i (by rw[h];exact x))).trans e
 .exact N L C k z λb o a d e=>m b o a d ((Oa _ _ (OX d)).trans (g b o a e))
theorem tm{E:NJ->NL->Prop}{s:NL}{x:NJ}{Q:NJ->NL->Prop}(h:wpAny (N2 prog w) A.in1 (US x) (λit a=>∃I fp wr n P St f,it=.ref I/\Xj prog w A.in1 I fp wr n P St/\St 0 a.heap/\(∀b∈fp,b<a.heap.objs.size)/\0<n/\(∀b o,s.heap.get? b=NF o->a.heap.get? b=NF o)/\(∀b∈wr,s.heap.objs.size<=b)/\s.heap.objs.size<=a.heap.objs.size/\(∀(j:Nat)B y(s':NL)(Q:NJ->NL->Prop)(E:NJ->NL->Prop),j+1<n->(∀b o,s.heap.get? b=NF o->s'.heap.get? b=NF o)->P (j+1) B->P (OT f j) y->Q (.bool (f (j+1) (OT f j))) s'->wpAny (N2 prog w) A.in1 (Qs .Lt B y) Q E s')/\∀v h' m,P (OT f (n-1)) v->(∀b o,s.heap.get? b=NF o->h'.get? b=NF o)->Q v {a with heap:=h',toks:=m}) E s):wpAny (N2 prog w) A (call (.builtin "min") [x]) Q E s:=by
 have d:(toString "min"++toString ".loop":String)="min.loop":=by decide
 refine Uz PySem.F.kind_min W6 W7 (PySem.F.args_min1 _) ?_;show wpAny _ A.in1 (PL "min" ["key","default"] 0 ⟨[],[]⟩>>=_) _ _ s;refine NG (RH (show PL "min" ["key","default"] 0 ⟨[],[]⟩=pure [NN,NN]from rfl) ?_);refine NG (NO ?_);refine NG (O3 h (λit a c=>?_) λ_ _ e=>e);obtain⟨I,fp,wr,n,P,St,f,rfl,W,r,t,D,i,p,q,l,J⟩:=c;refine NG (ON ?_);have u:a.heap.objs.size∉fp:=λG=>OD _ (t _ G);have lt:∀b o,s.heap.get? b=NF o->b∉wr/\b≠a.heap.objs.size:=λb o e=>⟨λhb=>absurd (N1 e) (Nat.not_lt.mpr (p b hb)),λz=>absurd (N1 e) (Nat.not_lt.mpr (by rw[z];exact q))⟩;rw[d];refine NO ⟨Qg Px _,lP W f (λh'=>∀b o,s.heap.get? b=NF o->h'.get? b=NF o) a.heap.objs.size u (λC c g k b o e=>k b o (lt b o e).1 (lt b o e).2 (g b o e)) l D (W.frame _ _ _ r λb _ o e=>NQ _ e) (λb o e=>NQ _ (i b o e)) (N4 _ rfl) λv h' m hP H=>?_⟩;exact J v h' m hP λb o e=>H b o (lt b o e).1 (lt b o e).2 (NQ _ (i b o e))
theorem tq{E:NJ->NL->Prop}{s:NL}{a b:NJ}{Q:NJ->NL->Prop}(h:wpAny (N2 prog w) A.in1 (US (.ref s.heap.objs.size)) (λit c=>∃I fp wr n P St i,it=.ref I/\Xj prog w A.in1 I fp wr n P St/\St 0 c.heap/\(∀b∈fp,b<c.heap.objs.size)/\0<n/\(∀b o,s.heap.get? b=NF o->c.heap.get? b=NF o)/\(∀b∈wr,s.heap.objs.size<=b)/\s.heap.objs.size<=c.heap.objs.size/\(∀(j:Nat)B y(s':NL)(Q:NJ->NL->Prop)(E:NJ->NL->Prop),j+1<n->(∀b o,s.heap.get? b=NF o->s'.heap.get? b=NF o)->P (j+1) B->P (OT i j) y->Q (.bool (i (j+1) (OT i j))) s'->wpAny (N2 prog w) A.in1 (Qs .Lt B y) Q E s')/\∀v h' p,P (OT i (n-1)) v->(∀b o,s.heap.get? b=NF o->h'.get? b=NF o)->Q v {c with heap:=h',toks:=p}) E {s with heap:=s.heap.push {cls:=.type "tuple",data:=.seq #[a,b]}}):wpAny (N2 prog w) A (call (.builtin "min") [a,b]) Q E s:=by
 have f:(toString "min"++toString ".loop":String)="min.loop":=by decide
 refine Uz PySem.F.kind_min W6 W7 (PySem.F.args_min2 _ _) ?_;show wpAny _ A.in1 (PL "min" ["key","default"] 0 ⟨[],[]⟩>>=_) _ _ s;refine NG (RH (show PL "min" ["key","default"] 0 ⟨[],[]⟩=pure [NN,NN]from rfl) ?_);show wpAny _ A.in1 (Xy [a,b]>>=_) _ _ s;refine NG (ON ?_);refine NG (O3 h (λit c d=>?_) λ_ _ e=>e);obtain⟨I,fp,wr,n,P,St,i,rfl,W,t,u,D,l,q,r,m,J⟩:=d;refine NG (ON ?_);have x:c.heap.objs.size∉fp:=λG=>OD _ (u _ G);have lt:∀b o,s.heap.get? b=NF o->b∉wr/\b≠c.heap.objs.size:=λb o e=>⟨λhb=>absurd (N1 e) (Nat.not_lt.mpr (q b hb)),λz=>absurd (N1 e) (Nat.not_lt.mpr (by rw[z];exact r))⟩;rw[f];refine NO ⟨Qg Px _,lP W i (λh'=>∀b o,s.heap.get? b=NF o->h'.get? b=NF o) c.heap.objs.size x (λC d g k b o e=>k b o (lt b o e).1 (lt b o e).2 (g b o e)) m D (W.frame _ _ _ t λb _ o e=>NQ _ e) (λb o e=>NQ _ (l b o e)) (N4 _ rfl) λv h' p hP H=>?_⟩;exact J v h' p hP λb o e=>H b o (lt b o e).1 (lt b o e).2 (NQ _ (l b o e))
end
mutual
theorem aG.keeps{h h':Oy}(k:∀b o,h.get? b=NF o->h'.get? b=NF o):∀{d:D}{u:NJ},aG h u d->aG h' u d
 |.aU,_,q=>by simp only[aG]at q⊢;exact q|.bl _,_,q=>by simp only[aG]at q⊢;exact q|.int _,_,q=>by simp only[aG]at q⊢;exact q|.str _,_,q=>by simp only[aG]at q⊢;exact q|.tup _,_,q=>by
  simp only[aG]at q⊢;obtain⟨a,c,i,g,f⟩:=q;exact⟨a,c,i,g.at λo e=>k a o e,aI.keeps k f⟩|.lst _,_,q=>by
  simp only[aG]at q⊢;obtain⟨a,c,i,g,f⟩:=q;exact⟨a,c,i,g.at λo e=>k a o e,aI.keeps k f⟩|.aH _ _,_,q=>by simp only[aG]at q⊢;exact q|.exc _ _,_,q=>by simp only[aG]at q⊢;exact q|.aA _,_,q=>by simp only[aG]at q⊢;exact q
theorem aI.keeps{h h':Oy}(k:∀b o,h.get? b=NF o->h'.get? b=NF o):∀{ds:List D}{us:List NJ},aI h us ds->aI h' us ds
 |[],_,q=>by simp only[aI]at q⊢;exact q|d::ds,_,q=>by
  simp only[aI]at q⊢;obtain⟨u,r,e,c,a⟩:=q;exact⟨u,r,e,aG.keeps k c,aI.keeps k a⟩
end
noncomputable def ny(op:RR):D->List D->Option D
 |b,[]=>NF b|b,d::r=>match gX op aJ d b with
  |some NM=>ny op d r|some NP=>ny op b r|none=>NN
noncomputable def j7(op:RR)(ds:List D)(i j:Nat):Bool:=match ds[i]?,ds[j]? with
 |some x,NF y=>gX op aJ x y==NF NM|_,_=>NP
theorem qR{op:RR}{ds:List D}{x:D}:∀(r:List D)(k:Nat)(b:D),ds.drop (k+1)=r->ds[OT (j7 op ds) k]?=NF b->ny op b r=NF x->(∀j,k<=j->j+1<ds.length->∃y z,ds[j+1]?=NF y/\ds[OT (j7 op ds) j]?=NF z/\gX op aJ y z=NF (j7 op ds (j+1) (OT (j7 op ds) j)))/\(k<ds.length->ds[OT (j7 op ds) (ds.length-1)]?=NF x)
 |[],k,b,hd,hb,q=>by
  have u:ds.length<=k+1:=by
   have:=congrArg Qc hd;simp at this;omega+splitNatSub
  refine⟨λj i g=>by omega+splitNatSub,λv=>?_⟩;have:ds.length-1=k:=by omega+splitNatSub
  rw[this,hb];exact q|d::r,k,b,hd,hb,q=>by
  have a:k+1<ds.length:=by
   have:=congrArg Qc hd;simp at this;omega+splitNatSub
  have e:ds[k+1]?=NF d:=by
   have:=Rk a;rw[hd]at this;injection this with i g;rw[Oc a,i]
  have p:ds.drop (k+1+1)=r:=by
   have:=Rk a;rw[hd]at this;injection this with i g;exact g.symm
  unfold ny at q;cases h:gX op aJ d b with
  |none=>rw[h]at q;cases q|some c=>
   have gen:∀m,ds[m]?=NF b->j7 op ds (k+1) m=c:=λm s=>by
    unfold j7;rw[e,s];simp only[h];cases c<;>rfl
   have f:j7 op ds (k+1) (OT (j7 op ds) k)=c:=gen _ hb;have step:ds[OT (j7 op ds) (k+1)]?=NF (if c then d else b):=by
    simp only[OT,f];cases c;.exact hb
    .exact e
   have l:ny op (if c then d else b) r=NF x:=by
    rw[h]at q;cases c<;>exact q
   obtain⟨o,n⟩:=qR r (k+1) _ p step l;refine⟨λj i g=>?_,λ_=>n a⟩;by_cases t:j=k
   .subst t;exact⟨d,b,e,hb,by rw[h,f]⟩
   .exact o j (by omega+splitNatSub) g
noncomputable def bestOf(op:RR):List D->Option D
 |d::r=>ny op d r|[]=>NN
theorem dG{op:RR}{ds:List D}{x:D}(h:bestOf op ds=NF x):0<ds.length/\(∀j,j+1<ds.length->∃y z,ds[j+1]?=NF y/\ds[OT (j7 op ds) j]?=NF z/\gX op aJ y z=NF (j7 op ds (j+1) (OT (j7 op ds) j)))/\ds[OT (j7 op ds) (ds.length-1)]?=NF x:=by cases ds with
 |nil=>cases h|cons d r=>
  obtain⟨b,a⟩:=qR (ds:=d::r) r 0 d rfl rfl h;exact⟨by simp,λj c=>b j (OB _) c,a (by simp)⟩
noncomputable def Gb(op:RR):D->M D
 |.lst a=>M.get (bestOf op a)|_=>M.fail
noncomputable def Jv(op:RR):List D->M D
 |[d]=>Gb op d|[d,e]=>M.get (bestOf op [d,e])|_=>M.fail
theorem kq{h:Oy}{us:List NJ}{ds:List D}{i:Nat}{u:NJ}{d:D}(q:aI h us ds)(e:us[i]?=NF u)(c:ds[i]?=NF d):aG h u d:=by
 obtain⟨f,a,b⟩:=q.get e;rw[c]at a;cases a;exact b
section
variable{X:Cx}{F:Fx}
noncomputable def Nj:List D->M D
 |[d,e]=>M.get (bestOf .Gt [d,e])|_=>M.fail
theorem Gc(hc:X.calm=NM)(hu:X.A.units+64<Pj):aX X F (.builtin "max") Nj where
 call:=λr s σ H k xs us ds Q I m l hK n f=>by
  have hh:X.A.in1.handled=NN:=I.ok.hd hc;have cmp:∀{its:Array NJ}{es:List D}{x:D},aI s.heap its.toList es->bestOf .Gt es=NF x->∀(j:Nat)L K(C:NL)(Q:NJ->NL->Prop)(E:NJ->NL->Prop),j+1<its.size->(∀b o,s.heap.get? b=NF o->C.heap.get? b=NF o)->its[j+1]?=NF L->its[OT (j7 .Gt es) j]?=NF K->Q (.bool (j7 .Gt es (j+1) (OT (j7 .Gt es) j))) C->wpAny (N2 X.prog X.w) X.A.in1 (Qs .Gt L K) Q E C:=λ{its es x}N hb j L K C Q E hj kp W U q=>by
   have P:=N.length;obtain⟨_,h2,_⟩:=dG hb;obtain⟨y,z,e1,e2,e3⟩:=h2 j (by rw[<-P];simpa using hj);rw[<-OR]at W U;exact yG aJ (A:=X.A.in1) (kq (N.keeps kp) W e1) (kq (N.keeps kp) U e2) (by show X.A.units+1+aJ<Pj;unfold aJ;omega) e3 X.prog X.w E Q q
  have S:∀{J:List V}{its:Array NJ}{es:List D}{x:D}{v:NJ}{G:Oy}{B:Nat},aq J its.toList->ae F.toFb H J es->bestOf .Gt es=NF x->its[OT (j7 .Gt es) (its.size-1)]?=NF v->(∀b o,s.heap.get? b=NF o->G.get? b=NF o)->qE F.toFb H k Q x k->EP X r σ Q v {s with heap:=G,toks:=B}:=λ{J its es x v G B}m n hb p kp q=>by
   obtain⟨_,_,h3⟩:=dG hb;have P:=n.length;have O:=m.length;have e:its.size-1=es.length-1:=by rw[<-P,O];simp
   rw[e,<-OR]at p;obtain⟨y,hy,iy⟩:=n.get h3;obtain⟨u,t,ru⟩:=m.get hy;rw[p]at t;cases t;exact⟨y,H,I.kept (t':=B) kp,ru,q y H .refl iy⟩
  match ds,f with
  |[d,e],f=>
   obtain⟨x,hb,q⟩:=M.run_get.mp f;obtain⟨v1,v2,rfl,i1,i2⟩:=n.two;obtain⟨i,h,rfl,r1,r2⟩:=vals2 m;have Z:(s.heap.push {cls:=.type "tuple",data:=.seq #[i,h]}).IsTuple s.heap.objs.size #[i,h]:=⟨_,N4 _ rfl,rfl,0,rfl⟩;have a:(s.heap.push {cls:=.type "tuple",data:=.seq #[i,h]}).objs.size=s.heap.objs.size+1:=OS ..;refine td (Ux Z ?_);refine⟨_,[_,s.heap.objs.size],[_],_,_,_,j7 .Gt [d,e],rfl,Walks.tuple (A:=X.A.in1) hh _ s.heap.objs.size (by rw[a];exact Oj (OY _)) #[i,h],⟨⟨_,N4 _ rfl,rfl,rfl⟩,Z.push _⟩,λc g=>?_,by simp,λb o e=>NQ _ (NQ _ e),λb R=>?_,by rw[OS,a];exact UQ (QQ _),cmp (its:=#[i,h]) (es:=[d,e]) (fX I hK m n) hb,λv G B pv kp=>S (its:=#[i,h]) m n hb pv kp q⟩
   .rw[OS,a];rcases List.mem_cons.mp g with rfl|g;.rw[a];exact OY _
    .rw[List.mem_singleton.mp g];exact Pu (OY _)
   .rw[List.mem_singleton.mp R,a];exact QQ _|[],f=>exact f.elim|[_],f=>exact f.elim|_::_::_::_,f=>exact f.elim
theorem Gd(hc:X.calm=NM)(hu:X.A.units+64<Pj):aX X F (.builtin "min") (Jv .Lt)where
 call:=λL s σ H k xs us ds Q I n l hK r f=>by
  have hh:X.A.in1.handled=NN:=I.ok.hd hc;have cmp:∀{its:Array NJ}{es:List D}{x:D},aI s.heap its.toList es->bestOf .Lt es=NF x->∀(j:Nat)T S(R:NL)(Q:NJ->NL->Prop)(E:NJ->NL->Prop),j+1<its.size->(∀b o,s.heap.get? b=NF o->R.heap.get? b=NF o)->its[j+1]?=NF T->its[OT (j7 .Lt es) j]?=NF S->Q (.bool (j7 .Lt es (j+1) (OT (j7 .Lt es) j))) R->wpAny (N2 X.prog X.w) X.A.in1 (Qs .Lt T S) Q E R:=λ{its es x}U hb j T S R Q E hj kp p1 p2 q=>by
   have Y:=U.length;obtain⟨_,h2,_⟩:=dG hb;obtain⟨y,z,e1,e2,e3⟩:=h2 j (by rw[<-Y];simpa using hj);rw[<-OR]at p1 p2;exact yF aJ (A:=X.A.in1) (kq (U.keeps kp) p1 e1) (kq (U.keeps kp) p2 e2) (by show X.A.units+1+aJ<Pj;unfold aJ;omega) e3 X.prog X.w E Q q
  have P:∀{G:List V}{its:Array NJ}{es:List D}{x:D}{v:NJ}{O:Oy}{J:Nat},aq G its.toList->ae F.toFb H G es->bestOf .Lt es=NF x->its[OT (j7 .Lt es) (its.size-1)]?=NF v->(∀b o,s.heap.get? b=NF o->O.get? b=NF o)->qE F.toFb H k Q x k->EP X L σ Q v {s with heap:=O,toks:=J}:=λ{G its es x v O J}n r hb p kp q=>by
   obtain⟨_,_,h3⟩:=dG hb;have Y:=r.length;have W:=n.length;have e:its.size-1=es.length-1:=by rw[<-Y,W];simp
   rw[e,<-OR]at p;obtain⟨y,hy,iy⟩:=r.get h3;obtain⟨u,N,ru⟩:=n.get hy;rw[p]at N;cases N;exact⟨y,H,I.kept (t':=J) kp,ru,q y H .refl iy⟩
  match ds,f with
  |[.lst es],f=>
   obtain⟨x,hb,q⟩:=M.run_get.mp f;obtain⟨v,rfl,i⟩:=r.one;obtain⟨u,rfl,rx⟩:=vals1 n;simp only[Is]at i;obtain⟨a,G,rfl,h3,Z⟩:=i;cases(show u=Of a from rx);obtain⟨its,m,p,hz⟩:=I.list (show dy X.K H a G by rw[hK];exact h3.2.sq);have lt:a<s.heap.objs.size:=p.lt;refine tm (Tc p.isList ?_);have hn:0<its.toArray.size:=by
    have:=(dG hb).1;rw[N5,<-m.length,Z.length];exact this
   refine⟨_,[_,a],[_],_,_,_,j7 .Lt es,rfl,Walks.list (A:=X.A.in1) hh _ a (Oj lt) its.toArray,⟨⟨_,N4 _ rfl,rfl,rfl⟩,p.isList.push _⟩,λc g=>?_,hn,λb o e=>NQ _ e,λb t=>?_,by rw[OS];exact QQ _,cmp (by simpa using fX I hK m Z) hb,λv O J pv kp=>P (by simpa using m) Z hb pv kp q⟩
   .rw[OS];rcases List.mem_cons.mp g with rfl|g;.exact OY _
    .rw[List.mem_singleton.mp g];exact Pu lt
   .rw[List.mem_singleton.mp t];exact NZ _|[d,e],f=>
   obtain⟨x,hb,q⟩:=M.run_get.mp f;obtain⟨v1,v2,rfl,i1,i2⟩:=r.two;obtain⟨C,B,rfl,r1,r2⟩:=vals2 n;have hT:(s.heap.push {cls:=.type "tuple",data:=.seq #[C,B]}).IsTuple s.heap.objs.size #[C,B]:=⟨_,N4 _ rfl,rfl,0,rfl⟩;have h:(s.heap.push {cls:=.type "tuple",data:=.seq #[C,B]}).objs.size=s.heap.objs.size+1:=OS ..;refine tq (Ux hT ?_);refine⟨_,[_,s.heap.objs.size],[_],_,_,_,j7 .Lt [d,e],rfl,Walks.tuple (A:=X.A.in1) hh _ s.heap.objs.size (by rw[h];exact Oj (OY _)) #[C,B],⟨⟨_,N4 _ rfl,rfl,rfl⟩,hT.push _⟩,λc g=>?_,by simp,λb o e=>NQ _ (NQ _ e),λb t=>?_,by rw[OS,h];exact UQ (QQ _),cmp (its:=#[C,B]) (es:=[d,e]) (fX I hK n r) hb,λv O J pv kp=>P (its:=#[C,B]) n r hb pv kp q⟩
   .rw[OS,h];rcases List.mem_cons.mp g with rfl|g;.rw[h];exact OY _
    .rw[List.mem_singleton.mp g];exact Pu (OY _)
   .rw[List.mem_singleton.mp t,h];exact QQ _|[],f=>exact f.elim|[.aU],f=>exact f.elim|[.tup _],f=>exact f.elim|[.bl _],f=>exact f.elim|[.int _],f=>exact f.elim|[.str _],f=>exact f.elim|[.aH _ _],f=>exact f.elim|[.exc _ _],f=>exact f.elim|[.aA _],f=>exact f.elim|_::_::_::_,f=>exact f.elim
end
noncomputable def nA{c:Type}(g:D->af->M af)(f:af->M Bool)(h:c->af->M (c×af)):c->List D->af->M (c×af)
 |acc,[],e=>pure (acc,e)|acc,d::i,e=>do
  let a<-g d e;let b<-f a;if b then do
   let r<-h acc a;nA g f h r.1 i r.2;else nA g f h acc i a
noncomputable def Dz(F:Fx){g e:Type}(So:Hp->g->e->Prop)(o:e->af->M (e×af))(rd:RB g):Prop:=∀(j:St)(l:af)(H:Hp)(k:Nat)(a:g)(f:e)(Q:e×af->Nat->Prop)(n:g->St->Hp->Prop),bX F l k j H->So H a f->(o f l).run k Q F.E->(∀m b d c h i,Ext F.toFb H k h i->bX F d i c h->So h m b->Q (b,d) i->n m c h)->rd j H a n
section
variable{F:Fx}{α β:Type}{So:Hp->α->β->Prop}{g g2:D->af->M af}{tc tc2:af->M Bool}{em:β->af->M (β×af)}{rd:RB α}{tI2:af->M (List D)}
theorem Jw(mono:∀{H H':Hp}{k p:Nat}{a:α}{r:β},So H a r->Kp F.toFb H k H' p->So H' a r)(Z:Dz F So em rd){σ:St}{ρ:af}{u:Hp}{k1:Nat}{J:It}{ds:List D}{a0:α}{t:β}{Q:β×af->Nat->Prop}{P:α->St->Hp->Prop}(it:sI F.toFb J ds u k1)(S:bX F ρ k1 σ u)(i0:So u a0 t)(h:(nA g tc em t ds ρ).run k1 Q F.E)(q:∀a xs ρ' o H' p,Ext F.toFb u k1 H' p->bX F ρ' p o H'->So H' a xs->Q (xs,ρ') p->P a o H'):ug J (IX F g) (p_ F tc) rd σ u a0 P:=by
 refine⟨λi m a n l=>m=ds.length-i/\i<=ds.length/\∃c f as,bX F c f n l/\Ext F.toFb u k1 l f/\So l a as/\(nA g tc em as (ds.drop i) c).run f Q F.E,⟨ds.length,rfl,OB _,ρ,k1,t,S,.refl,i0,h⟩,?_⟩;rintro i m a n l⟨rfl,Y,c,f,as,B,w,I,A⟩;by_cases s:i<ds.length
 .obtain⟨d,hd,K⟩:=n8 s;rw[K]at A;obtain⟨go,T⟩:=it.step i d l f hd w.kp B.live;refine .inr ⟨go,λx H3 y=>?_⟩;obtain⟨N,X⟩:=T x H3 y;refine⟨c,f,d,B.mono N,X,M.wk A λv k4 V C H4 e4 S4=>?_⟩;refine p_.next S4 V λb G R e5 O L=>?_;have j:Ext F.toFb l f R G:=(N.trans e4).trans e5;cases b with
  |false=>exact⟨ds.length-(i+1),by omega,rfl,s,v,G,as,O,w.trans j,mono I j.kp,L⟩|true=>
   rw[if_pos rfl];exact Z C v R G a as _ _ O (mono I j.kp) L λa' z ρ' o H' p e6 S6 W U=>⟨ds.length-(i+1),by omega,rfl,s,ρ',p,z,S6,w.trans (j.trans e6),W,U⟩
 .have e:i=ds.length:=by omega
  subst e;rw[U9]at A;exact .inl ⟨it.stop l f w.kp B.live,q a as c n l f w B I A⟩
end
noncomputable def iY:OW:={cls:=.type "dict",dict:=NN,data:=.dict #[]}
noncomputable def K_(a ob:OW):Prop:=a=ob/\∀v,ob.data≠.cell v
noncomputable def tu(F:Fx)(j i:TE):RB OW:=λc H a Q=>j c H λx k=>i c k λy b=>∃d e ks h f,bq F.toFb b a ks f/\ae F.toFb b f h/\kinds ks d/\ks.length<NW/\Is F.toFb b x d/\Is F.toFb b y e/\∀g,qv F b ks h d e g->Q g c b
noncomputable def nB(k v:Ob)(D:NR)(env:Uc):UG Unit:=do
 let a<-Qa k env;let b<-TB [a] (Qa v env)SR {k.pos with endLine:=v.pos.endLine,endCol:=v.pos.endCol}TB [a,b] (dictSet D a b)
theorem qS{Y:Cx}{F:Fx}{D:NR}{k v:Ob}{f j:TE}(o:HE Y D)(hu:Y.A.units+2<Pj)(hK:Y.K=F.K)(hP:Y.prog=F.P)(hw:Y.w=F.w)(E:PE Y k f)(B:PE Y v j):Body Y K_ D (nB k v D Y.env) (tu F f j):=by
 intro l s c H L ob Q I h aD q;unfold nB;refine NG (bo (E _ s c H _ I q) λU m a=>?_);obtain⟨x,O,M,rx,p⟩:=a;refine NG (OE (bo (B _ m c O _ M p) λR T a=>?_));obtain⟨y,N,i,ry,d,e,ks,W,S,J,u,r,z,ix,t,n⟩:=a;refine NG (Qe (OE ?_));obtain⟨rfl,C⟩:=aD;have eD:=(i.pin _ (Oe _ NV)).1;refine uU (F:=F) (by omega) i hK hP hw J eD u ix rx t ry r z λV g f sb G po=>?_;exact⟨g,g,c,N,i.Di o.young o.cells h (λb ob hb e=>(sb.2 b hb).trans e) G po.2,⟨rfl,po.2⟩,n g po⟩
noncomputable def oD(a:OW):HO:=.bP a (.ext λ_=>True)
theorem vd{P:N7}{w:Oq}(a ob:OW)(H:Hp)(h:Oy)(D:NR)(ok:K_ a ob)(e:h.get? D=NF ob)(_:iq P w H h):be P w (upd H D (oD a)) h D (oD a):=by
 obtain⟨rfl,_⟩:=ok;exact⟨e,trivial,⟨_,e⟩,λ_ _ _ _=>trivial⟩
theorem qU{prog:N7}{w:Oq}{A:Ov}{E:NJ->NL->Prop}{s:NL}{Q:NJ->NL->Prop}(h:Q (.ref s.heap.objs.size) {s with heap:=s.heap.push iY}):wpAny (N2 prog w) A newDict Q E s:=ON h
theorem tw{B:Fb}{H:Hp}:bq B H iY [] []:=⟨OB _,.inl ⟨[],[],.nil,⟨#[],0,⟨rfl,rfl,rfl⟩,rfl,λe a=>by simp at a,.nil,.nil⟩,rfl,rfl⟩⟩
noncomputable def HM(F:Fx)(H:Hp)(a:OW)(b:List D×List D):Prop:=∃c,bq F.toFb H a b.1 c/\ae F.toFb H c b.2
theorem HM.mono{F:Fx}{H H':Hp}{k c:Nat}{a:OW}{r:List D×List D}(h:HM F H a r)(e:Kp F.toFb H k H' c):HM F H' a r:=let⟨b,f,d⟩:=h;⟨b,f.mono e,d.mono e⟩
noncomputable def ze(c b:af->M D)(a:List D×List D)(ρ:af):M ((List D×List D)×af):=do
 let x<-c ρ;let y<-b ρ;M.need (kinds a.1 x/\a.1.length<NW)pure (putD a.1 a.2 x y,ρ)
theorem B5{F:Fx}{f e:af->M D}:Dz F (HM F) (ze f e) (tu F (eO F f) (eO F e)):=by
 intro i j H k a b Q G S so h q;refine eO.next S h λx E C I g z p t=>?_;refine eO.next z t λy n B A d w o c=>?_;obtain⟨⟨s,r⟩,c⟩:=c;obtain⟨l,v,u⟩:=so.mono (g.trans d).kp;exact⟨x,y,b.1,b.2,l,v,u,s,r,p.mono d.kp,o,λm po=>q m _ j i A n (g.trans d) w po.1 c⟩
theorem tz{F:Fx}{H:Hp}{k:Nat}{p:NR}{a:OW}{b:List D×List D}(f:H F.p≠NN)(c:H p=NN)(e:(p==Qi)=NP)(so:HM F H a b):Is F.toFb (upd H p (oD a)) (.ref p) (.aH b.1 b.2):=by
 obtain⟨d,h,g⟩:=so.mono (Ext.new (F:=F.toFb) (o:=oD a) (k:=k) c).kp;simp only[Is];exact⟨p,d,rfl,⟨a,⟨gQ f c,e,.inl ⟨_,aj⟩⟩,h⟩,g⟩
section
variable{X:Cx}{F:Fx}{ke ve tg iter tg2 iter2:Ob}{ifs ifs2:List Ob}{pos:P8}{scope:Qr}{g g2:D->af->M af}{tc tc2:af->M Bool}{tk tv:af->M D}{tI tI2:af->M (List D)}
theorem nE(it:NJ)(D:NR)(env:Uc):U5 (.DictComp ke ve [⟨tg,iter,ifs,0⟩] scope pos) 0 it (.ref D) env=(do
   SR iter.pos;match<-Rt it with
   |none=>pure (.done .next)|some v=>
    Rm tg it v;Tt tg env v;let mut ok:=NM;for c in ifs do if ok then ok<-Vg c env (Qa c env)
    if ok then nB ke ve D env
    Xq (.compLoop (.DictComp ke ve [⟨tg,iter,ifs,0⟩] scope pos) 0 it (.ref D) env)):=by
 unfold nB;rfl
theorem zf(own fr:List Oo)(js:List Nat)(d:X.calm=NM)(hu:X.A.units+2<Pj)(B:m7 X.env.scope scope=NM)(O:js.map (λj=>X.N[j]?)=fr.map NF)(i:∀x∈fr,scope.names.lookup x=NF .free)(u:js.Nodup)(hw:DI X F tg iter tI)(T:∀pins cl C b s H,DG (dP X pins scope (own++fr) cl C b s H) F tg g)(R:∀pins cl C b s H,lj (dP X pins scope (own++fr) cl C b s H) F ifs tc)(L:∀pins cl C b s H,DE (dP X pins scope (own++fr) cl C b s H) F ke tk)(E:∀pins cl C b s H,DE (dP X pins scope (own++fr) cl C b s H) F ve tv)(G:∀x,QX iter X.env x=pure x)(hP:X.prog=F.P)(f:X.w=F.w):DU X F (.DictComp ke ve [⟨tg,iter,ifs,0⟩] scope pos) (λρ=>do let ds<-tI ρ;let r<-nA g tc (ze tk tv) ([],[]) ds (gV ρ own.length js);pure (.aH r.1.1 r.1.2)):=by
  refine⟨hw.hK,λpins s l H I=>?_⟩;obtain⟨cl,c⟩:=yA I.ok B;have P:oq X (.DictComp ke ve [⟨tg,iter,ifs,0⟩] scope pos) (uG own.length js (L3 F tI) (IX F g) (p_ F tc) (tu F (eO F tk) (eO F tv)) iY oD) pins s l H:=⟨λQ z=>uH (ok:=K_) (ob0:=iY) (newAcc:=newDict) (own:=own) (fr:=fr) (js:=js) (body:=λD env=>nB ke ve D env) d c O i hw.pi rfl rfl (fW rfl rfl) (λh=>qU h) (λa ob v ok=>ok.2 v) ⟨rfl,λv z=>nomatch z⟩ (λz=>nomatch z) (λ_ _ _=>rfl) (λ_ _ _=>rfl) (λ_ _ _=>nE _ _ _) (λpins cs C b s H=>(T pins cs C b s H).pg) (λpins cs C b s H=>(R pins cs C b s H).pi) (λpins cs C b s H D o=>qS o hu hw.hK hP f (L pins cs C b s H).pe (E pins cs C b s H).pe) vd G pins s l H Q I z,λx p' Z gt D t y z=>uI (ok:=K_) (ob0:=iY) (newAcc:=newDict) (own:=own) (fr:=fr) (js:=js) (body:=λD env=>nB ke ve D env) d c O i hw.pi (λ_=>rfl) rfl (fW rfl rfl) (λh=>qU h) (λa ob v ok=>ok.2 v) ⟨rfl,λv z=>nomatch z⟩ (λz=>nomatch z) (λ_ _ _=>rfl) (λ_ _ _=>rfl) (λ_ _ _=>nE _ _ _) (λpins cs C b s H=>(T pins cs C b s H).pg) (λpins cs C b s H=>(R pins cs C b s H).pi) (λpins cs C b s H D o=>qS o hu hw.hK hP f (L pins cs C b s H).pe (E pins cs C b s H).pe) vd G pins s l H x p' Z gt D I t y z⟩;refine P.imp λQ m=>?_;obtain⟨ρ,k,S,h⟩:=m;refine⟨ρ,k,S,M.wk h λds k1 q J H1 U it=>?_⟩;have S1:=(S.mono U).dP own.length u;refine Jw (So:=HM F) (λh e=>h.mono e) B5 it S1 ⟨[],tw,.nil⟩ q λa xs W V H' k' e2 S2 so Y p K n=>?_;exact Y _ _ ((U.trans e2).trans (.new K)) (tz (k:=k') S2.live K n so)
end
section
variable{X:Cx}{F:Fx}
noncomputable def zg(d:D):List D->Nat->Option Nat
 |[],_=>NN|x::r,i=>if iQ x d then NF i else zg d r (i+1)
noncomputable def zh:D->List D->M D
 |.tup a,[d]=>do M.need ((∀x∈a,sS x)/\sS d);let i<-M.get (zg d a 0);pure (.int i)|_,_=>M.fail
theorem keysOf{l:List D}:(∀x∈l,sS x)->∃ks:List Key,l=ks.map kD:=by induction l with
 |nil=>exactλ_=>⟨[],rfl⟩|cons x l a=>
  intro h;obtain⟨ks,rfl⟩:=a λy hy=>h y (NX _ hy);obtain⟨k,rfl⟩:=h x NV;exact⟨k::ks,rfl⟩
theorem nF:∀{ks:List Key}{its:List NJ}{P:N7}{w:Oq},aq (ks.map kV) its->∀(i:Nat)(k:Key),ks[i]?=NF k->∃u,its[i]?=NF u/\(ar P w).is k u=NM
 |[],_,_,_,_,i,k,h=>by simp at h|k0::ks,_,P,w,.cons r t,0,k,h=>by
  simp only[RG,Pw]at h;subst h;exact⟨_,rfl,fx r⟩|k0::ks,_,P,w,.cons r t,i+1,k,h=>by
  simp only[QZ]at h;obtain⟨u,b,a⟩:=nF (P:=P) (w:=w) t i k h;exact⟨u,by simpa using b,a⟩
theorem vf{a:Key}:∀{ks:List Key}{j i:Nat},zg (kD a) (ks.map kD) j=NF i->∃m,i=j+m/\ks[m]?=NF a/\∀n k,n<m->ks[n]?=NF k->k≠a
 |[],j,i,h=>by cases h|k::ks,j,i,h=>by
  simp only[Ot,zg]at h;split at h
  .rename_i e;cases h;exact⟨0,rfl,by rw[(fG k a).mp e];rfl,λn k c=>absurd c (Qt _)⟩
  .rename_i e;obtain⟨m,l,g,f⟩:=vf h;refine⟨m+1,by omega,by simpa using g,λn d c b=>?_⟩;cases n with
   |zero=>
    simp only[RG,Pw]at b;subst b;intro z;exact e ((fG k a).mpr z)|succ n=>exact f n d (by omega) (by simpa using b)
theorem zi{pins:List (NR×OW)}{s:NL}{σ:St}{H:Hp}{k:Nat}{a:NR}{xs:List V}{us:List NJ}{d:D}{ds:List D}{Q:VK}(I:Inv X pins σ H s)(R:aq xs us)(hK:X.K=F.K)(J:Is F.toFb H (.ref a) d)(Y:ae F.toFb H xs ds)(q:(zh d ds).run k (qE F.toFb H k Q) F.E):wpAny (N2 X.prog X.w) X.A (SI (.builtin "tuple.index") (.ref a::us)) (EP X pins σ Q) X.xe s:=by match d,ds,q with
 |.tup es,[d],q=>
  obtain⟨⟨hk,hd⟩,q⟩:=q;obtain⟨i,hi,q⟩:=M.run_get.mp q;have q:qE F.toFb H k Q (.int i) k:=q;simp only[Is]at J;obtain⟨a',ws,e,N,W⟩:=J;cases e;obtain⟨b,t,U,hz⟩:=I.tuple (by rw[hK];exact N.2);obtain⟨o,L,hc,n,g⟩:=id U;have hT:s.TypeIs (.ref a) "tuple":=⟨o,L,hc⟩;obtain⟨w,rfl,iw⟩:=Y.one;obtain⟨u,rfl,O⟩:=vals1 R;obtain⟨ks,rfl⟩:=keysOf hk;obtain⟨C,rfl⟩:=hd;have:=og W;subst this;have:=eA iw;subst this;obtain⟨m,l,B,h3⟩:=vf hi;rw[Nat.zero_add]at l;subst l;have hm:i<b.length:=by
   have:=t.length;rw[NY]at this;have:=(List.getElem?_eq_some_iff.mp B).1;omega
  refine O7 UZ hT PySem.F.entry_tuple_index ?_ (PySem.F.args_tuple_index_2 _ _);unfold Builtin.«tuple.index»;refine NG (m:=selfAndSome "tuple.index" "index" 1 3 ⟨[.ref a,u],[]⟩) (RH (show selfAndSome "tuple.index" "index" 1 3 ⟨[.ref a,u],[]⟩=pure (.ref a,[u])from rfl) ?_);dsimp only;unfold Uo;refine NG (NG (Ql L g (NO ?_)));refine NG (NO ?_);refine NG (NO ?_);rw[Std.Legacy.Range.forIn_eq_forIn_range'];refine NG (QB _ (λrest r p=>r.1=NN/\p=s/\∃j,j<=i/\rest=List.range' j (b.length-j) 1) _ ?_ ?_ _ _ ⟨rfl,rfl,0,OB _,?_⟩)
  .rintro j rest⟨T,S⟩p⟨Z,rfl,G,hj,h⟩;have f:b.length-G=(b.length-G-1)+1:=by omega
   rw[f,List.range'_succ]at h;injection h with l e2;subst l;have c:j<ks.length:=by
    have:=t.length;rw[NY]at this;omega
   obtain⟨y,hy,v⟩:=nF (P:=X.prog) (w:=X.w) t j ks[j] (Oc c);have x:b.toArray[j]?=NF y:=by simpa using hy
   rw[x];dsimp only;refine NG ((ar X.prog X.w).eqBool v (fx O) ?_);by_cases z:j=i
   .subst z;have:ks[j]=C:=by
     rw[Oc c]at B;exact NU B
    rw[decide_eq_true this,if_pos rfl];refine NG (NG (wpAny_mkInt (NO (NO (NO ⟨_,rfl,?_⟩)))));exact⟨.int j,H,I.tok _,⟨_,rfl⟩,q _ H .refl (by simp only[Is])⟩
   .have:ks[j]≠C:=h3 j _ (by omega) (Oc c);rw[decide_eq_false this,if_neg O9];exact NO ⟨rfl,rfl,j+1,by omega,by rw[e2];congr 1⟩
  .rintro⟨T,S⟩p⟨Z,rfl,j,hj,h⟩;have:=congrArg Qc h;simp only[Ox,List.length_range']at this;omega
  .simp[Std.Legacy.Range.size]
theorem DB{pins:List (NR×OW)}{σ:St}{H:Hp}{s:NL}{p:NR}(I:Inv X pins σ H s)(h:H p≠NN):X.K.lookup p=NN:=by cases e:X.K.lookup p with
 |none=>rfl|some o=>exact absurd (I.bs p o (I.mod.Ec p o e)).2 h
theorem zj{x:Oo}{v:V}{u:NJ}{d:D}{pos:P8}(f:Gl X x)(c:X.mg x=NF u)(r:RelV v u)(e:∀H,H F.p≠NN->X.K.lookup F.p=NN->Is F.toFb H v d)(hd:(x==("__debug__":Oo))=NP)(hK:X.K=F.K):DE X F (.Name x pos) (λ_=>pure d):=⟨hK,λa s b H Q I⟨g,k,S,h⟩=>nO f c r hd a s b H Q I (h _ H .refl (e H S.live (DB I S.live)))⟩
theorem Ge{x:Oo}{e:Ob}{np B n:P8}{a:NR}{o:OW}{d:D}{i:af->M (List A)}(T:Gl X x)(P:X.mg x=NF (.ref a))(hd:(x==("__debug__":Oo))=NP)(R:∀H,H F.p≠NN->X.K.lookup F.p=NN->Is F.toFb H (.ref a) d)(lk:X.K.lookup a=NF o)(U:o.cls=.type "tuple")(O:o.dict=NN)(ha:DA X F [e] i)(g:R0 (.Name x np) "index" X.env (Qa (.Name x np) X.env)=Qa (.Name x np) X.env)(f:(B.endLine==n.line)=NM)(m:((Qu n (Og [e] X.env)).all (λx=>!x.1)&&(VY n (TK [] X.env)).all (λx=>x.1.isSome)&&decide ([e].length+([]:List Sj).length+(if([]:List Sj).isEmpty then 0 else 1)<30))=NM)(N:Og [e] X.env=(NP,Qa e X.env)::Og [] X.env)(c:(Qu n (Og [] X.env)).any (·.1)=NP):DE X F (.Call (.Attribute (.Name x np) "index" B) [e] [] n) (λρ=>do let ds<-gS (<-i ρ);zh d ds):=by
 have mt:Ir X "tuple.index" (λx y H Q=>x=.ref a/\∃k ds,H F.p≠NN/\ae F.toFb H y ds/\(zh d ds).run k (qE F.toFb H k Q) F.E):=λj s w H x y v us Q I rx C u=>by
  obtain⟨ex,k,ds,l,J,q⟩:=u;subst ex;cases(show v=Of a from rx);exact zi I C ha.hK (R H l (DB I l)) J q
 refine⟨ha.hK,(sX (ty:=λx H=>x=.ref a) (λ{j w H s x v}I r ex=>by
  subst ex;cases(show v=Of a from r);have t:s.heap.get? a=NF o:=I.jg _ _ lk;exact⟨⟨o,t,U⟩,λb q=>by cases q;exact⟨o,t,O⟩⟩) PySem.F.plainAttrs_tuple UZ PySem.F.type_tuple_index mt (nO T P (v:=.ref a) rfl hd) ha.pa g m f N c).imp λw H Q⟨ρ,k,S,h⟩=>?_⟩;refine⟨rfl,qb.next S h λas G Z H1 W Y L t=>?_⟩;obtain⟨ds,rfl,V⟩:=bK t;exact⟨rfl,G,ds,Y.live,bL L,(zh d ds).mono V (λd' k' r=>qE.ext W r) λ_ _ z=>z⟩
end
end L2
end
section
namespace L2
open PySem PySem.Spec PyProof.Rows SortM
noncomputable def insI(n:Int):List Int->List Int
 |[]=>[n]|m::r=>if n<=m then n::m::r else m::insI n r
noncomputable def sortI:List Int->List Int
 |[]=>[]|n::r=>insI n (sortI r)
theorem insI_perm(n:Int):∀l:List Int,(insI n l).Perm (n::l)
 |[]=>.refl _|m::r=>by
  unfold insI;split;.exact .refl _
  .exact((insI_perm n r).cons m).trans (.swap n m r)
theorem sortI_perm:∀l:List Int,(sortI l).Perm l
 |[]=>.nil|n::r=>(insI_perm n (sortI r)).trans ((sortI_perm r).cons n)
theorem vg(n:Int):∀{l:List Int},l.Pairwise (·<=·)->(insI n l).Pairwise (·<=·)
 |[],_=>by simp[insI]|m::r,h=>by
  unfold insI;have a:=List.pairwise_cons.mp h;split
  .rename_i e;refine List.pairwise_cons.mpr ⟨λx hx=>?_,h⟩;rcases List.mem_cons.mp hx with rfl|hx;.exact e
   .exact Int.le_trans e (a.1 x hx)
  .rename_i e;refine List.pairwise_cons.mpr ⟨λx hx=>?_,vg n a.2⟩;rcases List.mem_cons.mp ((insI_perm n r).mem_iff.mp hx)with rfl|hx;.omega
   .exact a.1 x hx
theorem lQ:∀l:List Int,(sortI l).Pairwise (·<=·)
 |[]=>.nil|n::r=>vg n (lQ r)
theorem DC:∀{l m:List Int},l.Perm m->l.Pairwise (·<=·)->m.Pairwise (·<=·)->l=m
 |[],m,p,_,_=>(List.perm_nil.mp p.symm).symm|a::l,[],p,_,_=>absurd p.length_eq (by simp)|a::l,b::m,p,g,f=>by
  have d:=List.pairwise_cons.mp g;have c:=List.pairwise_cons.mp f;have e:a=b:=by
   rcases List.mem_cons.mp (p.mem_iff.mp (NV (a:=a)))with e|e;.exact e
   .rcases List.mem_cons.mp (p.mem_iff.mpr (NV (a:=b)))with z|z;.exact z.symm
    .exact Int.le_antisymm (d.1 b z) (c.1 a e)
  subst e;rw[DC (List.Perm.cons_inv p) d.2 c.2]
theorem qV{l m:List Int}(p:l.Perm m)(h:l.Pairwise (·<=·)):l=sortI m:=DC (p.trans (sortI_perm m).symm) h (lQ m)
noncomputable def bM:List Int->List Int
 |[]=>[]|x::r=>if x∈r then bM r else x::bM r
theorem bU{x:Int}:∀{l:List Int},x∈bM l↔x∈l
 |[]=>.rfl|y::r=>by
  unfold bM;split
  .rename_i h;rw[bU (l:=r),Pe];constructor;.exact .inr
   .rintro(e|e);.rw[e];exact h
    .exact e
  .rw[Pe,Pe,bU (l:=r)]
theorem eQ:∀(l:List Int),(bM l).Nodup
 |[]=>.nil|y::r=>by
  unfold bM;split;.exact eQ r
  .rename_i h;exact List.nodup_cons.mpr ⟨λz=>h (bU.mp z),eQ r⟩
theorem oA{c j:Type}{f:c->j}{vs k:List j}(p:vs.Perm k):∀{l:List c},k=l.map f->∃m:List c,m.Perm l/\vs=m.map f:=by induction p with
 |nil=>intro l e;exact⟨[],by cases l with
   |nil=>exact .nil|cons=>simp at e,rfl⟩|cons x p o=>
  intro l e;cases l with
  |nil=>simp at e|cons y l=>
   simp only[Ot,RU]at e;obtain⟨m,g,rfl⟩:=o e.2;exact⟨y::m,g.cons y,by rw[e.1];rfl⟩
 |swap x y t=>
  intro l e;cases l with
  |nil=>simp at e|cons a l=>cases l with
   |nil=>simp at e|cons b l=>
    simp only[Ot,RU]at e;exact⟨b::a::l,.swap _ _ _,by rw[e.1,e.2.1,e.2.2];rfl⟩
 |trans s r i h=>
  intro l e;obtain⟨m,g,rfl⟩:=h e;obtain⟨n,d,q⟩:=i rfl;exact⟨n,d.trans g,q⟩
theorem qW:∀(xs:List (Int×Vz)),QM (xs.map λx=>Q_ x.1 x.2) (xs.map (·.1))
 |[]=>.nil|x::xs=>.cons _ _ (qW xs)
theorem lR{B:Fb}{H:Hp}:∀{ns:List Int},ae B H (ns.map V.int) (ns.map D.int)
 |[]=>.nil|n::ns=>.cons (by simp only[Is]) lR
section
variable{X:Cx}{F:Fx}
theorem kr{pins:List (NR×OW)}{σ:St}{H:Hp}{s:NL}{a:NR}{o:OW}{xs:List Int}(hP:X.prog=F.P)(hw:X.w=F.w)(h:eY F.toFb o xs)(d:s.heap.get? a=NF o):∃b t,ST.rZ X.prog X.w s.heap a b t/\(b.map (·.1)).Perm xs:=by
 obtain⟨b,ob,c⟩:=h;obtain⟨t,S⟩:=ob.2.2 s.heap a d;rw[<-hP,<-hw]at S;exact⟨b,t,S,c⟩
theorem qY{pins:List (NR×OW)}{σ:St}{H:Hp}{s:NL}{a:NR}{h:List (Int×Vz)}{t:Pk}{xs:List Int}{Q:VK}(Y:X.calm=NM)(I:Inv X pins σ H s)(S:ST.rZ X.prog X.w s.heap a h t)(G:(h.map (·.1)).Perm xs)(Z:xs.length<64)(q:∀l o,H l=NN->Q (.ref l) (upd H l (.bP o (.lst ((sortI xs).map V.int))))):wpAny (N2 X.prog X.w) X.A (SI (.builtin "sorted") [.ref a]) (EP X pins σ Q) X.xe s:=by
 obtain⟨o,K,ep,R,hex,hd,r⟩:=id S.ob;have p:K.size=h.length:=by have:=congrArg Qc r;simpa using this
 have T:h.length=xs.length:=by have:=G.length_eq;simpa using this
 have W:ST.Wk X.w o K ep t:=⟨hex,hd,ST.fits_of S.tab (by rw[p,NY]),S.tab.rise,S.plain,S.led⟩;refine wx (ST.pX W (show X.A.in1.handled=NN from I.ok.hd Y) R (by rw[p,Qb];omega) λu E vs g1 pv=>?_);rw[r,PJ]at pv;obtain⟨m,n,rfl⟩:=oA pv (f:=λx:Int×Vz=>Q_ x.1 x.2) (l:=h) rfl;have L:Inv X pins σ H {s with heap:=u,toks:=E}:=I.kept g1;have ml:m.length=xs.length:=by rw[n.length_eq,T]
 refine⟨by rw[NY];omega,_,_,sE (qW m),λb h' c v N g e=>?_⟩;have bound:∀i∈b.toList,i<m.length:=λi d=>by have:=List.mem_range.mp (v.2.mem_iff.mp d);rwa[NY]at this
 have O:aq ((m.map (·.1)).map V.int) (m.map λx=>Q_ x.1 x.2):=by
  have:∀l:List (Int×Vz),aq ((l.map (·.1)).map V.int) (l.map λx=>Q_ x.1 x.2):=λl=>by induction l with
   |nil=>exact .nil|cons x l P=>exact .cons ⟨_,rfl⟩ P
  exact this m
 have k:aq (b.toList.map λi=>((m.map (·.1)).map V.int).getD i .aU) (b.toList.map λi=>(m.map λx=>Q_ x.1 x.2).getD i Oz):=jO O _ λi d=>by rw[NY,NY];exact bound i d
 have B:∀ns:List Int,(∀i∈b.toList,i<ns.length)->(b.toList.map λi=>(ns.map V.int).getD i .aU)=(b.toList.map λi=>ns.getD i 0).map V.int:=λns hb=>by
  rw[PJ];refine Q8 λi d=>?_;have y:=hb i d;simp[PN,y]
 have eq:=B (m.map (·.1)) λi d=>by rw[NY];exact bound i d
 rw[eq]at k;have M:SortM.Ok (m.map (·.1)).length b:=by
  have:=v;rw[NY]at this⊢;exact this
 have e2:(b.toList.map λi=>(m.map (·.1)).getD i 0)=sortI xs:=qV ((wy M _ _ rfl).trans ((n.map (·.1)).trans G)) (pT v N λi j z=>by
  have:=of_decide_eq_false z;omega);have U:H u.objs.size=NN:=L.aD.fresh (NZ _);have I2:=L.newList (t:=E) (D:=u.objs.size) g (NZ _) k (by rw[NY,NY,Pc,v.1,NY,Qb];omega) e;refine⟨.ref u.objs.size,_,I2.freeze aj e (λ_ z=>nomatch z) (λ_ _ z=>nomatch z) (λ_ z=>nomatch z) (λ_ z=>nomatch z),rfl,?_⟩;rw[bN,e2];exact q _ _ U
noncomputable def Gf(d:D):M D:=match d with
 |.aA a=>do M.need (a.length<64);pure (.lst ((sortI a).map D.int))|_=>M.fail
theorem zk(j:X.calm=NM)(hP:X.prog=F.P)(hw:X.w=F.w):aX X F (.builtin "sorted") (one Gf)where
 call:=λpins s σ H k n p A Q I e l hK h f=>by
  obtain⟨d,rfl,q⟩:=dj f;obtain⟨v,rfl,i⟩:=h.one;obtain⟨u,rfl,rx⟩:=vals1 e;cases d with
  |aA ns=>
   obtain⟨b,q⟩:=q;have q:qE F.toFb H k Q (.lst ((sortI ns).map D.int)) k:=q;simp only[Is]at i;obtain⟨a,rfl,z,o,r,hu,so⟩:=i;cases(show u=Of a from rx);obtain⟨m,t,S,g⟩:=kr (X:=X) (F:=F) (pins:=pins) (σ:=σ) (H:=H) (s:=s) hP hw so (I.aD a _ hu).1;exact qY j I S g b λy x c=>q _ _ (.new c) (dE (k:=k) l c lR)|_=>exact q.elim
noncomputable def Jx:D->D->M D
 |.int i,.aA a=>pure (.bl (!decide (i∈a)))|_,_=>M.fail
theorem B6(hP:X.prog=F.P)(hw:X.w=F.w):ji X F (O6 .NotIn) (λd e=>do(match e with|.aA xs=>M.need (xs.length<=300)|_=>M.fail);Jx d e):=⟨λpins s σ H k x y v u d e Q I rx ry l hK f c q=>by cases e with
 |aA xs=>
  obtain⟨p,q⟩:=q;cases d with
  |int j=>
   simp only[Is]at f c;subst f;obtain⟨a,rfl,n,o,i,hu,so⟩:=c;cases(show u=Of a from ry);obtain⟨m,rfl⟩:=(show∃t,v=Q_ j t from rx);obtain⟨g,t,S,b⟩:=kr (X:=X) (F:=F) (pins:=pins) (σ:=σ) (H:=H) (s:=s) hP hw so (I.aD a _ hu).1;have h:g.length<=511:=by have:=b.length_eq;rw[NY]at this;omega
   refine wpAny_notInSet_of (knd:=OU X.prog X.w) (R_ _ _ _ _) rfl (rZ.setOf S h) ⟨.bl _,H,I.tok _,rfl,q _ H .refl ?_⟩;simp only[Is];congr 2;exact decide_eq_decide.mpr b.mem_iff|_=>exact q.elim
 |_=>exact q.elim⟩
end
section
variable{X:Cx}{F:Fx}
noncomputable def jS:List D->Option (List Int)
 |[]=>NF []|.int i::r=>(jS r).map (i::·)|_=>NN
theorem qZ:∀{ds:List D}{ns:List Int},jS ds=NF ns->ds=ns.map D.int
 |[],ns,h=>by cases h;rfl|d::ds,ns,h=>by cases d with
  |int i=>
   simp only[jS,Vw]at h;obtain⟨r,a,rfl⟩:=h;rw[qZ a];rfl|_=>cases h
theorem vh{a:Type}{l:List a}{i:Nat}{x:a}(h:l[i]?=NF x):l.take (i+1)=l.take i++[x]:=by rw[List.take_succ,h];rfl
noncomputable def JI(P:N7)(w:Oq)(ns:List Int)(i:Nat)(ob:OW):Prop:=∃a,jP P w ob a/\a.length<=i/\∀x,x∈a.map (·.1)↔x∈ns.take i
theorem B7{prog:N7}{w:Oq}{S:NR}{B:Oy}{A:Ov}{us:List NJ}{ns:List Int}(t:QM us ns)(K:ns.length<=300):Fills prog w A S B (JI prog w ns) (λi v=>us.toArray[i]?=NF v) us.length:=by
 intro i v d ob L u kp l⟨f,so,y,m⟩Q E j;have o:us.length=ns.length:=IntsAre.length t;obtain⟨n,a,en,rfl⟩:∃n a,ns[i]?=NF n/\v=Q_ n a:=by
  have:∀{us:List NJ}{ns:List Int},QM us ns->∀(i:Nat)(v:NJ),us[i]?=NF v->∃n a,ns[i]?=NF n/\v=Q_ n a:=λ{us ns}t=>by induction t with
   |nil=>intro i v h;simp at h|cons n a t s=>
    intro i v h;cases i with
    |zero=>simp at h;exact⟨n,a,rfl,h.symm⟩|succ i=>simpa using s i v (by simpa using h)
  exact this t i v (by simpa using u)
 obtain⟨I,H⟩:=so.2.2 d.heap S l;refine k_ H (by omega) (λe=>?_) λk C b J sb p g=>?_
 .refine j NP d.heap (d.toks+1) ob (QQ _) (Heap.SameBut.refl _ _) l ⟨f,so,UQ y,λx=>?_⟩;rw[vh en,T5,Rh,<-m x];constructor;.exact .inl
  .rintro(z|z);.exact z
   .rw[z];exact e
 .obtain⟨r,D,G,c,_⟩:=id p.ob;refine j NM C (d.toks+1) r (QQ _) sb c ⟨b,jP.of p c,by rw[g.length_eq,Ol];omega,λx=>?_⟩;have q:(b.map (·.1)).Perm (n::f.map (·.1)):=g.map (·.1);rw[q.mem_iff,vh en,T5,Rh,Pe,<-m x];exact Or.comm
noncomputable def Jy(d:D):M D:=match d with
 |.lst a=>do let ns<-M.get (jS a);M.need (ns.length<=300);pure (.aA (bM ns))|_=>M.fail
theorem B8(S:X.calm=NM)(hP:X.prog=F.P)(hw:X.w=F.w):aX X F (.type "set") (one Jy)where
 call:=λm s V H k W Z T Q I z l hK O B=>by
  obtain⟨d,rfl,q⟩:=dj B;obtain⟨v,rfl,i⟩:=O.one;obtain⟨u,rfl,rx⟩:=vals1 z;cases d with
  |lst T=>
   obtain⟨ns,h,E⟩:=M.run_get.mp q;obtain⟨R,D⟩:=E;have C:qE F.toFb H k Q (.aA (bM ns)) k:=D;have:=qZ h;subst this;simp only[Is]at i;obtain⟨a,Y,rfl,L,N⟩:=i;cases(show u=Of a from rx);obtain⟨c,A,K,hz⟩:=I.list (by rw[hK];exact L.2.sq);have:=g8 N;subst this;have t:=intsAre_of A;have f:c.length=ns.length:=IntsAre.length t;refine pZ (items:=c.toArray) (J:=JI X.prog X.w ns) (I.ok.hd S) K.isList ⟨[],uB _ _,NZ _,by simp⟩ (by simpa using B7 t R) λr y ob g⟨j,so,hl,p⟩kp=>?_;rw[N5,f,List.take_length]at p;have n:H s.heap.objs.size=NN:=I.aD.fresh (NZ _);obtain⟨t1,U⟩:=so.2.2 r s.heap.objs.size g;have G:(j.map (·.1)).Perm (bM ns):=(Uu U.nd (eQ ns)).mpr λx=>by rw[bU];exact p x
   rw[hP,hw]at so;exact⟨.ref s.heap.objs.size,_,I.laid (t':=y) (λb o e=>kp b o (N1 e) e) (NZ _) (show be X.prog X.w _ r _ (.bP ob (.ext λ_=>True))from⟨g,trivial,⟨_,g⟩,λ_ _ _ _=>trivial⟩),rfl,C _ _ (.new n) (by simp only[Is];exact⟨_,rfl,gQ l n,ob,_,aj,j,so,G⟩)⟩|_=>exact q.elim
theorem B9{pins:List (NR×OW)}{σ:St}{H:Hp}{s:NL}{a:NR}{i:Int}{m:Vz}{o:OW}{xs:List Int}{Q:Hp->Prop}{E:NJ->NL->Prop}(hP:X.prog=F.P)(hw:X.w=F.w)(I:Inv X pins σ H s)(e:H a=NF (gj a o))(so:eY F.toFb o xs)(x:xs.length<=300)(p:i∈xs->Q H)(n:i∉xs->∀o',eY F.toFb o' (xs++[i])->Q (upd H a (gj a o'))):wpAny (N2 X.prog X.w) X.A (XB a (.int i m)) (λ_ s'=>∃H',Inv X pins σ H' s'/\Q H') E s:=by
 obtain⟨k,t,S,g⟩:=kr (X:=X) (F:=F) (pins:=pins) (σ:=σ) (H:=H) (s:=s) hP hw so (I.aD a _ e).1;have y:k.length=xs.length:=by have:=g.length_eq;simpa using this
 refine k_ S (by omega) (λj=>⟨H,I.tok _,p (g.mem_iff.mp j)⟩) λd B b v sb l h=>?_;obtain⟨o',r,u,f,_⟩:=id l.ob;have c:=jP.of l f;rw[hP,hw]at c;refine⟨_,fY I e sb f,n (λz=>d (g.mem_iff.mpr z)) o' ⟨b,c,?_⟩⟩;have q:(b.map (·.1)).Perm (i::k.map (·.1)):=h.map (·.1);exact q.trans ((g.cons i).trans (UA i xs).symm)
theorem oB{pins:List (NR×OW)}{σ:St}{H:Hp}{s:NL}{q:Oo}{Q:Bool->NL->Prop}{A:Ov}{E:NJ->NL->Prop}(I:Inv X pins σ H s)(c:Qk X.K X.env.code q=NM)(h:∀b,Q b s):wpAny (N2 X.prog X.w) A (inMainModule X.env) Q E s:=by
 obtain⟨a,o,g,t,f,e,d,i⟩:=WA I.jg c;unfold inMainModule;rw[f];show wpAny _ _ (fieldsOf (.ref a)>>=_) _ _ _;refine NG ?_;show wpAny _ _ (load a>>=_) _ _ _;refine NG (wpAny_load e ?_);rw[d];refine NO ?_;split;.exact NG (QF (NO (h _)))
 .exact NO (h _)
theorem B_{y:Oo}{j:Nat}{np sp:P8}{q:Oo}(hP:X.prog=F.P)(hw:X.w=F.w)(x:Qk X.K X.env.code q=NM)(n:X.N[j]?=NF y)(k:t4 X.env.scope y)(hd:(y==("__debug__":Oo))=NP)(f:(y==("__classdict__":Oo))=NP):PE X (.Set [.Name y np] 0 sp) (λσ H Q=>∃i,σ[j]?=NF (NF (.int i))/\∀p o',H p=NN->eY F.toFb o' [i]->Q (.ref p) (upd H p (gj p o'))):=by
 intro c s σ H Q I⟨i,l,m⟩;rw[arm_eval_Set];refine NG (Qe ?_);refine NG (oB I x λb=>?_);show wpAny _ _ (setDisplay .oneByOne b [(NP,Qa (.Name y np) X.env>>=λv=>SR sp>>=λ_=>pure v)]) _ _ _;unfold setDisplay;show wpAny _ _ (newSet (.type "set")>>=_) _ _ _;refine NG (Bm ?_);have r:H s.heap.objs.size=NN:=I.aD.fresh (NZ _);have J:Inv X c σ (upd H s.heap.objs.size (gj s.heap.objs.size (bp X.w))) {s with heap:=s.heap.push (bp X.w)}:=I.laid (a:=s.heap.objs.size) (o:=gj s.heap.objs.size (bp X.w)) (t':=s.toks) (λ_ _ q=>NQ _ q) (NZ _) (ou (N4 _ rfl));refine NG (OE ?_);refine NG ?_;show wpAny _ _ (evalAll [Qa (.Name y np) X.env>>=λv=>SR sp>>=λ_=>pure v]) _ _ _;unfold evalAll;refine NG ?_;refine NG (bo (d7 (pos:=np) n k hd f c _ σ _ (λw g=>w=.int i/\g=upd H s.heap.objs.size (gj s.heap.objs.size (bp X.w))) J ⟨_,l,rfl,rfl⟩) λu O d=>?_);obtain⟨w,S,G,e,C,B⟩:=d;subst C B;obtain⟨L,rfl⟩:=(show∃t,u=Q_ i t from e);refine NG (Qe (NO ?_));refine NG (OE (NO (NO ?_)));refine NG (OE ?_);simp only[T4,S7];refine NG ?_;refine NG (NG (bo (B9 (F:=F) (Q:=λg=>∃o',eY F.toFb o' [i]/\g=upd H s.heap.objs.size (gj s.heap.objs.size o')) (E:=X.xe) (xs:=[]) hP hw G aj ⟨[],by rw[hw];exact uB _ _,.nil⟩ (by decide) (λz=>nomatch z) λ_ o' so=>⟨o',so,bN ..⟩) λb M⟨R,D,o',so,A⟩=>?_));subst A;refine NO (NO ?_);rw[if_neg (by decide)];refine NO ?_;show wpAny _ _ (forIn ([]:List (Bool×UG NJ)) XD _>>=_) _ _ _;rw[S7];refine NG (NO (NO (NO ?_)));exact⟨.ref s.heap.objs.size,_,D,rfl,m _ o' r so⟩
theorem zl(i j:Nat){x y:Oo}{np sp pos a:P8}{q:Oo}(hN:X.N.Nodup)(hK:X.K=F.K)(hP:X.prog=F.P)(hw:X.w=F.w)(s:Qk X.K X.env.code q=NM)(o:X.N[i]?=NF x)(hx:Loc X.env.scope x)(r:X.fn x=NM\/X.env.scope.names.lookup x=NF .local)(m:X.N[j]?=NF y)(l:t4 X.env.scope y)(hd:(y==("__debug__":Oo))=NP)(e:(y==("__classdict__":Oo))=NP):DS X F (.Assign [.Name x a] (.Set [.Name y np] 0 sp) pos) (λρ=>do
   let n<-fC (<-M.get (gk ρ j))pure (.nx (ρ.set i (NF (.own (.aA [n])))))):=by
 refine⟨hK,(c7 (i:=i) hN o hx (B_ (np:=np) (sp:=sp) (F:=F) hP hw s m l hd e) rfl r).imp λZ u H⟨ρ,k,S,h⟩=>?_⟩;obtain⟨d,t,h⟩:=M.run_get.mp h;obtain⟨n,rfl,h⟩:=bB.mp h;obtain⟨v,c,b⟩:=S.at_ j _ (uD t);have b:Is F.toFb H v (.int n):=b;simp only[Is]at b;subst b;exact⟨n,c,λp g f so=>h _ _ (Ext.new (k:=k) f).kp (S.ot i f ⟨g,aj,so⟩)⟩
noncomputable def Jz(F:Fx):V->List V->Hp->VK->Prop:=λx d H Q=>∃a i o b,x=.ref a/\d=[.int i]/\H a=NF (gj a o)/\eY F.toFb o b/\b.length<=300/\(i∈b->Q .aU H)/\(i∉b->∀c,eY F.toFb c (b++[i])->Q .aU (upd H a (gj a c)))
theorem Ca(hP:X.prog=F.P)(hw:X.w=F.w):LN X "set.add" (Jz F):=by
 intro pins s σ H x J v K Q I rx r h;obtain⟨a,i,o,m,rfl,rfl,e,so,M,B,A⟩:=h;obtain⟨u,rfl,y⟩:=r.one;cases(show v=Of a from rx);obtain⟨p,rfl⟩:=(show∃t,u=Q_ i t from y);obtain⟨l,t,S,g⟩:=kr (X:=X) (F:=F) (pins:=pins) (σ:=σ) (H:=H) (s:=s) hP hw so (I.aD a _ e).1;have N:l.length=m.length:=by have:=g.length_eq;simpa using this
 refine n6 S (by omega) (λk q=>⟨.aU,H,I.tok _,rfl,B (g.mem_iff.mp k)⟩) λd O b L q sb n j=>?_;obtain⟨D,E,G,f,_⟩:=id n.ob;have c:=jP.of n f;rw[hP,hw]at c;refine⟨.aU,_,fY I e sb f,rfl,A (λz=>d (g.mem_iff.mpr z)) D ⟨b,c,?_⟩⟩;have C:(b.map (·.1)).Perm (i::l.map (·.1)):=j.map (·.1);exact C.trans ((g.cons i).trans (UA i m).symm)
noncomputable def tD:D->M (List Int)
 |.aA a=>pure a|_=>M.fail
theorem tE{d:D}{k Q E}(h:(tD d).run k Q E):∃xs,d=.aA xs/\Q xs k:=by cases d with
 |aA xs=>exact⟨xs,rfl,h⟩|_=>exact h.elim
theorem Gg(i:Nat){x:Oo}{e:Ob}{J:af->M D}{np G E pos:P8}(hP:X.prog=F.P)(hw:X.w=F.w)(Y:X.N[i]?=NF x)(W:t4 X.env.scope x)(hd:(x==("__debug__":Oo))=NP)(A:(x==("__classdict__":Oo))=NP)(ha:DE X F e J)(R:(G.endLine==E.line)=NM)(y:Og [e] X.env=(NP,Qa e X.env)::Og [] X.env):DS X F (.Expr (.Call (.Attribute (.Name x np) "add" G) [e] [] E) pos) (λρ=>do
   let xs<-tD (<-M.get (gm ρ i))let n<-fC (<-J ρ)M.need (xs.length<=300)pure (.nx (ρ.set i (NF (.own (.aA (if n∈xs then xs else xs++[n]))))))):=by
 have pe:=sX (X:=X) (name:="add") (apos:=G) (cpos:=E) (ty:=FX "set") (λI r h=>BP I r h) PySem.F.plainAttrs_set Wa (by rfl) (Ca (F:=F) hP hw) (d7 (pos:=np) Y W hd A) (aZ ha.pe dz y) rfl (by rw[y];rfl) R y rfl;refine⟨ha.hK,(nP pe rfl).imp λZ σ H⟨ρ,k,S,h⟩=>?_⟩;obtain⟨d0,B,h⟩:=M.run_get.mp h;obtain⟨xs,rfl,h⟩:=tE h;obtain⟨v,j,a,rfl,f⟩:=S.at_ i _ (dm B);obtain⟨o,Q,so⟩:=f.2.2;have ty:FX "set" (.ref a) H:=by
  obtain⟨ys,ob,_⟩:=id so;have K:o.isFreed=NP:=by
   have:=ob.1;cases o;rename_i c d p sl;cases p<;>first|rfl|exact absurd rfl this
  obtain⟨t,S⟩:=ob.2.2 ((default:Oy).push o) _ (N4 _ K);obtain⟨s,es,ep,m,hex,_⟩:=S.ob;rw[N4 _ K]at m;cases m;exact⟨a,o,rfl,Q,hex.1,hex.2.1⟩
 refine⟨_,j,ty,?_⟩;refine eO.next S h λd L u U C T O b=>?_;obtain⟨n,rfl,b⟩:=bB.mp b;obtain⟨V,b⟩:=b;have g:=C.keep a _ f.1 Q;simp only[Is]at O;subst O;refine⟨a,n,o,xs,rfl,rfl,g,so,V,λz=>?_,λl s q=>?_⟩
 .rw[if_pos z]at b;refine b _ _ C.kp ?_;have e:ρ.set i (NF (.own (.aA xs)))=ρ:=by
   have:=dm B;obtain⟨R,he⟩:=List.getElem?_eq_some_iff.mp this;rw[<-he,List.set_getElem_self]
  rw[e];exact T
 .rw[if_neg l]at b;have kp:Kp F.toFb U L (upd U a (gj a s)) L:=Kp.own f.1 g rfl;exact b _ _ (C.kp.trans kp) (T.e7 (dm B) j f.1 f.2.1 g rfl ⟨a,rfl,f.1,f.2.1,s,aj,q⟩)
end
inductive Tg where|nm(i:Nat)|nil|cons(t r:Tg)|tup(n:Nat)(r:Tg)
inductive BI where|len|tuple|sorted|repr|int|str|dict|max|min|set deriving DecidableEq
inductive Ex where|var(i:Nat)|cst(d:D)|ku(i:Nat)|op(o:VV)(a b:Ex)|neg(a:Ex)|cmp(o:RR)(a b:Ex)|and(a b:Ex)|one(a:Ex)|not(a:Ex)|tF(a b:Ex)|Gh(a b:Ex)|jx(a:Ex)|tG(a:Ex)|DD(a:Ex)|bC(o:RR)(a b:Ex)|nil|cons(a r:Ex)|feed(i:Nat)(r:Ex)|tup(r:Ex)|lst(r:Ex)|idx(a b:Ex)|bi(f:BI)(r:Ex)|call(f:Nat)(r:Ex)|HN(T:String)(a:Ex)|lc(own:List Oo)(js:List Nat)(tg:Tg)(it c elt:Ex)|dc(own:List Oo)(js:List Nat)(tg:Tg)(it c ke ve:Ex)|oE(r:Ex)|zm(r:Ex)|cO(a:Ex)|yes|DF(c:Nat)(a:Ex)|bad|mv(i:Nat)(e:Ex)|oF(o r:Ex)|JA(i:Nat)(r:Ex)
noncomputable def cJ:D->T Bool
 |.bl b=>.ok b|_=>.stuck
noncomputable def eC:D->T Int
 |.int i=>.ok i|_=>.stuck
noncomputable def iA:List A->T (List D)
 |[]=>.ok []|.d x::r=>do let a<-iA r;.ok (x::a)|.feed::_=>.stuck
noncomputable def c8(i:Int):Bool:=decide (-(2^64)<i)&&decide (i<2^64)
noncomputable def Cb:VV->D->D->T D
 |.Add,d,e=>match d,e with
  |.int i,.int j=>.ok (.int (i+j))|.lst b,.lst a=>do T.need (decide (b.length+a.length<=NW));.ok (.lst (b++a))|_,_=>.stuck
 |.Sub,d,e=>match d,e with
  |.int i,.int j=>.ok (.int (i-j))|_,_=>.stuck
 |.Mult,d,e=>do let i<-eC d;let j<-eC e;T.need (c8 i||c8 j);.ok (.int (i*j))|.Mod,d,e=>do let i<-eC d;let j<-eC e;T.need (decide (0<j));.ok (.int (i%j))|_,_,_=>.stuck
noncomputable def cz:RR->D->D->T D
 |.Eq,d,e=>do let b<-T.get (bZ aJ d e);.ok (.bl b)|.NotEq,d,e=>do let b<-T.get (bZ aJ d e);.ok (.bl (!b))|.Lt,d,e=>do let i<-eC d;let j<-eC e;.ok (.bl (decide (i<j)))|.Is,d,e=>do T.need (iM e);.ok (.bl (iM d))|.IsNot,d,e=>do T.need (iM e);.ok (.bl (!iM d))|.In,d,e=>match e with
  |.aH ks _=>do T.need (az ks d);.ok (.bl (bF ks d))|_=>do let a<-T.get (items e);let b<-T.get (gW d a);.ok (.bl b)
 |.NotIn,d,e=>match e with
  |.aH ks _=>do T.need (az ks d);.ok (.bl (!bF ks d))|.aA a=>do T.need (decide (a.length<=300));let i<-eC d;.ok (.bl (!decide (i∈a)))|_=>do let a<-T.get (items e);let b<-T.get (gW d a);.ok (.bl (!b))
 |_,_,_=>.stuck
noncomputable def JB:D->D->T D:=λd e=>do
 let i<-eC e;match d with
 |.tup a=>T.get (d_ a i)|.lst a=>T.get (d_ a i)|_=>.stuck
noncomputable def dM:D->D->T D
 |.aH ks a,e=>do T.need (az ks e);T.get (aL ks a e)|d,e=>JB d e
noncomputable def Gi(d:D):T Bool:=T.get (BU d)
noncomputable def q_(d:D):T D:=match d with
 |.aA b=>do T.need (decide (b.length<64));.ok (.lst ((sortI b).map D.int))|_=>do
  let a<-T.get (gA d)T.need (decide (a.length<=NW)&&gp a)T.perm a λl=>.ok (.lst l)
noncomputable def vk:BI->List D->T D
 |.len,[d]=>match d with
  |.tup a=>.ok (.int a.length)|.lst a=>.ok (.int a.length)|_=>.stuck
 |.tuple,[d]=>do let a<-T.get (items d);.ok (.tup a)|.sorted,[d]=>q_ d|.repr,[d]=>do T.need (j6 d&&oz d);.ok (.str (pz d).shown)|.int,[d]=>match d with
  |.int i=>.ok (.int i)|.bl b=>.ok (.int (if b then 1 else 0))|_=>.stuck
 |.str,[d]=>match d with
  |.int i=>do T.need (decide (i.natAbs.log2<1920));.ok (.str (toString i))|_=>.stuck
 |.dict,[d]=>match d with
  |.lst ps=>do let r<-T.get (gB ps ([],[]));.ok (.aH r.1 r.2)|_=>.stuck
 |.set,[d]=>match d with
  |.lst c=>do let ns<-T.get (jS c);T.need (decide (ns.length<=300));.ok (.aA (bM ns))|_=>.stuck
 |.max,[d,e]=>T.get (bestOf .Gt [d,e])|.min,[d,e]=>T.get (bestOf .Lt [d,e])|_,_=>.stuck
noncomputable def vm:D->List D->T D
 |.aH ks a,[d,z]=>do T.need (az ks d&&decide (ks.length=a.length));.ok ((aL ks a d).getD z)|_,_=>.stuck
noncomputable def Cc:D->List D->T D
 |.tup a,[d]=>do T.need (a.all yS&&yS d);let i<-T.get (zg d a 0);.ok (.int i)|_,_=>.stuck
noncomputable def DH(Ty:String)(d:D):T D:=do
 let t<-T.get (Fo d)let b<-T.get (Py [] (.type t) (.type Ty));.ok (.bl b)
mutual
noncomputable def dv:Tg->D->af->T af
 |.nm i,d,a=>.ok (a.set i (NF (.d d)))|.tup n r,d,a=>match d with
  |.tup b=>if b.length=n then g_ r b a else .stuck|_=>.stuck
 |_,_,_=>.stuck
noncomputable def g_:Tg->List D->af->T af
 |.nil,a,c=>match a with
  |[]=>.ok c|_=>.stuck
 |.cons t r,a,c=>match a with
  |d::a=>do let b<-dv t d c;g_ r a b|[]=>.stuck
 |_,_,_=>.stuck
end
noncomputable def dZ(g:D->af->T af)(e:af->T Bool)(c:af->T D):List D->af->T (List D)
 |[],_=>.ok []|d::f,h=>do
  let a<-g d h;let b<-e a;if b then do
   let x<-c a;let r<-dZ g e c f a;.ok (x::r)else dZ g e c f a
noncomputable def fL{c:Type}(g:D->af->T af)(f:af->T Bool)(h:c->af->T (c×af)):c->List D->af->T (c×af)
 |acc,[],e=>.ok (acc,e)|acc,d::i,e=>do
  let a<-g d e;let b<-f a;if b then do
   let r<-h acc a;fL g f h r.1 i r.2;else fL g f h acc i a
noncomputable def ra(c b:af->T D)(a:List D×List D)(ρ:af):T ((List D×List D)×af):=do
 let x<-c ρ;let y<-b ρ;T.need (az a.1 x&&decide (a.1.length<NW));.ok (putD a.1 a.2 x y,ρ)
noncomputable def Cd(d:D):T (List D):=do
 let j<-eC d;T.need (decide (-(2^62)<=j)&&decide (j<=1000000));.ok (bR j.toNat)
noncomputable def jy(ρ:af)(i:Nat):Bool:=match ρ[i]? with
 |some (NF .feed)=>NM|_=>NP
structure Ev where
 call:Nat->List A->T D
 ku:Nat->Option D
 cls:Nat->Option NR
 how:NR->Bool
 sub:NR->NR->Option Bool
 ins:NR->NJ->Option Bool
noncomputable def vn(v:Ev)(Ty:String):D->T D
 |.exc c _=>do let b<-T.get (v.ins c (.type Ty));.ok (.bl b)|d=>DH Ty d
noncomputable def rb(v:Ev)(P:NR):D->T D
 |.exc c _=>do let b<-T.get (v.ins c (.ref P));.ok (.bl b)|_=>.stuck
noncomputable def DJ(v:Ev)(C:NR)(as:List A):T D:=do T.need (decide (as.length<=NW));.ok (.exc C [])
mutual
noncomputable def aK(v:Ev):Ex->af->T D
 |.var i,g=>T.get (gk g i)|.cst d,_=>.ok d|.ku i,_=>T.get (v.ku i)|.op o a b,g=>do let d<-aK v a g;let e<-aK v b g;Cb o d e|.neg a,g=>do let i<-eC (<-aK v a g);.ok (.int (-i))|.cmp o a b,g=>do let d<-aK v a g;let e<-aK v b g;cz o d e|.and a b,g=>do let c<-cJ (<-aK v a g);if c then aK v b g else .ok (.bl NP)|.one a,g=>aK v a g|.not a,g=>do let c<-cJ (<-aK v a g);.ok (.bl (!c))|.tup r,g=>do let h<-iA (<-fZ v r g);T.need (decide (h.length<=NW));.ok (.tup h)|.lst r,g=>do let h<-iA (<-fZ v r g);T.need (decide (h.length<=NW));.ok (.lst h)|.idx a b,g=>do let d<-aK v a g;let e<-aK v b g;dM d e|.bi f r,g=>do vk f (<-iA (<-fZ v r g))|.call f r,g=>do let as<-fZ v r g;(v.call f as).at' g|.HN Ty a,g=>do vn v Ty (<-aK v a g)|.DF c a,g=>do let P<-T.get (v.cls c);rb v P (<-aK v a g)|.lc own k j it c l,g=>do
  let h<-r8 v it g;let r<-dZ (dv j) (λg=>(c4 v c g).calm) (λg=>(aK v l g).calm) h (gV g own.length k);.ok (.lst r)|.dc own k j it c n m,g=>do
  let h<-r8 v it g;let r<-fL (dv j) (λg=>(c4 v c g).calm) (ra (λg=>(aK v n g).calm) (λg=>(aK v m g).calm)) ([],[]) h (gV g own.length k);.ok (.aH r.1.1 r.1.2)|.mv i e,g=>do
  let d<-aK v e (pq i g)T.need (flat (gZ g i) d);.ok d|.oF o r,g=>do
  let d<-aK v o g;T.need (qy d)vm d (<-iA (<-fZ v r g))|.JA i r,g=>do
  let d<-T.get (v.ku i)T.need (j6 d)Cc d (<-iA (<-fZ v r g))|_,_=>.stuck
noncomputable def c4(v:Ev):Ex->af->T Bool
 |.yes,_=>.ok NM|.tF a b,f=>do let c<-c4 v a f;if c then c4 v b f else .ok NP|.Gh a b,f=>do let c<-c4 v a f;if c then .ok NM else c4 v b f|.jx a,f=>c4 v a f|.tG a,f=>do let c<-c4 v a f;.ok (!c)|.DD a,f=>do Gi (<-aK v a f)|.bC o a b,f=>do let d<-aK v a f;let e<-aK v b f;cJ (<-cz o d e)|.mv i e,f=>c4 v e (pq i f)|_,_=>.stuck
noncomputable def fZ(v:Ev):Ex->af->T (List A)
 |.nil,_=>.ok []|.cons a r,b=>do let d<-aK v a b;let c<-fZ v r b;.ok (.d d::c)|.feed i r,b=>do T.need (jy b i);let c<-fZ v r b;.ok (.feed::c)|_,_=>.stuck
noncomputable def r8(v:Ev):Ex->af->T (List D)
 |.oE r,b=>do match<-iA (<-fZ v r b)with
  |[d]=>Cd d|_=>.stuck
 |.zm r,b=>do match<-iA (<-fZ v r b)with
  |[.lst c]=>.ok (gy c)|_=>.stuck
 |.cO a,b=>do T.get (fk (<-aK v a b))|_,_=>.stuck
end
inductive bD where|asg(tg:Tg)(e:Ex)|set(i:Nat)(e:Ex)|par(i j:Nat)(r:Ex)|ret(e:Ex)|nil|cons(s r:bD)|iff(c:Ex)(a b:bD)|eE(tg:Tg)(it:Ex)(b:bD)|DK(c:Ex)(b:bD)|raise(c:Nat)(r:Ex)|zo(b:bD)(c i y:Nat)(h:Hd)|bad|rh(i:Nat)(r:Ex)|gZ(i:Nat)|app(i:Nat)(e:Ex)|put(i:Nat)(k e:Ex)|fz(i:Nat)(s:bD)|expr(e:Ex)|vo(i j:Nat)|add(i:Nat)(e:Ex)|pop(j i:Nat)
noncomputable def lS:D->T (List D)
 |.lst a=>.ok a|_=>.stuck
noncomputable def zp:D->T (List Int)
 |.aA a=>.ok a|_=>.stuck
noncomputable def rk:D->T (List D×List D)
 |.aH ks a=>.ok (ks,a)|_=>.stuck
noncomputable def T.j8{b:Type}(t:T b)(h:Xc->T b):T b:=match t with
 |.ok a=>.ok a|.exc x=>h x|.stuck=>.stuck|.draw n k=>.draw n λi=>(k i).j8 h|.perm l k=>.perm l λi=>(k i).j8 h
noncomputable def lT(v:Ev)(P:NR)(i y:Nat)(h:Hd)(x:Xc):T Fl:=match x.x with
 |.exc c nm=>do
  T.need (match v.sub c P with|some NM=>NM|_=>NP)let d<-T.get (K6 h (uO (NF i) (.exc c nm) x.en));.ok (.nx (MU (NF i) ((uO (NF i) (.exc c nm) x.en).set y (NF (.d d)))))|_=>.stuck
noncomputable def eR(g:D->af->T af)(body:af->T Fl):List D->af->T Fl
 |[],c=>.ok (.nx c)|d::e,c=>do
  let b<-g d c;match<-body b with
  |.nx a=>eR g body e a|.ct a=>eR g body e a|.bk a=>.ok (.nx a)|.rt r=>.ok (.rt r)
noncomputable def cP(c:af->T Bool)(body:af->T Fl):Nat->af->T Fl
 |0,_=>.stuck|n+1,d=>do
  let b<-c d;if b then do match<-body d with
   |.nx a=>cP c body n a|.ct a=>cP c body n a|.bk a=>.ok (.nx a)|.rt r=>.ok (.rt r)else .ok (.nx d)
noncomputable def bg:Nat:=1000
noncomputable def ax(v:Ev):bD->af->T Fl
 |.asg p e,f=>do let d<-aK v e f;let l<-dv p d f;.ok (.nx l)|.set i e,f=>do let d<-aK v e f;.ok (.nx (f.set i (NF (.d d))))|.par i j r,f=>do match<-iA (<-fZ v r f)with
  |[d,e]=>.ok (.nx ((f.set i (NF (.d d))).set j (NF (.d e))))|_=>.stuck
 |.ret e,f=>do let d<-aK v e f;.ok (.rt d)|.nil,f=>.ok (.nx f)|.cons s r,f=>do match<-ax v s f with
  |.nx l=>ax v r l|t=>.ok t
 |.iff c a b,f=>do let x<-c4 v c f;if x then ax v a f else ax v b f|.eE p it b,f=>do eR (dv p) (ax v b) (<-r8 v it f) f|.DK c b,f=>cP (c4 v c) (ax v b) bg f|.raise c r,f=>do
  let C<-T.get (v.cls c)T.need (v.how C)let x<-DJ v C (<-fZ v r f);.exc ⟨x,f⟩|.zo b c i y h,f=>do
  let P<-T.get (v.cls c)(ax v b f).j8 (lT v P i y h)|.bad,_=>.stuck|.rh i r,f=>do
  let g<-iA (<-fZ v r f)T.need (decide (g.length<=NW));.ok (.nx (f.set i (NF (.own (.lst g)))))|.gZ i,f=>.ok (.nx (f.set i (NF (.own (.aH [] [])))))|.app i e,f=>do
  let g<-lS (<-T.get (gm f i))let d<-aK v e f;T.need (decide (g.length<NW));.ok (.nx (f.set i (NF (.own (.lst (g++[d]))))))|.put i k e,f=>do
  let d<-aK v e f;let m<-rk (<-T.get (gm f i))let q<-aK v k f;T.need (decide (m.1.length<NW)&&az m.1 q);.ok (.nx (f.set i (NF (.own (.aH (putD m.1 m.2 q d).1 (putD m.1 m.2 q d).2)))))|.fz i s,f=>ax v s (pq i f)|.expr e,f=>do let _<-aK v e f;.ok (.nx f)|.vo i j,f=>do
  let n<-eC (<-T.get (gk f j));.ok (.nx (f.set i (NF (.own (.aA [n])))))|.add i e,f=>do
  let o<-zp (<-T.get (gm f i))let n<-eC (<-aK v e f)T.need (decide (o.length<=300));.ok (.nx (f.set i (NF (.own (.aA (if n∈o then o else o++[n]))))))|.pop j i,f=>do
  let g<-lS (<-T.get (gm f i))let d<-T.get g[g.length-1]?;.ok (.nx ((f.set i (NF (.own (.lst g.dropLast)))).set j (NF (.d d))))
structure Df where
 np:Nat
 nn:Nat
 body:bD
noncomputable def bG(n:Nat)(as:List A):af:=as.map (λa=>NF a.w)++OV (n-as.length) NN
noncomputable def AG:Fl->T D
 |.rt d=>.ok d|.nx _=>.ok .aU|_=>.stuck
noncomputable def lEq:List Nat->List Nat->Bool
 |[],[]=>NM|x::b,y::a=>RA x y&&lEq b a|_,_=>NP
theorem zq:∀{a b:List Nat},lEq a b=NM->a=b
 |[],[],_=>rfl|[],_::_,h=>nomatch h|_::_,[],h=>nomatch h|x::d,y::c,h=>by
  simp only[lEq,N0]at h;rw[Pl h.1,zq h.2]
theorem rl:∀(a:List Nat),lEq a a=NM
 |[]=>rfl|x::b=>by simp only[lEq,N0];exact⟨Nat.beq_refl x,rl b⟩
noncomputable def sEq(x y:Oo):Bool:=lEq x.cps.toList y.cps.toList
theorem bz{x y:Oo}(h:sEq x y=NM):x=y:=by
 obtain⟨⟨a⟩⟩:=x;obtain⟨⟨b⟩⟩:=y;have:=zq h;simp only at this;rw[this]
theorem rm(x:Oo):sEq x x=NM:=rl _
theorem zr{x y:Oo}(h:sEq x y=NP):x≠y:=λe=>by rw[e,rm]at h;cases h
theorem oG(x y:Oo):sEq x y=(x==y):=by cases h:sEq x y with
 |true=>rw[bz h];simp|false=>exact(beq_eq_false_iff_ne.mpr (zr h)).symm
noncomputable def rn(x:Oo):List (Oo×Rb)->Option Rb
 |[]=>NN|(y,k)::r=>if sEq x y then NF k else rn x r
theorem lU(x:Oo):∀(l:List (Oo×Rb)),rn x l=l.lookup x
 |[]=>rfl|(y,k)::r=>by
  simp only[rn,OP,oG,lU x r];cases x==y<;>rfl
structure MC where
 N:List Oo
 sc:Qr
 all:Bool
 own:List (Oo×Rb)
structure d4 where
 dn:List Oo
 gn:List Oo
 cn:List Oo
noncomputable def isAt(N:List Oo)(i:Nat)(x:Oo):Bool:=match N[i]? with
 |some y=>sEq y x|none=>NP
theorem d5{N:List Oo}{i:Nat}{x:Oo}(h:isAt N i x=NM):N[i]?=NF x:=by
 unfold isAt at h;split at h;.rename_i y e;rw[e,bz h]
 .cases h
noncomputable def oH(x:Oo):Bool:=!sEq x "__debug__"&&!sEq x "__classdict__"&&!sEq x "__name__"
theorem nG{x:Oo}(h:oH x=NM):(x==("__debug__":Oo))=NP/\(x==("__classdict__":Oo))=NP/\x≠"__name__":=by
 simp only[oH,N0,P4]at h;exact⟨by rw[<-oG];exact h.1.1,by rw[<-oG];exact h.1.2,zr h.2⟩
noncomputable def eS(m:MC)(i:Nat)(x:Oo):Bool:=isAt m.N i x&&oH x&&match rn x m.sc.names with
 |some .local=>NM|some .cell=>NM|some .free=>NM|_=>NP
noncomputable def e8(m:MC)(i:Nat)(x:Oo):Bool:=isAt m.N i x&&match rn x m.sc.names with
 |some .local=>NM|some .cell=>m.all||(match rn x m.own with|some .cell=>NM|_=>NP)|_=>NP
noncomputable def b_(m:MC)(x:Oo):Bool:=oH x&&match rn x m.sc.names with
 |some .globalImplicit=>NM|_=>NP
noncomputable def aw:Ob->Bool
 |.Starred _ _=>NM|_=>NP
theorem aQ{e:Ob}{es:List Ob}{env:Uc}(h:aw e=NP):Og (e::es) env=(NP,Qa e env)::Og es env:=by cases e<;>first|rfl|(cases h)
theorem dw{env:Uc}{pos:P8}:∀{es:List Ob},(es.all λe=>!aw e)=NM->(Qu pos (Og es env)).any (·.1)=NP
 |[],_=>rfl|e::es,h=>by
  rw[Q9,N0,P4]at h;rw[aQ h.1];show(NP||(Qu pos (Og es env)).any (·.1))=NP;rw[dw h.2];rfl
noncomputable def oI:Ob->Bool
 |.Call _ [] [] _=>NM|_=>NP
noncomputable def c9:Ob->Bool
 |.Set _ _ _=>NM|_=>NP
noncomputable def oJ:Ob->Bool
 |.Slice _ _ _ _=>NM|_=>NP
noncomputable def oK:Ob->Bool
 |.UnaryOp .Not _ _=>NP|.BoolOp _ _ _=>NP|.IfExp _ _ _ _=>NP|.Compare _ _ _ _=>NP|_=>NM
noncomputable def zt(outer sc:Qr):Qr:={sc with names:=sc.names.map λ(n,k)=>if(k==PQ&&outer.kind==.function&&outer.names.lookup n==NF .cell)then(n,PB)else(n,k)}
noncomputable def dN(m:MC)(own fr:List Oo)(sc:Qr):MC:=⟨own++fr,zt m.sc sc,NP,sc.names⟩
noncomputable def bY(m:MC)(js:List Nat):List Oo:=js.map λj=>(m.N[j]?).getD ""
noncomputable def HP:List Oo->Bool
 |[]=>NM|x::r=>(r.all λy=>!sEq x y)&&HP r
noncomputable def vp:List Nat->Bool
 |[]=>NM|x::r=>(r.all λy=>!Nat.beq x y)&&vp r
noncomputable def rp(m:MC)(own:List Oo)(js:List Nat)(sc:Qr):Bool:=m7 m.sc sc&&(js.all λj=>decide (j<m.N.length))&&((bY m js).all λx=>rn x sc.names==NF .free)&&vp js&&HP (own++bY m js)
noncomputable def hU:BI->Oo|.len=>"len"|.tuple=>"tuple"|.sorted=>"sorted"|.repr=>"repr"|.int=>"int"|.str=>"str"|.dict=>"dict"|.max=>"max"|.min=>"min"|.set=>"set"
noncomputable def dq:List Oo:=["len","int","str","tuple","list","sorted","repr","dict","isinstance","bool","range","enumerate","max","min","set"]
structure XC(g:d4)(v:Ev)(m:MC)(X:Cx)(F:Fx):Prop where
 hK:X.K=F.K
 hP:X.prog=F.P
 hw:X.w=F.w
 hN:X.N=m.N
 nd:m.N.Nodup
 sc:X.env.scope=m.sc
 calm:X.calm=NM
 un:X.A.units+64<Pj
 fn:m.all=NM->∀x,X.fn x=NM
 fo:∀x,rn x m.own=NF .cell->X.fn x=NM
 Me:X.A.mark NN=X.A
 bl:∀x∈dq,X.mg x=NN
 df:∀f x,g.dn[f]?=NF x->∃n k,d9 k X.A/\ly X.prog X.w X.K X.mg X.base x n k (λas=>(v.call f as).ay)/\∀as,as.length≠n->v.call f as=.stuck
 xo:xx X F
 top:m.all=NM->X.stack=X.env::X.outer/\X.env.frame=NF X.env.locals
 cl:∀c x C,g.cn[c]?=NF x->v.cls c=NF C->X.mg x=NF (.ref C)DL:∀C,v.how C=NM->qm X.K C=NM
 gd:X.A.guards=NF []sb:∀c P b,v.sub c P=NF b->gY X.K c P=NF b
 wU:∀c u b,v.ins c u=NF b->AF X.K c=NM/\Py X.K (.ref c) u=NF b
 co:∀i x d,g.gn[i]?=NF x->v.ku i=NF d->∃u w,X.mg x=NF u/\RelV w u/\∀H,H F.p≠NN->X.K.lookup F.p=NN->Is F.toFb H w d
 ct:∀i x d,g.gn[i]?=NF x->v.ku i=NF d->j6 d=NM->∃a o,X.mg x=NF (.ref a)/\X.K.lookup a=NF o/\o.cls=.type "tuple"/\o.dict=NN
 code:m.all=NM->∃q,Qk X.K X.env.code q=NM
section
variable{g:d4}{v:Ev}{m:MC}{X:Cx}{F:Fx}
theorem XC.at_(h:XC g v m X F){i:Nat}{x:Oo}(q:isAt m.N i x=NM):X.N[i]?=NF x:=by rw[h.hN];exact d5 q
theorem XC.lk(h:XC g v m X F)(x:Oo):rn x m.sc.names=X.env.scope.names.lookup x:=by rw[lU,h.sc]
theorem XC.Ce(h:XC g v m X F){i:Nat}{x:Oo}(q:eS m i x=NM):X.N[i]?=NF x/\t4 X.env.scope x/\(x==("__debug__":Oo))=NP/\(x==("__classdict__":Oo))=NP:=by
 simp only[eS,N0]at q;obtain⟨⟨c,b⟩,a⟩:=q;have p:=nG b;refine⟨h.at_ c,?_,p.1,p.2.1⟩;unfold t4;rw[<-h.lk];split at a;.rename_i e;exact .inl e
 .rename_i e;exact .inr (.inl e)
 .rename_i e;exact .inr (.inr e)
 .cases a
theorem XC.loc(h:XC g v m X F){i:Nat}{x:Oo}(q:e8 m i x=NM):X.N[i]?=NF x/\Loc X.env.scope x/\(X.fn x=NM\/X.env.scope.names.lookup x=NF .local):=by
 simp only[e8,N0]at q;obtain⟨b,a⟩:=q;refine⟨h.at_ b,?_⟩;unfold Loc;rw[<-h.lk];split at a;.rename_i e;exact⟨.inl e,.inr e⟩
 .rename_i e;rw[PR]at a;refine⟨.inr e,.inl ?_⟩;rcases a with a|a;.exact h.fn a x
  .split at a;.rename_i c;exact h.fo x c
   .cases a
 .cases a
theorem XC.gl(h:XC g v m X F){x:Oo}(q:b_ m x=NM):Gl X x/\(x==("__debug__":Oo))=NP/\x≠"__name__":=by
 simp only[b_,N0]at q;obtain⟨b,a⟩:=q;have p:=nG b;refine⟨?_,p.1,p.2.2⟩;show X.env.scope.names.lookup x=_;rw[<-h.lk];split at a;.rename_i e;exact e
 .cases a
end
section
variable{X:Cx}{F:Fx}{e:Ob}
noncomputable abbrev Fx.rq(F:Fx):Fx:={F with E:=λ_ _=>False}
theorem T.fM{d:Type}:∀(t:T d){k Q E},t.calm.ay.run k Q E->t.ay.run k Q (λ_ _=>False)
 |.ok a,_,_,_,h=>h|.exc x,_,_,_,h=>h.elim|.stuck,_,_,_,h=>h.elim|.draw n f,k,Q,E,h=>by
  have h:(T.iO n).run k (λi c=>(f i).calm.ay.run c Q E) E:=h;show(T.iO n).run k (λi c=>(f i).ay.run c Q _) _;obtain⟨m,j,g⟩:=h;exact⟨m,j,λc a b i p=>T.fM (f i) (g c a b i p)⟩|.perm l f,k,Q,E,h=>λi p=>T.fM (f i) (h i p)
theorem iZ{ρ:af}{k:Nat}{σ:St}{H:Hp}:bX F ρ k σ H↔bX F.rq ρ k σ H:=⟨λh=>⟨h.len,h.at_,h.apart,h.live,h.ext,h.km⟩,λh=>⟨h.len,h.at_,h.apart,h.live,h.ext,h.km⟩⟩
theorem DE.calm{t:af->T D}(h:DE X F.rq e λρ=>(t ρ).ay):DE X F e λρ=>(t ρ).calm.ay:=⟨h.hK,h.pe.imp λa H Q⟨ρ,k,S,z⟩=>⟨ρ,k,iZ.mp S,T.fM _ z⟩⟩
theorem lj.calm{ifs:List Ob}{t:af->T Bool}(h:lj X F.rq ifs λρ=>(t ρ).ay):lj X F ifs λρ=>(t ρ).calm.ay:=⟨h.hK,λa s b H Q I⟨ρ,k,S,z⟩=>h.pi a s b H Q I ⟨ρ,k,iZ.mp S,T.fM _ z⟩⟩
end
theorem lV(d:D):Ref (cJ d).ay (jt d):=by cases d<;>first|exact .refl _|exact .fail
theorem dr(d:D):Ref (eC d).ay (fC d):=by cases d<;>first|exact .refl _|exact .fail
theorem cX:∀(as:List A),(iA as).ay=gS as
 |[]=>rfl|.d x::r=>by
  show(iA r>>=λa=>T.ok (x::a)).ay=_;rw[T.bx,cX r];rfl|.feed::_=>rfl
theorem au{a:Type}{b:Bool}{P:Prop}{t:T a}{m:M a}(h:b=NM->P)(q:Ref t.ay m):Ref (do T.need b;t:T a).ay (do M.need P;m):=by
 rw[T.bx];exact(Ref.need h).bind λ_=>q
theorem aa{c d:Type}{t:T c}{m:M c}{f:c->T d}{h:c->M d}(a:Ref t.ay m)(b:∀x,Ref (f x).ay (h x)):Ref (t>>=f).ay (m>>=h):=by
 rw[T.bx];exact a.bind b
theorem aV{a c:Type}{o:Option a}{f:a->T c}{h:a->M c}(b:∀x,Ref (f x).ay (h x)):Ref (T.get o>>=f).ay (M.get o>>=h):=aa .get b
section
variable{X:Cx}{F:Fx}
theorem JC(hu:X.A.units+64<Pj)(hP:X.prog=F.P)(hw:X.w=F.w)(o:VV):ji X F (RC o) (λd e=>(Cb o d e).ay):=by
 have two:∀{b:Int->Int->Bool}{C:Int->Int->Prop}{f:Int->Int->D}(d e:D),(∀i j,b i j=NM->C i j)->Ref (do let i<-eC d;let j<-eC e;T.need (b i j);T.ok (f i j):T D).ay (mI C f d e):=λd e h=>aa (dr d) λi=>aa (dr e) λj=>au (h i j) (.refl _);refine .ref λd e=>?_;cases o with
 |Add=>
  refine⟨Jc,BC,?_⟩;cases d<;>cases e<;>first|exact .refl _|exact .fail|exact au of_decide_eq_true (.refl _)
 |Sub=>cases d<;>cases e<;>first|exact⟨FD,uK,.refl _⟩|exact⟨FD,uK,.fail⟩
 |Mult=>
  refine⟨_,E6,two d e λi j h=>?_⟩;simp only[c8,PR,N0,decide_eq_true_eq]at h;exact h|Mod=>exact⟨_,E7,two d e λi j h=>of_decide_eq_true h⟩|_=>exact⟨λ_ _=>M.fail,⟨λa s c H k x y v u d e Q I rx ry l hK m g q=>q.elim⟩,.fail⟩
theorem zu(hu:X.A.units+64<Pj)(hP:X.prog=F.P)(hw:X.w=F.w)(o:RR):ji X F (O6 o) (λd e=>(cz o d e).ay):=by
 have n:X.A.units<Pj:=by omega
 have c:X.A.units+2<Pj:=by omega
 refine .ref λd e=>?_;cases o with
 |Eq=>exact⟨_,I_ hu,aV λ_=>.refl _⟩|NotEq=>exact⟨_,Ja hu,aV λ_=>.refl _⟩|Lt=>exact⟨_,IM,aa (dr d) λi=>aa (dr e) λj=>.refl _⟩|Is=>exact⟨_,E8,au (λh=>h) (.refl _)⟩|IsNot=>exact⟨_,Br,au (λh=>h) (.refl _)⟩|In=>
  by_cases hd:∃ks f,e=.aH ks f
  .obtain⟨ks,f,rfl⟩:=hd;exact⟨_,FT c hP hw,au cM (.refl _)⟩
  refine⟨_,Jb hu,?_⟩;have:cz .In d e=(do let a<-T.get (items e);let b<-T.get (gW d a);.ok (.bl b)):=by cases e<;>first|rfl|exact absurd ⟨_,_,rfl⟩ hd
  rw[this];exact aV λ_=>aV λ_=>.refl _|NotIn=>
  by_cases hd:∃ks f,e=.aH ks f
  .obtain⟨ks,f,rfl⟩:=hd;exact⟨_,wV c hP hw,au cM (.refl _)⟩
  by_cases m:∃a,e=.aA a
  .obtain⟨a,rfl⟩:=m;refine⟨_,B6 hP hw,au of_decide_eq_true ?_⟩;cases d<;>first|exact .refl _|exact .fail
  refine⟨_,yD hu,?_⟩;have:cz .NotIn d e=(do let a<-T.get (items e);let b<-T.get (gW d a);.ok (.bl (!b))):=by cases e<;>first|rfl|exact absurd ⟨_,_,rfl⟩ hd|exact absurd ⟨_,rfl⟩ m
  rw[this];exact aV λ_=>aV λ_=>.refl _|_=>exact⟨λ_ _=>M.fail,⟨λg s p H k x y v u d e Q I rx ry l hK t r q=>q.elim⟩,.fail⟩
theorem JD(hu:X.A.units+64<Pj)(hP:X.prog=F.P)(hw:X.w=F.w):K4 X F (λd e=>(dM d e).ay):=by
 refine⟨λhK a b c s g H x y v u Q I rx ry h n=>?_⟩;obtain⟨k,d,e,l,m,j,q⟩:=h;by_cases hd:∃ks f,d=.aH ks f
 .obtain⟨ks,f,rfl⟩:=hd;refine(BL (X:=X) (F:=F) (by omega) hP hw).ix hK a b c s g H x y v u Q I rx ry ⟨k,_,e,l,m,j,?_⟩ n;have:Ref (dM (.aH ks f) e).ay (Jn (.aH ks f) e):=au cM .get;exact this _ _ _ q
 .refine(Bw (X:=X) (F:=F)).ix hK a b c s g H x y v u Q I rx ry ⟨k,d,e,l,m,j,?_⟩ n;have o:dM d e=JB d e:=by cases d<;>first|rfl|exact absurd ⟨_,_,rfl⟩ hd
  have:Ref (dM d e).ay (MQ d e):=by
   rw[o];exact aa (dr e) λi=>by cases d<;>first|exact .fail|exact .get|exact au of_decide_eq_true .get
  exact this _ _ _ q
end
section
variable{X:Cx}{F:Fx}
theorem aX.stuck{f:NJ}:aX X F f (λ_=>M.fail):=⟨λa s b H k c d g Q I e l hK i q=>q.elim⟩
theorem aX.one{f:NJ}{t:List D->T D}(e:t []=.stuck)(c:∀a b r,t (a::b::r)=.stuck)(h:∀d,∃m,aX X F f m/\Ref (t [d]).ay (m [d])):aX X F f (λds=>(t ds).ay):=.ref λds=>by match ds with
 |[]=>exact⟨_,.stuck,by rw[e];exact .fail⟩|[d]=>exact h d|a::b::r=>exact⟨_,.stuck,by rw[c];exact .fail⟩
theorem aX.two{f:NJ}{t:List D->T D}{m:List D->M D}(h:aX X F f m)(e:∀d e,Ref (t [d,e]).ay (m [d,e]))(j:t []=.stuck)(i:∀a,t [a]=.stuck)(g:∀a b c r,t (a::b::c::r)=.stuck):aX X F f (λds=>(t ds).ay):=.ref λds=>by match ds with
 |[]=>exact⟨_,.stuck,by rw[j];exact .fail⟩|[a]=>exact⟨_,.stuck,by rw[i];exact .fail⟩|[d,x]=>exact⟨_,h,e d x⟩|a::b::c::r=>exact⟨_,.stuck,by rw[g];exact .fail⟩
noncomputable def zv:BI->NJ|.len=>.builtin "len"|.tuple=>.type "tuple"|.sorted=>.builtin "sorted"|.repr=>.builtin "repr"|.int=>.type "int"|.str=>.type "str"|.dict=>.type "dict"|.max=>.builtin "max"|.min=>.builtin "min"|.set=>.type "set"
theorem Gj(f:BI):P7 (hU f)=NF (zv f):=by cases f<;>(simp only[hU,zv];decide+kernel)
theorem JE(a:X.calm=NM)(e:X.A.guards=NF [])(hu:X.A.units+64<Pj)(hP:X.prog=F.P)(hw:X.w=F.w)(f:BI):aX X F (zv f) (λds=>(vk f ds).ay):=by cases f with
 |len=>
  refine .one rfl (λ_ _ _=>rfl) λd=>?_;cases d with
  |tup _=>exact⟨_,yq,.refl _⟩|lst _=>exact⟨_,yq,.refl _⟩|_=>exact⟨_,.stuck,.fail⟩
 |tuple=>exact .one rfl (λ_ _ _=>rfl) λd=>⟨_,yr,aV λ_=>.refl _⟩|sorted=>
  refine .one rfl (λ_ _ _=>rfl) λd=>?_;by_cases c:∃b,d=.aA b
  .obtain⟨b,rfl⟩:=c;exact⟨_,zk a hP hw,au of_decide_eq_true (.refl _)⟩
  refine⟨_,zc a (by omega),?_⟩;show Ref (q_ d).ay (zb d);have:q_ d=(do let ds<-T.get (gA d);T.need (decide (ds.length<=NW)&&gp ds);T.perm ds λl=>.ok (.lst l)):=by cases d<;>first|rfl|exact absurd ⟨_,rfl⟩ c
  rw[this];exact aV λds=>au (λz=>by rw[N0]at z;exact⟨of_decide_eq_true z.1,z.2⟩) (.refl _)|repr=>exact .one rfl (λ_ _ _=>rfl) λd=>⟨_,B4 e (by omega),au (λz=>by rw[N0]at z;exact z) (.refl _)⟩|int=>
  refine .one rfl (λ_ _ _=>rfl) λd=>⟨_,Fk,?_⟩;cases d<;>first|exact .refl _|exact .fail
 |str=>
  refine .one rfl (λ_ _ _=>rfl) λd=>⟨_,Fm,?_⟩;cases d<;>first|exact au of_decide_eq_true (.refl _)|exact .fail
 |dict=>
  refine .one rfl (λ_ _ _=>rfl) λd=>⟨_,zd a (by omega) hP hw,?_⟩;cases d<;>first|exact aV λ_=>.refl _|exact .fail
 |set=>
  refine .one rfl (λ_ _ _=>rfl) λd=>⟨_,B8 a hP hw,?_⟩;cases d<;>first|exact aV λ_=>au of_decide_eq_true (.refl _)|exact .fail
 |max=>exact .two (Gc a hu) (λ_ _=>.get) rfl (λ_=>rfl) λ_ _ _ _=>rfl|min=>exact .two (Gd a hu) (λ_ _=>.get) rfl (λ_=>rfl) λ_ _ _ _=>rfl
end
theorem iF{o:Ob}{n:Oo}{env:Uc}{w:UG NJ}(h:oI o=NP):R0 o n env w=w:=by
 unfold R0;split;.cases h
 .rfl
theorem jT{a:Type}:∀{l:List (Bool×a)},l.any (·.1)=NP->l.all (λx=>!x.1)=NM
 |[],_=>rfl|x::l,h=>by
  rw[Rv,Bool.or_eq_false_iff]at h;rw[Q9,h.1,jT h.2];rfl
theorem jz{e:Ob}(h:c9 e=NP)(env:Uc)(x:NJ):QX e env x=pure x:=by cases e<;>first|rfl|cases h
theorem rz{e:Ob}(h:c9 e=NP)(o:RR):RZ o e=NP:=by cases e<;>first|rfl|cases h
theorem tH{b:Ob}(h:oJ b=NP):nU b:=by intro o i;cases b<;>first|rfl|cases h
theorem tJ{e:Ob}(h:oK e=NM)(env:Uc)(whole:UG NJ):Vg e env whole=(do let v<-whole;SR e.pos;TB [v] (truthy v)):=by cases e with
 |UnaryOp o a p=>cases o<;>first|rfl|cases h
 |BoolOp _ _ _=>cases h|IfExp _ _ _ _=>cases h|Compare _ _ _ _=>cases h|_=>rfl
theorem f_:∀{l:List Oo},HP l=NM->l.Nodup
 |[],_=>.nil|x::r,h=>by
  simp only[HP,N0,O8,P4]at h;exact List.nodup_cons.mpr ⟨(λz=>by have:=h.1 x z;rw[rm]at this;exact nomatch this),f_ h.2⟩
theorem nH:∀{l:List Nat},vp l=NM->l.Nodup
 |[],_=>.nil|x::r,h=>by
  simp only[vp,N0,O8,P4]at h;exact List.nodup_cons.mpr ⟨(λz=>by have:=h.1 x z;rw[Nat.beq_refl]at this;exact nomatch this),nH h.2⟩
section
variable{g:d4}{v:Ev}{m:MC}{X:Cx}{F:Fx}
theorem XC.dP(h:XC g v m X F){own:List Oo}{js:List Nat}{sc:Qr}(q:rp m own js sc=NM)(pins:List (NR×OW))(cl:List (Oo×NR))(C:NR)(a:List NR)(s:NL)(H:Hp):XC g v (dN m own (bY m js) sc) (dP X pins sc (own++bY m js) cl C a s H) F.rq where
 hK:=h.hK;hP:=h.hP;hw:=h.hw;hN:=rfl;nd:=by
  simp only[rp,N0]at q;exact f_ q.2
 sc:=by
  show XO sc X.env=zt m.sc sc;unfold XO zt XH;rw[h.sc]
 calm:=h.calm;un:=h.un;fn:=λz=>nomatch z;fo:=λx e=>by
  show(sc.names.lookup x==NF .cell)=NM;have e:rn x sc.names=NF .cell:=e;rw[<-lU,e];rfl
 Me:=h.Me;bl:=h.bl;df:=h.df;xo:=xx.never λ_ _ z=>z;top:=λz=>nomatch z;cl:=h.cl;DL:=h.DL;gd:=h.gd;sb:=h.sb;wU:=h.wU;co:=h.co;ct:=h.ct;code:=λz=>nomatch z
theorem zw(h:XC g v m X F){own:List Oo}{js:List Nat}{sc:Qr}(q:rp m own js sc=NM):m7 X.env.scope sc=NM/\js.map (λj=>X.N[j]?)=(bY m js).map NF/\(∀x∈bY m js,sc.names.lookup x=NF .free)/\js.Nodup:=by
 simp only[rp,N0,O8,decide_eq_true_eq]at q;obtain⟨⟨⟨⟨d,c⟩,b⟩,a⟩,f⟩:=q;refine⟨by rw[h.sc];exact d,?_,λx hx=>?_,nH a⟩
 .unfold bY;rw[PJ];refine Q8 λj e=>?_;rw[h.hN];have:=c j e;simp[this]
 .have:=b x hx;rw[<-lU];exact beq_iff_eq.mp this
inductive Ch(P:Prop)where|y(h:P)|n
noncomputable def Ch.b{P Q:Prop}:Ch P->(P->Ch Q)->Ch Q
 |.y h,f=>f h|.n,_=>.n
noncomputable def Ch.ok{P:Prop}:Ch P->Bool
 |.y _=>NM|.n=>NP
theorem Ch.of{P:Prop}:∀{c:Ch P},c.ok=NM->P
 |.y h,_=>h|.n,q=>nomatch q
noncomputable def cb:(b:Bool)->Ch (b=NM)
 |true=>.y rfl|false=>.n
noncomputable def cn:(b:Bool)->Ch (b=NP)
 |false=>.y rfl|true=>.n
noncomputable def cd(p:Prop):[d:Decidable p]->Ch p
 |.isTrue h=>.y h|.isFalse _=>.n
noncomputable abbrev QG(g:d4)(m:MC)(t:Tg)(e:Ob):Prop:=∀v X F,XC g v m X F->DG X F e (λd a=>(dv t d a).ay)
noncomputable abbrev JF(g:d4)(m:MC)(t:Tg)(es:List Ob):Prop:=∀v X F,XC g v m X F->Dq X F es (λd a=>(g_ t d a).ay)
theorem vq{env:Uc}{e:Ob}{es:List Ob}(h:aw e=NP):Qj (e::es) env=(NP,Tt e env)::Qj es env:=by cases e<;>first|rfl|(cases h)
theorem as_none{env:Uc}:∀{es:List Ob},(es.all λe=>!aw e)=NM->(Qj es env).length=es.length/\(Qj es env).findIdx? (·.1)=NN
 |[],_=>⟨rfl,rfl⟩|e::es,z=>by
  rw[Q9,N0,P4]at z;rw[vq z.1];obtain⟨b,a⟩:=as_none (env:=env) z.2;exact⟨by simp[b],by simp[List.findIdx?_cons,a]⟩
end
section
variable{g:d4}{m:MC}
theorem Mf{i:Nat}{x:Oo}{p:P8}(q:e8 m i x=NM):QG g m (.nm i) (.Name x p):=λv X F h=>by
 obtain⟨c,b,a⟩:=h.loc q;exact(Bx i (by rw[h.hN];exact h.nd) c b a h.hK).ref λd e=>.refl _
theorem Mg{n k:Nat}{r:Tg}{es:List Ob}{p:P8}(f:es.length=n)(c:(es.all λe=>!aw e)=NM)(i:JF g m r es):QG g m (.tup n r) (.Tuple es k p):=λv X F h=>by
 obtain⟨a1,j⟩:=as_none (env:=X.env) c;refine(Fq (n:=n) h.calm (i v X F h) (a1.trans f) j).ref λd b=>?_;cases d with
 |tup a=>
  show Ref (if a.length=n then g_ r a b else .stuck:T af).ay (do M.need (a.length=n);(g_ r a b).ay);by_cases e:a.length=n;.rw[if_pos e];exactλk Q E z=>⟨e,z⟩
  .rw[if_neg e];exact .fail|_=>exact .fail
theorem Mh:JF g m .nil []:=λv X F h=>(By h.hK).ref λd a=>by cases d<;>first|exact .refl _|exact .fail
theorem Mi{t r:Tg}{e:Ob}{es:List Ob}(a:aw e=NP)(b:QG g m t e)(c:JF g m r es):JF g m (.cons t r) (e::es):=λv X F h=>(yu (b v X F h) (c v X F h) (by rw[vq a];rfl)).ref λd f=>by cases d with
 |nil=>exact .fail|cons d i=>exact aa (.refl _) λ_=>.refl _
variable(g m)
mutual
noncomputable def cG:(t:Tg)->(e:Ob)->Ch (QG g m t e)
 |.nm i,e=>match e with
  |.Name x _=>(cb (e8 m i x)).b λq=>.y (Mf q)|_=>.n
 |.tup n r,e=>match e with
  |.Tuple a _ _=>(cd (a.length=n)).b λq=>(cb (a.all λe=>!aw e)).b λc=>(MW r a).b λh=>.y (Mg q c h)|_=>.n
 |.nil,_=>.n|.cons _ _,_=>.n
noncomputable def MW:(t:Tg)->(es:List Ob)->Ch (JF g m t es)
 |.nil,es=>match es with
  |[]=>.y Mh|_=>.n
 |.cons t r,es=>match es with
  |e::es=>(cn (aw e)).b λq=>(cG t e).b λh=>(MW r es).b λa=>.y (Mi q h a)|[]=>.n
 |.nm _,_=>.n|.tup _ _,_=>.n
end
end
section
variable{g:D->af->T af}{tc:af->T Bool}{te:af->T D}
theorem lW:∀(ds:List D)(ρ:af),Ref (dZ g tc te ds ρ).ay (m8 (λd ρ=>(g d ρ).ay) (λρ=>(tc ρ).ay) (λρ=>(te ρ).ay) ds ρ)
 |[],ρ=>.refl _|d::ds,ρ=>aa (.refl _) λa=>aa (.refl _) λb=>by cases b with
  |true=>exact aa (.refl _) λx=>aa (lW ds a) λr=>.refl _|false=>exact lW ds a
variable{β:Type}{em:β->af->T (β×af)}
theorem jA{e:β->af->M (β×af)}(a:∀acc ρ,Ref (em acc ρ).ay (e acc ρ)):∀(acc:β)(ds:List D)(ρ:af),Ref (fL g tc em acc ds ρ).ay (nA (λd ρ=>(g d ρ).ay) (λρ=>(tc ρ).ay) e acc ds ρ)
 |acc,[],ρ=>.refl _|acc,d::ds,ρ=>aa (.refl _) λc=>aa (.refl _) λb=>by cases b with
  |true=>exact aa (a acc c) λr=>jA a r.1 ds r.2|false=>exact jA a acc ds c
end
section
variable{g:d4}{v:Ev}{m:MC}{X:Cx}{F:Fx}
theorem xf{ρ:af}{i:Nat}(h:jy ρ i=NM):ρ[i]?=NF (NF .feed):=by
 unfold jy at h;split at h;.assumption
 .cases h
theorem XC.JG(h:XC g v m X F){c:NR}{u:NJ}{b:Bool}(e:v.ins c u=NF b)(nm:List D):gz X.K (.exc c nm) u=NF b:=by
 unfold gz;dsimp only;rw[if_pos (h.wU c u b e).1];exact(h.wU c u b e).2
theorem zx(h:XC g v m X F){Ty:String}(d:D):Ref (vn v Ty d).ay (do let b<-M.get (gz X.K d (.type Ty));pure (.bl b)):=by
 by_cases hx:∃c nm,d=.exc c nm
 .obtain⟨c,nm,rfl⟩:=hx;intro k Q E z;have z:(T.get (v.ins c (.type Ty))>>=λb=>T.ok (.bl b):T D).ay.run k Q E:=z;rw[T.bx,T.iP]at z;obtain⟨b,hb,q⟩:=M.run_get.mp z;exact M.run_get.mpr ⟨b,h.JG hb nm,q⟩
 .have e:vn v Ty d=DH Ty d:=by cases d<;>first|rfl|exact absurd ⟨_,_,rfl⟩ hx
  rw[e];intro k Q E z;have z:(T.get (Fo d)>>=λt=>T.get (Py [] (.type t) (.type Ty))>>=λb=>T.ok (.bl b):T D).ay.run k Q E:=z;rw[T.bx,T.iP]at z;obtain⟨t,a,z⟩:=M.run_get.mp z;dsimp only at z;rw[T.bx,T.iP]at z;obtain⟨b,hb,q⟩:=M.run_get.mp z;refine M.run_get.mpr ⟨b,?_,q⟩;have f:gz X.K d (.type Ty)=match Fo d with
    |some t=>Py X.K (.type t) (.type Ty)|none=>NN:=by cases d<;>first|rfl|exact absurd ⟨_,_,rfl⟩ hx
  rw[f,a];exact hb
theorem xg(h:XC g v m X F){P:NR}(d:D):Ref (rb v P d).ay (do let b<-M.get (gz X.K d (.ref P));pure (.bl b)):=by cases d with
 |exc c nm=>
  intro k Q E z;have z:(T.get (v.ins c (.ref P))>>=λb=>T.ok (.bl b):T D).ay.run k Q E:=z;rw[T.bx,T.iP]at z;obtain⟨b,hb,q⟩:=M.run_get.mp z;exact M.run_get.mpr ⟨b,h.JG hb nm,q⟩|_=>exact .fail
theorem Gk{x:Oo}(h:dq.contains x=NM):x∈dq:=List.contains_iff_mem.mp h
theorem Gm(f:BI):hU f∈dq:=by cases f<;>exact Gk rfl
theorem Cf(h:XC g v m X F){f:BI}{a:Ob}{es:List Ob}{p q:P8}{b:af->M (List A)}(ha:DA X F (a::es) b)(r:b_ m (hU f)=NM)(o:aw a=NP)(i:(es.all λe=>!aw e)=NM):DE X F (.Call (.Name (hU f) p) (a::es) [] q) (λρ=>do(vk f (<-gS (<-b ρ))).ay):=by
 obtain⟨n,l,k⟩:=h.gl r;have hb:=Gj f;have j:=h.bl _ (Gm f);have hd:=JE (X:=X) (F:=F) h.calm h.gd h.un h.hP h.hw f;have c:Og (a::es) X.env=(NP,Qa a X.env)::Og es X.env:=aQ o;have d:(Qu q (Og es X.env)).any (·.1)=NP:=dw i;cases f<;>first|exact yo hd j hb ha n k l c d|exact wG hd j hb ha n k l c d
end
section
variable{g:d4}{v:Ev}
noncomputable def T.plain{a:Type}:T a->Bool
 |.ok _=>NM|.stuck=>NM|_=>NP
theorem T.tK{a:Type}{t:T a}(h:t.plain=NM):t.calm=t:=by cases t<;>first|rfl|cases h
mutual
theorem nI:∀(t:Tg)(d:D)(ρ:af),(dv t d ρ).plain=NM
 |.nm i,d,ρ=>rfl|.tup n r,d,ρ=>by
  unfold dv;split
  .split;.exact lX r _ ρ
   .rfl
  .rfl|.nil,d,ρ=>by unfold dv;rfl|.cons _ _,d,ρ=>by unfold dv;rfl
theorem lX:∀(t:Tg)(ds:List D)(ρ:af),(g_ t ds ρ).plain=NM
 |.nil,ds,ρ=>by
  unfold g_;split<;>rfl|.cons t r,ds,ρ=>by
  unfold g_;split
  .rename_i d b;show(T.bind (dv t d ρ) λa=>g_ r b a).plain=NM;have h:=nI t d ρ;cases e:dv t d ρ with
   |ok a=>exact lX r b a|stuck=>rfl|_=>rw[e]at h;cases h
  .rfl|.nm _,ds,ρ=>by unfold g_;rfl|.tup _ _,ds,ρ=>by unfold g_;rfl
end
theorem zy(t:Tg)(d:D)(ρ:af):(dv t d ρ).calm=dv t d ρ:=T.tK (nI t d ρ)
theorem DG.rq{X:Cx}{F:Fx}{tg:Ob}{t:Tg}(h:DG X F.rq tg λd ρ=>(dv t d ρ).ay):DG X F tg λd ρ=>(dv t d ρ).ay:=⟨h.hK,h.pg.imp λw m H Q f=>by
  obtain⟨ρ,k,d,S,i,z⟩:=f;refine⟨ρ,k,d,iZ.mp S,i,?_⟩;have j:(dv t d ρ).ay.run k (λb g=>∀a c,Ext F.toFb H k c g->bX F b g a c->Q a c) (λ_ _=>False):=T.fM (dv t d ρ) (E:=F.E) (by rw[zy];exact z);exact M.wk j λb g q a c e l=>q a c e (iZ.mpr l)⟩
end
noncomputable abbrev QE(g:d4)(m:MC)(ex:Ex)(e:Ob):Prop:=∀v X F,XC g v m X F->DE X F e (λa=>(aK v ex a).ay)
noncomputable abbrev QU(g:d4)(m:MC)(ex:Ex)(e:Ob):Prop:=∀v X F,XC g v m X F->DU X F e (λa=>(aK v ex a).ay)
noncomputable abbrev QT(g:d4)(m:MC)(ex:Ex)(e:Ob):Prop:=∀v X F,XC g v m X F->DT X F e (λa=>(c4 v ex a).ay)
noncomputable abbrev QW(g:d4)(m:MC)(ex:Ex)(e:Ob):Prop:=∀v X F,XC g v m X F->xw X F e (λa=>(c4 v ex a).ay)
noncomputable abbrev QC(g:d4)(m:MC)(ex:Ex)(es:List Ob):Prop:=∀v X F,XC g v m X F->lj X F es (λa=>(c4 v ex a).ay)
noncomputable abbrev QA(g:d4)(m:MC)(ex:Ex)(es:List Ob):Prop:=∀v X F,XC g v m X F->DA X F es (λa=>(fZ v ex a).ay)
noncomputable abbrev QI(g:d4)(m:MC)(ex:Ex)(t e:Ob):Prop:=∀v X F,XC g v m X F->DI X F t e (λa=>(r8 v ex a).ay)
noncomputable abbrev QK(d:D)(c:Const):Prop:=∀X F,X.K=F.K->∀k p,DE X F (.Constant c k p) (λ_=>pure d)
noncomputable def cK:(d:D)->(c:Const)->Ch (QK d c)
 |.int i,c=>match c with
  |.int j=>(cd (j=i)).b λq=>.y (by subst q;exactλX F h k p=>EX h)|_=>.n
 |.bl a,c=>match c with
  |.bool b=>(cd (b=a)).b λq=>.y (by subst q;exactλX F h k p=>IK h)|_=>.n
 |.aU,c=>match c with
  |.none=>.y λX F h k p=>EY h|_=>.n
 |.str x,c=>match c with
  |.str y=>(cb (sEq x y)).b λq=>.y (by rw[bz q];exactλX F h k p=>EZ h)|_=>.n
 |_,_=>.n
section
variable{g:d4}{m:MC}
theorem JH{i:Nat}{x:Oo}{p:P8}(q:eS m i x=NM):QE g m (.var i) (.Name x p):=λv X F h=>by
 obtain⟨d,c,b,a⟩:=h.Ce q;exact(yj i d c b a h.hK).ref λe=>.get
theorem Mj{o o':VV}{a b:Ex}{x y:Ob}{p:P8}(q:o'=o)(ha:QE g m a x)(hb:QE g m b y):QE g m (.op o a b) (.BinOp x o' y p):=by
 subst q;exactλv X F h=>(IL (JC h.un h.hP h.hw o') (ha v X F h) (hb v X F h)).ref λc=>aa (.refl _) λ_=>aa (.refl _) λ_=>.refl _
theorem JJ{a:Ex}{x:Ob}{p:P8}(ha:QE g m a x):QE g m (.neg a) (.UnaryOp .USub x p):=λv X F h=>(FE (ha v X F h)).ref λb=>aa (.refl _) λd=>aa (dr d) λ_=>.refl _
theorem JK{o o':RR}{a b:Ex}{x y:Ob}{p:P8}(q:o'=o)(c:c9 y=NP)(ha:QE g m a x)(hb:QE g m b y):QE g m (.cmp o a b) (.Compare x [o'] [y] p):=by
 subst q;exactλv X F h=>(E3 (zu h.un h.hP h.hw o') (ha v X F h) (hb v X F h) (rz c o')).ref λd=>aa (.refl _) λ_=>aa (.refl _) λ_=>.refl _
theorem JL{a b:Ex}{x y:Ob}{r:List Ob}{p:P8}(ha:QE g m a x)(hb:QE g m b (.BoolOp .And (y::r) p)):QE g m (.and a b) (.BoolOp .And (x::y::r) p):=λv X F h=>(E_ (ha v X F h) (hb v X F h)).ref λc=>aa (.refl _) λd=>aa (lV d) λb=>by cases b<;>exact .refl _
theorem JM{a:Ex}{o:BoolOp}{x:Ob}{p:P8}(ha:QE g m a x):QE g m (.one a) (.BoolOp o [x] p):=λv X F h=>(E9 (ha v X F h)).ref λb=>.refl _
theorem JN{a:Ex}{x:Ob}{p:P8}(ha:QE g m a x):QE g m (.not a) (.UnaryOp .Not x p):=λv X F h=>(Fc (ha v X F h)).ref λb=>aa (.refl _) λd=>aa (lV d) λ_=>.refl _
theorem JO{r:Ex}{es:List Ob}{k:Nat}{p:P8}(a:QA g m r es):QE g m (.tup r) (.Tuple es k p):=λv X F h=>(Fh (a v X F h)).ref λb=>aa (.refl _) λas=>aa (.of_eq (cX as)) λc=>au of_decide_eq_true (.refl _)
theorem JP{r:Ex}{es:List Ob}{p:P8}(a:QA g m r es):QE g m (.lst r) (.List es p):=λv X F h=>(Fj (a v X F h)).ref λb=>aa (.refl _) λas=>aa (.of_eq (cX as)) λc=>au of_decide_eq_true (.refl _)
theorem JQ{a b:Ex}{x y:Ob}{p:P8}(q:oJ y=NP)(ha:QE g m a x)(hb:QE g m b y):QE g m (.idx a b) (.Subscript x y p):=λv X F h=>(IT (JD h.un h.hP h.hw) (ha v X F h) (hb v X F h) (tH q)).ref λc=>aa (.refl _) λ_=>aa (.refl _) λ_=>.refl _
theorem Mk{f:BI}{r:Ex}{x:Oo}{a:Ob}{es:List Ob}{p j:P8}(i:sEq x (hU f)=NM)(d:b_ m x=NM)(c:(es.all λe=>!aw e)=NM)(b:aw a=NP)(k:QA g m r (a::es)):QE g m (.bi f r) (.Call (.Name x p) (a::es) [] j):=λv X F h=>by
 obtain rfl:=bz i;exact(Cf h (k v X F h) d b c).ref λl=>aa (.refl _) λas=>aa (.of_eq (cX as)) λn=>.refl _
theorem Gn{f:Nat}{r:Ex}{x:Oo}{a:Ob}{es:List Ob}{p o:P8}(l:isAt g.dn f x=NM)(j:b_ m x=NM)(i:(es.all λe=>!aw e)=NM)(d:aw a=NP)(q:QA g m r (a::es)):QE g m (.call f r) (.Call (.Name x p) (a::es) [] o):=λv X F h=>by
 obtain⟨n,k,b,hd,s⟩:=h.df f x (d5 l);obtain⟨u,t,y⟩:=h.gl j;refine(BG hd b h.xo (q v X F h) u h.hP h.hw t (aQ d) (dw i)).ref λw=>aa (.refl _) λas=>?_;by_cases c:as.length=n
 .rw[T.FH];exactλk Q E z=>⟨c,z⟩
 .rw[s as c];exact .fail
theorem JR{Ty:String}{a:Ex}{x t:Oo}{y:Ob}{p o n:P8}(b1:P7 t=NF (.type Ty))(l:sEq x "isinstance"=NM)(k:dq.contains t=NM)(j:b_ m x=NM)(i:b_ m t=NM)(f:aw y=NP)(ha:QE g m a y):QE g m (.HN Ty a) (.Call (.Name x p) [y,.Name t n] [] o):=λv X F h=>by
 obtain rfl:=bz l;obtain⟨q,u,s⟩:=h.gl j;obtain⟨e,c,b⟩:=h.gl i;refine(y8 (p1:=p) (ha v X F h) (h.bl _ (Gk rfl)) (h.bl _ (Gk k)) b1 q e b c (aQ f)).ref λr=>aa (.refl _) λd=>?_;exact zx h d
theorem JS{c:Nat}{a:Ex}{x t:Oo}{y:Ob}{p r q:P8}(o:sEq x "isinstance"=NM)(n:isAt g.cn c t=NM)(l:b_ m x=NM)(k:b_ m t=NM)(j:aw y=NP)(ha:QE g m a y):QE g m (.DF c a) (.Call (.Name x p) [y,.Name t q] [] r):=λv X F h=>by
 obtain rfl:=bz o;obtain⟨s,z,w⟩:=h.gl l;obtain⟨i,f,u⟩:=h.gl k;cases e:v.cls c with
 |none=>
  refine(DE.stuck h.hK).ref λb=>?_;show Ref (T.get (v.cls c)>>=λP=>aK v a b>>=λd=>rb v P d).ay _;rw[e];exact .fail|some P=>
  refine(y7 (x:=p) (p1:=p) (ha v X F h) (h.bl _ (Gk rfl)) (h.cl c t P (d5 n) e) s i f (aQ j)).ref λb=>?_;show Ref (T.get (v.cls c)>>=λP=>aK v a b>>=λd=>rb v P d).ay _;rw[e];exact aa (.refl _) λd=>xg h d
theorem JT{e:Ob}:QE g m .bad e:=λv X F h=>DE.stuck h.hK
theorem JU{i:Nat}{a:Ex}{e:Ob}(ha:QE g m a e):QE g m (.mv i a) e:=λv X F h=>((ha v X F h).mv i).ref λb=>aa (.refl _) λd=>au (λz=>z) (.refl _)
theorem JV{a:Ob}{es:List Ob}{c:P8}{env:Uc}(d:aw a=NP)(q:(es.all λe=>!aw e)=NM)(l:es.length<20):((Qu c (Og (a::es) env)).all (λx=>!x.1)&&(VY c (TK [] env)).all (λx=>x.1.isSome)&&decide ((a::es).length+([]:List Sj).length+(if([]:List Sj).isEmpty then 0 else 1)<30))=NM:=by
 have b:(Qu c (Og (a::es) env)).any (·.1)=NP:=by
  rw[aQ d];show(NP||(Qu c (Og es env)).any (·.1))=NP;rw[dw q];rfl
 rw[jT b];have:(a::es).length+([]:List Sj).length+(if([]:List Sj).isEmpty then 0 else 1)<30:=by
  show es.length+1+0+0<30;omega
 rw[decide_eq_true this];rfl
theorem zA(d:D)(ds:List D):Ref (vm d ds).ay (Dy d ds):=by
 cases d<;>first|exact .fail|skip
 match ds with
 |[]=>exact .fail|[_]=>exact .fail
 |[x,z]=>exact au (λz=>by
   rw[N0]at z;exact⟨cM z.1,of_decide_eq_true z.2⟩) (.refl _)|_::_::_::_=>exact .fail
theorem Gp{o r:Ex}{x a:Ob}{n:Oo}{es:List Ob}{i f:P8}(p:sEq n "get"=NM)(l:(i.endLine==f.line)=NM)(k:oI x=NP)(c:(es.all λe=>!aw e)=NM)(j:es.length<20)(b:aw a=NP)(s:QE g m o x)(q:QA g m r (a::es)):QE g m (.oF o r) (.Call (.Attribute x n i) (a::es) [] f):=λv X F h=>by
 obtain rfl:=bz p;have hu:=h.un;exact(BR (B1 (by omega) h.hP h.hw) PySem.F.plainAttrs_dict Ri PySem.F.type_dict_get (s v X F h) (q v X F h) (iF k) l (JV b c j) (aQ b) (dw c)).ref λu=>aa (.refl _) λd=>au (λz=>z) (aa (.refl _) λas=>aa (.of_eq (cX as)) λt=>zA d t)
theorem JW{i:Nat}{x:Oo}{p:P8}(c:b_ m x=NM)(b:isAt g.gn i x=NM):QE g m (.ku i) (.Name x p):=λv X F h=>by
 obtain⟨k,j,l⟩:=h.gl c;cases eg:v.ku i with
 |none=>
  refine(DE.stuck h.hK).ref λa=>?_;show Ref (T.get (v.ku i)).ay _;rw[eg];exact .refl _|some d=>
  obtain⟨u,w,e,r,f⟩:=h.co i x d (d5 b) eg;refine(zj k e r f j h.hK).ref λa=>?_;show Ref (T.get (v.ku i)).ay _;rw[eg];exact .refl _
theorem Gq(d:D)(ds:List D):Ref (Cc d ds).ay (zh d ds):=by
 cases d<;>first|exact .fail|skip
 match ds with
 |[]=>exact .fail|[x]=>exact au (λz=>by
   rw[N0]at z;exact⟨uP z.1,iS z.2⟩) (aV λ_=>.refl _)|_::_::_=>exact .fail
theorem JX{i:Nat}{r:Ex}{y n:Oo}{a:Ob}{np z f:P8}(E:sEq n "index"=NM)(D:(z.endLine==f.line)=NM)(q:isAt g.gn i y=NM)(C:b_ m y=NM)(B:aw a=NP)(G:QA g m r [a]):QE g m (.JA i r) (.Call (.Attribute (.Name y np) n z) [a] [] f):=λv X F h=>by
 obtain rfl:=bz E;have s:Og [a] X.env=(NP,Qa a X.env)::Og [] X.env:=aQ B;obtain⟨P,O,S⟩:=h.gl C;cases eg:v.ku i with
 |none=>
  refine(DE.stuck h.hK).ref λl=>?_;show Ref (T.get (v.ku i)>>=_).ay _;rw[eg];exact .fail|some d=>
  obtain⟨u,w,t,j,L⟩:=h.co i y d (d5 q) eg;cases e:j6 d with
  |false=>
   refine(DE.stuck h.hK).ref λl=>?_;show Ref (T.get (v.ku i)>>=_).ay _;rw[eg];show Ref (T.need (j6 d)>>=_).ay _;rw[e];exact .fail|true=>
   obtain⟨b,o,hb,lk,M,J⟩:=h.ct i y d (d5 q) eg e;rw[t]at hb;cases hb;have k:∀H,H F.p≠NN->X.K.lookup F.p=NN->Is F.toFb H (.ref b) d:=λH N I=>by
    have:=L H N I;cases d<;>first|cases e|skip
    simp only[Is]at this⊢;obtain⟨R,A,rfl,r⟩:=this;cases(show Of b=Of R from j);exact⟨_,A,rfl,r⟩
   have c:((Qu f (Og [a] X.env)).all (λx=>!x.1)&&(VY f (TK [] X.env)).all (λx=>x.1.isSome)&&decide ([a].length+([]:List Sj).length+(if([]:List Sj).isEmpty then 0 else 1)<30))=NM:=by rw[s];rfl
   refine(Ge P t O k lk M J (G v X F h) (iF (by rfl)) D c s rfl).ref λl=>?_;show Ref (T.get (v.ku i)>>=_).ay _;rw[eg];show Ref (T.need (j6 d)>>=_).ay _;rw[e];exact aa (.refl _) λas=>aa (.of_eq (cX as)) λQ=>Gq d Q
variable{own:List Oo}{js:List Nat}{sc:Qr}{tg tg2:Tg}{it c it2 c2 elt ke ve:Ex}{t i t2 i2 x y:Ob}{ifs ifs2:List Ob}{p:P8}
theorem Ml(d:rp m own js sc=NM)(e:c9 i=NP)(f:QI g m it t i)(j:QG g (dN m own (bY m js) sc) tg t)(l:QC g (dN m own (bY m js) sc) c ifs)(k:QE g (dN m own (bY m js) sc) elt x):QU g m (.lc own js tg it c elt) (.ListComp x [⟨t,i,ifs,0⟩] sc p):=λv X F h=>by
 obtain⟨b1,u,q,o⟩:=zw h d;exact(yX own (bY m js) js h.calm b1 u q o (f v X F h) (λa cl C b s H=>(j _ _ _ (h.dP d a cl C b s H)).rq) (λa cl C b s H=>(l _ _ _ (h.dP d a cl C b s H)).calm) (λa cl C b s H=>(k _ _ _ (h.dP d a cl C b s H)).calm) (jz e _)).ref λw=>aa (.refl _) λn=>aa (lW n _) λr=>.refl _
theorem zB{d b:af->T D}(a:List D×List D)(ρ:af):Ref (ra d b a ρ).ay (ze (λρ=>(d ρ).ay) (λρ=>(b ρ).ay) a ρ):=aa (.refl _) λx=>aa (.refl _) λy=>au (λz=>by
  rw[N0]at z;exact⟨cM z.1,of_decide_eq_true z.2⟩) (.refl _)
theorem Mm(d:rp m own js sc=NM)(j:c9 i=NP)(n:QI g m it t i)(o:QG g (dN m own (bY m js) sc) tg t)(q:QC g (dN m own (bY m js) sc) c ifs)(l:QE g (dN m own (bY m js) sc) ke x)(k:QE g (dN m own (bY m js) sc) ve y):QU g m (.dc own js tg it c ke ve) (.DictComp x y [⟨t,i,ifs,0⟩] sc p):=λv X F h=>by
 obtain⟨b1,B,z,w⟩:=zw h d;have hu:X.A.units+2<Pj:=by have:=h.un;omega
 exact(zf own (bY m js) js h.calm hu b1 B z w (n v X F h) (λa cl C b s H=>(o _ _ _ (h.dP d a cl C b s H)).rq) (λa cl C b s H=>(q _ _ _ (h.dP d a cl C b s H)).calm) (λa cl C b s H=>(l _ _ _ (h.dP d a cl C b s H)).calm) (λa cl C b s H=>(k _ _ _ (h.dP d a cl C b s H)).calm) (jz j _) h.hP h.hw).ref λf=>aa (.refl _) λu=>aa (jA (λe f=>zB e f) _ u _) λr=>.refl _
theorem Gu{i:Nat}{a:Ex}{e:Ob}(ha:QT g m a e):QT g m (.mv i a) e:=λv X F h=>((ha v X F h).mv i).ref λb=>.refl _
theorem zC{a b:Ex}{x y:Ob}{r:List Ob}{p:P8}(ha:QT g m a x)(hb:QW g m b (.BoolOp .And (y::r) p)):QW g m (.tF a b) (.BoolOp .And (x::y::r) p):=λv X F h=>(Fe (ha v X F h) (hb v X F h)).ref λd=>aa (.refl _) λb=>by cases b<;>exact .refl _
theorem DM{a b:Ex}{x y:Ob}{r:List Ob}{p:P8}(ha:QT g m a x)(hb:QW g m b (.BoolOp .Or (y::r) p)):QW g m (.Gh a b) (.BoolOp .Or (x::y::r) p):=λv X F h=>(IQ (ha v X F h) (hb v X F h)).ref λd=>aa (.refl _) λb=>by cases b<;>exact .refl _
theorem zD{a:Ex}{o:BoolOp}{x:Ob}{p:P8}(ha:QT g m a x):QW g m (.jx a) (.BoolOp o [x] p):=λv X F h=>by cases o with
 |And=>exact Bt (ha v X F h)|Or=>exact Fd (ha v X F h)
theorem Gw{ex:Ex}{e:Ob}(h:QW g m ex e):QT g m ex e:=λv X F z=>(h v X F z).dt
theorem Gx{a:Ex}{x:Ob}{p:P8}(ha:QT g m a x):QT g m (.tG a) (.UnaryOp .Not x p):=λv X F h=>(Ff (ha v X F h)).ref λb=>aa (.refl _) λ_=>.refl _
theorem JY{a:Ex}{e:Ob}(q:oK e=NM)(ha:QE g m a e):QT g m (.DD a) e:=λv X F h=>(F3 (ha v X F h) λw=>tJ q X.env w).ref λb=>aa (.refl _) λd=>.get
theorem Gy{o o':RR}{a b:Ex}{x y:Ob}{p:P8}(q:o'=o)(e:c9 y=NP)(ha:QE g m a x)(hb:QE g m b y):QT g m (.bC o a b) (.Compare x [o'] [y] p):=by
 subst q;exactλv X F h=>(E4 (zu h.un h.hP h.hw o') (ha v X F h) (hb v X F h) (rz e o')).ref λf=>by
  rw[M.bind_assoc];refine aa (.refl _) λ_=>?_;rw[M.bind_assoc];exact aa (.refl _) λ_=>aa (.refl _) λd=>lV d
theorem Gz{e:Ob}:QT g m .bad e:=λv X F h=>DT.stuck h.hK
theorem GA{e:Ob}:QW g m .bad e:=λv X F h=>⟨h.hK,λw a s b H Q I⟨d,k,S,z⟩=>z.elim⟩
theorem JZ:QC g m .yes []:=λv X F h=>(yB h.hK).ref λa=>.refl _
theorem J2{a:Ex}{e:Ob}(ha:QT g m a e):QC g m (.jx a) [e]:=λv X F h=>yC (ha v X F h)
theorem Mn:QA g m .nil []:=λv X F h=>(Fg h.hK).ref λa=>.refl _
theorem Mo{a r:Ex}{e:Ob}{es:List Ob}(q:aw e=NP)(ha:QE g m a e)(b:QA g m r es):QA g m (.cons a r) (e::es):=λv X F h=>(Bu (ha v X F h) (b v X F h) (aQ q)).ref λd=>aa (.refl _) λ_=>aa (.refl _) λ_=>.refl _
theorem Mp{i:Nat}{r:Ex}{x:Oo}{p:P8}{es:List Ob}(q:eS m i x=NM)(a:QA g m r es):QA g m (.feed i r) (.Name x p::es):=λv X F h=>by
 obtain⟨f,e,d,b⟩:=h.Ce q;exact(Bv i (a v X F h) f e d b rfl).ref λj=>au xf (aa (.refl _) λ_=>.refl _)
theorem J3{r:Ex}{x:Oo}{t a:Ob}{p k:P8}(f:sEq x "range"=NM)(e:b_ m x=NM)(b:aw a=NP)(l:QA g m r [a]):QI g m (.oE r) t (.Call (.Name x p) [a] [] k):=λv X F h=>by
 obtain rfl:=bz f;refine(wJ (h.bl _ (Gk rfl)) (l v X F h) (h.gl e).1 (aQ b)).ref λo=>aa (.refl _) λas=>aa (.of_eq (cX as)) λn=>?_;match n with
 |[]=>exact .fail|[d]=>exact aa (dr d) λj=>au (λz=>by simp only[N0,decide_eq_true_eq]at z;exact z) (.refl _)|_::_::_=>exact .fail
theorem J4{r:Ex}{x:Oo}{a:Ob}{b:List Ob}{k:Nat}{p n l:P8}(j:sEq x "enumerate"=NM)(f:b_ m x=NM)(e:aw a=NP)(o:QA g m r [a]):QI g m (.zm r) (.Tuple b k l) (.Call (.Name x p) [a] [] n):=λv X F h=>by
 obtain rfl:=bz j;refine(BE (h.bl _ (Gk rfl)) (o v X F h) (h.gl f).1 (aQ e)).ref λs=>aa (.refl _) λas=>aa (.of_eq (cX as)) λq=>?_;match q with
 |[]=>exact .fail|[d]=>cases d<;>first|exact .refl _|exact .fail
 |d::_::_=>cases d<;>exact .fail
theorem J5{a:Ex}{t e:Ob}(ha:QE g m a e):QI g m (.cO a) t e:=λv X F h=>(BS (ha v X F h)).ref λb=>aa (.refl _) λd=>.get
theorem GB{t e:Ob}:QI g m .bad t e:=λv X F h=>DI.stuck h.hK
end
noncomputable def Nk{g:d4}{m:MC}{own:List Oo}{js:List Nat}{tg:Tg}{it c e d:Ex}{gs:List TH}{x y:Ob}{sc:Qr}{p:P8}(o:∀t i,Ch (QI g m it t i))(q:∀l,Ch (QC g (dN m own (bY m js) sc) c l))(k:Ch (QE g (dN m own (bY m js) sc) e x))(j:Ch (QE g (dN m own (bY m js) sc) d y)):Ch (QU g m (.dc own js tg it c e d) (.DictComp x y gs sc p)):=match gs with
 |[⟨t,i,a,0⟩]=>(cb (rp m own js sc)).b λh=>(cn (c9 i)).b λf=>(o t i).b λw=>(cG g (dN m own (bY m js) sc) tg t).b λv=>(q a).b λu=>k.b λs=>j.b λr=>.y (Mm h f w v u s r)|_=>.n
noncomputable def MX{g:d4}{m:MC}{own:List Oo}{js:List Nat}{tg:Tg}{it c a:Ex}{gs:List TH}{x:Ob}{sc:Qr}{p:P8}(h:∀t i,Ch (QI g m it t i))(k:∀l,Ch (QC g (dN m own (bY m js) sc) c l))(j:Ch (QE g (dN m own (bY m js) sc) a x)):Ch (QU g m (.lc own js tg it c a) (.ListComp x gs sc p)):=match gs with
 |[⟨t,i,d,0⟩]=>(cb (rp m own js sc)).b λf=>(cn (c9 i)).b λe=>(h t i).b λs=>(cG g (dN m own (bY m js) sc) tg t).b λr=>(k d).b λq=>j.b λo=>.y (Ml f e s r q o)|_=>.n
noncomputable def Ch.ue{g:d4}{m:MC}{ex:Ex}{e:Ob}(c:Ch (QU g m ex e)):Ch (QE g m ex e):=c.b λh=>.y λv X F z=>(h v X F z).de
mutual
noncomputable def cE(g:d4):(m:MC)->(ex:Ex)->(e:Ob)->Ch (QE g m ex e)
 |m,.var i,e=>match e with
  |.Name x _=>(cb (eS m i x)).b λq=>.y (JH q)|_=>.n
 |m,.cst d,e=>match e with
  |.Constant c _ _=>(cK d c).b λh=>.y λv X F z=>(h X F z.hK _ _).ref λM=>.refl _|_=>.n
 |m,.op o a b,e=>match e with
  |.BinOp x E y _=>(cd (E=o)).b λq=>(cE g m a x).b λh=>(cE g m b y).b λA=>.y (Mj q h A)|_=>.n
 |m,.neg a,e=>match e with
  |.UnaryOp .USub x _=>(cE g m a x).b λh=>.y (JJ h)|_=>.n
 |m,.cmp o a b,e=>match e with
  |.Compare x [E] [y] _=>(cd (E=o)).b λq=>(cn (c9 y)).b λk=>(cE g m a x).b λh=>(cE g m b y).b λA=>.y (JK q k h A)|_=>.n
 |m,.and a b,e=>match e with
  |.BoolOp .And (x::y::r) p=>(cE g m a x).b λh=>(cE g m b (.BoolOp .And (y::r) p)).b λA=>.y (JL h A)|_=>.n
 |m,.one a,e=>match e with
  |.BoolOp _ [x] _=>(cE g m a x).b λh=>.y (JM h)|_=>.n
 |m,.not a,e=>match e with
  |.UnaryOp .Not x _=>(cE g m a x).b λh=>.y (JN h)|_=>.n
 |m,.tup r,e=>match e with
  |.Tuple s _ _=>(cA g m r s).b λh=>.y (JO h)|_=>.n
 |m,.lst r,e=>match e with
  |.List s _=>(cA g m r s).b λh=>.y (JP h)|_=>.n
 |m,.idx a b,e=>match e with
  |.Subscript x y _=>(cn (oJ y)).b λq=>(cE g m a x).b λh=>(cE g m b y).b λA=>.y (JQ q h A)|_=>.n
 |m,.bi f r,e=>match e with
  |.Call (.Name x _) (a::s) [] _=>(cb (sEq x (hU f))).b λk=>(cb (b_ m x)).b λj=>(cb (s.all λe=>!aw e)).b λw=>(cn (aw a)).b λu=>(cA g m r (a::s)).b λh=>.y (Mk k j w u h)|_=>.n
 |m,.call f r,e=>match e with
  |.Call (.Name x _) (a::s) [] _=>(cb (isAt g.dn f x)).b λk=>(cb (b_ m x)).b λj=>(cb (s.all λe=>!aw e)).b λw=>(cn (aw a)).b λu=>(cA g m r (a::s)).b λh=>.y (Gn k j w u h)|_=>.n
 |m,.HN Ty a,e=>match e with
  |.Call (.Name x _) [y,.Name t _] [] _=>(cd (P7 t=NF (.type Ty))).b λK=>(cb (sEq x "isinstance")).b λk=>(cb (dq.contains t)).b λj=>(cb (b_ m x)).b λw=>(cb (b_ m t)).b λu=>(cn (aw y)).b λC=>(cE g m a y).b λh=>.y (JR K k j w u C h)|_=>.n
 |m,.DF c a,e=>match e with
  |.Call (.Name x _) [y,.Name t _] [] _=>(cb (sEq x "isinstance")).b λk=>(cb (isAt g.cn c t)).b λj=>(cb (b_ m x)).b λw=>(cb (b_ m t)).b λu=>(cn (aw y)).b λC=>(cE g m a y).b λh=>.y (JS k j w u C h)|_=>.n
 |m,.lc own B tg it c G,e=>match e with
  |.ListComp x gs sc p=>(MX (tg:=tg) (gs:=gs) (p:=p) (λt i=>cI g m it t i) (λl=>cC g (dN m own (bY m B) sc) c l) (cE g (dN m own (bY m B) sc) G x)).ue|_=>.n
 |m,.oF o r,e=>match e with
  |.Call (.Attribute x n I) (a::s) [] H=>(cb (sEq n "get")).b λk=>(cb (I.endLine==H.line)).b λj=>(cn (oI x)).b λw=>(cb (s.all λe=>!aw e)).b λu=>(cd (s.length<20)).b λC=>(cn (aw a)).b λD=>(cE g m o x).b λh=>(cA g m r (a::s)).b λA=>.y (Gp k j w u C D h A)|_=>.n
 |m,.ku i,e=>match e with
  |.Name x _=>(cb (b_ m x)).b λq=>(cb (isAt g.gn i x)).b λj=>.y (JW q j)|_=>.n
 |m,.dc own B tg it c L J,e=>match e with
  |.DictComp x y gs sc p=>(Nk (tg:=tg) (gs:=gs) (p:=p) (λt i=>cI g m it t i) (λl=>cC g (dN m own (bY m B) sc) c l) (cE g (dN m own (bY m B) sc) L x) (cE g (dN m own (bY m B) sc) J y)).ue|_=>.n
 |m,.JA i r,e=>match e with
  |.Call (.Attribute (.Name y _) n I) [a] [] H=>(cb (sEq n "index")).b λk=>(cb (I.endLine==H.line)).b λj=>(cb (isAt g.gn i y)).b λw=>(cb (b_ m y)).b λu=>(cn (aw a)).b λD=>(cA g m r [a]).b λh=>.y (JX k j w u D h)|_=>.n
 |_,.bad,_=>.y JT|m,.mv i a,e=>(cE g m a e).b λh=>.y (JU h)|_,_,_=>.n
noncomputable def cW(g:d4):(m:MC)->(ex:Ex)->(e:Ob)->Ch (QW g m ex e)
 |m,.tF a b,e=>match e with
  |.BoolOp .And (x::y::r) p=>(cT g m a x).b λh=>(cW g m b (.BoolOp .And (y::r) p)).b λc=>.y (zC h c)|_=>.n
 |m,.Gh a b,e=>match e with
  |.BoolOp .Or (x::y::r) p=>(cT g m a x).b λh=>(cW g m b (.BoolOp .Or (y::r) p)).b λc=>.y (DM h c)|_=>.n
 |m,.jx a,e=>match e with
  |.BoolOp _ [x] _=>(cT g m a x).b λh=>.y (zD h)|_=>.n
 |_,.bad,_=>.y GA|_,_,_=>.n
noncomputable def cT(g:d4):(m:MC)->(ex:Ex)->(e:Ob)->Ch (QT g m ex e)
 |m,.tF a b,e=>match e with
  |.BoolOp .And (x::y::r) p=>(cT g m a x).b λh=>(cW g m b (.BoolOp .And (y::r) p)).b λc=>.y (Gw (zC h c))|_=>.n
 |m,.Gh a b,e=>match e with
  |.BoolOp .Or (x::y::r) p=>(cT g m a x).b λh=>(cW g m b (.BoolOp .Or (y::r) p)).b λc=>.y (Gw (DM h c))|_=>.n
 |m,.jx a,e=>match e with
  |.BoolOp _ [x] _=>(cT g m a x).b λh=>.y (Gw (zD h))|_=>.n
 |m,.tG a,e=>match e with
  |.UnaryOp .Not x _=>(cT g m a x).b λh=>.y (Gx h)|_=>.n
 |m,.DD a,e=>(cb (oK e)).b λq=>(cE g m a e).b λh=>.y (JY q h)|m,.bC o a b,e=>match e with
  |.Compare x [f] [y] _=>(cd (f=o)).b λq=>(cn (c9 y)).b λd=>(cE g m a x).b λh=>(cE g m b y).b λc=>.y (Gy q d h c)|_=>.n
 |m,.mv i a,e=>(cT g m a e).b λh=>.y (Gu h)|_,.bad,_=>.y Gz|_,_,_=>.n
noncomputable def cC(g:d4):(m:MC)->(ex:Ex)->(es:List Ob)->Ch (QC g m ex es)
 |_,.yes,es=>match es with
  |[]=>.y JZ|_=>.n
 |m,.jx a,es=>match es with
  |[e]=>(cT g m a e).b λh=>.y (J2 h)|_=>.n
 |_,_,_=>.n
noncomputable def cA(g:d4):(m:MC)->(ex:Ex)->(es:List Ob)->Ch (QA g m ex es)
 |_,.nil,es=>match es with
  |[]=>.y Mn|_=>.n
 |m,.cons a r,es=>match es with
  |e::es=>(cn (aw e)).b λq=>(cE g m a e).b λh=>(cA g m r es).b λc=>.y (Mo q h c)|[]=>.n
 |m,.feed i r,es=>match es with
  |.Name x _::es=>(cb (eS m i x)).b λq=>(cA g m r es).b λh=>.y (Mp q h)|_=>.n
 |_,_,_=>.n
noncomputable def cI(g:d4):(m:MC)->(ex:Ex)->(t e:Ob)->Ch (QI g m ex t e)
 |m,.oE r,_,e=>match e with
  |.Call (.Name x _) [a] [] _=>(cb (sEq x "range")).b λf=>(cb (b_ m x)).b λd=>(cn (aw a)).b λc=>(cA g m r [a]).b λh=>.y (J3 f d c h)|_=>.n
 |m,.zm r,t,e=>match t,e with
  |.Tuple _ _ _,.Call (.Name x _) [a] [] _=>(cb (sEq x "enumerate")).b λf=>(cb (b_ m x)).b λd=>(cn (aw a)).b λc=>(cA g m r [a]).b λh=>.y (J4 f d c h)|_,_=>.n
 |m,.cO a,_,e=>(cE g m a e).b λh=>.y (J5 h)|_,.bad,_,_=>.y GB|_,_,_,_=>.n
end
noncomputable def zE(sc:Qr):ScopeKind:=if sc.kind.isAnnotationScope then .function else sc.kind
noncomputable def jB:Ob->Option Qr
 |.ListComp _ _ s _=>NF s|.SetComp _ _ s _=>NF s|.DictComp _ _ _ s _=>NF s|_=>NN
noncomputable def rA(m:MC)(x:Oo)(a:P8)(e:Ob):Bool:=match jB e with
 |none=>NP|some sc=>zE m.sc==.function&&m.sc.names.lookup x==NF .local&&a.line==e.pos.line&&!(sc.names.any λ(n,k)=>n==x&&(k==.local||k==.cell))
theorem swap_eq{m:MC}{env:Uc}(h:env.scope=m.sc)(x:Oo)(a:P8)(l:Nat)(e:Ob):Qz e (NF (.Name x a)) l env=pure (rA m x a e):=by
 unfold Qz rA Env.blockKind XH zE;rw[h];cases e<;>rfl
theorem rB{a:List Ob}{k:Nat}{p:P8}{env:Uc}(l:Nat)(e:Ob):UR [.Tuple a k p] e l env=pure NP:=by
 show Qz e (NF (.Tuple a k p)) l env=pure NP;unfold Qz;cases e<;>rfl
noncomputable def sj(sc:Qr):Uc:={scope:=sc,locals:=0,globals:=0,cells:=[]}
theorem rC{env c:Uc}(h:env.scope=c.scope)(a:List Ob)(b:Ob):QL a b env=QL a b c:=by
 unfold QL Env.blockKind XH;rw[h]
noncomputable def cN:(t:UG (Option (List Oo)))->Ch (t=pure NN)
 |.pure NN=>.y rfl|_=>.n
noncomputable def Nl(x y:Oo):(t:UG (Option (List Oo)))->Ch (t=pure (NF [x,y]))
 |.pure (NF [a,b])=>(cb (sEq a x)).b λd=>(cb (sEq b y)).b λc=>.y (by rw[bz d,bz c];rfl)|_=>.n
noncomputable def Mq(x:Oo)(k:Rb)(l:List (Oo×Rb)):Ch (rn x l=NF k):=match rn x l with
 |some j=>(cd (j=k)).b λq=>.y (by rw[q])|none=>.n
section
variable{g:d4}{v:Ev}{m:MC}{X:Cx}{F:Fx}
theorem oM{b:D->af->T af}{body:af->T Fl}:∀(ds:List D)(ρ:af),Ref (eR b body ds ρ).ay (wI (λd ρ=>(b d ρ).ay) (λρ=>(body ρ).ay) ds ρ)
 |[],ρ=>.refl _|d::ds,ρ=>aa (.refl _) λc=>aa (.refl _) λe=>by cases e with
  |nx a=>exact oM ds a|ct a=>exact oM ds a|bk a=>exact .refl _|rt r=>exact .refl _
theorem jC{c:af->T Bool}{body:af->T Fl}:∀(n:Nat)(ρ:af),Ref (cP c body n ρ).ay (eZ (λρ=>(c ρ).ay) (λρ=>(body ρ).ay) n ρ)
 |0,ρ=>.refl _|n+1,ρ=>aa (.refl _) λb=>by cases b with
  |true=>
   refine aa (.refl _) λd=>?_;cases d with
   |nx a=>exact jC n a|ct a=>exact jC n a|bk a=>exact .refl _|rt r=>exact .refl _
  |false=>exact .refl _
theorem XC.Nm(h:XC g v m X F){pn:List (NR×OW)}{xe:NJ->NL->Prop}{a:Xc->Nat->Prop}{Hs:Hp}{ks:Nat}(b:xx (X.as X.A NM pn xe) {F with E:=a,Hs:=Hs,ks:=ks}):XC g v m (X.as X.A NM pn xe) {F with E:=a,Hs:=Hs,ks:=ks}:=⟨h.hK,h.hP,h.hw,h.hN,h.nd,h.sc,rfl,h.un,h.fn,h.fo,h.Me,h.bl,h.df,b,h.top,h.cl,h.DL,h.gd,h.sb,h.wU,h.co,h.ct,h.code⟩
theorem oN(hh:Xc->T Fl):∀(t:T Fl),(t.j8 hh).ay=wN t.ay (λx=>(hh x).ay)
 |.ok a=>rfl|.exc x=>rfl|.stuck=>rfl|.draw n k=>by
  show(T.iO n>>=λi=>((k i).j8 hh).ay)=wN (T.iO n>>=λi=>(k i).ay) _;have:(λi=>((k i).j8 hh).ay)=λi=>wN (k i).ay (λx=>(hh x).ay):=by funext i;exact oN hh (k i)
  rw[this];rfl|.perm l k=>by
  show((M.any λi=>i.Perm l)>>=λi=>((k i).j8 hh).ay)=wN ((M.any λi=>i.Perm l)>>=λi=>(k i).ay) _;have:(λi=>((k i).j8 hh).ay)=λi=>wN (k i).ay (λx=>(hh x).ay):=by funext i;exact oN hh (k i)
  rw[this];rfl
theorem zF(h:XC g v m X F)(P:NR)(i y:Nat)(hd:Hd)(x:Xc):Ref (lT v P i y hd x).ay (qp X.K P (NF i) y hd x):=by
 unfold lT qp;split
 .rename_i c nm ex;try rw[ex]
  refine au (λq=>h.sb c P NM ?_) (aV λd=>.refl _);split at q;.assumption
  .cases q
 .exact .fail
theorem T.fN{d c e:Type}(f:d->T c)(b:c->T e):∀(t:T d),((t>>=f)>>=b)=(t>>=λa=>f a>>=b)
 |.ok a=>rfl|.exc x=>rfl|.stuck=>rfl|.draw n k=>by
  show T.draw n (λi=>((k i>>=f)>>=b))=T.draw n (λi=>(k i>>=λa=>f a>>=b));congr 1;funext i;exact T.fN f b (k i)|.perm l k=>by
  show T.perm l (λi=>((k i>>=f)>>=b))=T.perm l (λi=>(k i>>=λa=>f a>>=b));congr 1;funext i;exact T.fN f b (k i)
theorem nJ(d:D):Ref (lS d).ay (uV d):=by cases d<;>first|exact .refl _|exact .fail
theorem tL(d:D):Ref (zp d).ay (tD d):=by cases d<;>first|exact .refl _|exact .fail
theorem xh(d:D):Ref (rk d).ay (uW d):=by cases d<;>first|exact .refl _|exact .fail
theorem vt{e:Ob}(h:(jB e).isSome=NP)(l:Nat)(env:Uc)(t:Option Ob):Qz e t l env=pure NP:=by
 unfold Qz;cases e<;>first|rfl|cases h
end
noncomputable abbrev QS(g:d4)(m:MC)(s:bD)(st:Qq):Prop:=∀v X F,Ud (N2 X.prog X.w) X.A X.env X.xe->XC g v m X F->DS X F st (λa=>(ax v s a).ay)
noncomputable abbrev zG(g:d4)(m:MC)(s:bD)(a:List Qq):Prop:=∀v X F,Ud (N2 X.prog X.w) X.A X.env X.xe->XC g v m X F->wF X F a (λb=>(ax v s b).ay)
noncomputable abbrev QH(g:d4)(m:MC)(hd:Hd)(e:Ob):Prop:=(∀t l env,Qz e t l env=pure NP)/\∀v X F,XC g v m X F->∀A pn xe,DE (X.as A NP pn xe) F e (λa=>M.get (K6 hd a))
section
variable{g:d4}{m:MC}
theorem XC.vp{v:Ev}{X:Cx}{F:Fx}(h:XC g v m X F):X.N.Nodup:=by rw[h.hN];exact h.nd
theorem GC{j:Nat}{x:Oo}{p:P8}(q:eS m j x=NM):QH g m (.slot j) (.Name x p):=⟨λ_ _ _=>rfl,λv X F h A pn xe=>by
 obtain⟨d,c,b,a⟩:=h.Ce q;exact yj (X:=X.as A NP pn xe) j d c b a h.hK⟩
theorem J6{d:D}{c:Const}{k:Nat}{p:P8}(q:QK d c):QH g m (.cst d) (.Constant c k p):=⟨λ_ _ _=>rfl,λv X F h A pn xe=>q (X.as A NP pn xe) F h.hK k p⟩
noncomputable def cH(g:d4)(m:MC):(hd:Hd)->(e:Ob)->Ch (QH g m hd e)
 |.slot j,e=>match e with
  |.Name x _=>(cb (eS m j x)).b λq=>.y (GC q)|_=>.n
 |.cst d,e=>match e with
  |.Constant c _ _=>(cK d c).b λq=>.y (J6 q)|_=>.n
theorem J7{tg:Tg}{e:Ex}{a:List Ob}{k:Nat}{p b:P8}{x:Ob}(c:QG g m tg (.Tuple a k b))(f:QE g m e x)(q:QL [.Tuple a k b] x (sj m.sc)=pure NN):QS g m (.asg tg e) (.Assign [.Tuple a k b] x p):=λv X F _ h=>(Fs (f v X F h) (c v X F h) (rB _ _) ((rC (by rw[h.sc];rfl) _ _).trans q) rfl).ref λi=>aa (.refl _) λd=>aa (.refl _) λ_=>.refl _
theorem GD{i:Nat}{e:Ex}{n:Oo}{p b:P8}{x:Ob}(c:e8 m i n=NM)(j:QU g m e x)(f:rA m n b x=NM):QS g m (.set i e) (.Assign [.Name n b] x p):=λv X F _ h=>by
 obtain⟨o,l,k⟩:=h.loc c;have a:=swap_eq (m:=m) h.sc n b p.line x;rw[f]at a;exact(BM i h.vp (j v X F h) o l a k).ref λq=>aa (.refl _) λd=>.refl _
theorem J8{i:Nat}{e:Ex}{n:Oo}{p b:P8}{x:Ob}(c:e8 m i n=NM)(j:QE g m e x)(f:rA m n b x=NP):QS g m (.set i e) (.Assign [.Name n b] x p):=λv X F _ h=>by
 obtain⟨o,l,k⟩:=h.loc c;have a:=swap_eq (m:=m) h.sc n b p.line x;rw[f]at a;exact(yv i h.vp (j v X F h) o l a k).ref λq=>aa (.refl _) λd=>.refl _
theorem J9{e:Ex}{x:Ob}{p:P8}(a:QE g m e x):QS g m (.ret e) (.Return (NF x) p):=λv X F _ h=>(Fu (a v X F h)).ref λb=>aa (.refl _) λd=>.refl _
theorem J_{c:Ex}{a b:bD}{x:Ob}{xs d:List Qq}{p:P8}(f:QT g m c x)(ha:zG g m a xs)(hb:zG g m b d):QS g m (.iff c a b) (.If x xs d p):=λv X F e h=>(IZ (f v X F h) (ha v X F e h) (hb v X F e h)).ref λi=>aa (.refl _) λz=>by cases z<;>exact .refl _
theorem Ka{tg:Tg}{it:Ex}{b:bD}{t i:Ob}{xs:List Qq}{p:P8}(d:c9 i=NP)(e:QI g m it t i)(f:QG g m tg t)(hb:zG g m b xs):QS g m (.eE tg it b) (.For t i xs [] p):=λv X F a h=>(Fv a h.calm (e v X F h) (f v X F h) (hb v X F a h) (jz d _)).ref λc=>aa (.refl _) λj=>oM j c
theorem Kb{c:Ex}{b:bD}{x:Ob}{xs:List Qq}{p:P8}(e:QT g m c x)(hb:zG g m b xs):QS g m (.DK c b) (.While x xs [] p):=λv X F a h=>(yx a (e v X F h) (hb v X F a h)).ref λd k Q E z=>⟨bg,jC bg d k Q E z⟩
theorem Cg{c:Nat}{r:Ex}{x:Oo}{a:Ob}{es:List Ob}{p o n:P8}(l:isAt g.cn c x=NM)(k:b_ m x=NM)(j:(es.all λe=>!aw e)=NM)(i:aw a=NP)(q:QA g m r (a::es)):QS g m (.raise c r) (.Raise (NF (.Call (.Name x p) (a::es) [] o)) NN n):=λv X F _ h=>by
 obtain⟨t,s,u⟩:=h.gl k;have d:∀b,ax v (.raise c r) b=T.get (v.cls c)>>=λC=>T.need (v.how C)>>=λ_=>(fZ v r b>>=λas=>DJ v C as)>>=λx=>T.exc ⟨x,b⟩:=λb=>by
  show(T.get (v.cls c)>>=λC=>T.need (v.how C)>>=λ_=>fZ v r b>>=λas=>DJ v C as>>=λx=>T.exc ⟨x,b⟩)=_;simp only[T.fN]
 cases f:v.cls c with
 |none=>
  refine(DS.stuck h.hK).ref λb=>?_;rw[d,f];exact .fail|some C=>
  have ev:∀b,ax v (.raise c r) b=T.need (v.how C)>>=λ_=>(fZ v r b>>=λas=>DJ v C as)>>=λx=>T.exc ⟨x,b⟩:=λb=>by rw[d,f];rfl
  by_cases hw:v.how C=NM
  .refine(yP h.calm h.xo (q v X F h) t (h.cl c x C (d5 l) f) (h.DL C hw) s (aQ i) (dw j)).ref λb=>?_;rw[ev,hw];show Ref ((fZ v r b>>=λas=>DJ v C as)>>=λx=>T.exc ⟨x,b⟩:T Fl).ay _;rw[T.bx,T.bx,M.bind_assoc];refine(Ref.refl _).bind λas=>?_;unfold DJ;rw[T.bx,M.bind_assoc];exact(Ref.need of_decide_eq_true).bind λ_=>.refl _
  .refine(DS.stuck h.hK).ref λb=>?_;rw[ev,Bool.eq_false_iff.mpr hw];exact .fail
theorem Kc{i j:Nat}{r:Ex}{x y:Oo}{a b:Ob}{l k pt c p:P8}{n k2:Nat}(u:isAt m.N i x=NM)(t:isAt m.N j y=NM)(s:rn x m.sc.names=NF .local)(o:rn y m.sc.names=NF .local)(f:i≠j)(w:QA g m r [a,b])(q:QL [.Tuple [.Name x l,.Name y k] n pt] (.Tuple [a,b] k2 c) (sj m.sc)=pure (NF [x,y])):QS g m (.par i j r) (.Assign [.Tuple [.Name x l,.Name y k] n pt] (.Tuple [a,b] k2 c) p):=λv X F _ h=>(Ft i j h.calm h.vp (w v X F h) f (λpa=>Ep h.calm h.vp (h.at_ u) (h.at_ t) f (by rw[<-h.lk];exact s) (by rw[<-h.lk];exact o) pa ((rC (by rw[h.sc];rfl) _ _).trans q) (rB _ _))).ref λA=>aa (.refl _) λas=>aa (.of_eq (cX as)) λz=>by match z with
  |[]=>exact .fail|[_]=>exact .fail|[d,e]=>exact .refl _|_::_::_::_=>exact .fail
theorem Kd{b:bD}{c i y:Nat}{hd:Hd}{body:List Qq}{cn n l:Oo}{e:Ob}{p1 J I H s:P8}(p:m.all=NM)(G:isAt g.cn c cn=NM)(D:b_ m cn=NM)(C:isAt m.N i n=NM)(d:rn n m.sc.names=NF .local)(B:e8 m y l=NM)(o:QH g m hd e)(hb:zG g m b body):QS g m (.zo b c i y hd) (.Try body [.ExceptHandler (NF (.Name cn p1)) (NF n) [.Assign [.Name l s] e J] I] [] [] H):=λv X F S h=>by
 obtain⟨R,O,U⟩:=h.gl D;have L:=h.at_ C;have r:X.env.scope.names.lookup n=NF .local:=by rw[<-h.lk];exact d
 obtain⟨w,u,t⟩:=h.loc B;cases j:v.cls c with
 |none=>
  refine(DS.stuck h.hK).ref λa=>?_;show Ref (T.get (v.cls c)>>=λP=>(ax v b a).j8 (lT v P i y hd)).ay _;rw[j];exact .fail|some P=>
  refine(yR (i:=i) (y:=y) (hd:=hd) (h.top p).1 (h.top p).2 h.hK h.vp h.calm (λxe pn V Hs ks f M=>hb v _ _ f (h.Nm M)) R (h.cl c cn P (d5 G) j) O L r w u t (o.1 _ _ _) (λA pn xe=>o.2 v X F h A pn xe) r).ref λa=>?_;show Ref (T.get (v.cls c)>>=λP=>(ax v b a).j8 (lT v P i y hd)).ay _;rw[j];show Ref ((ax v b a).j8 (lT v P i y hd)).ay _;rw[oN];exactλk Q E z=>(ax v b a).ay.mono (show(ax v b a).ay.run k Q _ from z) (λ_ _ q=>q) λx K q=>zF h P i y hd x K Q E q
theorem Ke{st:Qq}:QS g m .bad st:=λv X F _ h=>(DS.stuck h.hK).ref λa=>.fail
theorem GF{i:Nat}{r:Ex}{n:Oo}{es:List Ob}{p a b:P8}(q:e8 m i n=NM)(c:QA g m r es):QS g m (.rh i r) (.Assign [.Name n a] (.List es b) p):=λv X F _ h=>by
 obtain⟨f,e,d⟩:=h.loc q;exact(BN i h.vp (c v X F h) f e d).ref λj=>aa (.refl _) λas=>aa (.of_eq (cX as)) λk=>au of_decide_eq_true (.refl _)
theorem GG{i:Nat}{n:Oo}{p a b:P8}(q:e8 m i n=NM):QS g m (.gZ i) (.Assign [.Name n a] (.Dict [] [] b) p):=λv X F _ h=>by
 obtain⟨e,d,c⟩:=h.loc q;exact(BO i h.vp h.hK e d c).ref λf=>.refl _
theorem Kf{i:Nat}{e:Ex}{x f:Oo}{a:Ob}{np c b p:P8}(n:sEq f "append"=NM)(l:eS m i x=NM)(k:(c.endLine==b.line)=NM)(j:aw a=NP)(o:QE g m e a):QS g m (.app i e) (.Expr (.Call (.Attribute (.Name x np) f c) [a] [] b) p):=λv X F _ h=>by
 obtain rfl:=bz n;obtain⟨t,s,r,q⟩:=h.Ce l;exact(FV i t s r q (o v X F h) k (aQ j)).ref λu=>aV λd=>aa (nJ d) λw=>aa (.refl _) λy=>au of_decide_eq_true (.refl _)
theorem Kg{i:Nat}{k e:Ex}{x:Oo}{b a:Ob}{np sp p:P8}(f:eS m i x=NM)(c:(jB a).isSome=NP)(j:QE g m k b)(l:QE g m e a):QS g m (.put i k e) (.Assign [.Subscript (.Name x np) b sp] a p):=λv X F _ h=>by
 obtain⟨s,r,q,n⟩:=h.Ce f;have hu:X.A.units+2<Pj:=by have:=h.un;omega
 exact(FW i hu h.hP h.hw s r q n (j v X F h) (l v X F h) (vt c _ _ _)).ref λt=>aa (.refl _) λd=>aV λo=>aa (xh o) λw=>aa (.refl _) λu=>au (λz=>by
  rw[N0]at z;exact⟨of_decide_eq_true z.1,cM z.2⟩) (.refl _)
theorem GH{e:Ex}{x:Ob}{p:P8}(q:(jB x).isSome=NP)(a:QE g m e x):QS g m (.expr e) (.Expr x p):=λv X F _ h=>(Bz (a v X F h) (vt q _ _ _)).ref λb=>aa (.refl _) λd=>.refl _
theorem Ci{i j:Nat}{n y:Oo}{p o np sp:P8}(l:m.all=NM)(k:e8 m i n=NM)(f:eS m j y=NM):QS g m (.vo i j) (.Assign [.Name n o] (.Set [.Name y np] 0 sp) p):=λv X F _ h=>by
 obtain⟨u,t,s⟩:=h.loc k;obtain⟨e,c,b,a⟩:=h.Ce f;obtain⟨q,r⟩:=h.code l;exact(zl i j h.vp h.hK h.hP h.hw r u t s e c b a).ref λw=>aV λd=>aa (dr d) λn=>.refl _
theorem Kh{i:Nat}{e:Ex}{x f:Oo}{a:Ob}{np c b p:P8}(o:sEq f "add"=NM)(l:eS m i x=NM)(k:(c.endLine==b.line)=NM)(j:aw a=NP)(q:QE g m e a):QS g m (.add i e) (.Expr (.Call (.Attribute (.Name x np) f c) [a] [] b) p):=λv X F _ h=>by
 obtain rfl:=bz o;obtain⟨u,t,s,r⟩:=h.Ce l;exact(Gg i h.hP h.hw u t s r (q v X F h) k (aQ j)).ref λy=>aV λd=>aa (tL d) λz=>aa (.refl _) λw=>aa (dr w) λn=>au of_decide_eq_true (.refl _)
theorem s_pop{j i:Nat}{y x f:Oo}{c np b a p:P8}(n:sEq f "pop"=NM)(l:e8 m j y=NM)(k:eS m i x=NM)(e:(b.endLine==a.line)=NM):QS g m (.pop j i) (.Assign [.Name y c] (.Call (.Attribute (.Name x np) f b) [] [] a) p):=λv X F _ h=>by
 obtain rfl:=bz n;obtain⟨r,q,o⟩:=h.loc l;obtain⟨w,u,t,s⟩:=h.Ce k;exact(FY i j h.vp h.hK w u t s r q o e).ref λz=>aV λd=>aa (nJ d) λA=>aV λB=>.refl _
theorem Mr{i:Nat}{s:bD}{st:Qq}(a:QS g m s st):QS g m (.fz i s) st:=λv X F b h=>((a v X F b h).fz i).ref λc=>.refl _
theorem Nn:zG g m .nil []:=λv X F _ h=>(BA h.hK).ref λa=>.refl _
theorem Np{s r:bD}{x:Qq}{xs:List Qq}(b:QS g m s x)(c:zG g m r xs):zG g m (.cons s r) (x::xs):=λv X F a h=>(yw (b v X F a h) (c v X F a h)).ref λe=>aa (.refl _) λd=>by cases d<;>exact .refl _
end
noncomputable def cU(g:d4)(m:MC):(ex:Ex)->(e:Ob)->Ch (QU g m ex e)
 |.lc own d j it c a,e=>match e with
  |.ListComp x r sc p=>MX (cI g m it) (cC g (dN m own (bY m d) sc) c) (cE g (dN m own (bY m d) sc) a x)|_=>.n
 |.bad,_=>.y λv X F h=>⟨h.hK,λb s i H I=>⟨λQ⟨f,k,S,z⟩=>z.elim,λx o l q D _ _⟨f,k,S,z⟩=>z.elim⟩⟩|_,_=>.n
noncomputable def Ms(g:d4)(m:MC)(i:Nat)(e:Ex)(n:Oo)(c p:P8)(x:Ob):Ch (QS g m (.set i e) (.Assign [.Name n c] x p)):=(cb (e8 m i n)).b λq=>match h:rA m n c x with
  |true=>(cU g m e x).b λa=>.y (GD q a h)|false=>(cE g m e x).b λa=>.y (J8 q a h)
mutual
noncomputable def cS(g:d4)(m:MC):(s:bD)->(st:Qq)->Ch (QS g m s st)
 |.asg E e,st=>match st with
  |.Assign [.Tuple I k C] x _=>(cG g m E (.Tuple I k C)).b λh=>(cE g m e x).b λu=>(cN (QL [.Tuple I k C] x (sj m.sc))).b λq=>.y (J7 h u q)|_=>.n
 |.set i e,st=>match st with
  |.Assign [.Name n C] x p=>Ms g m i e n C p x|_=>.n
 |.ret e,st=>match st with
  |.Return (NF x) _=>(cE g m e x).b λh=>.y (J9 h)|_=>.n
 |.iff c a b,st=>match st with
  |.If x v J _=>(cT g m c x).b λh=>(DN g m a v).b λz=>(DN g m b J).b λu=>.y (J_ h z u)|_=>.n
 |.eE E it b,st=>match st with
  |.For t i v [] _=>(cn (c9 i)).b λq=>(cI g m it t i).b λh=>(cG g m E t).b λz=>(DN g m b v).b λu=>.y (Ka q h z u)|_=>.n
 |.DK c b,st=>match st with
  |.While x v [] _=>(cT g m c x).b λh=>(DN g m b v).b λz=>.y (Kb h z)|_=>.n
 |.par i j r,st=>match st with
  |.Assign [.Tuple [.Name x P,.Name y O] Q pt] (.Tuple [a,b] S G) _=>(cb (isAt m.N i x)).b λw=>(cb (isAt m.N j y)).b λo=>(Mq x .local m.sc.names).b λl=>(Mq y .local m.sc.names).b λd=>(cd (i≠j)).b λF=>(cA g m r [a,b]).b λh=>(Nl x y (QL [.Tuple [.Name x P,.Name y O] Q pt] (.Tuple [a,b] S G) (sj m.sc))).b λq=>.y (Kc w o l d F h q)|_=>.n
 |.raise c r,st=>match st with
  |.Raise (NF (.Call (.Name x _) (a::D) [] _)) NN _=>(cb (isAt g.cn c x)).b λw=>(cb (b_ m x)).b λo=>(cb (D.all λe=>!aw e)).b λl=>(cn (aw a)).b λd=>(cA g m r (a::D)).b λh=>.y (Cg w o l d h)|_=>.n
 |.zo b c i y hd,st=>match st with
  |.Try body [.ExceptHandler (NF (.Name cn _)) (NF n) [.Assign [.Name K _] e _] _] [] [] _=>(cb m.all).b λw=>(cb (isAt g.cn c cn)).b λo=>(cb (b_ m cn)).b λl=>(cb (isAt m.N i n)).b λd=>(Mq n .local m.sc.names).b λF=>(cb (e8 m y K)).b λM=>(cH g m hd e).b λL=>(DN g m b body).b λh=>.y (Kd w o l d F M L h)|_=>.n
 |.bad,_=>.y Ke|.rh i r,st=>match st with
  |.Assign [.Name n _] (.List D _) _=>(cb (e8 m i n)).b λq=>(cA g m r D).b λh=>.y (GF q h)|_=>.n
 |.gZ i,st=>match st with
  |.Assign [.Name n _] (.Dict [] [] _) _=>(cb (e8 m i n)).b λq=>.y (GG q)|_=>.n
 |.app i e,st=>match st with
  |.Expr (.Call (.Attribute (.Name x _) f B) [a] [] A) _=>(cb (sEq f "append")).b λq=>(cb (eS m i x)).b λo=>(cb (B.endLine==A.line)).b λl=>(cn (aw a)).b λd=>(cE g m e a).b λh=>.y (Kf q o l d h)|_=>.n
 |.put i k e,st=>match st with
  |.Assign [.Subscript (.Name x _) R _] H _=>(cb (eS m i x)).b λq=>(cn (jB H).isSome).b λd=>(cE g m k R).b λh=>(cE g m e H).b λu=>.y (Kg q d h u)|_=>.n
 |.fz _ s,st=>(cS g m s st).b λh=>.y (Mr h)|.expr e,st=>match st with
  |.Expr x _=>(cn (jB x).isSome).b λq=>(cE g m e x).b λh=>.y (GH q h)|_=>.n
 |.vo i j,st=>match st with
  |.Assign [.Name n _] (.Set [.Name y _] 0 _) _=>(cb m.all).b λq=>(cb (e8 m i n)).b λo=>(cb (eS m j y)).b λl=>.y (Ci q o l)|_=>.n
 |.add i e,st=>match st with
  |.Expr (.Call (.Attribute (.Name x _) f B) [a] [] A) _=>(cb (sEq f "add")).b λq=>(cb (eS m i x)).b λo=>(cb (B.endLine==A.line)).b λl=>(cn (aw a)).b λd=>(cE g m e a).b λh=>.y (Kh q o l d h)|_=>.n
 |.pop j i,st=>match st with
  |.Assign [.Name y _] (.Call (.Attribute (.Name x _) f B) [] [] A) _=>(cb (sEq f "pop")).b λq=>(cb (e8 m j y)).b λo=>(cb (eS m i x)).b λl=>(cb (B.endLine==A.line)).b λd=>.y (s_pop q o l d)|_=>.n
 |_,_=>.n
noncomputable def DN(g:d4)(m:MC):(s:bD)->(a:List Qq)->Ch (zG g m s a)
 |.nil,c=>match c with
  |[]=>.y Nn|_=>.n
 |.cons s r,c=>match c with
  |x::d=>(cS g m s x).b λh=>(DN g m r d).b λe=>.y (Np h e)|[]=>.n
 |_,_=>.n
end
theorem dA.any{P:N7}{w:Oq}{K:NS}{mg:Oo->Option NJ}{base:Oy}{CX:t_}{k:Nat}{f:NR}{fd:PH}{ps:List Oo}{sp:Sp}(h:dA P w K mg base wb k f fd ps sp):dA P w K mg base CX k f fd ps sp:=⟨h.len,λA outer s H a c b Q E g j hb r d=>Ro (h.run A outer s H a c b Q E g j hb r d) λr l q=>by cases r with
  |error e=>exact PZ q|ok i=>cases i<;>exact q⟩
structure GI(P:N7)(K:NS)(mg:Oo->Option NJ)(g:d4)(x:Oo)(d:Df):Prop where ex:∃(y qual:Oo)(st:Qq)(f:NR)(fd:PH)(N ps:List Oo),xT K y qual st f fd/\cR N ps (ak st)/\Binds K fd ps []/\mg x=NF (.ref f)/\ps.length=d.np/\N.length=d.nn/\zG g ⟨N,ak st,NM,[]⟩ d.body (b5 st)
structure HQ(P:N7)(w:Oq)(K:NS)(mg:Oo->Option NJ)(base:Oy)(x:Oo)(np:Nat)(t:List A->T D):Prop where
 ok:ly P w K mg base x np 1 (λas=>(t as).ay)len:∀as,as.length≠np->t as=.stuck
inductive Dk where|df(d:Df)|wit(t:List A->T D)
structure Gv where
 ku:Nat->Option D
 cls:Nat->Option NR
 how:NR->Bool
 sub:NR->NR->Option Bool
 ins:NR->NJ->Option Bool
noncomputable def Gv.ev(b:Gv)(call:Nat->List A->T D):Ev:=⟨call,b.ku,b.cls,b.how,b.sub,b.ins⟩
noncomputable def ao(defs:List Dk)(b:Gv):Nat->Nat->List A->T D
 |0,_,_=>.stuck|n+1,f,as=>match defs[f]? with
  |none=>.stuck|some (.wit t)=>t as|some (.df d)=>if as.length=d.np then do AG (<-ax (b.ev (ao defs b n)) d.body (bG d.nn as))else .stuck
structure jU(P:N7)(w:Oq)(K:NS)(mg:Oo->Option NJ)(base:Oy)(g:d4)(defs:List Dk)(b:Gv):Prop where
 bl:∀x∈dq,mg x=NN
 df:∀(f:Nat)(x:Oo),g.dn[f]?=NF x->(∃d,defs[f]?=NF (Dk.df d)/\GI P K mg g x d)\/(∃t np,defs[f]?=NF (Dk.wit t)/\HQ P w K mg base x np t)cl:∀(c:Nat)(x:Oo)(C:NR),g.cn[c]?=NF x->b.cls c=NF C->mg x=NF (.ref C)DL:∀C,b.how C=NM->qm K C=NM
 sb:∀c P r,b.sub c P=NF r->gY K c P=NF r
 wU:∀c u r,b.ins c u=NF r->AF K c=NM/\Py K (.ref c) u=NF r
 co:∀(i:Nat)(x:Oo)(d:D),g.gn[i]?=NF x->b.ku i=NF d->∃u v,mg x=NF u/\RelV v u/\∀(p:NR)(H:Hp),H p≠NN->K.lookup p=NN->Is ⟨K,p,P,w⟩ H v d
 ct:∀i x d,g.gn[i]?=NF x->b.ku i=NF d->j6 d=NM->∃a o,mg x=NF (.ref a)/\K.lookup a=NF o/\o.cls=.type "tuple"/\o.dict=NN
section
variable{P:N7}{w:Oq}{K:NS}{mg:Oo->Option NJ}{base:Oy}{g:d4}{defs:List Dk}{b:Gv}
theorem mark_none{A:Ov}(h:A.handled=NN):A.mark NN=A:=by
 cases A;simp only[Around.mark]at*;simp_all
theorem ly.mono{x:Oo}{n j k:Nat}{m:List A->M D}(h:ly P w K mg base x n j m)(c:j<=k):ly P w K mg base x n k m:=by
 obtain⟨ps,a,f,fd,F,r⟩:=h;exact⟨ps,a,f,fd,F.mono c,r⟩
theorem jU.all(h:jU P w K mg base g defs b):∀(n f:Nat)(x:Oo),g.dn[f]?=NF x->∃np,ly P w K mg base x np n (λas=>(ao defs b n f as).ay)/\∀as,as.length≠np->ao defs b n f as=.stuck
 |0,f,x,hx=>by
  rcases h.df f x hx with⟨d,hd,⟨y,a,st,l,fd,N,ps,F,S,B,q,o,Z,Y⟩⟩|⟨t,np,hd,W⟩
  .refine⟨ps.length,⟨ps,rfl,l,fd,⟨λI H Q E z=>?_,λA outer s H D us I Q E c e0 hb r z=>?_⟩,q,F.kp,B⟩,λ_ _=>rfl⟩;.obtain⟨p,k,as,_,_,_,z⟩:=z;exact z.elim
   .obtain⟨p,k,as,_,_,_,z⟩:=z;exact z.elim
  .obtain⟨ps,j,l,fd,FN,q,hk,hb⟩:=W.ok;refine⟨ps.length,⟨ps,rfl,l,fd,⟨λI H Q E z=>?_,λA outer s H D us I Q E c e0 hb r z=>?_⟩,q,hk,hb⟩,λ_ _=>rfl⟩;.obtain⟨p,k,as,_,_,_,z⟩:=z;exact z.elim
   .obtain⟨p,k,as,_,_,_,z⟩:=z;exact z.elim|n+1,f,x,hx=>by
  rcases h.df f x hx with⟨d,hd,⟨y,a,st,l,fd,N,ps,F,S,B,q,o,Z,Y⟩⟩|⟨t,np,hd,W⟩
  .have C:∀as,ao defs b (n+1) f as=if as.length=d.np then do AG (<-ax (b.ev (ao defs b n)) d.body (bG d.nn as))else .stuck:=λas=>by
    show(match defs[f]? with
     |none=>T.stuck|some (.wit t)=>t as|some (.df d)=>if as.length=d.np then do AG (<-ax (b.ev (ao defs b n)) d.body (bG d.nn as))else .stuck)=_;rw[hd]
   refine⟨d.np,⟨ps,o,l,fd,?_,q,F.kp,B⟩,λas j=>by rw[C,if_neg j]⟩;refine F.Nh (k:=n) S o λV A' outer s H p k0 E E' c O J=>?_;have xc:XC g (b.ev (ao defs b n)) ⟨N,ak st,NM,[]⟩ (j3 (FG P w) P w K mg base N a (ak st) l V A' outer s H E) ⟨⟨K,p,P,w⟩,H,k0,E',H,k0⟩:=⟨rfl,rfl,rfl,rfl,S.nd,rfl,rfl,c.units,λ_ _=>rfl,(λ_ z=>nomatch z),mark_none c.hd,h.bl,λf' x' L=>by
     obtain⟨np,U,R⟩:=jU.all h n f' x' L;exact⟨np,n,c,U,R⟩,J,λ_=>⟨rfl,rfl⟩,h.cl,h.DL,c.gd,h.sb,h.wU,λi x d hx hd=>let⟨u,v,U,R,h3⟩:=h.co i x d hx hd;⟨u,v,U,R,λH hH o=>h3 p H hH o⟩,h.ct,λ_=>⟨_,O⟩⟩;refine⟨_,Y _ _ _ W8 xc,λas Q j z=>?_⟩;rw[C,if_pos j,T.bx]at z;have e:fD N as=bG d.nn as:=by unfold fD bG;rw[Z]
   rw[e];refine M.wk (m:=(ax (b.ev (ao defs b n)) d.body (bG d.nn as)).ay) z λfl k' G=>?_;cases fl with
   |rt d=>exact G|nx X=>exact G|bk X=>exact G|ct X=>exact G
  .have C:∀as,ao defs b (n+1) f as=t as:=λas=>by
    show(match defs[f]? with
     |none=>T.stuck|some (.wit t)=>t as|some (.df d)=>if as.length=d.np then do AG (<-ax (b.ev (ao defs b n)) d.body (bG d.nn as))else .stuck)=_;rw[hd]
   refine⟨np,?_,λas j=>by rw[C];exact W.len as j⟩;have:(λas=>(ao defs b (n+1) f as).ay)=λas=>(t as).ay:=by funext as;rw[C]
   rw[this];exact W.ok.mono (by omega)
end
end L2
end
section
namespace K24d
open PySem L2
noncomputable def GJ(i:Nat):Qq:=PySem.Challenge.pw_wallplan_k24_runs.main.body.getD i (.Pass ⟨0,0,0,0⟩)
noncomputable abbrev rD:Qq:=GJ 19
noncomputable abbrev zH:Qq:=GJ 18
noncomputable abbrev rE:Qq:=GJ 31
noncomputable def HR(p:NR)(H H':Hp):Prop:=∀b,b≠p->H' b=H b
theorem HR.upd{p:NR}{H:Hp}{o:HO}:HR p H (upd H p o):=λ_ h=>ai h
noncomputable def GK:Sp:=λb H Q _=>∃(p q:NR)(n:Int)(k:Nat),b=[.ref p,.int n]/\lb H p q k/\k<1000000/\0<n/\n<1073741824/\∀(z:Int)(a:Hp),0<=z->z<n->lb a p q (k+1)->HR p H a->Q (.int z) a
section
variable{P:N7}{w:Oq}{K:NS}{mg:Oo->Option NJ}{base:Oy}
theorem GL:cR ["_law_script"] ["_law_script"] (ak zH):=⟨rfl,rfl,rfl,by decide+kernel,rfl,by decide+kernel,by decide+kernel⟩
theorem hV:cR ["_law_feed_here","_law_many","_law_got","_law_at","_law_cell","_law_number"] ["_law_feed_here","_law_many"] (ak rD):=⟨rfl,rfl,rfl,by decide+kernel,rfl,by decide+kernel,by decide+kernel⟩
theorem La{a b c:V}:d_ [a,b,c] 0=NF a:=eV (j:=0) rfl
theorem Nq{a b c:V}:d_ [a,b,c] 1=NF b:=eV (j:=1) rfl
theorem at2{a b c:V}:d_ [a,b,c] 2=NF c:=eV (j:=2) rfl
theorem b7.GN{H:Hp}{p q:NR}{ns:List Int}{i r:Int}(F:b7 H p q ns i r){b a:Int}(e:0<=b)(d:0<=a):b7 (upd H p (.lst [.ref q,.int b,.int a])) p q ns b a:=let⟨o,c⟩:=F.cs;⟨aj,⟨o,by rw[ai F.ne];exact c⟩,F.ne,e,d,F.ln⟩
theorem b7.sq{K:NS}{H:Hp}{p q:NR}{ns:List Int}{i r:Int}(F:b7 H p q ns i r):dy K H q (ns.map V.int):=.inl (.inr F.cs)
theorem Cj{ns:List Int}{i:Int}(a:(0:Int)<((ns.map V.int).length:Int)):∃c,d_ (ns.map V.int) (i%((ns.map V.int).length:Int))=NF (.int c):=by
 have f:=RM i a;have d:=SD i (show((ns.map V.int).length:Int)≠0 by omega);have e:((i%((ns.map V.int).length:Int)).toNat:Int)=i%((ns.map V.int).length:Int):=by omega
 have b:(ns.map V.int).length=ns.length:=NY ..;have hlt:(i%((ns.map V.int).length:Int)).toNat<ns.length:=by omega
 rw[<-e];refine⟨ns[(i%((ns.map V.int).length:Int)).toNat]'hlt,eV ?_⟩;rw[Om,Oc hlt];rfl
theorem Ck{f:NR}{fd:PH}(F:xT K "_law_draw" "_law_draw" rD f fd)(e:mg "len"=NN):dA P w K mg base wb 1 f fd ["_law_feed_here","_law_many"] GK:=by
 refine F.ok hV (λC H Q E h=>?_) (λM A outer s H C Q E D h=>?_)
 .obtain⟨p,q,n,k,rfl,_⟩:=h;rfl
 .obtain⟨p,q,n,k,rfl,⟨ns,i,r,G,I⟩,N,d,m,u⟩:=h;have hu:=ID D;refine⟨_,bf (t7 (iE De (gr cV (pv 0) aC (λ_ _=>rfl)) aC (jk _)) (bf (c7 (i:=2) hV.nd rfl (SY rfl) (bj d8 (gr cV (pv 0) aC (λ_ _=>rfl)) (pv 1))) (bf (nQ (bj nR (gr cV (pv 0) aC (λ_ _=>rfl)) (pv 1)) (r_ (pv 0) aC set_list)) (iC (kL (pv 2))))) kg) (bf (c7 (i:=3) hV.nd rfl (SY rfl) (gr cV (pv 0) aC (λ_ _=>rfl))) (bf (nQ (bj kM (pv 3) aC) (r_ (pv 0) aC set_list)) (bf (c7 (i:=4) hV.nd rfl (SY rfl) (pv 3)) (bf (t7 (iE De (eN eW (by rfl) e Wd (aZ (gr cV (pv 0) aC (λ_ _=>rfl)) dz)) aC (jk _)) (iC (c7 (i:=4) hV.nd rfl (SY rfl) (gr cV (gr cV (pv 0) aC (λ_ _=>rfl)) (bj d8 (pv 3) (eN eW (by rfl) e Wd (aZ (gr cV (pv 0) aC (λ_ _=>rfl)) dz))) (λ_ _=>rfl)))) kg) (bf (t7 (xC (iE Il (pv 4) (bj Ey aC aC) (jk _)) (t6 (iE Dd (pv 3) (eN eW (by rfl) e Wd (aZ (gr cV (pv 0) aC (λ_ _=>rfl)) dz)) (jk _)))).pt (bf (nQ (bj nR (pv 4) (pv 1)) (r_ (pv 0) aC set_list)) (iC (kL (bj d8 (pv 4) (pv 1))))) kg) (bf (c7 (i:=5) hV.nd rfl (SY rfl) (bj d8 (bj gO (bj kM (bj kM (bj d8 (pv 4) aC) (bj gO (bj gO aC (pv 3)) (pv 3))) aC) aC) aC)) (bf (c7 (i:=5) hV.nd rfl (SY rfl) (bj d8 (bj kM (bj gO (pv 5) (pv 5)) (bj gO aC (pv 3))) aC)) (iC (kL (bj d8 (bj nR (bj d8 (bj gO (pv 5) (bj kM (bj d8 (pv 5) aC) aC)) aC) aC) (pv 1))))))))))),?_⟩;refine⟨_,rfl,p,_,_,_,rfl,rfl,dy.of G.ob,at2,_,_,rfl,rfl,_,rfl,?_⟩;refine A7 (λL=>?_) (λL=>?_)
  .refine⟨_,rfl,p,_,_,_,rfl,rfl,dy.of G.ob,at2,_,rfl,_,_,rfl,rfl,d,?_⟩;refine⟨_,rfl,p,_,_,_,rfl,rfl,dy.of G.ob,at2,_,rfl,_,_,rfl,rfl,⟨d,m⟩,_,rfl,p,_,_,2,rfl,rfl,G.ob,rfl,?_⟩;refine⟨_,rfl,?_⟩;exact u _ _ (SD _ (by omega)) (RM _ d) ⟨ns,i,_,b7.GN G G.i0 (Int.ediv_nonneg G.r0 (by omega)),by omega⟩ HR.upd
  .have i0:=G.i0;refine⟨_,rfl,p,_,_,_,rfl,rfl,dy.of G.ob,Nq,?_⟩;refine⟨_,rfl,_,_,rfl,rfl,_,rfl,p,_,_,1,rfl,rfl,G.ob,rfl,?_⟩;have g:b7 (upd H p (.lst [.ref q,.int (i+1),.int r])) p q ns (i+1) r:=b7.GN G (by omega) G.r0;refine⟨_,rfl,?_⟩;refine⟨_,rfl,p,_,_,_,rfl,rfl,dy.of g.ob,La,q,_,rfl,.inl ((b7.sq g)),_,_,rfl,rfl,_,rfl,?_⟩;refine A7 (λB=>?a) (λB=>?b);case' a=>
    have l:(0:Int)<((ns.map V.int).length:Int):=of_decide_eq_true B;obtain⟨c,o⟩:=Cj (i:=i) l;refine⟨_,rfl,p,_,_,_,rfl,rfl,dy.of g.ob,La,_,rfl,_,rfl,p,_,_,_,rfl,rfl,dy.of g.ob,La,q,_,rfl,.inl ((b7.sq g)),_,_,rfl,rfl,l,q,_,_,_,rfl,rfl,(b7.sq g),o,?_⟩;clear o
   all_goals
    refine⟨_,rfl,_,_,rfl,rfl,⟨by decide,by decide,by decide⟩,_,_,rfl,rfl,_,rfl,?_⟩;refine(λj=>A7 (λz=>?x) (λz=>LQ j)) ?y;case x=>
     refine⟨_,rfl,_,rfl,p,_,_,_,rfl,rfl,dy.of g.ob,La,q,_,rfl,.inl ((b7.sq g)),_,_,rfl,rfl,_,rfl,?_⟩;refine A7 (λJ=>?_) (λJ=>j);refine⟨_,rfl,_,rfl,_,_,rfl,rfl,⟨d,m⟩,_,rfl,p,_,_,2,rfl,rfl,g.ob,rfl,?_⟩;refine⟨_,rfl,_,rfl,_,_,rfl,rfl,d,?_⟩;have v:=of_decide_eq_true z;have t:(0:Int)<=10^(Int.toNat 18):=by decide
     refine u _ _ (SD _ (by omega)) (RM _ d) ⟨ns,i+1,_,(by rw[bN];exact b7.GN G (by omega) (Int.ediv_nonneg (Int.le_trans t v) (by omega))),by omega⟩ (by rw[bN];exact HR.upd)
    case y=>
     refine⟨_,rfl,_,_,rfl,rfl,(by show(0:Int)<2147483647;decide),_,rfl,_,_,rfl,rfl,.inl ⟨by decide,by decide⟩,_,rfl,_,_,rfl,rfl,.inr ⟨by omega,by omega⟩,_,_,rfl,rfl,_,_,rfl,rfl,_,_,rfl,rfl,.inr ⟨by decide,by decide⟩,_,_,rfl,rfl,(by show(0:Int)<2147483647;decide),?_⟩;refine⟨_,rfl,_,rfl,_,_,rfl,rfl,.inl ⟨by omega,by omega⟩,_,rfl,_,_,rfl,rfl,.inl ⟨by decide,by decide⟩,_,_,rfl,rfl,_,_,rfl,rfl,(by show(0:Int)<2147483629;decide),?_⟩;refine⟨_,rfl,_,rfl,_,_,rfl,rfl,(by show(0:Int)<65521;decide),_,_,rfl,rfl,_,_,rfl,rfl,.inl ⟨by omega,by omega⟩,_,_,rfl,rfl,(by show(0:Int)<2147483587;decide),_,_,rfl,rfl,⟨by decide,by decide⟩,_,rfl,_,_,rfl,rfl,d,?_⟩;exact u _ _ (SD _ (by omega)) (RM _ d) ⟨ns,i+1,r,g,by omega⟩ HR.upd
noncomputable def vw:List A->T D
 |[.feed,.d (.int n)]=>.draw n λi=>.ok (.int i)|_=>.stuck
theorem jV{d c:Type}{R:d->c->Prop}{l:List d}{y:c}{e:List c}(h:Paired R l (y::e)):∃x xs,l=x::xs/\R x y/\Paired R xs e:=by cases h with|cons a b=>exact⟨_,_,rfl,a,b⟩
theorem tM{b a:Type}{R:b->a->Prop}{l:List b}(h:Paired R l ([]:List a)):l=[]:=by cases h;rfl
theorem zI{f:NR}{fd:PH}(F:xT K "_law_draw" "_law_draw" rD f fd)(c:mg "len"=NN)(I:mg "_law_draw"=NF (.ref f))(V:Binds K fd ["_law_feed_here","_law_many"] []):HQ P w K mg base "_law_draw" 2 vw:=by
 refine⟨⟨["_law_feed_here","_law_many"],rfl,f,fd,(Ck F c).any.imp λW H Q E z=>?_,I,F.kp,V⟩,λas h=>?_⟩
 .obtain⟨p,k,as,hp,C,h,z⟩:=z;rcases as with _|⟨a1,_|⟨T,_|⟨a3,r⟩⟩⟩;.exact absurd h (by simp)
  .exact absurd h (by simp)
  rotate_left;.exact absurd h (by simp)
  cases a1 with
  |d y=>exact PZ z|feed=>cases T with
  |feed=>exact PZ z|d y=>cases y with
  |int n=>
   obtain⟨Y,x,rfl,G,l⟩:=jV C;obtain⟨X,v,rfl,j,D⟩:=jV l;obtain rfl:=tM D;obtain⟨rfl,q,t⟩:=G;have j:Is ⟨K,p,P,w⟩ H _ (.int n):=j;simp only[Is]at j;subst j;obtain⟨⟨s,m⟩,hk,z⟩:=z;refine⟨p,q,n,k,rfl,t,by omega,s,m,λi U L J u S=>?_⟩;refine z (k+1) (by omega) (by omega) i ⟨L,J⟩ (.int i) U ⟨λb o hb e=>by rw[S b hb];exact e,λ_=>?_,by omega,λB O=>?_⟩ (by simp only[Is])
   .obtain⟨ns,i',Z,g,_⟩:=u;exactλe=>by rw[g.ob]at e;cases e
   .have:B=q:=by
     obtain⟨_,_,_,N,_⟩:=O;obtain⟨_,_,_,M,_⟩:=t;have R:=N.ob;have a:=M.ob;rw[R]at a;injection a with a;injection a with a;injection a with a _;injection a
    rw[this];exact u|_=>exact PZ z
 .match as with
  |[]=>rfl|[_]=>cases‹A›<;>rfl|[_,_]=>exact absurd rfl h|.d _::_::_::_=>rfl|.feed::.feed::_::_=>rfl|.feed::.d y::_::_=>cases y<;>rfl
end
end K24d
end
section
namespace L2
open PySem PySem.Spec PyProof.Rows
noncomputable def GO(fd:PH):Option (List Qq):=match fd.body,fd.closure,fd.defaults with
 |.stmts b,[],.none=>if RA fd.globals OQ&&RA fd.builtins Vf then NF b else NN|_,_,_=>NN
theorem zJ{fd:PH}{b:List Qq}(h:GO fd=NF b):fd=Vk fd.name fd.qualname fd.params b fd.scope .none fd.kwdefaults fd.doc fd.pyModule fd.annotations fd.code fd.closureTuple:=by
 obtain⟨a1,v,u,t,s,r,q,p,o,n,m,l,k,j,i⟩:=fd;unfold GO at h;split at h
 .rename_i e d c;dsimp only at e d c h;split at h
  .rename_i a;rw[N0]at a;cases h;subst e d c;have g:=Pl a.1;have f:=Pl a.2;subst g f;rfl
  .cases h
 .cases h
noncomputable def zK(fd:PH)(b:List Qq):Qq:=.FunctionDef fd.name fd.params b [] NN [] fd.scope NN fd.name ⟨0,0,0,0⟩
theorem zL{K:NS}{f:NR}{d:NJ}{c:Option NR}{fd:PH}{a:Array (Option NJ)}{b:List Qq}(l:K.lookup f=NF ⟨d,c,.func fd,a⟩)(h:GO fd=NF b)(e:Qk K fd.code fd.qualname=NM):xT K fd.name fd.qualname (zK fd b) f fd:=by
 refine⟨⟨d,c,_,_,_,_,_,_,a,zJ h,l,e⟩,?_⟩;unfold R9;dsimp only;rw[l]
noncomputable def zM:List Oo->List Oo->Bool
 |[],[]=>NM|x::b,y::a=>sEq x y&&zM b a|_,_=>NP
theorem oO:∀{xs a:List Oo},zM xs a=NM->xs=a
 |[],[],_=>rfl|[],_::_,h=>by cases h|_::_,[],h=>by cases h|x::xs,y::a,h=>by
  simp only[zM,N0]at h;rw[bz h.1,oO h.2]
noncomputable def Ki:ScopeKind->Bool
 |.function=>NM|_=>NP
noncomputable def Lb(N ps:List Oo)(sc:Qr):Bool:=Ki sc.kind&&!sc.isCoroutine&&!sc.isGenerator&&HP N&&zM (N.take ps.length) ps&&(ps.all λx=>match rn x sc.names with|some .local=>NM|some .cell=>NM|_=>NP)&&sc.names.all λy=>match y.2 with|.free=>NP|_=>NM
theorem zN{N ps:List Oo}{sc:Qr}(h:Lb N ps sc=NM):cR N ps sc:=by
 simp only[Lb,N0,P4,O8]at h;obtain⟨⟨⟨⟨⟨⟨a,i⟩,g⟩,f⟩,d⟩,c⟩,b⟩:=h;refine⟨?_,i,g,f_ f,oO d,λx hx=>?_,λy hy z=>?_⟩;.cases e:sc.kind<;>rw[e]at a<;>first|rfl|cases a
 .have:=c x hx;rw[lU]at this;split at this;.rename_i e;exact .inl e
  .rename_i e;exact .inr e
  .cases this
 .have:=b y hy;rw[z]at this;cases this
noncomputable def rF(p:U0)(ps:List Oo):Bool:=p.posonlyargs.isEmpty&&zM (p.args.map (·.arg)) ps&&p.vararg.isNone&&p.kwonlyargs.isEmpty&&p.kwarg.isNone&&HP ps
theorem lY:∀{ps:List Oo}{us:List NJ},ps.Nodup->us.length=ps.length->(ps.filterMap λn=>((ps.zip us).lookup n).map (n,·))=ps.zip us
 |[],[],_,_=>rfl|[],_::_,_,h=>by simp at h|_::_,[],_,h=>by simp at h|p::ps,u::us,nd,h=>by
  obtain⟨n1,n2⟩:=List.nodup_cons.mp nd;have d:=lY n2 (us:=us) (by simpa using h);rw[O_,PC];simp only[List.lookup_cons_self,Rn];congr 1;refine Eq.trans ?_ d;have a:∀(l:List Oo),(∀n∈l,n≠p)->l.filterMap (λn=>(((p,u)::ps.zip us).lookup n).map (n,·))=l.filterMap λn=>((ps.zip us).lookup n).map (n,·):=by
   intro l;induction l with
   |nil=>intro _;rfl|cons n l b=>
    intro c;have e:((p,u)::ps.zip us).lookup n=(ps.zip us).lookup n:=by
     rw[OP];have:(n==p)=NP:=by
      rw[beq_eq_false_iff_ne];exact c n NV
     rw[this]
    rw[PC,PC,e,b λm g=>c m (NX _ g)]
  exact a ps λn f e=>n1 (e▸f)
theorem lookup_some:∀{ps:List Oo}{us:List NJ}{n:Oo},us.length=ps.length->n∈ps->((ps.zip us).lookup n).isNone=NP
 |[],_,_,_,h=>nomatch h|_::_,[],_,h,_=>by simp at h|p::ps,u::us,n,h,a=>by
  rw[O_,OP];cases e:n==p with
  |true=>rfl|false=>
   have:n∈ps:=by
    rcases List.mem_cons.mp a with rfl|h;.simp at e
    .exact h
   exact lookup_some (by simpa using h) this
theorem bind_eq{fd:PH}{b:List Qq}{ps:List Oo}(h:GO fd=NF b)(k:rF fd.params ps=NM)(us:List NJ)(j:us.length=ps.length):WO fd ⟨us,[]⟩=pure (ps.zip us):=by
 simp only[rF,N0]at k;obtain⟨⟨⟨⟨⟨i,g⟩,f⟩,d⟩,c⟩,q⟩:=k;have e:=zJ h;have hd:fd.defaults=.none:=by rw[e]
 obtain⟨⟨x,w,v,u,t,s,r⟩,a⟩:∃p:U0,fd.params=p:=⟨_,rfl⟩;rw[a]at i g f d c;dsimp only at i g f d c;have i:=List.isEmpty_iff.mp i;have f:=Option.isNone_iff_eq_none.mp f;have d:=List.isEmpty_iff.mp d;have c:=Option.isNone_iff_eq_none.mp c;have g:=oO g;subst i f d c;have nd:=f_ q;unfold WO;rw[a,hd];dsimp only;rw[g];simp only[RJ,List.nil_append,Pn];have l:Ug Oz=pure NN:=rfl;have o:((ps.take ps.length).filter λn=>((ps.zip us).lookup n).isNone)=[]:=by
  rw[List.take_length];refine List.filter_eq_nil_iff.mpr λn m=>?_;rw[lookup_some j m];exact O9
 rw[S7,pure_bind,l,pure_bind];dsimp only;simp only[Si,Ox,Nat.zero_sub,Nat.sub_zero,List.drop_nil,o];rw[if_neg (by rw[j];simp)];simp only[Sm,Pz,Oh,if_false,SH,S7,pure_bind];rw[lY nd j]
theorem zO{K:NS}{fd:PH}{b:List Qq}{ps:List Oo}(h:GO fd=NF b)(a:rF fd.params ps=NM):Binds K fd ps []:=.all (bind_eq h a)
noncomputable def Mt(K:NS)(g:d4)(x:Oo)(N ps:List Oo)(d:Df):Bool:=match QN K OQ x with
 |some (NF (.ref f))=>(match K.lookup f with
  |some ⟨_,_,.func fd,_⟩=>(match GO fd with
   |some b=>Qk K fd.code fd.qualname&&Lb N ps fd.scope&&rF fd.params ps&&RA ps.length d.np&&RA N.length d.nn&&(DN g ⟨N,fd.scope,NM,[]⟩ d.body b).ok|none=>NP)|_=>NP)|_=>NP
theorem GP{P:N7}{K:NS}{mg:Oo->Option NJ}{h:Oy}{g:d4}{x:Oo}{N ps:List Oo}{d:Df}(X:K.In h)(G:h.Ns OQ mg)(q:Mt K g x N ps d=NM):GI P K mg g x d:=by
 unfold Mt at q;split at q
 .rename_i f e;split at q
  .rename_i p o fd n lk;split at q
   .rename_i b a;simp only[N0]at q;obtain⟨⟨⟨⟨⟨m,l⟩,k⟩,j⟩,i⟩,c⟩:=q;exact⟨fd.name,fd.qualname,zK fd b,f,fd,N,ps,zL lk a m,zN l,zO a k,R4 X G e,Pl j,Pl i,Ch.of c⟩
   .cases q
  .cases q
 .cases q
structure En where
 x:Oo
 N:List Oo
 ps:List Oo
 k:Dk
noncomputable def GQ(K:NS)(g:d4)(es:List En):Bool:=es.all λe=>match e.k with
 |.df d=>Mt K g e.x e.N e.ps d|.wit _=>NM
theorem Co{P:N7}{w:Oq}{K:NS}{mg:Oo->Option NJ}{base h:Oy}{g:d4}{es:List En}(X:K.In h)(G:h.Ns OQ mg)(q:GQ K g es=NM)(j:g.dn=es.map (·.x))(hw:∀e∈es,∀t,e.k=.wit t->∃np,HQ P w K mg base e.x np t):∀(f:Nat)(x:Oo),g.dn[f]?=NF x->(∃d,(es.map (·.k))[f]?=NF (Dk.df d)/\GI P K mg g x d)\/(∃t np,(es.map (·.k))[f]?=NF (Dk.wit t)/\HQ P w K mg base x np t):=λf x hx=>by
 rw[j,Om]at hx;cases b:es[f]? with
 |none=>rw[b]at hx;cases hx|some e=>
  rw[b]at hx;have hx:e.x=x:=NU hx;subst hx;have i:e∈es:=OH b;have c:=List.all_eq_true.mp q e i;rw[Om,b];cases a:e.k with
  |df d=>
   rw[a]at c;exact .inl ⟨d,by rw[Rn,a],GP X G c⟩|wit t=>
   obtain⟨np,W⟩:=hw e i t a;exact .inr ⟨t,np,by rw[Rn,a],W⟩
structure Kl where
 C:NR
 sup:List NR
noncomputable def zP(cs:List Kl)(c:Nat):Option NR:=(cs[c]?).map (·.C)
noncomputable def Kj(cs:List Kl)(a:NR):Bool:=cs.any λk=>RA k.C a
noncomputable def vz(cs:List Kl)(c P:NR):Option Bool:=match cs.find? λk=>RA k.C c with
 |some k=>if cs.any λj=>RA j.C P then NF (k.sup.any λa=>RA a P)else NN|none=>NN
noncomputable def zQ(cs:List Kl)(c:NR)(u:NJ):Option Bool:=match u with
 |.ref P=>vz cs c P|_=>NN
noncomputable def Cp(a:Option Bool)(b:Bool):Bool:=match a with
 |some c=>c==b|none=>NP
theorem vA{a:Option Bool}{b:Bool}(h:Cp a b=NM):a=NF b:=by
 unfold Cp at h;split at h;.rw[beq_iff_eq.mp h]
 .cases h
noncomputable def zR(K:NS)(x:Oo)(a:NR):Bool:=match QN K OQ x with
 |some (NF (.ref b))=>RA a b|_=>NP
theorem zS{K:NS}{x:Oo}{a:NR}(h:zR K x a=NM):QN K OQ x=NF (NF (.ref a)):=by
 unfold zR at h;split at h;.rename_i b e;rw[e,Pl h]
 .cases h
noncomputable def AH(K:NS)(cn:List Oo)(cs:List Kl):Bool:=((cn.zip cs).all λe=>zR K e.1 e.2.C)&&cs.all λk=>AF K k.C&&qm K k.C&&cs.all λj=>Cp (gY K k.C j.C) (k.sup.any λa=>RA a j.C)&&Cp (Py K (.ref k.C) (.ref j.C)) (k.sup.any λa=>RA a j.C)
section
variable{K:NS}{cn:List Oo}{cs:List Kl}
theorem lZ(q:AH K cn cs=NM):(∀(c:Nat)(x:Oo)(C:NR),cn[c]?=NF x->zP cs c=NF C->QN K OQ x=NF (NF (.ref C)))/\∀k∈cs,AF K k.C=NM/\qm K k.C=NM/\∀j∈cs,gY K k.C j.C=NF (k.sup.any λa=>RA a j.C)/\Py K (.ref k.C) (.ref j.C)=NF (k.sup.any λa=>RA a j.C):=by
 simp only[AH,N0,O8]at q;obtain⟨h,g⟩:=q;refine⟨λc x C hx b=>?_,λk d=>?_⟩
 .unfold zP at b;cases d:cs[c]? with
  |none=>rw[d]at b;cases b|some k=>
   rw[d]at b;have b:k.C=C:=NU b;subst b;exact zS (h (x,k) (OH (i:=c) (by rw[Sn];exact⟨hx,d⟩)))
 .obtain⟨⟨a1,l⟩,f⟩:=g k d;exact⟨a1,l,λj e=>⟨vA (f j e).1,vA (f j e).2⟩⟩
theorem zT{c P:NR}{r:Bool}(h:vz cs c P=NF r):∃k∈cs,∃j∈cs,k.C=c/\j.C=P/\r=k.sup.any λa=>RA a P:=by
 unfold vz at h;split at h
 .rename_i k e;split at h
  .rename_i f;obtain⟨j,b,d⟩:=List.any_eq_true.mp f;exact⟨k,UB e,j,b,Pl (List.find?_some (p:=λk:Kl=>RA k.C c) e),Pl d,(NU h).symm⟩
  .cases h
 .cases h
end
noncomputable abbrev QD(K:NS)(u:NJ)(d:D):Prop:=∀P w,∃v,RelV v u/\∀(p:NR)(H:Hp),H p≠NN->K.lookup p=NN->Is ⟨K,p,P,w⟩ H v d
noncomputable abbrev Lc(K:NS)(us:List NJ)(ds:List D):Prop:=∀P w,∃a,aq a us/\∀(p:NR)(H:Hp),H p≠NN->K.lookup p=NN->ae ⟨K,p,P,w⟩ H a ds
theorem Kk{K:NS}{a:NR}{T:String}{j:Option NR}{its:Array NJ}{n:Nat}{d:Array (Option NJ)}{ds:List D}(lk:K.lookup a=NF ⟨.type T,j,.seq its n,d⟩)(f:T="tuple")(e:its.size<=NW)(h:Lc K its.toList ds):QD K (.ref a) (.tup ds):=λP w=>by
 subst f;obtain⟨c,r,i⟩:=h P w;refine⟨.ref a,rfl,λp H g b=>?_⟩;simp only[Is];refine⟨a,c,rfl,⟨λz=>?_,.inr ⟨_,its,n,lk,rfl,rfl,e,r⟩⟩,i p H g b⟩;have z:a=p:=z;rw[z,b]at lk;cases lk
theorem GR{K:NS}{u:NJ}{us:List NJ}{d:D}{ds:List D}(h:QD K u d)(f:Lc K us ds):Lc K (u::us) (d::ds):=λP w=>by
 obtain⟨v,r,i⟩:=h P w;obtain⟨c,e,is⟩:=f P w;exact⟨v::c,.cons r e,λp H a b=>.cons (i p H a b) (is p H a b)⟩
mutual
noncomputable def MY(K:NS):(d:D)->(u:NJ)->Ch (QD K u d)
 |.aU,u=>match u with
  |.none=>.y λP w=>⟨.aU,rfl,λp H _ _=>by simp only[Is]⟩|_=>.n
 |.bl b,u=>match u with
  |.bool c=>(cd (c=b)).b λq=>.y (by subst q;exactλP w=>⟨.bl _,rfl,λp H _ _=>by simp only[Is]⟩)|_=>.n
 |.int i,u=>match u with
  |.int j _=>(cd (j=i)).b λq=>.y (by subst q;exactλP w=>⟨.int _,⟨_,rfl⟩,λp H _ _=>by simp only[Is]⟩)|_=>.n
 |.str x,u=>match u with
  |.str y _=>(cb (sEq x y)).b λq=>.y (by rw[bz q];exactλP w=>⟨.str _,⟨_,rfl⟩,λp H _ _=>by simp only[Is]⟩)|_=>.n
 |.tup k,u=>match u with
  |.ref a=>match lk:K.lookup a with
   |some ⟨.type _,_,.seq e _,_⟩=>(cd (_="tuple")).b λg=>(cd (e.size<=NW)).b λf=>(Km K k e.toList).b λh=>.y (Kk lk g f h)|_=>.n
  |_=>.n
 |_,_=>.n
noncomputable def Km(K:NS):(ds:List D)->(us:List NJ)->Ch (Lc K us ds)
 |[],us=>match us with
  |[]=>.y λP w=>⟨[],.nil,λp H _ _=>.nil⟩|_=>.n
 |d::ds,us=>match us with
  |u::us=>(MY K d u).b λh=>(Km K ds us).b λa=>.y (GR h a)|_=>.n
end
noncomputable def MZ(K:NS)(x:Oo)(d:D):Bool:=match QN K OQ x with
 |some (NF u)=>(MY K d u).ok|_=>NP
noncomputable def GS(K:NS)(gn:List Oo)(ds:List (Option D)):Bool:=(gn.zip ds).all λe=>match e.2 with
 |some d=>MZ K e.1 d|none=>NM
theorem Cq{K:NS}{gn:List Oo}{ds:List (Option D)}(q:GS K gn ds=NM){i:Nat}{x:Oo}{d:D}(hx:gn[i]?=NF x)(hd:ds[i]?=NF (NF d)):∃u,QN K OQ x=NF (NF u)/\QD K u d:=by
 have a:(x,NF d)∈gn.zip ds:=OH (i:=i) (by rw[Sn];exact⟨hx,hd⟩);have:=List.all_eq_true.mp q _ a;dsimp only at this;unfold MZ at this;split at this;.rename_i u e;exact⟨u,e,Ch.of this⟩
 .cases this
noncomputable def M0(K:NS)(gn:List Oo)(ds:List (Option D)):Bool:=(gn.zip ds).all λe=>match e.2 with
 |some (.tup _)=>(match QN K OQ e.1 with
  |some (NF (.ref a))=>(match K.lookup a with
   |some ⟨.type T,NN,_,_⟩=>decide (T="tuple")|_=>NP)|_=>NP)|_=>NM
noncomputable def Mu(ds:List (Option D))(i:Nat):Option D:=(ds[i]?).join
noncomputable def Kn(ds:List (Option D))(cs:List Kl):Gv:=⟨Mu ds,zP cs,Kj cs,vz cs,zQ cs⟩
noncomputable def M1(K:NS):Bool:=dq.all λx=>match QN K OQ x with
 |some NN=>NM|_=>NP
theorem GU{P:N7}{w:Oq}{K:NS}{mg:Oo->Option NJ}{base h:Oy}{gn cn:List Oo}{es:List En}{ds:List (Option D)}{cs:List Kl}(X:K.In h)(G:h.Ns OQ mg){dn:List Oo}(u0:dn=es.map (·.x))(s:GQ K ⟨dn,gn,cn⟩ es=NM)(q:GS K gn ds=NM)(p:M0 K gn ds=NM)(g:AH K cn cs=NM)(o:M1 K=NM)(hw:∀e∈es,∀t,e.k=.wit t->∃np,HQ P w K mg base e.x np t):jU P w K mg base ⟨dn,gn,cn⟩ (es.map (·.k)) (Kn ds cs)where
 bl:=λx hx=>by
  have:=List.all_eq_true.mp o x hx;split at this;.rename_i e;exact WJ X G e
  .cases this
 df:=Co X G s u0 hw;cl:=λc x C hx m=>R4 X G ((lZ g).1 c x C hx m);DL:=λC m=>by
  obtain⟨k,f,e⟩:=List.any_eq_true.mp (show(cs.any λk=>RA k.C C)=NM from m);have e:=Pl e;subst e;exact((lZ g).2 k f).2.1
 sb:=λc P r h=>by
  obtain⟨k,f,j,l,rfl,rfl,rfl⟩:=zT h;exact(((lZ g).2 k f).2.2 j l).1
 wU:=λc u r n=>by
  have h:zQ cs c u=NF r:=n;clear n;unfold zQ at h;split at h
  .obtain⟨k,f,j,l,rfl,rfl,rfl⟩:=zT h;exact⟨((lZ g).2 k f).1,(((lZ g).2 k f).2.2 j l).2⟩
  .cases h
 co:=λi x d hx hd=>by
  obtain⟨u,e,b⟩:=Cq q hx (Option.join_eq_some_iff.mp hd);obtain⟨v,r,is⟩:=b P w;exact⟨u,v,R4 X G e,r,is⟩
 ct:=λi x d hx hd y=>by
  have z:(x,NF d)∈gn.zip ds:=OH (i:=i) (by rw[Sn];exact⟨hx,Option.join_eq_some_iff.mp hd⟩);have:=List.all_eq_true.mp p _ z;cases d<;>first|cases y|skip
  dsimp only at this;split at this
  .rename_i a e;split at this
   .rename_i T dt A lk;have:=of_decide_eq_true this;subst this;exact⟨a,_,R4 X G e,lk,rfl,rfl⟩
   .cases this
  .cases this
noncomputable def tN(K:NS):Sp:=λc H Q _=>∃(a:NR)(ns:List Int),c=[.ref a]/\dy K H a (ns.map V.int)/\ns.length<=63/\∀(p q:NR)(b:Hp),lb b p q 0->sx H b->H p=NN->Q (.ref p) b
theorem Ko{ns:List Int}(h:ns.length<=63):v8 (ns.map V.int) NN (NF 63)=ns.map V.int:=by
 unfold v8;have e:HT.pj (ns.map V.int).length (ns.map V.int).length (NF 63)=ns.length:=by
  have:=HT.AY (ns.map V.int).length (ns.map V.int).length 63;rw[show((63:Nat):Int)=63 from rfl]at this;rw[this,NY];omega
 rw[e,HT.xO,List.drop_zero,Nat.sub_zero,RL (by simp)]
section
variable{P:N7}{w:Oq}{K:NS}{mg:Oo->Option NJ}{base:Oy}
theorem Cr{x d:Oo}{st:Qq}{f:NR}{fd:PH}{k1 k2 k3:Nat}{p1 L J I G D C B z n:P8}(F:xT K x d st f fd)(S:cR ["_law_script"] ["_law_script"] (ak st))(c:mg "list"=NN)(hb:b5 st=[.Return (NF (.List [.Call (.Name "list" p1) [.Subscript (.Name "_law_script" L) (.Slice NN (NF (.Constant (.int 63) k1 J)) NN I) G] [] D,.Constant (.int 0) k2 C,.Constant (.int 0) k3 B] z)) n])(R:(ak st).names.lookup (NH "list")=NF NameKind.globalImplicit):dA P w K mg base wb 1 f fd ["_law_script"] (tN K):=by
 refine F.ok S (λy H Q E h=>?_) (λU A outer s H y Q E W h=>?_)
 .obtain⟨a,ns,rfl,_⟩:=h;rfl
 .obtain⟨a,ns,rfl,T,v,M⟩:=h;have N:t4 (ak st) "_law_script":=by
   rcases S.par _ NV with e|e;.exact .inl e
   .exact .inr (.inl e)
  rw[hb];refine⟨_,iC (kL (si (aZ (yk (mS nW R c PyProof.Rows.boot_list (aZ (xP A3 (d7 (i:=0) rfl N) A0 (A2 aC)) dz))) (aZ aC (aZ aC dz))))),?_⟩;refine⟨_,rfl,63,rfl,a,_,rfl,T,λg r=>?_⟩;rw[Ko v];refine⟨g,_,rfl,.inl (dy.of aj),λq O=>⟨q,_,rfl,aj,λo=>?_⟩⟩;refine⟨by show 3<=NW;decide,λp k=>?_⟩;rw[bN]at k⊢;have m:sx H (upd H g (.lst (ns.map V.int))):=λb o e=>by rw[ai (aB e r)];exact e
  have l:sx (upd H g (.lst (ns.map V.int))) (upd (upd H g (.lst (ns.map V.int))) q (.bP o (.lst (ns.map V.int)))):=λb o e=>by rw[ai (aB e O)];exact e
  have j:q≠p:=aB (aj (H:=upd H g (.lst (ns.map V.int))) (a:=q) (o:=.bP o (.lst (ns.map V.int)))) k;have t:H p=NN:=by cases e:H p with
   |none=>rfl|some u=>rw[l p u (m p u e)]at k;cases k
  refine M p q _ ⟨ns,0,0,⟨aj,⟨o,by rw[ai j];exact aj⟩,j,Xk _,Xk _,v⟩,Xk _⟩ (λb o e=>?_) t;rw[ai (aB (l b o (m b o e)) k)];exact l b o (m b o e)
end
inductive T.mG{α:Type}:Nat->(α->Prop)->T α->Prop where|ok{m:Nat}{P:α->Prop}{a:α}(h:P a):T.mG m P (.ok a)|draw{m:Nat}{P:α->Prop}{n:Int}{k:Int->T α}(h1:0<n)(h2:n<1073741824)(h3:∀i,0<=i->i<n->T.mG m P (k i)):T.mG (m+1) P (.draw n k)|perm{m:Nat}{P:α->Prop}{l:List D}{k:List D->T α}(h:∀l',l'.Perm l->T.mG m P (k l')):T.mG m P (.perm l k)
theorem T.zU{e:Type}{P:e->Prop}{E:Xc->Nat->Prop}{t:T e}{m:Nat}(h:t.mG m P):∀k,k+m<=1000000->t.ay.run k (λa _=>P a) E:=by induction h with
 |ok h=>intro k _;exact h|draw l j n d=>
  intro k f;exact⟨⟨l,j⟩,by omega,λg a b i c=>d i c.1 c.2 g (by omega)⟩|perm h d=>
  intro k f;exactλi c=>d i c k f
noncomputable def zV(K:NS):Sp:=λb H Q _=>∃(a:NR)(ns:List Int),b=[.ref a]/\dy K H a (ns.map V.int)/\ns.length<=63/\∀c,Q (.bl NM) c
section
variable{P:N7}{w:Oq}{K:NS}{mg:Oo->Option NJ}{base:Oy}{g:d4}{defs:List Dk}{b:Gv}
theorem GV{x c:Oo}{st:Qq}{f:NR}{fd:PH}{N:List Oo}{r:bD}{rest:List Qq}{n m:Nat}{xn Y:Oo}{p1 p2 p3 p4 p5:P8}(T:jU P w K mg base g defs b)(F:xT K x c st f fd)(S:cR N ["_law_script"] (ak st))(feed:∃f fd,dA P w K mg base wb 1 f fd ["_law_script"] (tN K)/\mg "_law_feed"=NF (.ref f)/\R9 K (.ref f)=NM/\Binds K fd ["_law_script"] [])(hb:b5 st=.Assign [.Name xn p1] (.Call (.Name "_law_feed" p2) [.Name Y p3] [] p4) p5::rest)(q1:e8 ⟨N,ak st,NM,[]⟩ 1 xn=NM)(q2:eS ⟨N,ak st,NM,[]⟩ 0 Y=NM)(q3:b_ ⟨N,ak st,NM,[]⟩ "_law_feed"=NM)(q4:zG g ⟨N,ak st,NM,[]⟩ r rest)(hm:m<=1000000)(ev:(ax (b.ev (ao defs b (n+1))) r (NN::NF .feed::OV (N.length-2) NN)).mG m (λfl=>fl=.rt (.bl NM))):dA P w K mg base wb (n+2) f fd ["_law_script"] (zV K):=by
 obtain⟨oc,od,kV,a6,pm,an,C,ct,a0,rfl,lk,A⟩:=F.ex;refine xK lk A S (λvs H Q E h=>?_) λA' outer s H vs Q E y h=>?_
 .obtain⟨a,ns,rfl,_⟩:=h;rfl
 .obtain⟨a,ns,rfl,hS,hn,hQ⟩:=h;have J:∀(p:NR)(k:Hp),XC g (b.ev (ao defs b (n+1))) ⟨N,ak st,NM,[]⟩ (j3 wb P w K mg base N c (ak st) f C A' outer s H E) ⟨⟨K,p,P,w⟩,k,0,λ_ _=>False,k,0⟩:=λp k=>⟨rfl,rfl,rfl,rfl,S.nd,rfl,rfl,y.units,λ_ _=>rfl,(λ_ z=>nomatch z),mark_none y.hd,T.bl,λf' x' O=>by
    obtain⟨np,l,B⟩:=jU.all T (n+1) f' x' O;exact⟨np,n+1,y,l,B⟩,xx.never λ_ _ z=>z,λ_=>⟨rfl,rfl⟩,T.cl,T.DL,y.gd,T.sb,T.wU,λi x d hx hd=>let⟨u,v,l,B,X⟩:=T.co i x d hx hd;⟨u,v,l,B,λH hH hp=>X p H hH hp⟩,T.ct,λ_=>⟨_,A⟩⟩;obtain⟨l,B,X⟩:=(J 0 H).loc q1;obtain⟨v1,v2,v3,v4⟩:=(J 0 H).Ce q2;obtain⟨g1,g2,g3⟩:=(J 0 H).gl q3;obtain⟨ff,a5,FF,R,U,V⟩:=feed;rw[hb];have rs:ph (j3 wb P w K mg base N c (ak st) f C A' outer s H E) rest (λZ L o=>∃p k,LS ⟨⟨K,p,P,w⟩,k,0,λ_ _=>False,k,0⟩ (λρ=>(ax (b.ev (ao defs b (n+1))) r ρ).ay) Z L o):=λt s L o D I⟨p,k,z⟩=>(q4 _ _ _ W8 (J p k)).ps t s L o D I z;refine⟨_,bf (c7 (i:=1) S.nd l B (AW (FF.mono (by omega:1<=n+1)) y g1 R U V .nil IC (aZ (d7 (i:=0) v1 v2 v3 v4) dz) g2) rfl X) rs,?_⟩;refine⟨_,rfl,a,ns,rfl,hS,hn,λp q o fq sm hp=>?_⟩;have lv:o p≠NN:=by obtain⟨_,_,_,G,_⟩:=fq;rw[G.ob];intro z;cases z
  refine⟨p,o,NN::NF .feed::OV (N.length-2) NN,0,?_,?_⟩
  .have a4:2<=N.length:=by have:=(List.getElem?_eq_some_iff.mp l).1;exact this
   have only:∀(i:Nat)(d:W),(NN::NF W.feed::OV (N.length-2) NN:af)[i]?=NF (NF d)->i=1/\d=.feed:=λi d e=>by match i,e with
    |0,e=>cases e|1,e=>exact⟨rfl,by cases e;rfl⟩|i+2,e=>
     simp only[QZ]at e;have:=OH e;rw[List.mem_replicate]at this;cases this.2
   refine⟨?_,λi d e=>?_,λi j d e v a3 a1 a2 o1 o2=>?_,lv,.refl,.refl⟩
   .simp only[start,Ol,Qx,VC,OO,NY,Ox];omega
   .obtain⟨rfl,rfl⟩:=only i d e;refine⟨.ref p,?_,rfl,q,fq⟩;rw[SQ];simp only[start,Ol,Qx,OO,NY,Ox];omega
   .obtain⟨_,rfl⟩:=only i d a1;cases o1
  .refine M.wk (L2.T.zU ev 0 (by omega)) λfl k' e=>?_;subst e;intro v H2 e1 i;simp only[Is]at i;subst i;exact hQ H2
end
noncomputable def xi(K:NS)(x:Oo):Option (NR×PH×List Qq):=match QN K OQ x with
 |some (NF (.ref f))=>(match K.lookup f with
  |some ⟨_,_,.func fd,_⟩=>(match GO fd with
   |some b=>if Qk K fd.code fd.qualname then NF (f,fd,b)else NN|none=>NN)|_=>NN)|_=>NN
noncomputable def i4(t:NR×PH×List Qq):Oo×Oo×U0×List Qq×Qr:=(t.2.1.name,t.2.1.qualname,t.2.1.params,t.2.2,t.2.1.scope)
theorem l9{K:NS}{x y q:Oo}{st:Qq}{ps:List Oo}(h:(xi K x).map i4=NF (y,q,di st,b5 st,ak st))(p:rF (di st) ps=NM):∃f fd,xT K y q st f fd/\QN K OQ x=NF (NF (.ref f))/\∀us:List NJ,us.length=ps.length->WO fd ⟨us,[]⟩=pure (ps.zip us):=by cases e:xi K x with
 |none=>rw[e]at h;cases h|some t=>
  obtain⟨f,fd,b⟩:=t;rw[e]at h;simp only[Rn,i4,Pw,Rw]at h;obtain⟨v,k,j,u,s⟩:=h;unfold xi at e;split at e
  .rename_i B en;split at e
   .rename_i i g w a lk;split at e
    .rename_i C l;split at e
     .rename_i r;cases e;have F:=zL lk l r;refine⟨f,fd,⟨?_,F.kp⟩,en,?_⟩
      .obtain⟨i,g,kV,c,o,A,d,ct,a,n,z,m⟩:=F.ex;rw[v,k,show di (zK fd b)=di st from j,show b5 (zK fd b)=b5 st from u,show ak (zK fd b)=ak st from s]at n;rw[k]at m;exact⟨i,g,kV,c,o,A,d,ct,a,n,z,m⟩
      .exact bind_eq l (by rw[j];exact p)
     .cases e
    .cases e
   .cases e
  .cases e
end L2
end
section
namespace K24
open PySem L2 K24d
noncomputable def l_:bD:=(.cons (.fz 2 (.ret (.bi .tuple (.cons (.bi .sorted (.cons (.var 2) .nil)) .nil)))) .nil)
noncomputable def hZ:Ex:=(.mv 3 (.DD (.var 3)))
noncomputable def bS:bD:=(.cons (.iff (.mv 2 (.bC .NotIn (.var 6) (.var 2))) (.cons (.add 2 (.var 6)) (.cons (.app 3 (.var 6)) .nil)) .nil) .nil)
noncomputable def dH:bD:=(.cons (.iff (.bC .In (.var 4) (.var 5)) (.cons (.eE (.nm 6) (.cO (.var 5)) bS) .nil) .nil) .nil)
noncomputable def h_:bD:=(.cons (.pop 4 3) (.cons (.eE (.nm 5) (.cO (.var 0)) dH) .nil))
noncomputable def bV:bD:=(.cons (.iff (.bC .NotIn (.var 2) (.ku 0)) (.cons (.raise 3 (.cons (.cst (.str "an axis is x or y")) .nil)) .nil) .nil) .nil)
noncomputable def c_:Ex:=(.jx (.bC .Eq (.idx (.idx (.var 2) (.var 0)) (.var 3)) (.idx (.idx (.var 2) (.var 1)) (.var 3))))
noncomputable def dg:Ex:=(.tup (.cons (.var 0) (.cons (.var 1) .nil)))
noncomputable def ft:bD:=(.cons (.set 3 (.JA 0 (.cons (.var 1) .nil))) (.cons (.ret (.lc ["a","b"] [2,3] (.tup 2 (.cons (.nm 0) (.cons (.nm 1) .nil))) (.cO (.idx (.var 0) (.cst (.int 1)))) c_ dg)) .nil))
noncomputable def zW:bD:=(.cons (.ret (.call 3 (.cons (.call 5 (.cons (.var 0) (.cons (.var 2) .nil))) (.cons (.var 1) .nil)))) .nil)
noncomputable def rG:bD:=(.cons (.fz 3 (.ret (.var 3))) .nil)
noncomputable def rH:bD:=(.cons (.app 3 (.mv 3 (.op .Add (.op .Add (.idx (.var 3) (.neg (.cst (.int 1)))) (.cst (.int 1))) (.call 7 (.feed 0 (.cons (.var 2) .nil)))))) .nil)
noncomputable def rJ:bD:=(.cons (.fz 3 (.ret (.bi .sorted (.cons (.var 3) .nil)))) .nil)
noncomputable def i5:bD:=(.cons (.set 9 (.tup (.cons (.op .Add (.var 5) (.var 7)) (.cons (.op .Sub (.op .Add (.var 6) (.cst (.int 1))) (.var 7)) .nil)))) (.cons (.iff (.tF (.bC .Lt (.idx (.var 9) (.cst (.int 0))) (.var 1)) (.jx (.bC .Lt (.idx (.var 9) (.cst (.int 1))) (.var 2)))) (.cons (.put 3 (.tup (.cons (.tup (.cons (.var 5) (.cons (.var 6) .nil))) (.cons (.var 9) .nil))) (.cst (.bl NM))) .nil) .nil) (.cons (.asg (.tup 2 (.cons (.nm 5) (.cons (.nm 6) .nil))) (.var 9)) .nil)))
noncomputable def rK:bD:=(.cons (.par 5 6 (.cons (.call 7 (.feed 0 (.cons (.var 1) .nil))) (.cons (.call 7 (.feed 0 (.cons (.var 2) .nil))) .nil))) (.cons (.set 7 (.call 7 (.feed 0 (.cons (.cst (.int 2)) .nil)))) (.cons (.eE (.nm 8) (.oE (.cons (.op .Add (.cst (.int 1)) (.call 7 (.feed 0 (.cons (.idx (.lst (.cons (.var 2) (.cons (.var 1) .nil))) (.var 7)) .nil)))) .nil)) i5) .nil)))
noncomputable def vB:bD:=(.cons (.fz 1 (.ret (.var 1))) .nil)
noncomputable def ky:bD:=(.cons (.put 1 (.tup (.cons (.var 2) (.cons (.var 3) .nil))) (.mv 1 (.op .Add (.oF (.var 1) (.cons (.tup (.cons (.var 2) (.cons (.var 3) .nil))) (.cons (.lst .nil) .nil))) (.lst (.cons (.bi .int (.cons (.cmp .Eq (.var 2) (.var 4)) .nil)) .nil))))) (.cons (.put 1 (.tup (.cons (.var 4) (.cons (.var 5) .nil))) (.mv 1 (.op .Add (.oF (.var 1) (.cons (.tup (.cons (.var 4) (.cons (.var 5) .nil))) (.cons (.lst .nil) .nil))) (.lst (.cons (.op .Add (.cst (.int 2)) (.bi .int (.cons (.cmp .Eq (.var 2) (.var 4)) .nil))) .nil))))) .nil))
noncomputable def oP:bD:=(.cons (.ret (.var 4)) .nil)
noncomputable def e_:Ex:=(.Gh (.bC .Eq (.var 4) (.var 2)) (.jx (.bC .NotIn (.var 4) (.var 1))))
noncomputable def fb:bD:=(.cons (.set 5 (.tup (.cons (.op .Add (.idx (.var 4) (.cst (.int 0))) (.var 3)) (.cons (.op .Sub (.op .Add (.idx (.var 4) (.cst (.int 1))) (.cst (.int 1))) (.var 3)) .nil)))) (.cons (.iff (.bC .NotIn (.tup (.cons (.var 4) (.cons (.var 5) .nil))) (.var 0)) (.cons (.ret (.var 2)) .nil) .nil) (.cons (.set 4 (.var 5)) .nil)))
noncomputable def gC:bD:=(.cons (.fz 3 (.ret (.var 3))) .nil)
noncomputable def eG:bD:=(.cons (.iff (.bC .NotEq (.var 6) (.var 4)) (.cons (.app 3 (.tup (.cons (.var 4) (.cons (.var 6) .nil)))) .nil) .nil) .nil)
noncomputable def gD:bD:=(.cons (.set 6 (.call 12 (.cons (.var 2) (.cons (.var 1) (.cons (.var 4) (.cons (.var 5) .nil)))))) eG)
noncomputable def gE:bD:=(.cons (.eE (.nm 5) (.oE (.cons (.cst (.int 2)) .nil)) gD) .nil)
noncomputable def gF:Ex:=(.tup (.cons (.var 0) (.cons (.cst (.bl NM)) .nil)))
noncomputable def zX:bD:=(.cons (.ret (.tup (.cons (.bi .tuple (.cons (.var 4) .nil)) (.cons (.bi .tuple (.cons (.bi .sorted (.cons (.var 5) .nil)) .nil)) .nil)))) .nil)
noncomputable def zY:Ex:=(.tup (.cons (.idx (.var 2) (.var 0)) (.cons (.idx (.var 2) (.var 1)) .nil)))
noncomputable def zZ:bD:=(.cons (.set 5 (.lc ["_law_one","_law_other"] [1] (.tup 2 (.cons (.nm 0) (.cons (.nm 1) .nil))) (.cO (.call 13 (.cons (.var 0) (.cons (.bi .sorted (.cons (.var 1) .nil)) .nil)))) .yes zY)) zX)
noncomputable def z0:Ex:=(.tup (.cons (.idx (.var 2) (.tup (.cons (.var 0) (.cons (.var 1) .nil)))) (.cons (.idx (.var 3) (.var 0)) (.cons (.idx (.var 4) (.var 1)) .nil))))
noncomputable def jW:bD:=(.cons (.fz 5 (.ret (.var 5))) .nil)
noncomputable def fO:bD:=(.cons (.iff (.Gh (.tG (.DD (.call 11 (.cons (.idx (.var 2) (.var 7)) .nil)))) (.jx (.bC .Eq (.call 7 (.feed 0 (.cons (.cst (.int 5)) .nil))) (.cst (.int 0))))) (.cons (.put 5 (.var 7) (.op .Mod (.op .Add (.var 3) (.op .Mult (.var 4) (.var 6))) (.cst (.int 1000)))) .nil) .nil) .nil)
noncomputable def fP:bD:=(.cons (.gZ 5) (.cons (.eE (.tup 2 (.cons (.nm 6) (.cons (.nm 7) .nil))) (.zm (.cons (.bi .sorted (.cons (.var 2) .nil)) .nil)) fO) jW))
noncomputable def fQ:bD:=(.cons (.par 3 4 (.cons (.call 7 (.feed 0 (.cons (.cst (.int 1000)) .nil))) (.cons (.idx (.lst (.cons (.cst (.int 1)) (.cons (.cst (.int 7)) (.cons (.cst (.int 333)) (.cons (.cst (.int 999)) (.cons (.cst (.int 101)) (.cons (.cst (.int 613)) .nil))))))) (.call 7 (.feed 0 (.cons (.cst (.int 6)) .nil)))) .nil))) (.cons (.iff (.bC .Eq (.call 7 (.feed 0 (.cons (.cst (.int 2)) .nil))) (.cst (.int 0))) (.cons (.asg (.tup 2 (.cons (.nm 3) (.cons (.nm 4) .nil))) (.tup (.cons (.cst (.int 0)) (.cons (.cst (.int 1)) .nil)))) .nil) .nil) fP))
noncomputable def z4:bD:=(.cons (.fz 5 (.ret (.bi .tuple (.cons (.bi .sorted (.cons (.bi .set (.cons (.var 5) .nil)) .nil)) .nil)))) .nil)
noncomputable def oQ:Ex:=(.bC .IsNot (.var 7) (.cst (.aU)))
noncomputable def jD:bD:=(.cons (.iff (.bC .In (.var 7) (.var 1)) (.cons (.app 5 (.idx (.var 1) (.var 7))) .nil) .nil) (.cons (.set 8 (.tup (.cons (.op .Add (.idx (.var 7) (.cst (.int 0))) (.op .Mult (.var 6) (.var 4))) (.cons (.op .Add (.idx (.var 7) (.cst (.int 1))) (.op .Mult (.var 6) (.op .Sub (.cst (.int 1)) (.var 4)))) .nil)))) (.cons (.set 9 (.tup (.cons (.bi .min (.cons (.var 7) (.cons (.var 8) .nil))) (.cons (.bi .max (.cons (.var 7) (.cons (.var 8) .nil))) .nil)))) (.cons (.set 7 (.idx (.lst (.cons (.cst (.aU)) (.cons (.var 8) .nil))) (.bi .int (.cons (.cmp .In (.var 9) (.var 0)) .nil)))) .nil))))
noncomputable def jE:bD:=(.cons (.set 7 (.var 2)) (.cons (.DK oQ jD) .nil))
noncomputable def GW:bD:=(.cons (.iff (.bC .Is (.var 3) (.cst (.aU))) (.cons (.ret (.var 4)) .nil) .nil) (.cons (.ret (.lst (.cons (.DF 2 (.var 3)) (.cons (.DF 3 (.var 3)) (.cons (.DF 4 (.var 3)) (.cons (.DF 1 (.var 3)) .nil)))))) .nil))
noncomputable def oR:bD:=(.cons (.ret (.cmp .Eq (.call 17 (.cons (.var 5) (.cons (.var 8) (.cons (.var 9) .nil)))) (.lst (.cons (.cst (.bl NP)) (.cons (.cst (.bl NM)) (.cons (.cst (.bl NP)) (.cons (.cst (.bl NP)) .nil))))))) .nil)
noncomputable def kz:bD:=(.cons (.iff (.bC .NotEq (.call 17 (.cons (.var 5) (.cons (.var 11) (.cons (.var 12) .nil)))) (.lst (.cons (.cst (.bl NM)) (.cons (.cst (.bl NP)) (.cons (.cst (.bl NP)) (.cons (.cst (.bl NP)) .nil)))))) (.cons (.ret (.cst (.bl NP))) .nil) .nil) .nil)
noncomputable def i7:bD:=(.cons (.eE (.nm 12) (.cO (.tup (.cons (.cst (.str "x")) (.cons (.var 9) .nil)))) kz) .nil)
noncomputable def vC:Ex:=(.idx (.var 0) (.cst (.int 0)))
noncomputable def i8:Ex:=(.jx (.bC .NotIn (.var 0) (.lc ["_law_one"] [] (.nm 0) (.cO (.idx (.var 1) (.cst (.int 0)))) .yes vC)))
noncomputable def kB:Ex:=(.var 0)
noncomputable def oS:bD:=(.cons (.set 8 (.idx (.idx (.idx (.var 5) (.cst (.int 0))) (.call 7 (.feed 0 (.cons (.bi .len (.cons (.idx (.var 5) (.cst (.int 0))) .nil)) .nil)))) (.cst (.int 0)))) (.cons (.set 9 (.idx (.lst (.cons (.cst (.str "z")) (.cons (.cst (.str "")) (.cons (.cst (.str "xy")) (.cons (.cst (.aU)) (.cons (.cst (.int 0)) (.cons (.cst (.int 1)) (.cons (.tup (.cons (.cst (.str "x")) .nil)) (.cons (.cst (.bl NM)) (.cons (.cst (.str "X")) .nil)))))))))) (.call 7 (.feed 0 (.cons (.cst (.int 9)) .nil))))) (.cons (.set 10 (.lc ["_law_corner"] [5] (.nm 0) (.cO (.tup (.cons (.op .Add (.var 8) (.cst (.int 1))) (.cons (.op .Sub (.var 8) (.cst (.int 1))) (.cons (.cst (.int 1000)) (.cons (.neg (.cst (.int 1))) .nil)))))) i8 kB)) (.cons (.eE (.nm 11) (.cO (.op .Add (.var 10) (.lst (.cons (.cst (.aU)) (.cons (.bi .str (.cons (.var 8) .nil)) (.cons (.tup (.cons (.var 8) .nil)) (.cons (.lst (.cons (.var 8) .nil)) (.cons (.cst (.bl NM)) (.cons (.cst (.bl NP)) .nil))))))))) i7) oR))))
noncomputable def kC:bD:=(.cons (.iff (.bC .NotEq (.bi .repr (.cons (.call 17 (.cons (.var 5) (.cons (.idx (.var 4) (.var 6)) (.cons (.var 7) .nil)))) .nil)) (.bi .repr (.cons (.call 16 (.cons (.var 3) (.cons (.var 4) (.cons (.var 6) (.cons (.var 7) .nil))))) .nil))) (.cons (.ret (.cst (.bl NP))) .nil) .nil) .nil)
noncomputable def i9:bD:=(.cons (.eE (.nm 7) (.cO (.tup (.cons (.cst (.str "x")) (.cons (.cst (.str "y")) (.cons (.cst (.str "x")) .nil))))) kC) .nil)
noncomputable def oU:bD:=(.cons (.iff (.bC .Eq (.idx (.var 5) (.cst (.int 0))) (.tup .nil)) (.cons (.ret (.cst (.bl NM))) .nil) .nil) (.cons (.eE (.nm 6) (.cO (.bi .sorted (.cons (.var 4) .nil))) i9) oS))
noncomputable def rL:bD:=(.cons (.set 5 (.call 14 (.cons (.var 3) (.cons (.var 4) (.cons (.call 8 (.feed 0 (.cons (.var 1) .nil))) (.cons (.call 8 (.feed 0 (.cons (.var 2) .nil))) .nil)))))) oU)
noncomputable def rM:bD:=(.cons (.set 4 (.call 15 (.feed 0 (.cons (.var 3) .nil)))) rL)
noncomputable def z_:bD:=(.cons (.ret (.cst (.bl NM))) .nil)
noncomputable def Aa:bD:=(.cons (.iff (.tG (.DD (.call 18 (.feed 1 .nil)))) (.cons (.ret (.cst (.bl NP))) .nil) .nil) .nil)
noncomputable def rN:Df:=⟨1,1,(.cons (.ret (.and (.HN "int" (.var 0)) (.one (.not (.HN "bool" (.var 0)))))) .nil)⟩
noncomputable def vD:Df:=⟨1,1,(.cons (.ret (.dc ["c","x","y"] [] (.tup 3 (.cons (.nm 0) (.cons (.nm 1) (.cons (.nm 2) .nil)))) (.cO (.idx (.var 0) (.cst (.int 0)))) .yes (.var 0) (.tup (.cons (.var 1) (.cons (.var 2) .nil))))) .nil)⟩
noncomputable def cf:Df:=⟨2,2,(.cons (.ret (.and (.call 0 (.cons (.var 1) .nil)) (.one (.cmp .In (.var 1) (.call 1 (.cons (.var 0) .nil)))))) .nil)⟩
noncomputable def jF:Df:=⟨2,7,(.cons (.vo 2 1) (.cons (.rh 3 (.cons (.var 1) .nil)) (.cons (.DK hZ h_) l_)))⟩
noncomputable def aF:Df:=⟨3,3,(.cons (.iff (.tG (.DD (.call 2 (.cons (.var 0) (.cons (.var 1) .nil))))) (.cons (.raise 2 (.cons (.cst (.str "there is no such corner")) .nil)) .nil) .nil) bV)⟩
noncomputable def dI:Df:=⟨2,4,(.cons (.set 2 (.call 1 (.cons (.var 0) .nil))) ft)⟩
noncomputable def rO:Df:=⟨3,3,(.cons (.expr (.call 4 (.cons (.var 0) (.cons (.var 1) (.cons (.var 2) .nil))))) zW)⟩
noncomputable def fc:Df:=⟨2,5,(.cons (.set 2 (.idx (.lst (.cons (.cst (.int 1)) (.cons (.cst (.int 3)) (.cons (.cst (.int 90000)) .nil)))) (.call 7 (.feed 0 (.cons (.cst (.int 3)) .nil))))) (.cons (.rh 3 (.cons (.call 7 (.feed 0 (.cons (.var 2) .nil))) .nil)) (.cons (.eE (.nm 4) (.oE (.cons (.op .Sub (.var 1) (.cst (.int 1))) .nil)) rH) rG)))⟩
noncomputable def fe:Df:=⟨3,10,(.cons (.gZ 3) (.cons (.eE (.nm 4) (.oE (.cons (.op .Add (.cst (.int 1)) (.call 7 (.feed 0 (.cons (.cst (.int 12)) .nil)))) .nil)) rK) rJ))⟩
noncomputable def fR:Df:=⟨1,6,(.cons (.gZ 1) (.cons (.eE (.tup 2 (.cons (.tup 2 (.cons (.nm 2) (.cons (.nm 3) .nil))) (.cons (.tup 2 (.cons (.nm 4) (.cons (.nm 5) .nil))) .nil))) (.cO (.var 0)) ky) vB))⟩
noncomputable def bT:Df:=⟨1,1,(.cons (.ret (.cmp .In (.bi .sorted (.cons (.var 0) .nil)) (.tup (.cons (.lst (.cons (.cst (.int 0)) (.cons (.cst (.int 2)) .nil))) (.cons (.lst (.cons (.cst (.int 1)) (.cons (.cst (.int 3)) .nil))) .nil))))) .nil)⟩
noncomputable def cQ:Df:=⟨4,6,(.cons (.set 4 (.var 2)) (.cons (.DK e_ fb) oP))⟩
noncomputable def cg:Df:=⟨2,7,(.cons (.set 2 (.bi .dict (.cons (.lc ["_law_edge"] [] (.nm 0) (.cO (.var 0)) .yes gF) .nil))) (.cons (.rh 3 .nil) (.cons (.eE (.nm 4) (.cO (.var 1)) gE) gC)))⟩
noncomputable def ie:Df:=⟨4,6,(.cons (.set 4 (.bi .sorted (.cons (.lc ["_law_i","_law_j"] [1,2,3] (.tup 2 (.cons (.nm 0) (.cons (.nm 1) .nil))) (.cO (.bi .sorted (.cons (.var 1) .nil))) .yes z0) .nil))) zZ)⟩
noncomputable def dh:Df:=⟨2,8,(.cons (.set 2 (.call 10 (.cons (.var 1) .nil))) fQ)⟩
noncomputable def ig:Df:=⟨4,10,(.cons (.set 4 (.bi .int (.cons (.cmp .Eq (.var 3) (.cst (.str "y"))) .nil))) (.cons (.rh 5 .nil) (.cons (.eE (.nm 6) (.cO (.tup (.cons (.cst (.int 1)) (.cons (.neg (.cst (.int 1))) .nil)))) jE) z4)))⟩
noncomputable def dJ:Df:=⟨3,6,(.cons (.asg (.tup 2 (.cons (.nm 3) (.cons (.nm 4) .nil))) (.tup (.cons (.cst (.aU)) (.cons (.cst (.aU)) .nil)))) (.cons (.zo (.cons (.set 4 (.call 6 (.cons (.var 0) (.cons (.var 1) (.cons (.var 2) .nil))))) .nil) 0 5 3 (.slot 5)) GW))⟩
noncomputable def fS:Df:=⟨1,13,(.cons (.par 1 2 (.cons (.op .Add (.cst (.int 2)) (.call 7 (.feed 0 (.cons (.cst (.int 6)) .nil)))) (.cons (.op .Add (.cst (.int 2)) (.call 7 (.feed 0 (.cons (.cst (.int 5)) .nil)))) .nil))) (.cons (.set 3 (.call 9 (.feed 0 (.cons (.var 1) (.cons (.var 2) .nil))))) rM))⟩
noncomputable def dn:List Oo:=[NH "is_number",NH "spots",NH "has_corner",NH "reached",NH "look_corner_and_axis",NH "walls_across",NH "run",NH "_law_draw",NH "_law_table",NH "_law_edges",NH "_law_ways",NH "_law_is_straight",NH "_law_shut_from",NH "_law_shuts_here",NH "_law_net",NH "_law_numbered",NH "_law_run",NH "_law_met",NH "_law_bout"]
noncomputable def gn:List Oo:=[NH "AXES"]
noncomputable def cn:List Oo:=[NH "PlanError",NH "NoNet",NH "NoCorner",NH "NoAxis",NH "NoMove"]
noncomputable def Ld:d4:=⟨dn,gn,cn⟩
noncomputable def Le:List (Option D):=[NF (D.tup [(D.str "x"),(D.str "y")])]
noncomputable def ents:List En:=[⟨NH "is_number",[NH "thing"],[NH "thing"],.df rN⟩,⟨NH "spots",[NH "net"],[NH "net"],.df vD⟩,⟨NH "has_corner",[NH "net",NH "thing"],[NH "net",NH "thing"],.df cf⟩,⟨NH "reached",[NH "walls",NH "start",NH "seen",NH "waiting",NH "corner",NH "wall",NH "end"],[NH "walls",NH "start"],.df jF⟩,⟨NH "look_corner_and_axis",[NH "net",NH "c",NH "axis"],[NH "net",NH "c",NH "axis"],.df aF⟩,⟨NH "walls_across",[NH "net",NH "axis",NH "at",NH "place"],[NH "net",NH "axis"],.df dI⟩,⟨NH "run",[NH "net",NH "c",NH "axis"],[NH "net",NH "c",NH "axis"],.df rO⟩,⟨NH "_law_draw",[NH "_law_feed_here",NH "_law_many",NH "_law_got",NH "_law_at",NH "_law_cell",NH "_law_number"],[NH "_law_feed_here",NH "_law_many"],.wit vw⟩,⟨NH "_law_table",[NH "_law_feed_here",NH "_law_many",NH "_law_far",NH "_law_found",NH "_law_k"],[NH "_law_feed_here",NH "_law_many"],.df fc⟩,⟨NH "_law_edges",[NH "_law_feed_here",NH "_law_wide",NH "_law_high",NH "_law_found",NH "_law_turn",NH "_law_i",NH "_law_j",NH "_law_level",NH "_law_k",NH "_law_other"],[NH "_law_feed_here",NH "_law_wide",NH "_law_high"],.df fe⟩,⟨NH "_law_ways",[NH "_law_edges_here",NH "_law_found",NH "_law_i",NH "_law_j",NH "_law_u",NH "_law_v"],[NH "_law_edges_here"],.df fR⟩,⟨NH "_law_is_straight",[NH "_law_leaving"],[NH "_law_leaving"],.df bT⟩,⟨NH "_law_shut_from",[NH "_law_known",NH "_law_points",NH "_law_one",NH "_law_level",NH "_law_here",NH "_law_there"],[NH "_law_known",NH "_law_points",NH "_law_one",NH "_law_level"],.df cQ⟩,⟨NH "_law_shuts_here",[NH "_law_edges_here",NH "_law_points",NH "_law_known",NH "_law_found",NH "_law_one",NH "_law_level",NH "_law_other"],[NH "_law_edges_here",NH "_law_points"],.df cg⟩,⟨NH "_law_net",[NH "_law_edges_here",NH "_law_numbers",NH "_law_xs",NH "_law_ys",NH "_law_corners",NH "_law_shuts"],[NH "_law_edges_here",NH "_law_numbers",NH "_law_xs",NH "_law_ys"],.df ie⟩,⟨NH "_law_numbered",[NH "_law_feed_here",NH "_law_edges_here",NH "_law_leaving",NH "_law_begin",NH "_law_step",NH "_law_found",NH "_law_k",NH "_law_point"],[NH "_law_feed_here",NH "_law_edges_here"],.df dh⟩,⟨NH "_law_run",[NH "_law_edges_here",NH "_law_numbers",NH "_law_point",NH "_law_axis",NH "_law_level",NH "_law_found",NH "_law_sign",NH "_law_here",NH "_law_there",NH "_law_edge"],[NH "_law_edges_here",NH "_law_numbers",NH "_law_point",NH "_law_axis"],.df ig⟩,⟨NH "_law_met",[NH "_law_net_here",NH "_law_c",NH "_law_axis",NH "_law_kept",NH "_law_told",NH "e"],[NH "_law_net_here",NH "_law_c",NH "_law_axis"],.df dJ⟩,⟨NH "_law_bout",[NH "_law_feed_here",NH "_law_wide",NH "_law_high",NH "_law_edges_here",NH "_law_numbers",NH "_law_net_here",NH "_law_point",NH "_law_axis",NH "_law_c",NH "_law_odd",NH "_law_gone",NH "_law_no",NH "_law_way"],[NH "_law_feed_here"],.df fS⟩]
noncomputable def tO:List Oo:=[NH "_law_script",NH "_law_feed_here",NH "_law_bout_here"]
noncomputable def rest:bD:=(.cons (.eE (.nm 2) (.oE (.cons (.cst (.int 6)) .nil)) Aa) z_)
noncomputable def defs:List Dk:=ents.map (·.k)
noncomputable def Mv:List Kl:=[⟨24,[24]⟩,⟨37,[24,37]⟩,⟨49,[24,49]⟩,⟨61,[24,61]⟩,⟨73,[24,73]⟩]
noncomputable def gv:Gv:=Kn Le Mv
end K24
end
section
namespace K24
open PySem L2
theorem M2(p:TX):M1 (head.heap_39 p)=NM:=by kernel_rfl
theorem Nr(p:TX):AH (head.heap_39 p) cn Mv=NM:=by kernel_rfl
theorem Nt(p:TX):GS (head.heap_39 p) gn Le=NM:=by kernel_rfl
theorem Nu(p:TX):M0 (head.heap_39 p) gn Le=NM:=by kernel_rfl
theorem Nv(p:TX):GQ (head.heap_39 p) Ld ents=NM:=by kernel_rfl
end K24
end
section
namespace K24
open PySem L2
noncomputable abbrev parts(s:Oo)(st:Qq):Option (Oo×Oo×U0×List Qq×Qr):=NF (s,s,di st,b5 st,ak st)
theorem Nw(p:TX):(xi (head.heap_39 p) "_law_feed").map i4=parts "_law_feed" K24d.zH:=by kernel_rfl
theorem Mw:rF (di K24d.zH) ["_law_script"]=NM:=by kernel_rfl
theorem Nx(p:TX):(xi (head.heap_39 p) "law").map i4=parts "law" K24d.rE:=by kernel_rfl
theorem Mx:rF (di K24d.rE) ["_law_script"]=NM:=by kernel_rfl
theorem My:(DN Ld ⟨tO,ak K24d.rE,NM,[]⟩ rest (b5 K24d.rE).tail).ok=NM:=by kernel_rfl
theorem Mz:Lb tO ["_law_script"] (ak K24d.rE)=NM:=by kernel_rfl
theorem MA:e8 ⟨tO,ak K24d.rE,NM,[]⟩ 1 "_law_feed_here"=NM:=by kernel_rfl
theorem MB:eS ⟨tO,ak K24d.rE,NM,[]⟩ 0 "_law_script"=NM:=by kernel_rfl
theorem MD:b_ ⟨tO,ak K24d.rE,NM,[]⟩ "_law_feed"=NM:=by kernel_rfl
theorem Ny:dn=ents.map (·.x):=by kernel_rfl
theorem Nz(p:TX):(xi (head.heap_39 p) "_law_draw").map i4=parts "_law_draw" K24d.rD:=by kernel_rfl
theorem ME:rF (di K24d.rD) ["_law_feed_here","_law_many"]=NM:=by kernel_rfl
section
variable{P:N7}{w:Oq}{mg:Oo->Option NJ}{base h:Oy}{p:TX}
theorem Ab(X:T6 (head.heap_39 p) h)(G:h.Ns OQ mg)(a:mg "len"=NN):HQ P w (head.heap_39 p) mg base "_law_draw" 2 K24d.vw:=by
 obtain⟨f,fd,F,e,B⟩:=l9 (Nz p) ME;exact K24d.zI F a (R4 X G e) (.all B)
theorem Cs(X:T6 (head.heap_39 p) h)(G:h.Ns OQ mg)(a:mg "list"=NN):∃f fd,dA P w (head.heap_39 p) mg base wb 1 f fd ["_law_script"] (tN (head.heap_39 p))/\mg "_law_feed"=NF (.ref f)/\R9 (head.heap_39 p) (.ref f)=NM/\Binds (head.heap_39 p) fd ["_law_script"] []:=by
 obtain⟨f,fd,F,e,B⟩:=l9 (Nw p) Mw;exact⟨f,fd,Cr F K24d.GL a rfl rfl,R4 X G e,F.kp,.all B⟩
end
end K24
end
section
namespace K24
open PySem L2
noncomputable def vE(e:En):Bool:=match e.k with
 |.wit _=>NM|.df _=>NP
theorem MF:(ents.filter vE).map (λe=>(e.x,e.k))=[(NH "_law_draw",.wit K24d.vw)]:=by kernel_rfl
theorem txt{P:N7}{w:Oq}{mg:Oo->Option NJ}{base h:Oy}(X:T6 (head.heap_39 w.params) h)(G:h.Ns OQ mg):jU P w (head.heap_39 w.params) mg base Ld defs gv:=by
 have b:mg "len"=NN:=by
  have:=List.all_eq_true.mp (M2 w.params) (NH "len") (by simp[dq]);split at this;.rename_i e;exact WJ X G e
  .cases this
 refine GU (ds:=Le) (cs:=Mv) X G Ny (Nv w.params) (Nt w.params) (Nu w.params) (Nr w.params) (M2 w.params) λe j t g=>?_;have i:e∈ents.filter vE:=List.mem_filter.mpr ⟨j,by unfold vE;rw[g]⟩;have a:(e.x,e.k)∈(ents.filter vE).map λe=>(e.x,e.k):=Rz (f:=λe:En=>(e.x,e.k)) i;rw[MF]at a;have d:=List.mem_singleton.mp a;injection d with l c;rw[g]at c;injection c with c;subst c;rw[l];exact⟨2,Ab X G b⟩
theorem Kq(whole:(ax (gv.ev (ao defs gv 39)) rest (NN::NF .feed::OV (tO.length-2) NN)).mG 1000000 (λd=>d=.rt (.bl NM)))(p:TX):∃f fd,QN (head.heap_39 p) OQ "law"=NF (NF (.ref f))/\(∀us:List NJ,us.length=1->WO fd ⟨us,[]⟩=pure ([NH "_law_script"].zip us))/\∀{P:N7}{w:Oq}{mg:Oo->Option NJ}{base:Oy},w.params=p->T6 (head.heap_39 p) base->base.Ns OQ mg->dA P w (head.heap_39 p) mg base wb 40 f fd ["_law_script"] (zV (head.heap_39 p)):=by
 obtain⟨f,fd,F,c,b⟩:=l9 (Nx p) Mx;refine⟨f,fd,c,b,λ{P w mg base}a X G=>?_⟩;subst a;have T:jU P w (head.heap_39 w.params) mg base Ld defs gv:=txt X G;exact GV (n:=38) (m:=1000000) T F (zN Mz) (Cs X G (T.bl _ (Gk rfl))) rfl MA MB MD (Ch.of My) (by decide) whole
end K24
end
section
namespace L2
namespace T
variable{α β:Type}
noncomputable def wp:T α->Nat->(α->Nat->Prop)->Prop
 |.ok a,m,Q=>Q a m|.exc _,_,_=>False|.stuck,_,_=>False|.draw n k,m,Q=>0<n/\n<1073741824/\0<m/\∀i,0<=i->i<n->(k i).wp (m-1) Q|.perm l k,m,Q=>∀b,b.Perm l->(k b).wp m Q
theorem oV{P:α->Prop}:∀{t:T α}{m:Nat},t.wp m (λa _=>P a)->t.mG m P
 |.ok a,m,h=>.ok h|.exc _,_,h=>h.elim|.stuck,_,h=>h.elim|.draw n k,m,h=>by
  obtain⟨f,e,g,d⟩:=h;cases m with
  |zero=>omega|succ m=>exact .draw f e λi a b=>oV (d i a b)
 |.perm l k,m,h=>.perm λc p=>oV (h c p)
theorem wp_mono{Q c:α->Nat->Prop}(q:∀a m,Q a m->c a m):∀{t:T α}{m:Nat},t.wp m Q->t.wp m c
 |.ok a,m,h=>q _ _ h|.exc _,_,h=>h.elim|.stuck,_,h=>h.elim|.draw n k,m,h=>⟨h.1,h.2.1,h.2.2.1,λi a b=>wp_mono q (h.2.2.2 i a b)⟩|.perm l k,m,h=>λd p=>wp_mono q (h d p)
theorem cu(a:α)(m:Nat)(Q:α->Nat->Prop):(T.ok a).wp m Q=Q a m:=rfl
theorem wp_pure(a:α)(m:Nat)(Q:α->Nat->Prop):(pure a:T α).wp m Q=Q a m:=rfl
theorem wp_bind(f:α->T β):∀(t:T α)(m:Nat)(Q:β->Nat->Prop),(t>>=f).wp m Q=t.wp m (λa b=>(f a).wp b Q)
 |.ok a,m,Q=>rfl|.exc _,_,_=>rfl|.stuck,_,_=>rfl|.draw n k,m,Q=>by
  show(0<n/\n<1073741824/\0<m/\∀i,0<=i->i<n->(k i>>=f).wp (m-1) Q)=(0<n/\n<1073741824/\0<m/\∀i,0<=i->i<n->(k i).wp (m-1) λa b=>(f a).wp b Q);simp only[wp_bind f]|.perm l k,m,Q=>by
  show(∀c,c.Perm l->(k c>>=f).wp m Q)=(∀c,c.Perm l->(k c).wp m λa b=>(f a).wp b Q);simp only[wp_bind f]
theorem wp_at(ρ:af):∀(t:T α)(m:Nat)(Q:α->Nat->Prop),(t.at' ρ).wp m Q=t.wp m Q
 |.ok a,m,Q=>rfl|.exc _,_,_=>rfl|.stuck,_,_=>rfl|.draw n k,m,Q=>by
  show(0<n/\n<1073741824/\0<m/\∀i,0<=i->i<n->((k i).at' ρ).wp (m-1) Q)=_;simp only[wp_at ρ];rfl|.perm l k,m,Q=>by
  show(∀b,b.Perm l->((k b).at' ρ).wp m Q)=_;simp only[wp_at ρ];rfl
theorem kE(b:Bool)(m:Nat)(Q:Unit->Nat->Prop):(T.need b).wp m Q=(b=NM/\Q () m):=by
 unfold T.need;cases b with
 |true=>simp[wp]|false=>simp[wp]
theorem GX(o:Option α)(m:Nat)(Q:α->Nat->Prop):(T.get o).wp m Q=∃a,o=NF a/\Q a m:=by cases o with
 |none=>simp[T.get,wp]|some a=>simp[T.get,wp]
theorem a_(a:α)(m:Nat)(Q:α->Nat->Prop):(T.get (NF a)).wp m Q=Q a m:=rfl
theorem kF(n:Int)(k:Int->T α)(m:Nat)(Q:α->Nat->Prop):(T.draw n k).wp m Q=(0<n/\n<1073741824/\0<m/\∀i,0<=i->i<n->(k i).wp (m-1) Q):=rfl
theorem Ct(l:List D)(k:List D->T α)(m:Nat)(Q:α->Nat->Prop):(T.perm l k).wp m Q=∀a,a.Perm l->(k a).wp m Q:=rfl
theorem Cu(b:Bool)(x y:T α)(m:Nat)(Q:α->Nat->Prop):(if b=NM then x else y).wp m Q=if b=NM then x.wp m Q else y.wp m Q:=by split<;>rfl
end T
theorem wp_call{t:T D}{m:Nat}{Q b:D->Nat->Prop}(h:t.wp m Q)(q:∀a m,Q a m->b a m):t.wp m b:=T.wp_mono q h
theorem eI{g:D->af->T af}{body:af->T Fl}{Q:Fl->Nat->Prop}(I:List D->af->Nat->Prop)(step:∀d ds ρ m,I (d::ds) ρ m->(g d ρ).wp m λc j=>(body c).wp j λi e=>match i with
   |.nx a=>I ds a e|.ct a=>I ds a e|.bk a=>Q (.nx a) e|.rt r=>Q (.rt r) e)(b:∀ρ m,I [] ρ m->Q (.nx ρ) m):∀{ds:List D}{ρ:af}{m:Nat},I ds ρ m->(eR g body ds ρ).wp m Q
 |[],ρ,m,h=>b ρ m h|d::ds,ρ,m,h=>by
  unfold eR;rw[T.wp_bind];refine T.wp_mono (λc j k=>?_) (step d ds ρ m h);rw[T.wp_bind];refine T.wp_mono (λi e f=>?_) k;cases i with
  |nx a=>exact eI I step b f|ct a=>exact eI I step b f|bk a=>exact f|rt r=>exact f
theorem ma{c:af->T Bool}{body:af->T Fl}{Q:Fl->Nat->Prop}(I:Nat->af->Nat->Prop)(step:∀k ρ m,I k ρ m->(c ρ).wp m λb f=>if b=NM then(body ρ).wp f λi e=>match i with
   |.nx a=>∃j,j<k/\I j a e|.ct a=>∃j,j<k/\I j a e|.bk a=>Q (.nx a) e|.rt r=>Q (.rt r) e else Q (.nx ρ) f):∀{n k:Nat}{ρ:af}{m:Nat},k<n->I k ρ m->(cP c body n ρ).wp m Q
 |0,k,_,_,l,_=>by omega|n+1,k,ρ,m,l,h=>by
  unfold cP;rw[T.wp_bind];refine T.wp_mono (λb f g=>?_) (step k ρ m h);cases b with
  |false=>exact g|true=>
   rw[if_pos rfl]at g⊢;rw[T.wp_bind];refine T.wp_mono (λi e d=>?_) g;cases i with
   |nx a=>obtain⟨j,o,d⟩:=d;exact ma I step (by omega) d|ct a=>obtain⟨j,o,d⟩:=d;exact ma I step (by omega) d|bk a=>exact d|rt r=>exact d
theorem ag{b c:Type}(a:b)(f:b->T c):(T.ok a>>=f)=f a:=rfl
theorem DO(v:Ev):(∀i ρ,aK v (.var i) ρ=T.get (gk ρ i))/\(∀d ρ,aK v (.cst d) ρ=.ok d)/\(∀i ρ,aK v (.ku i) ρ=T.get (v.ku i))/\(∀o a b ρ,aK v (.op o a b) ρ=do let d<-aK v a ρ;let e<-aK v b ρ;Cb o d e)/\(∀a ρ,aK v (.neg a) ρ=do let i<-eC (<-aK v a ρ);.ok (.int (-i)))/\(∀o a b ρ,aK v (.cmp o a b) ρ=do let d<-aK v a ρ;let e<-aK v b ρ;cz o d e)/\(∀a b ρ,aK v (.and a b) ρ=do let c<-cJ (<-aK v a ρ);if c then aK v b ρ else .ok (.bl NP))/\(∀a ρ,aK v (.one a) ρ=aK v a ρ)/\(∀a ρ,aK v (.not a) ρ=do let c<-cJ (<-aK v a ρ);.ok (.bl (!c)))/\(∀r ρ,aK v (.tup r) ρ=do let ds<-iA (<-fZ v r ρ);T.need (decide (ds.length<=Tn));.ok (.tup ds))/\(∀r ρ,aK v (.lst r) ρ=do let ds<-iA (<-fZ v r ρ);T.need (decide (ds.length<=Tn));.ok (.lst ds))/\(∀a b ρ,aK v (.idx a b) ρ=do let d<-aK v a ρ;let e<-aK v b ρ;dM d e)/\(∀f r ρ,aK v (.bi f r) ρ=do vk f (<-iA (<-fZ v r ρ)))/\(∀f r ρ,aK v (.call f r) ρ=do let as<-fZ v r ρ;(v.call f as).at' ρ)/\(∀y a ρ,aK v (.HN y a) ρ=do vn v y (<-aK v a ρ))/\(∀c a ρ,aK v (.DF c a) ρ=do let P<-T.get (v.cls c);rb v P (<-aK v a ρ))/\(∀own js tg it c g ρ,aK v (.lc own js tg it c g) ρ=do let ds<-r8 v it ρ;let r<-dZ (dv tg) (λρ=>(c4 v c ρ).calm) (λρ=>(aK v g ρ).calm) ds (gV ρ own.length js);.ok (.lst r))/\(∀i e ρ,aK v (.mv i e) ρ=do let d<-aK v e (pq i ρ);T.need (flat (gZ ρ i) d);.ok d)/\(∀o r ρ,aK v (.oF o r) ρ=do let d<-aK v o ρ;T.need (qy d);vm d (<-iA (<-fZ v r ρ)))/\(∀i r ρ,aK v (.JA i r) ρ=do let d<-T.get (v.ku i);T.need (j6 d);Cc d (<-iA (<-fZ v r ρ))):=⟨λ_ _=>rfl,λ_ _=>rfl,λ_ _=>rfl,λ_ _ _ _=>rfl,λ_ _=>rfl,λ_ _ _ _=>rfl,λ_ _ _=>rfl,λ_ _=>rfl,λ_ _=>rfl,λ_ _=>rfl,λ_ _=>rfl,λ_ _ _=>rfl,λ_ _ _=>rfl,λ_ _ _=>rfl,λ_ _ _=>rfl,λ_ _ _=>rfl,λ_ _ _ _ _ _ _=>rfl,λ_ _ _=>rfl,λ_ _ _=>rfl,λ_ _ _=>rfl⟩
theorem HS(v:Ev):(∀ρ,c4 v .yes ρ=.ok NM)/\(∀a b ρ,c4 v (.tF a b) ρ=do let c<-c4 v a ρ;if c then c4 v b ρ else .ok NP)/\(∀a b ρ,c4 v (.Gh a b) ρ=do let c<-c4 v a ρ;if c then .ok NM else c4 v b ρ)/\(∀a ρ,c4 v (.jx a) ρ=c4 v a ρ)/\(∀a ρ,c4 v (.tG a) ρ=do let c<-c4 v a ρ;.ok (!c))/\(∀a ρ,c4 v (.DD a) ρ=do Gi (<-aK v a ρ))/\(∀o a b ρ,c4 v (.bC o a b) ρ=do let d<-aK v a ρ;let e<-aK v b ρ;cJ (<-cz o d e))/\(∀i e ρ,c4 v (.mv i e) ρ=c4 v e (pq i ρ)):=⟨λ_=>rfl,λ_ _ _=>rfl,λ_ _ _=>rfl,λ_ _=>rfl,λ_ _=>rfl,λ_ _=>rfl,λ_ _ _ _=>rfl,λ_ _ _=>rfl⟩
theorem DP(v:Ev):(∀ρ,fZ v .nil ρ=.ok [])/\(∀a r ρ,fZ v (.cons a r) ρ=do let d<-aK v a ρ;let xs<-fZ v r ρ;.ok (.d d::xs))/\(∀i r ρ,fZ v (.feed i r) ρ=do T.need (jy ρ i);let xs<-fZ v r ρ;.ok (.feed::xs)):=⟨λ_=>rfl,λ_ _ _=>rfl,λ_ _ _=>rfl⟩
theorem GY(v:Ev):(∀r ρ,r8 v (.oE r) ρ=do match<-iA (<-fZ v r ρ)with|[d]=>Cd d|_=>.stuck)/\(∀r ρ,r8 v (.zm r) ρ=do match<-iA (<-fZ v r ρ)with|[.lst xs]=>.ok (gy xs)|_=>.stuck)/\(∀a ρ,r8 v (.cO a) ρ=do T.get (fk (<-aK v a ρ))):=⟨λ_ _=>rfl,λ_ _=>rfl,λ_ _=>rfl⟩
theorem Lf:(∀i d ρ,dv (.nm i) d ρ=.ok (ρ.set i (NF (.d d))))/\(∀n r ds ρ,dv (.tup n r) (.tup ds) ρ=if ds.length=n then g_ r ds ρ else .stuck)/\(∀ρ,g_ .nil [] ρ=.ok ρ)/\(∀t r d ds ρ,g_ (.cons t r) (d::ds) ρ=do let ρ'<-dv t d ρ;g_ r ds ρ'):=⟨λ_ _ _=>rfl,λ_ _ _ _=>rfl,λ_=>rfl,λ_ _ _ _ _=>rfl⟩
theorem fT(v:Ev)(s r:bD)(ρ:af):ax v (.cons s r) ρ=(do match<-ax v s ρ with|.nx ρ'=>ax v r ρ'|a=>.ok a):=rfl
theorem vF(v:Ev)(i:Nat)(e:Ex)(ρ:af):ax v (.set i e) ρ=(do let d<-aK v e ρ;.ok (.nx (ρ.set i (NF (.d d))))):=rfl
theorem i_(v:Ev)(c:Ex)(a b:bD)(ρ:af):ax v (.iff c a b) ρ=(do let x<-c4 v c ρ;if x then ax v a ρ else ax v b ρ):=rfl
theorem ja(v:Ev)(tg:Tg)(it:Ex)(b:bD)(ρ:af):ax v (.eE tg it b) ρ=(do eR (dv tg) (ax v b) (<-r8 v it ρ) ρ):=rfl
theorem vG(v:Ev)(c:Ex)(b:bD)(ρ:af):ax v (.DK c b) ρ=cP (c4 v c) (ax v b) bg ρ:=rfl
theorem Cv(v:Ev)(i:Nat)(k e:Ex)(ρ:af):ax v (.put i k e) ρ=(do
  let d<-aK v e ρ;let a<-rk (<-T.get (gm ρ i))let q<-aK v k ρ;T.need (decide (a.1.length<Tn)&&az a.1 q);.ok (.nx (ρ.set i (NF (.own (.aH (putD a.1 a.2 q d).1 (putD a.1 a.2 q d).2)))))):=rfl
theorem GZ(v:Ev):(∀tg e ρ,ax v (.asg tg e) ρ=do let d<-aK v e ρ;let ρ'<-dv tg d ρ;.ok (.nx ρ'))/\(∀i e ρ,ax v (.set i e) ρ=do let d<-aK v e ρ;.ok (.nx (ρ.set i (NF (.d d)))))/\(∀i j r ρ,ax v (.par i j r) ρ=do match<-iA (<-fZ v r ρ)with|[d,e]=>.ok (.nx ((ρ.set i (NF (.d d))).set j (NF (.d e))))|_=>.stuck)/\(∀e ρ,ax v (.ret e) ρ=do let d<-aK v e ρ;.ok (.rt d))/\(∀ρ,ax v .nil ρ=.ok (.nx ρ))/\(∀s r ρ,ax v (.cons s r) ρ=do match<-ax v s ρ with|.nx ρ'=>ax v r ρ'|f=>.ok f)/\(∀c a b ρ,ax v (.iff c a b) ρ=do let x<-c4 v c ρ;if x then ax v a ρ else ax v b ρ)/\(∀tg it b ρ,ax v (.eE tg it b) ρ=do eR (dv tg) (ax v b) (<-r8 v it ρ) ρ)/\(∀c b ρ,ax v (.DK c b) ρ=cP (c4 v c) (ax v b) bg ρ)/\(∀c r ρ,ax v (.raise c r) ρ=do let C<-T.get (v.cls c);T.need (v.how C);let x<-DJ v C (<-fZ v r ρ);.exc ⟨x,ρ⟩)/\(∀b c i y h ρ,ax v (.zo b c i y h) ρ=do let P<-T.get (v.cls c);(ax v b ρ).j8 (lT v P i y h))/\(∀i r ρ,ax v (.rh i r) ρ=do let ds<-iA (<-fZ v r ρ);T.need (decide (ds.length<=Tn));.ok (.nx (ρ.set i (NF (.own (.lst ds))))))/\(∀i ρ,ax v (.gZ i) ρ=.ok (.nx (ρ.set i (NF (.own (.aH [] []))))))/\(∀i e ρ,ax v (.app i e) ρ=do let ds<-lS (<-T.get (gm ρ i));let d<-aK v e ρ;T.need (decide (ds.length<Tn));.ok (.nx (ρ.set i (NF (.own (.lst (ds++[d])))))))/\(∀i s ρ,ax v (.fz i s) ρ=ax v s (pq i ρ))/\(∀e ρ,ax v (.expr e) ρ=do let _<-aK v e ρ;.ok (.nx ρ)):=⟨λ_ _ _=>rfl,λ_ _ _=>rfl,λ_ _ _ _=>rfl,λ_ _=>rfl,λ_=>rfl,λ_ _ _=>rfl,λ_ _ _ _=>rfl,λ_ _ _ _=>rfl,λ_ _ _=>rfl,λ_ _ _=>rfl,λ_ _ _ _ _ _=>rfl,λ_ _ _=>rfl,λ_ _=>rfl,λ_ _ _=>rfl,λ_ _ _=>rfl,λ_ _=>rfl⟩
theorem fU{g:D->af->T af}{j:af->T Bool}{i:af->T D}{c:D->Bool}{e:D->D}(S:af->Prop):∀{ds:List D}{ρ:af},(∀ρ,S ρ->∀d∈ds,∃b,g d ρ=.ok b/\S b/\j b=.ok (c d)/\(c d=NM->i b=.ok (e d)))->S ρ->dZ g j i ds ρ=.ok ((ds.filter c).map e)
 |[],ρ,_,_=>rfl|d::ds,ρ,h,p=>by
  obtain⟨b,o,n,m,l⟩:=h ρ p d NV;have k:=fU S (ds:=ds) (ρ:=b) (λρ a x hx=>h ρ a x (NX _ hx)) n;unfold dZ;rw[o,ag,m,ag];cases f:c d with
  |true=>rw[if_pos rfl,l f,ag,k,ag,List.filter_cons_of_pos f];rfl|false=>rw[if_neg (by simp),k,List.filter_cons_of_neg (by simp[f])]
end L2
namespace K24
open PySem L2 K24d
noncomputable abbrev V(n:Nat):Ev:=gv.ev (ao defs gv n)
theorem jG(n f:Nat)(as:List A):(V n).call f as=ao defs gv n f as:=rfl
theorem aM{n f:Nat}{as:List A}{d:Df}(h:defs[f]?=NF (.df d))(a:as.length=d.np):ao defs gv (n+1) f as=(ax (V n) d.body (bG d.nn as)>>=AG):=by
 show(match defs[f]? with
  |none=>T.stuck|some (.wit t)=>t as|some (.df d)=>if as.length=d.np then do AG (<-ax (V n) d.body (bG d.nn as))else .stuck)=_;rw[h];show(if as.length=d.np then _ else _)=_;rw[if_pos a]
theorem jH(n:Nat)(k:Int):ao defs gv (n+1) 7 [.feed,.d (.int k)]=.draw k λi=>.ok (.int i):=rfl
theorem oW:1000000<=NW:=by decide
theorem sd{k:Nat}(h:k<=1000000):decide (k<=NW)=NM:=decide_eq_true (OC h oW)
theorem G2{xs:List D}{i:Int}{m:Nat}{Q:D->Nat->Prop}{d:D}(e:d_ xs i=NF d)(h:Q d m):(dM (.lst xs) (.int i)).wp m Q:=by
 show(T.get (d_ xs i)).wp m Q;rw[e];exact h
theorem Cw{xs:List D}{i:Int}{m:Nat}{Q:D->Nat->Prop}{d:D}(e:d_ xs i=NF d)(h:Q d m):(dM (.tup xs) (.int i)).wp m Q:=by
 show(T.get (d_ xs i)).wp m Q;rw[e];exact h
theorem Cy(xs:List D)(i:Int):dM (.lst xs) (.int i)=T.get (d_ xs i):=rfl
theorem Cz(xs:List D)(i:Int):dM (.tup xs) (.int i)=T.get (d_ xs i):=rfl
theorem MG{a:D}{r:List D}:d_ (a::r) 0=NF a:=eV (j:=0) rfl
theorem MH{a b:D}{r:List D}:d_ (a::b::r) 1=NF b:=eV (j:=1) rfl
theorem Kr{xs:List D}{i:Int}{d:D}(a:0<=i)(h:xs[i.toNat]?=NF d):d_ xs i=NF d:=by
 have:=eV h;rwa[show((i.toNat:Nat):Int)=i by omega]at this
theorem G5(i j:Int):cz .Lt (.int i) (.int j)=.ok (.bl (decide (i<j))):=rfl
theorem Wp{c:Type}:(∀(a:c)(m:Nat)(Q:c->Nat->Prop),(T.ok a).wp m Q=Q a m)/\(∀(a:c)(m:Nat)(Q:c->Nat->Prop),(pure a:T c).wp m Q=Q a m)/\(∀(ρ:af)(t:T c)(m:Nat)(Q:c->Nat->Prop),(t.at' ρ).wp m Q=t.wp m Q)/\(∀(a:c)(m:Nat)(Q:c->Nat->Prop),(T.get (NF a)).wp m Q=Q a m)/\(∀(n:Int)(k:Int->T c)(m:Nat)(Q:c->Nat->Prop),(T.draw n k).wp m Q=(0<n/\n<1073741824/\0<m/\∀i,0<=i->i<n->(k i).wp (m-1) Q))/\(∀(l:List D)(k:List D->T c)(m:Nat)(Q:c->Nat->Prop),(T.perm l k).wp m Q=∀d,d.Perm l->(k d).wp m Q)/\∀(b:Bool)(x y:T c)(m:Nat)(Q:c->Nat->Prop),(if b=NM then x else y).wp m Q=if b=NM then x.wp m Q else y.wp m Q:=⟨T.cu,T.wp_pure,T.wp_at,T.a_,T.kF,T.Ct,T.Cu⟩
theorem Lm{b c:Type}(f:b->c):(∀(a:b)(l:List b),(a::l).map f=f a::l.map f)/\([]:List b).map f=[]:=⟨λ_ _=>rfl,rfl⟩
theorem Ls{c:Type}:(∀(a:c)(l r:List c),(a::l)++r=a::(l++r))/\(∀l:List c,[]++l=l)/\(∀(a:c)(l:List c),(a::l).length=l.length+1)/\([]:List c).length=0/\(∀(a b:c)(l:List c),(a::l).set 0 b=b::l)/\(∀(a b:c)(l:List c)(n:Nat),(a::l).set (n+1) b=a::l.set n b)/\(∀(a:c)(l:List c),(a::l)[0]?=NF a)/\∀(a:c)(l:List c)(n:Nat),(a::l)[n+1]?=l[n]?:=⟨λ_ _ _=>rfl,λ_=>rfl,λ_ _=>rfl,rfl,λ_ _ _=>rfl,λ_ _ _ _=>rfl,λ_ _=>rfl,λ_ _ _=>rfl⟩
theorem Ix:(∀(xs:List D)(i:Int),dM (.lst xs) (.int i)=T.get (d_ xs i))/\(∀(xs:List D)(i:Int),dM (.tup xs) (.int i)=T.get (d_ xs i))/\(∀(a:D)(r:List D),d_ (a::r) 0=NF a)/\(∀(a b:D)(r:List D),d_ (a::b::r) 1=NF b)/\∀i j:Int,cz .Lt (.int i) (.int j)=.ok (.bl (decide (i<j))):=⟨Cy,Cz,λ_ _=>MG,λ_ _ _=>MH,G5⟩
local macro_rules|`(tactic|subst_eqs)=>`(tactic|simp only[GZ,DO,HS,DP,GY,Lf,iA,eC,cJ,Cb,Wp,T.wp_bind,T.kE,ag,jG,jH,gk,gm,pq,jy,lS,rk,bG,A.w,Cd,Lm,Ls,OV,Ry,R5,true_and,and_true,AG,Ix,if_true])
theorem NA:decide (0<=NW)=NM:=sd (by decide)
theorem NB:decide (1<=NW)=NM:=sd (by decide)
theorem G6:decide (2<=NW)=NM:=sd (by decide)
theorem NC:decide (3<=NW)=NM:=sd (by decide)
theorem jI:T.need NM=.ok ():=rfl
theorem get_some{b:Type}(a:b):T.get (NF a)=.ok a:=rfl
theorem Cl{b:Type}(a:b):T.get (NF a)=.ok a/\(T.ok a).calm=.ok a:=⟨rfl,rfl⟩
theorem Sd:T.need NM=.ok ()/\decide (0<=NW)=NM/\decide (1<=NW)=NM/\decide (2<=NW)=NM/\decide (3<=NW)=NM:=⟨rfl,NA,NB,G6,NC⟩
local macro_rules|`(tactic|bv_omega)=>`(tactic|simp only[DO,HS,DP,Lf,iA,eC,cJ,ag,gk,Cl,Sd,Ix,Lm,Ls,Ry,if_true])
theorem jc{g:T af}{body:af->T Fl}{m:Nat}{c:Fl->Nat->Prop}(h:∀Q:Fl->Nat->Prop,(∀d m,c d m->Q d m)->g.wp m λa b=>(body a).wp b Q):g.wp m λa b=>(body a).wp b c:=h c λ_ _ z=>z
theorem eJ{b:Type}{t:T b}{m:Nat}{c:b->Nat->Prop}(h:∀Q:b->Nat->Prop,(∀a m,c a m->Q a m)->t.wp m Q):t.wp m c:=h c λ_ _ z=>z
theorem ba{v:Ev}{s r:bD}{ρ ρ':af}(h:ax v s ρ=.ok (.nx ρ')):ax v (.cons s r) ρ=ax v r ρ':=by rw[fT,h];rfl
theorem fg{v:Ev}{i:Nat}{e:Ex}{r:bD}{d:D}{ρ:af}(h:aK v e ρ=.ok d):ax v (.cons (.set i e) r) ρ=ax v r (ρ.set i (NF (.d d))):=ba (by rw[vF,h];rfl)
theorem oX{v:Ev}{i:Nat}{e:Ex}{r:bD}{ρ:af}{m:Nat}{Q:Fl->Nat->Prop}(h:(aK v e ρ).wp m λd a=>(ax v r (ρ.set i (NF (.d d)))).wp a Q):(ax v (.cons (.set i e) r) ρ).wp m Q:=by
 rw[fT,vF,T.wp_bind,T.wp_bind];exact h
inductive TI(k f:Int)(m:Nat)(ds:List D)(ρ:af)(m':Nat):Prop|mk(xs:List Int)(x:Int)(o:Option W)(eρ:ρ=[NF .feed,NF (.d (.int k)),NF (.d (.int f)),NF (.own (.lst (xs.map D.int++[.int x]))),o])(g1:m<=m'+2+(k-1).toNat-ds.length)(g2:ds.length<=(k-1).toNat)(g3:xs.length+1+ds.length=k)(g4:∀y∈xs,0<=y/\y<=1000000)(g5:0<=x)(g6:x<=100000*(xs.length+1))(g7:(xs++[x]).Pairwise (·<·))
theorem Ac{n:Nat}{k:Int}{m:Nat}(J:1<=k/\k<=7)(I:10<=m):(ao defs gv (n+2) 8 [.feed,.d (.int k)]).wp m (λd v=>m<=v+10/\∃xs:List Int,d=.lst (xs.map D.int)/\(xs.length:Int)=k/\(∀x∈xs,0<=x/\x<=1000000)/\xs.Pairwise (·<·)):=by
 have z:=oW;rw[aM (d:=fc) rfl rfl];unfold fc;refine eJ λQ j=>?_;rw[T.wp_bind];refine oX (eJ λP e=>?_);subst_eqs;refine⟨by decide,by decide,by decide,by omega,λi L K=>?_⟩;have A:∃f:Int,d_ [D.int 1,D.int 3,D.int 90000] i=NF (.int f)/\1<=f/\f<=90000:=by
  rcases(by omega:i=0\/i=1\/i=2)with rfl|rfl|rfl;.exact⟨1,rfl,by decide,by decide⟩
  .exact⟨3,rfl,by decide,by decide⟩
  .exact⟨90000,rfl,by decide,by decide⟩
 obtain⟨f,E,N,M⟩:=A;rw[E,T.a_];refine e _ _ ?_;clear e;show(ax (V (n+1)) _ [NF .feed,NF (.d (.int k)),NF (.d (.int f)),NN,NN]).wp (m-1) _;subst_eqs;refine⟨by omega,by omega,by omega,λy t F=>⟨sd (by decide),by simp;omega,?_⟩⟩;refine eI (TI k f m) ?_ ?_ ⟨[],y,NN,rfl,?_,?_,?_,?_,t,?_,by simp⟩
 .rintro d O s u⟨xs,x,o,c,r,q,p,l,C,B,g⟩;rw[c];clear c;simp only[Ol]at r q p;refine jc λQ j=>?_;unfold rH;subst_eqs;simp only[xQ,T.a_];subst_eqs;refine⟨by omega,by omega,by omega,λw H G=>⟨rfl,?_,j _ _ ?_⟩⟩;.simp;omega
  .refine TI.mk (xs++[x]) (x+1+w) (NF (.d d)) ?_ (by omega) (by omega) (by simp;omega) (λy hy=>?_) (by omega) (by simp;omega) ?_;rotate_left 2
   .rw[V3];refine⟨g,by simp,λa ha b hb=>?_⟩;rw[List.mem_singleton.mp hb];rcases List.mem_append.mp ha with z|z
    .have:=(List.pairwise_append.mp g).2.2 a z x (List.mem_singleton.mpr rfl);omega
    .rw[List.mem_singleton.mp z];omega
   .simp
   .rcases List.mem_append.mp hy with h|h;.exact l y h
    .have:=List.mem_singleton.mp h;subst this;constructor<;>omega
 .rintro s u⟨xs,x,o,c,r,q,p,l,C,B,g⟩;rw[c];clear c;unfold rG;subst_eqs;refine j _ _ ⟨by simp at*;omega,xs++[x],by simp,by simp at*;omega,λy hy=>?_,g⟩;rcases List.mem_append.mp hy with h|h;.exact l y h
  .have:=List.mem_singleton.mp h;subst this;simp at p;constructor<;>omega
 .simp[bR];omega
 .simp[bR]
 .simp[bR];omega
 .simp
 .simp;omega
structure Eg where
 i:Int
 j:Int
 l:Int
noncomputable def pt(i j:Int):D:=.tup [.int i,.int j]
noncomputable def eD(e:Eg):D:=.tup [pt e.i e.j,pt (e.i+e.l) (e.j+1-e.l)]
structure Eg.ok(w h:Int)(e:Eg):Prop where
 i0:0<=e.i
 j0:0<=e.j
 lv:e.l=0\/e.l=1
 iw:e.i+e.l<w
 jh:e.j+1-e.l<h
theorem vH(e:Eg):oh (eD e)=NM:=rfl
theorem tP(E:List Eg):(E.map eD).all oh=NM:=by
 rw[O8];intro x hx;obtain⟨e,_,rfl⟩:=List.mem_map.mp hx;exact vH e
theorem G7(E:List Eg):(E.map eD).all F_=NM:=by
 rw[O8];intro x hx;obtain⟨e,_,rfl⟩:=List.mem_map.mp hx;rfl
theorem c5{ks:List D}{d:D}(h:ks.all oh=NM)(q:oh d=NM):az ks d=NM:=by
 unfold az;rw[h,q];simp
theorem c6{i m:Type}{f:i->m}{n l:List m}(p:n.Perm l):∀{E:List i},l=E.map f->∃g:List i,g.Perm E/\n=g.map f:=by induction p with
 |nil=>intro E h;cases E with
  |nil=>exact⟨[],.nil,rfl⟩|cons _ _=>cases h
 |@cons x w v _ s=>
  intro E h;cases E with
  |nil=>cases h|cons e E=>
   injection h with d c;obtain⟨g,r,rfl⟩:=s c;exact⟨e::g,r.cons e,by rw[d];rfl⟩
 |swap x y l=>
  intro E h;match E,h with
  |a::b::E,h=>
   injection h with d c;injection c with c t;exact⟨b::a::E,.swap _ _ _,by rw[d,c,t];rfl⟩
 |trans _ _ k j=>
  intro E h;obtain⟨z,o,c⟩:=j h;obtain⟨u,q,d⟩:=k c;exact⟨u,q.trans o,d⟩
theorem bW{d:D}{ds:List D}{m:Nat}{Q:D->Nat->Prop}(e:gA d=NF ds)(c:ds.length<=1000000)(b:gp ds=NM)(h:∀a,a.Perm ds->Q (.lst a) m):(vk .sorted [d]).wp m Q:=by
 show(q_ d).wp m Q;have f:q_ d=(do let ds<-T.get (gA d);T.need (decide (ds.length<=NW)&&gp ds);T.perm ds λl=>.ok (.lst l)):=by cases d<;>first|rfl|cases e
 rw[f,T.wp_bind,T.GX];refine⟨ds,e,?_⟩;rw[T.wp_bind,T.kE];exact⟨by rw[b,sd c];rfl,h⟩
theorem Ad(E:List Eg)(vs:List D)(e:Eg)(x:D):∃b a,putD (E.map eD) vs (eD e) x=(b.map eD,a)/\(b=E\/b=E++[e]):=by
 unfold putD;split;.exact⟨E,_,rfl,.inl rfl⟩
 .exact⟨E++[e],vs++[x],by simp,.inr rfl⟩
theorem G8{k:Nat}{w h i j l:Int}{E:List Eg}{vs:List D}{s0 o4 o8 o9:Option W}(p:E.length<=84):∃(e:List Eg)(b:List D),ax (V k) i5 [s0,NF (.d (.int w)),NF (.d (.int h)),NF (.own (.aH (E.map eD) vs)),o4,NF (.d (.int i)),NF (.d (.int j)),NF (.d (.int l)),o8,o9]=.ok (.nx [s0,NF (.d (.int w)),NF (.d (.int h)),NF (.own (.aH (e.map eD) b)),o4,NF (.d (.int (i+l))),NF (.d (.int (j+1-l))),NF (.d (.int l)),o8,NF (.d (pt (i+l) (j+1-l)))])/\(e=E\/e=E++[⟨i,j,l⟩]/\i+l<w/\j+1-l<h):=by
 have z:=oW;have f:decide (2<=NW)=NM:=sd (by decide);unfold i5;have a:∀{e:List Eg}{b:List D},ax (V k) (.cons (.asg (.tup 2 (.cons (.nm 5) (.cons (.nm 6) .nil))) (.var 9)) .nil) [s0,NF (.d (.int w)),NF (.d (.int h)),NF (.own (.aH (e.map eD) b)),o4,NF (.d (.int i)),NF (.d (.int j)),NF (.d (.int l)),o8,NF (.d (pt (i+l) (j+1-l)))]=.ok (.nx [s0,NF (.d (.int w)),NF (.d (.int h)),NF (.own (.aH (e.map eD) b)),o4,NF (.d (.int (i+l))),NF (.d (.int (j+1-l))),NF (.d (.int l)),o8,NF (.d (pt (i+l) (j+1-l)))]):=rfl;have t:c4 (V k) (.tF (.bC .Lt (.idx (.var 9) (.cst (.int 0))) (.var 1)) (.jx (.bC .Lt (.idx (.var 9) (.cst (.int 1))) (.var 2)))) [s0,NF (.d (.int w)),NF (.d (.int h)),NF (.own (.aH (E.map eD) vs)),o4,NF (.d (.int i)),NF (.d (.int j)),NF (.d (.int l)),o8,NF (.d (pt (i+l) (j+1-l)))]=.ok (decide (i+l<w)&&decide (j+1-l<h)):=by
  show(if decide (i+l<w)=NM then T.ok (decide (j+1-l<h))else T.ok NP)=_;cases decide (i+l<w)<;>rfl
 rw[fg (d:=pt (i+l) (j+1-l)) (by
  show(T.need (decide (2<=NW))>>=λ_=>T.ok (D.tup [.int (i+l),.int (j+1-l)]))=_;rw[f];rfl)];show∃e b,ax (V k) _ [s0,NF (.d (.int w)),NF (.d (.int h)),NF (.own (.aH (E.map eD) vs)),o4,NF (.d (.int i)),NF (.d (.int j)),NF (.d (.int l)),o8,NF (.d (pt (i+l) (j+1-l)))]=_/\_;by_cases c:i+l<w/\j+1-l<h
 .obtain⟨e,b,n,m⟩:=Ad E vs ⟨i,j,l⟩ (.bl NM);refine⟨e,b,?_,m.imp id λq=>⟨q,c⟩⟩;rw[ba (ρ':=[s0,NF (.d (.int w)),NF (.d (.int h)),NF (.own (.aH (e.map eD) b)),o4,NF (.d (.int i)),NF (.d (.int j)),NF (.d (.int l)),o8,NF (.d (pt (i+l) (j+1-l)))]),a];rw[i_,t,ag,decide_eq_true c.1,decide_eq_true c.2];have o:aK (V k) (.tup (.cons (.tup (.cons (.var 5) (.cons (.var 6) .nil))) (.cons (.var 9) .nil))) [s0,NF (.d (.int w)),NF (.d (.int h)),NF (.own (.aH (E.map eD) vs)),o4,NF (.d (.int i)),NF (.d (.int j)),NF (.d (.int l)),o8,NF (.d (pt (i+l) (j+1-l)))]=.ok (eD ⟨i,j,l⟩):=by
   show((((T.need (decide (2<=NW))>>=λ_=>T.ok (D.tup [.int i,.int j]))>>=λd=>T.ok [A.d d,A.d (pt (i+l) (j+1-l))])>>=iA)>>=λg=>T.need (decide (g.length<=NW))>>=λ_=>T.ok (D.tup g))=_;rw[f];show(T.need (decide (2<=NW))>>=λ_=>T.ok (eD ⟨i,j,l⟩))=_;rw[f];rfl
  rw[if_pos (by rfl),ba (ρ':=[s0,NF (.d (.int w)),NF (.d (.int h)),NF (.own (.aH (e.map eD) b)),o4,NF (.d (.int i)),NF (.d (.int j)),NF (.d (.int l)),o8,NF (.d (pt (i+l) (j+1-l)))])];.rfl
  .show(aK (V k) (.tup (.cons (.tup (.cons (.var 5) (.cons (.var 6) .nil))) (.cons (.var 9) .nil))) _>>=λq=>T.need (decide ((E.map eD).length<NW)&&az (E.map eD) q)>>=λ_=>T.ok (Fl.nx [s0,NF (.d (.int w)),NF (.d (.int h)),NF (.own (.aH (putD (E.map eD) vs q (.bl NM)).1 (putD (E.map eD) vs q (.bl NM)).2)),o4,NF (.d (.int i)),NF (.d (.int j)),NF (.d (.int l)),o8,NF (.d (pt (i+l) (j+1-l)))]))=_;rw[o,ag,c5 (tP E) (vH _),decide_eq_true (show(E.map eD).length<NW by rw[NY];omega),n];rfl
 .refine⟨E,vs,?_,.inl rfl⟩;rw[ba (ρ':=[s0,NF (.d (.int w)),NF (.d (.int h)),NF (.own (.aH (E.map eD) vs)),o4,NF (.d (.int i)),NF (.d (.int j)),NF (.d (.int l)),o8,NF (.d (pt (i+l) (j+1-l)))]),a];rw[i_,t,ag,if_neg];.rfl
  .rw[N0,decide_eq_true_eq,decide_eq_true_eq];exact c
inductive M3(w h:Int)(m:Nat)(ds:List D)(ρ:af)(m':Nat):Prop|mk(E:List Eg)(vs:List D)(o4 o5 o6 o7 o8 o9:Option W)(eρ:ρ=[NF .feed,NF (.d (.int w)),NF (.d (.int h)),NF (.own (.aH (E.map eD) vs)),o4,o5,o6,o7,o8,o9])(g1:ds.length<=12)(g2:m<=m'+1+4*(12-ds.length))(g3:E.length+7*ds.length<=84)(g4:∀e∈E,e.ok w h)
inductive M4(w h:Int)(d:D)(l:Int)(m1:Nat)(ds ds':List D)(ρ:af)(m':Nat):Prop|mk(E:List Eg)(vs:List D)(i j:Int)(o8 o9:Option W)(eρ:ρ=[NF .feed,NF (.d (.int w)),NF (.d (.int h)),NF (.own (.aH (E.map eD) vs)),NF (.d d),NF (.d (.int i)),NF (.d (.int j)),NF (.d (.int l)),o8,o9])(hm:m'=m1-1-1-1-1)(k1:E.length+ds'.length+7*ds.length<=84)(k2:∀e∈E,e.ok w h)(k3:0<=i)(k4:0<=j)
theorem Ae{n:Nat}{w h:Int}{m:Nat}(hw:2<=w/\w<=7)(hh:2<=h/\h<=6)(hm:60<=m):(ao defs gv (n+2) 9 [.feed,.d (.int w),.d (.int h)]).wp m (λd N=>m<=N+60/\∃E:List Eg,d=.lst (E.map eD)/\E.length<=84/\∀e∈E,e.ok w h):=by
 have z:=oW;rw[aM (d:=fe) rfl rfl];unfold fe;refine eJ λQ u=>?_;subst_eqs;refine⟨by decide,by decide,by omega,λt X W=>⟨by simp;omega,?_⟩⟩;refine eI (M3 w h m) ?_ ?_ ⟨[],[],NN,NN,NN,NN,NN,NN,rfl,?_,?_,?_,?_⟩
 .rintro d ds o F⟨E,vs,o4,M,L,K,o8,o9,a,I,y,x,v⟩;rw[a];clear a;simp only[Ol]at I y x;refine jc λQ u=>?_;unfold rK;subst_eqs;refine⟨by omega,by omega,by omega,λi i0 i1=>⟨by omega,by omega,by omega,λj j0 j1=>⟨by decide,by decide,by omega,λl l0 l1=>⟨sd (by decide),?_⟩⟩⟩⟩;have O:∃f:Int,d_ [D.int h,D.int w] l=NF (.int f)/\2<=f/\f<=7:=by
   rcases(by omega:l=0\/l=1)with rfl|rfl;.exact⟨h,rfl,by omega,by omega⟩
   .exact⟨w,rfl,by omega,by omega⟩
  obtain⟨f,P,f1,f2⟩:=O;rw[P,T.a_];subst_eqs;refine⟨by omega,by omega,by omega,λq Z Y=>⟨by simp;omega,?_⟩⟩;refine eI (M4 w h d l F ds) ?_ ?_ ⟨E,vs,i,j,o8,o9,rfl,rfl,?_,v,i0,j0⟩
  .rintro J R o C⟨E,vs,i,j,o8,o9,a,c,s,g,H,G⟩;rw[a];clear a;simp only[Ol]at s;obtain⟨A,r,e,b⟩:=G8 (k:=n+1) (w:=w) (h:=h) (i:=i) (j:=j) (l:=l) (E:=E) (vs:=vs) (s0:=NF .feed) (o4:=NF (.d d)) (o8:=NF (.d J)) (o9:=o9) (by omega);show(ax (V (n+1)) i5 [NF .feed,NF (.d (.int w)),NF (.d (.int h)),NF (.own (.aH (E.map eD) vs)),NF (.d d),NF (.d (.int i)),NF (.d (.int j)),NF (.d (.int l)),NF (.d J),o9]).wp C _;rw[e];refine M4.mk A r _ _ _ _ rfl c ?_ ?_ (by omega) (by omega)
   .rcases b with rfl|⟨rfl,_⟩;.omega
    .simp;omega
   .rcases b with rfl|⟨rfl,U,S⟩;.exact g
    .intro e b;rcases List.mem_append.mp b with q|q;.exact g e q
     .rw[List.mem_singleton.mp q];exact⟨H,G,by show l=0\/l=1;omega,U,S⟩
  .rintro o C⟨E,vs,i,j,o8,o9,a,c,s,g,H,G⟩;rw[a];exact u _ _ (M3.mk E vs _ _ _ _ _ _ rfl (by omega) (by omega) (by simpa using s) g)
  .simp[bR];omega
 .rintro o F⟨E,vs,o4,M,L,K,o8,o9,a,I,y,x,v⟩;rw[a];clear a;unfold rJ;subst_eqs;simp only[Ox]at y x;refine bW (ds:=E.map eD) rfl (by rw[NY];omega) (by unfold gp;rw[G7];simp) λl' p=>?_;obtain⟨A,B,rfl⟩:=c6 p rfl;exact u _ _ ⟨by omega,A,rfl,by rw[B.length_eq];omega,λe b=>v e (B.mem_iff.mp b)⟩
 .simp[bR];omega
 .simp[bR];omega
 .simp[bR];omega
 .simp
abbrev Pt:=Int×Int
noncomputable def ah(p:Pt):D:=.tup [.int p.1,.int p.2]
theorem md(P:List Pt):(P.map ah).all oh=NM:=by
 rw[O8];intro x hx;obtain⟨e,_,rfl⟩:=List.mem_map.mp hx;rfl
theorem jd(p q:Pt):dU (ah p) (ah q)=decide (p=q):=by
 obtain⟨a,b⟩:=p;obtain⟨c,d⟩:=q;simp[dU,ah,iR,wO,iQ]
theorem tQ(P:List Pt)(p:Pt):bF (P.map ah) (ah p)=decide (p∈P):=by
 unfold bF;rw[List.any_map];induction P with
 |nil=>rfl|cons q P a=>
  rw[Rv,a];simp only[Function.comp,jd];by_cases h:q=p;.simp[h]
  .simp[h,OX h,eq_comm]
theorem me:∀{ks vs:List D}{d v:D},aL ks vs d=NF v->v∈vs
 |[],_,_,_,h=>by simp[aL]at h|_::_,[],_,_,h=>by simp[aL]at h|k::ks,w::vs,d,v,h=>by
  unfold aL at h;split at h;.cases h;exact NV
  .exact NX _ (me h)
theorem xj{P:List Pt}{vs:List D}{p:Pt}(a:vs.length=P.length)(h:p∈P):∃v,aL (P.map ah) vs (ah p)=NF v:=by induction P generalizing vs with
 |nil=>cases h|cons q P b=>cases vs with
  |nil=>simp at a|cons w vs=>
   show∃v,(if dU (ah q) (ah p)=NM then NF w else aL (P.map ah) vs (ah p))=NF v;rw[jd];by_cases e:q=p;.simp[e]
   .rw[decide_eq_false e];rcases List.mem_cons.mp h with z|z;.exact absurd z.symm e
    .simpa using b (by simpa using a) z
theorem rP:∀{ks vs:List D}{d x v:D},v∈dX ks vs d x->v∈vs\/v=x
 |[],vs,_,_,_,h=>by cases vs<;>simp[dX]at h|_::_,[],_,_,_,h=>by simp[dX]at h|k::ks,w::vs,d,x,v,h=>by
  unfold dX at h;rcases List.mem_cons.mp h with z|z
  .split at z;.exact .inr z
   .exact .inl (z▸NV)
  .rcases rP z with q|q;.exact .inl (NX _ q)
   .exact .inr q
theorem rQ:∀{ks vs:List D}{d x:D},vs.length=ks.length->(dX ks vs d x).length=ks.length
 |[],vs,_,_,h=>by cases vs<;>simp[dX]at*|_::_,[],_,_,h=>by simp at h|k::ks,w::vs,d,x,h=>by
  unfold dX;simp only[Ol]at h⊢;rw[rQ (by omega)]
theorem G9{P:List Pt}{vs:List D}(p:Pt)(x:D)(g:P.Nodup)(i:vs.length=P.length):∃(d:List Pt)(c:List D),putD (P.map ah) vs (ah p) x=(d.map ah,c)/\d.Nodup/\c.length=d.length/\(∀q∈d,q∈P\/q=p)/\(∀v∈c,v∈vs\/v=x)/\d.length<=P.length+1:=by
 unfold putD;rw[tQ];by_cases h:p∈P
 .rw[decide_eq_true h];exact⟨P,_,rfl,g,by rw[rQ (by simpa using i)];simp,λq f=>.inl f,λv e=>rP e,by omega⟩
 .rw[decide_eq_false h];refine⟨P++[p],vs++[x],by simp,?_,by simp[i],λq f=>?_,λv e=>?_,by simp⟩
  .rw[Rr];refine⟨g,by simp,λa ha b hb=>?_⟩;rw[List.mem_singleton.mp hb];exactλz=>h (z▸ha)
  .rcases List.mem_append.mp f with z|z;.exact .inl z
   .exact .inr (List.mem_singleton.mp z)
  .rcases List.mem_append.mp e with z|z;.exact .inl z
   .exact .inr (List.mem_singleton.mp z)
theorem oY(i j:Int):cz .Eq (.int i) (.int j)=.ok (.bl (i==j)):=rfl
noncomputable def Ks(c:Nat)(v:D):Prop:=∃ns:List Int,v=.lst (ns.map D.int)/\ns.length<=c
structure mf(w h:Int)(c:Nat)(P:List Pt)(vs:List D):Prop where
 nd:P.Nodup
 len:vs.length=P.length
 sz:P.length<=c
 val:∀v∈vs,Ks c v
 xy:∀p∈P,0<=p.1/\p.1<w/\0<=p.2/\p.2<h
theorem mf.put{w h:Int}{c:Nat}{P:List Pt}{vs:List D}(W:mf w h c P vs)(p:Pt)(x:D)(hx:Ks (c+1) x)(g:0<=p.1/\p.1<w/\0<=p.2/\p.2<h):∃(b:List Pt)(a:List D),putD (P.map ah) vs (ah p) x=(b.map ah,a)/\mf w h (c+1) b a:=by
 obtain⟨b,a,e,l,k,j,i,n⟩:=G9 p x W.nd W.len;refine⟨b,a,e,l,k,by have:=W.sz;omega,λv d=>?_,λq f=>?_⟩
 .rcases i v d with z|z
  .obtain⟨ns,e,m⟩:=W.val v z;exact⟨ns,e,by omega⟩
  .rw[z];exact hx
 .rcases j q f with z|z;.exact W.xy q z
  .rw[z];exact g
theorem mf.get{w h:Int}{c:Nat}{P:List Pt}{vs:List D}(W:mf w h c P vs)(p:Pt):∃ns:List Int,(aL (P.map ah) vs (ah p)).getD (.lst [])=.lst (ns.map D.int)/\ns.length<=c:=by cases e:aL (P.map ah) vs (ah p)with
 |none=>exact⟨[],rfl,OB _⟩|some v=>
  obtain⟨ns,e,a⟩:=W.val v (me e);exact⟨ns,e,a⟩
theorem nK:∀(l:Bool)(ns:List Int),lE l (ns.map D.int)=NM
 |_,[]=>rfl|l,n::ns=>by simp[lE,flat,nK l ns]
theorem vI{k:Nat}{a:Option L2.W}{r:af}{P:List Pt}{vs:List D}{b xe:Ex}{p:Pt}{y w h:Int}{c:Nat}(f:mf w h c P vs)(m:0<=p.1/\p.1<w/\0<=p.2/\p.2<h)(j:∀o,aK (V k) b (a::o::r)=.ok (ah p))(n:∀o,aK (V k) xe (a::o::r)=.ok (.int y))(F:c<=1000):∃(l:List Pt)(e:List D),ax (V k) (.put 1 b (.mv 1 (.op .Add (.oF (.var 1) (.cons b (.cons (.lst .nil) .nil))) (.lst (.cons xe .nil))))) (a::NF (.own (.aH (P.map ah) vs))::r)=.ok (.nx (a::NF (.own (.aH (l.map ah) e))::r))/\mf w h (c+1) l e:=by
 have z:=oW;obtain⟨ns,s,G⟩:=f.get p;obtain⟨E,g,t,C⟩:=f.put p (.lst ((ns++[y]).map D.int)) ⟨_,rfl,by simp;omega⟩ m;refine⟨E,g,?_,C⟩;have i:az (P.map ah) (ah p)=NM:=c5 (md P) rfl;have B:vm (.aH (P.map ah) vs) [ah p,.lst []]=.ok (.lst (ns.map D.int)):=by
  show(T.need (az (P.map ah) (ah p)&&decide ((P.map ah).length=vs.length))>>=λ_=>T.ok ((aL (P.map ah) vs (ah p)).getD (.lst [])))=_;rw[i,decide_eq_true (by rw[NY,f.len]),s];rfl
 have A:Cb .Add (.lst (ns.map D.int)) (.lst [.int y])=.ok (.lst ((ns++[y]).map D.int)):=by
  show(T.need (decide ((ns.map D.int).length+1<=NW))>>=λ_=>T.ok (D.lst (ns.map D.int++[.int y])))=_;rw[decide_eq_true (by rw[NY];omega),Po];rfl
 have x:aK (V k) (.op .Add (.oF (.var 1) (.cons b (.cons (.lst .nil) .nil))) (.lst (.cons xe .nil))) (a::NF (.d (.aH (P.map ah) vs))::r)=.ok (.lst ((ns++[y]).map D.int)):=by
  bv_omega;rw[j,n];bv_omega;rw[show T.need (qy (.aH (P.map ah) vs))=.ok ()from rfl,ag,B,ag,A]
 have v:(T.need (flat NM (.lst ((ns++[y]).map D.int))):T Unit)=.ok ():=by
  unfold flat;rw[nK];rfl
 have u:(T.need (decide ((P.map ah).length<NW)&&az (P.map ah) (ah p)):T Unit)=.ok ():=by rw[i,decide_eq_true (by rw[NY];have:=f.sz;omega)];rfl
 show((aK (V k) (.op .Add (.oF (.var 1) (.cons b (.cons (.lst .nil) .nil))) (.lst (.cons xe .nil))) (a::NF (.d (.aH (P.map ah) vs))::r)>>=λd=>T.need (flat NM d)>>=λ_=>T.ok d)>>=λd=>aK (V k) b (a::NF (.own (.aH (P.map ah) vs))::r)>>=λq=>T.need (decide ((P.map ah).length<NW)&&az (P.map ah) q)>>=λ_=>T.ok (Fl.nx (a::NF (.own (.aH (putD (P.map ah) vs q d).1 (putD (P.map ah) vs q d).2))::r)))=_;rw[x,ag,v,ag,ag,j,ag,u,ag,t]
theorem G_{k:Nat}{X0:Option L2.W}{P:List Pt}{vs:List D}{i j u v w h:Int}{c:Nat}(W:mf w h c P vs)(l:0<=i/\i<w/\0<=j/\j<h)(g:0<=u/\u<w/\0<=v/\v<h)(x:c<=900):∃(e:List Pt)(a:List D),ax (V k) ky [X0,NF (.own (.aH (P.map ah) vs)),NF (.d (.int i)),NF (.d (.int j)),NF (.d (.int u)),NF (.d (.int v))]=.ok (.nx [X0,NF (.own (.aH (e.map ah) a)),NF (.d (.int i)),NF (.d (.int j)),NF (.d (.int u)),NF (.d (.int v))])/\mf w h (c+1+1) e a:=by
 have n:∀o,aK (V k) (.tup (.cons (.var 2) (.cons (.var 3) .nil))) (X0::o::[NF (.d (.int i)),NF (.d (.int j)),NF (.d (.int u)),NF (.d (.int v))])=.ok (ah (i,j)):=λo=>by
  show(T.need (decide (2<=NW))>>=λ_=>T.ok (D.tup [.int i,.int j]))=_;rw[G6];rfl
 have m:∀o,aK (V k) (.tup (.cons (.var 4) (.cons (.var 5) .nil))) (X0::o::[NF (.d (.int i)),NF (.d (.int j)),NF (.d (.int u)),NF (.d (.int v))])=.ok (ah (u,v)):=λo=>by
  show(T.need (decide (2<=NW))>>=λ_=>T.ok (D.tup [.int u,.int v]))=_;rw[G6];rfl
 obtain⟨z,f,q,s⟩:=vI (xe:=.bi .int (.cons (.cmp .Eq (.var 2) (.var 4)) .nil)) (y:=if(i==u)=NM then 1 else 0) W l n (λo=>rfl) (by omega);obtain⟨t,b,p,r⟩:=vI (xe:=.op .Add (.cst (.int 2)) (.bi .int (.cons (.cmp .Eq (.var 2) (.var 4)) .nil))) (y:=2+if(i==u)=NM then 1 else 0) s g m (λo=>rfl) (by omega);refine⟨t,b,?_,r⟩;unfold ky;rw[ba q,ba p];rfl
theorem CA{n:Nat}{w h:Int}{m:Nat}{E:List Eg}(hE:∀e∈E,e.ok w h)(J:E.length<=84):(ao defs gv (n+1) 10 [.d (.lst (E.map eD))]).wp m (λd y=>y=m/\∃(P:List Pt)(vs:List D),d=.aH (P.map ah) vs/\mf w h 168 P vs):=by
 have z:=oW;rw[aM (d:=fR) rfl rfl];unfold fR;refine eJ λQ L=>?_;subst_eqs;simp only[fk,T.a_];generalize D.lst (E.map eD)=X0;refine eI (λG p y=>y=m/\∃(f:List Eg)(P:List Pt)(vs:List D)(c:Nat)(x t s r:Option W),G=f.map eD/\(∀e∈f,e.ok w h)/\c+2*f.length<=168/\p=[NF (.d X0),NF (.own (.aH (P.map ah) vs)),x,t,s,r]/\mf w h c P vs) ?_ ?_ ⟨rfl,E,[],[],0,NN,NN,NN,NN,rfl,hE,by omega,rfl,⟨List.nodup_nil,rfl,by simp,by simp,by simp⟩⟩
 .rintro d G p C⟨g,f,P,vs,c,x,t,s,r,hd,o,F,b,W⟩;rw[b];clear b;cases f with
  |nil=>cases hd|cons e f=>
   rw[(Qh hd).1,(Qh hd).2];clear hd;have a:=o e NV;simp only[Ol]at F;have I:0<=e.i/\e.i<w/\0<=e.j/\e.j<h:=by
    have:=a.lv;have:=a.iw;have:=a.jh;have:=a.i0;have:=a.j0;omega
   have H:0<=e.i+e.l/\e.i+e.l<w/\0<=e.j+1-e.l/\e.j+1-e.l<h:=by
    have:=a.lv;have:=a.iw;have:=a.jh;have:=a.i0;have:=a.j0;omega
   obtain⟨N,q,B,M⟩:=G_ (k:=n) (X0:=NF (.d X0)) W I H (by omega);generalize hu:e.i+e.l=u at B;generalize A:e.j+1-e.l=v at B;have ed:eD e=.tup [.tup [.int e.i,.int e.j],.tup [.int u,.int v]]:=by rw[<-hu,<-A];rfl
   rw[ed];show(ax (V n) ky [NF (.d X0),NF (.own (.aH (P.map ah) vs)),NF (.d (.int e.i)),NF (.d (.int e.j)),NF (.d (.int u)),NF (.d (.int v))]).wp C _;rw[B];exact⟨g,f,N,q,c+1+1,_,_,_,_,rfl,λe K=>o e (NX _ K),by omega,rfl,M⟩
 .rintro p C⟨g,f,P,vs,c,x,t,s,r,hd,o,F,b,W⟩;rw[b];unfold vB;subst_eqs;exact L _ _ ⟨g,P,vs,rfl,W.nd,W.len,by have:=W.sz;omega,λv A=>by
   obtain⟨ns,e,J⟩:=W.val v A;exact⟨ns,e,by omega⟩,W.xy⟩
theorem tR(d:D)(xs:List D):cz .In d (.tup xs)=(T.get (gW d xs)>>=λb=>.ok (.bl b)):=rfl
theorem tS(d:D)(xs:List D):cz .In d (.lst xs)=(T.get (gW d xs)>>=λb=>.ok (.bl b)):=rfl
theorem rR(d:D)(xs:List D):cz .NotIn d (.tup xs)=(T.get (gW d xs)>>=λb=>.ok (.bl (!b))):=rfl
theorem jX(d:D)(xs:List D):cz .NotIn d (.lst xs)=(T.get (gW d xs)>>=λb=>.ok (.bl (!b))):=rfl
theorem mh(k:Nat):∀(xs a:List Int),∃b,aT (bZ (k+1)) (xs.map D.int) (a.map D.int)=NF b
 |[],[]=>⟨_,rfl⟩|[],_::_=>⟨_,rfl⟩|_::_,[]=>⟨_,rfl⟩|x::xs,y::a=>by
  obtain⟨b,e⟩:=mh k xs a;simp only[Ot,aT];have:bZ (k+1) (.int x) (.int y)=NF (x==y):=rfl;rw[this];cases x==y<;>simp[e]
theorem vJ(k:Nat)(xs a:List Int):∃b,bZ (k+2) (.lst (xs.map D.int)) (.lst (a.map D.int))=NF b:=by
 obtain⟨b,e⟩:=mh k xs a;refine⟨b&&(xs.map D.int).length==(a.map D.int).length,?_⟩;show(aT (bZ (k+1)) (xs.map D.int) (a.map D.int)).map (λb=>b&&(xs.map D.int).length==(a.map D.int).length)=_;rw[e];rfl
theorem CB(ns:List Int):(ns.map D.int).all FL=NM:=by
 rw[O8];intro x hx;obtain⟨e,_,rfl⟩:=List.mem_map.mp hx;rfl
theorem rS{n m:Nat}{ns:List Int}(j:ns.length<=1000):(ao defs gv (n+1) 11 [.d (.lst (ns.map D.int))]).wp m (λd g=>g=m/\∃b,d=.bl b):=by
 have z:=oW;rw[aM (d:=bT) rfl rfl];unfold bT;subst_eqs;refine bW (ds:=ns.map D.int) rfl (by rw[NY];omega) (by unfold gp;rw[CB];rfl) λi p=>?_;obtain⟨a,h,rfl⟩:=c6 p rfl;refine⟨sd (by decide),sd (by decide),sd (by decide),?_⟩;obtain⟨b1,e⟩:=vJ 48 [0,2] a;obtain⟨f,c⟩:=vJ 48 [1,3] a;have e:bZ 50 (.lst [.int 0,.int 2]) (.lst (a.map D.int))=NF b1:=e;have c:bZ 50 (.lst [.int 1,.int 3]) (.lst (a.map D.int))=NF f:=c;rw[tR,T.wp_bind];have:gW (.lst (a.map D.int)) [.lst [.int 0,.int 2],.lst [.int 1,.int 3]]=NF (b1||(f||NP)):=by
  unfold gW;rw[e];unfold gW;rw[c];rfl
 rw[this];exact⟨rfl,_,rfl⟩
theorem oZ(P:List Pt):(P.map ah).all B2=NM:=by
 rw[O8];intro x hx;obtain⟨e,_,rfl⟩:=List.mem_map.mp hx;rfl
theorem CC{ks vs:List D}{d v:D}{m:Nat}{Q:D->Nat->Prop}(a:az ks d=NM)(e:aL ks vs d=NF v)(h:Q v m):(dM (.aH ks vs) d).wp m Q:=by
 show(T.need (az ks d)>>=λ_=>T.get (aL ks vs d)).wp m Q;rw[T.wp_bind,T.kE,a,e];exact⟨rfl,h⟩
structure Num(w h:Int)(A:List (Pt×Int)):Prop where
 nd:(A.map (·.1)).Nodup
 inj:∀a∈A,∀b∈A,a.2=b.2->a.1=b.1
 val:∀a∈A,0<=a.2/\a.2<1000
 xy:∀a∈A,0<=a.1.1/\a.1.1<w/\0<=a.1.2/\a.1.2<h
 sz:A.length<=168
noncomputable def bH(A:List (Pt×Int)):D:=.aH (A.map λa=>ah a.1) (A.map λa=>.int a.2)
noncomputable def en(k:Nat):List Pt->List D
 |[]=>[]|p::r=>.tup [.int k,ah p]::en (k+1) r
theorem CD(P:List Pt):gy (P.map ah)=en 0 P:=by
 unfold gy;generalize 0=k;induction P generalizing k with
 |nil=>rfl|cons p P a=>
  simp only[Ot,List.zipIdx_cons];rw[a];rfl
theorem tT(k:Nat)(P:List Pt):(en k P).length=P.length:=by induction P generalizing k with
 |nil=>rfl|cons p P a=>simp[en,a]
theorem steps{b s k1 k2:Int}(a:s=1\/s=7\/s=333\/s=999\/s=101\/s=613)(d:0<=k1/\k1<1000)(c:0<=k2/\k2<1000)(h:(b+s*k1)%1000=(b+s*k2)%1000):k1=k2:=by rcases a with rfl|rfl|rfl|rfl|rfl|rfl<;>omega+splitNatSub
theorem Af{A:List (Pt×Int)}(p:Pt)(v:Int)(h:p∉A.map (·.1)):putD (A.map λa=>ah a.1) (A.map λa=>.int a.2) (ah p) (.int v)=((A++[(p,v)]).map λa=>ah a.1,(A++[(p,v)]).map λa=>.int a.2):=by
 unfold putD;have:(A.map λa=>ah a.1)=(A.map (·.1)).map ah:=by simp
 rw[this,tQ,decide_eq_false h];simp
theorem Ha{v:Ev}{c:Ex}{a:bD}{ρ ρ':af}{m:Nat}{Q:Fl->Nat->Prop}(h:ax v a ρ=.ok (.nx ρ'))(H:(c4 v c ρ).wp m (λb d=>Q (.nx (if b=NM then ρ' else ρ)) d)):(ax v (.cons (.iff c a .nil) .nil) ρ).wp m Q:=by
 rw[fT,i_,h,T.wp_bind,T.wp_bind];refine T.wp_mono (λb d q=>?_) H;cases b with
 |true=>exact q|false=>exact q
theorem CF{k:Nat}{f x1 c:Option L2.W}{b s j:Int}{A:List (Pt×Int)}{p:Pt}(i:p∉A.map (·.1))(h:c8 s=NM)(m:A.length<=400):ax (V k) (.cons (.put 5 (.var 7) (.op .Mod (.op .Add (.var 3) (.op .Mult (.var 4) (.var 6))) (.cst (.int 1000)))) .nil) [f,x1,c,NF (.d (.int b)),NF (.d (.int s)),NF (.own (bH A)),NF (.d (.int j)),NF (.d (ah p))]=.ok (.nx [f,x1,c,NF (.d (.int b)),NF (.d (.int s)),NF (.own (bH (A++[(p,(b+s*j)%1000)]))),NF (.d (.int j)),NF (.d (ah p))]):=by
 have z:=oW;have l:aK (V k) (.op .Mod (.op .Add (.var 3) (.op .Mult (.var 4) (.var 6))) (.cst (.int 1000))) [f,x1,c,NF (.d (.int b)),NF (.d (.int s)),NF (.own (bH A)),NF (.d (.int j)),NF (.d (ah p))]=.ok (.int ((b+s*j)%1000)):=by
  show((((T.need (c8 s||c8 j)>>=λ_=>T.ok (D.int (s*j)))>>=λe=>Cb .Add (.int b) e)>>=λd=>Cb .Mod d (.int 1000)))=_;rw[h];rfl
 have g:az (A.map λa=>ah a.1) (ah p)=NM:=by
  have:(A.map λa=>ah a.1)=(A.map (·.1)).map ah:=by simp
  rw[this];exact c5 (md _) rfl
 refine(ba (ρ':=[f,x1,c,NF (.d (.int b)),NF (.d (.int s)),NF (.own (bH (A++[(p,(b+s*j)%1000)]))),NF (.d (.int j)),NF (.d (ah p))]) ?_).trans rfl;rw[Cv,l,ag];show(T.need (decide ((A.map λa=>ah a.1).length<NW)&&az (A.map λa=>ah a.1) (ah p))>>=λ_=>T.ok (Fl.nx [f,x1,c,NF (.d (.int b)),NF (.d (.int s)),NF (.own (.aH (putD (A.map λa=>ah a.1) (A.map λa=>.int a.2) (ah p) (.int ((b+s*j)%1000))).1 (putD (A.map λa=>ah a.1) (A.map λa=>.int a.2) (ah p) (.int ((b+s*j)%1000))).2)),NF (.d (.int j)),NF (.d (ah p))]))=_;rw[g,decide_eq_true (show(A.map λa=>ah a.1).length<NW by rw[NY];omega),Af p _ i];rfl
inductive NI(P':List Pt)(X0 XP:D)(b s:Int)(m1:Nat)(ds:List D)(ρ:af)(m':Nat):Prop|mk(Pd Pr:List Pt)(A:List (Pt×Int))(o6 o7:Option L2.W)(g1:m1<=m'+(P'.length-ds.length))(hP:P'=Pd++Pr)(hd:ds=en Pd.length Pr)(eρ:ρ=[NF L2.W.feed,NF (L2.W.d X0),NF (L2.W.d XP),NF (L2.W.d (D.int b)),NF (L2.W.d (D.int s)),NF (L2.W.own (bH A)),o6,o7])(g2:(A.map (·.1)).Nodup)(g3:A.length<=Pd.length)(g4:∀a∈A,∃k:Nat,Pd[k]?=NF a.1/\a.2=(b+s*k)%1000)
theorem rT{n:Nat}{w h:Int}{m:Nat}{E:List Eg}(hE:∀e∈E,e.ok w h)(hl:E.length<=84)(hm:200<=m):(ao defs gv (n+2) 15 [.feed,.d (.lst (E.map eD))]).wp m (λd m'=>m<=m'+200/\∃A:List (Pt×Int),d=bH A/\Num w h A):=by
 have z:=oW;rw[aM (d:=dh) rfl rfl];unfold dh;refine eJ λQ H=>?_;rw[T.wp_bind];refine eJ λQ2 Y=>?_;refine oX ?_;subst_eqs;refine wp_call (CA hE hl) ?_;intro d m0 X;obtain⟨e0,P,B,l,W⟩:=X;rw[l,e0];clear e0 l;show(ax (V (n+1)) fQ [NF .feed,NF (.d (.lst (E.map eD))),NF (.d (.aH (P.map ah) B)),NN,NN,NN,NN,NN]).wp m Q2;have key:∀(b s:Int)(r:Nat),m<=r+3->(s=1\/s=7\/s=333\/s=999\/s=101\/s=613)->(ax (V (n+1)) fP [NF L2.W.feed,NF (L2.W.d (D.lst (XI eD E))),NF (L2.W.d (D.aH (XI ah P) B)),NF (L2.W.d (D.int b)),NF (L2.W.d (D.int s)),NN,NN,NN]).wp r Q2:=by
  intro b s r a3 G;unfold fP;subst_eqs;refine bW (ds:=P.map ah) rfl (by rw[NY];have:=W.sz;omega) (by unfold gp;rw[oZ];simp) λl' pm=>?_;obtain⟨O,K,rfl⟩:=c6 pm rfl;have F:O.Nodup:=K.nodup_iff.mpr W.nd;have R:O.length<=168:=by rw[K.length_eq];exact W.sz
  subst_eqs;rw[CD];generalize D.lst (XI eD E)=N;refine eI (NI O N (D.aH (XI ah P) B) b s r) ?_ ?_ ⟨[],O,[],NN,NN,?_,rfl,rfl,rfl,?_,?_,?_⟩
  .rintro d ds ρ m2⟨f,o,A,o6,o7,Z,rfl,hd,j,L,g3,u⟩;rw[j];clear j;cases o with
   |nil=>cases hd|cons p o=>
    rw[(Qh hd).2]at Z;rw[(Qh hd).1,(Qh hd).2];clear hd;simp only[Ol,tT,OO]at Z;have hp:p∈P:=K.mem_iff.mp (by simp);obtain⟨v,I⟩:=xj W.len hp;obtain⟨ns,rfl,a2⟩:=W.val v (me I);have t:p∉A.map (·.1):=λq=>by
     obtain⟨a,ha,rfl⟩:=List.mem_map.mp q;obtain⟨k,hk,_⟩:=u a ha;have:=OH hk;rw[Rr]at F;exact F.2.2 _ this _ NV rfl
    have sm:c8 s=NM:=by
     unfold c8;rw[N0,decide_eq_true_eq,decide_eq_true_eq];constructor<;>omega
    have a0:f.length+(o.length+1)<=168:=by simpa using R
    have go:∀(g:Nat),r<=g+(f.length+1)->r<=g+((f++p::o).length-(en (f.length+1) o).length):=λg h=>by rw[tT,OO,Ol];omega
    have C:∀a∈A,∃k:Nat,(f++[p])[k]?=NF a.1/\a.2=(b+s*k)%1000:=λa ha=>by
     obtain⟨k,l,J⟩:=u a ha;exact⟨k,by rw[Pf (List.getElem?_eq_some_iff.mp l).1];exact l,J⟩
    refine jc λQ H=>?_;show(ax (V (n+1)) fO [NF .feed,NF (.d N),NF (.d (.aH (P.map ah) B)),NF (.d (.int b)),NF (.d (.int s)),NF (.own (bH A)),NF (.d (.int f.length)),NF (.d (ah p))]).wp m2 Q;have keep:∀(g:Nat),r<=g+(f.length+1)->Q (.nx [NF .feed,NF (.d N),NF (.d (.aH (P.map ah) B)),NF (.d (.int b)),NF (.d (.int s)),NF (.own (bH A)),NF (.d (.int f.length)),NF (.d (ah p))]) g:=λg h=>H _ _ (NI.mk (f++[p]) o A _ _ (go g h) (by simp) (by simp) rfl L (by simp;omega) C);have add:∀(g:Nat),r<=g+(f.length+1)->Q (.nx [NF .feed,NF (.d N),NF (.d (.aH (P.map ah) B)),NF (.d (.int b)),NF (.d (.int s)),NF (.own (bH (A++[(p,(b+s*f.length)%1000)]))),NF (.d (.int f.length)),NF (.d (ah p))]) g:=λg h=>by
     refine H _ _ (NI.mk (f++[p]) o (A++[(p,(b+s*f.length)%1000)]) _ _ (go g h) (by simp) (by simp) rfl ?_ (by simp;omega) ?_)
     .rw[Po,Rr];refine⟨L,by simp,λx hx y hy=>?_⟩;rw[List.mem_singleton.mp hy];exactλq=>t (by rw[show x=p from q]at hx;exact hx)
     .intro a ha;rcases List.mem_append.mp ha with q|q;.exact C a q
      .rw[List.mem_singleton.mp q];exact⟨f.length,by simp,rfl⟩
    clear H;unfold fO;refine Ha (CF t sm (by omega)) ?_;subst_eqs;refine CC (c5 (md P) rfl) I (wp_call (rS (by omega)) ?_);intro d m3 U;obtain⟨e3,bb,e4⟩:=U;rw[e4,e3];show(T.get (NF bb)).wp _ _;rw[T.a_];cases bb with
    |false=>exact add _ (by omega)|true=>
     simp only[Pz,Oh,if_false,oY,T.cu];refine⟨by decide,by decide,by omega,λq q0 q1=>?_⟩;cases q==0 with
     |true=>exact add _ (by omega)|false=>exact keep _ (by omega)
  .rintro ρ m2⟨f,o,A,o6,o7,Z,rfl,hd,j,L,g3,u⟩;rw[j];clear j;have:o=[]:=by cases o with
    |nil=>rfl|cons _ _=>cases hd
   subst this;unfold jW;subst_eqs;simp only[Pn,Ox]at*;refine Y _ _ (H _ _ ⟨by omega,A,rfl,L,λa ha c hc e=>?_,λa ha=>?_,λa ha=>?_,by omega⟩)
   .obtain⟨S,l,M⟩:=u a ha;obtain⟨k2,J,f2⟩:=u c hc;have l1:=(List.getElem?_eq_some_iff.mp l).1;have l2:=(List.getElem?_eq_some_iff.mp J).1;rw[M,f2]at e;have:=steps G (by omega) (by omega) e;have:S=k2:=by omega
    subst this;rw[l]at J;exact NU J
   .obtain⟨S,l,M⟩:=u a ha;rw[M];omega
   .obtain⟨S,l,M⟩:=u a ha;exact W.xy _ (K.mem_iff.mp (OH l))
  .simp[tT]
  .simp
  .simp
  .simp
 unfold fQ;subst_eqs;refine⟨by decide,by decide,by omega,λb b0 b1=>⟨sd (by decide),by decide,by decide,by omega,λi i0 i1=>?_⟩⟩;have G:∃s:Int,d_ [D.int 1,D.int 7,D.int 333,D.int 999,D.int 101,D.int 613] i=NF (.int s)/\(s=1\/s=7\/s=333\/s=999\/s=101\/s=613):=by
  rcases(by omega:i=0\/i=1\/i=2\/i=3\/i=4\/i=5)with rfl|rfl|rfl|rfl|rfl|rfl;.exact⟨_,rfl,by decide⟩
  .exact⟨_,rfl,by decide⟩
  .exact⟨_,rfl,by decide⟩
  .exact⟨_,rfl,by decide⟩
  .exact⟨_,rfl,by decide⟩
  .exact⟨_,rfl,by decide⟩
 obtain⟨s,es,G⟩:=G;rw[es,T.a_];simp only[oY,T.cu];refine⟨by decide,by decide,by omega,λq q0 q1=>?_⟩;split;.exact⟨sd (by decide),key 0 1 _ (by omega) (by decide)⟩
 .exact key b s _ (by omega) G
theorem CG{g:D->af->T af}{f:af->T Bool}{b:af->T D}{ds:List D}{ρ:af}{m:Nat}{Q:List D->Nat->Prop}(S:af->Prop)(c:D->Bool)(e:D->D)(h:∀ρ,S ρ->∀d∈ds,∃a,g d ρ=.ok a/\S a/\f a=.ok (c d)/\(c d=NM->b a=.ok (e d)))(i:S ρ)(q:Q ((ds.filter c).map e) m):(dZ g f b ds ρ).wp m Q:=by
 rw[fU S h i];exact q
theorem mi{g:D->af->T af}{c:af->T Bool}{b:af->T D}{ds:List D}{ρ:af}{m:Nat}{Q:List D->Nat->Prop}(S:af->Prop)(e:D->D)(h:∀ρ,S ρ->∀d∈ds,∃a,g d ρ=.ok a/\S a/\c a=.ok NM/\b a=.ok (e d))(n:S ρ)(q:Q (ds.map e) m):(dZ g c b ds ρ).wp m Q:=by
 refine CG S (λ_=>NM) e (λρ f d hd=>?_) n (by rw[List.filter_eq_self.mpr λ_ _=>rfl];exact q);obtain⟨a,l,k,j,i⟩:=h ρ f d hd;exact⟨a,l,k,j,λ_=>i⟩
theorem rV(k:Nat)(p q:Pt):bZ (k+2) (ah p) (ah q)=NF (decide (p=q)):=by
 have:bZ (k+2) (ah p) (ah q)=NF (((p.1==q.1)&&((p.2==q.2)&&NM))&&NM):=rfl;rw[this];obtain⟨a,b⟩:=p;obtain⟨c,d⟩:=q;congr 1;simp only[Ws,Rw];rw[RX];simp
theorem DQ(q:Pt):∀(P:List Pt),gW (ah q) (P.map ah)=NF (decide (q∈P))
 |[]=>by simp[gW]|p::P=>by
  rw[Ot];unfold gW;rw[rV 48 p q,DQ q P];by_cases h:p=q;.simp[h]
  .simp[h,OX h,eq_comm]
theorem xk(p q:Pt):cz .Eq (ah p) (ah q)=.ok (.bl (decide (p=q))):=by
 show(T.get (bZ aJ (ah p) (ah q))>>=λb=>T.ok (D.bl b))=_;rw[show aJ=58+2 from rfl,rV];rfl
theorem xl(p q:Pt):cz .NotEq (ah p) (ah q)=.ok (.bl (!decide (p=q))):=by
 show(T.get (bZ aJ (ah p) (ah q))>>=λb=>T.ok (D.bl (!b)))=_;rw[show aJ=58+2 from rfl,rV];rfl
theorem tU(q:Pt)(P:List Pt):cz .NotIn (ah q) (.lst (P.map ah))=.ok (.bl (!decide (q∈P))):=by rw[jX,DQ];rfl
theorem CH(q:Pt):dM (ah q) (.int 0)=.ok (.int q.1):=rfl
theorem CI(q:Pt):dM (ah q) (.int 1)=.ok (.int q.2):=rfl
noncomputable def xm(x:Pt×Pt):D:=.tup [ah x.1,ah x.2]
noncomputable def fy(p:Pt)(l:Int)(k:Nat):Pt:=(p.1+k*l,p.2+k*(1-l))
theorem rW(p:Pt)(l:Int):fy p l 0=p:=by simp[fy]
theorem Ag{p:Pt}{l:Int}(a:l=0\/l=1)(k:Nat):fy p l (k+1)=((fy p l k).1+l,(fy p l k).2+1-l):=by
 unfold fy;rcases a with rfl|rfl<;>simp<;>omega
theorem vK{p:Pt}{l:Int}(a:l=0\/l=1)(k:Nat):(fy p l k).1+(fy p l k).2=p.1+p.2+k:=by
 unfold fy;rcases a with rfl|rfl<;>simp<;>omega
noncomputable def mj(E:List Eg)(p:Pt)(l:Int)(k:Nat):Prop:=∀s:Nat,s<k->(⟨(fy p l s).1,(fy p l s).2,l⟩:Eg)∈E
structure aR(E:List Eg)(P:List Pt)(p:Pt)(l:Int)(k:Nat)(q:Pt):Prop where
 pos:0<k
 eq:q=fy p l k
 chain:mj E p l k
 Kt:∀s:Nat,0<s->s<k->fy p l s∉P
 mem:q∈P
theorem aR.ne{E:List Eg}{P:List Pt}{p q:Pt}{l:Int}{k:Nat}(a:l=0\/l=1)(h:aR E P p l k q):q≠p:=λz=>by
 have:=vK (p:=p) a k;rw[<-h.eq,z]at this;have:=h.pos;omega+splitNatSub
theorem DR{a b:Eg}(e:a.i=b.i)(d:a.j=b.j)(c:a.l=b.l):a=b:=by cases a;cases b;simp only at e d c;rw[e,d,c]
theorem je{E:List Eg}{e:Eg}:bF (E.map eD) (eD e)=NM↔e∈E:=by
 unfold bF;rw[List.any_map,List.any_eq_true];constructor
 .rintro⟨a,ha,b⟩;have b:(((decide (a.i=e.i)&&(decide (a.j=e.j)&&NM)))&&((decide (a.i+a.l=e.i+e.l)&&(decide (a.j+1-a.l=e.j+1-e.l)&&NM))&&NM))=NM:=b;simp only[Ws,N0,decide_eq_true_eq]at b;rw[<-DR b.1.1 b.1.2 (by omega)];exact ha
 .intro h;refine⟨e,h,?_⟩;show(((decide (e.i=e.i)&&(decide (e.j=e.j)&&NM)))&&((decide (e.i+e.l=e.i+e.l)&&(decide (e.j+1-e.l=e.j+1-e.l)&&NM))&&NM))=NM;simp
theorem Hb{k:Nat}{b a o:Option L2.W}{P:List Pt}{p q:Pt}:c4 (V k) e_ [b,NF (.d (.lst (P.map ah))),NF (.d (ah p)),a,NF (.d (ah q)),o]=.ok (decide (q=p)||!decide (q∈P)):=by
 unfold e_;show((cz .Eq (ah q) (ah p)>>=cJ)>>=λc=>if c then T.ok NM else(cz .NotIn (ah q) (.lst (P.map ah))>>=cJ))=_;rw[xk,tU];cases decide (q=p)<;>rfl
theorem Hc{k:Nat}{E:List Eg}{vs:List D}{x1 o:Option L2.W}{p q:Pt}{l:Int}:ax (V k) fb [NF (.d (.aH (E.map eD) vs)),x1,NF (.d (ah p)),NF (.d (.int l)),NF (.d (ah q)),o]=if bF (E.map eD) (eD ⟨q.1,q.2,l⟩)=NM then .ok (.nx [NF (.d (.aH (E.map eD) vs)),x1,NF (.d (ah p)),NF (.d (.int l)),NF (.d (ah (q.1+l,q.2+1-l))),NF (.d (ah (q.1+l,q.2+1-l)))])else .ok (.rt (ah p)):=by
 unfold fb;rw[fg (d:=ah (q.1+l,q.2+1-l)) (by
  show(T.need (decide (2<=NW))>>=λ_=>T.ok (D.tup [.int (q.1+l),.int (q.2+1-l)]))=_;rw[G6];rfl)];have t:c4 (V k) (.bC .NotIn (.tup (.cons (.var 4) (.cons (.var 5) .nil))) (.var 0)) ([NF (.d (.aH (E.map eD) vs)),x1,NF (.d (ah p)),NF (.d (.int l)),NF (.d (ah q)),o].set 5 (NF (.d (ah (q.1+l,q.2+1-l)))))=.ok (!bF (E.map eD) (eD ⟨q.1,q.2,l⟩)):=by
  show((T.need (decide (2<=NW))>>=λ_=>T.ok (D.tup [ah q,ah (q.1+l,q.2+1-l)]))>>=λd=>cz .NotIn d (.aH (E.map eD) vs)>>=cJ)=_;rw[G6];show((T.need (az (E.map eD) (eD ⟨q.1,q.2,l⟩))>>=λ_=>T.ok (D.bl (!bF (E.map eD) (eD ⟨q.1,q.2,l⟩))))>>=cJ)=_;rw[c5 (tP E) (vH _)];rfl
 rw[fT,i_,t,ag];cases bF (E.map eD) (eD ⟨q.1,q.2,l⟩)<;>rfl
inductive FI(E:List Eg)(P:List Pt)(p:Pt)(l w h:Int)(x0:D)(m:Nat)(j:Nat)(ρ:af)(m':Nat):Prop|mk(k:Nat)(q:Pt)(o:Option L2.W)(hm:m'=m)(eρ:ρ=[NF (L2.W.d x0),NF (L2.W.d (D.lst (P.map ah))),NF (L2.W.d (ah p)),NF (L2.W.d (D.int l)),NF (L2.W.d (ah q)),o])(eq:q=fy p l k)(ch:mj E p l k)(bt:∀s:Nat,0<s->s<k->fy p l s∉P)(hj:k+j=20)(q1:q.1<w)(q2:q.2<h)
theorem o_{n m:Nat}{w h:Int}{E:List Eg}{vs:List D}{P:List Pt}{p:Pt}{l:Int}(hw:w<=7)(hh:h<=7)(hE:∀e∈E,e.ok w h)(A:l=0\/l=1)(y:0<=p.1/\p.1<w/\0<=p.2/\p.2<h):(ao defs gv (n+1) 12 [.d (.aH (E.map eD) vs),.d (.lst (P.map ah)),.d (ah p),.d (.int l)]).wp m (λd K=>K=m/\∃q:Pt,d=ah q/\((∃k,aR E P p l k q)\/(q=p/\∀k u,¬aR E P p l k u))):=by
 rw[aM (d:=cQ) rfl rfl];unfold cQ;refine eJ λQ B=>?_;rw[fg (d:=ah p) rfl,fT,vG,T.wp_bind,T.wp_bind];refine ma (FI E P p l w h (D.aH (E.map eD) vs) m) ?_ (k:=20) (by unfold bg;omega) ⟨0,p,NN,rfl,rfl,(rW p l).symm,λs g=>absurd g (Qt _),λs V M=>absurd M (Qt _),rfl,y.2.1,y.2.2.2⟩;rintro j N S⟨k,q,o,i,f,eq,C,r,U,R,O⟩;rw[f,Hb,T.cu,Hc];clear f;have t:=vK (p:=p) A k;rw[<-eq]at t;by_cases a:(decide (q=p)||!decide (q∈P))=NM
 .rw[if_pos a];have x:k=0\/q∉P:=by
   rw[PR,decide_eq_true_eq,P4,decide_eq_false_iff_not]at a;rcases a with z|z;.rw[z]at t;exact .inl (by omega)
   .exact .inr z
  by_cases c:bF (E.map eD) (eD ⟨q.1,q.2,l⟩)=NM
  .rw[if_pos c,T.cu];have b:=je.mp c;have ok:=hE _ b;have J:q.1+l<w:=ok.iw;have I:q.2+1-l<h:=ok.jh;refine⟨j-1,by omega,FI.mk (k+1) (q.1+l,q.2+1-l) _ i rfl (by rw[Ag A k,<-eq]) (λs g=>?_) (λs H G=>?_) (by omega) J I⟩
   .rcases Nat.lt_succ_iff_lt_or_eq.mp g with c|c;.exact C s c
    .subst c;rw[<-eq];exact b
   .rcases Nat.lt_succ_iff_lt_or_eq.mp G with c|c;.exact r s H c
    .subst c;rw[<-eq];rcases x with z|z;.omega
     .exact z
  .rw[if_neg c,T.cu];refine B _ _ ⟨i,p,rfl,.inr ⟨rfl,λv u F=>?_⟩⟩;have L:=λz=>c (je.mpr z);rcases Rp v k with c|c|c;.exact r v F.pos c (F.eq▸F.mem)
   .subst c;rcases x with z|z;.have:=F.pos;omega
    .exact z (by rw[eq,<-F.eq];exact F.mem)
   .have:=F.chain k c;rw[<-eq]at this;exact L this
 .rw[if_neg a];refine B _ _ ⟨i,q,rfl,.inl ⟨k,?_,eq,C,r,?_⟩⟩
  .refine Nat.pos_of_ne_zero λz=>a ?_;rw[eq,z,rW,decide_eq_true rfl];rfl
  .rw[PR,P4,decide_eq_false_iff_not]at a;exact Decidable.byContradiction λz=>a (.inr z)
theorem CJ{E:List Eg}{vs:List D}{e:Eg}{x:D}{a:List Eg}{b:List D}(h:putD (E.map eD) vs (eD e) x=(a.map eD,b))(d:a=E\/a=E++[e]):e∈a:=by
 rcases d with rfl|rfl
 .unfold putD at h;split at h;.rename_i c;exact je.mp c
  .have:=congrArg (λz=>z.1.length) h;simp at this
 .simp
theorem Ah:∀(E E0:List Eg)(vs:List D),E0.length+E.length<=1000->∃(b:List Eg)(a:List D),gB (E.map λe=>.tup [eD e,.bl NM]) (E0.map eD,vs)=NF (b.map eD,a)/\∀e,e∈b↔e∈E0\/e∈E
 |[],E0,vs,_=>⟨E0,vs,rfl,λe=>by simp⟩|e::E,E0,vs,h=>by
  obtain⟨j,c,i,g⟩:=Ad E0 vs e (.bl NM);have f:=CJ i g;have d:j.length+E.length<=1000:=by
   simp only[Ol]at h;rcases g with rfl|rfl;.omega
   .simp;omega
  obtain⟨b,a,l,k⟩:=Ah E j c d;refine⟨b,a,?_,λx=>?_⟩
  .rw[Ot];unfold gB;rw[c5 (tP E0) (vH e),decide_eq_true (by have:=oW;simp only[Ol]at h;show(E0.map eD).length<NW;rw[NY];omega)];show gB _ (putD (E0.map eD) vs (eD e) (.bl NM))=_;rw[i,l]
  .rw[k x,Pe];rcases g with rfl|rfl
   .constructor
    .rintro(z|z);.exact .inl z
     .exact .inr (.inr z)
    .rintro(z|z|z);.exact .inl z
     .rw[z];exact .inl f
     .exact .inr z
   .rw[T5,Rh,or_assoc]
theorem mj.mono{E b:List Eg}(h:∀e,e∈b↔e∈E){p:Pt}{l:Int}{k:Nat}:mj b p l k↔mj E p l k:=⟨λc s a=>(h _).mp (c s a),λc s a=>(h _).mpr (c s a)⟩
theorem aR.mono{E a:List Eg}(h:∀e,e∈a↔e∈E){P:List Pt}{p q:Pt}{l:Int}{k:Nat}:aR a P p l k q↔aR E P p l k q:=⟨λf=>⟨f.pos,f.eq,(mj.mono h).mp f.chain,f.Kt,f.mem⟩,λf=>⟨f.pos,f.eq,(mj.mono h).mpr f.chain,f.Kt,f.mem⟩⟩
structure Ku(E:List Eg)(P:List Pt)(S:List (Pt×Pt)):Prop where
 len:S.length<=336
 snd:∀x∈S,x.1∈P/\∃l k,(l=0\/l=1)/\aR E P x.1 l k x.2
 all:∀p∈P,∀l,(l=0\/l=1)->∀k q,aR E P p l k q->(p,q)∈S
noncomputable def CK(S:List (Pt×Pt))(p q:Pt):List (Pt×Pt):=if q=p then S else S++[(p,q)]
theorem He{k:Nat}{b x1 a c:Option L2.W}{S:List (Pt×Pt)}{p q:Pt}(f:S.length<=400):ax (V k) eG [b,x1,a,NF (.own (.lst (S.map xm))),NF (.d (ah p)),c,NF (.d (ah q))]=.ok (.nx [b,x1,a,NF (.own (.lst ((CK S p q).map xm))),NF (.d (ah p)),c,NF (.d (ah q))]):=by
 have z:=oW;unfold eG;have t:c4 (V k) (.bC .NotEq (.var 6) (.var 4)) [b,x1,a,NF (.own (.lst (S.map xm))),NF (.d (ah p)),c,NF (.d (ah q))]=.ok (!decide (q=p)):=by
  show(cz .NotEq (ah q) (ah p)>>=cJ)=_;rw[xl];rfl
 rw[ba (ρ':=[b,x1,a,NF (.own (.lst ((CK S p q).map xm))),NF (.d (ah p)),c,NF (.d (ah q))])];.rfl
 rw[i_,t,ag];unfold CK;by_cases e:q=p
 .rw[if_pos e,decide_eq_true e];rfl
 .rw[if_neg e,decide_eq_false e,if_pos (show(!false)=NM from rfl),ba (ρ':=[b,x1,a,NF (.own (.lst ((S++[(p,q)]).map xm))),NF (.d (ah p)),c,NF (.d (ah q))])];.rfl
  .show((T.need (decide (2<=NW))>>=λ_=>T.ok (D.tup [ah p,ah q]))>>=λd=>T.need (decide ((S.map xm).length<NW))>>=λ_=>T.ok (Fl.nx [b,x1,a,NF (.own (.lst (S.map xm++[d]))),NF (.d (ah p)),c,NF (.d (ah q))]))=_;rw[G6,decide_eq_true (show(S.map xm).length<NW by rw[NY];omega),Po];rfl
inductive M5(E:List Eg)(P:List Pt)(X0 XP XE:D)(m:Nat)(ds:List D)(ρ:af)(m':Nat):Prop|mk(P':List Pt)(S:List (Pt×Pt))(o4 o5 o6:Option L2.W)(hm:m'=m)(hd:ds=P'.map ah)(hP':∀p∈P',p∈P)(eρ:ρ=[NF (L2.W.d X0),NF (L2.W.d XP),NF (L2.W.d XE),NF (L2.W.own (D.lst (S.map xm))),o4,o5,o6])(g1:S.length+2*P'.length<=336)(g2:∀x∈S,x.1∈P/\∃l k,(l=0\/l=1)/\aR E P x.1 l k x.2)(g3:∀p∈P,p∈P'\/∀l,(l=0\/l=1)->∀k q,aR E P p l k q->(p,q)∈S)
inductive MI(E:List Eg)(P P':List Pt)(p:Pt)(X0 XP XE:D)(m1:Nat)(ds:List D)(ρ:af)(m':Nat):Prop|mk(L:List Int)(S:List (Pt×Pt))(o5 o6:Option L2.W)(hm:m'=m1)(hd:ds=L.map D.int)(hL:∀l∈L,l=0\/l=1)(eρ:ρ=[NF (L2.W.d X0),NF (L2.W.d XP),NF (L2.W.d XE),NF (L2.W.own (D.lst (S.map xm))),NF (L2.W.d (ah p)),o5,o6])(k1:S.length+L.length+2*P'.length<=336)(k2:∀x∈S,x.1∈P/\∃l k,(l=0\/l=1)/\aR E P x.1 l k x.2)(k3:∀p'∈P,p'∈p::P'\/∀l,(l=0\/l=1)->∀k q,aR E P p' l k q->(p',q)∈S)(k4:∀l,(l=0\/l=1)->l∈L\/∀k q,aR E P p l k q->(p,q)∈S)
theorem mH{n m:Nat}{w h:Int}{E:List Eg}{P:List Pt}(hw:w<=7)(hh:h<=7)(hE:∀e∈E,e.ok w h)(b:E.length<=84)(hP:∀p∈P,0<=p.1/\p.1<w/\0<=p.2/\p.2<h)(a0:P.length<=168):(ao defs gv (n+2) 13 [.d (.lst (E.map eD)),.d (.lst (P.map ah))]).wp m (λd m'=>m'=m/\∃S:List (Pt×Pt),d=.lst (S.map xm)/\Ku E P S):=by
 have z:=oW;rw[aM (d:=cg) rfl rfl];unfold cg;refine eJ λQ B=>?_;subst_eqs;simp only[fk,T.a_];refine mi (λv=>∃o,v=[o]) (λd=>.tup [d,.bl NM]) ?_ ⟨NN,rfl⟩ ?_
 .rintro v⟨o,rfl⟩d hd;exact⟨_,rfl,⟨_,rfl⟩,rfl,by unfold gF;bv_omega⟩
 rw[PJ];obtain⟨C,i,d0,d2⟩:=Ah E [] [] (by simp;omega);have d3:∀e,e∈C↔e∈E:=λe=>by rw[d2 e];simp
 have V:∀e∈C,e.ok w h:=λe he=>hE e ((d3 e).mp he);show(T.get (gB (E.map λe=>.tup [eD e,.bl NM]) ([],[]))>>=λr=>T.ok (D.aH r.1 r.2)).wp m _;have d1:gB (E.map λe=>.tup [eD e,.bl NM]) ([],[])=NF (C.map eD,i):=d0;rw[d1,T.wp_bind,T.a_,T.cu];clear d0 d1 d2;refine⟨sd (by decide),?_⟩;dsimp only;generalize D.lst (E.map eD)=X0;refine eI (M5 E P X0 (D.lst (P.map ah)) (D.aH (C.map eD) i) m) ?_ ?_ ?_;rotate_left 2;.exact⟨P,[],NN,NN,NN,rfl,rfl,λ_ h=>h,rfl,by simp only[Ox];omega,(λx hx=>nomatch hx),λp y=>.inl y⟩
 .rintro d ds v m1⟨u,S,o4,H,G,rfl,hd,t,a,Z,Y,X⟩;rw[a];clear a;cases u with
  |nil=>cases hd|cons p u=>
   rw[(Qh hd).1,(Qh hd).2];clear hd;simp only[Ol]at Z;have pP:=t p NV;refine jc λQ B=>?_;unfold gE;subst_eqs;have er:bR (Int.toNat 2)=[0,1].map D.int:=rfl;refine⟨by decide,?_⟩;rw[er];clear er;refine eI (MI E P u p X0 (D.lst (P.map ah)) (D.aH (C.map eD) i) m1) ?_ ?_ ⟨[0,1],S,H,G,rfl,rfl,by simp,rfl,by simp only[Ol,Ox];omega,Y,X,λl b=>.inl (by rcases b with rfl|rfl<;>simp)⟩
   .rintro d ds v m2⟨L,S,H,G,A,hd,M,a,R,K,J,I⟩;rw[a];clear a;cases L with
    |nil=>cases hd|cons l L=>
     rw[(Qh hd).1,(Qh hd).2];clear hd;simp only[Ol]at R;have b:=M l NV;refine jc λQ B=>?_;unfold gD;subst_eqs;refine wp_call (o_ hw hh V b (hP p pP)) ?_;intro d m3 U;obtain⟨e3,q,e4,hq⟩:=U;rw[e4,He (by omega)];refine B _ _ ?_;unfold CK;by_cases e:q=p
     .rw[if_pos e];have no:∀k f,¬aR E P p l k f:=λk f F=>by
       rcases hq with⟨k0,g⟩|⟨_,z⟩;.exact g.ne b e
       .exact z k f ((aR.mono d3).mpr F)
      exact MI.mk L S _ _ (e3.trans A) rfl (λl b=>M l (NX _ b)) rfl (by omega) K J (λO s=>by
       rcases I O s with z|z
       .rcases List.mem_cons.mp z with rfl|z;.exact .inr λk f F=>absurd F (no k f)
        .exact .inl z
       .exact .inr z)
     .rw[if_neg e];obtain⟨k0,g⟩:∃k,aR E P p l k q:=by
       rcases hq with⟨k0,g⟩|⟨z,_⟩;.exact⟨k0,(aR.mono d3).mp g⟩
       .exact absurd z e
      have one:∀k f,aR E P p l k f->f=q:=λk f F=>by
       rcases Rp k k0 with c|c|c;.exact absurd (F.eq▸F.mem) (g.Kt k F.pos c)
       .rw[F.eq,g.eq,c]
       .exact absurd (g.eq▸g.mem) (F.Kt k0 g.pos c)
      refine MI.mk L (S++[(p,q)]) (NF (L2.W.d (.int l))) (NF (L2.W.d (ah q))) (e3.trans A) rfl (λl b=>M l (NX _ b)) rfl (by simp;omega) (λx hx=>?_) (λN j=>?_) (λO s=>?_)
      .rcases List.mem_append.mp hx with z|z;.exact K x z
       .rw[List.mem_singleton.mp z];exact⟨pP,l,k0,b,g⟩
      .rcases J N j with z|z;.exact .inl z
       .exact .inr λl b k q F=>OL _ (z l b k q F)
      .rcases I O s with z|z
       .rcases List.mem_cons.mp z with rfl|z;.exact .inr λk f F=>by rw[one k f F];simp
        .exact .inl z
       .exact .inr λk f F=>OL _ (z k f F)
   .rintro v m2⟨L,S,H,G,rfl,hd,M,a,R,K,J,I⟩;rw[a];clear a;have:L=[]:=by cases L with
     |nil=>rfl|cons _ _=>cases hd
    subst this;refine B _ _ (M5.mk u S _ _ _ rfl rfl (λp y=>t p (NX _ y)) rfl (by simpa using R) K λN j=>?_);rcases J N j with z|z
    .rcases List.mem_cons.mp z with rfl|z
     .exact .inr λl b k q F=>by
       rcases I l b with z|z;.cases z
       .exact z k q F
     .exact .inl z
    .exact .inr z
 .rintro v m1⟨u,S,o4,H,G,rfl,hd,t,a,Z,Y,X⟩;rw[a];clear a;unfold gC;subst_eqs;have:u=[]:=by cases u with
   |nil=>rfl|cons _ _=>cases hd
  subst this;exact B _ _ ⟨rfl,S,rfl,by simpa using Z,Y,λp y l b k q F=>by
   rcases X p y with z|z;.cases z
   .exact z l b k q F⟩
noncomputable def look:List (Pt×Int)->Pt->Int
 |[],_=>0|a::A,p=>if a.1=p then a.2 else look A p
theorem cY:∀{A:List (Pt×Int)}{p:Pt},p∈A.map (·.1)->(p,look A p)∈A
 |[],_,h=>by cases h|a::A,p,h=>by
  unfold look;by_cases e:a.1=p;.rw[if_pos e,<-e];exact NV
  .rw[if_neg e];rcases List.mem_cons.mp h with z|z;.exact absurd z.symm e
   .exact NX _ (cY z)
theorem Ai:∀{A:List (Pt×Int)}{p:Pt},p∈A.map (·.1)->aL (A.map λa=>ah a.1) (A.map λa=>.int a.2) (ah p)=NF (.int (look A p))
 |[],_,h=>by cases h|a::A,p,h=>by
  show(if dU (ah a.1) (ah p)=NM then NF (D.int a.2)else aL (A.map λa=>ah a.1) (A.map λa=>.int a.2) (ah p))=_;rw[jd];unfold look;by_cases e:a.1=p;.rw[decide_eq_true e,if_pos rfl,if_pos e]
  .rw[decide_eq_false e,if_neg (by simp),if_neg e];rcases List.mem_cons.mp h with z|z;.exact absurd z.symm e
   .exact Ai z
theorem jf{A:List (Pt×Int)}{p:Pt}(h:p∈A.map (·.1)):dM (bH A) (ah p)=.ok (.int (look A p)):=by
 show(T.need (az (A.map λa=>ah a.1) (ah p))>>=λ_=>T.get (aL (A.map λa=>ah a.1) (A.map λa=>.int a.2) (ah p)))=_;have:(A.map λa=>ah a.1)=(A.map (·.1)).map ah:=by simp
 rw[Ai h,this,c5 (md _) rfl];rfl
abbrev Cn:=Int×Int×Int
noncomputable def cD(c:Cn):D:=.tup [.int c.1,.int c.2.1,.int c.2.2]
noncomputable def bh(C:List Cn)(W:List Pt):D:=.tup [.tup (C.map cD),.tup (W.map ah)]
theorem Hg(C:List Cn):(C.map cD).all B2=NM:=by
 rw[O8];intro x hx;obtain⟨e,_,rfl⟩:=List.mem_map.mp hx;rfl
noncomputable def jY(A:List (Pt×Int))(xs a:List Int)(p:Pt):Cn:=(look A p,xs.getD p.1.toNat 0,a.getD p.2.toNat 0)
noncomputable def Aj:D->Pt
 |.tup [.int i,.int j]=>(i,j)|_=>(0,0)
noncomputable def CL:D->Pt×Pt
 |.tup [p,q]=>(Aj p,Aj q)|_=>((0,0),(0,0))
theorem vL{xs:List Int}{i:Int}(a:0<=i)(b:i<xs.length):d_ (xs.map D.int) i=NF (.int (xs.getD i.toNat 0)):=by
 refine Kr a ?_;rw[Om,PN,Oc (by omega)];rfl
theorem Ak{p:Pt}{a b:Option L2.W}{r:af}:dv (.tup 2 (.cons (.nm 0) (.cons (.nm 1) .nil))) (ah p) (a::b::r)=.ok (NF (.d (.int p.1))::NF (.d (.int p.2))::r):=rfl
theorem Hh{x:Pt×Pt}{a b:Option L2.W}{r:af}:dv (.tup 2 (.cons (.nm 0) (.cons (.nm 1) .nil))) (xm x) (a::b::r)=.ok (NF (.d (ah x.1))::NF (.d (ah x.2))::r):=rfl
theorem aR.DV{E:List Eg}{P c:List Pt}(h:∀q,q∈c↔q∈P){p q:Pt}{l:Int}{k:Nat}(f:aR E c p l k q):aR E P p l k q:=⟨f.pos,f.eq,f.chain,λs a b z=>f.Kt s a b ((h _).mpr z),(h _).mp f.mem⟩
structure Al(E:List Eg)(A:List (Pt×Int))(xs ys:List Int)(C:List Cn)(W:List Pt):Prop where
 cl:C.length<=168
 wl:W.length<=336
 cs:∀c,c∈C↔∃p∈A.map (·.1),c=jY A xs ys p
 cn:(C.map (·.1)).Nodup
 ws:∀x,x∈W↔∃p q l k,p∈A.map (·.1)/\(l=0\/l=1)/\aR E (A.map (·.1)) p l k q/\x=(look A p,look A q)
theorem Hj{n m:Nat}{w h:Int}{E:List Eg}{A:List (Pt×Int)}{xs i:List Int}(hw:w<=7)(hh:h<=7)(hE:∀e∈E,e.ok w h)(hl:E.length<=84)(hA:Num w h A)(hx:(xs.length:Int)=w)(hy:(i.length:Int)=h)(vx:∀x∈xs,0<=x/\x<=1000000)(vy:∀y∈i,0<=y/\y<=1000000):(ao defs gv (n+3) 14 [.d (.lst (E.map eD)),.d (bH A),.d (.lst (xs.map D.int)),.d (.lst (i.map D.int))]).wp m (λd m'=>m'=m/\∃(C:List Cn)(W:List Pt),d=bh C W/\Al E A xs i C W):=by
 have z:=oW;rw[aM (d:=ie) rfl rfl];unfold ie;have ks:gA (bH A)=NF ((A.map (·.1)).map ah):=by simp[gA,bH]
 have L:((A.map (·.1)).map ah).length<=1000000:=by simp;have:=hA.sz;omega
 have O:gp ((A.map (·.1)).map ah)=NM:=by unfold gp;rw[oZ];simp
 simp only[GZ,DO,DP,GY,iA,T.cu,T.wp_bind,gk,bG,L2.A.w,Ot,RJ,List.cons_append,List.nil_append,Ol,Ox,OV,RG,QZ,Ry,R5,T.a_,ag];refine bW ks L O λl' M=>?_;obtain⟨j,r,rfl⟩:=c6 M rfl;simp only[fk,T.a_];have f:∀p∈j,p∈A.map (·.1):=λp g=>r.mem_iff.mp g;refine mi (λB=>∃I H,B=[I,H,NF (.d (bH A)),NF (.d (.lst (xs.map D.int))),NF (.d (.lst (i.map D.int)))]) (λd=>cD (jY A xs i (Aj d))) ?_ ⟨NN,NN,rfl⟩ ?_
 .rintro B⟨I,H,rfl⟩d hd;obtain⟨p,g,rfl⟩:=List.mem_map.mp hd;have V:=cY (f p g);have rg:0<=p.1/\p.1<w/\0<=p.2/\p.2<h:=hA.xy _ V;refine⟨_,Ak,⟨_,_,rfl⟩,rfl,?_⟩;unfold z0;have J:=jf (f p g);have J:dM (bH A) (.tup [.int p.1,.int p.2])=.ok (.int (look A p)):=J;have R:T.get (d_ (xs.map D.int) p.1)=.ok (.int (xs.getD p.1.toNat 0)):=by rw[vL (by omega) (by rw[hx];exact rg.2.1)];rfl
  have i3:T.get (d_ (i.map D.int) p.2)=.ok (.int (i.getD p.2.toNat 0)):=by rw[vL (by omega) (by rw[hy];exact rg.2.2.2)];rfl
  bv_omega;rw[J,ag];rw[R,ag,i3];rfl
 have P:(j.map ah).map (λd=>cD (jY A xs i (Aj d)))=(j.map (jY A xs i)).map cD:=by
  rw[PJ,PJ];exact Q8 λp _=>rfl
 rw[P];have o:j.length<=168:=by rw[r.length_eq,NY];exact hA.sz
 refine bW (ds:=(j.map (jY A xs i)).map cD) rfl (by simp;omega) (by unfold gp;rw[Hg];simp) λl2 G=>?_;obtain⟨C,N,rfl⟩:=c6 G rfl;have X:∀c,c∈C↔∃p∈A.map (·.1),c=jY A xs i p:=λc=>by
  rw[N.mem_iff,List.mem_map];constructor;.rintro⟨p,g,e⟩;exact⟨p,f p g,e.symm⟩
  .rintro⟨p,g,e⟩;exact⟨p,r.mem_iff.mpr g,e.symm⟩
 have Y:(C.map (·.1)).Nodup:=by
  have p1:(C.map (·.1)).Perm ((j.map (jY A xs i)).map (·.1)):=N.map _;rw[p1.nodup_iff,PJ];have nd:j.Nodup:=r.nodup_iff.mpr hA.nd;refine(List.pairwise_map.mpr ?_);refine UU (λ{a b}ha hb U z=>U ?_) nd;exact hA.inj _ (cY (f a ha)) _ (cY (f b hb)) z
 have Z:C.length<=168:=by rw[N.length_eq,NY];exact o
 clear P G N M r f o;unfold zZ;simp only[GZ,DO,DP,GY,iA,T.cu,T.wp_bind,T.wp_at,jG,gk,List.set_cons_zero,List.set_cons_succ,Ol,Ox,RG,QZ,Ry,R5,T.a_,ag];refine bW ks L O λl' M=>?_;obtain⟨j,r,rfl⟩:=c6 M rfl;have f:∀p∈j,p∈A.map (·.1):=λp g=>r.mem_iff.mp g;have o:j.length<=168:=by rw[r.length_eq,NY];exact hA.sz
 refine wp_call (mH (w:=w) (h:=h) hw hh hE hl (λp g=>hA.xy _ (cY (f p g))) o) ?_;rintro d m1⟨rfl,S,rfl,v⟩;have K:∀x∈S,x.1∈j/\x.2∈j:=λx hx=>⟨(v.snd x hx).1,let⟨l,k,_,F⟩:=(v.snd x hx).2;F.mem⟩;simp only[fk,T.a_];refine mi (λB=>∃I H,B=[I,H,NF (.d (bH A))]) (λd=>ah (look A (CL d).1,look A (CL d).2)) ?_ ⟨NN,NN,rfl⟩ ?_
 .rintro B⟨I,H,rfl⟩d hd;obtain⟨x,hx,rfl⟩:=List.mem_map.mp hd;refine⟨_,Hh,⟨_,_,rfl⟩,rfl,?_⟩;unfold zY;have J:=jf (f x.1 (K x hx).1);have R:=jf (f x.2 (K x hx).2);bv_omega;rw[J,ag,R];rfl
 have P:(S.map xm).map (λd=>ah (look A (CL d).1,look A (CL d).2))=(S.map λx=>(look A x.1,look A x.2)).map ah:=by
  rw[PJ,PJ];exact Q8 λp _=>rfl
 rw[P];unfold zX;subst_eqs;show(T.get (items (.lst (C.map cD)))>>=λxs=>T.ok (D.tup xs)).wp _ _;rw[T.wp_bind];simp only[items,T.a_,T.cu];refine bW (ds:=(S.map λx=>(look A x.1,look A x.2)).map ah) rfl (by have:=v.len;simp;omega) (by unfold gp;rw[oZ];simp) λl3 Q=>?_;obtain⟨W,pW,rfl⟩:=c6 Q rfl;show(T.get (items (.lst (W.map ah)))>>=λxs=>T.ok (D.tup xs)).wp _ _;rw[T.wp_bind];simp only[items,T.a_,T.cu];refine⟨sd (by decide),trivial,C,W,rfl,Z,by rw[pW.length_eq,NY];exact v.len,X,Y,λx=>?_⟩;have t:∀q,q∈j↔q∈A.map (·.1):=λq=>r.mem_iff;rw[pW.mem_iff,List.mem_map];constructor
 .rintro⟨s,O,e⟩;obtain⟨h1,l,k,u,F⟩:=v.snd s O;exact⟨s.1,s.2,l,k,f _ h1,u,F.DV t,e.symm⟩
 .rintro⟨p,q,l,k,g,u,F,rfl⟩;exact⟨(p,q),v.all p ((t p).mpr g) l u k q (F.DV λq=>(t q).symm),rfl⟩
theorem ij:∀{l m:List Int},l.Nodup->(∀x∈l,x∈m)->l.length<=m.length
 |[],m,_,_=>OB _|a::l,m,nd,h=>by
  have b:=List.nodup_cons.mp nd;have ha:=h a NV;have:=ij (l:=l) (m:=m.erase a) b.2 λx hx=>(V6 (λz=>by subst z;exact b.1 hx)).mpr (h x (NX _ hx));rw[Sy ha]at this;have c:0<m.length:=Vs ha;simp only[Ol];omega
noncomputable def cw(W:List Pt)(T:Int->Prop):Prop:=∀x∈W,T x.1\/T x.2->T x.1/\T x.2
theorem CM(i:Int)(x:Pt):cz .In (.int i) (ah x)=.ok (.bl (decide (i=x.1\/i=x.2))):=by
 have e:decide (i=x.1\/i=x.2)=((x.1==i)||((x.2==i)||NP)):=by
  rw[RX,decide_eq_true_eq,Bool.or_false,PR,beq_iff_eq,beq_iff_eq];exact⟨λh=>h.elim (λz=>.inl z.symm) λz=>.inr z.symm,λh=>h.elim (λz=>.inl z.symm) λz=>.inr z.symm⟩
 rw[e];rfl
noncomputable def insI(S:List Int)(e:Int):List Int:=if e∈S then S else S++[e]
noncomputable def rX(S a:List Int)(e:Int):List Int:=if e∈S then a else a++[e]
structure Rs(W:List Pt)(B:List Int)(c:Int)(S Wt:List Int):Prop where
 nd:S.Nodup
 cS:c∈S
 sB:∀x∈S,x∈B
 mn:∀T:Int->Prop,T c->cw W T->∀x∈S,T x
 wS:∀x∈Wt,x∈S
structure Gr(S Wt:List Int)(e:Int)(S' Wt':List Int):Prop where
 s:∀x∈S,x∈S'
 e:e∈S'
 n:∀x∈S',x∈S\/x∈Wt'
 w:∀x∈Wt,x∈Wt'
 l:S'.length+Wt.length=S.length+Wt'.length
theorem Rs.ins{W:List Pt}{B:List Int}{c:Int}{S f:List Int}(h:Rs W B c S f){e:Int}(i:e∈B)(g:∀T:Int->Prop,T c->cw W T->T e):Rs W B c (insI S e) (rX S f e)/\Gr S f e (insI S e) (rX S f e):=by
 unfold insI rX;by_cases d:e∈S
 .rw[if_pos d,if_pos d];exact⟨h,λ_ z=>z,d,λ_ z=>.inl z,λ_ z=>z,rfl⟩
 .rw[if_neg d,if_neg d];refine⟨⟨?_,OL _ h.cS,λx hx=>?_,λT a b x hx=>?_,λx hx=>?_⟩,λx hx=>OL _ hx,by simp,λx hx=>?_,λx hx=>OL _ hx,by simp only[OO,Tp];omega⟩
  .rw[Rr];exact⟨h.nd,by simp,λa ha b hb z=>by rw[List.mem_singleton.mp hb]at z;exact d (z▸ha)⟩
  .rcases List.mem_append.mp hx with z|z;.exact h.sB x z
   .rw[List.mem_singleton.mp z];exact i
  .rcases List.mem_append.mp hx with z|z;.exact h.mn T a b x z
   .rw[List.mem_singleton.mp z];exact g T a b
  .rcases List.mem_append.mp hx with z|z;.exact OL _ (h.wS x z)
   .exact Oe _ z
  .rcases List.mem_append.mp hx with z|z;.exact .inl z
   .exact .inr (Oe _ z)
theorem DW{n:Nat}{a0 a1 a4 a5:Option L2.W}{S a:List Int}{e:Int}(k:S.length<=60)(j:a.length<=60):ax (V n) bS [a0,a1,NF (.own (.aA S)),NF (.own (.lst (a.map D.int))),a4,a5,NF (.d (.int e))]=.ok (.nx [a0,a1,NF (.own (.aA (insI S e))),NF (.own (.lst ((rX S a e).map D.int))),a4,a5,NF (.d (.int e))]):=by
 have z:=oW;have i:c4 (V n) (.mv 2 (.bC .NotIn (.var 6) (.var 2))) [a0,a1,NF (.own (.aA S)),NF (.own (.lst (a.map D.int))),a4,a5,NF (.d (.int e))]=.ok (!decide (e∈S)):=by
  show((T.need (decide (S.length<=300))>>=λ_=>T.ok (D.bl (!decide (e∈S))))>>=cJ)=_;rw[decide_eq_true (show S.length<=300 by omega+splitNatSub)];rfl
 show(ax (V n) (.iff (.mv 2 (.bC .NotIn (.var 6) (.var 2))) (.cons (.add 2 (.var 6)) (.cons (.app 3 (.var 6)) .nil)) .nil) _>>=_)=_;have h:∀c,ax (V n) (.iff (.mv 2 (.bC .NotIn (.var 6) (.var 2))) (.cons (.add 2 (.var 6)) (.cons (.app 3 (.var 6)) .nil)) .nil) c=(c4 (V n) (.mv 2 (.bC .NotIn (.var 6) (.var 2))) c>>=λx=>if x then ax (V n) (.cons (.add 2 (.var 6)) (.cons (.app 3 (.var 6)) .nil)) c else ax (V n) .nil c):=λc=>rfl;rw[h,i,ag];by_cases b:e∈S
 .rw[decide_eq_true b];unfold insI rX;rw[if_pos b,if_pos b];rfl
 .rw[decide_eq_false b];unfold insI rX;rw[if_neg b,if_neg b];show(((T.need (decide (S.length<=300))>>=λ_=>T.ok (Fl.nx [a0,a1,NF (.own (.aA (if e∈S then S else S++[e]))),NF (.own (.lst (a.map D.int))),a4,a5,NF (.d (.int e))]))>>=λg=>match g with|Fl.nx f=>ax (V n) (.cons (.app 3 (.var 6)) .nil) f|g=>.ok g)>>=_)=_;rw[decide_eq_true (show S.length<=300 by omega+splitNatSub),if_neg b,jI,ag,ag];show(((T.need (decide ((a.map D.int).length<NW))>>=λ_=>T.ok (Fl.nx [a0,a1,NF (.own (.aA (S++[e]))),NF (.own (.lst (a.map D.int++[.int e]))),a4,a5,NF (.d (.int e))]))>>=_)>>=_)=_;rw[decide_eq_true (show(a.map D.int).length<NW by rw[NY];omega+splitNatSub),jI,ag];rw[Po];rfl
theorem Kv{n:Nat}{W:List Pt}{B:List Int}{c a:Int}{a0 a1 a6:Option L2.W}{S i:List Int}{x:Pt}(H:B.length<=60)(AH:cw W (·∈B))(h:Rs W B c S i)(u:a∈S)(hx:x∈W)(hw:i.length<=S.length):∃(o g:List Int)(R:Option L2.W),ax (V n) dH [a0,a1,NF (.own (.aA S)),NF (.own (.lst (i.map D.int))),NF (.d (.int a)),NF (.d (ah x)),a6]=.ok (.nx [a0,a1,NF (.own (.aA o)),NF (.own (.lst (g.map D.int))),NF (.d (.int a)),NF (.d (ah x)),R])/\Rs W B c o g/\(∀y∈S,y∈o)/\(a=x.1\/a=x.2->x.1∈o/\x.2∈o)/\(∀y∈o,y∈S\/y∈g)/\(∀y∈i,y∈g)/\o.length+i.length=S.length+g.length:=by
 have F:∀a6,c4 (V n) (.bC .In (.var 4) (.var 5)) [a0,a1,NF (.own (.aA S)),NF (.own (.lst (i.map D.int))),NF (.d (.int a)),NF (.d (ah x)),a6]=.ok (decide (a=x.1\/a=x.2)):=λa6=>by
  show((cz .In (.int a) (ah x))>>=cJ)=_;rw[CM];rfl
 have E:∀ρ,ax (V n) dH ρ=((c4 (V n) (.bC .In (.var 4) (.var 5)) ρ>>=λx=>if x then ax (V n) (.cons (.eE (.nm 6) (.cO (.var 5)) bS) .nil) ρ else ax (V n) .nil ρ)>>=λC=>match C with|.nx v=>ax (V n) .nil v|C=>.ok C):=λρ=>rfl;by_cases t:a=x.1\/a=x.2
 .have b:x.1∈B/\x.2∈B:=AH x hx (t.elim (λz=>.inl (z▸h.sB _ u)) λz=>.inr (z▸h.sB _ u));have G:∀T:Int->Prop,T c->cw W T->T x.1/\T x.2:=λT p q=>q x hx (t.elim (λz=>.inl (z▸h.mn T p q _ u)) λz=>.inr (z▸h.mn T p q _ u));obtain⟨A,r⟩:=h.ins b.1 λT p q=>(G T p q).1;obtain⟨I,m⟩:=A.ins b.2 λT p q=>(G T p q).2;refine⟨_,_,NF (.d (.int x.2)),?_,I,λy hy=>m.s y (r.s y hy),λ_=>⟨m.s _ r.e,m.e⟩,λy hy=>?_,λy hy=>m.w y (r.w y hy),?_⟩
  .have M:S.length<=60:=OC (ij h.nd h.sB) H;have L:(insI S x.1).length<=60:=OC (ij A.nd A.sB) H;have U:=r.l;have Q:=DW (n:=n) (a0:=a0) (a1:=a1) (a4:=NF (.d (.int a))) (a5:=NF (.d (ah x))) (e:=x.1) M (show i.length<=60 by omega);have P:=DW (n:=n) (a0:=a0) (a1:=a1) (a4:=NF (.d (.int a))) (a5:=NF (.d (ah x))) (e:=x.2) L (show(rX S i x.1).length<=60 by omega);rw[E,F,ag,decide_eq_true t,if_pos rfl];show((eR (dv (.nm 6)) (ax (V n) bS) [.int x.1,.int x.2] _>>=_)>>=_)=_;have f:∀{d ds}{ρ k j:af},dv (.nm 6) d ρ=.ok k->ax (V n) bS k=.ok (.nx j)->eR (dv (.nm 6)) (ax (V n) bS) (d::ds) ρ=eR (dv (.nm 6)) (ax (V n) bS) ds j:=λ{d ds ρ k j}K J=>by rw[eR,K,ag,J,ag]
   have O:=f (d:=.int x.1) (ds:=[.int x.2]) (ρ:=[a0,a1,NF (.own (.aA S)),NF (.own (.lst (i.map D.int))),NF (.d (.int a)),NF (.d (ah x)),a6]) rfl Q;have N:=f (d:=.int x.2) (ds:=[]) (ρ:=[a0,a1,NF (.own (.aA (insI S x.1))),NF (.own (.lst ((rX S i x.1).map D.int))),NF (.d (.int a)),NF (.d (ah x)),NF (.d (.int x.1))]) rfl P;rw[O,N];rfl
  .rcases m.n y hy with z|z
   .rcases r.n y z with z|z;.exact .inl z
    .exact .inr (m.w y z)
   .exact .inr z
  .have:=r.l;have:=m.l;omega
 .refine⟨S,i,a6,?_,h,λ_ z=>z,λz=>absurd z t,λ_ z=>.inl z,λ_ z=>z,rfl⟩;rw[E,F,ag,decide_eq_false t];rfl
theorem jJ{g:D->af->T af}{body:af->T Fl}(I:List D->af->Prop)(step:∀d ds ρ,I (d::ds) ρ->∃b a,g d ρ=.ok b/\body b=.ok (.nx a)/\I ds a):∀{ds:List D}{ρ:af},I ds ρ->∃ρ',eR g body ds ρ=.ok (.nx ρ')/\I [] ρ'
 |[],ρ,h=>⟨ρ,rfl,h⟩|d::ds,ρ,h=>by
  obtain⟨b,a,j,i,f⟩:=step d ds ρ h;obtain⟨ρ',e,c⟩:=jJ I step f;refine⟨ρ',?_,c⟩;unfold eR;rw[j,ag,i,ag];exact e
theorem mo{c:af->T Bool}{body:af->T Fl}(I:Nat->af->Prop)(R:af->Prop)(step:∀k ρ,I k ρ->(c ρ=.ok NP/\R ρ)\/(c ρ=.ok NM/\∃a j,body ρ=.ok (.nx a)/\j<k/\I j a)):∀{n k:Nat}{ρ:af},k<n->I k ρ->∃ρ',cP c body n ρ=.ok (.nx ρ')/\R ρ'
 |0,k,_,e,_=>by omega|n+1,k,ρ,e,h=>by
  unfold cP;rcases step k ρ h with⟨d,b⟩|⟨d,a,j,b,g,f⟩
  .rw[d,ag];exact⟨ρ,rfl,b⟩
  .rw[d,ag,if_pos rfl,b,ag];exact mo I R step (by omega) f
noncomputable def st(W:List Pt)(c:Int)(S b:List Int)(o4 a o6:Option L2.W):af:=[NF (.d (.lst (W.map ah))),NF (.d (.int c)),NF (.own (.aA S)),NF (.own (.lst (b.map D.int))),o4,a,o6]
inductive M6(W:List Pt)(B:List Int)(c:Int)(k:Nat)(ρ:af):Prop|mk(S Wt Dn:List Int)(o4 o5 o6:Option L2.W)(eρ:ρ=st W c S Wt o4 o5 o6)(h:Rs W B c S Wt)(h5:∀x∈S,x∈Dn\/x∈Wt)(h7:∀x∈Dn,∀w∈W,x=w.1\/x=w.2->w.1∈S/\w.2∈S)(h8:k+S.length=60+Wt.length)(h9:Wt.length<=S.length)
inductive ND(W:List Pt)(B:List Int)(c:Int)(ρ:af):Prop|mk(S:List Int)(o4 o5 o6:Option L2.W)(eρ:ρ=st W c S [] o4 o5 o6)(h:Rs W B c S [])(hc:cw W (·∈S))
inductive M7(W:List Pt)(B:List Int)(c c0:Int)(S Wi:List Int)(ds:List D)(ρ:af):Prop|mk(W':List Pt)(S' Wt':List Int)(o5 o6:Option L2.W)(hd:ds=W'.map ah)(hW':∀x∈W',x∈W)(eρ:ρ=st W c S' Wt' (NF (.d (.int c0))) o5 o6)(q1:Rs W B c S' Wt')(q2:∀y∈S,y∈S')(q3:∀y∈S',y∈S\/y∈Wt')(q4:∀y∈Wi,y∈Wt')(q5:∀w∈W,w∈W'\/(c0=w.1\/c0=w.2->w.1∈S'/\w.2∈S'))(q6:S'.length+Wi.length=S.length+Wt'.length)
theorem tV{n:Nat}{W:List Pt}{c:Int}{B:List Int}(F:B.length<=60)(cB:c∈B)(AH:cw W (·∈B)):∃S:List Int,ao defs gv (n+1) 3 [.d (.lst (W.map ah)),.d (.int c)]=.ok (.tup ((sortI S).map D.int))/\S.Nodup/\c∈S/\cw W (·∈S)/\(∀T:Int->Prop,T c->cw W T->∀x∈S,T x)/\∀x∈S,x∈B:=by
 rw[aM (d:=jF) rfl rfl];unfold jF;have w:=mo (c:=c4 (V n) hZ) (body:=ax (V n) h_) (M6 W B c) (ND W B c) ?_ (n:=bg) (k:=60) (ρ:=st W c [c] [c] NN NN NN) (by decide) ⟨[c],[c],[],NN,NN,NN,rfl,⟨by simp,by simp,by simpa using cB,λT E _ x hx=>by rw[List.mem_singleton.mp hx];exact E,λx hx=>hx⟩,λx hx=>.inr hx,(λx hx=>nomatch hx),rfl,NZ _⟩
 .obtain⟨i,l,S,O,p,o,a,h,E⟩:=w;rw[a]at l;refine⟨S,?_,h.nd,h.cS,E,h.mn,h.sB⟩;have Z:S.length<=60:=OC (ij h.nd h.sB) F;have J:(T.need (decide (S.length<64)):T Unit)=.ok ():=by rw[decide_eq_true (show S.length<64 by omega)];rfl
  show((cP (c4 (V n) hZ) (ax (V n) h_) bg (st W c [c] [c] NN NN NN)>>=λI=>match I with|Fl.nx i=>ax (V n) l_ i|I=>.ok I)>>=AG)=_;rw[l,ag];show((((((T.need (decide (S.length<64))>>=λ_=>T.ok (D.lst ((sortI S).map D.int)))>>=_)>>=_)>>=_)>>=_)>>=_)=_;rw[J];rfl
 .rintro k ρ⟨S,Wt,P,O,p,o,a,h,H,G,h8,h9⟩;rw[a];clear a;have Z:S.length<=60:=OC (ij h.nd h.sB) F;rcases List.eq_nil_or_concat Wt with rfl|⟨e,b,rfl⟩
  .refine .inl ⟨rfl,S,O,p,o,rfl,h,λx hx hh=>?_⟩;have hd:∀y∈S,y∈P:=λy hy=>by
    rcases H y hy with z|z;.exact z
    .cases z
   rcases hh with z|z;.exact G _ (hd _ z) x hx (.inl rfl)
   .exact G _ (hd _ z) x hx (.inr rfl)
  .rw[List.length_concat]at h8 h9;rw[List.concat_eq_append]at h H⊢;have K:b∈S:=h.wS b (by simp);have f:=jJ (g:=dv (.nm 5)) (body:=ax (V n) dH) (M7 W B c b S e) ?_ (ds:=W.map ah) (ρ:=st W c S e (NF (.d (.int b))) p o) ⟨W,S,e,p,o,rfl,λ_ z=>z,rfl,⟨h.nd,h.cS,h.sB,h.mn,λx hx=>h.wS x (OL _ hx)⟩,λ_ z=>z,λ_ z=>.inl z,λ_ z=>z,λ_ z=>.inl z,rfl⟩
   .obtain⟨i,l,q,L,m,N,C,hd,j,a,A,r,v,u,t,X⟩:=f;rw[a]at l;clear a;have Y:q=[]:=by cases q with
     |nil=>rfl|cons _ _=>cases hd
    subst Y;refine .inr ⟨?_,st W c L m (NF (.d (.int b))) N C,k-1,?_,?_,M6.mk L m (b::P) _ _ _ rfl A ?_ ?_ ?_ ?_⟩
    .show T.get (BU (.lst ((e++[b]).map D.int)))=_;cases e<;>rfl
    .show(((T.get ((e++[b]).map D.int)[((e++[b]).map D.int).length-1]?>>=λd=>T.ok (Fl.nx [NF (L2.W.d (.lst (W.map ah))),NF (L2.W.d (.int c)),NF (L2.W.own (.aA S)),NF (L2.W.own (.lst ((e++[b]).map D.int).dropLast)),NF (L2.W.d d),p,o]))>>=_))=_;have e2:((e++[b]).map D.int)[((e++[b]).map D.int).length-1]?=NF (.int b):=by simp
     have J:((e++[b]).map D.int).dropLast=e.map D.int:=by simp
     rw[e2,J,get_some,ag,ag];show((eR (dv (.nm 5)) (ax (V n) dH) (W.map ah) (st W c S e (NF (.d (.int b))) p o))>>=_)=_;rw[l];rfl
    .omega
    .intro x hx;rcases v x hx with z|z
     .rcases H x z with z|z;.exact .inl (NX _ z)
      .rcases List.mem_append.mp z with z|z;.exact .inr (u x z)
       .rw[List.mem_singleton.mp z];exact .inl NV
     .exact .inr z
    .intro x hx w hw hh;rcases List.mem_cons.mp hx with rfl|z
     .rcases t w hw with y|y;.cases y
      .exact y hh
     .have:=G x z w hw hh;exact⟨r _ this.1,r _ this.2⟩
    .omega
    .omega
   .rintro d ds ρ⟨q,L,m,N,C,hd,j,a,A,r,v,u,t,X⟩;rw[a];clear a;cases q with
    |nil=>cases hd|cons x q=>
     rw[(Qh hd).1,(Qh hd).2];obtain⟨S2,W2,b6,l,U,s,R,Q,M,r6⟩:=Kv (n:=n) (a0:=NF (.d (.lst (W.map ah)))) (a1:=NF (.d (.int c))) (a6:=C) F AH A (r b K) (j x NV) (by omega);refine⟨_,_,rfl,l,M7.mk q S2 W2 _ _ rfl (λy hy=>j y (NX _ hy)) rfl U (λy hy=>s y (r y hy)) (λy hy=>?_) (λy hy=>M y (u y hy)) (λw hw=>?_) (by omega)⟩
     .rcases Q y hy with z|z
      .rcases v y z with z|z;.exact .inl z
       .exact .inr (M y z)
      .exact .inr z
     .rcases t w hw with z|z
      .rcases List.mem_cons.mp z with rfl|z;.exact .inr R
       .exact .inl z
      .exact .inr λhh=>⟨s _ (z hh).1,s _ (z hh).2⟩
theorem Kw{b:Type}(a:b)(ρ:af):(T.ok a).at' ρ=.ok a:=rfl
theorem Am{a b:Type}(x:Xc)(f:a->T b):((T.exc x:T a)>>=f)=.exc x:=rfl
theorem mq(C:List Cn)(W:List Pt):dM (bh C W) (.int 0)=.ok (.tup (C.map cD)):=rfl
theorem An(C:List Cn)(W:List Pt):dM (bh C W) (.int 1)=.ok (.tup (W.map ah)):=rfl
theorem Kx{n:Nat}{d:D}(h:d=.aU\/(∃b,d=.bl b)\/(∃s,d=.str s)\/(∃xs,d=.tup xs)\/∃xs,d=.lst xs):ao defs gv (n+1) 0 [.d d]=.ok (.bl NP):=by rcases h with rfl|⟨_,rfl⟩|⟨_,rfl⟩|⟨_,rfl⟩|⟨_,rfl⟩<;>kernel_rfl
theorem xp(n:Nat)(i:Int):ao defs gv (n+1) 0 [.d (.int i)]=.ok (.bl NM):=by kernel_rfl
noncomputable def kI(c:Cn):D:=.int c.1
noncomputable def pI(c:Cn):D:=ah c.2
noncomputable def Ky(C:List Cn):D:=.aH (C.map kI) (C.map pI)
theorem tW(C:List Cn)(i:Int):az (C.map kI) (.int i)=NM:=by
 unfold az;have:(C.map kI).all yS=NM:=by
  rw[O8];intro x hx;obtain⟨e,_,rfl⟩:=List.mem_map.mp hx;rfl
 rw[this];rfl
theorem tX(i:Int):∀(C:List Cn),bF (C.map kI) (.int i)=decide (i∈C.map (·.1))
 |[]=>rfl|c::C=>by
  show(decide (c.1=i)||bF (C.map kI) (.int i))=_;rw[tX i C,RX,PR,decide_eq_true_eq,decide_eq_true_eq,decide_eq_true_eq,Ot,Pe];exact⟨λh=>h.elim (λz=>.inl z.symm) .inr,λh=>h.elim (λz=>.inl z.symm) .inr⟩
theorem vM{n:Nat}:∀(C e:List Cn)(a b c:Option L2.W),((e++C).map (·.1)).Nodup->(e++C).length<=168->∃ρ',fL (dv (.tup 3 (.cons (.nm 0) (.cons (.nm 1) (.cons (.nm 2) .nil))))) (λρ=>(c4 (V n) .yes ρ).calm) (ra (λρ=>(aK (V n) (.var 0) ρ).calm) (λρ=>(aK (V n) (.tup (.cons (.var 1) (.cons (.var 2) .nil))) ρ).calm)) (e.map kI,e.map pI) (C.map cD) [a,b,c]=.ok (((e++C).map kI,(e++C).map pI),ρ')
 |[],e,a,b,c,_,_=>⟨[a,b,c],by rw[Pn];rfl⟩|x::C,e,a,b,c,nd,f=>by
  have z:=oW;have ha:e++x::C=(e++[x])++C:=by simp
  rw[ha]at nd f⊢;obtain⟨ρ',g⟩:=vM (n:=n) C (e++[x]) (NF (.d (.int x.1))) (NF (.d (.int x.2.1))) (NF (.d (.int x.2.2))) nd f;refine⟨ρ',?_⟩;have h:x.1∉e.map (·.1):=λhx=>by
   rw[Po,Rr]at nd;have:=nd.1;rw[Po,Rr]at this;exact this.2.2 _ hx x.1 (by simp) rfl
  have l:putD (e.map kI) (e.map pI) (.int x.1) (ah x.2)=((e++[x]).map kI,(e++[x]).map pI):=by
   unfold putD;rw[tX,decide_eq_false h,if_neg (by simp),Po,Po];rfl
  have k:(aK (V n) (.tup (.cons (.var 1) (.cons (.var 2) .nil))) [NF (.d (.int x.1)),NF (.d (.int x.2.1)),NF (.d (.int x.2.2))]).calm=.ok (ah x.2):=by
   show(T.need (decide (2<=NW))>>=λ_=>T.ok (D.tup [.int x.2.1,.int x.2.2])).calm=_;rw[G6];rfl
  have j:(T.need (az (e.map kI) (.int x.1)&&decide ((e.map kI).length<NW)):T Unit)=.ok ():=by
   rw[tW,decide_eq_true (show(e.map kI).length<NW by rw[NY];simp only[OO,Tp]at f;omega)];rfl
  have i:ra (λρ=>(aK (V n) (.var 0) ρ).calm) (λρ=>(aK (V n) (.tup (.cons (.var 1) (.cons (.var 2) .nil))) ρ).calm) (e.map kI,e.map pI) [NF (.d (.int x.1)),NF (.d (.int x.2.1)),NF (.d (.int x.2.2))]=.ok (((e++[x]).map kI,(e++[x]).map pI),[NF (.d (.int x.1)),NF (.d (.int x.2.1)),NF (.d (.int x.2.2))]):=by
   show((aK (V n) (.tup (.cons (.var 1) (.cons (.var 2) .nil))) [NF (.d (.int x.1)),NF (.d (.int x.2.1)),NF (.d (.int x.2.2))]).calm>>=λy=>T.need (az (e.map kI) (.int x.1)&&decide ((e.map kI).length<NW))>>=λ_=>T.ok (putD (e.map kI) (e.map pI) (.int x.1) y,([NF (.d (.int x.1)),NF (.d (.int x.2.1)),NF (.d (.int x.2.2))]:af)))=_;rw[k,ag,j,ag,l]
  refine Eq.trans ?_ g;rw[Ot,fL];show(ra _ _ (e.map kI,e.map pI) [NF (.d (.int x.1)),NF (.d (.int x.2.1)),NF (.d (.int x.2.2))]>>=_)=_;rw[i];rfl
theorem rY{n:Nat}{C:List Cn}{W:List Pt}(nd:(C.map (·.1)).Nodup)(b:C.length<=168):ao defs gv (n+1) 1 [.d (bh C W)]=.ok (Ky C):=by
 rw[aM (d:=vD) rfl rfl];obtain⟨a,e⟩:=vM (n:=n) C [] NN NN NN nd b;show(((fL _ _ _ ([],[]) (C.map cD) [NN,NN,NN]>>=λr=>T.ok (D.aH r.1.1 r.1.2))>>=λd=>T.ok (Fl.rt d))>>=_)>>=_=_;rw[show fL _ _ _ ([],[]) (C.map cD) [NN,NN,NN]=_ from e];rfl
noncomputable def gq:List Cn->Int->Pt
 |[],_=>(0,0)|c::C,i=>if c.1=i then c.2 else gq C i
theorem kG{i:Int}:∀{C:List Cn},i∈C.map (·.1)->aL (C.map kI) (C.map pI) (.int i)=NF (ah (gq C i))/\(i,gq C i)∈C
 |[],h=>by cases h|c::C,h=>by
  show(if decide (c.1=i)=NM then NF (ah c.2)else aL (C.map kI) (C.map pI) (.int i))=_/\_;unfold gq;by_cases e:c.1=i
  .rw[decide_eq_true e,if_pos rfl,if_pos e];refine⟨rfl,?_⟩;rw[<-e];exact NV
  .rw[decide_eq_false e,if_neg (by simp),if_neg e];rcases List.mem_cons.mp h with z|z;.exact absurd z.symm e
   .exact⟨(kG z).1,NX _ (kG z).2⟩
theorem Ao{i:Int}{C:List Cn}(h:i∈C.map (·.1)):dM (Ky C) (.int i)=.ok (ah (gq C i)):=by
 show(T.need (az (C.map kI) (.int i))>>=λ_=>T.get (aL (C.map kI) (C.map pI) (.int i)))=_;rw[tW,(kG h).1];rfl
theorem Ap(b:Bool):Gi (.bl b)=.ok b:=rfl
theorem Bo:(!false)=NM/\(!true)=NP/\(NP=NM)=False:=⟨rfl,rfl,by simp⟩
theorem Kl(n:Nat):(V n).cls 2=NF 49/\(V n).cls 3=NF 61/\(V n).how 49=NM/\(V n).how 61=NM:=⟨rfl,rfl,rfl,rfl⟩
local macro_rules|`(tactic|symm_saturate)=>`(tactic|simp only[GZ,HS,DO,DP,GY,iA,eC,cJ,ag,Am,Kw,jG,gk,Cl,Sd,bG,A.w,Ap,mq,An,Kl,DJ,AG,fk,items,Lm,Ls,OV,Ry,R5,if_true,Bo,if_false])
theorem Kz(C:List Cn)(i:Int):cz .In (.int i) (Ky C)=.ok (.bl (decide (i∈C.map (·.1)))):=by
 show(T.need (az (C.map kI) (.int i))>>=λ_=>T.ok (D.bl (bF (C.map kI) (.int i))))=_;rw[tW,tX];rfl
theorem has_int{n:Nat}{C:List Cn}{W:List Pt}(nd:(C.map (·.1)).Nodup)(a:C.length<=168)(i:Int):ao defs gv (n+2) 2 [.d (bh C W),.d (.int i)]=.ok (.bl (decide (i∈C.map (·.1)))):=by
 rw[aM (d:=cf) rfl rfl];unfold cf;symm_saturate;rw[xp,rY nd a];symm_saturate;rw[Kz];symm_saturate
theorem Hk{n:Nat}{cy d:D}(h:ao defs gv (n+1) 0 [.d d]=.ok (.bl NP)):ao defs gv (n+2) 2 [.d cy,.d d]=.ok (.bl NP):=by
 rw[aM (d:=cf) rfl rfl];unfold cf;symm_saturate;rw[h];symm_saturate
theorem CN{n:Nat}{cy d a:D}(h:ao defs gv n 2 [.d cy,.d d]=.ok (.bl NP)):∃ρ,ao defs gv (n+1) 4 [.d cy,.d d,.d a]=.exc ⟨.exc 49 [],ρ⟩:=by
 rw[aM (d:=aF) rfl rfl];unfold aF;symm_saturate;rw[h];symm_saturate;exact⟨_,rfl⟩
theorem KC(n:Nat):(V n).ku 0=NF (.tup [.str "x",.str "y"]):=rfl
theorem vN{n:Nat}{cy d a:D}{b:Bool}(h:ao defs gv n 2 [.d cy,.d d]=.ok (.bl NM))(ha:gW a [.str "x",.str "y"]=NF b):∃ρ,ao defs gv (n+1) 4 [.d cy,.d d,.d a]=if b then .ok .aU else .exc ⟨.exc 61 [],ρ⟩:=by
 rw[aM (d:=aF) rfl rfl];unfold aF;symm_saturate;rw[h];symm_saturate;unfold bV;symm_saturate;rw[KC,get_some,ag,rR,ha];cases b with
 |true=>exact⟨[],rfl⟩|false=>exact⟨_,rfl⟩
noncomputable def KD(l:Int)(p:Pt):Int:=if l=0 then p.1 else p.2
noncomputable def nM(l:Int):D:=if l=0 then .str "x"else .str "y"
noncomputable def xq(C:List Cn)(l:Int)(x:Pt):Bool:=decide (KD l (gq C x.1)=KD l (gq C x.2))
theorem vO{l:Int}(a:l=0\/l=1)(p:Pt):dM (ah p) (.int l)=.ok (.int (KD l p)):=by rcases a with rfl|rfl<;>rfl
theorem Hl{l:Int}(a:l=0\/l=1):Cc (.tup [.str "x",.str "y"]) [nM l]=.ok (.int l):=by rcases a with rfl|rfl<;>rfl
theorem xr{n:Nat}{C:List Cn}{W:List Pt}{l:Int}(hx:l=0\/l=1)(nd:(C.map (·.1)).Nodup)(g:C.length<=168)(f:∀x∈W,x.1∈C.map (·.1)/\x.2∈C.map (·.1)):ao defs gv (n+2) 5 [.d (bh C W),.d (nM l)]=.ok (.lst ((W.filter (xq C l)).map ah)):=by
 rw[aM (d:=dI) rfl rfl];unfold dI;symm_saturate;rw[rY nd g];symm_saturate;unfold ft;symm_saturate;rw[KC,get_some,ag];have i:(T.need (j6 (.tup [.str "x",.str "y"])):T Unit)=.ok ():=rfl;rw[i,ag,Hl hx];symm_saturate;have h:dZ (dv (.tup 2 (.cons (.nm 0) (.cons (.nm 1) .nil)))) (λa=>(c4 (V (n+1)) c_ a).calm) (λa=>(aK (V (n+1)) dg a).calm) (W.map ah) (gV [NF (L2.W.d (bh C W)),NF (L2.W.d (nM l)),NF (L2.W.d (Ky C)),NF (L2.W.d (.int l))] 2 [2,3])=.ok ((W.filter (xq C l)).map ah):=by
  refine(fU (c:=λd=>xq C l (Aj d)) (e:=λd=>d) (λa=>∃o b,a=[o,b,NF (.d (Ky C)),NF (.d (.int l))]) ?_ ⟨NN,NN,rfl⟩).trans ?_;rotate_left
  .rw[List.map_id',List.filter_map];rfl
  .rintro a⟨o,b,rfl⟩d hd;obtain⟨y,hy,rfl⟩:=List.mem_map.mp hd;refine⟨_,Ak,⟨_,_,rfl⟩,?_,λ_=>?_⟩
   .unfold c_;symm_saturate;rw[Ao (f y hy).1,ag,vO hx,ag,Ao (f y hy).2,ag,vO hx,ag,oY];exact congrArg T.ok (by unfold xq;rw[RX,beq_iff_eq,decide_eq_true_eq];rfl)
   .unfold dg;symm_saturate;rfl
 rw[h];symm_saturate
theorem vP{n:Nat}{cy d a:D}{x:Xc}(h:ao defs gv n 4 [.d cy,.d d,.d a]=.exc x):∃ρ,ao defs gv (n+1) 6 [.d cy,.d d,.d a]=.exc ⟨x.x,ρ⟩:=by
 rw[aM (d:=rO) rfl rfl];unfold rO;symm_saturate;rw[h];exact⟨_,rfl⟩
theorem Hm{n:Nat}{C:List Cn}{W:List Pt}{l c:Int}{B:List Int}(hx:l=0\/l=1)(nd:(C.map (·.1)).Nodup)(f:C.length<=168)(i:∀x∈W,x.1∈C.map (·.1)/\x.2∈C.map (·.1))(g:c∈C.map (·.1))(j:B.length<=60)(m:c∈B)(AH:cw (W.filter (xq C l)) (·∈B)):∃S:List Int,ao defs gv (n+4) 6 [.d (bh C W),.d (.int c),.d (nM l)]=.ok (.tup ((sortI S).map D.int))/\S.Nodup/\c∈S/\cw (W.filter (xq C l)) (·∈S)/\(∀T:Int->Prop,T c->cw (W.filter (xq C l)) T->∀x∈S,T x)/\∀x∈S,x∈B:=by
 obtain⟨S,e,h⟩:=tV (n:=n+2) j m AH;refine⟨S,?_,h⟩;obtain⟨o,k⟩:=vN (n:=n+2) (cy:=bh C W) (d:=.int c) (a:=nM l) (b:=NM) (by rw[has_int nd f,decide_eq_true g]) (by rcases hx with rfl|rfl<;>rfl);rw[aM (d:=rO) rfl rfl];unfold rO;symm_saturate;rw[k];symm_saturate;unfold zW;symm_saturate;rw[xr hx nd f i];symm_saturate;rw[e];symm_saturate
noncomputable def pos(p:Pt)(l t:Int):Pt:=(p.1+t*l,p.2+t*(1-l))
noncomputable def ed(p:Pt)(l t:Int):Eg:=⟨(pos p l t).1,(pos p l t).2,l⟩
noncomputable def On(E:List Eg)(p:Pt)(l t:Int):Prop:=∀s,(0<=s/\s<t)\/(t<=s/\s<0)->ed p l s∈E
theorem KE(a b:Eg):bZ 50 (eD a) (eD b)=NF (dU (eD a) (eD b)):=by
 have d:=rV 47 (a.i,a.j) (b.i,b.j);have c:=rV 47 (a.i+a.l,a.j+1-a.l) (b.i+b.l,b.j+1-b.l);show(match bZ 49 (ah (a.i,a.j)) (ah (b.i,b.j)),(match bZ 49 (ah (a.i+a.l,a.j+1-a.l)) (ah (b.i+b.l,b.j+1-b.l)),NF NM with|some a,NF b=>NF (a&&b)|_,_=>NN)with|some a,NF b=>NF (a&&b)|_,_=>NN).map (λb=>b&&NM)=NF ((dU (ah (a.i,a.j)) (ah (b.i,b.j))&&(dU (ah (a.i+a.l,a.j+1-a.l)) (ah (b.i+b.l,b.j+1-b.l))&&NM)));rw[d,c,jd,jd];show NF ((_&&(_&&NM))&&NM)=_;rw[Ws]
theorem KG(e:Eg):∀(E:List Eg),gW (eD e) (E.map eD)=NF (bF (E.map eD) (eD e))
 |[]=>rfl|a::E=>by
  rw[Ot];unfold gW;rw[KE,KG e E];rfl
theorem Aq(e:Eg)(E:List Eg):cz .In (eD e) (.lst (E.map eD))=.ok (.bl (bF (E.map eD) (eD e))):=by rw[tS,KG];rfl
theorem tY(q:Pt)(A:List (Pt×Int)):cz .In (ah q) (bH A)=.ok (.bl (decide (q∈A.map (·.1)))):=by
 show(T.need (az (A.map λa=>ah a.1) (ah q))>>=λ_=>T.ok (D.bl (bF (A.map λa=>ah a.1) (ah q))))=_;have:(A.map λa=>ah a.1)=(A.map (·.1)).map ah:=by simp
 rw[this,c5 (md _) rfl,tQ];rfl
theorem Ar(op:RR)(a b:Pt):gX op aJ (ah a) (ah b)=if a.1=b.1 then(if a.2=b.2 then NF (n_ op 0 0)else NF (n_ op a.2 b.2))else NF (n_ op a.1 b.1):=by
 show(match NF (a.1==b.1)with|some NM=>(match NF (a.2==b.2)with|some NM=>NF (n_ op 0 0)|some NP=>NF (n_ op a.2 b.2)|none=>NN)|some NP=>NF (n_ op a.1 b.1)|none=>NN)=_;by_cases d:a.1=b.1
 .rw[if_pos d,beq_iff_eq.mpr d];by_cases c:a.2=b.2;.rw[if_pos c,beq_iff_eq.mpr c]
  .rw[if_neg c,beq_eq_false_iff_ne.mpr c]
 .rw[if_neg d,beq_eq_false_iff_ne.mpr d]
theorem DX{op:RR}{a b:Pt}{c:Bool}(h:gX op aJ (ah b) (ah a)=NF c):bestOf op [ah a,ah b]=NF (ah (if c then b else a)):=by
 show(match gX op aJ (ah b) (ah a)with|some NM=>NF (ah b)|some NP=>NF (ah a)|none=>NN)=_;rw[h];cases c<;>rfl
noncomputable def j9(q:Pt)(l a:Int):Pt:=(q.1+a*l,q.2+a*(1-l))
noncomputable def eg(q:Pt)(l a:Int):Eg:=if a=1 then⟨q.1,q.2,l⟩else⟨q.1-l,q.2-(1-l),l⟩
theorem KH{q:Pt}{l a:Int}(b:l=0\/l=1)(c:a=1\/a=-1):vk .min [ah q,ah (j9 q l a)]=.ok (pt (eg q l a).i (eg q l a).j)/\vk .max [ah q,ah (j9 q l a)]=.ok (pt ((eg q l a).i+(eg q l a).l) ((eg q l a).j+1-(eg q l a).l)):=by
 have e:vk .min [ah q,ah (j9 q l a)]=T.get (bestOf .Lt [ah q,ah (j9 q l a)]):=rfl;have d:vk .max [ah q,ah (j9 q l a)]=T.get (bestOf .Gt [ah q,ah (j9 q l a)]):=rfl;have g:gX .Lt aJ (ah (j9 q l a)) (ah q)=NF (decide (a=-1)):=by
  rw[Ar];show(if q.1+a*l=q.1 then(if q.2+a*(1-l)=q.2 then NF NP else NF (decide (q.2+a*(1-l)<q.2)))else NF (decide (q.1+a*l<q.1)))=_;rcases b with rfl|rfl
  .rw[if_pos (by omega),if_neg (by omega)];exact congrArg NF (decide_eq_decide.mpr (by omega))
  .rw[if_neg (by omega)];exact congrArg NF (decide_eq_decide.mpr (by omega))
 have f:gX .Gt aJ (ah (j9 q l a)) (ah q)=NF (decide (a=1)):=by
  rw[Ar];show(if q.1+a*l=q.1 then(if q.2+a*(1-l)=q.2 then NF NP else NF (decide (q.2<q.2+a*(1-l))))else NF (decide (q.1<q.1+a*l)))=_;rcases b with rfl|rfl
  .rw[if_pos (by omega),if_neg (by omega)];exact congrArg NF (decide_eq_decide.mpr (by omega))
  .rw[if_neg (by omega)];exact congrArg NF (decide_eq_decide.mpr (by omega))
 rw[e,d,DX g,DX f];rcases c with rfl|rfl
 .refine⟨rfl,?_⟩;show T.ok (ah (j9 q l 1))=.ok (ah (q.1+l,q.2+1-l));unfold j9;rw[Xl,Xl,Int.add_sub_assoc]
 .constructor
  .show T.ok (ah (j9 q l (-1)))=.ok (ah (q.1-l,q.2-(1-l)));unfold j9;rw[show q.1+-1*l=q.1-l by omega,show q.2+-1*(1-l)=q.2-(1-l)by omega]
  .show T.ok (ah q)=.ok (ah (q.1-l+l,q.2-(1-l)+1-l));rw[show q.1-l+l=q.1 by omega,show q.2-(1-l)+1-l=q.2 by omega]
noncomputable def pd(E:List Eg)(A:List (Pt×Int))(p:Pt)(l:Int)(F:List Int)(b:Int)(a:D)(o8 o9:Option L2.W):af:=[NF (.d (.lst (E.map eD))),NF (.d (bH A)),NF (.d (ah p)),NF (.d (nM l)),NF (.d (.int l)),NF (.own (.lst (F.map D.int))),NF (.d (.int b)),NF (.d a),o8,o9]
noncomputable def mJ(A:List (Pt×Int))(F:List Int)(q:Pt):List Int:=if q∈A.map (·.1)then F++[look A q]else F
theorem Hn{n:Nat}{E:List Eg}{A:List (Pt×Int)}{p q:Pt}{l a:Int}{F:List Int}{o8 o9:Option L2.W}(j:l=0\/l=1)(c:a=1\/a=-1)(m:F.length<=1000):ax (V n) jD (pd E A p l F a (ah q) o8 o9)=.ok (.nx (pd E A p l (mJ A F q) a (if bF (E.map eD) (eD (eg q l a))then ah (j9 q l a)else .aU) (NF (.d (ah (j9 q l a)))) (NF (.d (eD (eg q l a)))))):=by
 have z:=oW;have g:ax (V n) (.iff (.bC .In (.var 7) (.var 1)) (.cons (.app 5 (.idx (.var 1) (.var 7))) .nil) .nil) (pd E A p l F a (ah q) o8 o9)=.ok (.nx (pd E A p l (mJ A F q) a (ah q) o8 o9)):=by
  unfold pd;symm_saturate;rw[tY];unfold mJ;by_cases h:q∈A.map (·.1)
  .rw[decide_eq_true h,if_pos h];simp only[gm,lS,Ls,Cl];symm_saturate;rw[jf h];symm_saturate;rw[decide_eq_true (show(F.map D.int).length<NW by rw[NY];omega),jI,ag,Po];rfl
  .rw[decide_eq_false h,if_neg h];rfl
 have i:(T.need (c8 a||c8 l):T Unit)=.ok ():=by rcases c with rfl|rfl<;>rfl
 have b:(T.need (c8 a||c8 (1-l)):T Unit)=.ok ():=by rcases c with rfl|rfl<;>rfl
 unfold jD;rw[ba g];generalize mJ A F q=k;unfold pd;have e:=KH (q:=q) j c;have f:aK (V n) (.tup (.cons (.op .Add (.idx (.var 7) (.cst (.int 0))) (.op .Mult (.var 6) (.var 4))) (.cons (.op .Add (.idx (.var 7) (.cst (.int 1))) (.op .Mult (.var 6) (.op .Sub (.cst (.int 1)) (.var 4)))) .nil))) [NF (.d (.lst (E.map eD))),NF (.d (bH A)),NF (.d (ah p)),NF (.d (nM l)),NF (.d (.int l)),NF (.own (.lst (k.map D.int))),NF (.d (.int a)),NF (.d (ah q)),o8,o9]=.ok (ah (j9 q l a)):=by
  symm_saturate;simp only[CH,CI,ag,Cb,eC];rw[i,b];symm_saturate;rfl
 rw[fg f,fg (d:=eD (eg q l a))]
 .rw[fg (d:=if bF (E.map eD) (eD (eg q l a))then ah (j9 q l a)else .aU)];.rfl
  .symm_saturate;rw[Aq];cases bF (E.map eD) (eD (eg q l a))<;>rfl
 .symm_saturate;rw[e.1,e.2];symm_saturate;rfl
theorem ints_map:∀(F:List Int),jS (F.map D.int)=NF F
 |[]=>rfl|x::F=>by
  show(jS (F.map D.int)).map (x::·)=_;rw[ints_map F];rfl
theorem CO{p:Pt}{l a:Int}(c:l=0\/l=1)(b:a=1\/a=-1)(j:Nat):j9 (pos p l (a*j)) l a=pos p l (a*(j+1:Nat)):=by
 unfold j9 pos;rcases c with rfl|rfl<;>rcases b with rfl|rfl<;>simp only[Rw]<;>omega
theorem kH{E:List Eg}{p:Pt}{l c:Int}(d:c=1\/c=-1){a b:Nat}(e:a<=b)(h:On E p l (c*b)):On E p l (c*a):=λs z=>h s (by
 rcases d with rfl|rfl;.omega
 .omega)
theorem CP{E:List Eg}{p:Pt}{l a:Int}(f:l=0\/l=1)(g:a=1\/a=-1)(j:Nat):On E p l (a*(j+1:Nat))↔On E p l (a*j)/\eg (pos p l (a*j)) l a∈E:=by
 rcases g with rfl|rfl
 .have e:eg (pos p l (1*j)) l 1=ed p l j:=by rw[Xl];rfl
  rw[e];constructor;.exactλh=>⟨kH (.inl rfl) (QQ j) h,h _ (by omega)⟩
  .rintro⟨d,b⟩s z;by_cases c:s=j;.rw[c];exact b
   .exact d s (by omega)
 .have e:eg (pos p l (-1*j)) l (-1)=ed p l (-1*(j+1:Nat)):=by
   refine DR ?_ ?_ rfl
   .show p.1+-1*(j:Int)*l-l=p.1+-1*((j+1:Nat):Int)*l;rcases f with rfl|rfl<;>omega
   .show p.2+-1*(j:Int)*(1-l)-(1-l)=p.2+-1*((j+1:Nat):Int)*(1-l);rcases f with rfl|rfl<;>omega
  rw[e];constructor;.exactλh=>⟨kH (.inr rfl) (QQ j) h,h _ (by omega)⟩
  .rintro⟨d,b⟩s z;by_cases c:s=-1*(j+1:Nat);.rw[c];exact b
   .exact d s (by omega)
noncomputable def DY(E:List Eg)(A:List (Pt×Int))(p:Pt)(l t v:Int):Prop:=On E p l t/\pos p l t∈A.map (·.1)/\v=look A (pos p l t)
theorem As{A:List (Pt×Int)}{F:List Int}{q:Pt}{v:Int}:v∈mJ A F q↔v∈F\/(q∈A.map (·.1)/\v=look A q):=by
 unfold mJ;by_cases h:q∈A.map (·.1)
 .rw[if_pos h,T5,Rh];exact⟨λz=>z.imp id λz=>⟨h,z⟩,λz=>z.imp id (·.2)⟩
 .rw[if_neg h];exact⟨.inl,λz=>z.elim id λz=>absurd z.1 h⟩
theorem Au(A:List (Pt×Int))(F:List Int)(q:Pt):(mJ A F q).length<=F.length+1:=by
 unfold mJ;split;.simp
 .omega
theorem CQ{w h:Int}{E:List Eg}(hE:∀e∈E,e.ok w h){q:Pt}{l a:Int}(f:l=0\/l=1)(b:a=1\/a=-1)(c:eg q l a∈E)(d:0<=q.1/\q.1<w/\0<=q.2/\q.2<h):0<=(j9 q l a).1/\(j9 q l a).1<w/\0<=(j9 q l a).2/\(j9 q l a).2<h:=by
 have o:=hE _ c;have i0:=o.i0;have j0:=o.j0;have iw:=o.iw;have jh:=o.jh;unfold j9;rcases b with rfl|rfl
 .have i0:0<=q.1:=i0;have j0:0<=q.2:=j0;have iw:q.1+l<w:=iw;have jh:q.2+1-l<h:=jh;show 0<=q.1+1*l/\q.1+1*l<w/\0<=q.2+1*(1-l)/\q.2+1*(1-l)<h;omega+splitNatSub
 .have i0:0<=q.1-l:=i0;have j0:0<=q.2-(1-l):=j0;show 0<=q.1+-1*l/\q.1+-1*l<w/\0<=q.2+-1*(1-l)/\q.2+-1*(1-l)<h;omega+splitNatSub
theorem DZ{n:Nat}{w h:Int}{E:List Eg}{A:List (Pt×Int)}{p:Pt}{l a:Int}{F0:List Int}{o8 o9:Option L2.W}(hw:w<=7)(hh:h<=7)(hE:∀e∈E,e.ok w h)(o:l=0\/l=1)(f:a=1\/a=-1)(H:0<=p.1/\p.1<w/\0<=p.2/\p.2<h)(L:F0.length<=20):∃(F:List Int)(x u:Option L2.W),cP (c4 (V n) oQ) (ax (V n) jD) bg (pd E A p l F0 a (ah p) o8 o9)=.ok (.nx (pd E A p l F a .aU x u))/\F.length<=F0.length+20/\∀v,v∈F↔v∈F0\/∃j:Nat,DY E A p l (a*j) v:=by
 have G:=mo (c:=c4 (V n) oQ) (body:=ax (V n) jD) (λk ρ=>∃(F:List Int)(o8 o9:Option L2.W),F.length<=F0.length+20/\((ρ=pd E A p l F a .aU o8 o9/\∀v,v∈F↔v∈F0\/∃j:Nat,DY E A p l (a*j) v)\/∃(j:Nat)(q:Pt),q=pos p l (a*j)/\ρ=pd E A p l F a (ah q) o8 o9/\On E p l (a*j)/\k+j=20/\F.length<=F0.length+j/\(0<=q.1/\q.1<w/\0<=q.2/\q.2<h)/\∀v,v∈F↔v∈F0\/∃i:Nat,i<j/\DY E A p l (a*i) v)) (λρ=>∃(F:List Int)(o8 o9:Option L2.W),F.length<=F0.length+20/\ρ=pd E A p l F a .aU o8 o9/\∀v,v∈F↔v∈F0\/∃j:Nat,DY E A p l (a*j) v) ?_ (n:=bg) (k:=20) (ρ:=pd E A p l F0 a (ah p) o8 o9) (by decide) ⟨F0,o8,o9,by omega,.inr ⟨0,p,by simp[pos],rfl,λs z=>by simp at z;omega,rfl,by omega,H,λv=>⟨.inl,λz=>z.elim id λ⟨i,g,_⟩=>absurd g (Qt i)⟩⟩⟩
 .obtain⟨B,e,F,t,r,y,rfl,m⟩:=G;exact⟨F,t,r,e,y,m⟩
 .rintro k ρ⟨F,t,r,y,⟨rfl,m⟩|⟨j,q,b,rfl,m,N,M,J,I⟩⟩;.exact .inl ⟨rfl,F,t,r,y,rfl,m⟩
  .have K:j<=14:=by
    have P:q.1=p.1+a*j*l:=by rw[b];rfl
    have O:q.2=p.2+a*j*(1-l):=by rw[b];rfl
    rcases o with rfl|rfl<;>rcases f with rfl|rfl<;>omega
   have e:=Hn (n:=n) (E:=E) (A:=A) (p:=p) (q:=q) (F:=F) (o8:=t) (o9:=r) o f (by omega);have sc:=CP (E:=E) (p:=p) o f j;have ln:=Au A F q;have mem:∀v,v∈mJ A F q↔v∈F0\/∃i:Nat,i<j+1/\DY E A p l (a*i) v:=λv=>by
    rw[As,I v];constructor
    .rintro((z|⟨i,g,z⟩)|⟨D,C⟩);.exact .inl z
     .exact .inr ⟨i,by omega,z⟩
     .exact .inr ⟨j,by omega,m,b▸D,b▸C⟩
    .rintro(z|⟨i,g,z⟩);.exact .inl (.inl z)
     .rcases Nat.lt_succ_iff_lt_or_eq.mp g with c|rfl;.exact .inl (.inr ⟨i,c,z⟩)
      .exact .inr ⟨b▸z.2.1,b▸z.2.2⟩
   refine .inr ⟨rfl,_,k-1,e,by omega,mJ A F q,NF (.d (ah (j9 q l a))),NF (.d (eD (eg q l a))),by omega,?_⟩;by_cases c:eg q l a∈E
   .rw[if_pos (je.mpr c)];exact .inr ⟨j+1,j9 q l a,by rw[b];exact CO o f j,rfl,sc.mpr ⟨m,b▸c⟩,by omega,by omega,CQ hE o f c J,mem⟩
   .rw[if_neg (λz=>c (je.mp z))];refine .inl ⟨rfl,λv=>(mem v).trans ⟨λz=>z.imp id λ⟨i,_,z⟩=>⟨i,z⟩,λz=>z.imp id λ⟨i,z⟩=>⟨i,?_,z⟩⟩⟩;refine Nat.lt_of_not_le λg=>c ?_;have:=(sc.mp (kH f g z.1)).2;rw[<-b]at this;exact this
theorem CS{n:Nat}{w h:Int}{E:List Eg}{A:List (Pt×Int)}{p:Pt}{l:Int}(hw:w<=7)(hh:h<=7)(hE:∀e∈E,e.ok w h)(y:l=0\/l=1)(C:0<=p.1/\p.1<w/\0<=p.2/\p.2<h):∃F:List Int,ao defs gv (n+1) 16 [.d (.lst (E.map eD)),.d (bH A),.d (ah p),.d (nM l)]=.ok (.tup ((sortI (bM F)).map D.int))/\F.length<=60/\∀v,v∈F↔∃t,DY E A p l t v:=by
 obtain⟨s,H,G,S,B,N⟩:=DZ (n:=n) (A:=A) (F0:=[]) (o8:=NN) (o9:=NN) hw hh hE y (.inl rfl) C (by simp);obtain⟨F,Y,X,R,Z,M⟩:=DZ (n:=n) (A:=A) (F0:=s) (o8:=H) (o9:=G) hw hh hE y (.inr rfl) C (by simpa using B);have B:s.length<=20:=by simpa using B
 refine⟨F,?_,by omega,λv=>?_⟩
 .rw[aM (d:=ig) rfl rfl];unfold ig;have U:aK (V n) (.bi .int (.cons (.cmp .Eq (.var 3) (.cst (.str "y"))) .nil)) (bG 10 [.d (.lst (E.map eD)),.d (bH A),.d (ah p),.d (nM l)])=.ok (.int l):=by rcases y with rfl|rfl<;>rfl
  rw[fg U,ba (ρ':=[NF (.d (.lst (E.map eD))),NF (.d (bH A)),NF (.d (ah p)),NF (.d (nM l)),NF (.d (.int l)),NF (.own (.lst [])),NN,NN,NN,NN]) (by symm_saturate)];have f:∀{d ds}{ρ m k:af},dv (.nm 6) d ρ=.ok m->ax (V n) jE m=.ok (.nx k)->eR (dv (.nm 6)) (ax (V n) jE) (d::ds) ρ=eR (dv (.nm 6)) (ax (V n) jE) ds k:=λ{d ds ρ m k}L K=>by rw[eR,L,ag,K,ag]
  have b:∀{F u:List Int}{r:Int}{o o8 o9 g a:Option L2.W},cP (c4 (V n) oQ) (ax (V n) jD) bg (pd E A p l F r (ah p) o8 o9)=.ok (.nx (pd E A p l u r .aU g a))->ax (V n) jE [NF (.d (.lst (E.map eD))),NF (.d (bH A)),NF (.d (ah p)),NF (.d (nM l)),NF (.d (.int l)),NF (.own (.lst (F.map D.int))),NF (.d (.int r)),o,o8,o9]=.ok (.nx (pd E A p l u r .aU g a)):=λ{F u r o o8 o9 g a}q=>by
   unfold jE;rw[fg (d:=ah p) rfl,ba (ρ':=pd E A p l u r .aU g a) (by rw[vG];exact q)];rfl
  have Q:=f (d:=.int 1) (ds:=[.int (-1)]) (ρ:=[NF (.d (.lst (E.map eD))),NF (.d (bH A)),NF (.d (ah p)),NF (.d (nM l)),NF (.d (.int l)),NF (.own (.lst [])),NN,NN,NN,NN]) rfl (b (F:=[]) S);have P:=f (d:=.int (-1)) (ds:=[]) (ρ:=pd E A p l s 1 .aU H G) rfl (b (F:=s) R);rw[ba (ρ':=pd E A p l F (-1) .aU Y X)]
  .unfold z4 pd;have O:(bM F).length<64:=by
    have:=ij (eQ F) λx hx=>bU.mp hx;omega
   have J:vk .set [.lst (F.map D.int)]=.ok (.aA (bM F)):=by
    show(T.get (jS (F.map D.int))>>=λns=>T.need (decide (ns.length<=300))>>=λ_=>T.ok (D.aA (bM ns)))=_;rw[ints_map,get_some,ag,decide_eq_true (show F.length<=300 by omega)];rfl
   have I:vk .sorted [.aA (bM F)]=.ok (.lst ((sortI (bM F)).map D.int)):=by
    show(T.need (decide ((bM F).length<64))>>=λ_=>T.ok (D.lst ((sortI (bM F)).map D.int)))=_;rw[decide_eq_true O];rfl
   symm_saturate;simp only[pq,Ls];symm_saturate;rw[J];symm_saturate;rw[I];rfl
  .have i:r8 (V n) (.cO (.tup (.cons (.cst (.int 1)) (.cons (.neg (.cst (.int 1))) .nil)))) [NF (.d (.lst (E.map eD))),NF (.d (bH A)),NF (.d (ah p)),NF (.d (nM l)),NF (.d (.int l)),NF (.own (.lst [])),NN,NN,NN,NN]=.ok [.int 1,.int (-1)]:=by symm_saturate
   rw[ja,i,ag,Q,P];rfl
 .rw[M,N];constructor
  .rintro((z|⟨j,z⟩)|⟨j,z⟩);.cases z
   .exact⟨_,z⟩
   .exact⟨_,z⟩
  .rintro⟨t,z⟩;rcases Int.le_total 0 t with c|c;.exact .inl (.inr ⟨t.toNat,by rw[show(1:Int)*t.toNat=t by omega];exact z⟩)
   .exact .inr ⟨(-t).toNat,by rw[show(-1:Int)*(-t).toNat=t by omega];exact z⟩
theorem D1{a b:Cn}:∀{C:List Cn},(C.map (·.1)).Nodup->a∈C->b∈C->a.1=b.1->a=b
 |[],_,h,_,_=>by cases h|c::C,nd,ha,hb,e=>by
  rw[Ot,List.nodup_cons]at nd;rcases List.mem_cons.mp ha with rfl|d
  .rcases List.mem_cons.mp hb with rfl|hb;.rfl
   .exact absurd (List.mem_map.mpr ⟨b,hb,e.symm⟩) nd.1
  .rcases List.mem_cons.mp hb with rfl|f;.exact absurd (List.mem_map.mpr ⟨a,d,e⟩:b.1∈C.map (·.1)) nd.1
   .exact D1 nd.2 d f e
theorem ki:∀{l m:List Int},l.Nodup->m.Nodup->(∀x,x∈l↔x∈m)->l.Perm m
 |[],m,_,_,h=>by cases m with
  |nil=>exact .nil|cons a m=>exact absurd ((h a).mpr NV) (by simp)
 |a::l,m,nd,nm,h=>by
  have ha:=(h a).mp NV;have b:=List.nodup_cons.mp nd;have:=ki (l:=l) (m:=m.erase a) b.2 (nm.erase a) λx=>by
   rw[nm.mem_erase_iff,<-h x,Pe];exact⟨λz=>⟨λe=>b.1 (e▸z),.inr z⟩,λz=>z.2.elim (λe=>absurd e z.1) id⟩
  exact(this.cons a).trans (List.perm_cons_erase ha).symm
theorem rise{xs:List Int}(h:xs.Pairwise (·<·)){i j:Int}(c:0<=i)(b:i<j)(a:j<xs.length):xs.getD i.toNat 0<xs.getD j.toNat 0:=by
 rw[PN,PN,Oc (by omega),Oc (by omega)];exact List.pairwise_iff_getElem.mp h _ _ _ _ (by omega)
structure Dr(w h:Int)(E:List Eg)(A:List (Pt×Int))(xs ys:List Int)(C:List Cn)(W:List Pt):Prop where
 hw:w<=7
 hh:h<=7
 hE:∀e∈E,e.ok w h
 hA:Num w h A
 hx:(xs.length:Int)=w
 hy:(ys.length:Int)=h
 rx:xs.Pairwise (·<·)ry:ys.Pairwise (·<·)cy:Al E A xs ys C W
section
variable{w h:Int}{E:List Eg}{A:List (Pt×Int)}{xs ys:List Int}{C:List Cn}{W:List Pt}
theorem Dr.inj(K:Dr w h E A xs ys C W){p q:Pt}(b:p∈A.map (·.1))(a:q∈A.map (·.1))(e:look A p=look A q):p=q:=K.hA.inj _ (cY b) _ (cY a) e
theorem Dr.Hq(K:Dr w h E A xs ys C W){p:Pt}(a:p∈A.map (·.1)):0<=p.1/\p.1<w/\0<=p.2/\p.2<h:=K.hA.xy _ (cY a)
theorem Dr.gq(K:Dr w h E A xs ys C W){p:Pt}(c:p∈A.map (·.1)):look A p∈C.map (·.1)/\gq C (look A p)=(xs.getD p.1.toNat 0,ys.getD p.2.toNat 0):=by
 have b:jY A xs ys p∈C:=(K.cy.cs _).mpr ⟨p,c,rfl⟩;have a:look A p∈C.map (·.1):=List.mem_map.mpr ⟨_,b,rfl⟩;refine⟨a,?_⟩;have:=D1 K.cy.cn (kG a).2 b rfl;exact congrArg (·.2) this
theorem Dr.KI(K:Dr w h E A xs ys C W){q r:Pt}{l a:Int}{k:Nat}(e:l=0\/l=1)(b:a=0\/a=1)(c:q∈A.map (·.1))(F:aR E (A.map (·.1)) q a k r):xq C l (look A q,look A r)=NM↔a=l:=by
 unfold xq;rw[decide_eq_true_eq];show KD l (K24.gq C (look A q))=KD l (K24.gq C (look A r))↔_;rw[(K.gq c).2,(K.gq F.mem).2];have d:=K.Hq c;have f:=K.Hq F.mem;have i:r.1=q.1+k*a:=by rw[F.eq];rfl
 have g:r.2=q.2+k*(1-a):=by rw[F.eq];rfl
 have kp:=F.pos;have hx:=K.hx;have hy:=K.hy;rcases e with rfl|rfl
 .show xs.getD q.1.toNat 0=xs.getD r.1.toNat 0↔_;rcases b with rfl|rfl
  .rw[show r.1=q.1 by omega];exact⟨λ_=>rfl,λ_=>rfl⟩
  .have:=rise K.rx d.1 (show q.1<r.1 by omega) (by omega);exact⟨λz=>by omega,λz=>by omega⟩
 .show ys.getD q.2.toNat 0=ys.getD r.2.toNat 0↔_;rcases b with rfl|rfl
  .have:=rise K.ry d.2.2.1 (show q.2<r.2 by omega) (by omega);exact⟨λz=>by omega,λz=>by omega⟩
  .rw[show r.2=q.2 by omega];exact⟨λ_=>rfl,λ_=>rfl⟩
theorem Dr.wall(K:Dr w h E A xs ys C W){l:Int}(b:l=0\/l=1){x:Pt}:x∈W.filter (xq C l)↔∃q r k,q∈A.map (·.1)/\aR E (A.map (·.1)) q l k r/\x=(look A q,look A r):=by
 rw[List.mem_filter,K.cy.ws];constructor
 .rintro⟨⟨q,r,d,k,a,c,F,rfl⟩,ha⟩;have:=(K.KI b c a F).mp ha;subst this;exact⟨q,r,k,a,F,rfl⟩
 .rintro⟨q,r,k,a,F,rfl⟩;exact⟨⟨q,r,l,k,a,b,F,rfl⟩,(K.KI b b a F).mpr rfl⟩
theorem Dr.ends(K:Dr w h E A xs ys C W){x:Pt}(hx:x∈W):x.1∈C.map (·.1)/\x.2∈C.map (·.1):=by
 obtain⟨q,r,c,k,a,b,F,rfl⟩:=(K.cy.ws x).mp hx;exact⟨(K.gq a).1,(K.gq F.mem).1⟩
theorem gb{p:Pt}{l t:Int}(a:l=0\/l=1)(k:Nat):fy (pos p l t) l k=pos p l (t+k):=by
 unfold fy pos;rcases a with rfl|rfl<;>simp only[Rw]<;>omega
theorem Av{p q:Pt}{l t:Int}(a:l=0\/l=1){k:Nat}(h:pos p l t=fy q l k):q=pos p l (t-k):=by
 have c:=congrArg Prod.fst h;have b:=congrArg Prod.snd h;unfold fy pos at c b;simp only at c b;refine Prod.ext ?_ ?_
 .show q.1=p.1+(t-k)*l;rcases a with rfl|rfl<;>omega
 .show q.2=p.2+(t-k)*(1-l);rcases a with rfl|rfl<;>omega
theorem pf{p:Pt}{l t:Int}(a:l=0\/l=1)(k:Nat):(⟨(fy (pos p l t) l k).1,(fy (pos p l t) l k).2,l⟩:Eg)=ed p l (t+k):=by rw[gb a];rfl
theorem Dr.closed(K:Dr w h E A xs ys C W){p:Pt}{l:Int}(a:l=0\/l=1):cw (W.filter (xq C l)) (λv=>∃t,DY E A p l t v):=by
 intro x hx hh;obtain⟨q,r,k,b,F,rfl⟩:=(K.wall a).mp hx;rcases hh with⟨t,z⟩|⟨t,z⟩
 .refine⟨⟨t,z⟩,t+k,?_⟩;have e:q=pos p l t:=K.inj b z.2.1 z.2.2;have d:r=pos p l (t+k):=by rw[F.eq,e,gb a]
  refine⟨λs c=>?_,d▸F.mem,by rw[d]⟩;by_cases f:t<=s/\s<t+k
  .have:=F.chain (s-t).toNat (by omega);rw[e,pf a,show t+(s-t).toNat=s by omega]at this;exact this
  .exact z.1 s (by omega)
 .refine⟨⟨t-k,?_⟩,⟨t,z⟩⟩;have e:r=pos p l t:=K.inj F.mem z.2.1 z.2.2;have eq:q=pos p l (t-k):=Av a (by rw[<-e];exact F.eq);refine⟨λs c=>?_,eq▸b,by rw[<-eq]⟩;by_cases f:t-k<=s/\s<t
  .have:=F.chain (s-(t-k)).toNat (by omega);rw[eq,pf a,show t-k+(s-(t-k)).toNat=s by omega]at this;exact this
  .exact z.1 s (by omega)
theorem D2(P:Nat->Prop)(d:P 0):∀k,0<k->∃j,j<k/\P j/\∀i,j<i->i<k->¬P i
 |0,h=>by omega|k+1,_=>by
  by_cases c:P k;.exact⟨k,by omega,c,λi a b=>by omega⟩
  .by_cases k0:k=0;.subst k0;exact absurd d c
   .obtain⟨j,l,g,f⟩:=D2 P d k (by omega);refine⟨j,by omega,g,λi a b=>?_⟩;by_cases e:i=k;.rw[e];exact c
    .exact f i a (by omega)
theorem Dr.reach(K:Dr w h E A xs ys C W){p:Pt}{l a:Int}(b:l=0\/l=1)(c:a=1\/a=-1)(u:p∈A.map (·.1)){T:Int->Prop}(cl:cw (W.filter (xq C l)) T)(tp:T (look A p)):∀(m k:Nat),k<=m->On E p l (a*k)->pos p l (a*k)∈A.map (·.1)->T (look A (pos p l (a*k))):=by
 have d:pos p l (a*(0:Nat))=p:=by simp[pos]
 intro m;induction m with
 |zero=>
  intro k v _ _;have:k=0:=by omega
  subst this;rw[d];exact tp|succ m t=>
  intro k v e n;by_cases k0:k=0;.subst k0;rw[d];exact tp
  .obtain⟨j,x,f,o⟩:=D2 (λi=>pos p l (a*i)∈A.map (·.1)) (by show pos p l (a*(0:Nat))∈_;rw[d];exact u) k (by omega);have g:=t j (by omega) (kH c (by omega) e) f;rcases c with rfl|rfl
   .have F:aR E (A.map (·.1)) (pos p l (1*j)) l (k-j) (pos p l (1*k)):=by
     refine⟨by omega,?_,λs c=>?_,λs r q=>?_,n⟩;.rw[gb b,show 1*(j:Int)+(k-j:Nat)=1*k by omega]
     .rw[pf b];exact e _ (by omega)
     .rw[gb b,show 1*(j:Int)+s=1*(j+s:Nat)by omega];exact o _ (by omega) (by omega)
    exact(cl _ ((K.wall b).mpr ⟨_,_,_,f,F,rfl⟩) (.inl g)).2
   .have F:aR E (A.map (·.1)) (pos p l (-1*k)) l (k-j) (pos p l (-1*j)):=by
     refine⟨by omega,?_,λs c=>?_,λs r q=>?_,f⟩;.rw[gb b,show-1*(k:Int)+(k-j:Nat)=-1*j by omega]
     .rw[pf b];exact e _ (by omega)
     .rw[gb b,show-1*(k:Int)+s=-1*(k-s:Nat)by omega];exact o _ (by omega) (by omega)
    exact(cl _ ((K.wall b).mpr ⟨_,_,_,n,F,rfl⟩) (.inr g)).1
theorem Dr.same(K:Dr w h E A xs ys C W){n n':Nat}{p:Pt}{l:Int}(e:l=0\/l=1)(b:p∈A.map (·.1)):∃F:List Int,ao defs gv (n+4) 6 [.d (bh C W),.d (.int (look A p)),.d (nM l)]=.ok (.tup (F.map D.int))/\ao defs gv (n'+1) 16 [.d (.lst (E.map eD)),.d (bH A),.d (ah p),.d (nM l)]=.ok (.tup (F.map D.int))/\F.length<=60/\∀v∈F,v∈A.map (·.2):=by
 obtain⟨F,G,m,a⟩:=CS (n:=n') (A:=A) K.hw K.hh K.hE e (K.Hq b);have k:pos p l 0=p:=by simp[pos]
 have r:DY E A p l 0 (look A p):=⟨λs z=>by omega,by rw[k];exact b,by rw[k]⟩;have cl:cw (W.filter (xq C l)) (·∈F):=λx hx hh=>by
  have:=K.closed (p:=p) e x hx (hh.imp (a _).mp (a _).mp);exact⟨(a _).mpr this.1,(a _).mpr this.2⟩
 obtain⟨S,B,q,j,i,H,o⟩:=Hm (n:=n) e K.cy.cn K.cy.cl (λx hx=>K.ends hx) (K.gq b).1 m ((a _).mpr ⟨0,r⟩) cl;have mem:∀x,x∈S↔x∈bM F:=λx=>by
  rw[bU];refine⟨o x,λhx=>?_⟩;obtain⟨t,g,f,rfl⟩:=(a x).mp hx;rcases Int.le_total 0 t with c|c
  .have:=K.reach e (.inl rfl) b i j t.toNat t.toNat (NZ _);rw[show(1:Int)*t.toNat=t by omega]at this;exact this g f
  .have:=K.reach e (.inr rfl) b i j (-t).toNat (-t).toNat (NZ _);rw[show(-1:Int)*(-t).toNat=t by omega]at this;exact this g f
 have y:sortI S=sortI (bM F):=qV ((sortI_perm S).trans (ki q (eQ F) mem)) (lQ S);refine⟨sortI (bM F),by rw[B,y],G,?_,λv u=>?_⟩
 .rw[(sortI_perm _).length_eq];exact OC (ij (eQ F) λx hx=>bU.mp hx) m
 .obtain⟨t,g,f,rfl⟩:=(a v).mp (bU.mp ((sortI_perm _).mem_iff.mp u));exact List.mem_map.mpr ⟨_,cY f,rfl⟩
end
structure D3(k wt:Nat)(d:D):Prop where
 HU:oy d=NM
 HV:(pz d).showable=NM
 HW:(pz d).depth<=k
 lv:(pz d).leavesShort 13=NM
 wt:(pz d).weight<=wt
structure MJ(k wt:Nat)(ds:List D):Prop where
 HU:lM ds=NM
 HV:WK (g9 ds)=NM
 HW:PyData.depthAll (g9 ds)<=k
 lv:VP 13 (g9 ds)=NM
 wt:Ve (g9 ds)<=ds.length*(wt+1)
theorem KJ{k wt:Nat}:∀{ds:List D},(∀d∈ds,D3 k wt d)->MJ k wt ds
 |[],_=>⟨rfl,rfl,OB _,rfl,by simp[g9,Ve]⟩|d::ds,h=>by
  have a:=h d NV;have b:=KJ (ds:=ds) λx hx=>h x (NX _ hx);refine⟨?_,?_,?_,?_,?_⟩;.simp[lM,a.HU,b.HU]
  .simp[g9,WK,a.HV,b.HV]
  .simp only[g9,PyData.depthAll];exact Nat.max_le.mpr ⟨a.HW,b.HW⟩
  .simp[g9,VP,a.lv,b.lv]
  .simp only[g9,Ve,Ol,Nat.succ_mul];have:=a.wt;have:=b.wt;omega
theorem CT{k wt:Nat}{ds:List D}(h:∀d∈ds,D3 k wt d):D3 (k+1) (ds.length*(wt+1)) (.tup ds):=by
 have s:=KJ h;exact⟨s.HU,s.HV,Nat.succ_le_succ s.HW,s.lv,s.wt⟩
theorem Aw{i:Int}(h:i.natAbs<10^12):i.natAbs.log2<40:=by
 by_cases e:i.natAbs=0;.rw[e];decide
 .exact(Nat.log2_lt e).mpr (by omega)
theorem CU{i:Int}(h:i.natAbs<10^12):D3 0 40 (.int i):=by
 have l:=Aw h;refine⟨rfl,?_,NZ _,?_,?_⟩
 .show decide (i.natAbs.log2<1920)=NM;exact decide_eq_true (by omega)
 .show decide ((PyData.shown (.int i)).length<=13)=NM;exact decide_eq_true (PyData.shown_int_le h)
 .show(if i==0 then 0 else i.natAbs.log2+1)<=40;split<;>omega
theorem D3.mono{k b wt a:Nat}{d:D}(h:D3 k wt d)(c:k<=b)(hw:wt<=a):D3 b a d:=⟨h.HU,h.HV,OC h.HW c,h.lv,OC h.wt hw⟩
theorem Hr{d:D}(h:D3 8 1000000 d):oz d=NM:=by
 unfold oz;rw[h.HU,h.HV,decide_eq_true h.HW,decide_eq_true (PyData.shown_fits (by decide) (by decide) h.lv (OC h.wt (by decide)))];rfl
theorem CV{F:List Int}(b:F.length<=60)(h:∀v∈F,0<=v/\v<1000):oz (.tup (F.map D.int))=NM:=by
 refine Hr ((CT (k:=0) (wt:=40) λd hd=>?_).mono (by decide) ?_)
 .obtain⟨v,a,rfl⟩:=List.mem_map.mp hd;have:=h v a;exact CU (by omega)
 .rw[NY];omega
theorem CW{d:D}(b:j6 d=NM)(a:oz d=NM):vk .repr [d]=.ok (.str (pz d).shown):=by
 show(T.need (j6 d&&oz d)>>=λ_=>T.ok (D.str (pz d).shown))=_;rw[b,a];rfl
theorem CY(s:Oo):cz .NotEq (.str s) (.str s)=.ok (.bl NP):=by
 show(T.get (NF (s==s))>>=λb=>T.ok (D.bl (!b)))=_;rw[beq_self_eq_true];rfl
theorem KL(n:Nat):(V n).cls 0=NF 24:=rfl
theorem Ht{n:Nat}{cy a b d:D}(h:ao defs gv n 6 [.d cy,.d a,.d b]=.ok d):ao defs gv (n+1) 17 [.d cy,.d a,.d b]=.ok d:=by
 rw[aM (d:=dJ) rfl rfl];unfold dJ;simp only[GZ,HS,DO,DP,GY,Lf,iA,ag,jG,gk,Cl,Sd,bG,A.w,KL,Lm,Ls,OV,Ry,R5,if_true];rw[h];rfl
theorem Ax{n:Nat}{cy a b:D}{c:NR}{ρ:af}(e:c=49\/c=61)(h:ao defs gv n 6 [.d cy,.d a,.d b]=.exc ⟨.exc c [],ρ⟩):ao defs gv (n+1) 17 [.d cy,.d a,.d b]=.ok (.lst [.bl (decide (c=49)),.bl (decide (c=61)),.bl NP,.bl NP]):=by
 rw[aM (d:=dJ) rfl rfl];unfold dJ;simp only[GZ,HS,DO,DP,GY,Lf,iA,ag,jG,gk,Cl,Sd,bG,A.w,KL,Lm,Ls,OV,Ry,R5,if_true];rw[h];rcases e with rfl|rfl;.rfl
 .rfl
theorem Ay{n:Nat}{cy d a:D}(h:ao defs gv n 2 [.d cy,.d d]=.ok (.bl NP)):ao defs gv (n+3) 17 [.d cy,.d d,.d a]=.ok (.lst [.bl NM,.bl NP,.bl NP,.bl NP]):=by
 obtain⟨b,e⟩:=CN (a:=a) h;obtain⟨b,e⟩:=vP e;exact Ax (.inl rfl) e
theorem Hu{n:Nat}{cy d a:D}(h:ao defs gv n 2 [.d cy,.d d]=.ok (.bl NM))(ha:gW a [.str "x",.str "y"]=NF NP):ao defs gv (n+3) 17 [.d cy,.d d,.d a]=.ok (.lst [.bl NP,.bl NM,.bl NP,.bl NP]):=by
 obtain⟨b,e⟩:=vN h ha;obtain⟨b,e⟩:=vP e;exact Ax (.inr rfl) e
section
variable{k m:Nat}
theorem Az(a:1<=k)(i:Int):ao defs gv k 7 [.feed,.d (.int i)]=.draw i λi=>.ok (.int i):=by
 obtain⟨n,rfl⟩:=O5 a;exact jH n i
theorem Dr.met{w h:Int}{E:List Eg}{A:List (Pt×Int)}{xs b:List Int}{C:List Cn}{W:List Pt}(K:Dr w h E A xs b C W)(g:5<=k){p:Pt}{l:Int}(f:l=0\/l=1)(e:p∈A.map (·.1)):∃F:List Int,ao defs gv k 17 [.d (bh C W),.d (.int (look A p)),.d (nM l)]=.ok (.tup (F.map D.int))/\ao defs gv k 16 [.d (.lst (E.map eD)),.d (bH A),.d (ah p),.d (nM l)]=.ok (.tup (F.map D.int))/\oz (.tup (F.map D.int))=NM:=by
 obtain⟨n,rfl⟩:=O5 g;obtain⟨F,q,o,j,i⟩:=K.same (n:=n) (n':=n+4) f e;refine⟨F,Ht q,o,CV j λv c=>?_⟩;obtain⟨a,ha,rfl⟩:=List.mem_map.mp (i v c);exact K.hA.val a ha
theorem Hv{C:List Cn}{W:List Pt}(c:5<=k)(nd:(C.map (·.1)).Nodup)(b:C.length<=168){i:Int}(e:i∉C.map (·.1))(a:D):ao defs gv k 17 [.d (bh C W),.d (.int i),.d a]=.ok (.lst [.bl NM,.bl NP,.bl NP,.bl NP]):=by
 obtain⟨n,rfl⟩:=O5 c;exact Ay (by rw[has_int nd b,decide_eq_false e])
theorem Hw{cy d:D}(c:5<=k)(h:d=.aU\/(∃b,d=.bl b)\/(∃s,d=.str s)\/(∃xs,d=.tup xs)\/∃xs,d=.lst xs)(a:D):ao defs gv k 17 [.d cy,.d d,.d a]=.ok (.lst [.bl NM,.bl NP,.bl NP,.bl NP]):=by
 obtain⟨n,rfl⟩:=O5 c;exact Ay (Hk (Kx h))
theorem Hx{C:List Cn}{W:List Pt}(c:5<=k)(nd:(C.map (·.1)).Nodup)(b:C.length<=168){i:Int}(e:i∈C.map (·.1)){a:D}(ha:gW a [.str "x",.str "y"]=NF NP):ao defs gv k 17 [.d (bh C W),.d (.int i),.d a]=.ok (.lst [.bl NP,.bl NM,.bl NP,.bl NP]):=by
 obtain⟨n,rfl⟩:=O5 c;exact Hu (by rw[has_int nd b,decide_eq_true e]) ha
end
noncomputable def eK(s1 s2:Option L2.W)(E:List Eg)(A:List (Pt×Int))(cy:D)(o6 o7 o8 o9 o10 o11 o12:Option L2.W):af:=[NF .feed,s1,s2,NF (.d (.lst (E.map eD))),NF (.d (bH A)),NF (.d cy),o6,o7,o8,o9,o10,o11,o12]
section
variable{k:Nat}{w h:Int}{E:List Eg}{A:List (Pt×Int)}{xs ys:List Int}{C:List Cn}{W:List Pt}{s1 s2 o6 o7 o8 o9 o10 o11 o12:Option L2.W}
theorem KN(K:Dr w h E A xs ys C W)(c:5<=k){p:Pt}{l:Int}(b:l=0\/l=1)(a:p∈A.map (·.1)):ax (V k) kC (eK s1 s2 E A (bh C W) (NF (.d (ah p))) (NF (.d (nM l))) o8 o9 o10 o11 o12)=.ok (.nx (eK s1 s2 E A (bh C W) (NF (.d (ah p))) (NF (.d (nM l))) o8 o9 o10 o11 o12)):=by
 obtain⟨F,g,f,e⟩:=K.met c b a;unfold kC eK;symm_saturate;rw[jf a];symm_saturate;rw[g,f];symm_saturate;rw[CW rfl e];symm_saturate;rw[CY];symm_saturate
theorem KO(K:Dr w h E A xs ys C W)(m:5<=k){p:Pt}(c:p∈A.map (·.1)):∃a,ax (V k) i9 (eK s1 s2 E A (bh C W) (NF (.d (ah p))) o7 o8 o9 o10 o11 o12)=.ok (.nx (eK s1 s2 E A (bh C W) (NF (.d (ah p))) a o8 o9 o10 o11 o12)):=by
 have f:=jJ (g:=dv (.nm 7)) (body:=ax (V k) kC) (λds ρ=>(∀d∈ds,∃l,(l=0\/l=1)/\d=nM l)/\∃o7,ρ=eK s1 s2 E A (bh C W) (NF (.d (ah p))) o7 o8 o9 o10 o11 o12) ?_ (ds:=[.str "x",.str "y",.str "x"]) (ρ:=eK s1 s2 E A (bh C W) (NF (.d (ah p))) o7 o8 o9 o10 o11 o12) ⟨?_,o7,rfl⟩
 .obtain⟨b,e,_,a,rfl⟩:=f;refine⟨a,?_⟩;have i:r8 (V k) (.cO (.tup (.cons (.cst (.str "x")) (.cons (.cst (.str "y")) (.cons (.cst (.str "x")) .nil))))) (eK s1 s2 E A (bh C W) (NF (.d (ah p))) o7 o8 o9 o10 o11 o12)=.ok [.str "x",.str "y",.str "x"]:=by symm_saturate
  unfold i9;rw[ba (by rw[ja,i,ag,e])];rfl
 .rintro d ds ρ⟨hd,o7,rfl⟩;obtain⟨l,j,rfl⟩:=hd d NV;exact⟨_,_,rfl,KN K m j c,λd h=>hd d (NX _ h),_,rfl⟩
 .intro d hd;rcases List.mem_cons.mp hd with rfl|hd;.exact⟨0,.inl rfl,rfl⟩
  rcases List.mem_cons.mp hd with rfl|hd;.exact⟨1,.inr rfl,rfl⟩
  rw[List.mem_singleton.mp hd];exact⟨0,.inl rfl,rfl⟩
theorem Hy(K:Dr w h E A xs ys C W)(m:5<=k){P:List Pt}(hP:∀p∈P,p∈A.map (·.1)):∃i c,eR (dv (.nm 6)) (ax (V k) i9) (P.map ah) (eK s1 s2 E A (bh C W) o6 o7 o8 o9 o10 o11 o12)=.ok (.nx (eK s1 s2 E A (bh C W) i c o8 o9 o10 o11 o12)):=by
 have f:=jJ (g:=dv (.nm 6)) (body:=ax (V k) i9) (λds ρ=>(∀d∈ds,∃p∈A.map (·.1),d=ah p)/\∃o6 o7,ρ=eK s1 s2 E A (bh C W) o6 o7 o8 o9 o10 o11 o12) ?_ (ds:=P.map ah) (ρ:=eK s1 s2 E A (bh C W) o6 o7 o8 o9 o10 o11 o12) ⟨?_,o6,o7,rfl⟩
 .obtain⟨l,e,_,a,b,rfl⟩:=f;exact⟨a,b,e⟩
 .rintro d ds ρ⟨hd,o6,o7,rfl⟩;obtain⟨p,j,rfl⟩:=hd d NV;obtain⟨c,e⟩:=KO (o7:=o7) (s1:=s1) (s2:=s2) (o8:=o8) (o9:=o9) (o10:=o10) (o11:=o11) (o12:=o12) K m j;exact⟨_,_,rfl,e,λd h=>hd d (NX _ h),_,_,rfl⟩
 .intro d hd;obtain⟨p,j,rfl⟩:=List.mem_map.mp hd;exact⟨p,hP p j,rfl⟩
noncomputable def CZ:D:=.lst [.bl NM,.bl NP,.bl NP,.bl NP]
theorem KP{cy no way:D}(e:ao defs gv k 17 [.d cy,.d no,.d way]=.ok CZ):ax (V k) kz (eK s1 s2 E A cy o6 o7 o8 o9 o10 (NF (.d no)) (NF (.d way)))=.ok (.nx (eK s1 s2 E A cy o6 o7 o8 o9 o10 (NF (.d no)) (NF (.d way)))):=by
 unfold kz eK;symm_saturate;rw[e];symm_saturate;have:decide (4<=NW)=NM:=sd (by decide);rw[this];rfl
theorem Hz{cy no odd:D}(e:∀way,ao defs gv k 17 [.d cy,.d no,.d way]=.ok CZ):∃b,ax (V k) i7 (eK s1 s2 E A cy o6 o7 o8 (NF (.d odd)) o10 (NF (.d no)) o12)=.ok (.nx (eK s1 s2 E A cy o6 o7 o8 (NF (.d odd)) o10 (NF (.d no)) b)):=by
 have f:=jJ (g:=dv (.nm 12)) (body:=ax (V k) kz) (λds ρ=>∃o12,ρ=eK s1 s2 E A cy o6 o7 o8 (NF (.d odd)) o10 (NF (.d no)) o12) (λd ds ρ⟨o,h⟩=>by rw[h];exact⟨_,_,rfl,KP (e d),_,rfl⟩) (ds:=[.str "x",odd]) (ρ:=eK s1 s2 E A cy o6 o7 o8 (NF (.d odd)) o10 (NF (.d no)) o12) ⟨o12,rfl⟩;obtain⟨c,e,a,rfl⟩:=f;refine⟨a,?_⟩;have i:r8 (V k) (.cO (.tup (.cons (.cst (.str "x")) (.cons (.var 9) .nil)))) (eK s1 s2 E A cy o6 o7 o8 (NF (.d odd)) o10 (NF (.d no)) o12)=.ok [.str "x",odd]:=by unfold eK;symm_saturate
 unfold i7;rw[ba (by rw[ja,i,ag,e])];rfl
theorem C1{cy odd:D}{ds:List D}(e:∀no∈ds,∀way,ao defs gv k 17 [.d cy,.d no,.d way]=.ok CZ):∃i c,eR (dv (.nm 11)) (ax (V k) i7) ds (eK s1 s2 E A cy o6 o7 o8 (NF (.d odd)) o10 o11 o12)=.ok (.nx (eK s1 s2 E A cy o6 o7 o8 (NF (.d odd)) o10 i c)):=by
 have f:=jJ (g:=dv (.nm 11)) (body:=ax (V k) i7) (λds ρ=>(∀no∈ds,∀way,ao defs gv k 17 [.d cy,.d no,.d way]=.ok CZ)/\∃o11 o12,ρ=eK s1 s2 E A cy o6 o7 o8 (NF (.d odd)) o10 o11 o12) (λd ds ρ⟨hd,o,l,h⟩=>by
  rw[h];obtain⟨a,e⟩:=Hz (s1:=s1) (s2:=s2) (E:=E) (A:=A) (o6:=o6) (o7:=o7) (o8:=o8) (o10:=o10) (o12:=l) (odd:=odd) (hd d NV);exact⟨_,_,rfl,e,λd h=>hd d (NX _ h),_,_,rfl⟩) (ds:=ds) (ρ:=eK s1 s2 E A cy o6 o7 o8 (NF (.d odd)) o10 o11 o12) ⟨e,o11,o12,rfl⟩;obtain⟨j,e,_,a,b,rfl⟩:=f;exact⟨a,b,e⟩
end
local macro_rules|`(tactic|and_intros)=>`(tactic|simp only[GZ,DO,HS,DP,GY,iA,eC,cJ,Cb,Wp,T.wp_bind,T.kE,ag,jG,jH,gk,gm,pq,jy,lS,rk,bG,A.w,Cd,Lm,Ls,OV,Ry,R5,true_and,and_true,AG,Ix,if_true])
theorem AA(c:Int):∀(L:List Int),gW (.int c) (L.map D.int)=NF (decide (c∈L))
 |[]=>by simp[gW]|x::L=>by
  rw[Ot];unfold gW;have:bZ 50 (.int x) (.int c)=NF (x==c):=rfl;rw[this,AA c L];by_cases e:x=c;.simp[e]
  .rw[beq_eq_false_iff_ne.mpr e];have:c≠x:=OX e;simp[this]
theorem xt(f:D->D->Option Bool)(xs:List D):aT f xs []=NF NM:=by cases xs<;>rfl
theorem C2(xs:List D):cz .Eq (.tup xs) (.tup [])=.ok (.bl (xs.length==0)):=by
 show(T.get ((aT (bZ 59) xs []).map λb=>b&&xs.length==([]:List D).length)>>=λb=>T.ok (D.bl b))=_;rw[xt];rfl
theorem C3(xs:List D):vk .len [.tup xs]=.ok (.int xs.length):=rfl
theorem HA(c:Cn):dM (cD c) (.int 0)=.ok (.int c.1):=rfl
noncomputable def MK:List D:=[.str "z",.str "",.str "xy",.aU,.int 0,.int 1,.tup [.str "x"],.bl NM,.str "X"]
theorem HB{i:Int}(b:0<=i)(a:i<9):∃d,d_ MK i=NF d/\gW d [.str "x",.str "y"]=NF NP:=by rcases(by omega:i=0\/i=1\/i=2\/i=3\/i=4\/i=5\/i=6\/i=7\/i=8)with rfl|rfl|rfl|rfl|rfl|rfl|rfl|rfl|rfl<;>exact⟨_,rfl,rfl⟩
noncomputable def gG(C:List Cn)(c:Int):List Int:=[c+1,c-1,1000,-1].filter λi=>!decide (i∈C.map (·.1))
section
variable{k m:Nat}{w h:Int}{E:List Eg}{A:List (Pt×Int)}{xs ys:List Int}{C:List Cn}{W:List Pt}{s1 s2 o6 o7 o8 o9 o10 o11 o12:Option L2.W}
noncomputable def LC:D->Int
 |.int i=>i|_=>0
theorem C4{ρ:af}{c:Int}(a:ρ[5]?=NF (NF (.d (bh C W)))):dZ (dv (.nm 0)) (λρ=>(c4 (V k) i8 ρ).calm) (λρ=>(aK (V k) kB ρ).calm) [.int (c+1),.int (c-1),.int 1000,.int (-1)] (gV ρ 1 [5])=.ok ((gG C c).map D.int):=by
 have hb:gV ρ 1 [5]=[NN,NF (.d (bh C W))]:=by
  show[NN,(ρ[5]?).join]=_;rw[a];rfl
 rw[hb];refine(fU (c:=λd=>!decide (LC d∈C.map (·.1))) (e:=λd=>d) (λρ=>∃o,ρ=[o,NF (.d (bh C W))]) ?_ ⟨NN,rfl⟩).trans ?_;rotate_left
 .rw[List.map_id'];show T.ok (([c+1,c-1,1000,-1].map D.int).filter _)=_;rw[List.filter_map];rfl
 .rintro ρ⟨o,rfl⟩d hd;obtain⟨i,rfl⟩:∃i,d=.int i:=by
   simp only[Pe,QJ,or_false]at hd;rcases hd with rfl|rfl|rfl|rfl<;>exact⟨_,rfl⟩
  refine⟨_,rfl,⟨_,rfl⟩,?_,λ_=>rfl⟩;unfold i8;symm_saturate;have b:dZ (dv (.nm 0)) (λρ=>T.ok NM) (λρ=>(aK (V k) vC ρ).calm) (C.map cD) (gV [NF (L2.W.d (.int i)),NF (L2.W.d (bh C W))] 1 [])=.ok ((C.map (·.1)).map D.int):=by
   refine(fU (c:=λd=>NM) (e:=λd=>match d with|.tup (x::_)=>x|_=>.aU) (λρ=>∃o,ρ=[o]) ?_ ⟨NN,rfl⟩).trans ?_;rotate_left
   .rw[List.filter_eq_self.mpr λ_ _=>rfl,PJ,PJ];rfl
   .rintro ρ⟨o,rfl⟩d hd;obtain⟨y,hy,rfl⟩:=List.mem_map.mp hd;exact⟨_,rfl,⟨_,rfl⟩,rfl,λ_=>rfl⟩
  rw[b];symm_saturate;rw[jX,AA];rfl
theorem KQ(K:Dr w h E A xs ys C W)(b:5<=k){i:Int}(c:i∈C.map (·.1)){odd:D}(a:gW odd [.str "x",.str "y"]=NF NP):ax (V k) oR (eK s1 s2 E A (bh C W) o6 o7 (NF (.d (.int i))) (NF (.d odd)) o10 o11 o12)=.ok (.rt (.bl NM)):=by
 unfold oR eK;symm_saturate;rw[Hx b K.cy.cn K.cy.cl c a];symm_saturate;have:decide (4<=NW)=NM:=sd (by decide);rw[this];rfl
theorem KR(K:Dr w h E A xs ys C W)(s:5<=k)(hc:0<C.length)(Z:2<=m):(ax (V k) oS (eK s1 s2 E A (bh C W) o6 o7 NN NN NN NN NN)).wp m (λP B=>m<=B+2/\P=.rt (.bl NM)):=by
 have z:=oW;have cd:=Az (k:=k) (by omega);have cl:=K.cy.cl;unfold oS;refine oX (eJ λS o=>?_);generalize L:bH A=X;generalize J:D.lst (E.map eD)=Y;unfold eK;and_intros;simp only[mq,C3,T.cu,cd,T.kF,NY];refine⟨by omega,by omega,by omega,λi i0 U=>?_⟩;have u:d_ (C.map cD) i=NF (cD (C[i.toNat]'(by omega))):=Kr i0 (by rw[Om,Oc (by omega)];rfl);have n:C[i.toNat]'(by omega)∈C:=List.getElem_mem _;generalize C[i.toNat]'(by omega)=c at u n;have t:c.1∈C.map (·.1):=List.mem_map.mpr ⟨c,n,rfl⟩;have cv:0<=c.1/\c.1<1000:=by
  obtain⟨p,H,rfl⟩:=(K.cy.cs c).mp n;exact K.hA.val _ (cY H)
 refine Cw u ?_;rw[HA,T.cu];refine o _ _ ?_;show(ax (V k) _ (eK s1 s2 E A (bh C W) o6 o7 (NF (.d (.int c.1))) NN NN NN NN)).wp (m-1) _;clear o L J u;refine oX (eJ λS o=>?_);unfold eK;and_intros;simp only[cd,T.kF,T.cu];refine⟨sd (by decide),sd (by decide),by decide,by decide,by omega,λj j0 F=>?_⟩;obtain⟨odd,y,Q⟩:=HB j0 F;refine G2 y (o _ _ ?_);show(ax (V k) _ (eK s1 s2 E A (bh C W) o6 o7 (NF (.d (.int c.1))) (NF (.d odd)) NN NN NN)).wp (m-1-1) _;clear o y;have g:aK (V k) (.lc ["_law_corner"] [5] (.nm 0) (.cO (.tup (.cons (.op .Add (.var 8) (.cst (.int 1))) (.cons (.op .Sub (.var 8) (.cst (.int 1))) (.cons (.cst (.int 1000)) (.cons (.neg (.cst (.int 1))) .nil)))))) i8 kB) (eK s1 s2 E A (bh C W) o6 o7 (NF (.d (.int c.1))) (NF (.d odd)) NN NN NN)=.ok (.lst ((gG C c.1).map D.int)):=by
  have O:r8 (V k) (.cO (.tup (.cons (.op .Add (.var 8) (.cst (.int 1))) (.cons (.op .Sub (.var 8) (.cst (.int 1))) (.cons (.cst (.int 1000)) (.cons (.neg (.cst (.int 1))) .nil)))))) (eK s1 s2 E A (bh C W) o6 o7 (NF (.d (.int c.1))) (NF (.d odd)) NN NN NN)=.ok [.int (c.1+1),.int (c.1-1),.int 1000,.int (-1)]:=by
   show((T.need (decide (4<=NW))>>=λ_=>T.ok (D.tup [.int (c.1+1),.int (c.1-1),.int 1000,.int (-1)]))>>=λd=>T.get (fk d))=_;rw[sd (by decide)];rfl
  rw[show∀(own:List Oo)x v it c q l,aK (V k) (.lc own x v it c q) l=(r8 (V k) it l>>=λds=>dZ (dv v) (λl=>(c4 (V k) c l).calm) (λl=>(aK (V k) q l).calm) ds (gV l own.length x)>>=λr=>T.ok (D.lst r))fromλ_ _ _ _ _ _ _=>rfl];rw[O,ag];show(dZ (dv (.nm 0)) (λl=>(c4 (V k) i8 l).calm) (λl=>(aK (V k) kB l).calm) [.int (c.1+1),.int (c.1-1),.int 1000,.int (-1)] (gV (eK s1 s2 E A (bh C W) o6 o7 (NF (.d (.int c.1))) (NF (.d odd)) NN NN NN) 1 [5])>>=λr=>T.ok (D.lst r))=_;rw[C4 (C:=C) (W:=W) rfl];rfl
 rw[fg g];show(ax (V k) _ (eK s1 s2 E A (bh C W) o6 o7 (NF (.d (.int c.1))) (NF (.d odd)) (NF (.d (.lst ((gG C c.1).map D.int)))) NN NN)).wp (m-1-1) _;have bs:vk .str [.int c.1]=.ok (.str (toString c.1)):=by
  show(T.need (decide (c.1.natAbs.log2<1920))>>=λ_=>T.ok (D.str (toString c.1)))=_;rw[decide_eq_true (by have:=Aw (i:=c.1) (by omega);omega)];rfl
 have gl:(gG C c.1).length<=4:=List.length_filter_le _ _;obtain⟨a,b,f⟩:=C1 (k:=k) (s1:=s1) (s2:=s2) (E:=E) (A:=A) (cy:=bh C W) (odd:=odd) (o6:=o6) (o7:=o7) (o8:=NF (.d (.int c.1))) (o10:=NF (.d (.lst ((gG C c.1).map D.int)))) (o11:=NN) (o12:=NN) (ds:=(gG C c.1).map D.int++[.aU,.str (toString c.1),.tup [.int c.1],.lst [.int c.1],.bl NM,.bl NP]) λno e way=>by
  rcases List.mem_append.mp e with e|e
  .obtain⟨i,I,rfl⟩:=List.mem_map.mp e;have:=(List.mem_filter.mp I).2;exact Hv s K.cy.cn cl (by simpa using this) way
  .refine Hw s ?_ way;simp only[Pe,QJ,or_false]at e;rcases e with rfl|rfl|rfl|rfl|rfl|rfl;.exact .inl rfl
   .exact .inr (.inr (.inl ⟨_,rfl⟩))
   .exact .inr (.inr (.inr (.inl ⟨_,rfl⟩)))
   .exact .inr (.inr (.inr (.inr ⟨_,rfl⟩)))
   .exact .inr (.inl ⟨_,rfl⟩)
   .exact .inr (.inl ⟨_,rfl⟩)
 rw[ba (ρ':=eK s1 s2 E A (bh C W) o6 o7 (NF (.d (.int c.1))) (NF (.d odd)) (NF (.d (.lst ((gG C c.1).map D.int)))) a b)]
 .rw[KQ K s t Q];exact⟨by omega,rfl⟩
 .rw[ja];have N:r8 (V k) (.cO (.op .Add (.var 10) (.lst (.cons (.cst (.aU)) (.cons (.bi .str (.cons (.var 8) .nil)) (.cons (.tup (.cons (.var 8) .nil)) (.cons (.lst (.cons (.var 8) .nil)) (.cons (.cst (.bl NM)) (.cons (.cst (.bl NP)) .nil))))))))) (eK s1 s2 E A (bh C W) o6 o7 (NF (.d (.int c.1))) (NF (.d odd)) (NF (.d (.lst ((gG C c.1).map D.int)))) NN NN)=.ok ((gG C c.1).map D.int++[.aU,.str (toString c.1),.tup [.int c.1],.lst [.int c.1],.bl NM,.bl NP]):=by
   generalize M:(gG C c.1).map D.int=G;have hl:G.length<=4:=by rw[<-M,NY];exact gl
   unfold eK;symm_saturate;rw[bs];symm_saturate;have R:decide (6<=NW)=NM:=sd (by decide);rw[R];show((T.need (decide (G.length+6<=NW))>>=λ_=>T.ok (D.lst (G++[.aU,.str (toString c.1),.tup [.int c.1],.lst [.int c.1],.bl NM,.bl NP])))>>=λd=>T.get (fk d))=_;rw[sd (by omega)];rfl
  rw[N,ag,f]
theorem KS(K:Dr w h E A xs ys C W)(d:5<=k)(o:2<=m):(ax (V k) oU (eK s1 s2 E A (bh C W) NN NN NN NN NN NN NN)).wp m (λq j=>m<=j+2/\q=.rt (.bl NM)):=by
 have z:=oW;unfold oU eK;and_intros;rw[mq];simp only[T.cu,C2,NY];refine⟨sd (by decide),?_⟩;by_cases e:C.length=0
 .rw[beq_iff_eq.mpr e];show m<=m+2;omega
 .rw[beq_eq_false_iff_ne.mpr e];simp only[Oh,if_false,T.cu];have ks:gA (bH A)=NF ((A.map (·.1)).map ah):=by simp[gA,bH]
  have c:((A.map (·.1)).map ah).length<=1000000:=by simp;have:=K.hA.sz;omega
  have l:gp ((A.map (·.1)).map ah)=NM:=by unfold gp;rw[oZ];simp
  refine bW ks c l λr g=>?_;obtain⟨s,i,rfl⟩:=c6 g rfl;simp only[fk,T.a_];obtain⟨a,b,f⟩:=Hy (s1:=s1) (s2:=s2) (o6:=NN) (o7:=NN) (o8:=NN) (o9:=NN) (o10:=NN) (o11:=NN) (o12:=NN) K d (λp n=>i.mem_iff.mp n);unfold eK at f;rw[f,T.cu];exact KR (s1:=s1) (s2:=s2) (o6:=a) (o7:=b) K d (by omega) o
theorem vQ{w:Int}(c:2<=k)(hw:1<=w/\w<=7)(b:10<=m):(ao defs gv k 8 [.feed,.d (.int w)]).wp m (λd a=>m<=a+10/\∃xs:List Int,d=.lst (xs.map D.int)/\(xs.length:Int)=w/\(∀x∈xs,0<=x/\x<=1000000)/\xs.Pairwise (·<·)):=by
 obtain⟨n,rfl⟩:=O5 c;exact Ac hw b
theorem C8{w h:Int}(c:2<=k)(hw:2<=w/\w<=7)(hh:2<=h/\h<=6)(b:60<=m):(ao defs gv k 9 [.feed,.d (.int w),.d (.int h)]).wp m (λd a=>m<=a+60/\∃E:List Eg,d=.lst (E.map eD)/\E.length<=84/\∀e∈E,e.ok w h):=by
 obtain⟨n,rfl⟩:=O5 c;exact Ae hw hh b
theorem tZ{w h:Int}{E:List Eg}(f:2<=k)(hE:∀e∈E,e.ok w h)(c:E.length<=84)(b:200<=m):(ao defs gv k 15 [.feed,.d (.lst (E.map eD))]).wp m (λd a=>m<=a+200/\∃A:List (Pt×Int),d=bH A/\Num w h A):=by
 obtain⟨n,rfl⟩:=O5 f;exact rT hE c b
theorem KU{w h:Int}{E:List Eg}{A:List (Pt×Int)}{xs ys:List Int}(g:3<=k)(hw:w<=7)(hh:h<=7)(hE:∀e∈E,e.ok w h)(f:E.length<=84)(hA:Num w h A)(hx:(xs.length:Int)=w)(hy:(ys.length:Int)=h)(b:∀x∈xs,0<=x/\x<=1000000)(a:∀y∈ys,0<=y/\y<=1000000):(ao defs gv k 14 [.d (.lst (E.map eD)),.d (bH A),.d (.lst (xs.map D.int)),.d (.lst (ys.map D.int))]).wp m (λd c=>c=m/\∃(C:List Cn)(W:List Pt),d=bh C W/\Al E A xs ys C W):=by
 obtain⟨n,rfl⟩:=O5 g;exact Hj hw hh hE f hA hx hy b a
theorem C9{n m:Nat}(B:500<=m):(ao defs gv (n+6) 18 [.feed]).wp m (λd c=>m<=c+500/\d=.bl NM):=by
 have z:=oW;rw[aM (d:=fS) rfl rfl];obtain⟨k,a⟩:∃k,n+5=k:=⟨_,rfl⟩;rw[a];have i:5<=k:=by omega
 clear a;have cd:=Az (k:=k) (by omega);unfold fS;subst_eqs;simp only[cd,T.kF,T.cu];refine⟨by decide,by decide,by omega,λw l j=>⟨by decide,by decide,by omega,λh F D=>?_⟩⟩;refine wp_call (C8 (by omega) (by omega) (by omega) (by omega)) ?_;intro d y hd;obtain⟨s,E,rfl,b,hE⟩:=hd;unfold rM;subst_eqs;refine wp_call (tZ (by omega) hE b (by omega)) ?_;intro d x hd;obtain⟨r,A,rfl,hA⟩:=hd;unfold rL;subst_eqs;refine wp_call (vQ (by omega) (by omega) (by omega)) ?_;intro d v hd;obtain⟨p,xs,rfl,hx,g,rx⟩:=hd;refine wp_call (vQ (by omega) (by omega) (by omega)) ?_;intro d u hd;obtain⟨o,ys,rfl,hy,f,ry⟩:=hd;refine wp_call (KU (by omega) (by omega) (by omega) hE b hA hx hy g f) ?_;intro d t hd;obtain⟨H,C,W,rfl,hN⟩:=hd;refine T.wp_mono (λG c q=>?_) (KS (k:=k) ⟨by omega,by omega,hE,hA,hx,hy,rx,ry,hN⟩ i (by omega));obtain⟨q,e⟩:=q;rw[e];exact⟨by omega,rfl⟩
end
theorem whole:(ax (gv.ev (ao defs gv 39)) rest (NN::NF .feed::OV (tO.length-2) NN)).mG 1000000 (λl=>l=.rt (.bl NM)):=by
 refine T.oV ?_;show(ax (V 39) rest [NN,NF .feed,NN]).wp 1000000 _;obtain⟨k,f⟩:∃k,k=39:=⟨_,rfl⟩;rw[<-f];unfold rest;subst_eqs;refine⟨by decide,?_⟩;refine eI (λe b j=>e.length<=6/\1000000<=j+500*(6-e.length)/\∃o,b=[NN,NF .feed,o]) ?_ ?_ ?_;rotate_left 2;.exact⟨by simp[bR],by simp[bR],NN,rfl⟩
 .intro d e b i c;obtain⟨h,g,o,a⟩:=c;rw[a];simp only[Ol]at h g;unfold Aa;subst_eqs;rw[f];refine wp_call (C9 (n:=33) (by omega)) ?_;intro d m hd;obtain⟨q,rfl⟩:=hd;rw[Ap,T.cu];simp only[Pz,Oh,if_false];exact⟨by omega,by omega,_,rfl⟩
 .intro b i c;obtain⟨h,g,o,a⟩:=c;rw[a];unfold z_;subst_eqs
end K24
end
open PySem PySem.W PyProof.Rows
theorem PySem.Challenge.cw_wallplan_k24_runs_holds : PySem.Challenge.rw_wallplan_k24_runs.Holds := by
 refine head (L2.A6 (l:=Sq) (n:=63) (k:=40) (x:=NH "_law_script") (K:=head.heap_39) (CX:=λ_=>L2.wb) (sp:=λw=>L2.zV (head.heap_39 w.params)) rfl (by decide) rfl ⟨rfl,by decide,by decide,rfl⟩ (λw h Y=>PySem.W.kIn_of Y) ?F ?S ?C)
 case F=>
  intro w mg m h p G b
  obtain ⟨f,fd,j,i,g⟩:=K24.Kq K24.whole w.params
  have e:mg (NH "law")=NF (.ref f):=R4 p G j
  have o:(NF (Of f):Option NJ)=NF (.ref m):=e.symm.trans b
  cases o
  exact ⟨fd,λs u=>.of_eq (i [u] rfl),λbase X G=>g rfl X G⟩
 case S=>exact λw H a ns c _ d=>⟨a,ns,rfl,d,c,λ_=>rfl⟩
 case C=>exact λ_ _ _ _ _ z=>z
