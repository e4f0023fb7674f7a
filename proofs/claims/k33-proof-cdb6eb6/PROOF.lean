import PyProof.Rows.All
import Wide.All
import OpenK.AllK
import Wide.FinOn
import Lean
import PyProof.EqAt
import PyProof.EqKinds
import PyProof.TupleCall
import PyProof.NeKinds
import PyProof.ZipIter
import PyProof.EnumMake
import PyProof.InstStoreFacts
import Open.Row
import KE.KDictOf
import PyProof.AttrMissHeap
import PyProof.StrBlockI
import PyProof.StrWalks
import PyProof.Rows.StrInSeq
import PyProof.Rows.SortKeyStr
import PyProof.StrOps
import PySem.Challenge.RW_wallplan_k33_groups
set_option Elab.async false
set_option linter.all false
set_option maxRecDepth 100000
set_option maxHeartbeats 0
local macro_rules | `(tactic| omega) => `(tactic| lia)

open Option renaming some->O7,none->Pb,map_some->Su,getD_none->TB,map_eq_some_iff->Wq,isSome_some->XF
open PySem.Str renaming ofString->O8
open PySem renaming wpAny_bind->O9,Value->O_,Shared->Pe,wpAny_pure->Pf,Addr->Pg,sizeLine->Pl,model->Py,Expr->PC,Program->PF,starEach->PL,Str->PX,World->P0,Heap->P7,Around->P9,wpAny_holding->Qn,mainGlobals->Qp,intKind->Qr,Obj->Qx,compareOp->QB,wpAny_call_entry->QJ,wpAny_loadPart_at->QR,wpAny_mono->QV,SetTable->QX,wpAny_newObj_type->Q6,sysModules->Q8,cLine->Q_,sizeLine_eq->Rg,mem_of_lookup->Rh,FuncData->Rj,Pos->Ro,bootBuiltins->Ry,eval->Rz,wpAny_standAt->RG,assignEach->RI,cellsFrom->RO,Stmt->RP,Scope->RQ,backTo->RR,swapsWith->RW,swappedStores->RX,wpAny_typeNameOfWhole_keyiter->R1,foldedSetIterable->R3,binaryOp->Sb,pushCells->Sh,wpAny_askSetting->Si,NameKind->Sj,wpAny_setField->Sl,wpAny_passesOwn->Sr,letOwnedTupleGo->Ss,wpAny_truthy_bool->Sv,wpAny_typeNameOf_keyiter->SE,wpAny_forIn_list->SH,wpAny_isInstance->SI,wpAny_callSpecial?_slot->SN,wpAny_specialOf->Ta,behindInMarks->Te,attributeBase->Tf,rawInt->To,call->Ts,intKind_is->Tt,codeAny_mono->Tx,Keyword->TC,pushCells_keeps->TZ,wpAny_Call_Name_kw->T7,Model->T9,sliceBounds->Ua,DictEntry->Ub,noteFrame->Uc,standAt->Ug,wpAny_setState_of->Uq,wpAny_pyIter_slot->Ur,sizeLine->Ux,isSubtype_tuple_tuple->Uz,builtinLookup_eq_fast->UA,assign->UC,wpAny_rule->UD,pyNext->UE,valueAt->UL,wpAny_attempt->UM,Comprehension->UN,CmpOp->UO,keywordEach->UP,codeAny_call_builtin->UT,wpAny_execs_nil->UY,Params->UZ,wpAny_setEntries_of->U4,Env->U_,PassesOwn->Va,setFlight->Vb,typeLookup->Vf,wpAny_tupleItemsOf->Vi,isInstance->Vk,wpAny_seqItems->Vl,wpAny_fieldsOf->Vo,firstArgMember->Vp,Sem->Vy,wpAny_dictEntries->VD,wpAny_of_eq->VE,wpAny_field->VF,unsupported->VG,swapsWithSole->VH,typeOf->VJ,wpAny_newList->VL,wpAny_comprehension_free->VN,wpAny_eqBool_int->VP,Arguments->VQ,noFill_tuple_add->VR,compTurn->VU,Tok->V7,builtinsNs->V8,isTrue->V9,holding->Wa,wpAny_pyNext_list_item->Wb,wpAny_Call_method_late->We,wpAny_typeOf->Wo,call_meetsIn->Ws,wpAny_loadPart'->Ww,theTreesLotGoes->Wz,wpAny_dictEpoch->WA,typeLookup_type->WB,codeAny_builtin->WC,wpAny_pyNext_list_end->WD,wpAny_notOrdered_dict->WG,wpAny_isOneOf_keyiter->WI,rule->WQ,bindName->WR,Operator->WS,seqIndex_of->WU,backToKw->WV,setField->W8,wpAny_pyIter_keyiter->W9,isSubtype_type->W_,excClassObj->Xb,unbindBehindTheSuite->Xd,boot_len->Xf,callerA->Xg,collect->Xh,pickOrder->Xi,wpAny_isSubtype_exc->Xm,assignInOrder->Xq,seq_tuple_add->Xr,wpAny_call->Xw,PlainAttrs->XB,call_meets->XD,wpAny_eqBool_tuple->XG,getattributeRaised->XJ,bindArgs->XU,concat_meets->XX,seqIndex_neg->XY,eqIsQuiet_byValue->XZ,wpAny_storeSet_of->X4,atKey->X7,getAttr?->X8,wpAny_pyIter_list->X9,pyIter->Ye,eqIsQuiet->Yf,putSet_of->Yg,subscripted->Yj,storedH->Ym,entryOfKey->Yn,GenState->Yo,wpAny_Name->Yp,bindL->Yq,bindC->Yr,closureFor->Ys,entryFor->Yv,setsByText->Yw,fresh->Yy,ret->YC,again->YD,BindsTo->YF,leaving->YG,getItem->YH,relabel->YI
open Bool renaming true->Pa,false->Pc,and_eq_true->Pp,false_eq_true->P4,false_ne_true->QM,or_eq_true->Q4,not_true->Rb,not_eq_true'->Ru,eq_iff_iff->R_
open PySem.Heap renaming get?_push_of_some->Ph,lt_size->Px,get?_push_size->PR,get?_update_other->Qs,get?_update_self->Qu,SameBut->Ri,size_push->SK
open PySem.W renaming Frag->Pj,kia_one->QQ,kitOne->Ra,codeIn->RJ,nsIn->RY,cellsFrom_some->SQ,kit_cls->Td,Looks->Ti,mg_of->Tj,keepIn->Tr,kitCls->Tu,findIn->Uh,looks_findIn->UW,methodObj->Vx,kitx_list->Vz,kas_rev->VC,next->V_,fnOf->Wc,hashAt->Wj,kas_descPart->Wm,instObj->Wu,lookIn->WT,kitx_tuple->Xv,callWith_K->Xx,codeRec_of->Xy,mg_none_of->XM,kitx_dict->XS,kas_tail3->Yh,Looks->YE,kat_yes->YJ,kat_one->YK
open List renaming length_map->Pk,mem_cons_self->Pn,mem_cons_of_mem->Po,size_toArray->Pw,mem_append_right->PK,length_cons->PM,getElem?_eq_getElem->PN,getElem?_map->PV,map_cons->PY,length_append->P6,length_nil->P8,mem_of_getElem?->Qd,range->Qg,getElem?_append_right->Qh,append_assoc->Qj,mem_append_left->Qk,map_append->Qm,lookup_cons->Qo,all_eq_true->Qq,replicate->Qy,toArray->QF,append_nil->QL,getElem?_append_left->QP,filterMap_cons->Rf,map_map->Rk,getElem?_set->Rl,nodup_append->Rv,zip_cons_cons->RE,getD_eq_getElem?_getD->RL,extract_eq_drop_take->RS,length_replicate->RT,length_singleton->RU,take_append_drop->RV,length->RZ,getElem?_replicate->R4,getElem?_cons_succ->R5,map_congr_left->Se,mem_cons->Sf,all_cons->Sg,perm_append_comm->Sq,map_nil->Sw,any_cons->SD,mem_map_of_mem->SF,getElem?_cons_zero->SO,take_of_length_le->SS,find?_cons->S_,length_take->Tz,isEmpty_nil->TJ,getElem?_zip_eq_some->TK,getElem?_take_of_lt->TL,length_erase_of_mem->TU,getElem?_set_self->Ue,forIn_nil->Um,length_range->Uo,reverse_perm->Uw,eraseIdxIfInBounds_toArray->Uy,length_drop->UG,not_mem_nil->UI,forIn_cons->U2,getElem?_drop->Vm,perm_ext_iff_of_nodup->Vn,length_eraseIdx_of_lt->Vq,perm_append_singleton->Vs,mem_of_find?_eq_some->Vt,drop_eq_getElem_cons->Vv,eraseIdx_cons_succ->VS,ext_getElem->VW,getElem_mem->VX,drop_length->VZ,filter_cons_of_pos->V4,filter_cons_of_neg->V5,length_pos_of_mem->Wl,of_mem_zip->Wv,length_set->Wx,length_filter_le->WL,getElem?_set_ne->WO,pairwise_append->W3,mem_of_mem_take->W4,mem_of_mem_drop->W5,mem_erase_of_ne->W6,zip_nil_right->XA,mem_singleton->XN,take_sublist->XW,ext_getElem?->X5,lookup->Yk,map->YB
open Option.some renaming inj->Pm,injEq->R6
open Nat renaming le_refl->Pq,lt_of_lt_of_le->PJ,ne_of_lt->P5,le_trans->Qa,zero_le->Qb,lt_irrefl->Qf,exists_eq_add_of_le'->Qi,eq_of_beq_eq_true->QZ,ne_of_gt->RA,not_lt_zero->R8,lt_succ_of_lt->Sx,lt_trichotomy->Sy,beq->SG,lt_succ_self->SJ,lt_of_le_of_lt->SR,reduceAdd->Tn,le_of_lt->Tw,le_add_right->TF,add_assoc->TN,reduceSub->TY,lt_trans->U5,succ_pos->U6,add_sub_cancel_left->V1,le_of_eq->Wf,div_div_eq_div_mul->Wg,mod_lt->Wh,le_succ->WW,add_zero->X1,le_of_lt_succ->X2
open PyProof.Rows renaming wpS_bind->Pu,wpS_pure->PH,pendingOf->PU,Keyed->PZ,SortSt->P_,seqObj->Rx,SortKind->RF,elem'->RM,arrOf->R0,IntsAre->Sm,wpS_modify->SY,get?_update_seq->Tc,callWith_type1->Tp,listUpdate_at->TX,wpS_get->Ut,AllBare->UK,seqEpoch_at->UR,wpS_mono->UX,assignInOrder_cons->Ve,envOfC->VI,failedOf->VY,subscriptTail_builtinR->Wd,wpS->WN,lt_int->Xk,IsTup->Xp,subscriptTail->Xs,assignInOrder_nil->XR,oneLt_int->Yi,keyKind'->Yu,gallopOf->Yz
open Array renaming getElem?_eq_getElem->Pz,getD_eq_getD_getElem?->Ql,length_toList->QO,getElem?_toList->QY,toList_append->Q3,getElem?_eq_none->Rp,toList_push->Rt,perm_iff_toList_perm->RN,size_push->Sa,toList_extract->Sz,toList_reverse->Tv,toList_map->TH,size_append->Uv,mem_toList_iff->UU,getElem?_setIfInBounds->U0,forIn_toList->Vj,toList_setIfInBounds->Vr,toList_modify->Xo,getD->XH,size_extract->XI
open PySem.SetTable renaming below->PB,bits->PD,runEnd->Qe,insertAt->Qt,turns->RK,Probe->Sk,leap->Th,layClean->VB,grown->W7
open PySem.Value renaming ref->PQ,none->Qc,builtin->TQ,int->T8,bool->Vc,str->Yc
open List.Perm renaming append_left->Qw,trans->RD,append_right->S7,of_eq->T5
open PySem.Heap.SameBut renaming update->Qz
open PySem.Obj renaming data_mapFields->QN,mapSeq->Q5,isFreed_of_fields->Rw,mapFields->RH,cls_mapFields->Us
open Ne renaming symm->Q9
open PySem.NameKind renaming cell->Rc,free->Rm
open List.cons renaming inj->Rn,injEq->Tb
open PySem.Builtin.Tuple renaming tupleHashOf->Rq,tupleItemsOf->Vh
open False renaming elim->Rr
open ForInStep renaming yield->RC,done->Uu
open PySem.F renaming slot_dict_keyiterator_next->R9,slot_dict_get->Sn,entry_dict_get->SX,args_tuple_add_2->TM,entry_tuple_add->T_,plainAttrs_list->Ud,slot_tuple_add->Ui,typeOf_object_class->UB,args_dict_keyiterator_next_1->UH,entry_dict_keyiterator_next->US,slot_enumerate_iter->U9,slot_tuple_index->VO,slot_tuple_hash->VT,args_dict_get_2->V0,args_dict_get_3->V2,slot_tuple_eq->WE,slot_set_iter->WJ,slot_list_pop->WK,slot_set_add->Xa
open PySem.SeqAt renaming EqAt->SA,RcNeAt->U8,RcAt->Wr
open Int renaming emod_lt_of_pos->SU,emod_nonneg->T2,toNat_natCast->Uj,lt_of_lt_of_le->XQ,le_refl->Yl
open PySem.SetTable.layClean renaming free->SV
open PySem.Code renaming quiet_builtin->SW
open PySem.Challenge renaming rw_wallplan_k33_groups->Tq
open Prod.mk renaming injEq->TR
open List.Pairwise renaming imp_of_mem->TV
open PySem.W.KasT renaming kasWp_bind->T4,ret->Yt
open True renaming intro->T6
open PySem.Calls renaming callWith_builtin->Uk,evalArgs_plain->UQ,Name_function_global->Vd,call_function_entry->Vu,call_len_list->Xj
open Or renaming inl->Ul,inr->Vg
open Sum renaming inl->UJ,inr->Vw
open PySem.Builtin.Dict_items renaming ownsTuple->U1
open PySem.W.Frag renaming In->U3
open PySem.Builtin.List renaming listLengthHint->U7
open PySem.SetTable.probe renaming go->VA
open PySem.Builtin.Frozenset renaming addrOf->VM
open PySem.Builtin.Dict renaming updateFrom->V3,showsAll->WH
open PySem.PyData renaming weightAll->V6,leavesShortAll->WM,showableAll->XO,hasDictAll->Ya
open PyProof.Rows.SortSt renaming mk'->Wn
open PySem.SeqAt.EqAt renaming int_tuple->WX,str_tuple->WY,tuple_int->WZ,tuple_str->W0,int_str->Xt,str_int->Xu,int_int->Xz
open PySem.Around renaming under_plainId->Xe
open PySem.EntryCells renaming newEntry->Xl
open Function renaming comp_apply->Xn
open PySem.SetTable.below renaming go->X3
open PySem.pickOrder renaming go->X6
open PySem.W.KatTups renaming cons->X_
open PySem.PassesOwn renaming leaving->Yb
open PySem.Flow renaming next->Yd
open PUnit renaming unit->Yx
open PySem.Env renaming kindOf->YA
section
namespace PySem.W.Fast
noncomputable def te13052408679150730464:=0
noncomputable def te16555476440528808052:=0
noncomputable def te5452508617037859911:=0
noncomputable def te4868988410673395695:=0
end PySem.W.Fast
open PySem PySem.W PyProof.Rows
open_top head for PySem.Challenge.rw_wallplan_k33_groups
end
section
namespace L2
open PySem PySem.Spec PyProof.Rows
abbrev Key:=Sum Int PX
noncomputable def nq:Key->O_->Bool
 |.inl k,v=>Value.isInt k v|.inr x,v=>Value.isStrOf x v
noncomputable def MH(w:P0):Key->Int
 |.inl k=>hashInt k|.inr x=>hashStr w x
theorem aR:∀{k:Key}{v:O_},nq k v=Pa->(∃i t,k=UJ i/\v=T8 i t)\/(∃x t,k=Vw x/\v=Yc x t)
 |.inl i,v,h=>by
  obtain⟨t,e⟩:=Value.isInt_shape (k:=i) (v:=v) h;exact .inl ⟨i,t,rfl,e⟩|.inr x,v,h=>by
  obtain⟨t,e⟩:=Value.isStrOf_shape (x:=x) (v:=v) h;exact .inr ⟨x,t,rfl,e⟩
theorem wH(i:Int)(t:V7):nq (.inl i) (.int i t)=Pa:=by simp[nq,Value.isInt]
theorem wI(x:PX)(t:V7):nq (.inr x) (.str x t)=Pa:=by simp[nq,Value.isStrOf]
theorem Fh(a b:Int):decide ((UJ a:Key)=UJ b)=(a==b):=by
 by_cases e:a=b;.subst e;simp
 .have h:¬(UJ a:Key)=UJ b:=λq=>e (Sum.inl.inj q);rw[decide_eq_false h];exact(beq_eq_false_iff_ne.mpr e).symm
theorem Fj(a b:PX):decide ((Vw a:Key)=Vw b)=decide (a=b):=by
 by_cases e:a=b;.subst e;simp
 .have h:¬(Vw a:Key)=Vw b:=λq=>e (Sum.inr.inj q);rw[decide_eq_false h,decide_eq_false e]
theorem Fk(a:Int)(b:PX):decide ((UJ a:Key)=Vw b)=Pc:=decide_eq_false (λq=>nomatch q)
theorem Fm(a:PX)(b:Int):decide ((Vw a:Key)=UJ b)=Pc:=decide_eq_false (λq=>nomatch q)
noncomputable def aq(prog:PF)(w:P0):PySem.KeyKind prog w Key where
 is:=nq;hash:=MH w;inj:=λv a b ha hb=>by
  rcases aR ha with⟨i,t,rfl,rfl⟩|⟨x,t,rfl,rfl⟩
  .rcases aR hb with⟨j,u,rfl,e⟩|⟨y,u,rfl,e⟩;.injection e with c _;rw[c]
   .exact nomatch e
  .rcases aR hb with⟨j,u,rfl,e⟩|⟨y,u,rfl,e⟩;.exact nomatch e
   .injection e with c _;rw[c]
 byValue:=λk v h=>by rcases aR h with⟨i,t,rfl,rfl⟩|⟨x,t,rfl,rfl⟩<;>rfl
 pyHash:=λd h=>by
  rcases aR d with⟨i,t,rfl,rfl⟩|⟨x,t,rfl,rfl⟩;.exact wpAny_pyHash_int h
  .exact wpAny_pyHash_str h
 eqBool:=λhu d h=>by
  rcases aR hu with⟨i,t,rfl,rfl⟩|⟨x,t,rfl,rfl⟩
  .rcases aR d with⟨j,u,rfl,rfl⟩|⟨y,u,rfl,rfl⟩;.rw[Fh]at h;exact VP h
   .rw[Fk]at h;exact Xt i t y u _ _ _ _ h
  .rcases aR d with⟨j,u,rfl,rfl⟩|⟨y,u,rfl,rfl⟩;.rw[Fm]at h;exact Xu x t j u _ _ _ _ h
   .rw[Fj]at h;exact wpAny_eqBool_str h
 «strs»:=λk x t v h=>by
  rcases aR h with⟨i,u,rfl,e⟩|⟨y,u,rfl,e⟩;.exact nomatch e
  .injection e with c _;subst c;cases v<;>rfl
theorem jZ(prog:PF)(w:P0)(i:Int)(t:V7):(aq prog w).is (.inl i) (.int i t)=Pa:=wH i t
theorem qy(prog:PF)(w:P0)(x:PX)(t:V7):(aq prog w).is (.inr x) (.str x t)=Pa:=wI x t
end L2
namespace L2
open PySem PySem.Spec PyProof.Rows
inductive V where|bH|bl(b:Bool)|int(i:Int)|str(x:PX)|Fo(b:Array UInt8)|Jf(b:UInt64)|ref(a:Pg)|ty(n:String)deriving DecidableEq
noncomputable def RelV:V->O_->Prop
 |.bH,u=>u=Qc|.bl b,u=>u=Vc b|.int i,u=>∃t,u=T8 i t|.str x,u=>∃t,u=Yc x t|.Fo b,u=>∃t,u=Value.bytes b t|.Jf b,u=>∃t,u=Value.float b t|.ref a,u=>u=PQ a|.ty n,u=>u=Value.type n
noncomputable abbrev ar:List V->List O_->Prop:=Paired RelV
theorem ar.length{xs:List V}{us:List O_}(r:ar xs us):xs.length=us.length:=Paired.length r
theorem ar.get:∀{xs:List V}{us:List O_}{i:Nat}{x:V},ar xs us->xs[i]?=O7 x->∃u,us[i]?=O7 u/\RelV x u
 |_,_,_,_,.nil,e=>by simp at e|_,_,0,_,.cons r _,e=>by simp at e;subst e;exact⟨_,rfl,r⟩|_,_,i+1,x,.cons _ t,e=>by
  obtain⟨u,b,a⟩:=ar.get (i:=i) (x:=x) t (by simpa using e);exact⟨u,by simpa using b,a⟩
theorem ar.set{x:V}{u:O_}(r:RelV x u):∀{xs:List V}{us:List O_}(i:Nat),ar xs us->ar (xs.set i x) (us.set i u)
 |_,_,_,.nil=>.nil|_,_,0,.cons _ t=>.cons r t|_,_,i+1,.cons q t=>.cons q (ar.set r i t)
theorem ar.append:∀{xs a:List V}{us ws:List O_},ar xs us->ar a ws->ar (xs++a) (us++ws)
 |_,_,_,_,.nil,s=>s|_,_,_,_,.cons r t,s=>.cons r (ar.append t s)
theorem ar.take:∀{xs:List V}{us:List O_}(n:Nat),ar xs us->ar (xs.take n) (us.take n)
 |_,_,0,_=>.nil|_,_,_+1,.nil=>.nil|_,_,n+1,.cons r t=>.cons r (ar.take n t)
theorem ar.drop:∀{xs:List V}{us:List O_}(n:Nat),ar xs us->ar (xs.drop n) (us.drop n)
 |_,_,0,r=>r|_,_,_+1,.nil=>.nil|_,_,n+1,.cons _ t=>ar.drop n t
noncomputable def hZ:Option V->Option O_->Prop
 |some v,O7 u=>RelV v u|none,Pb=>True|_,_=>False
noncomputable def KV{a:Type}:List (a×V)->List (a×O_)->Prop:=Paired λ(p:a×V)(q:a×O_)=>p.1=q.1/\RelV p.2 q.2
noncomputable def kV:Key->V
 |.inl i=>.int i|.inr x=>.str x
inductive HO where|lst(xs:List V)|tup(xs:List V)|dK(kvs:List (Key×V))|dT(kvs:List (List Key×V))|set(S:Int->Bool)(n:Nat)|ins(C dx:Pg)(fs:List (PX×V))|own(x:Pg)|xd(fs:List (PX×V))|met(f x:Pg)|yo(lo hi:Int)|bQ(o:Qx)(u:HO)|yg(ps:Array O_)|ext(φ:P7->Prop)
abbrev Hp:=Pg->Option HO
noncomputable def upd(H:Hp)(a:Pg)(o:HO):Hp:=λb=>if b=a then O7 o else H b
theorem ah{H:Hp}{a:Pg}{o:HO}:upd H a o a=O7 o:=by unfold upd;rw[if_pos rfl]
theorem ai{H:Hp}{a b:Pg}{o:HO}(h:b≠a):upd H a o b=H b:=by unfold upd;rw[if_neg h]
theorem bF{H:Hp}{a:Pg}{o u:HO}:upd (upd H a o) a u=upd H a u:=by funext b;unfold upd;split<;>rfl
theorem aF{H:Hp}{a b:Pg}{o:HO}(h:H a=O7 o)(h':H b=Pb):a≠b:=by intro e;subst e;rw[h]at h';cases h'
section
variable(P:PF)(w:P0)
noncomputable def aX(H:Hp)(h:P7)(a:Pg):HO->Prop
 |.lst d=>d.length<=Pl/\∃(c:List O_)(n:Nat),ar d c/\h.get? a=O7 {cls:=.type "list",data:=.seq c.toArray n}|.tup d=>d.length<=Pl/\∃c:List O_,ar d c/\Xp h a c.toArray|.dK b=>b.length<=Pl/\(a==Q8)=Pc/\∃j,KV b j/\h.DictOf (aq P w) a j|.dT b=>b.length<=Pl/\(a==Q8)=Pc/\∃d:List (List Key×Pg×O_),Paired (λ(p:List Key×V)(q:List Key×Pg×O_)=>p.1=q.1/\H q.2.1=O7 (.tup (p.1.map kV))/\RelV p.2 q.2.2) b d/\∃o m r,h.get? a=O7 o/\o.ExactDict/\o.data=.dict m r/\m.toList=d.map (Yn (tupleKind (aq P w)))/\(d.map (·.1)).Nodup|.set S n=>h.SetOf (Qr P w) a S n|.ins C g fs=>H g=O7 (.own a)/\fs.length<=1000/\g≠a/\h.get? a=O7 (Wu C g)/\∃e,h.Ns1 g e/\(∀f,hZ (fs.lookup f) (e f))/\PySem.Within e (fs.map (·.1))|.own _=>∃o,h.get? a=O7 o|.xd fs=>∃e,h.Ns1 a e/\∀f,hZ (fs.lookup f) (e f)|.yo lo hi=>∃t u v,h.get? a=O7 {cls:=.type "range",data:=.fields #[.int lo t,.int hi u,.int 1 v]}|.bQ o u=>h.get? a=O7 o/\aX H h a u|.yg ps=>h.get? a=O7 {cls:=.none,data:=.fields ps}|.met f x=>h.get? a=O7 (Vx (.ref f) (.ref x))|.ext i=>i h/\(∃o,h.get? a=O7 o)/\∀l k:P7,i l->(∀o,l.get? a=O7 o->k.get? a=O7 o)->i k
noncomputable def gQ(H:Hp)(h:P7):Prop:=∀a o,H a=O7 o->aX P w H h a o
end
section
variable{P:PF}{w:P0}{H H':Hp}{h h':P7}{a:Pg}{o:HO}
theorem aX.lt(x:aX P w H h a o):a<h.objs.size:=by cases o with
 |lst c=>obtain⟨_,_,_,_,e⟩:=x;exact Px e|tup c=>obtain⟨_,_,_,p⟩:=x;exact p.lt|dK b=>obtain⟨_,_,_,_,o,_,_,e,_⟩:=x;exact Px e|dT b=>obtain⟨_,_,_,_,o,_,_,e,_⟩:=x;exact Px e|set S n=>obtain⟨o,_,_,_,e,_⟩:=x;exact Px e|ins C g fs=>obtain⟨_,_,_,e,_⟩:=x;exact Px e|own y=>obtain⟨_,e⟩:=x;exact Px e|xd fs=>obtain⟨_,⟨_,_,_,e,_⟩,_⟩:=x;exact Px e|yo lo hi=>obtain⟨_,_,_,e⟩:=x;exact Px e|bQ ob u=>obtain⟨e,_⟩:=x;exact Px e|yg ps=>exact Px (show h.get? a=O7 _ from x)|met f y=>exact Px (show h.get? a=O7 _ from x)|ext d=>obtain⟨_,⟨_,e⟩,_⟩:=x;exact Px e
theorem Paired.Fp{d c:Type}{F G:d->c->Prop}:∀{l₁:List d}{l₂:List c},Paired F l₁ l₂->(∀a b,F a b->G a b)->Paired G l₁ l₂
 |_,_,.nil,_=>.nil|_,_,.cons r t,f=>.cons (f _ _ r) (Paired.Fp t f)
theorem aX.h_(x:aX P w H h a o)(k:∀b u,(b=a\/H b=O7 (.own a))->h.get? b=O7 u->h'.get? b=O7 u)(E:∀b,H b=O7 (.own a)->H' b=O7 (.own a))(D:∀b xs,H b=O7 (.tup xs)->H' b=O7 (.tup xs)):aX P w H' h' a o:=by induction o with
 |lst xs=>obtain⟨z,j,n,r,e⟩:=x;exact⟨z,j,n,r,k _ _ (.inl rfl) e⟩|tup xs=>obtain⟨z,j,r,ob,e,c⟩:=x;exact⟨z,j,r,ob,k _ _ (.inl rfl) e,c⟩|dK s=>obtain⟨z,y,A,r,ob,g,i,e,c⟩:=x;exact⟨z,y,A,r,ob,g,i,k _ _ (.inl rfl) e,c⟩|dT s=>
  obtain⟨z,y,xs,r,ob,g,i,e,c⟩:=x;exact⟨z,y,xs,Paired.Fp r λp q z=>⟨z.1,D _ _ z.2.1,z.2.2⟩,ob,g,i,k _ _ (.inl rfl) e,c⟩|set S n=>obtain⟨ob,g,i,t,e,c⟩:=x;exact⟨ob,g,i,t,k _ _ (.inl rfl) e,c⟩|ins C I fs=>
  obtain⟨d,z,ne,e,m,⟨l,g,i,F,c⟩,r⟩:=x;exact⟨E _ d,z,ne,k _ _ (.inl rfl) e,m,⟨l,g,i,k _ _ (.inr d) F,c⟩,r⟩|own y=>obtain⟨ob,e⟩:=x;exact⟨ob,k _ _ (.inl rfl) e⟩|xd fs=>obtain⟨m,⟨l,g,i,e,c⟩,r⟩:=x;exact⟨m,⟨l,g,i,k _ _ (.inl rfl) e,c⟩,r⟩|yo lo hi=>obtain⟨t,u,v,e⟩:=x;exact⟨t,u,v,k _ _ (.inl rfl) e⟩|bQ ob u B=>obtain⟨e,q⟩:=x;exact⟨k _ _ (.inl rfl) e,B q⟩|yg ps=>
  have e:h.get? a=O7 {cls:=.none,data:=.fields ps}:=x;show h'.get? a=O7 {cls:=.none,data:=.fields ps};exact k a _ (.inl rfl) e|met f y=>
  have e:h.get? a=O7 (Vx (.ref f) (.ref y)):=x;show h'.get? a=O7 (Vx (.ref f) (.ref y));exact k a _ (.inl rfl) e|ext G=>obtain⟨p,⟨o,e⟩,st⟩:=x;exact⟨st _ _ p λo q=>k _ _ (.inl rfl) q,⟨o,k _ _ (.inl rfl) e⟩,st⟩
theorem gQ.lt(x:gQ P w H h)(e:H a=O7 o):a<h.objs.size:=(x a o e).lt
theorem gQ.fresh(x:gQ P w H h)(e:h.objs.size<=a):H a=Pb:=by cases q:H a with
 |none=>rfl|some u=>exact absurd (PJ (x.lt q) e) (Qf _)
theorem gQ.kept(x:gQ P w H h)(k:∀b u,h.get? b=O7 u->h'.get? b=O7 u):gQ P w H h':=λa o e=>(x a o e).h_ (λb u _ q=>k b u q) (λ_ q=>q) λ_ _ q=>q
theorem gQ.laid(x:gQ P w H h)(k:∀b u,h.get? b=O7 u->h'.get? b=O7 u)(f:h.objs.size<=a)(new:aX P w (upd H a o) h' a o):gQ P w (upd H a o) h':=λb u e=>by
 have d:=x.fresh f;by_cases hb:b=a;.subst hb;rw[ah]at e;cases e;exact new
 .rw[ai hb]at e;exact(x b u e).h_ (λc v _ q=>k c v q) (λc q=>by rw[ai (aF q d)];exact q) λc g q=>by rw[ai (aF q d)];exact q
end
noncomputable def Rd(H:Hp)(a:Pg)(u:HO):Prop:=H a=O7 u\/∃o,H a=O7 (.bQ o u)
theorem Rd.ok{P:PF}{w:P0}{H:Hp}{h:P7}{a:Pg}{u:HO}(r:Rd H a u)(x:gQ P w H h):aX P w H h a u:=by
 rcases r with r|⟨o,r⟩;.exact x a u r
 .obtain⟨_,q⟩:=x a _ r;exact q
noncomputable def JA:Option HO->Prop
 |some (.lst _)=>True|some (.dK _)=>True|some (.dT _)=>True|some (.set _ _)=>True|some (.ins _ _ _)=>True|some (.ext _)=>True|_=>False
section
variable{P:PF}{w:P0}{H:Hp}{h h':P7}{x e:Pg}{o':HO}
theorem gQ.write(ok:gQ P w H h)(i:JA (H x))(n:e=x\/H e=O7 (.own x))(k:∀b u,b≠e->h.get? b=O7 u->h'.get? b=O7 u)(l:∃u,h'.get? e=O7 u)(new:aX P w (upd H x o') h' x o'):gQ P w (upd H x o') h':=λb u q=>by
 have d:∀c y,H c=O7 (.own y)->c≠x:=λc y r z=>by subst z;rw[r]at i;exact i
 have f:∀c g,H c=O7 (.tup g)->c≠x:=λc g r z=>by subst z;rw[r]at i;exact i
 by_cases hb:b=x;.subst hb;rw[ah]at q;cases q;exact new
 .rw[ai hb]at q;by_cases a:b=e
  .have m:H b=O7 (.own x):=by
    rcases n with z|z;.exact absurd (a.trans z) hb
    .rw[a];exact z
   rw[q]at m;cases m;obtain⟨v,o⟩:=l;exact⟨v,by rw[a];exact o⟩
  .refine(ok b u q).h_ (λc v j r=>k c v ?_ r) (λc r=>by rw[ai (d c b r)];exact r) λc g r=>by rw[ai (f c g r)];exact r
   rcases j with rfl|j;.exact a
   .rintro rfl;rcases n with z|z;.exact d c b j z
    .rw[j]at z;cases z;exact hb rfl
end
structure Un(fs ex:List Pg)(H H':Hp)(h h':P7):Prop where
 keep:∀b o,h.get? b=O7 o->H b=Pb->b∉fs->b∉ex->h'.get? b=O7 o
 slot:∀b o,h.get? b=O7 o->H b=Pb->b∈fs->b∉ex->∃sl,h'.get? b=O7 {o with slots:=sl}free:∀b o,h.get? b=O7 o->H b=Pb->b∉ex->H' b=Pb
 there:∀b o,h.get? b=O7 o->b∉ex->∃o',h'.get? b=O7 o'
 ic:∀b xs,H b=O7 (.tup xs)->H' b=O7 (.tup xs)gR:∀b o u,H b=O7 (.bQ o u)->H' b=O7 (.bQ o u)ie:∀b ps,H b=O7 (.yg ps)->∃more,H' b=O7 (.yg (ps++more))
section
variable{fs fs' ex ex':List Pg}{H H1 H2:Hp}{h h1 h2 h':P7}{a x e:Pg}{o:HO}
theorem Un.any(u:Un fs ex H H1 h h1){b:Pg}{ob:Qx}(q:h.get? b=O7 ob)(n:H b=Pb)(c:b∉ex):∃d,h1.get? b=O7 {ob with slots:=d}:=by
 by_cases hb:b∈fs;.exact u.slot b ob q n hb c
 .exact⟨ob.slots,u.keep b ob q n hb c⟩
theorem Un.kept(k:∀b u,h.get? b=O7 u->h'.get? b=O7 u):Un fs ex H H h h':=⟨λb ob q _ _ _=>k b ob q,λb ob q _ _ _=>⟨ob.slots,k b ob q⟩,λ_ _ _ n _=>n,λb ob q _=>⟨ob,k b ob q⟩,λ_ _ q=>q,λ_ _ _ q=>q,λ_ ps q=>⟨#[],by rw[q];simp⟩⟩
theorem Un.refl:Un fs ex H H h h:=Un.kept λ_ _ q=>q
theorem Un.laid(k:∀b u,h.get? b=O7 u->h'.get? b=O7 u)(f:h.objs.size<=a)(c:H a=Pb):Un fs ex H (upd H a o) h h' where
 keep:=λb u q _ _ _=>k b u q;slot:=λb u q _ _ _=>⟨u.slots,k b u q⟩;free:=λb u q n _=>by rw[ai (P5 (PJ (Px q) f))];exact n
 there:=λb u q _=>⟨u,k b u q⟩;ic:=λb d q=>by rw[ai (aF q c)];exact q
 gR:=λb u d q=>by rw[ai (aF q c)];exact q
 ie:=λb ps q=>⟨#[],by rw[ai (aF q c),q];simp⟩
theorem Un.write(d:JA (H x))(l:e=x\/H e=O7 (.own x))(k:∀b u,b≠e->h.get? b=O7 u->h'.get? b=O7 u)(g:∃u,h'.get? e=O7 u):Un fs ex H (upd H x o) h h':=by
 have i:∀b,H b=Pb->b≠x:=λb n z=>by subst z;rw[n]at d;exact d
 have hb:∀b,H b=Pb->b≠e:=λb n z=>by
  subst z;rcases l with r|r;.exact i b n r
  .rw[n]at r;cases r
 have f:∀b u,H b=O7 u->¬JA (O7 u)->b≠x:=λb u q nm z=>by subst z;rw[q]at d;exact nm d
 refine⟨λb u q n _ _=>k b u (hb b n) q,λb u q n _ _=>⟨u.slots,k b u (hb b n) q⟩,λb u q n _=>by rw[ai (i b n)];exact n,λb u q _=>?_,λb j q=>by rw[ai (f b _ q λz=>z)];exact q,λb u j q=>by rw[ai (f b _ q λz=>z)];exact q,λb ps q=>⟨#[],by rw[ai (f b _ q λz=>z),q];simp⟩⟩;by_cases c:b=e;.subst c;exact g
 .exact⟨u,k b u c q⟩
end
noncomputable def Mj(h:P7)(H:Hp):List Pg:=(Qg h.objs.size).filter λa=>(H a).isSome
noncomputable def oJ(h:P7)(H:Hp):P7:=PySem.W.hideAll h (Mj h H)
theorem wJ(h:P7)(H:Hp):(oJ h H).objs.size=h.objs.size:=PySem.W.hideAll_size _ _
theorem yq{h:P7}{H:Hp}{b:Pg}{o:Qx}(e:h.get? b=O7 o)(n:H b=Pb):(oJ h H).get? b=O7 o:=PySem.W.hideAll_get _ e λa=>by
  have q:(H b).isSome=Pa:=(List.mem_filter.mp a).2;rw[n]at q;simp at q
theorem BP{h:P7}{H:Hp}{b:Pg}{o:Qx}(e:(oJ h H).get? b=O7 o):h.get? b=O7 o/\H b=Pb:=by
 have a:h.get? b=O7 o:=PySem.W.of_hideAll (Mj h H) e;refine⟨a,?_⟩;cases q:H b with
 |none=>rfl|some x=>
  have c:b∈Mj h H:=List.mem_filter.mpr ⟨List.mem_range.mpr (Px a),by simp[q]⟩;have z:(oJ h H).get? b=Pb:=PySem.W.hideAll_none (Mj h H) c;rw[z]at e;cases e
end L2
namespace L2
open PySem PySem.Spec PyProof.Rows
structure Mod(K:Pj)(mg:PX->Option O_)(base:P7):Prop where
 Fq:K.In base
 glob:base.Ns Qp mg
 blt:∃mb,base.Ns V8 mb/\∀x:PX,x≠"__name__"->mb x=Ry x
 nolimit:base.NoLimit
structure Cx where
 prog:PF
 w:P0
 K:Pj
 mg:PX->Option O_
 base:P7
 A:P9
 N:List PX
 bI:Pe
 ig:Hp
 env:U_
 outer:List U_
 stack:List U_
 ex:List Pg
 fn:PX->Bool
 calm:Bool
 pn:List (Pg×Qx)xe:O_->Pe->Prop
noncomputable def gS(l:List U_):List Pg:=l.filterMap (·.frame)
noncomputable abbrev Cx.fs(X:Cx):List Pg:=gS X.outer
noncomputable def s_(sc:RQ)(x:PX):Prop:=sc.names.lookup x=O7 .local\/sc.names.lookup x=O7 .cell\/sc.names.lookup x=O7 .free
noncomputable def Loc(sc:RQ)(x:PX):Prop:=sc.names.lookup x=O7 .local\/sc.names.lookup x=O7 .cell
noncomputable def Look(env:U_)(h:P7)(m:PX->Option O_)(x:PX)(u:O_):Prop:=(env.kindOf x=O7 .local/\m x=O7 u)\/((env.kindOf x=O7 .cell\/env.kindOf x=O7 .free)/\∃c,env.cells.lookup x=O7 c/\h.IsCell c (O7 u))
structure Cx.Ok(X:Cx):Prop where
 mod:Mod X.K X.mg X.base
 kind:X.env.scope.kind=.function
 glob:X.env.globals=Qp
 blt:X.env.builtins=V8
 above:X.bI.heap.objs.size<=X.env.locals
 inj:∀x y c,X.env.cells.lookup x=O7 c->X.env.cells.lookup y=O7 c->x=y
 has:∀x,(X.env.kindOf x=O7 .cell\/X.env.kindOf x=O7 .free)->∃c,X.env.cells.lookup x=O7 c
 Fs:∀x c,X.fn x=Pa->X.env.cells.lookup x=O7 c->X.bI.heap.objs.size<=c
 hd:X.calm=Pa->X.A.handled=Pb
 frames:X.A.frames=O7 X.stack
 Jg:X.stack=X.outer\/(X.stack=X.env::X.outer/\X.env.frame=O7 X.env.locals)Mk:∀b∈X.ex,b≠X.env.locals/\∀x c,X.env.cells.lookup x=O7 c->c≠b
 bs:∀b o,X.base.get? b=O7 o->X.bI.heap.get? b=O7 o/\X.ig b=Pb
 BL:X.base.objs.size<=X.bI.heap.objs.size
 tq:∀b o,X.base.get? b=O7 o->b∉X.ex
 wK:∀b∈X.ex,b∉X.fs
 jI:X.bI.heap.FunFrames X.base X.outer
 Eu:∀b∈X.fs,X.ig b=Pb
structure Inv(X:Cx)(pins:List (Pg×Qx))(σ:List (Option V))(H:Hp)(s:Pe):Prop where
 ok:X.Ok
 os:s.os=X.bI.os
 bare:UK s.gens
 base:Un X.fs X.ex X.ig H X.bI.heap s.heap
 loc:∃m,s.heap.Ns X.env.locals m/\∀(i:Nat)(x:PX)(v:V),X.N[i]?=O7 x->σ[i]?=O7 (O7 v)->s_ X.env.scope x->∃u,RelV v u/\Look X.env s.heap m x u
 cell:∀x c,X.env.cells.lookup x=O7 c->∃v,s.heap.IsCell c v
 free:H X.env.locals=Pb
 cQ:∀x c,X.env.cells.lookup x=O7 c->H c=Pb
 pin:∀p∈X.pn++pins,s.heap.get? p.1=O7 p.2/\H p.1=Pb/\p.1≠X.env.locals/\p.1∉X.fs/\∀v,p.2.data≠.cell v
 aH:gQ X.prog X.w H s.heap
 len:σ.length=X.N.length
section
variable{X:Cx}{pins:List (Pg×Qx)}{σ:List (Option V)}{H H':Hp}{s:Pe}{h':P7}
theorem Cx.Ok.MI(ok:X.Ok){b:Pg}{o:Qx}(e:X.base.get? b=O7 o):b∉X.fs:=λhb=>by
 have:=(ok.jI.mem hb).1;rw[e]at this;cases this
theorem Inv.bs(I:Inv X pins σ H s):∀b o,X.base.get? b=O7 o->s.heap.get? b=O7 o/\H b=Pb:=λb o e=>⟨I.base.keep b o (I.ok.bs b o e).1 (I.ok.bs b o e).2 (I.ok.MI e) (I.ok.tq b o e),I.base.free b o (I.ok.bs b o e).1 (I.ok.bs b o e).2 (I.ok.tq b o e)⟩
theorem Inv.bk(I:Inv X pins σ H s):∀b o,X.base.get? b=O7 o->s.heap.get? b=O7 o:=λb o e=>(I.bs b o e).1
theorem Inv.mod(I:Inv X pins σ H s):Mod X.K X.mg X.base:=I.ok.mod
theorem Inv.jH(I:Inv X pins σ H s):X.K.In s.heap:=I.ok.mod.Fq.keeps I.bk
theorem Inv.lt(I:Inv X pins σ H s):X.env.locals<s.heap.objs.size:=let⟨_,a,_⟩:=I.loc;a.lt
theorem Inv.sz(I:Inv X pins σ H s):X.bI.heap.objs.size<=s.heap.objs.size:=Qa I.ok.above (Tw I.lt)
theorem Inv.BQ(I:Inv X pins σ H s){a:Pg}(h:s.heap.objs.size<=a):a∉X.fs:=λhb=>by
 obtain⟨_,o,b,_⟩:=I.ok.jI.mem hb;exact absurd (PJ (Px b) (Qa I.sz h)) (Qf _)
theorem Inv.yr(I:Inv X pins σ H s):∀x c,X.env.cells.lookup x=O7 c->c≠X.env.locals:=λx c e z=>by
 obtain⟨v,o,d,hd⟩:=I.cell x c e;obtain⟨m,⟨f,g,h,a,b,_⟩,_⟩:=I.loc;rw[z,a]at d;cases d;rw[b]at hd;cases hd
theorem Inv.jI(I:Inv X pins σ H s):s.heap.FunFrames X.base X.outer:=by
 have all:∀(l:List U_),(∀b∈gS l,b∈X.fs)->X.bI.heap.FunFrames X.base l->s.heap.FunFrames X.base l:=by
  intro l;induction l with
  |nil=>intro _ _;trivial|cons env r f=>
   intro d j;obtain⟨k,⟨L,o,a,i,h,hd⟩,g⟩:=j;have c:L∈X.fs:=d L (by unfold gS;rw[Rf,a];exact Pn);obtain⟨m,e⟩:=I.base.slot L o h (I.ok.Eu L c) c λz=>I.ok.wK L z c;exact⟨k,⟨L,_,a,i,e,hd⟩,f (λb hb=>d b (by unfold gS;rw[Rf,a];exact Po _ hb)) g⟩
 exact all X.outer (λ_ hb=>hb) I.ok.jI
theorem Inv.stack(I:Inv X pins σ H s):s.heap.FunFrames X.base X.stack:=by
 rcases I.ok.Jg with e|⟨e,b⟩;.rw[e];exact I.jI
 .rw[e];obtain⟨m,a,_⟩:=I.loc;refine .cons (by rw[I.ok.kind];decide) b a ?_ I.jI;exact Heap.get?_none_of_le (Qa I.ok.BL I.ok.above)
theorem Inv.ij(I:Inv X pins σ H s):∀b∈gS X.stack,b∈X.env.locals::X.fs:=λb hb=>by
 rcases I.ok.Jg with e|⟨e,a⟩;.rw[e]at hb;exact Po _ hb
 .rw[e]at hb;unfold gS at hb;rw[Rf,a]at hb;exact hb
theorem Inv.kE(I:Inv X pins σ H s):∀b∈gS X.stack,H b=Pb:=λb hb=>by
 rcases List.mem_cons.mp (I.ij b hb)with e|hb;.rw[e];exact I.free
 .obtain⟨_,o,a,_⟩:=I.ok.jI.mem hb;exact I.base.free b o a (I.ok.Eu b hb) λz=>I.ok.wK b z hb
theorem Inv.step{g':Array Yo}{t':Nat}{d':Drawn}{ch:List Pg}(I:Inv X pins σ H s)(g:∀b∈ch,(b∈X.ex\/X.bI.heap.objs.size<=b)/\b≠X.env.locals/\(∀x c,X.env.cells.lookup x=O7 c->c≠b)/\∀p∈X.pn++pins,p.1≠b)(keep:∀b o,b≠X.env.locals->b∉X.fs->b∉ch->s.heap.get? b=O7 o->H b=Pb->h'.get? b=O7 o)(slot:∀b o,b≠X.env.locals->b∈X.fs->b∉ch->s.heap.get? b=O7 o->H b=Pb->∃F,h'.get? b=O7 {o with slots:=F})(free:∀b o,b∉ch->s.heap.get? b=O7 o->H b=Pb->H' b=Pb)(there:∀b o,b∉ch->s.heap.get? b=O7 o->∃o',h'.get? b=O7 o')(ic:∀b xs,H b=O7 (.tup xs)->H' b=O7 (.tup xs))(gR:∀b o u,H b=O7 (.bQ o u)->H' b=O7 (.bQ o u))(ie:∀b ps,H b=O7 (.yg ps)->∃B,H' b=O7 (.yg (ps++B)))(ns:∀m,s.heap.Ns X.env.locals m->h'.Ns X.env.locals m)(aH:gQ X.prog X.w H' h')(P:UK g'):Inv X pins σ H' {s with heap:=h',gens:=g',drawn:=d',toks:=t'}:=by
 have A:∀b o,X.bI.heap.get? b=O7 o->b≠X.env.locals:=λb o e=>P5 (PJ (Px e) I.ok.above);have j:∀b o,X.bI.heap.get? b=O7 o->b∉X.ex->b∉ch:=λb o e a hb=>by
  rcases(g b hb).1 with z|z;.exact a z
  .exact absurd (PJ (Px e) z) (Qf _)
 have h:∀x c,X.env.cells.lookup x=O7 c->∀v,s.heap.IsCell c v->h'.IsCell c v:=λx c e v D=>by
  obtain⟨o,y,hd⟩:=D;have f:c∉ch:=λz=>(g c z).2.2.1 x c e rfl;by_cases K:c∈X.fs
  .obtain⟨F,q⟩:=slot c o (I.yr x c e) K f y (I.cQ x c e);exact⟨_,q,hd⟩
  .exact⟨o,keep c o (I.yr x c e) K f y (I.cQ x c e),hd⟩
 refine⟨I.ok,I.os,P,⟨λb o e n hb a=>?_,λb o e n hb a=>?_,λb o e n a=>?_,λb o e a=>?_,λb xs e=>ic b xs (I.base.ic b xs e),λb o xs e=>gR b o xs (I.base.gR b o xs e),λb ps e=>?_⟩,?_,λx c e=>?_,?_,λx c e=>?_,λp J=>?_,aH,I.len⟩;.exact keep b o (A b o e) hb (j b o e a) (I.base.keep b o e n hb a) (I.base.free b o e n a)
 .obtain⟨F,t⟩:=I.base.slot b o e n hb a;obtain⟨E,C⟩:=slot b _ (A b o e) hb (j b o e a) t (I.base.free b o e n a);exact⟨E,C⟩
 .obtain⟨o',t⟩:=I.base.there b o e a;exact free b o' (j b o e a) t (I.base.free b o e n a)
 .obtain⟨o',t⟩:=I.base.there b o e a;exact there b o' (j b o e a) t
 .obtain⟨M,t⟩:=I.base.ie b ps e;obtain⟨L,C⟩:=ie b _ t;exact⟨M++L,by rw[C,Array.append_assoc]⟩
 .obtain⟨m,N,O⟩:=I.loc;refine⟨m,ns m N,λi x v t C Q=>?_⟩;obtain⟨u,r,l⟩:=O i x v t C Q;refine⟨u,r,?_⟩;rcases l with l|⟨k,c,e,z⟩;.exact .inl l
  .exact .inr ⟨k,c,e,h x c e _ z⟩
 .obtain⟨v,z⟩:=I.cell x c e;exact⟨v,h x c e v z⟩
 .obtain⟨m,⟨o,_,_,y,_⟩,_⟩:=I.loc;exact free _ o (λz=>(g _ z).2.1 rfl) y I.free
 .obtain⟨v,o,y,hd⟩:=I.cell x c e;exact free c o (λz=>(g c z).2.2.1 x c e rfl) y (I.cQ x c e)
 .obtain⟨e,n,ne,G,d⟩:=I.pin p J;have f:p.1∉ch:=λz=>(g p.1 z).2.2.2 p J rfl;exact⟨keep p.1 p.2 ne G f e n,free p.1 p.2 f e n,ne,G,d⟩
theorem Inv.un{t':Nat}(I:Inv X pins σ H s)(u:Un X.fs [] H H' s.heap h')(aH:gQ X.prog X.w H' h'):Inv X pins σ H' {s with heap:=h',toks:=t'}:=by
 obtain⟨m,⟨o,p,q,f,r⟩,_⟩:=id I.loc;obtain⟨j,i⟩:=u.any f I.free (by simp);exact I.step (g':=s.gens) (d':=s.drawn) (ch:=[]) (λ_ z=>nomatch z) (λb o _ hb _ e n=>u.keep b o e n hb (by simp)) (λb o _ hb _ e n=>u.slot b o e n hb (by simp)) (λb o _ e n=>u.free b o e n (by simp)) (λb o _ e=>u.there b o e (by simp)) u.ic u.gR u.ie (λl h=>by
  obtain⟨k,c,d,a,g⟩:=h;rw[f]at a;cases a;exact⟨_,c,d,i,g⟩) aH I.bare
theorem Inv.call{g':Array Yo}{t':Nat}{d':Drawn}{ch:List Pg}(I:Inv X pins σ H s)(u:Un (gS X.stack) ch H H' s.heap h')(aH:gQ X.prog X.w H' h')(q:UK g')(f:∀b∈ch,(b∈X.ex\/X.bI.heap.objs.size<=b)/\b≠X.env.locals/\(∀x c,X.env.cells.lookup x=O7 c->c≠b)/\∀p∈X.pn++pins,p.1≠b):Inv X pins σ H' {s with heap:=h',gens:=g',drawn:=d',toks:=t'}:=by
 obtain⟨m,⟨o,A,B,j,r⟩,_⟩:=id I.loc;obtain⟨t,g⟩:=u.any j I.free λz=>(f _ z).2.1 rfl;exact I.step (ch:=ch) f (λb o g hb a e n=>u.keep b o e n (λz=>(List.mem_cons.mp (I.ij b z)).elim g hb) a) (λb o _ _ a e n=>u.any e n a) (λb o a e n=>u.free b o e n a) (λb o a e=>u.there b o e a) u.ic u.gR u.ie (λy l=>by
  obtain⟨v,h,i,d,k⟩:=l;rw[j]at d;cases d;exact⟨_,h,i,g,k⟩) aH q
theorem Inv.turned{t':Nat}{it:Pg}(I:Inv X pins σ H s)(k:∀b o,b≠it->s.heap.get? b=O7 o->h'.get? b=O7 o)(h:H it=Pb)(f:it≠X.env.locals)(t:it∈X.ex\/X.bI.heap.objs.size<=it)(l:∀x c,X.env.cells.lookup x=O7 c->c≠it)(j:∀p∈X.pn++pins,p.1≠it):Inv X pins σ H {s with heap:=h',toks:=t'}:=by
 have d:∀b u,H b=O7 u->b≠it:=λb u e z=>by rw[z,h]at e;cases e
 refine I.step (g':=s.gens) (d':=s.drawn) (ch:=[it]) (λb hb=>?_) (λb o _ _ a e _=>k b o (λz=>a (by simp[z])) e) (λb o _ _ a e _=>⟨o.slots,k b o (λz=>a (by simp[z])) e⟩) (λ_ _ _ _ n=>n) (λb o a e=>⟨o,k b o (λz=>a (by simp[z])) e⟩) (λ_ _ e=>e) (λ_ _ _ e=>e) (λb ps e=>⟨#[],by rw[e];simp⟩) (λm i=>?_) (λb u e=>?_) I.bare
 .have e:b=it:=by simpa using hb
  subst e;exact⟨t,f,l,j⟩
 .obtain⟨o,w,y,g,r⟩:=i;exact⟨o,w,y,k _ o (Q9 f) g,r⟩
 .refine(I.aH b u e).h_ (λc v a q=>k c v ?_ q) (λ_ q=>q) λ_ _ q=>q;rcases a with z|z;.rw[z];exact d b u e
  .exact d c _ z
theorem Inv.tok(I:Inv X pins σ H s)(t:Nat):Inv X pins σ H {s with toks:=t}:=I.un (h':=s.heap) (t':=t) Un.refl I.aH
theorem Inv.kept{t':Nat}(I:Inv X pins σ H s)(k:∀b u,s.heap.get? b=O7 u->h'.get? b=O7 u):Inv X pins σ H {s with heap:=h',toks:=t'}:=I.un (Un.kept k) (I.aH.kept k)
theorem Inv.laid{a:Pg}{o:HO}{t':Nat}(I:Inv X pins σ H s)(k:∀b u,s.heap.get? b=O7 u->h'.get? b=O7 u)(c:s.heap.objs.size<=a)(new:aX X.prog X.w (upd H a o) h' a o):Inv X pins σ (upd H a o) {s with heap:=h',toks:=t'}:=I.un (Un.laid k c (I.aH.fresh c)) (I.aH.laid k c new)
theorem Inv.write{x e:Pg}{o:HO}{t':Nat}(I:Inv X pins σ H s)(c:JA (H x))(d:e=x\/H e=O7 (.own x))(k:∀b u,b≠e->s.heap.get? b=O7 u->h'.get? b=O7 u)(a:∃u,h'.get? e=O7 u)(new:aX X.prog X.w (upd H x o) h' x o):Inv X pins σ (upd H x o) {s with heap:=h',toks:=t'}:=I.un (Un.write c d k a) (I.aH.write c d k a new)
theorem Inv.d_{pins':List (Pg×Qx)}(I:Inv X pins σ H s)(h:∀p∈pins',s.heap.get? p.1=O7 p.2/\H p.1=Pb/\p.1≠X.env.locals/\p.1∉X.fs/\∀v,p.2.data≠.cell v):Inv X pins' σ H s:=⟨I.ok,I.os,I.bare,I.base,I.loc,I.cell,I.free,I.cQ,λp a=>(List.mem_append.mp a).elim (λz=>I.pin p (Qk _ z)) (h p),I.aH,I.len⟩
theorem kS{N:List PX}(hN:N.Nodup){i j:Nat}{x:PX}(a:N[i]?=O7 x)(b:N[j]?=O7 x):i=j:=by
 obtain⟨f,d⟩:=List.getElem?_eq_some_iff.mp a;obtain⟨e,c⟩:=List.getElem?_eq_some_iff.mp b;exact(List.getElem_inj hN).mp (d.trans c.symm)
theorem wL{M:T9}{A:P9}{E:O_->Pe->Prop}{i:Nat}{x:PX}{v:V}{u:O_}{Q:Unit->Pe->Prop}(I:Inv X pins σ H s)(hN:X.N.Nodup)(hi:X.N[i]?=O7 x)(B:Loc X.env.scope x)(r:RelV v u)(h:∀s',Inv X pins (σ.set i (O7 v)) H s'->(∃a,Ri a s.heap s'.heap/\(a=X.env.locals\/X.env.cells.lookup x=O7 a))->Q () s')(hf:X.fn x=Pa\/X.env.scope.names.lookup x=O7 .local:=by first|exact .inl rfl|exact .inr rfl|assumption):wpAny M A (storeName X.env x u) Q E s:=by
 obtain⟨m,hn,hl⟩:=id I.loc;have P:(X.env.scope.kind==.class||(X.env.scope.kind==.module&&X.env.locals !=X.env.globals))=Pc:=by rw[I.ok.kind];rfl
 have G:i<σ.length:=by rw[I.len];exact(List.getElem?_eq_some_iff.mp hi).1
 have yr:=I.yr;have g:∀{a:Pg}{h':P7},(∃o,s.heap.get? a=O7 o/\H a=Pb)->Ri a s.heap h'->gQ X.prog X.w H h':=λ{a h'}ha f b ob e=>by
  obtain⟨_,_,C⟩:=ha;refine(I.aH b ob e).h_ (λc T t q=>(f.2 c ?_).trans q) (λ_ q=>q) λ_ _ q=>q;rintro rfl;rcases t with rfl|t;.rw[C]at e;cases e
  .rw[C]at t;cases t
 rcases B with F|F
 .refine wpAny_storeName_local F hn (λh' a2 f=>?_) P;obtain⟨oL,_,_,a0,_⟩:=id hn;refine h _ ⟨I.ok,I.os,I.bare,⟨λb o e n hb B=>?_,λb o e n hb B=>?_,I.base.free,λb o e B=>?_,I.base.ic,I.base.gR,I.base.ie⟩,⟨_,a2,λj y W l D e3=>?_⟩,λy c e=>?_,I.free,I.cQ,λp hp=>?_,g ⟨oL,a0,I.free⟩ f,by simpa using I.len⟩ ⟨_,f,.inl rfl⟩;.exact(f.2 b (P5 (PJ (Px e) I.ok.above))).trans (I.base.keep b o e n hb B)
  .obtain⟨Z,l⟩:=I.base.slot b o e n hb B;exact⟨Z,(f.2 b (P5 (PJ (Px e) I.ok.above))).trans l⟩
  .obtain⟨o',l⟩:=I.base.there b o e B;exact⟨o',(f.2 b (P5 (PJ (Px e) I.ok.above))).trans l⟩
  .by_cases J:j=i
   .subst J;rw[hi]at l;cases l;rw[Ue G]at D;cases D;exact⟨u,r,.inl ⟨F,by simp⟩⟩
   .rw[WO (Q9 J)]at D;obtain⟨Y,r',q⟩:=hl j y W l D e3;refine⟨Y,r',?_⟩;rcases q with⟨k,e⟩|⟨k,c,e,z⟩
    .refine .inl ⟨k,?_⟩;have:y≠x:=λe=>J (kS hN l (e▸hi));simp[this,e]
    .exact .inr ⟨k,c,e,z.sameBut f (yr y c e)⟩
  .obtain⟨T,z⟩:=I.cell y c e;exact⟨T,z.sameBut f (yr y c e)⟩
  .obtain⟨e,n,ne,nf,d⟩:=I.pin p hp;exact⟨(f.2 p.1 ne).trans e,n,ne,nf,d⟩
 .have K:X.fn x=Pa:=by
   rcases hf with z|z;.exact z
   .rw[z]at F;cases F
  obtain⟨c,t⟩:=I.ok.has x (.inl F);obtain⟨T,z⟩:=I.cell x c t;refine wpAny_storeName_cell I.ok.kind F t z (λh' S f=>?_);obtain⟨oc,O,L⟩:=id z;refine h {s with heap:=h'} ⟨I.ok,I.os,I.bare,⟨λb o e n hb B=>?_,λb o e n hb B=>?_,I.base.free,λb o e B=>?_,I.base.ic,I.base.gR,I.base.ie⟩,⟨m,hn.sameBut f (Q9 (yr x c t)),λj y W l D e3=>?_⟩,λy U e=>?_,I.free,I.cQ,λp hp=>?_,g ⟨oc,O,I.cQ x c t⟩ f,by simpa using I.len⟩ ⟨c,f,.inr t⟩;.exact(f.2 b (P5 (PJ (Px e) (I.ok.Fs x c K t)))).trans (I.base.keep b o e n hb B)
  .obtain⟨Z,l⟩:=I.base.slot b o e n hb B;exact⟨Z,(f.2 b (P5 (PJ (Px e) (I.ok.Fs x c K t)))).trans l⟩
  .obtain⟨o',l⟩:=I.base.there b o e B;exact⟨o',(f.2 b (P5 (PJ (Px e) (I.ok.Fs x c K t)))).trans l⟩
  .by_cases J:j=i
   .subst J;rw[hi]at l;cases l;rw[Ue G]at D;cases D;exact⟨u,r,.inr ⟨.inl F,c,t,S⟩⟩
   .rw[WO (Q9 J)]at D;obtain⟨Y,r',q⟩:=hl j y W l D e3;refine⟨Y,r',?_⟩;rcases q with q|⟨k,U,e,z'⟩;.exact .inl q
    .refine .inr ⟨k,U,e,z'.sameBut f ?_⟩;rintro rfl;exact J (kS hN l (I.ok.inj _ _ _ e t▸hi))
  .by_cases R:U=c;.subst R;exact⟨_,S⟩
   .obtain⟨w2,z2⟩:=I.cell y U e;exact⟨w2,z2.sameBut f R⟩
  .obtain⟨e,n,ne,nf,d⟩:=I.pin p hp;refine⟨(f.2 p.1 ?_).trans e,n,ne,nf,d⟩;intro q;rw[q,O]at e;have q':oc=p.2:=Pm e;exact d T (by rw[<-q'];exact L)
theorem fR{M:T9}{A:P9}{E:O_->Pe->Prop}{i:Nat}{x:PX}{v:V}{u:O_}{Q:Unit->Pe->Prop}(I:Inv X pins σ H s)(hN:X.N.Nodup)(hi:X.N[i]?=O7 x)(a:Loc X.env.scope x)(r:RelV v u)(h:∀s',Inv X pins (σ.set i (O7 v)) H s'->Q () s')(b:X.fn x=Pa\/X.env.scope.names.lookup x=O7 .local:=by first|exact .inl rfl|exact .inr rfl|assumption):wpAny M A (storeName X.env x u) Q E s:=wL I hN hi a r (λs' c _=>h s' c) b
theorem Inv.uI{s':Pe}{ch:List Pg}(I:Inv X pins σ H s)(f:s'.os=s.os)(u:Un (gS X.stack) ch H H' s.heap s'.heap)(aH:gQ X.prog X.w H' s'.heap)(g:UK s'.gens)(a:∀b∈ch,(b∈X.ex\/X.bI.heap.objs.size<=b)/\b≠X.env.locals/\(∀x c,X.env.cells.lookup x=O7 c->c≠b)/\∀p∈X.pn++pins,p.1≠b):Inv X pins σ H' s':=by
 obtain⟨h',g',d',t',d⟩:=s';have e:d=s.os:=f;subst e;exact I.call (g':=g') (t':=t') (d':=d') u aH g a
end
abbrev XK:=O_->Option Pg->Hp->Prop
abbrev St:=List (Option V)
abbrev VK:=V->Hp->Prop
abbrev TE:=St->Hp->VK->Prop
abbrev TT:=St->Hp->(Bool->Hp->Prop)->Prop
abbrev TA:=St->Hp->(List V->Hp->Prop)->Prop
structure Ends where
 nx:St->Hp->Prop
 rt:VK
 bk:St->Hp->Prop:=λ_ _=>False
 ct:St->Hp->Prop:=λ_ _=>False
abbrev TS:=Ends->St->Hp->Prop
inductive EP(X:Cx)(pins:List (Pg×Qx))(σ:St)(Q:VK)(u:O_)(s':Pe):Prop where|mk(v:V)(H':Hp)(I:Inv X pins σ H' s')(r:RelV v u)(q:Q v H')
inductive TP(X:Cx)(pins:List (Pg×Qx))(σ:St)(Q:Bool->Hp->Prop)(b:Bool)(s':Pe):Prop where|mk(H':Hp)(I:Inv X pins σ H' s')(q:Q b H')
inductive AP(X:Cx)(pins:List (Pg×Qx))(σ:St)(Q:List V->Hp->Prop)(us:List O_)(s':Pe):Prop where|mk(vs:List V)(H':Hp)(I:Inv X pins σ H' s')(r:ar vs us)(q:Q vs H')
noncomputable def SP(X:Cx)(pins:List (Pg×Qx))(D:Ends)(f:Flow)(s':Pe):Prop:=match f with
 |.next=>∃a b,Inv X pins a b s'/\D.nx a b|.brk=>∃a b,Inv X pins a b s'/\D.bk a b|.cont=>∃a b,Inv X pins a b s'/\D.ct a b|.ret u=>∃v a b,Inv X pins a b s'/\RelV v u/\D.rt v b
noncomputable def PE(X:Cx)(e:PC)(t:TE):Prop:=∀(a:List (Pg×Qx))(s:Pe)(b:St)(H:Hp)(Q:VK),Inv X a b H s->t b H Q->wpAny (Py X.prog X.w) X.A (Rz e X.env) (EP X a b Q) X.xe s
noncomputable def PT(X:Cx)(e:PC)(t:TT):Prop:=∀(a:List (Pg×Qx))(s:Pe)(b:St)(H:Hp)(Q:Bool->Hp->Prop),Inv X a b H s->t b H Q->wpAny (Py X.prog X.w) X.A (V9 e X.env (Rz e X.env)) (TP X a b Q) X.xe s
noncomputable def PW(X:Cx)(e:PC)(t:TT):Prop:=∀(whole:Vy O_)(a:List (Pg×Qx))(s:Pe)(b:St)(H:Hp)(Q:Bool->Hp->Prop),Inv X a b H s->t b H Q->wpAny (Py X.prog X.w) X.A (V9 e X.env whole) (TP X a b Q) X.xe s
theorem PW.pt{X:Cx}{e:PC}{t:TT}(h:PW X e t):PT X e t:=h _
noncomputable def PA(X:Cx)(c:List PC)(t:TA):Prop:=∀(pos:Ro)(a:List (Pg×Qx))(s:Pe)(b:St)(H:Hp)(Q:List V->Hp->Prop),Inv X a b H s->t b H Q->wpAny (Py X.prog X.w) X.A (spliced (RR pos (PL c X.env))) (AP X a b Q) X.xe s
noncomputable def PS(X:Cx)(st:RP)(t:TS):Prop:=∀(a:List (Pg×Qx))(s:Pe)(b:St)(H:Hp)(D:Ends),Inv X a b H s->t D b H->wpAny (Py X.prog X.w) X.A (exec st X.env) (SP X a D) X.xe s
noncomputable def qt(X:Cx)(st:List RP)(t:TS):Prop:=∀(a:List (Pg×Qx))(s:Pe)(b:St)(H:Hp)(D:Ends),Inv X a b H s->t D b H->wpAny (Py X.prog X.w) X.A (execs st X.env) (SP X a D) X.xe s
theorem bp{b:Type}{t:Vy b}{Q c:b->Pe->Prop}{M:T9}{A:P9}{E:O_->Pe->Prop}{s:Pe}(h:wpAny M A t Q E s)(d:∀a s,Q a s->c a s):wpAny M A t c E s:=QV h d λ_ _ x=>x
end L2
namespace L2
open PySem PySem.Spec PyProof.Rows
section
variable{X:Cx}
noncomputable def JB(i:Nat):TE:=λa H Q=>∃v,a[i]?=O7 (O7 v)/\Q v H
noncomputable def tC(v:V):TE:=λ_ H Q=>Q v H
theorem dg{i:Nat}{x:PX}{pos:Ro}(hN:X.N[i]?=O7 x)(n:s_ X.env.scope x)(hd:(x==("__debug__":PX))=Pc:=by decide)(g:(x==("__classdict__":PX))=Pc:=by decide):PE X (.Name x pos) (JB i):=by
 intro f s k H Q I h;obtain⟨v,e,h⟩:=h;obtain⟨m,o,q⟩:=I.loc;obtain⟨u,r,l⟩:=q i x v hN e n;have d:EP X f k Q u s:=⟨v,H,I,r,h⟩;rcases l with⟨b,p⟩|⟨b,c,j,a⟩;.exact Yp (wpAny_loadName_local I.ok.kind b o p d) hd
 .rcases b with b|b;.exact Yp (wpAny_loadName_cell I.ok.kind b j a d) hd
  .exact Yp (wpAny_loadName_free I.ok.kind b j a d g) hd
theorem aG{i j pos}:PE X (.Constant (.int i) j pos) (tC (.int i)):=λ_ _ _ H _ I h=>wpAny_Constant_int ⟨.int i,H,I.tok _,⟨_,rfl⟩,h⟩
theorem Ew{b j pos}:PE X (.Constant (.bool b) j pos) (tC (.bl b)):=λ_ _ _ H _ I h=>Constant_bool ⟨.bl b,H,I,rfl,h⟩
theorem Ft{j pos}:PE X (.Constant .none j pos) (tC .bH):=λ_ _ _ H _ I h=>Constant_none ⟨.bH,H,I,rfl,h⟩
theorem Fu{x j pos}:PE X (.Constant (.str x) j pos) (tC (.str x)):=λ_ _ _ H _ I h=>Calls.Constant_str ⟨.str x,H,I.tok _,⟨_,rfl⟩,h⟩
noncomputable def Gl(X:Cx)(x:PX):Prop:=X.env.kindOf x=O7 .globalImplicit
theorem iU{E:O_->Pe->Prop}{pins:List (Pg×Qx)}{s:Pe}{σ:St}{H:Hp}{x:PX}{u:O_}{pos:Ro}{Q:O_->Pe->Prop}(I:Inv X pins σ H s)(b:Gl X x)(a:X.mg x=O7 u)(h:Q u s)(hd:(x==("__debug__":PX))=Pc:=by decide):wpAny (Py X.prog X.w) X.A (Rz (.Name x pos) X.env) Q E s:=Vd I.ok.kind b (Calls.loadGlobal_global (by rw[I.ok.glob];exact I.mod.glob.keeps I.bk) a h) hd
theorem kT{E:O_->Pe->Prop}{pins:List (Pg×Qx)}{s:Pe}{σ:St}{H:Hp}{x:PX}{u:O_}{pos:Ro}{Q:O_->Pe->Prop}(I:Inv X pins σ H s)(d:Gl X x)(c:X.mg x=Pb)(a:Ry x=O7 u)(h:Q u s)(b:x≠"__name__":=by decide)(hd:(x==("__debug__":PX))=Pc:=by decide):wpAny (Py X.prog X.w) X.A (Rz (.Name x pos) X.env) Q E s:=by
 obtain⟨g,f,e⟩:=I.mod.blt;exact Vd I.ok.kind d (Calls.loadGlobal_builtin (by rw[I.ok.glob];exact I.mod.glob.keeps I.bk) c (by rw[I.ok.blt];exact f.keeps I.bk) ((e x b).trans a) h) hd
theorem oK{x:PX}{v:V}{u:O_}{pos:Ro}(b:Gl X x)(a:X.mg x=O7 u)(r:RelV v u)(hd:(x==("__debug__":PX))=Pc:=by decide):PE X (.Name x pos) (tC v):=λ_ _ _ H _ I h=>iU I b a ⟨v,H,I,r,h⟩ hd
theorem BR{x:PX}{v:V}{u:O_}{pos:Ro}(d:Gl X x)(c:X.mg x=Pb)(a:Ry x=O7 u)(r:RelV v u)(b:x≠"__name__":=by decide)(hd:(x==("__debug__":PX))=Pc:=by decide):PE X (.Name x pos) (tC v):=λ_ _ _ H _ I h=>kT I d c a ⟨v,H,I,r,h⟩ b hd
variable{a b:PC}{ta tb:TE}{pos:Ro}
variable{tA tB':TT}{rest:List PC}
noncomputable def MJ(t u:TT):TT:=λd H Q=>t d H λc e=>if c=Pa then u d e Q else Q Pc e
noncomputable def Oy(t u:TT):TT:=λd H Q=>t d H λc e=>if c=Pa then Q Pa e else u d e Q
noncomputable def MK(t:TT):TT:=λd H Q=>t d H λc e=>Q (!c) e
theorem uJ(ha:PT X a tA):PW X (.BoolOp .And [a] pos) tA:=by
 intro g d s f H Q I h;refine isTrue_and (bp (ha d s f H Q I h) λc i e=>?_);cases c with
 |true=>exact isTrue_and_nil e|false=>exact e
theorem Fv(ha:PT X a tA):PW X (.BoolOp .Or [a] pos) tA:=by
 intro g d s f H Q I h;refine isTrue_or (bp (ha d s f H Q I h) λc i e=>?_);cases c with
 |false=>exact isTrue_or_nil e|true=>exact e
theorem yt(ha:PT X a tA)(hb:PW X (.BoolOp .And (b::rest) pos) tB'):PW X (.BoolOp .And (a::b::rest) pos) (MJ tA tB'):=by
 intro k d s f H Q I h;refine isTrue_and (bp (ha d s f H _ I h) λc l e=>?_);obtain⟨j,i,g⟩:=e;cases c with
 |true=>exact hb k d l f j Q i g|false=>exact⟨j,i,g⟩
theorem JC(ha:PT X a tA)(hb:PW X (.BoolOp .Or (b::rest) pos) tB'):PW X (.BoolOp .Or (a::b::rest) pos) (Oy tA tB'):=by
 intro k d s f H Q I h;refine isTrue_or (bp (ha d s f H _ I h) λc l e=>?_);obtain⟨j,i,g⟩:=e;cases c with
 |true=>exact⟨j,i,g⟩|false=>exact hb k d l f j Q i g
theorem Fw(ha:PT X a tA):PT X (.UnaryOp .Not a pos) (MK tA):=by
 intro d s e H Q I h;exact isTrue_not (bp (ha d s e H (λc g=>Q (!c) g) I h) λc j z=>by obtain⟨i,f,q⟩:=z;exact⟨i,f,q⟩)
noncomputable def JD(ta tb:TE):TE:=λd H Q=>ta d H λx e=>∃c,x=.bl c/\if c=Pa then tb d e Q else Q (.bl Pc) e
noncomputable def JE(ta:TE):TE:=λd H Q=>ta d H λx e=>∃c,x=.bl c/\Q (.bl (!c)) e
theorem Fy{op}{t:TE}(h:PE X a t):PE X (.BoolOp op [a] pos) t:=λc s d H Q I hw=>BoolOp_one (h c s d H Q I hw)
theorem Fz(ha:PE X a ta)(hb:PE X (.BoolOp .And (b::rest) pos) tb):PE X (.BoolOp .And (a::b::rest) pos) (JD ta tb):=by
 intro d s g H Q I h;refine BoolOp_and (bp (ha d s g H _ I h) λv k f=>?_);obtain⟨x,j,i,l,e⟩:=f;obtain⟨c,rfl,e⟩:=e;cases l;refine Sv ?_;cases c with
 |true=>exact hb d k g j Q i e|false=>exact⟨.bl Pc,j,i,rfl,e⟩
theorem FA(ha:PE X a ta):PE X (.UnaryOp .Not a pos) (JE ta):=by
 intro d s g H Q I h;refine UnaryOp_ (bp (ha d s g H _ I h) λv l e=>?_);obtain⟨x,k,j,i,f⟩:=e;obtain⟨c,rfl,f⟩:=f;cases i;exact not_of (Sv ⟨.bl (!c),k,j,rfl,f⟩)
end
end L2
namespace L2
open PySem PySem.Spec PyProof.Rows
noncomputable def d5(K:Pj)(H:Hp)(a:Pg)(xs:List V):Prop:=Rd H a (.lst xs)\/∃(o:Qx)(b:Array O_)(n:Nat),K.lookup a=O7 o/\o.cls=.type "list"/\o.dict=Pb/\o.data=.seq b n/\b.size<=Pl/\ar xs b.toList
noncomputable def kq(K:Pj)(H:Hp)(a:Pg)(xs:List V):Prop:=Rd H a (.tup xs)\/∃(o:Qx)(b:Array O_)(n:Nat),K.lookup a=O7 o/\o.cls=.type "tuple"/\o.data=.seq b n/\b.size<=Pl/\ar xs b.toList
noncomputable def ML:O_->Option V
 |.none=>O7 .bH|.bool b=>O7 (.bl b)|.int i _=>O7 (.int i)|.str x _=>O7 (.str x)|.bytes b _=>O7 (.Fo b)|.float b _=>O7 (.Jf b)|.ref a=>O7 (.ref a)|.type n=>O7 (.ty n)|_=>Pb
theorem RelV.abs{x:V}{u:O_}(r:RelV x u):ML u=O7 x:=by cases x with
 |bH=>cases r;rfl|bl _=>cases r;rfl|int _=>obtain⟨t,rfl⟩:=r;rfl|str _=>obtain⟨t,rfl⟩:=r;rfl|Fo _=>obtain⟨t,rfl⟩:=r;rfl|Jf _=>obtain⟨t,rfl⟩:=r;rfl|ref _=>cases r;rfl|ty _=>cases r;rfl
theorem RelV.inj{x y:V}{u:O_}(r:RelV x u)(q:RelV y u):x=y:=Pm (r.abs.symm.trans q.abs)
theorem ar.inj:∀{xs a:List V}{us:List O_},ar xs us->ar a us->xs=a
 |_,_,_,.nil,.nil=>rfl|_,_,_,.cons r t,.cons c b=>by rw[r.inj c,ar.inj t b]
section
variable{X:Cx}{pins:List (Pg×Qx)}{σ:St}{H:Hp}{s:Pe}{a:Pg}{xs ys:List V}
theorem d5.of{K:Pj}(h:H a=O7 (.lst xs)):d5 K H a xs:=.inl (.inl h)
theorem kq.of{K:Pj}(h:H a=O7 (.tup xs)):kq K H a xs:=.inl (.inl h)
theorem Inv.list(I:Inv X pins σ H s)(h:d5 X.K H a xs):∃b:List O_,ar xs b/\PlainL s.heap a b.toArray/\xs.length<=Pl:=by
 rcases h with h|⟨o,b,n,d,f,hd,c,g,r⟩
 .obtain⟨z,b,n,r,e⟩:=h.ok I.aH;exact⟨b,r,⟨_,n,e,rfl,rfl,rfl⟩,z⟩
 .refine⟨b.toList,r,⟨o,n,I.jH a o d,f,hd,by simpa using c⟩,?_⟩;have e:=r.length;simp only[QO]at e;omega
theorem Inv.tuple(I:Inv X pins σ H s)(h:kq X.K H a xs):∃b:List O_,ar xs b/\Xp s.heap a b.toArray/\xs.length<=Pl:=by
 rcases h with h|⟨o,b,n,d,f,c,g,r⟩
 .obtain⟨z,b,r,p⟩:=h.ok I.aH;exact⟨b,r,p,z⟩
 .refine⟨b.toList,r,⟨o,I.jH a o d,f,n,by simpa using c⟩,?_⟩;have e:=r.length;simp only[QO]at e;omega
theorem Inv.qz(I:Inv X pins σ H s)(h:d5 X.K H a xs)(h':d5 X.K H a ys):xs=ys:=by
 obtain⟨c,r,⟨o,n,e,_,_,d⟩,_⟩:=I.list h;obtain⟨b,i,⟨k,l,f,_,_,g⟩,_⟩:=I.list h';rw[e]at f;cases f;rw[d]at g;injection g with j _;have:c=b:=by simpa using congrArg Array.toList j
 subst this;exact r.inj i
theorem Inv.wM(I:Inv X pins σ H s)(h:kq X.K H a xs)(h':kq X.K H a ys):xs=ys:=by
 obtain⟨c,r,⟨o,e,_,n,d⟩,_⟩:=I.tuple h;obtain⟨b,i,⟨k,f,_,l,g⟩,_⟩:=I.tuple h';rw[e]at f;cases f;rw[d]at g;injection g with j _;have:c=b:=by simpa using congrArg Array.toList j
 subst this;exact r.inj i
end
noncomputable abbrev Cx.m8(X:Cx)(E:O_->Pe->Prop):Cx:={X with xe:=E}
noncomputable abbrev Cx.Ml(X:Cx):Cx:=X.m8 λ_ _=>False
theorem Cx.Ok.m8{X:Cx}(ok:X.Ok)(E:O_->Pe->Prop):(X.m8 E).Ok:=⟨ok.mod,ok.kind,ok.glob,ok.blt,ok.above,ok.inj,ok.has,ok.Fs,ok.hd,ok.frames,ok.Jg,ok.Mk,ok.bs,ok.BL,ok.tq,ok.wK,ok.jI,ok.Eu⟩
theorem Cx.Ok.fS{X:Cx}{E:O_->Pe->Prop}(ok:(X.m8 E).Ok):X.Ok:=⟨ok.mod,ok.kind,ok.glob,ok.blt,ok.above,ok.inj,ok.has,ok.Fs,ok.hd,ok.frames,ok.Jg,ok.Mk,ok.bs,ok.BL,ok.tq,ok.wK,ok.jI,ok.Eu⟩
section
variable{X:Cx}{pins:List (Pg×Qx)}{σ:St}{H:Hp}{s:Pe}{E:O_->Pe->Prop}
theorem Inv.m8(I:Inv X pins σ H s)(E:O_->Pe->Prop):Inv (X.m8 E) pins σ H s:=⟨I.ok.m8 E,I.os,I.bare,I.base,I.loc,I.cell,I.free,I.cQ,I.pin,I.aH,I.len⟩
theorem Inv.fS(I:Inv (X.m8 E) pins σ H s):Inv X pins σ H s:=⟨I.ok.fS,I.os,I.bare,I.base,I.loc,I.cell,I.free,I.cQ,I.pin,I.aH,I.len⟩
theorem SP.fS{D:Ends}{f:Flow}{s':Pe}(h:SP (X.m8 E) pins D f s'):SP X pins D f s':=by cases f with
 |next=>obtain⟨a,b,I,q⟩:=h;exact⟨a,b,I.fS,q⟩|brk=>obtain⟨a,b,I,q⟩:=h;exact⟨a,b,I.fS,q⟩|cont=>obtain⟨a,b,I,q⟩:=h;exact⟨a,b,I.fS,q⟩|ret u=>obtain⟨v,a,b,I,r,q⟩:=h;exact⟨v,a,b,I.fS,r,q⟩
theorem qt.Ml{st:List RP}{t:TS}(h:qt X.Ml st t):qt X st t:=λpins s σ H D I hw=>QV (h pins s σ H D (I.m8 _) hw) (λ_ _ q=>q.fS) λ_ _ z=>Rr z
end
section
variable{X:Cx}{st:RP}{rest:List RP}{t u:TS}{e:PC}{te:TE}{pos:Ro}
noncomputable def JF:TS:=λD a H=>D.nx a H
noncomputable def MM(t u:TS):TS:=λD a H=>t {D with nx:=u D} a H
theorem kF:qt X [] JF:=λ_ _ a H _ I h=>UY ⟨a,H,I,h⟩
theorem bq(i:PS X st t)(g:qt X rest u):qt X (st::rest) (MM t u):=by
 intro a s c H D I h;refine wpAny_execs_cons (bp (i a s c H {D with nx:=u D} I h) λf d q=>?_);cases f with
 |next=>
  obtain⟨b,k,j,q⟩:=q;exact g a d b k D j q|ret v=>exact q|brk=>exact q|cont=>exact q
theorem iV(c:PS X st t):qt X [st] t:=by
 intro a s b H D I h;refine wpAny_execs_cons (bp (c a s b H D I h) λf d q=>?_);cases f with
 |next=>exact UY q|ret v=>exact q|brk=>exact q|cont=>exact q
theorem Inv.quiet{pins:List (Pg×Qx)}{σ:St}{H:Hp}{s:Pe}(I:Inv X pins σ H s):interactive X.env=Pc:=by simp[interactive,I.ok.kind]
noncomputable def JG(te:TE):TS:=λD a H=>te a H λ_ b=>D.nx a b
theorem oM(d:PE X e te)(hs:RW e Pb pos.line X.env=pure Pc:=by rfl):PS X (.Expr e pos) (JG te):=by
 intro a s b H D I h;exact wpAny_Expr_any (bp (d a s b H _ I h) λv i⟨x,g,f,j,c⟩=>⟨b,g,f,c⟩) I.quiet hs
noncomputable def MN(te:TE):TS:=λD a H=>te a H D.rt
theorem kU(f:PE X e te):PS X (.Return (O7 e) pos) (MN te):=by
 intro a s b H D I h;exact wpAny_Return_some (bp (f a s b H _ I h) λv j⟨x,i,g,c,d⟩=>⟨x,b,i,g,c,d⟩)
noncomputable def MO(c:TT)(t u:TS):TS:=λD a H=>c a H λb d=>if b=Pa then t D a d else u D a d
theorem uK{c:PC}{a b:List RP}{j:TT}(o:PT X c j)(ha:qt X a t)(hb:qt X b u):PS X (.If c a b pos) (MO j t u):=by
 intro f s g H D I h;refine wpAny_If (bp (o f s g H _ I h) λd k i=>?_);obtain⟨n,m,l⟩:=i;cases d with
 |true=>exact ha f k g n D m l|false=>exact hb f k g n D m l
end
abbrev TG:=V->St->Hp->(St->Hp->Prop)->Prop
abbrev BS:=List V->St->Hp->(St->Hp->Prop)->Prop
noncomputable def PG(X:Cx)(a:PC)(t:TG):Prop:=∀(b:List (Pg×Qx))(s:Pe)(d:St)(H:Hp)(v:V)(u:O_)(Q:St->Hp->Prop),Inv X b d H s->RelV v u->t v d H Q->wpAny (Py X.prog X.w) X.A (UC a X.env u) (λ_ f=>∃c e,Inv X b c e f/\Q c e) X.xe s
noncomputable def Ey(X:Cx)(g:List PC)(t:BS):Prop:=∀(a:List (Pg×Qx))(s:Pe)(c:St)(H:Hp)(d:List V)(e:List O_)(Q:St->Hp->Prop),Inv X a c H s->ar d e->t d c H Q->wpAny (Py X.prog X.w) X.A (Xq ((RI g X.env).map (·.2)) e) (λ_ h=>∃b f,Inv X a b f h/\Q b f) X.xe s
abbrev FC:=V->V->V->Hp->(Hp->Prop)->Prop
noncomputable def JH(X:Cx)(t:FC):Prop:=∀(a:List (Pg×Qx))(s:Pe)(b:St)(H:Hp)(o i v:V)(c d u:O_)(Q:Hp->Prop),Inv X a b H s->RelV o c->RelV i d->RelV v u->t o i v H Q->wpAny (Py X.prog X.w) X.A (setItem c d u) (λ_ f=>∃e,Inv X a b e f/\Q e) X.xe s
section
variable{X:Cx}{pos:Ro}
noncomputable def yu(i:Nat):TG:=λv a H Q=>Q (a.set i (O7 v)) H
theorem uL{i:Nat}{x:PX}(hN:X.N.Nodup)(hi:X.N[i]?=O7 x)(b:Loc X.env.scope x)(c:X.fn x=Pa\/X.env.scope.names.lookup x=O7 .local:=by first|exact .inl rfl|exact .inr rfl|assumption):PG X (.Name x pos) (yu i):=by
 intro a s e H v u Q I r h;exact wpAny_assign_Name (fR I hN hi b r (λf d=>⟨_,H,d,h⟩) c)
noncomputable def MP:BS:=λb a H Q=>b=[]/\Q a H
noncomputable def JI(t:TG)(u:BS):BS:=λc b H Q=>∃v r,c=v::r/\t v b H λa d=>u r a d Q
theorem BU:Ey X [] MP:=by
 intro a s b H c d Q I r h;obtain⟨e,h⟩:=h;subst e;cases r;exact XR ⟨b,H,I,h⟩
theorem yw{e:PC}{b:List PC}{t:TG}{u:BS}(l:PG X e t)(k:Ey X b u)(hs:(RI (e::b) X.env).map (·.2)=UC e X.env::(RI b X.env).map (·.2):=by rfl):Ey X (e::b) (JI t u):=by
 intro a s f H p w Q I r h;obtain⟨v,q,m,h⟩:=h;subst m;cases r with|cons r i=>
  rw[hs];refine Ve (bp (l a s f H _ _ _ I r h) λ_ g d=>?_);obtain⟨c,o,n,j⟩:=d;exact k a g c o _ _ Q n i j
noncomputable def MQ(K:Pj)(n:Nat)(t:BS):TG:=λv c H Q=>∃a b,v=.ref a/\kq K H a b/\b.length=n/\t b c H Q
theorem FD{d:List PC}{k:Nat}{t:BS}{n:Nat}(z:X.calm=Pa)(h:Ey X d t)(x:(RI d X.env).length=n:=by rfl)(f:(RI d X.env).findIdx? (·.1)=Pb:=by rfl):PG X (.Tuple d k pos) (MQ X.K n t):=by
 intro c s g H v u Q I r hw;obtain⟨a,l,B,w,y,hw⟩:=hw;subst B;cases r;obtain⟨m,i,q,D⟩:=I.tuple w;refine assign_Tuple_tuple (I.ok.hd z) q (by simp[x,<-y,i.length]) f λA p=>?_;have C:Inv X c g H {s with heap:=A}:=I.kept (t':=s.toks) λb o e=>p b o (P5 (Px e)) e;exact h c _ g H l _ Q C (by simpa using i) hw
noncomputable def MR(b c:TE)(t:FC):TG:=λv a H Q=>b a H λo f=>c a f λi e=>t o i v e λd=>Q a d
theorem tu{o i:PC}{f g:TE}{t:FC}(w:PE X o f)(hi:PE X i g)(hs:JH X t)(ha:∀v,UC (.Subscript o i pos) X.env v=(do
   let c<-Wa [v] (Rz o X.env)let d<-Wa [v,c] (Rz i X.env)Ug pos;Wa [v,c,d] (setItem c d v)release [v,c,d] []):=by intro _;rfl):PG X (.Subscript o i pos) (MR f g t):=by
 intro b s e H v u Q I r h;rw[ha];refine O9 (Qn (bp (w b s e H _ I h) λc k a=>?_));obtain⟨x,E,B,m,q⟩:=a;refine O9 (Qn (bp (hi b k e E _ B q) λd j a=>?_));obtain⟨y,D,A,l,p⟩:=a;refine O9 (RG (O9 (Qn (bp (hs b j e D x y v c d u _ A m l r p) λ_ F a=>?_))));obtain⟨C,z,n⟩:=a;exact wpAny_release ⟨e,C,z,n⟩
noncomputable def BV(b:TE)(g:TG):TS:=λD a H=>b a H λx c=>g x a c D.nx
theorem oN{tg e:PC}{c:TE}{g:TG}(k:PE X e c)(j:PG X tg g)(hs:VH [tg] e pos.line X.env=pure Pc:=by rfl)(hw:RX [tg] e X.env=pure Pb:=by rfl)(l:(RI [tg] X.env).map (·.2)=[UC tg X.env]:=by rfl):PS X (.Assign [tg] e pos) (BV c g):=by
 intro a s b H D I h;refine wpAny_Assign_stores (bp (k a s b H _ I h) λv d⟨x,n,m,f,i⟩=>?_) hs hw;rw[l];exact bp (j a d b n x v _ m f i) λ_ o q=>q
theorem bV{i:Nat}{x:PX}{e:PC}{c:TE}{a:Ro}(hN:X.N.Nodup)(hi:X.N[i]?=O7 x)(j:Loc X.env.scope x)(l:PE X e c)(hs:RW e (O7 (.Name x a)) pos.line X.env=pure Pc:=by rfl)(k:X.fn x=Pa\/X.env.scope.names.lookup x=O7 .local:=by first|exact .inl rfl|exact .inr rfl|assumption):PS X (.Assign [.Name x a] e pos) (BV c (yu i)):=by
 intro b s d H D I h;refine wpAny_Assign_Name (bp (l b s d H _ I h) λv q⟨y,o,n,f,g⟩=>?_) hs;exact fR n hN hi j f (λp m=>⟨_,o,m,g⟩) k
noncomputable def JJ(i j:Nat)(c:TA):TS:=λD a H=>c a H λb d=>∃v w,b=[v,w]/\D.nx ((a.set i (O7 v)).set j (O7 w)) d
theorem FE{i j:Nat}{x y:PX}{a b:PC}{B:TA}{r n pt:Ro}{kt k2 pt2}(S:X.calm=Pa)(hN:X.N.Nodup)(hi:X.N[i]?=O7 x)(R:X.N[j]?=O7 y)(u:i≠j)(E:X.env.scope.names.lookup x=O7 .local)(C:X.env.scope.names.lookup y=O7 .local)(ha:PA X [a,b] B)(hw:RX [.Tuple [.Name x r,.Name y n] kt pt] (.Tuple [a,b] k2 pt2) X.env=pure (O7 [x,y]))(hs:VH [.Tuple [.Name x r,.Name y n] kt pt] (.Tuple [a,b] k2 pt2) pos.line X.env=pure Pc:=by rfl):PS X (.Assign [.Tuple [.Name x r,.Name y n] kt pt] (.Tuple [a,b] k2 pt2) pos) (JJ i j B):=by
 intro c s z H D I h;rw[exec_Assign_arm];refine O9 (RG ?_);rw[hs];refine O9 (Pf ?_);rw[if_neg (by decide)];refine O9 (Tuple_ (bp (ha _ c s z H _ I h) λL g k=>?_));obtain⟨Z,K,Y,O,m⟩:=k;obtain⟨v,w,T,m⟩:=m;subst T;obtain⟨f,d,rfl,M,l⟩:∃f d,L=[f,d]/\RelV v f/\RelV w d:=by cases O with|cons p q=>cases q with|cons Q P=>
    cases P;exact⟨_,_,rfl,p,Q⟩
 refine Q6 ?_ (by show 2<=Pl;decide);have W:Inv X c z K {g with heap:=g.heap.push {cls:=.type "tuple",data:=.seq [f,d].toArray}}:=Y.kept (t':=g.toks) λb o e=>Ph _ e;rw[hw];refine O9 (Pf ?_);show wpAny (Py X.prog X.w) X.A (do WQ "assign.swapped-stores";let items<-unpackItems (.ref g.heap.objs.size) 2 Pb;Xq [λv=>WR X.env y v,λv=>WR X.env x v] items.reverse;pure Yd) _ _ _;refine O9 (UD (O9 (unpackItems_tuple (items:=#[f,d]) (I.ok.hd S) (IsTup.new g.heap _) λh' t=>?_)));have V:=W.kept (h':=h') (t':=g.toks) λb o e=>t b o (P5 (Px e)) e;show wpAny _ _ (Xq [λv=>WR X.env y v,λv=>WR X.env x v] [d,f]>>=λ_=>pure Yd) _ _ _;refine O9 (Ve (wpAny_bindName (fR V hN R (.inl C) l (λs2 U=>?_) (.inr C))));refine Ve (wpAny_bindName (fR U hN hi (.inl E) M (λs3 J=>XR (Pf ?_)) (.inr E)));rw[List.set_comm _ _ (Q9 u)]at J;exact⟨_,K,J,m⟩
end
section
variable{X:Cx}{pos:Ro}
noncomputable def FG(c:TT)(h:TS):TS:=λD a H=>∃W:Nat->St->Hp->Prop,(∃m,W m a H)/\∀m a H,W m a H->c a H λb f=>if b=Pa then∃N:St->Hp->Prop,(∀d g,N d g->∃e,e<m/\W e d g)/\h {D with nx:=N,ct:=N,bk:=D.nx} a f else D.nx a f
theorem yx{c:PC}{body:List RP}{t:TT}{u:TS}(x:Va (Py X.prog X.w) X.A X.env X.xe)(O:PT X c t)(hb:qt X body u):PS X (.While c body [] pos) (FG t u):=by
 intro d s E H D I h;obtain⟨W,⟨M,G⟩,i⟩:=h;refine wpAny_While (codeAny_whileLoop (λn L=>∃g C,Inv X d g C L/\W n g C) ?_ M ⟨E,H,I,G⟩);rintro n K⟨e,B,P,F⟩;refine Sr x (bp (O d K e B _ P (i n e B F)) λb J m=>?_);obtain⟨z,y,l⟩:=m;cases b with
 |true=>
  obtain⟨N,hN,l⟩:=l;rw[if_pos rfl];refine Sr x (bp (hb d J e z _ y l) λf Q k=>?_);cases f with
  |next=>
   obtain⟨a,j,r,n3⟩:=k;obtain⟨p,q,o⟩:=hN a j n3;exact⟨p,q,a,j,r,o⟩|cont=>
   obtain⟨a,j,r,n3⟩:=k;obtain⟨p,q,o⟩:=hN a j n3;exact⟨p,q,a,j,r,o⟩|brk=>exact k|ret v=>exact k
 |false=>
  rw[if_neg QM];exact UY ⟨e,z,y,l⟩
end
structure It where
 go:Nat->Hp->Prop
 Mm:Nat->Hp->V->Hp->Prop
 stop:Nat->Hp->Prop
noncomputable def fN(X:Cx)(pins:List (Pg×Qx))(H:Hp)(b:Pg):Prop:=H b=Pb/\b≠X.env.locals/\b∉X.fs/\(b∈X.ex\/X.bI.heap.objs.size<=b)/\(∀x c,X.env.cells.lookup x=O7 c->c≠b)/\∀p∈X.pn++pins,p.1≠b
theorem Inv.BW{X:Cx}{pins:List (Pg×Qx)}{σ:St}{H H':Hp}{s:Pe}{b:Pg}(I:Inv X pins σ H s)(hb:s.heap.objs.size<=b)(d:H' b=Pb):fN X pins H' b:=by
 refine⟨d,RA (PJ I.lt hb),I.BQ hb,.inr (Qa I.sz hb),λx c e z=>?_,λp a z=>?_⟩
 .obtain⟨v,q⟩:=I.cell x c e;exact absurd (PJ q.lt (by rw[z];exact hb)) (Qf _)
 .exact absurd (PJ (Px (I.pin p a).1) (by rw[z];exact hb)) (Qf _)
structure Turn(P:PF)(w:P0)(K:Pj)(tg:PC)(J:It)(fp:List Pg)(it:Pg)(tn:Nat->P7->Prop):Prop where
 mem:it∈fp
 obj:∀i h,tn i h->∀b∈fp,∃o,h.get? b=O7 o/\∀v,o.data≠.cell v
 keep:∀i h h',tn i h->(∀b∈fp,∀o,h.get? b=O7 o->h'.get? b=O7 o)->tn i h'
 item:∀(X:Cx),X.prog=P->X.w=w->X.K=K->X.calm=Pa->∀(i:Nat)(pins:List (Pg×Qx))(s:Pe)(σ:St)(H:Hp)(E:O_->Pe->Prop),Inv X pins σ H s->(∀b∈fp,fN X pins H b)->tn i s.heap->J.go i H->wpAny (Py P w) X.A (UE (.ref it)) (λr s1=>∃u,r=O7 u/\wpAny (Py P w) X.A (Ss tg (.ref it) u) (λ_ s2=>∃x H',Inv X pins σ H' s2/\RelV x u/\J.Mm i H x H'/\tn (i+1) s2.heap/\∀b∈fp,H' b=Pb) E s1) E s
 done:∀(X:Cx),X.prog=P->X.w=w->X.K=K->X.calm=Pa->∀(i:Nat)(pins:List (Pg×Qx))(s:Pe)(σ:St)(H:Hp)(E:O_->Pe->Prop),Inv X pins σ H s->(∀b∈fp,fN X pins H b)->tn i s.heap->J.stop i H->wpAny (Py P w) X.A (UE (.ref it)) (λr s1=>r=Pb/\Inv X pins σ H s1) E s
 self:∀(A:P9)(i:Nat)(s:Pe)(Q:O_->Pe->Prop)(E:O_->Pe->Prop),tn i s.heap->Q (.ref it) s->wpAny (Py P w) A (Ye (.ref it)) Q E s
abbrev TI:=St->Hp->(It->Hp->Prop)->Prop
noncomputable def N6(X:Cx)(pins:List (Pg×Qx))(σ:St)(tg:PC)(R:It->Hp->Prop)(a:O_)(s2:Pe):Prop:=∃(it:Pg)(e:List Pg)(d:Nat->P7->Prop)(J:It)(c:Hp),a=.ref it/\Inv X pins σ c s2/\Turn X.prog X.w X.K tg J e it d/\d 0 s2.heap/\(∀b∈e,fN X pins c b)/\R J c
noncomputable def PI(X:Cx)(tg iter:PC)(c:TI):Prop:=∀(a:List (Pg×Qx))(s:Pe)(b:St)(H:Hp)(R:It->Hp->Prop),Inv X a b H s->c b H R->wpAny (Py X.prog X.w) X.A (Rz iter X.env) (λv d=>wpAny (Py X.prog X.w) X.A (Ye v) (N6 X a b tg R) X.xe d) X.xe s
theorem uM{M:T9}{A:P9}{E:O_->Pe->Prop}{s:Pe}{tg:PC}{it:Pg}{u:O_}{o:Qx}{n:String}{vs:Array O_}{Q:Unit->Pe->Prop}(b:s.heap.get? it=O7 o)(d:o.cls=.type n)(hd:o.data=.fields vs)(c:["enumerate","zip","dict_itemiterator","dict_reverseitemiterator","odict_iterator","itertools.zip_longest","itertools.pairwise"].contains n=Pc)(a:Q () s):wpAny M A (Ss tg (.ref it) u) Q E s:=by
  unfold Ss;cases tg<;>first
    |exact Pf a|(cases u<;>first
        |exact Pf a
        | (refine O9 (wpAny_load b ?_);rw[d,hd];show wpAny M A (if(["enumerate","zip","dict_itemiterator","dict_reverseitemiterator","odict_iterator","itertools.zip_longest","itertools.pairwise"].contains n&&vs[0]?==O7 (To _))=Pa then _ else _) Q E s;rw[if_neg (by intro h;rw[c,Bool.false_and]at h;cases h)];exact Pf a))
noncomputable def N7(K:Pj)(a:Pg):It:=⟨λi H=>∃b x,d5 K H a b/\b[i]?=O7 x,λi H x c=>c=H/\∀b,d5 K H a b->b[i]?=O7 x,λi H=>∃b,d5 K H a b/\b.length<=i⟩
noncomputable def N8(K:Pj)(a:Pg):It:=⟨λi H=>∃b x,kq K H a b/\b[i]?=O7 x,λi H x c=>c=H/\∀b,kq K H a b->b[i]?=O7 x,λi H=>∃b,kq K H a b/\b.length<=i⟩
noncomputable def MS(lo:Int)(n:Nat):It:=⟨λi _=>i<n,λi H x a=>a=H/\x=.int (lo+i),λi _=>n<=i⟩
theorem wN{P:PF}{w:P0}{K:Pj}{tg:PC}(a it:Pg):Turn P w K tg (N7 K a) [it] it (λi h=>h.IsListIter it a i)where
 mem:=by simp
 obj:=λi h st b hb=>by
  have e:b=it:=by simpa using hb
  subst e;obtain⟨o,e,c,d⟩:=st;exact⟨o,e,λv z=>by rw[d]at z;cases z⟩
 keep:=λi h n st k=>st.at λo e=>k it (by simp) o e;item:=by
  intro X hP hw hK G i f s F H E I m st y;subst hP hw hK;obtain⟨J,x,l,t⟩:=y;obtain⟨r,q,p,M⟩:=I.list l;obtain⟨u,hu,L⟩:=q.get t;obtain⟨D,C,O,B,A,f5⟩:=m it (by simp);refine Wb st p.isList (x:=u) (by simpa using hu) λn g sb=>?_;have R:Inv X f F H {s with heap:=n}:=I.turned (t':=s.toks) (λb o hb e=>(sb.2 b hb).trans e) D C B A f5;obtain⟨o,e,c,d⟩:=id g;exact⟨u,rfl,uM (s:={s with heap:=n}) e c d (by decide) ⟨x,H,R,L,⟨rfl,λS N=>by rw[I.qz N l];exact t⟩,g,λb hb=>(m b hb).1⟩⟩
 done:=by
  intro X hP hw hK G i f s F H E I m st y;subst hP hw hK;obtain⟨J,l,t⟩:=y;obtain⟨r,q,p,M⟩:=I.list l;obtain⟨D,C,O,B,A,f5⟩:=m it (by simp);have T:=q.length;exact WD (I.ok.hd G) st p.isList (by simp;omega) λn Q=>⟨rfl,I.turned (t':=s.toks) (λb o hb e=>Q b o hb e) D C B A f5⟩
 self:=λ_ _ _ _ _ st h=>wpAny_pyIter_listiter st h
theorem tw{P:PF}{w:P0}{K:Pj}{tg:PC}(a it:Pg):Turn P w K tg (N8 K a) [it] it (λi h=>h.IsTupleIter it a i)where
 mem:=by simp
 obj:=λi h st b hb=>by
  have e:b=it:=by simpa using hb
  subst e;obtain⟨o,e,c,d⟩:=st;exact⟨o,e,λv z=>by rw[d]at z;cases z⟩
 keep:=λi h q st k=>st.at λo e=>k it (by simp) o e;item:=by
  intro X hP hw hK G i f s F H E I n st y;subst hP hw hK;obtain⟨J,x,m,t⟩:=y;obtain⟨g,r,p,M⟩:=I.tuple m;obtain⟨u,hu,L⟩:=r.get t;obtain⟨D,C,O,B,A,f5⟩:=n it (by simp);refine wpAny_pyNext_tuple_item st (show s.heap.IsTuple a g.toArray from p) (x:=u) (by simpa using hu) λq j sb=>?_;have R:Inv X f F H {s with heap:=q}:=I.turned (t':=s.toks) (λb o hb e=>(sb.2 b hb).trans e) D C B A f5;obtain⟨o,e,c,d⟩:=id j;exact⟨u,rfl,uM (s:={s with heap:=q}) e c d (by decide) ⟨x,H,R,L,⟨rfl,λS N=>by rw[I.wM N m];exact t⟩,j,λb hb=>(n b hb).1⟩⟩
 done:=by
  intro X hP hw hK G i f s F H E I n st y;subst hP hw hK;obtain⟨J,m,t⟩:=y;obtain⟨g,r,p,M⟩:=I.tuple m;obtain⟨D,C,O,B,A,f5⟩:=n it (by simp);have T:=r.length;exact wpAny_pyNext_tuple_end (I.ok.hd G) st (show s.heap.IsTuple a g.toArray from p) (by simp;omega) λq Q=>⟨rfl,I.turned (t':=s.toks) (λb o hb e=>Q b o hb e) D C B A f5⟩
 self:=λ_ _ _ _ _ st h=>wpAny_pyIter_tupleiter st h
theorem tz{P:PF}{w:P0}{K:Pj}{tg:PC}(it:Pg)(lo:Int)(n:Nat):Turn P w K tg (MS lo n) [it] it (λi h=>IsRangeIter h it (lo+(i:Nat)*1) ((n:Int)-(i:Nat)) 1)where
 mem:=by simp
 obj:=λi h st b hb=>by
  have e:b=it:=by simpa using hb
  subst e;exact⟨_,st,λv z=>by
   have A:Data.fields _=Data.cell v:=z;cases A⟩
 keep:=λi h j st k=>k it (by simp) _ st;item:=by
  intro X hP hw hK m i a s x H E I g st l;subst hP hw hK;obtain⟨u,r,D,q,p,f5⟩:=g it (by simp);have W:=Walks.range (prog:=X.prog) (w:=X.w) (I.ok.hd m) it lo 1 n;refine W.item i s _ _ l st λv j y C d B=>?_;obtain⟨t,rfl⟩:=C;have G:Inv X a x H {s with heap:=j,toks:=y}:=I.turned (λb o hb e=>B b o (by simpa using hb) e) u r q p f5;refine⟨_,rfl,uM (s:={s with heap:=j,toks:=y}) (n:="range_iterator") d rfl rfl (by decide) ⟨.int (lo+i),H,G,⟨t,?_⟩,⟨rfl,rfl⟩,d,λb hb=>(g b hb).1⟩⟩;rw[Int.mul_one]
 done:=by
  intro X hP hw hK m i a s x H E I g st l;subst hP hw hK;obtain⟨u,r,D,q,p,f5⟩:=g it (by simp);exact wpAny_pyNext_range_end (I.ok.hd m) st (by have:n<=i:=l;omega) λj F=>⟨rfl,I.turned (t':=s.toks) (λb o hb e=>F b o hb e) u r q p f5⟩
 self:=λ_ _ _ _ _ st h=>wpAny_pyIter_rangeiter st h
end L2
namespace L2
open PySem PySem.Spec PyProof.Rows
section
variable{X:Cx}{tg:PC}
theorem yy{pins:List (Pg×Qx)}{σ:St}{H:Hp}{s:Pe}{R:It->Hp->Prop}{E:O_->Pe->Prop}{lo hi:Int}{t u v:V7}{f:Nat}(I:Inv X pins σ H s)(k:-(2^62)<=lo)(j:lo<2^62)(i:-(2^62)<=hi)(h:hi<2^62)(q:R (MS lo (hi-lo).toNat) H):wpAny (Py X.prog X.w) X.A (Ye (.ref s.heap.objs.size)) (N6 X pins σ tg R) E {s with heap:=s.heap.push {cls:=.type "range",data:=.fields #[.int lo t,.int hi u,.int 1 v]},toks:=f}:=by
 refine wpAny_pyIter_range (IsRange.new ..) (small_one k j i h) ?_;have g:Inv X pins σ H {s with heap:=s.heap.push {cls:=.type "range",data:=.fields #[.int lo t,.int hi u,.int 1 v]},toks:=f}:=I.kept λb o e=>Ph _ e;refine⟨(s.heap.push {cls:=.type "range",data:=.fields #[.int lo t,.int hi u,.int 1 v]}).objs.size,[(s.heap.push {cls:=.type "range",data:=.fields #[.int lo t,.int hi u,.int 1 v]}).objs.size],_,_,H,rfl,g.kept (t':=f) λb o e=>Ph _ e,tz _ lo (hi-lo).toNat,?_,λb hb=>?_,q⟩
 .have m:lo+((0:Nat):Int)*1=lo:=by simp
  have l:(((hi-lo).toNat:Nat):Int)-((0:Nat):Int)=Builtin.Range.rangeSize lo hi 1:=by rw[rangeSize_one];split<;>omega
  show IsRangeIter _ _ (lo+((0:Nat):Int)*1) ((((hi-lo).toNat:Nat):Int)-((0:Nat):Int)) 1;rw[m,l];exact PR _ rfl
 .have e:b=(s.heap.push {cls:=.type "range",data:=.fields #[.int lo t,.int hi u,.int 1 v]}).objs.size:=by simpa using hb
  subst e;exact g.BW (Pq _) (g.aH.fresh (Pq _))
noncomputable def JK(c:TA):TI:=λa H R=>c a H λb d=>∃j:Int,b=[.int j]/\-(2^62)<=j/\j<2^62/\R (MS 0 j.toNat) d
theorem wO{a:PC}{d:TA}{p pos:Ro}(m:Gl X "range")(l:X.mg "range"=Pb)(ha:PA X [a] d)(hs:PL [a] X.env=[(Pc,Rz a X.env)]:=by rfl):PI X tg (.Call (.Name "range" p) [a] [] pos) (JK d):=by
 intro b s f H R I h;refine Call_ (kT I m l boot_range (Tp (bp (ha pos b s f H _ I h) λu v⟨o,w,n,i,c⟩=>?_) hs rfl));obtain⟨j,e,c,k,q⟩:=c;subst e;cases i with|cons r g=>
  cases g;obtain⟨t,rfl⟩:=r;exact call_range_1 (yy n (by omega) (by omega) c k (by simpa using q))
noncomputable def MT(f:TI)(g:TG)(h:TS):TS:=λD a H=>f a H λJ k=>∃W:Nat->Nat->St->Hp->Prop,(∃m,W 0 m a k)/\∀i m a H,W i m a H->(J.stop i H/\D.nx a H)\/(J.go i H/\∃N:St->Hp->Prop,(∀b c,N b c->∃e,e<m/\W (i+1) e b c)/\∀x c,J.Mm i H x c->g x a c λd j=>h {D with nx:=N,ct:=N,bk:=D.nx} d j)
noncomputable def fh(a:List Pg)(h:P7):List (Pg×Qx):=a.filterMap λb=>(h.get? b).map λo=>(b,o)
theorem fi{a:List Pg}{h:P7}{b:Pg}{o:Qx}(hb:b∈a)(e:h.get? b=O7 o):(b,o)∈fh a h:=List.mem_filterMap.mpr ⟨b,hb,by rw[e];rfl⟩
theorem nr{a:List Pg}{h:P7}{p:Pg×Qx}(c:p∈fh a h):p.1∈a/\h.get? p.1=O7 p.2:=by
 obtain⟨b,hb,e⟩:=List.mem_filterMap.mp c;cases q:h.get? b with
 |none=>rw[q]at e;cases e|some o=>
  rw[q]at e;have d:(b,o)=p:=Pm e;subst d;exact⟨hb,q⟩
theorem Inv.pinned{pins:List (Pg×Qx)}{σ:St}{H:Hp}{s:Pe}{a:List Pg}(I:Inv X pins σ H s)(h:∀b∈a,fN X pins H b)(g:∀b∈a,∃o,s.heap.get? b=O7 o/\∀v,o.data≠.cell v):Inv X (pins++fh a s.heap) σ H s:=I.d_ λp f=>(List.mem_append.mp f).elim (λz=>I.pin p (PK _ z)) λz=>by
  obtain⟨hb,e⟩:=nr z;obtain⟨k,j,i,_⟩:=h p.1 hb;obtain⟨o,c,d⟩:=g p.1 hb;rw[e]at c;cases c;exact⟨e,k,j,i,d⟩
theorem Inv.iW{pins a:List (Pg×Qx)}{σ:St}{H:Hp}{s:Pe}(I:Inv X (pins++a) σ H s):Inv X pins σ H s:=I.d_ λp b=>I.pin p (PK _ (Qk _ b))
theorem FH{iter:PC}{body:List RP}{Y:TI}{g:TG}{tb:TS}{pos:Ro}(G:Va (Py X.prog X.w) X.A X.env X.xe)(hc:X.calm=Pa)(hi:PI X tg iter Y)(hg:PG X tg g)(hb:qt X body tb)(hs:∀x,R3 iter X.env x=pure x:=by intro _;rfl):PS X (.For tg iter body [] pos) (MT Y g tb):=by
 intro c s V H D I h;refine wpAny_For (bp (hi c s V H _ I h) λv s1 h1=>bp h1 λa0 s2 h2=>?_) hs;obtain⟨it,L,Z,J,H2,e,I2,T,P,f2,W,⟨m0,w0⟩,C⟩:=h2;subst e;have p:∀{y:Hp},(∀b∈L,y b=Pb)->∀b∈L,fN X c y b:=λhn b hb=>⟨hn b hb,(f2 b hb).2⟩;refine codeAny_forLoop_any (λn s'=>∃i l y,Inv X c l y s'/\Z i s'.heap/\(∀b∈L,y b=Pb)/\W i n l y) ?_ m0 ⟨0,V,H2,I2,P,λb hb=>(f2 b hb).1,w0⟩;rintro n s3⟨i,k,M,I3,E,K,w3⟩;rcases C i n k M w3 with⟨stop,qn⟩|⟨go,N,hN,step⟩
 .refine Sr G (bp (T.done X rfl rfl rfl hc i c s3 k M X.xe I3 (p K) E stop) λr s4 j=>?_);obtain⟨R,I4⟩:=j;subst R;exact UY ⟨k,M,I4,qn⟩
 .refine Sr G (bp (T.item X rfl rfl rfl hc i c s3 k M X.xe I3 (p K) E go) λr s4 j=>?_);obtain⟨u,R,h4⟩:=j;subst R;refine Sr G (bp h4 λ_ s5 j=>?_);obtain⟨x,H5,I5,r5,y5,B,S⟩:=j;have U:=I5.pinned (p S) (T.obj _ _ B);refine Sr G (bp (hg _ s5 k H5 x u _ U r5 (step x H5 y5)) λ_ s6 j=>?_);obtain⟨O,H6,I6,q6⟩:=j;refine Sr G (bp (hb _ s6 O H6 _ I6 q6) λf Q z=>?_);have YD:∀{a:St}{t:Hp},Inv X (c++fh L s5.heap) a t Q->N a t->∃m,m<n/\∃i l y,Inv X c l y Q/\Z i Q.heap/\(∀b∈L,y b=Pb)/\W i m l y:=λ{a t}q F=>by
   obtain⟨m',hm,w7⟩:=hN a t F;refine⟨m',hm,i+1,a,t,q.iW,T.keep _ _ _ B λb hb o e=>(q.pin (b,o) (PK _ (PK _ (fi hb e)))).1,λb hb=>?_,w7⟩;obtain⟨o,e,d⟩:=T.obj _ _ B b hb;exact(q.pin (b,o) (PK _ (PK _ (fi hb e)))).2.1
  cases f with
  |next=>obtain⟨a,t,q,F⟩:=z;exact YD q F|cont=>obtain⟨a,t,q,F⟩:=z;exact YD q F|brk=>obtain⟨a,t,q,z⟩:=z;exact⟨a,t,q.iW,z⟩|ret v=>obtain⟨x7,a,t,q,r7,z⟩:=z;exact⟨x7,a,t,q.iW,r7,z⟩
end
end L2
namespace L2
open PySem PySem.Spec PyProof.Rows
abbrev R2:=V->V->Hp->VK->Prop
noncomputable def kW(X:Cx)(f:O_->O_->Vy O_)(r:R2):Prop:=∀(a:List (Pg×Qx))(s:Pe)(b:St)(H:Hp)(x y:V)(v u:O_)(Q:VK),Inv X a b H s->RelV x v->RelV y u->r x y H Q->wpAny (Py X.prog X.w) X.A (f v u) (EP X a b Q) X.xe s
noncomputable def MU(X:Cx)(f:O_->Vy O_)(r:V->Hp->VK->Prop):Prop:=∀(a:List (Pg×Qx))(s:Pe)(b:St)(H:Hp)(x:V)(v:O_)(Q:VK),Inv X a b H s->RelV x v->r x H Q->wpAny (Py X.prog X.w) X.A (f v) (EP X a b Q) X.xe s
noncomputable def e8(X:Cx)(f:O_)(r:List V->Hp->VK->Prop):Prop:=∀(a:List (Pg×Qx))(s:Pe)(b:St)(H:Hp)(c:List V)(d:List O_)(Q:VK),Inv X a b H s->ar c d->r c H Q->wpAny (Py X.prog X.w) X.A (call f d) (EP X a b Q) X.xe s
noncomputable def MV(X:Cx)(r:V->Hp->(Bool->Hp->Prop)->Prop):Prop:=∀(a:List (Pg×Qx))(s:Pe)(b:St)(H:Hp)(x:V)(v:O_)(Q:Bool->Hp->Prop),Inv X a b H s->RelV x v->r x H Q->wpAny (Py X.prog X.w) X.A (truthy v) (TP X a b Q) X.xe s
noncomputable def JL(r:R2)(c b:TE):TE:=λa H Q=>c a H λx e=>b a e λy d=>r x y d Q
noncomputable def Oz(r:V->Hp->VK->Prop)(b:TE):TE:=λa H Q=>b a H λx c=>r x c Q
noncomputable def rI(C:Int->Int->Prop)(g:Int->Int->V):R2:=λx y H Q=>∃i j,x=.int i/\y=.int j/\C i j/\Q (g i j) H
noncomputable def Ez(g:Int->Int->V):R2:=λx y H Q=>∃i j,x=.int i/\y=.int j/\Q (g i j) H
noncomputable def rU(g:Int->V):V->Hp->VK->Prop:=λx H Q=>∃i,x=.int i/\Q (g i) H
section
variable{X:Cx}{a b c:PC}{ta tb tc:TE}{pos:Ro}
theorem FJ(ha:PE X a ta)(hb:PE X b tb){pins:List (Pg×Qx)}{s:Pe}{σ:St}{H:Hp}{R:V->V->Hp->Prop}(I:Inv X pins σ H s)(h:ta σ H λx j=>tb σ j λy e=>R x y e){Q:O_->Pe->Prop}{f:O_->O_->Vy O_}(p:∀v u s2 x y e,Inv X pins σ e s2->RelV x v->RelV y u->R x y e->wpAny (Py X.prog X.w) X.A (f v u) Q X.xe s2):wpAny (Py X.prog X.w) X.A (Rz a X.env) (λv i=>wpAny (Py X.prog X.w) X.A (Rz b X.env) (λu g=>wpAny (Py X.prog X.w) X.A (f v u) Q X.xe g) X.xe i) X.xe s:=by
 refine bp (ha pins s σ H _ I h) λv k d=>?_;obtain⟨x,j,r,m,o⟩:=d;refine bp (hb pins k σ j _ r o) λu s2 d=>?_;obtain⟨y,e,q,l,n⟩:=d;exact p v u s2 x y e q m l n
theorem bw{op:WS}{r:R2}(j:kW X (Sb op) r)(ha:PE X a ta)(hb:PE X b tb):PE X (.BinOp a op b pos) (JL r ta tb):=by
 intro d s e H Q I h;exact wpAny_BinOp (FJ ha hb I h λv u f x y l k i g q=>j d f e l x y v u Q k i g q)
theorem JM{op:UnaryOp}{r:V->Hp->VK->Prop}(j:MU X (unaryOp op) r)(ha:PE X a ta):PE X (.UnaryOp op a pos) (Oz r ta):=by
 intro d s e H Q I h;exact UnaryOp_ (bp (ha d s e H _ I h) λv f⟨x,l,k,g,i⟩=>j d f e l x v Q k g i)
theorem Mn{f:O_->O_->Vy O_}{C:Int->Int->Prop}{g:Int->Int->Int}(WQ:∀(i j:Int)(t u:V7)(s:Pe)(Q:O_->Pe->Prop)(E:O_->Pe->Prop),C i j->Q (.int (g i j) s.toks) {s with toks:=s.toks+1}->wpAny (Py X.prog X.w) X.A (f (.int i t) (.int j u)) Q E s):kW X f (rI C λi j=>.int (g i j)):=by
 intro d s n H x y v u Q I l k h;obtain⟨i,j,rfl,rfl,m,q⟩:=h;obtain⟨t,rfl⟩:=l;obtain⟨e,rfl⟩:=k;exact WQ i j t e s _ _ m ⟨.int (g i j),H,I.tok _,⟨_,rfl⟩,q⟩
theorem MW{f:O_->O_->Vy O_}{g:Int->Int->Int}(WQ:∀(i j:Int)(t u:V7)(s:Pe)(Q:O_->Pe->Prop)(E:O_->Pe->Prop),Q (.int (g i j) s.toks) {s with toks:=s.toks+1}->wpAny (Py X.prog X.w) X.A (f (.int i t) (.int j u)) Q E s):kW X f (Ez λi j=>.int (g i j)):=by
 intro d s m H x y v u Q I l k h;obtain⟨i,j,rfl,rfl,q⟩:=h;obtain⟨t,rfl⟩:=l;obtain⟨e,rfl⟩:=k;exact WQ i j t e s _ _ ⟨.int (g i j),H,I.tok _,⟨_,rfl⟩,q⟩
theorem BX{f:O_->O_->Vy O_}{g:Int->Int->Bool}(WQ:∀(i j:Int)(t u:V7)(s:Pe)(Q:O_->Pe->Prop)(E:O_->Pe->Prop),Q (.bool (g i j)) s->wpAny (Py X.prog X.w) X.A (f (.int i t) (.int j u)) Q E s):kW X f (Ez λi j=>.bl (g i j)):=by
 intro d s m H x y v u Q I l k h;obtain⟨i,j,rfl,rfl,q⟩:=h;obtain⟨t,rfl⟩:=l;obtain⟨e,rfl⟩:=k;exact WQ i j t e s _ _ ⟨.bl (g i j),H,I,rfl,q⟩
noncomputable def MX(i j:Int):Prop:=0<j/\j<1073741824
noncomputable def JN(i j:Int):Prop:=0<=j/\j<=1000000/\i.natAbs<2^64
noncomputable def BY(i j:Int):Prop:=(-(2^64)<i/\i<2^64)\/(-(2^64)<j/\j<2^64)
theorem BY.ok{i j:Int}(h:BY i j):IntMulOk i j:=by
 rcases h with⟨e,d⟩|⟨e,d⟩;.exact .of_left (intBits_le_64 e d)
 .exact .of_right (intBits_le_64 e d)
theorem kX:kW X (Sb .Add) (Ez λi j=>.int (i+j)):=MW λ_ _ _ _ _ _ _ q=>add_int q
theorem iq:kW X (Sb .Mult) (rI BY λi j=>.int (i*j)):=Mn λ_ _ _ _ _ _ _ d q=>mul_int q d.ok
theorem oO:kW X (Sb .FloorDiv) (rI MX λi j=>.int (i/j)):=Mn λi j _ _ _ _ _ d q=>by
 have f:(0:Int)<j:=d.1;have e:j<1073741824:=d.2;exact floordiv_int (by omega+splitNatSub) (by rw[Int.fdiv_eq_ediv_of_nonneg i (by omega+splitNatSub)];exact q) (.inl (PyProof.noPylong_small (by omega+splitNatSub)))
theorem eS:kW X (Sb .Mod) (rI (λ_ j=>0<j) λi j=>.int (i%j)):=Mn λi j _ _ _ _ _ d q=>by
 have e:(0:Int)<j:=d;exact mod_int' (by omega) (by rw[Int.fmod_eq_emod_of_nonneg i (by omega)];exact q)
theorem yz:kW X (Sb .Pow) (rI JN λi j=>.int (i^j.toNat)):=Mn λ_ _ _ _ _ _ _ d q=>pow_int_small d.1 d.2.1 d.2.2 q
theorem OA{f:O_->Vy O_}{g:Int->Int}(WQ:∀(i:Int)(t:V7)(s:Pe)(Q:O_->Pe->Prop)(E:O_->Pe->Prop),Q (.int (g i) s.toks) {s with toks:=s.toks+1}->wpAny (Py X.prog X.w) X.A (f (.int i t)) Q E s):MU X f (rU λi=>.int (g i)):=by
 intro d s j H x v Q I e h;obtain⟨i,rfl,q⟩:=h;obtain⟨t,rfl⟩:=e;exact WQ i t s _ _ ⟨.int (g i),H,I.tok _,⟨_,rfl⟩,q⟩
theorem FK:MU X (unaryOp .USub) (rU λi=>.int (-i)):=OA λ_ _ _ _ _ q=>neg_int q
end
section
variable{X:Cx}{a b c:PC}{ta tb tc:TE}{pos:Ro}
theorem FL{pins:List (Pg×Qx)}{σ:St}{H:Hp}{s:Pe}{Q:VK}{k d:Bool}(I:Inv X pins σ H s)(q:Q (.bl k) H)(e:k=d):EP X pins σ Q (.bool d) s:=by
 subst e;exact⟨.bl k,H,I,rfl,q⟩
theorem EA:kW X (QB .Lt) (Ez λi j=>.bl (decide (i<j))):=BX λ_ _ _ _ _ _ _ q=>lt_int q
theorem JO:kW X (QB .LtE) (Ez λi j=>.bl (decide (i<=j))):=BX λ_ _ _ _ _ _ _ q=>le_int q
theorem EB:kW X (QB .Gt) (Ez λi j=>.bl (decide (j<i))):=BX λ_ _ _ _ _ _ _ q=>gt_int q
theorem JP:kW X (QB .GtE) (Ez λi j=>.bl (decide (j<=i))):=BX λ_ _ _ _ _ _ _ q=>ge_int q
theorem FO:kW X (QB .Is) (λx y H Q=>y=.bH/\Q (.bl (decide (x=.bH))) H):=by
 intro e s g H x y v u Q I d f h;obtain⟨rfl,q⟩:=h;cases f;refine is_none_gen (FL I q ?_);cases x<;>first
  |(cases d;rfl)|(obtain⟨t,rfl⟩:=d;rfl)
theorem jJ(b:PC){op:UO}(h:op≠.In:=by decide)(d:op≠.NotIn:=by decide):Te op b=Pc:=by
 have f:(op==CmpOp.In)=Pc:=by cases op<;>first|rfl|exact absurd rfl h
 have e:(op==CmpOp.NotIn)=Pc:=by cases op<;>first|rfl|exact absurd rfl d
 cases b<;>simp[Te,f,e]
theorem BZ{op:UO}{r:R2}(j:kW X (QB op) r)(ha:PE X a ta)(hb:PE X b tb)(k:Te op b=Pc):PE X (.Compare a [op] [b] pos) (JL r ta tb):=by
 intro d s e H Q I h;exact wpAny_Compare1 (FJ ha hb I h λv u f x y m l i g q=>j d f e m x y v u Q l i g q) k
noncomputable def EC(t:TE):TT:=λd H Q=>t d H λx e=>∃k,x=.bl k/\Q k e
theorem iX{op:UO}{r:R2}(q:kW X (QB op) r)(ha:PE X a ta)(hb:PE X b tb)(t:Te op b=Pc):PT X (.Compare a [op] [b] pos) (EC (JL r ta tb)):=by
 intro d s f H Q I h;refine wpAny_isTrue_Compare1 (bp (ha d s f H _ I h) λv i⟨x,E,B,m,p⟩=>bp (hb d i f E _ B p) λu g⟨y,D,A,l,o⟩=>bp (q d g f D x y v u _ A m l o) λc F⟨z,C,w,j,k,e,n⟩=>?_) t;subst e;cases j;exact Sv ⟨C,w,n⟩
noncomputable def yA(r g:R2)(ta tb tc:TE):TE:=λd H Q=>ta d H λx j=>tb d j λy i=>r x y i λz e=>∃k,z=.bl k/\(if k=Pa then tc d e λf h=>g y f h Q else Q (.bl Pc) e)
theorem yB{op g:UO}{r m:R2}(L:kW X (QB op) r)(j:kW X (QB g) m)(ha:PE X a ta)(hb:PE X b tb)(N:PE X c tc)(M:lastMarks [op,g] [b,c]=Pc:=by with_unfolding_all rfl):PE X (.Compare a [op,g] [b,c] pos) (yA r m ta tb tc):=by
 intro f s i H Q I h;refine Compare_chain (bp (ha f s i H _ I h) λv C⟨x,U,R,F,K⟩=>chain_link (bp (hb f C i U _ R K) λu B⟨y,T,P,l,J⟩=>bp (L f B i T x y v u _ P F l J) λd A⟨z,p,o,E,k,e,n⟩=>?_)) M;subst e;cases E;refine Sv ?_;cases k with
 |false=>exact ite_ff ⟨.bl Pc,p,o,rfl,n⟩|true=>exact ite_tt (chain_last (bp (N f A i p _ o n) λt w⟨q,S,O,D,G⟩=>j f w i S y q u t Q O l D G))
noncomputable def JQ(K:Pj)(x:V)(H:Hp)(k:Bool):Prop:=match x with
 |.bH=>k=Pc|.bl b=>k=b|.int i=>k=(i !=0)|.str y=>y.length<=Pl/\k=((y.length:Int)!=0)|.Fo y=>y.size<=Pl/\k=((y.size:Int)!=0)|.ref p=>(∃d,d5 K H p d/\k=!d.isEmpty)\/(∃d,kq K H p d/\k=!d.isEmpty)\/∃e,H p=O7 (.dK e)/\k=!e.isEmpty|_=>False
theorem tD{e:Type}{d:List (e×V)}{vs:List (e×O_)}(r:KV d vs):(!vs.isEmpty)=!d.isEmpty:=by cases r<;>rfl
theorem kY{xs:List V}{d:List O_}(r:ar xs d):(!d.toArray.isEmpty)=!xs.isEmpty:=by cases r<;>simp
theorem iA:(Pl:Nat)<2^63:=by rw[Rg];decide
theorem FP:MV X (λx H Q=>∃k,JQ X.K x H k/\Q k H):=by
 intro A s E H x v Q I l h;obtain⟨k,e,q⟩:=h;have G:=iA;have F:Pl=16777216:=Rg;cases x with
 |bH=>
  cases l;have d:k=Pc:=e;subst d;exact truthy_none ⟨H,I,q⟩|bl b=>
  cases l;have d:k=b:=e;subst d;exact Sv ⟨H,I,q⟩|int i=>
  obtain⟨t,rfl⟩:=l;have d:k=(i !=0):=e;subst d;exact PySem.P.truthy_int ⟨H,I,q⟩|str y=>
  obtain⟨t,rfl⟩:=l;obtain⟨C,d⟩:y.length<=Pl/\k=((y.length:Int)!=0):=e;subst d;exact PySem.P.truthy_str (by omega) ⟨H,I.tok _,q⟩|Fo y=>
  obtain⟨t,rfl⟩:=l;obtain⟨C,d⟩:y.size<=Pl/\k=((y.size:Int)!=0):=e;subst d;exact PySem.W.truthy_bytes (by omega) ⟨H,I.tok _,q⟩|ref p=>
  cases l;have d:(∃j,d5 X.K H p j/\k=!j.isEmpty)\/(∃j,kq X.K H p j/\k=!j.isEmpty)\/∃f,H p=O7 (.dK f)/\k=!f.isEmpty:=e;rcases d with⟨j,n,d⟩|⟨j,n,d⟩|⟨f,n,d⟩
  .subst d;obtain⟨z,r,u,B⟩:=I.list n;have g:=r.length;exact wpAny_truthy_list u.isList (by simp only[Pw];omega) ⟨H,I.tok _,by rw[kY r];exact q⟩
  .subst d;obtain⟨z,r,u,B⟩:=I.tuple n;have g:=r.length;exact truthy_tuple u (by simp only[Pw];omega) ⟨H,I.tok _,by rw[kY r];exact q⟩
  .subst d;obtain⟨B,D,o,r,m⟩:f.length<=Pl/\(p==Q8)=Pc/\∃o,KV f o/\s.heap.DictOf (aq X.prog X.w) p o:=I.aH p _ n;have g:f.length=o.length:=Paired.length r;exact wpAny_truthy_dict D m (by omega) ⟨H,I.tok _,by rw[tD r];exact q⟩|_=>exact(show False from e).elim
theorem yC(ha:PE X a ta)(i:∀whole,V9 a X.env whole=(do let v<-whole;Ug a.pos;Wa [v] (truthy v))):PT X a (λσ H Q=>ta σ H λx H'=>∃k,JQ X.K x H' k/\Q k H'):=by
 intro d s σ H Q I h;exact isTrue_plain (bp (ha d s σ H _ I h) λv e⟨x,l,j,f,g⟩=>FP d e σ l x v Q j f g) (i _)
theorem vals1{x:V}{us:List O_}(r:ar [x] us):∃u,us=[u]/\RelV x u:=by cases r with|cons e d=>cases d;exact⟨_,rfl,e⟩
theorem vals2{x y:V}{us:List O_}(r:ar [x,y] us):∃u w',us=[u,w']/\RelV x u/\RelV y w':=by cases r with|cons g f=>cases f with|cons e d=>cases d;exact⟨_,_,rfl,g,e⟩
theorem wQ(f:X.calm=Pa):e8 X (.builtin "max") (λxs H Q=>∃i j,xs=[.int i,.int j]/\Q (.int (if j>i then j else i)) H):=by
 intro e s g H xs m Q I r h;obtain⟨i,j,rfl,q⟩:=h;obtain⟨u,l,rfl,⟨t,rfl⟩,⟨o,rfl⟩⟩:=vals2 r;refine max_two_ints (I.ok.hd f) λp n k=>⟨_,H,I.kept k,?_,q⟩;by_cases d:j>i;.rw[if_pos d,if_pos d];exact⟨_,rfl⟩
 .rw[if_neg d,if_neg d];exact⟨_,rfl⟩
theorem wR(f:X.calm=Pa):e8 X (.builtin "min") (λxs H Q=>∃i j,xs=[.int i,.int j]/\Q (.int (if j<i then j else i)) H):=by
 intro e s g H xs m Q I r h;obtain⟨i,j,rfl,q⟩:=h;obtain⟨u,l,rfl,⟨t,rfl⟩,⟨o,rfl⟩⟩:=vals2 r;refine min_two_ints (I.ok.hd f) λp n k=>⟨_,H,I.kept k,?_,q⟩;by_cases d:j<i;.rw[if_pos d,if_pos d];exact⟨_,rfl⟩
 .rw[if_neg d,if_neg d];exact⟨_,rfl⟩
theorem wU:e8 X (.type "int") (λxs H Q=>(∃i,xs=[.int i]/\Q (.int i) H)\/∃k,xs=[.bl k]/\Q (.int (if k then 1 else 0)) H):=by
 intro d s f H xs g Q I r h;rcases h with⟨i,rfl,q⟩|⟨k,rfl,q⟩
 .obtain⟨u,rfl,t,rfl⟩:=vals1 r;exact call_int_int ⟨.int i,H,I,⟨_,rfl⟩,q⟩
 .obtain⟨u,rfl,e⟩:=vals1 r;cases e;exact call_int_bool ⟨.int (if k then 1 else 0),H,I.tok _,⟨_,rfl⟩,q⟩
noncomputable def MY(K:Pj)(x:V)(H:Hp)(n:Nat):Prop:=match x with
 |.str y=>y.length<=Pl/\n=y.length|.Fo y=>y.size<=Pl/\n=y.size|.ref p=>(∃d,d5 K H p d/\n=d.length)\/∃d,kq K H p d/\n=d.length|_=>False
theorem yD:e8 X (.builtin "len") (λxs H Q=>∃x n,xs=[x]/\MY X.K x H n/\Q (.int n) H):=by
 intro m s w H xs z Q I r h;obtain⟨x,n,rfl,e,q⟩:=h;obtain⟨u,rfl,g⟩:=vals1 r;have B:=iA;have A:Pl=16777216:=Rg;cases x with
 |str y=>
  obtain⟨t,rfl⟩:=g;obtain⟨v,f⟩:y.length<=Pl/\n=y.length:=e;subst f;exact len_str (by omega) ⟨.int _,H,I.tok _,⟨_,rfl⟩,q⟩|Fo y=>
  obtain⟨t,rfl⟩:=g;obtain⟨v,f⟩:y.size<=Pl/\n=y.size:=e;subst f;exact PySem.W.len_bytes (by omega) ⟨.int _,H,I.tok _,⟨_,rfl⟩,q⟩|ref p=>
  cases g;have f:(∃xs,d5 X.K H p xs/\n=xs.length)\/∃xs,kq X.K H p xs/\n=xs.length:=e;rcases f with⟨xs,l,f⟩|⟨xs,l,f⟩
  .subst f;obtain⟨k,i,j,o⟩:=I.list l;have d:=i.length;exact Xj j.isList (by simp only[Pw];omega) ⟨.int xs.length,H,I.tok _,⟨_,by simp only[Pw];rw[d]⟩,q⟩
  .subst f;obtain⟨k,i,j,o⟩:=I.tuple l;have d:=i.length;exact len_tuple j (by simp only[Pw];omega) ⟨.int xs.length,H,I.tok _,⟨_,by simp only[Pw];rw[d]⟩,q⟩|_=>exact(show False from e).elim
end
end L2
namespace L2
open PySem PySem.Spec PyProof.Rows
structure FQ(h:P7)(x dx C:Pg)(mA:PX->Option O_):Prop where
 obj:h.get? x=O7 (Wu C dx)ns:h.Ns1 dx mA
 ne:dx≠x
theorem wV{h:P7}{g:Pg}{d:PX->Option O_}(n:h.Ns1 g d):∃c,h.get? g=O7 c/\∀name,WT name c=O7 (d name):=by
 obtain⟨o,f,p,j,hd,l,_,k⟩:=n;refine⟨o,j,λname=>?_⟩;have e:=k name;unfold nsFind findBy at e;rw[<-Array.find?_toList]at e;unfold WT;rw[hd];dsimp only;split
 .rename_i y q;rw[q]at e;exact congrArg O7 e
 .rename_i q;rw[q]at e;have a:f.toList.any (·.refKey)=Pc:=by
   rw[List.any_eq_false];intro y i;obtain⟨z,t,b⟩:=l y (Array.mem_toList_iff.mp i);simp[DictEntry.refKey,b]
  have m:¬f.toList.any (·.refKey)=Pa:=by rw[a];exact QM
  rw[if_neg m];exact congrArg O7 e
theorem FQ.look{h:P7}{x c C:Pg}{b:PX->Option O_}(I:FQ h x c C b):∃a,PySem.W.InstAt h x (Wu C c) C (O7 a)/\∀name,WT name a=O7 (b name):=let⟨a,d,e⟩:=wV I.ns;⟨a,⟨I.obj,rfl,rfl,d⟩,e⟩
theorem hZ.some_of{v:V}{o:Option O_}(r:hZ (O7 v) o):∃u,o=O7 u/\RelV v u:=by cases o with
 |none=>exact(show False from r).elim|some u=>exact⟨u,rfl,r⟩
theorem hZ.none_of{o:Option O_}(r:hZ Pb o):o=Pb:=by cases o with
 |none=>rfl|some u=>exact(show False from r).elim
section
variable{P:PF}{w:P0}{H H':Hp}{h h':P7}{a C dx:Pg}{fs fs':List (PX×V)}
theorem B0(aH:gQ P w H h)(e:H a=O7 (.ins C dx fs)):∃b,FQ h a dx C b/\(∀f,hZ (fs.lookup f) (b f))/\PySem.Within b (fs.map (·.1))/\fs.length<=1000/\H dx=O7 (.own a):=by
 obtain⟨d,z,ne,ob,b,n,r,q⟩:=(show aX P w H h a (.ins C dx fs)from aH a _ e);exact⟨b,⟨ob,n,ne⟩,r,q,z,d⟩
end
structure MZ(K:Pj)(C:Pg):Prop where
 pg:PySem.W.plainGet K C Str.empty=Pa
 hd:PySem.W.hasDictIn K C=Pa
 po:PySem.W.plainOver K C=Pa
 sa:Uh K (.ref C) "__setattr__"=O7 (O7 (.builtin "object.__setattr__"))
theorem MZ.get{K:Pj}{C:Pg}(c:MZ K C)(f:PX):PySem.W.plainGet K C f=Pa:=c.pg
section
variable{X:Cx}{pins:List (Pg×Qx)}{σ:St}{H:Hp}{s:Pe}{A:P9}{E:O_->Pe->Prop}{Q:O_->Pe->Prop}{c:O_}{b:Bool}
inductive kr(K:Pj)(H:Hp):V->O_->Prop where|bH:kr K H .bH (.type "NoneType")|bl(x:Bool):kr K H (.bl x) (.type "bool")|int(i:Int):kr K H (.int i) (.type "int")|str(x:PX):kr K H (.str x) (.type "str")|Jf(x:UInt64):kr K H (.Jf x) (.type "float")|lst{a:Pg}{xs:List V}(e:H a=O7 (.lst xs)):kr K H (.ref a) (.type "list")|bQ{a:Pg}{o:Qx}{xs:List V}(e:H a=O7 (.bQ o (.lst xs))):kr K H (.ref a) (.type "list")|tup{a:Pg}{xs:List V}(e:H a=O7 (.tup xs)):kr K H (.ref a) (.type "tuple")|dK{a:Pg}{kvs:List (Key×V)}(e:H a=O7 (.dK kvs)):kr K H (.ref a) (.type "dict")|dT{a:Pg}{kvs:List (List Key×V)}(e:H a=O7 (.dT kvs)):kr K H (.ref a) (.type "dict")|ins{a C dx:Pg}{fs:List (PX×V)}(e:H a=O7 (.ins C dx fs))(cl:MZ K C)(ha:Uh K (.ref C) "__class__"=O7 (O7 (.builtin "object.__class__")))(hn:PySem.W.specialIn K (.builtin "object.__class__") "__get__"=O7 (O7 (.builtin "getset_descriptor.__get__")))(htk:PySem.W.takesIn K (.builtin "object.__class__")=O7 Pa)(hm:PySem.W.mroIn K C (.type "object")=O7 Pa):kr K H (.ref a) (.ref C)
theorem gG{x:V}{u t:O_}(I:Inv X pins σ H s)(d:RelV x u)(ty:kr X.K H x t)(e:Ra X.K t c=O7 b)(h:∀r,Q (.bool b) {s with toks:=r}):wpAny (Py X.prog X.w) A (call (.builtin "isinstance") [u,c]) Q E s:=by cases ty with
 |bH=>cases(show u=Qc from d);exact QQ PySem.W.kitx_none I.jH T6 e (λz=>nomatch z) h|bl y=>cases(show u=Vc y from d);exact QQ PySem.W.kitx_bool I.jH T6 e (λz=>nomatch z) h|int i=>obtain⟨t,q⟩:=(show∃t,u=T8 i t from d);cases q;exact QQ PySem.W.kitx_int I.jH T6 e (λz=>nomatch z) h|str y=>obtain⟨t,q⟩:=(show∃t,u=Yc y t from d);cases q;exact QQ PySem.W.kitx_str I.jH T6 e (λz=>nomatch z) h|Jf y=>obtain⟨t,q⟩:=(show∃t,u=Value.float y t from d);cases q;exact QQ PySem.W.kitx_float I.jH T6 e (λz=>nomatch z) h|@lst a k f=>
  cases(show u=PQ a from d);obtain⟨_,_,n,_,g⟩:=(show aX X.prog X.w H s.heap a (.lst k)from I.aH a _ f);exact QQ Vz I.jH ⟨_,g,rfl⟩ e (λz=>nomatch z) h|@bQ a ob k f=>
  cases(show u=PQ a from d);obtain⟨_,_,_,n,_,g⟩:=(show aX X.prog X.w H s.heap a (.bQ ob (.lst k))from I.aH a _ f);exact QQ Vz I.jH ⟨_,g,rfl⟩ e (λz=>nomatch z) h|@tup a k f=>
  cases(show u=PQ a from d);obtain⟨_,_,_,p⟩:=(show aX X.prog X.w H s.heap a (.tup k)from I.aH a _ f);obtain⟨o,g,l,_⟩:=p;exact QQ Xv I.jH ⟨o,g,l⟩ e (λz=>nomatch z) h|@dK a j f=>
  cases(show u=PQ a from d);obtain⟨_,_,G,_,p⟩:=(show aX X.prog X.w H s.heap a (.dK j)from I.aH a _ f);obtain⟨o,D,F,g,l,_⟩:=p;exact QQ XS I.jH ⟨o,g,l.1⟩ e (λz=>nomatch z) h|@dT a j f=>
  cases(show u=PQ a from d);obtain⟨_,_,k,_,o,D,F,g,l,_⟩:=(show aX X.prog X.w H s.heap a (.dT j)from I.aH a _ f);exact QQ XS I.jH ⟨o,g,l.1⟩ e (λz=>nomatch z) h|@ins a C N fs f cl ha v m B=>
  cases(show u=PQ a from d);obtain⟨M,O,_⟩:=B0 I.aH f;obtain⟨L,J,_⟩:=O.look;exact QQ (PySem.W.kitx_own (cl.get _) cl.hd ha v m B) I.jH J e (λz=>nomatch z) h
end
end L2
namespace L2
open PySem PySem.Spec PyProof.Rows
structure eT(k:Nat)(A:P9):Prop where
 hd:A.handled=Pb
 dp:A.depth+3*k+5<recursionLimit
 un:A.units+16*k+200<Q_
 gd:A.guards=O7 []
theorem eT.mono{j k:Nat}{A:P9}(r:eT k A)(h:j<=k):eT j A:=⟨r.hd,by have:=r.dp;omega,by have:=r.un;omega,r.gd⟩
theorem eT.deeper{k:Nat}{A:P9}(r:eT (k+1) A)(env:U_):eT k (A.deeper env):=⟨r.hd,by have:=r.dp;show A.depth+1+3*k+5<_;omega,by have:=r.un;show A.units+3+16*k+200<_;omega,r.gd⟩
theorem eT.depth{k:Nat}{A:P9}(r:eT k A):A.depth<recursionLimit:=by have:=r.dp;omega
theorem eT.units{k:Nat}{A:P9}(r:eT k A):A.units+64<Q_:=by have:=r.un;omega
noncomputable def M0:TA:=λ_ H Q=>Q [] H
noncomputable def JR(d:TE)(c:TA):TA:=λa H Q=>d a H λx f=>c a f λb e=>Q (x::b) e
section
variable{X:Cx}{e:PC}{es:List PC}{te:TE}{t:TA}{pos:Ro}
theorem dh:PA X [] M0:=λ_ _ _ _ H Q I h=>Calls.spliced_nil ⟨[],H,I,.nil,h⟩
theorem be(ha:PE X e te)(l:PA X es t)(hs:PL (e::es) X.env=(Pc,Rz e X.env)::PL es X.env:=by rfl):PA X (e::es) (JR te t):=by
 intro pos a s c H Q I h;rw[hs];show wpAny _ _ (spliced ((Pc,Rz e X.env)::RR pos (PL es X.env))) _ _ s;refine Calls.spliced_cons (bp (ha a s c H _ I h) λu f b=>?_);obtain⟨x,p,n,i,k⟩:=b;exact bp (l pos a f c p _ n k) λq r⟨d,o,m,g,j⟩=>⟨x::d,o,m,.cons i g,j⟩
noncomputable def M1(t:TA):TE:=λc H Q=>t c H λa b=>a.length<=Pl/\∀p,b p=Pb->Q (.ref p) (upd b p (.tup a))
noncomputable def M2(t:TA):TE:=λc H Q=>t c H λa b=>a.length<=Pl/\∀p,b p=Pb->Q (.ref p) (upd b p (.lst a))
theorem FR{x1}(h:PA X es t):PE X (.Tuple es x1 pos) (M1 t):=by
 intro a s g H Q I k;refine wpAny_Tuple_spliced (bp (h pos a s g H _ I k) λj c⟨i,f,d,r,z,q⟩=>⟨by rw[<-r.length];exact z,?_⟩);have l:f c.heap.objs.size=Pb:=d.aH.fresh (Pq _);refine⟨.ref c.heap.objs.size,upd f c.heap.objs.size (.tup i),d.laid (t':=c.toks) (λb u e=>Ph _ e) (Pq _) ?_,rfl,q _ l⟩;exact⟨z,j,r,⟨_,PR _ rfl,rfl,_,rfl⟩⟩
theorem tE(h:PA X es t):PE X (.List es pos) (M2 t):=by
 intro a s g H Q I k;refine wpAny_List_spliced (bp (h pos a s g H _ I k) λj c⟨i,f,d,r,z,q⟩=>⟨by rw[<-r.length];exact z,?_⟩);have l:f c.heap.objs.size=Pb:=d.aH.fresh (Pq _);refine⟨.ref c.heap.objs.size,upd f c.heap.objs.size (.lst i),d.laid (t':=c.toks) (λb u e=>Ph _ e) (Pq _) ?_,rfl,q _ l⟩;exact⟨z,j,0,r,PR _ rfl⟩
end
abbrev Sp:=List V->Hp->VK->XK->Prop
abbrev uN:=List U_->Hp->Pe->XK->O_->Pe->Prop
structure B1(P:PF)(w:P0)(K:Pj)(mg:PX->Option O_)(base:P7)(A:P9)(outer:List U_)(s:Pe)(H:Hp):Prop where
 frames:A.frames=O7 outer
 mod:Mod K mg base
 bs:∀b o,base.get? b=O7 o->s.heap.get? b=O7 o/\H b=Pb
 BL:base.objs.size<=s.heap.objs.size
 jI:s.heap.FunFrames base outer
 Eu:∀b∈gS outer,H b=Pb
 aH:gQ P w H s.heap
 bare:UK s.gens
noncomputable def CE(outer:List U_)(P:PF)(w:P0)(H:Hp)(s:Pe)(Q:VK)(u:O_)(s':Pe):Prop:=∃v a,s'.os=s.os/\UK s'.gens/\Un (gS outer) [] H a s.heap s'.heap/\gQ P w a s'.heap/\RelV v u/\Q v a
noncomputable def CR(CX:uN)(outer:List U_)(P:PF)(w:P0)(H:Hp)(s:Pe)(Q:VK)(E:XK)(r:Result)(s':Pe):Prop:=match r with
 |.ok (.ret u)=>CE outer P w H s Q u s'|.ok _=>False|.error e=>CX outer H s E e s'
structure dM(P:PF)(w:P0)(K:Pj)(mg:PX->Option O_)(base:P7)(CX:uN)(k:Nat)(f:Pg)(fd:Rj)(ps:List PX)(sp:Sp):Prop where
 len:∀vs H Q E,sp vs H Q E->vs.length=ps.length
 run:∀(A:P9)(outer:List U_)(s:Pe)(H:Hp)(args:Args)(us:List O_)(vs:List V)(Q:VK)(E:XK),eT k A->B1 P w K mg base A outer s H->YF s fd args (ps.zip us)->ar vs us->sp vs H Q E->codeAny (Py P w) A (.call (.ref f) args) (CR CX outer P w H s Q E) s
theorem dM.mono{P:PF}{w:P0}{K:Pj}{mg:PX->Option O_}{base:P7}{CX:uN}{j k:Nat}{f:Pg}{fd:Rj}{ps:List PX}{sp:Sp}(F:dM P w K mg base CX j f fd ps sp)(h:j<=k):dM P w K mg base CX k f fd ps sp:=⟨F.len,λA outer s H a c b Q E d=>F.run A outer s H a c b Q E (d.mono h)⟩
theorem dM.imp{P:PF}{w:P0}{K:Pj}{mg:PX->Option O_}{base:P7}{CX:uN}{k:Nat}{f:Pg}{fd:Rj}{ps:List PX}{sp a:Sp}(F:dM P w K mg base CX k f fd ps sp)(h:∀vs H Q E,a vs H Q E->sp vs H Q E):dM P w K mg base CX k f fd ps a:=⟨λvs H Q E q=>F.len vs H Q E (h _ _ _ _ q),λA outer s H b c vs Q E g i hb d e=>F.run A outer s H b c vs Q E g i hb d (h _ _ _ _ e)⟩
section
variable{X:Cx}{pins:List (Pg×Qx)}{σ:St}{H:Hp}{s s':Pe}
theorem Inv.tF(I:Inv X pins σ H s):B1 X.prog X.w X.K X.mg X.base X.A X.stack s H:=⟨I.ok.frames,I.ok.mod,I.bs,Qa I.ok.BL I.sz,I.stack,I.kE,I.aH,I.bare⟩
theorem Inv.after{Q:VK}{u:O_}(I:Inv X pins σ H s)(h:CE X.stack X.prog X.w H s Q u s'):EP X pins σ Q u s':=by
 obtain⟨v,e,os,bare,un,aH,r,q⟩:=h;obtain⟨c,g,d,t,a⟩:=s';obtain rfl:a=s.os:=os;exact⟨v,e,I.call (h':=c) (g':=g) (d':=d) (t':=t) (ch:=[]) un aH bare (λb z=>absurd z (by simp)),r,q⟩
end
noncomputable def JS(sp:Sp)(a:List V)(E:XK)(t:TA):TE:=λb H Q=>t b H λc d=>sp (c++a) d Q E
noncomputable def Binds(K:Pj)(fd:Rj)(ps:List PX)(ds:List O_):Prop:=∀(s:Pe)(a:List O_),K.In s.heap->(a++ds).length=ps.length->YF s fd ⟨a,[]⟩ (ps.zip (a++ds))
theorem Binds.all{K:Pj}{fd:Rj}{ps:List PX}(h:∀us:List O_,us.length=ps.length->XU fd ⟨us,[]⟩=pure (ps.zip us)):Binds K fd ps []:=λs us _ a=>by
 rw[QL]at a⊢;exact .of_eq (h us a)
noncomputable def tG(CX:uN)(X:Cx)(E:XK):Prop:=∀(a:List (Pg×Qx))(c:St)(H:Hp)(s:Pe)(e:O_)(b:Pe),Inv X a c H s->CX X.stack H s E e b->X.xe e b
section
variable{X:Cx}{CX:uN}{k:Nat}{f C:Pg}{fd:Rj}{ps:List PX}{sp:Sp}{dvs:List V}{ds:List O_}{E:XK}{x m:PX}{p pos apos:Ro}{e o:PC}{es:List PC}{ta:TE}{t:TA}
theorem FT{pins:List (Pg×Qx)}{σ:St}{H:Hp}{s:Pe}{Q:VK}{us:List O_}{vs:List V}(F:dM X.prog X.w X.K X.mg X.base CX k f fd ps sp)(g:eT k X.A)(hb:Binds X.K fd ps ds)(hd:ar dvs ds)(d:tG CX X E)(I:Inv X pins σ H s)(r:ar vs us)(h:sp (vs++dvs) H Q E):wpAny (Py X.prog X.w) X.A (call (.ref f) us) (EP X pins σ Q) X.xe s:=by
 have b:ar (vs++dvs) (us++ds):=r.append hd;have i:(us++ds).length=ps.length:=by rw[<-b.length];exact F.len _ _ _ _ h
 refine Xw (Tx (F.run X.A X.stack s H ⟨us,[]⟩ (us++ds) (vs++dvs) Q E g I.tF (hb s us I.jH i) b h) λr c a=>?_);cases r with
 |error e=>exact d pins σ H s e c I a|ok j=>cases j with
  |ret u=>exact I.after a|next=>exact Rr a|brk=>exact Rr a|cont=>exact Rr a
theorem B2(F:dM X.prog X.w X.K X.mg X.base CX k f fd ps sp)(j:eT k X.A)(u:Gl X x)(l:X.mg x=O7 (.ref f))(n:Tr X.K (.ref f)=Pa)(hb:Binds X.K fd ps ds)(hd:ar dvs ds)(i:tG CX X E)(ha:PA X (e::es) t)(c:(x==("__debug__":PX))=Pc:=by decide)(v:PL (e::es) X.env=(Pc,Rz e X.env)::PL es X.env:=by rfl)(b:(RR pos (PL es X.env)).any (·.1)=Pc:=by rfl):PE X (.Call (.Name x p) (e::es) [] pos) (JS sp dvs E t):=by
 intro a s g H Q I h;refine T7 (iU I u l ?_ c);refine Xx (h₀:=X.base) I.ok.mod.Fq n (bp (ha pos a s g H _ I h) λz B⟨y,D,d,r,q⟩=>⟨d.jH,?_⟩) v b;exact FT F j hb hd i d r q
end
structure c4(N P:List PX)(sc:RQ):Prop where
 kind:sc.kind=.function
 co:sc.isCoroutine=Pc
 gen:sc.isGenerator=Pc
 nd:N.Nodup
 pre:N.take P.length=P
 par:∀x∈P,sc.names.lookup x=O7 .local\/sc.names.lookup x=O7 .cell
 FU:∀y∈sc.names,y.2≠.free
theorem nu{kindOf:PX->Option Sj}{x:PX}:∀{a:List (PX×O_)}{m:PX->Option O_},(∀v,(x,v)∉a)->Yq kindOf a m x=m x
 |[],_,_=>rfl|(n,v)::r,m,h=>by
  unfold Yq;rw[nu λw hw=>h w (Po _ hw)];split
  .have:x≠n:=by rintro rfl;exact h v Pn
   simp[this]
  .rfl
theorem nv{kindOf:PX->Option Sj}{x:PX}:∀{a:List (PX×O_)}{m:PX->Option O_},(∀v,(x,v)∉a)->Yr kindOf a m x=m x
 |[],_,_=>rfl|(n,v)::r,m,h=>by
  unfold Yr;rw[nv λw hw=>h w (Po _ hw)];split;.rfl
  .have:x≠n:=by rintro rfl;exact h v Pn
   simp[this]
theorem ny{kindOf:PX->Option Sj}{x:PX}{v:O_}:∀{P:List PX}{vs:List O_}{i:Nat}{m:PX->Option O_},P.Nodup->P[i]?=O7 x->vs[i]?=O7 v->kindOf x=O7 .local->Yq kindOf (P.zip vs) m x=O7 v
 |[],_,_,_,_,h,_,_=>by simp at h|_::_,[],_,_,_,_,h,_=>by simp at h|p::P,w::vs,0,m,nd,b,a,c=>by
  simp at b a;subst b;subst a;show Yq kindOf ((p,w)::P.zip vs) m p=_;unfold Yq;rw[nu λv d=>(List.nodup_cons.mp nd).1 (Wv d).1,if_pos c];simp|p::P,w::vs,i+1,m,nd,b,a,c=>by
  show Yq kindOf ((p,w)::P.zip vs) m x=_;unfold Yq;exact ny (i:=i) (List.nodup_cons.mp nd).2 (by simpa using b) (by simpa using a) c
theorem nA{kindOf:PX->Option Sj}{x:PX}{v:O_}:∀{P:List PX}{vs:List O_}{i:Nat}{m:PX->Option O_},P.Nodup->P[i]?=O7 x->vs[i]?=O7 v->kindOf x≠O7 .local->Yr kindOf (P.zip vs) m x=O7 v
 |[],_,_,_,_,h,_,_=>by simp at h|_::_,[],_,_,_,_,h,_=>by simp at h|p::P,w::vs,0,m,nd,b,a,c=>by
  simp at b a;subst b;subst a;show Yr kindOf ((p,w)::P.zip vs) m p=_;unfold Yr;rw[nv λv d=>(List.nodup_cons.mp nd).1 (Wv d).1,if_neg c];simp|p::P,w::vs,i+1,m,nd,b,a,c=>by
  show Yr kindOf ((p,w)::P.zip vs) m x=_;unfold Yr;exact nA (i:=i) (List.nodup_cons.mp nd).2 (by simpa using b) (by simpa using a) c
noncomputable def start(N:List PX)(vs:List V):St:=vs.map O7++Qy (N.length-vs.length) Pb
noncomputable def ku(CX:uN)(P:PF)(w:P0)(K:Pj)(mg:PX->Option O_)(base:P7)(N:List PX)(b:PX)(a:RQ)(f:Pg)(cd:O_)(A:P9)(outer:List U_)(s:Pe)(H:Hp)(E:XK):Cx where
 prog:=P;w:=w;K:=K;mg:=mg;base:=base;A:=A.deeper (VI b a s.heap.objs.size f cd);N:=N;bI:=s;ig:=H;env:=VI b a s.heap.objs.size f cd;outer:=outer;stack:=VI b a s.heap.objs.size f cd::outer;ex:=[];calm:=Pa;fn:=λ_=>Pa;pn:=[];xe:=λe d=>wpAny (Py P w) (A.deeper (VI b a s.heap.objs.size f cd)) (YG (VI b a s.heap.objs.size f cd) e) (λ_ c=>CX outer H s E e c) (λg c=>CX outer H s E g c) d
theorem qB{sc:RQ}{n:Nat}{x:PX}(h:sc.names.lookup x=O7 .cell):∃c,(RO n sc.names []).lookup x=O7 c:=by
 have q:=SQ sc.names n [] (.inl h);exact Option.isSome_iff_exists.mp q
theorem wW{CX:uN}{P:PF}{w:P0}{K:Pj}{mg:PX->Option O_}{base:P7}{N ps:List PX}{g:PX}{d:RQ}{f:Pg}{cd:O_}{A:P9}{outer:List U_}{s s1:Pe}{H:Hp}{E:XK}{us:List O_}{vs:List V}(S:c4 N ps d)(hd:A.handled=Pb)(l:B1 P w K mg base A outer s H)(J:vs.length=ps.length)(r:ar vs us)(x:InCallC s s.heap.objs.size (Yq (VI g d s.heap.objs.size f cd).kindOf (ps.zip us) λ_=>Pb) (RO (s.heap.objs.size+1) d.names []) (Yr (VI g d s.heap.objs.size f cd).kindOf (ps.zip us) λ_=>Pb) s1):Inv (ku CX P w K mg base N g d f cd A outer s H E) [] (start N vs) H s1:=by
 have G:ps.length<=N.length:=by have:=congrArg RZ S.pre;rw[Tz]at this;omega
 obtain⟨C,I,rfl,D⟩:=x.done;have m:∀b:Pg,b∉(ku CX P w K mg base N g d f cd A outer s H E).ex:=λb z=>absurd (show b∈([]:List Pg)from z) (by simp);refine⟨⟨l.mod,S.kind,rfl,rfl,Pq _,λy z c C j=>?_,λy o=>?_,λy c _ h=>?_,λ_=>hd,Around.frames_deeper l.frames,.inr ⟨rfl,rfl⟩,λb z=>absurd z (m b),l.bs,l.BL,λb _ _=>m b,λb z=>absurd z (m b),l.jI,l.Eu⟩,rfl,l.bare,Un.kept D,⟨_,x.toInCall.ns,λi y v C j L=>?_⟩,λy c h=>⟨_,x.cell y c h⟩,l.aH.fresh (Pq _),λy c h=>?_,λp B=>absurd (show p∈([]:List (Pg×Qx))from B) (by simp),l.aH.kept D,?_⟩;.exact name_of_addr x.apart (Rh C) (Rh j)
 .have o:d.names.lookup y=O7 .cell\/d.names.lookup y=O7 .free:=o;rcases o with o|o;.exact qB o
  .exact absurd rfl (S.FU _ (Rh o))
 .exact Tw (x.above y c (Rh h))
 .have hi:i<vs.length:=by
   unfold start at j;by_cases hi:i<vs.length;.exact hi
   .rw[Qh (by simpa using hi)]at j;rw[R4]at j;split at j<;>cases j
  have ha:vs[i]?=O7 v:=by
   unfold start at j;rw[QP (by simpa using hi),PV]at j;cases e:vs[i]? with
   |none=>rw[e]at j;cases j|some a=>rw[e]at j;cases j;rfl
  obtain⟨u,hu,F⟩:=r.get ha;have B:ps[i]?=O7 y:=by rw[<-S.pre,TL (by omega)];exact C
  have t:ps.Nodup:=by rw[<-S.pre];exact S.nd.sublist (XW _ _)
  refine⟨u,F,?_⟩;rcases S.par y (Qd B)with k|k;.exact .inl ⟨k,ny t B hu k⟩
  .obtain⟨c,e⟩:=qB (n:=s.heap.objs.size+1) k;refine .inr ⟨.inl k,c,e,?_⟩;have q:=x.cell y c e;rw[nA t B hu (by show d.names.lookup y≠_;rw[k];decide)]at q;exact q
 .exact l.aH.fresh (Tw (x.above y c (Rh h)))
 .unfold start;show _=N.length;rw[P6,Pk,RT];omega
theorem yE{CX:uN}{P:PF}{w:P0}{K:Pj}{mg:PX->Option O_}{base:P7}{k:Nat}{f:Pg}{name c:PX}{g:VQ}{body:List RP}{a:RQ}{U kV B T d ct oc:O_}{X od:Option Pg}{G:Array (Option O_)}{N ps:List PX}{sp:Sp}(lk:K.lookup f=O7 ⟨oc,od,.func (Wc name c g body a U kV B T X d ct),G⟩)(O:RJ K d c=Pa)(S:c4 N ps a)(len:∀vs H Q E,sp vs H Q E->vs.length=ps.length)(j:∀(A:P9)(outer:List U_)(s:Pe)(H:Hp)(vs:List V)(Q:VK)(E:XK),eT k (A.deeper (VI c a s.heap.objs.size f d))->sp vs H Q E->∃t,qt (ku CX P w K mg base N c a f d A outer s H E) body t/\t {nx:=λ_ H'=>Q .bH H',rt:=Q} (start N vs) H):dM P w K mg base CX (k+1) f (Wc name c g body a U kV B T X d ct) ps sp:=by
 refine⟨len,λA outer s H W Z vs Q E M z hb r m=>?_⟩;have hl:=len _ _ _ _ m;have Y:K.In s.heap:=z.mod.Fq.keeps λb o e=>(z.bs b o e).1;have L:s.heap.NoLimit:=z.mod.nolimit.keeps λb o e=>(z.bs b o e).1;have i:∀y∈ps.zip Z,a.names.lookup y.1=O7 .local\/(a.names.lookup y.1=O7 .cell/\((RO (s.heap.objs.size+1) a.names []).lookup y.1).isSome=Pa):=λC hy=>by
  obtain⟨n,v⟩:=C;rcases S.par n (Wv hy).1 with q|q;.exact .inl q
  .exact .inr ⟨q,SQ _ _ _ (.inl q)⟩
 refine codeAny_call_function M.depth (Y _ _ lk) rfl S.co S.gen rfl (Xy Y O) (hb _ _ _ _ ?_);refine wpAny_newFunctionEnv_cells S.kind i λenv he R x=>?_;subst he;refine⟨L.keeps x.toInCall.keep,codeAny_func ?_⟩;obtain⟨t,ht,hq⟩:=j A outer s H vs Q E (M.deeper _) m;have I:Inv (ku CX P w K mg base N c a f d A outer s H E) [] (start N vs) H R:=wW S M.hd z hl r x;refine QV (ht [] R (start N vs) H _ I hq) (λfl D l=>?_) λe D l=>l;have p:∀{h:St}{H':Hp}{v:V}{u:O_},Inv (ku CX P w K mg base N c a f d A outer s H E) [] h H' D->RelV v u->Q v H'->CE outer P w H s Q u D:=λ{h H' v u}J F q=>⟨v,H',J.os,J.bare,J.base,J.aH,F,q⟩;cases fl with
 |ret u=>
  obtain⟨v,h,H',J,F,q⟩:=l;exact p J F q|next=>
  obtain⟨h,H',J,q⟩:=l;exact p (v:=V.bH) (u:=Qc) J rfl q|brk=>
  obtain⟨_,_,_,q⟩:=l;exact Rr q|cont=>
  obtain⟨_,_,_,q⟩:=l;exact Rr q
end L2
namespace L2
open PySem PySem.Spec PyProof.Rows
section
variable{X:Cx}{x:PX}{p pos:Ro}{e:PC}{es:List PC}{t:TA}{id T:String}{r:List V->Hp->VK->Prop}
noncomputable def M3(r:List V->Hp->VK->Prop)(t:TA):TE:=λa H Q=>t a H λb c=>r b c Q
theorem e_(u:e8 X (.builtin id) r)(o:Gl X x)(n:X.mg x=Pb)(l:Ry x=O7 (.builtin id))(ha:PA X (e::es) t)(m:x≠"__name__":=by decide)(c:(x==("__debug__":PX))=Pc:=by decide)(q:PL (e::es) X.env=(Pc,Rz e X.env)::PL es X.env:=by rfl)(b:(RR pos (PL es X.env)).any (·.1)=Pc:=by rfl):PE X (.Call (.Name x p) (e::es) [] pos) (M3 r t):=by
 intro a s d H Q I h;refine T7 (kT I o n l ?_ m c);exact PyProof.Rows.callWith_builtin1 (bp (ha pos a s d H _ I h) λg i⟨f,w,v,j,k⟩=>u a i d w f g Q v j k) q b
theorem nB(u:e8 X (.type T) r)(o:Gl X x)(n:X.mg x=Pb)(l:Ry x=O7 (.type T))(ha:PA X (e::es) t)(m:x≠"__name__":=by decide)(c:(x==("__debug__":PX))=Pc:=by decide)(q:PL (e::es) X.env=(Pc,Rz e X.env)::PL es X.env:=by rfl)(b:(RR pos (PL es X.env)).any (·.1)=Pc:=by rfl):PE X (.Call (.Name x p) (e::es) [] pos) (M3 r t):=by
 intro a s d H Q I h;refine T7 (kT I o n l ?_ m c);exact Tp (bp (ha pos a s d H _ I h) λg i⟨f,w,v,j,k⟩=>u a i d w f g Q v j k) q b
end
end L2
namespace HT
open PySem PyProof.Rows
noncomputable def lexLt:List Int->List Int->Bool
 |[],[]=>Pc|[],_::_=>Pa|_::_,[]=>Pc|x::b,y::a=>if x=y then lexLt b a else decide (x<y)
theorem kZ(x y:Int)(xs a:List Int):lexLt (x::xs) (y::a)=if x=y then lexLt xs a else decide (x<y):=rfl
theorem m9:lexLt [] []=Pc:=rfl
theorem k8(y:Int)(a:List Int):lexLt [] (y::a)=Pa:=rfl
theorem k_(x:Int)(xs:List Int):lexLt (x::xs) []=Pc:=rfl
theorem yF(A:P9)(s:Pe)(a:Int)(t:V7)(c:Int)(u:V7):∃e,SA A s (.int a t) (.int c u) e/\(e=Pa↔a=c):=⟨(a==c),Xz a t c u,by simp⟩
theorem yG(A:P9)(s:Pe)(a:Int)(t:V7)(c:Int)(u:V7)(prog:PF)(w:P0)(E:O_->Pe->Prop)(Q:O_->Pe->Prop)(h:Q (.bool (decide (a<c))) s):wpAny (Py prog w) A (richCompare .Lt (.int a t) (.int c u)) Q E s:=(Xk h:wpAny (Py prog w) A (QB .Lt (.int a t) (.int c u)) Q E s)
section
open PySem.SeqAt
open PySem.AutoSeq1 (wpAny_loadPart')
open PySem.MeetsSeq PySem.MeetsSeq2 PySem.MeetsSeq3
theorem m_(l b:Pg)(items f:Array O_)(n n2:Nat)(dd L:Option Pg)(O H:Array (Option O_))(ns ms:List Int)(hi:Sm items.toList ns)(N:Sm f.toList ms):Meets (Builtin.«tuple.__lt__» ⟨[.ref l,.ref b],[]⟩) (λ_ R s=>s.heap.get? l=O7 {cls:=.type "tuple",dict:=dd,data:=.seq items n,slots:=O}/\s.heap.get? b=O7 {cls:=.type "tuple",dict:=L,data:=.seq f n2,slots:=H}/\R (.ok (.ret (.bool (lexLt ns ms)))) s):=.of_wp λprog w A R s h=>by
  obtain⟨G,g,d,F,os⟩:=s;obtain⟨S,hb,h⟩:=h;have W:=AutoSeq1.sub_tuple_tuple;have V:items.size=ns.length:=by rw[<-hi.length];simp
  have U:f.size=ms.length:=by rw[<-N.length];simp
  wp_walk using Ww S,Ww hb,SH _ (λrest b I=>b.1=Pb/\I=⟨G,g,d,F,os⟩/\∃(E ws:List O_)(j k:List Int),rest=E.zip ws/\Sm E j/\Sm ws k/\j.length+f.size=k.length+items.size/\R (.ok (.ret (.bool (lexLt j k)))) ⟨G,g,d,F,os⟩) _;case turn=>
   rintro⟨y,x⟩rest b I⟨B,rfl,E,ws,j,k,m,v,o,i,r⟩;cases v with
   |nil=>rw[List.zip_nil_left]at m;cases m|cons a t D=>cases o with
    |nil=>rw[XA]at m;cases m|cons c u C=>
     rw[RE]at m;injection m with J z;injection J with P Q;subst P Q;rw[kZ]at r;simp only[PM]at i;obtain⟨e,T,p⟩:=yF A.in1 ⟨G,g,d,F,os⟩ a t c u;refine O9 (T prog w _ _ ?_);cases e with
     |true=>
      rw[if_pos (p.mp rfl)]at r;wp_walk;exact⟨rfl,rfl,_,_,_,_,z,D,C,by omega,r⟩|false=>
      rw[if_neg (λq=>absurd (p.mpr q) QM)]at r;have K:=yG A.in1 ⟨G,g,d,F,os⟩ a t c u prog w;wp_walk using K;exact⟨_,rfl,by simpa using r⟩
  case fin=>
   rintro⟨b1,X⟩I⟨B,rfl,E,ws,j,k,m,v,o,i,r⟩;simp only at B;subst B;have M:lexLt j k=decide (items.size<f.size):=by cases v with
    |nil=>cases o with
     |nil=>
      simp only[P8]at i;rw[m9];exact(decide_eq_false (by omega)).symm|cons c u hw=>
      simp only[P8,PM]at i;rw[k8];exact(decide_eq_true (by omega)).symm
    |cons a t M=>cases o with
     |nil=>
      simp only[P8,PM]at i;rw[k_];exact(decide_eq_false (by omega)).symm|cons c u hw=>
      rw[RE]at m;cases m
   rw[M]at r;wp_walk;exact⟨_,rfl,by simpa[Builtin.Tuple.tupleCompareSizes]using r⟩
  case h=>exact⟨rfl,rfl,items.toList,f.toList,ns,ms,rfl,hi,N,by omega,h⟩
end
section
variable{prog:PF}{w:P0}{A:P9}{E:O_->Pe->Prop}{s:Pe}
theorem tH{l b:Pg}{items a:Array O_}{ns ms:List Int}{Q:O_->Pe->Prop}(p:Xp s.heap l items)(hb:Xp s.heap b a)(hi:Sm items.toList ns)(q:Sm a.toList ms)(hu:A.units<Q_)(h:Q (.bool (lexLt ns ms)) s):wpAny (Py prog w) A (QB .Lt (.ref l) (.ref b)) Q E s:=by
 obtain⟨⟨cls,r,k,o⟩,i,j,n,hd⟩:=id p;obtain⟨⟨m,g,data2,f⟩,c,e,n2,d⟩:=id hb;simp only at j hd e d;subst j hd e d;exact richCompare_meets_room (op:=.Lt) ⟨_,i,rfl⟩ ⟨_,c,rfl⟩ PySem.F.slot_tuple_lt PySem.F.entry_tuple_lt (PySem.F.args_tuple_lt_2 _ _) (m_ l b items a n n2 r g o f ns ms hi q) ⟨i,c,show Vc (lexLt ns ms)≠Value.notImplemented/\Q (.bool (lexLt ns ms)) s from⟨(λx=>nomatch x),h⟩⟩ hu
theorem B3{t b:Pg}{vs ws:List O_}{Q:O_->Pe->Prop}(p:Xp s.heap t vs.toArray)(hb:Xp s.heap b ws.toArray)(k:vs≠[])(r:ws=[]->Q (.ref t) s)(q:ws≠[]->Q (.ref s.heap.objs.size) {s with heap:=s.heap.push {cls:=.type "tuple",data:=.seq (vs++ws).toArray}})(hsz:vs.length+ws.length<=Pl):wpAny (Py prog w) A (Sb .Add (.ref t) (.ref b)) Q E s:=by
 obtain⟨⟨cls,m,h,j⟩,i,l,n,hd⟩:=id p;obtain⟨⟨o,g,data2,c⟩,a,f,n2,d⟩:=id hb;simp only at l hd f d;subst l hd f d;have e:vs.toArray++ws.toArray=(vs++ws).toArray:=by simp
 by_cases hw:ws=[]
 .exact XX ⟨_,i,rfl⟩ ⟨_,a,rfl⟩ VR Xr Ui T_ (TM _ _) (tuple_addW1 t b vs.toArray ws.toArray n n2 m g j c (by simpa using k) (by simp[hw])) ⟨i,a,r hw⟩
 .refine XX ⟨_,i,rfl⟩ ⟨_,a,rfl⟩ VR Xr Ui T_ (TM _ _) (tuple_addW2 t b vs.toArray ws.toArray n n2 m g j c (by simpa using k) (by simpa using hw) (by rw[Pw,Pw];exact hsz)) ⟨i,a,?_⟩;rw[e];exact q hw
noncomputable def qu(n d:Nat):Option Int->Nat
 |none=>d|some v=>if v<0 then(v+(n:Int)).toNat else min v.toNat n
theorem yH(n d:Nat):qu n d Pb=d:=rfl
theorem B4(n d k:Nat):qu n d (O7 (k:Int))=min k n:=by
 show(if(k:Int)<0 then((k:Int)+(n:Int)).toNat else min (k:Int).toNat n)=min k n;rw[if_neg (by omega),Uj]
end
end HT
namespace L2
open PySem PySem.Spec PyProof.Rows
abbrev TO:=St->Hp->(Option Int->Hp->Prop)->Prop
noncomputable def PO(X:Cx)(e:Option PC)(t:TO):Prop:=∀(a:List (Pg×Qx))(s:Pe)(b:St)(H:Hp)(Q:Option Int->Hp->Prop),Inv X a b H s->t b H Q->wpAny (Py X.prog X.w) X.A (evalPart e X.env) (λu d=>∃o c,Inv X a b c d/\IsPart u o/\Q o c) X.xe s
noncomputable def B5:TO:=λ_ H Q=>Q Pb H
noncomputable def JT(t:TE):TO:=λa H Q=>t a H λx b=>∃i,x=.int i/\Q (O7 i) b
theorem intsAre_of{ns:List Int}:∀{us:List O_},ar (ns.map V.int) us->Sm us ns:=by induction ns with
 |nil=>intro us r;rw[Sw]at r;cases r;exact .nil|cons n ns c=>
  intro us r;rw[PY]at r;cases r with|cons b a=>
   obtain⟨t,e⟩:=b;subst e;exact .cons n t (c a)
section
variable{X:Cx}{e:PC}{te:TE}{lo hi:Option PC}{tl th:TO}{pos p2:Ro}
theorem B6:PO X Pb B5:=by
 intro a s b H Q I h;rw[evalPart_none];exact Pf ⟨Pb,H,I,.none,h⟩
theorem B7(h:PE X e te):PO X (O7 e) (JT te):=by
 intro a s c H Q I hw;rw[evalPart_some];refine bp (h a s c H _ I hw) λu k b=>?_;obtain⟨x,j,g,d,f⟩:=b;obtain⟨i,rfl,q⟩:=f;obtain⟨t,rfl⟩:=d;exact⟨O7 i,j,g,.int i t,q⟩
noncomputable def N9(X:Cx)(r:V->Option Int->Option Int->Hp->VK->Prop):Prop:=∀(a:List (Pg×Qx))(s:Pe)(b:St)(H:Hp)(x:V)(v d c:O_)(lo hi:Option Int)(f:Pg)(Q:VK),Inv X a b H s->RelV x v->s.heap.IsSliceOf f d c .none->IsPart d lo->IsPart c hi->r x lo hi H Q->∃T id,Vf (.type T) "__getitem__"=pure (O7 (.builtin id))/\s.TypeIs v T/\wpAny (Py X.prog X.w) X.A (YH v (.ref f)) (EP X a b Q) X.xe s
noncomputable def OB(r:V->Option Int->Option Int->Hp->VK->Prop)(te:TE)(tl th:TO):TE:=λa H Q=>te a H λx d=>tl a d λl c=>th a c λu b=>r x l u b Q
theorem yI{r:V->Option Int->Option Int->Hp->VK->Prop}(D:N9 X r)(G:PE X e te)(E:PO X lo tl)(hu:PO X hi th):PE X (.Subscript e (.Slice lo hi Pb p2) pos) (OB r te tl th):=by
 intro a s i H Q I h;refine Subscript_ (bp (G a s i H _ I h) λv o g=>?_);obtain⟨x,P,N,p,z⟩:=g;refine wpAny_Slice (bp (E a o i P _ N z) λk n⟨l,O,M,B,y⟩=>bp (hu a n i O _ M y) λj c g=>?_);obtain⟨u,m,L,pu,t⟩:=g;rw[evalPart_none];refine Pf ?_;have K:Inv X a i m {c with heap:=c.heap.push {cls:=.type "slice",data:=.fields #[k,j,.none]}}:=L.kept (t':=c.toks) λb ob q=>Ph _ q;obtain⟨T,id,J,C,F⟩:=D a {c with heap:=c.heap.push {cls:=.type "slice",data:=.fields #[k,j,.none]}} i m x v k j l u c.heap.objs.size Q K p (Heap.IsSliceOf.new ..) B pu t;show wpAny (Py X.prog X.w) X.A (Xs e (.Slice lo hi Pb p2) v (.ref c.heap.objs.size)) (EP X a i Q) X.xe {c with heap:=c.heap.push {cls:=.type "slice",data:=.fields #[k,j,.none]}};exact tail_any (ops:=[.ref c.heap.objs.size,v]) C J F (by with_unfolding_all rfl)
noncomputable def wX(xs:List V)(lo hi:Option Int):List V:=(xs.drop (HT.qu xs.length 0 lo)).take (HT.qu xs.length xs.length hi-HT.qu xs.length 0 lo)
theorem qC(xs:List V)(lo hi:Option Int):(wX xs lo hi).length<=xs.length:=by
 unfold wX;rw[Tz,UG];omega
theorem ar.uO{xs:List V}{us:List O_}(r:ar xs us):us=[]↔xs=[]:=by cases r with
 |nil=>simp|cons _ _=>simp
end
end L2
namespace L2
open PySem PySem.Spec PyProof.Rows
noncomputable def BM(n:Nat)(i:Int):Option Nat:=if 0<=i then(if i<n then O7 i.toNat else Pb)else if-(n:Int)<=i then O7 (i+n).toNat else Pb
noncomputable def fj{a:Type}(xs:List a)(i:Int):Option a:=(BM xs.length i).bind λj=>xs[j]?
theorem uP{n:Nat}{i:Int}{j:Nat}(h:BM n i=O7 j):seqIndex? i n=O7 j/\j<n/\-(n:Int)<=i/\i<n:=by
 unfold BM at h;by_cases b:0<=i
 .rw[if_pos b]at h;by_cases a:i<n
  .rw[if_pos a]at h;have e:i.toNat=j:=Pm h;exact⟨by rw[WU b a,e],by omega,by omega,a⟩
  .rw[if_neg a]at h;cases h
 .rw[if_neg b]at h;by_cases a:-(n:Int)<=i
  .rw[if_pos a]at h;have e:(i+n).toNat=j:=Pm h;exact⟨by rw[XY (by omega) a,e],by omega,a,by omega⟩
  .rw[if_neg a]at h;cases h
theorem oP{a:Type}{xs:List a}{i:Int}{v:a}(h:fj xs i=O7 v):∃j,seqIndex? i xs.length=O7 j/\xs[j]?=O7 v/\j<xs.length/\-(xs.length:Int)<=i/\i<xs.length:=by
 unfold fj at h;cases e:BM xs.length i with
 |none=>rw[e]at h;cases h|some j=>
  rw[e]at h;obtain⟨f,d,c,b⟩:=uP e;exact⟨j,f,h,d,c,b⟩
theorem fk{a:Type}{xs:List a}{j:Nat}{v:a}(h:xs[j]?=O7 v):fj xs (j:Int)=O7 v:=by
 have b:j<xs.length:=(List.getElem?_eq_some_iff.mp h).1;have e:BM xs.length (j:Int)=O7 j:=by
  unfold BM;rw[if_pos (by omega),if_pos (by omega)];simp
 unfold fj;rw[e];exact h
theorem yJ{a:Type}(xs:List a)(v:a):fj (xs++[v]) (-1)=O7 v:=by
 have b:(xs++[v]).length=xs.length+1:=by simp
 have e:BM (xs++[v]).length (-1)=O7 xs.length:=by
  unfold BM;rw[b,if_neg (by decide),if_pos (by omega)];congr 1;omega
 unfold fj;rw[e];show(xs++[v])[xs.length]?=O7 v;simp
noncomputable def oQ(b:PC):Prop:=∀o i,Yj b Pc o i=operate [o,i] (YH o i)
noncomputable def BN(X:Cx)(r:R2):Prop:=∀(c a:PC)(b:List (Pg×Qx))(s:Pe)(d:St)(H:Hp)(x y:V)(v u:O_)(Q:VK),Inv X b d H s->RelV x v->RelV y u->r x y H Q->Yj a Pc v u=operate [v,u] (YH v u)->wpAny (Py X.prog X.w) X.A (Xs c a v u) (EP X b d Q) X.xe s
noncomputable def JU(X:Cx)(id:String)(r:V->List V->Hp->VK->Prop):Prop:=∀(a:List (Pg×Qx))(s:Pe)(b:St)(H:Hp)(x:V)(c:List V)(v:O_)(d:List O_)(Q:VK),Inv X a b H s->RelV x v->ar c d->r x c H Q->wpAny (Py X.prog X.w) X.A (call (.builtin id) (v::d)) (EP X a b Q) X.xe s
section
variable{X:Cx}{a b:PC}{ta tb:TE}{pos:Ro}
theorem BN.or{r j:R2}(h:BN X r)(h':BN X j):BN X (λx y H Q=>r x y H Q\/j x y H Q):=by
 intro c d e s f H x y v u Q I i g q k;rcases q with q|q;.exact h c d e s f H x y v u Q I i g q k
 .exact h' c d e s f H x y v u Q I i g q k
theorem gX{r:R2}(i:BN X r)(ha:PE X a ta)(hb:PE X b tb)(hs:oQ b):PE X (.Subscript a b pos) (JL r ta tb):=by
 intro c s d H Q I h;exact Subscript_ (FJ ha hb I h λv u e x y k j g f q=>i a b c e d k x y v u Q j g f q (hs _ _))
noncomputable def JV(K:Pj):R2:=λx y H Q=>∃p c i v,x=.ref p/\y=.int i/\d5 K H p c/\fj c i=O7 v/\Q v H
noncomputable def JW(K:Pj):R2:=λx y H Q=>∃p c i v,x=.ref p/\y=.int i/\kq K H p c/\fj c i=O7 v/\Q v H
noncomputable def JX:R2:=λx y H Q=>∃z i c,x=.str z/\y=.int i/\z.length<=Pl/\fj z.cps.toList i=O7 c/\Q (.str ⟨#[c]⟩) H
theorem c5:BN X (JV X.K):=by
 intro f g c s o H x y v u Q I F E h A;obtain⟨p,P,i,z,rfl,rfl,G,L,q⟩:=h;cases F;obtain⟨t,rfl⟩:=E;obtain⟨m,r,l,R⟩:=I.list G;obtain⟨j,e,O,T,N,M⟩:=oP L;obtain⟨w,C,k⟩:=r.get O;have J:=r.length;have S:=iA;have d:EP X c o Q w s:=⟨z,H,I,k,q⟩;by_cases B:0<=i
 .have n:i.toNat=j:=by
   rw[WU B M]at e;exact Pm e
  exact item_listR l.isList B (by omega) (by rw[n];simpa using C) d A
 .have n:(i+(m.toArray.size:Int)).toNat=j:=by
   rw[XY (by omega) N]at e;rw[Pw,<-J];exact Pm e
  exact Wd (x:=w) l.isList.typeIs slot_list_getitem.lookup (wpAny_getItem_list_neg (Q:=λr D=>r=w/\EP X c o Q r D) l.isList (by omega) (by rw[Pw]<;>omega) (by omega) (by rw[n];simpa using C) ⟨rfl,d⟩) A
theorem FV:BN X (JW X.K):=by
 intro d e c s k H x y v u Q I o n h B;obtain⟨p,L,i,z,rfl,rfl,C,E,q⟩:=h;cases o;obtain⟨t,rfl⟩:=n;obtain⟨A,r,l,M⟩:=I.tuple C;obtain⟨j,G,F,R,P,O⟩:=oP E;obtain⟨w,J,f⟩:=r.get F;have D:=r.length;have N:=iA;have g:EP X c k Q w s:=⟨z,H,I,f,q⟩;exact Wd (x:=w) l.typeIs slot_tuple_getitem.lookup (getItem_tuple (j:=j) (Q:=λr m=>r=w/\EP X c k Q r m) l (by omega) (by omega) (by rw[Pw,<-D];exact G) (by simpa using J) ⟨rfl,g⟩) B
theorem FW:BN X JX:=by
 intro d e f s C H x y v u Q I l k h m;obtain⟨z,i,c,rfl,rfl,E,o,q⟩:=h;obtain⟨t,rfl⟩:=l;obtain⟨D,rfl⟩:=k;obtain⟨j,g,w,G,r,p⟩:=oP o;have n:z.cps.toList.length=z.length:=by simp[Str.length]
 rw[n]at g r p;have F:=iA;exact tail_any (typeIs_str s z t) slot_str_getitem.lookup (getItem_str (c:=c) (by
  have B:decide (i< -(2^63:Int))=Pc:=decide_eq_false (by omega);have A:decide (i>=2^63)=Pc:=decide_eq_false (by omega);rw[B,A,Bool.or_false]) (by rw[g];simpa using w) ⟨.str ⟨#[c]⟩,H,I.tok _,⟨_,rfl⟩,q⟩) m
noncomputable def OC(K:Pj):R2:=λx y H Q=>JV K x y H Q\/JW K x y H Q\/JX x y H Q
theorem FX:BN X (OC X.K):=c5.or (FV.or FW)
theorem tJ(c:List O_)(n j:Nat)(u:O_):Q5 (·.setIfInBounds j u) {cls:=.type "list",data:=.seq c.toArray n}={cls:=.type "list",data:=.seq (c.set j u).toArray n}:=by simp[Q5]
theorem Inv.lst{pins:List (Pg×Qx)}{σ:St}{H:Hp}{s:Pe}{p:Pg}{xs:List V}(I:Inv X pins σ H s)(h:H p=O7 (.lst xs)):∃(c:List O_)(n:Nat),ar xs c/\s.heap.get? p=O7 {cls:=.type "list",data:=.seq c.toArray n}/\xs.length<=Pl:=by
 obtain⟨z,c,n,r,e⟩:=I.aH p _ h;exact⟨c,n,r,e,z⟩
theorem Inv.FY{pins:List (Pg×Qx)}{σ:St}{H:Hp}{s:Pe}{p:Pg}{xs d:List V}{c its':List O_}{n g:Nat}{f:Qx->Qx}(I:Inv X pins σ H s)(h:H p=O7 (.lst xs))(k:s.heap.get? p=O7 {cls:=.type "list",data:=.seq c.toArray n})(i:f {cls:=.type "list",data:=.seq c.toArray n}={cls:=.type "list",data:=.seq its'.toArray g})(r:ar d its')(j:d.length<=Pl)(t:Nat):Inv X pins σ (upd H p (.lst d)) {s with heap:=s.heap.update p f,toks:=t}:=by
 have e:(s.heap.update p f).get? p=O7 {cls:=.type "list",data:=.seq its'.toArray g}:=by rw[Qu f k (by rw[i]<;>rfl),i]
 refine I.write (x:=p) (e:=p) (by rw[h];trivial) (.inl rfl) (λb u hb q=>(Qs _ _ (Q9 hb)).trans q) ⟨_,e⟩ ?_;exact⟨j,its',g,r,e⟩
noncomputable def JY:V->V->V->Hp->(Hp->Prop)->Prop:=λo i v H Q=>∃p c k j,o=.ref p/\i=.int k/\H p=O7 (.lst c)/\BM c.length k=O7 j/\Q (upd H p (.lst (c.set j v)))
theorem set_list:JH X JY:=by
 intro c s B H o i v K L u Q I E F D h;obtain⟨p,C,k,j,rfl,rfl,m,J,q⟩:=h;cases E;obtain⟨t,rfl⟩:=F;obtain⟨d,n,r,f,G⟩:=I.lst m;obtain⟨e,N,y,x⟩:=uP J;have g:=r.length;have M:=iA;have A:Inv X c B (upd H p (.lst (C.set j v))) {s with heap:=s.heap.update p (Q5 (·.setIfInBounds j u))}:=I.FY m f (tJ d n j u) (r.set D j) (by rw[Wx];exact G) s.toks;by_cases z:0<=k
 .have l:k.toNat=j:=by
   rw[WU z x]at e;exact Pm e
  exact PySem.W.ki_setAt f z (by omega) (by rw[Pw,<-g];exact x) (by rw[l];exact⟨_,A,q⟩)
 .have l:(k+(d.toArray.size:Int)).toNat=j:=by
   rw[XY (by omega) y]at e;rw[Pw,<-g];exact Pm e
  exact PySem.W.ki_setBack f (by omega) (by rw[Pw,<-g];exact y) (by omega) (by rw[l];exact⟨_,A,q⟩)
theorem oR(lo hi:Option Int)(n:Nat):(Ua lo hi Pb n).1=((HT.qu n 0 lo:Nat):Int)/\(Ua lo hi Pb n).2.1=((HT.qu n n hi:Nat):Int)/\(Ua lo hi Pb n).2.2=1:=by
 refine⟨?_,?_,rfl⟩;.cases lo with
  |none=>simp[Ua,HT.qu]|some i=>
   simp only[Ua,HT.qu,TB,show(1:Int)>0 by decide,if_true];by_cases h:i<0;.simp only[h,if_true]<;>omega
   .simp only[h,if_false]<;>omega
 .cases hi with
  |none=>simp[Ua,HT.qu]|some i=>
   simp only[Ua,HT.qu,TB,show(1:Int)>0 by decide,if_true];by_cases h:i<0;.simp only[h,if_true]<;>omega
   .simp only[h,if_false]<;>omega
theorem nc(c:List O_)(lo hi:Option Int):slicePick c.toArray lo hi Pb=((c.drop (HT.qu c.length 0 lo)).take (HT.qu c.length c.length hi-HT.qu c.length 0 lo)).toArray:=by
 obtain⟨f,e,d⟩:=oR lo hi c.toArray.size;unfold slicePick;rw[f,e,d];simp only[sliceRange_one,pick_run,Pw]<;>rfl
noncomputable def M4(K:Pj):V->Option Int->Option Int->Hp->VK->Prop:=λx lo hi H Q=>∃a c,x=.ref a/\d5 K H a c/\∀p,H p=Pb->Q (.ref p) (upd H p (.lst (wX c lo hi)))
theorem B8:N9 X (M4 X.K):=by
 intro e s n H x v t p lo hi u Q I g m i pu h;obtain⟨a,c,rfl,l,q⟩:=h;cases g;obtain⟨j,r,f,k⟩:=I.list l;have d:=r.length;refine⟨"list",_,slot_list_getitem.lookup,f.isList.typeIs,?_⟩;refine wpAny_getItem_list_slice f.isList m i pu .none (by simp) ?_ (by rw[Pw]<;>omega);rw[nc,<-d];refine⟨.ref s.heap.objs.size,_,I.laid (t':=s.toks) (o:=.lst (wX c lo hi)) (λb ob q=>Ph _ q) (Pq _) ?_,rfl,q _ (I.aH.fresh (Pq _))⟩;exact⟨Qa (qC c lo hi) k,_,0,(r.drop (HT.qu c.length 0 lo)).take (HT.qu c.length c.length hi-HT.qu c.length 0 lo),PR _ rfl⟩
theorem ft:e8 X (.builtin "len") (λxs H Q=>∃p d,xs=[.ref p]/\(d5 X.K H p d\/kq X.K H p d)/\Q (.int d.length) H):=by
 intro j s m H xs n Q I r h;obtain⟨p,d,rfl,e,q⟩:=h;obtain⟨u,rfl,k⟩:=vals1 r;cases k;have o:=iA;rcases e with e|e
 .obtain⟨i,f,g,l⟩:=I.list e;have c:=f.length;exact Xj g.isList (by simp only[Pw]<;>omega) ⟨.int d.length,H,I.tok _,⟨s.toks+1,by rw[Pw,c]⟩,q⟩
 .obtain⟨i,f,g,l⟩:=I.tuple e;have c:=f.length;exact len_tuple g (by simp only[Pw]<;>omega) ⟨.int d.length,H,I.tok _,⟨s.toks+1,by rw[Pw,c]⟩,q⟩
theorem oS:e8 X (.type "list") (λxs H Q=>∃p f,xs=[.ref p]/\(d5 X.K H p f\/kq X.K H p f)/\∀l,H l=Pb->Q (.ref l) (upd H l (.lst f))):=by
 intro j s B H xs D Q I r h;obtain⟨p,f,rfl,m,q⟩:=h;obtain⟨u,rfl,C⟩:=vals1 r;cases C;have v:∀(c:List O_),ar f c->f.length<=Pl->∀(d:P7)(i:Nat),(∀b A,s.heap.get? b=O7 A->d.get? b=O7 A)->d.get? s.heap.objs.size=O7 {cls:=.type "list",dict:=Pb,data:=.seq c.toArray i,slots:=#[]}->EP X j B Q (.ref s.heap.objs.size) {s with heap:=d}:=λc g k d i kp e=>⟨.ref s.heap.objs.size,_,I.laid (t':=s.toks) kp (Pq _) (show aX X.prog X.w _ d _ (.lst f)from⟨k,c,i,g,e⟩),rfl,q _ (I.aH.fresh (Pq _))⟩;rcases m with m|m
 .obtain⟨c,g,x,k⟩:=I.list m;have t:=g.length;obtain⟨o,y,z,n,hd⟩:=x.isList;exact call_list_seq p (.inl rfl) y z hd (λd i kp e=>v c g k d i kp e) (by simp only[Pw]<;>omega)
 .obtain⟨c,g,x,k⟩:=I.tuple m;have t:=g.length;obtain⟨o,y,z,n,hd⟩:=x;exact call_list_seq p (.inr rfl) y z hd (λd i kp e=>v c g k d i kp e) (by simp only[Pw]<;>omega)
theorem ng:e8 X (.type "tuple") (λxs H Q=>∃p f,xs=[.ref p]/\((d5 X.K H p f/\∀l,H l=Pb->Q (.ref l) (upd H l (.tup f)))\/(kq X.K H p f/\Q (.ref p) H))):=by
 intro c s n H xs B Q I r h;obtain⟨p,f,rfl,h⟩:=h;obtain⟨u,rfl,z⟩:=vals1 r;cases z;rcases h with⟨m,q⟩|⟨m,q⟩
 .obtain⟨d,j,k,t⟩:=I.list m;have v:=j.length;refine call_tuple_list k.isList (λi kp=>?_) (by simp only[Pw]<;>omega);have y:Inv X c n H {s with heap:=i}:=I.kept (t':=s.toks) kp;have A:Inv X c n (upd H i.objs.size (.tup f)) {s with heap:=i.push {cls:=.type "tuple",data:=.seq d.toArray}}:=y.laid (t':=s.toks) (λb o e=>Ph _ e) (Pq _) (show aX X.prog X.w _ _ _ (.tup f)from⟨t,d,j,IsTup.new _ _⟩);exact⟨.ref i.objs.size,_,A,rfl,q _ (y.aH.fresh (Pq _))⟩
 .obtain⟨d,j,k,t⟩:=I.tuple m;exact call_tuple_same k ⟨.ref p,H,I,rfl,q⟩
noncomputable def M5(K:Pj)(T:String)(x:V)(H:Hp):Prop:=match x with
 |.str _=>T="str"|.int _=>T="int"|.ref p=>(T="list"/\∃d,d5 K H p d)\/(T="tuple"/\∃o,K.lookup p=O7 o/\o.cls=.type "tuple"/\o.dict=Pb)\/(T="dict"/\((∃c,H p=O7 (.dK c))\/∃c,H p=O7 (.dT c)))\/(T="set"/\∃S n,H p=O7 (.set S n))|_=>False
theorem yK{pins:List (Pg×Qx)}{σ:St}{H:Hp}{s:Pe}{T:String}{x:V}{v:O_}(I:Inv X pins σ H s)(r:RelV x v)(ty:M5 X.K T x H):s.TypeIs v T/\∀a,v=.ref a->∃ob,s.heap.get? a=O7 ob/\ob.dict=Pb:=by cases x with
 |str z=>
  obtain⟨t,rfl⟩:=r;cases(show T="str"from ty);exact⟨typeIs_str s z t,λ_ e=>nomatch e⟩|int i=>
  obtain⟨t,rfl⟩:=r;cases(show T="int"from ty);exact⟨typeIs_int s i t,λ_ e=>nomatch e⟩|ref p=>
  cases r;rcases ty with⟨rfl,m,k⟩|⟨rfl,o,d,l,hd⟩|⟨rfl,d⟩|⟨rfl,S,n,d⟩
  .obtain⟨j,_,h,_⟩:=I.list k;refine⟨h.isList.typeIs,λa e=>?_⟩;cases e;obtain⟨o,n,e,c,hd,_⟩:=h;exact⟨o,e,hd⟩
  .refine⟨⟨o,I.jH p o d,l⟩,λa e=>?_⟩;cases e;exact⟨o,I.jH _ o d,hd⟩
  .have z:∃o,s.heap.get? p=O7 o/\o.ExactDict:=by
    rcases d with⟨f,d⟩|⟨f,d⟩
    .obtain⟨_,_,_,_,o,_,_,e,ex,_⟩:=I.aH p _ d;exact⟨o,e,ex⟩
    .obtain⟨_,_,_,_,o,_,_,e,ex,_⟩:=I.aH p _ d;exact⟨o,e,ex⟩
   obtain⟨o,e,ex⟩:=z;refine⟨⟨o,e,ex.1⟩,λa g=>?_⟩;cases g;exact⟨o,e,ex.2.1⟩
  .obtain⟨o,_,_,_,e,ex,_⟩:=I.aH p _ d;refine⟨⟨o,e,ex.1⟩,λa g=>?_⟩;cases g;exact⟨o,e,ex.2.1⟩|_=>exact Rr ty
noncomputable def M6(K:Pj)(T:String)(r:V->List V->Hp->VK->Prop)(e:TE):TE:=λd H Q=>e d H λx c=>M5 K T x c/\r x [] c Q
noncomputable def OD(K:Pj)(T:String)(r:V->List V->Hp->VK->Prop)(f:TE)(t:TA):TE:=λc H Q=>f c H λx d=>M5 K T x d/\t c d λe g=>r x e g Q
variable{o e:PC}{es:List PC}{to:TE}{t:TA}{name:PX}{apos cpos:Ro}{T id:String}{r:V->List V->Hp->VK->Prop}
theorem FZ(pa:XB T)(slot:Slot T name id)(i:VJ (.builtin id)=pure (.type "method_descriptor"))(q:JU X id r)(p:PE X o to)(f:Tf o name X.env (Rz o X.env)=Rz o X.env:=by rfl)(d:(apos.endLine==cpos.line)=Pa:=by rfl):PE X (.Call (.Attribute o name apos) [] [] cpos) (M6 X.K T r to):=by
 intro c s j H Q I h;refine wpAny_Call_method0_late f d (bp (p c s j H _ I h) λv m g=>?_);obtain⟨x,y,l,k,ty,n⟩:=g;obtain⟨w,u⟩:=yK l k ty;exact⟨T,id,pa,slot,i,w,u,Uk rfl (PySem.evalArgs_none (q c m j y x [] v [] Q l k .nil n))⟩
theorem ED(pa:XB T)(slot:Slot T name id)(l:VJ (.builtin id)=pure (.type "method_descriptor"))(D:JU X id r)(C:PE X o to)(ha:PA X (e::es) t)(g:Tf o name X.env (Rz o X.env)=Rz o X.env:=by rfl)(i:((RR cpos (PL (e::es) X.env)).all (λx=>!x.1)&&(WV cpos (UP [] X.env)).all (λx=>x.1.isSome)&&decide ((e::es).length+([]:List TC).length+(if([]:List TC).isEmpty then 0 else 1)<30))=Pa:=by rfl)(f:(apos.endLine==cpos.line)=Pa:=by rfl)(hs:PL (e::es) X.env=(Pc,Rz e X.env)::PL es X.env:=by rfl)(d:(RR cpos (PL es X.env)).any (·.1)=Pc:=by rfl):PE X (.Call (.Attribute o name apos) (e::es) [] cpos) (OD X.K T r to t):=by
 intro c s j H Q I h;refine We g i f rfl (bp (C c s j H _ I h) λv y k=>?_);obtain⟨x,L,p,m,ty,B⟩:=k;obtain⟨F,E⟩:=yK p m ty;refine⟨T,id,pa,slot,l,F,E,?_⟩;have n:=ha cpos c y j L _ p B;rw[hs]at n⊢;refine Uk (by show(Pc||(RR cpos (PL es X.env)).any (·.1))=Pc;rw[d]<;>rfl) (UQ ?_);exact bp n λu w⟨q,J,G,z,A⟩=>D c w j J x q v u Q G m z A
end
end L2
namespace L2
open PySem PySem.Spec PyProof.Rows
noncomputable def Mo(X:Cx)(id:String)(r:V->List V->Hp->VK->Prop):Prop:=∀(a:List (Pg×Qx))(s:Pe)(b:St)(H:Hp)(x:V)(c:List V)(v:O_)(d:List O_)(Q:VK),Inv X a b H s->RelV x v->ar c d->r x c H Q->wpAny (Py X.prog X.w) X.A (call (.builtin id) (v::d)) (EP X a b Q) X.xe s
theorem ar.one:∀{x:V}{us:List O_},ar [x] us->∃u,us=[u]/\RelV x u|_,_,.cons r .nil=>⟨_,rfl,r⟩
theorem ar.zero:∀{us:List O_},ar [] us->us=[]|_,.nil=>rfl
theorem ar.dropLast{xs:List V}{us:List O_}(h:ar xs us):ar xs.dropLast us.dropLast:=by induction h with
 |nil=>exact .nil|cons r t a=>cases t with
  |nil=>exact .nil|cons q b=>exact .cons r a
theorem ar.eraseIdx:∀{xs:List V}{us:List O_}(i:Nat),ar xs us->ar (xs.eraseIdx i) (us.eraseIdx i)
 |_,_,_,.nil=>.nil|_,_,0,.cons _ t=>t|_,_,i+1,.cons r t=>.cons r (ar.eraseIdx i t)
theorem tK{c:Type}(l:List c):l.eraseIdx (l.length-1)=l.dropLast:=by induction l with
 |nil=>rfl|cons a r d=>cases r with
  |nil=>rfl|cons b r=>
   have e:(a::b::r).length-1=((b::r).length-1)+1:=by
    have g:(a::b::r).length=r.length+2:=rfl;have f:(b::r).length=r.length+1:=rfl;omega
   rw[e,VS,d];all_goals rfl
theorem nE{a:Type}:∀(l:List a)(i:Nat),(l.eraseIdx i).length<=l.length
 |[],_=>Pq _|_::_,0=>WW _|_::r,i+1=>Nat.succ_le_succ (nE r i)
section
variable{X:Cx}{pins:List (Pg×Qx)}{σ:St}{H:Hp}{s:Pe}{l b:Pg}{xs ys zs:List V}
theorem Inv.F1{a its':List O_}{n:Nat}{f:Array O_->Array O_}{t':Nat}(I:Inv X pins σ H s)(h:H l=O7 (.lst xs))(e:s.heap.get? l=O7 {cls:=.type "list",data:=.seq a.toArray n})(g:f a.toArray=its'.toArray)(d:ar ys its')(c:ys.length<=Pl):Inv X pins σ (upd H l (.lst ys)) {s with heap:=s.heap.update l (Q5 f),toks:=t'}:=by
 have q:=PySem.IsL.update e f;rw[g]at q;refine I.write (x:=l) (e:=l) (by rw[h];exact trivial) (.inl rfl) (λi u hb hu=>(Qs s.heap (Q5 f) (Q9 hb)).trans hu) ⟨_,q⟩ ?_;exact⟨c,its',_,d,q⟩
theorem Inv.JZ{a:List O_}{t':Nat}(I:Inv X pins σ H s)(d:ar ys a)(c:ys.length<=Pl):Inv X pins σ (upd H s.heap.objs.size (.lst ys)) {s with heap:=s.heap.push {cls:=.type "list",data:=.seq a.toArray},toks:=t'}:=I.laid (λ_ _ q=>Ph _ q) (Pq _) ⟨c,a,0,d,PR _ rfl⟩
theorem Inv.fresh(I:Inv X pins σ H s):H s.heap.objs.size=Pb:=I.aH.fresh (Pq _)
theorem Inv.F2(I:Inv X pins σ H s)(c:H l=O7 (.lst xs)):xs.length<=Pl/\∃(a:List O_)(n:Nat),ar xs a/\xs.length=a.length/\s.heap.get? l=O7 {cls:=.type "list",data:=.seq a.toArray n}:=by
 obtain⟨z,a,n,r,e⟩:=I.aH l _ c;exact⟨z,a,n,r,r.length,e⟩
end
section
variable{X:Cx}
noncomputable def B9:V->List V->Hp->VK->Prop:=λx b H Q=>∃l a y,x=.ref l/\b=[y]/\H l=O7 (.lst a)/\a.length<Pl/\Q .bH (upd H l (.lst (a++[y])))
theorem wY:Mo X "list.append" B9:=by
 intro b s i H x k v m Q I d f h;obtain⟨l,j,y,rfl,rfl,c,o,q⟩:=h;cases d;obtain⟨u,rfl,g⟩:=f.one;obtain⟨z,a,n,r,p,e⟩:=I.F2 c;refine XD F.slot_list_append ⟨_,e,rfl⟩ F.entry_list_append (F.args_list_append_2 _ _) (PySem.list_append l a.toArray n u (by rw[Pw];omega)) ⟨e,?_⟩;refine⟨.bH,_,I.F1 (its':=a++[u]) c e (by simp) (r.append (.cons g .nil)) ?_,rfl,q⟩;rw[P6,RU];omega
noncomputable def M7:V->List V->Hp->VK->Prop:=λx b H Q=>∃l a y,x=.ref l/\b=[]/\H l=O7 (.lst a)/\a[a.length-1]?=O7 y/\Q y (upd H l (.lst a.dropLast))
theorem F3:Mo X "list.pop" M7:=by
 intro d s o H x t v w Q I g i h;obtain⟨l,p,y,rfl,rfl,f,k,q⟩:=h;cases g;have c:=i.zero;subst c;obtain⟨z,a,n,r,m,e⟩:=I.F2 f;obtain⟨u,hu,j⟩:=r.get k;have b:a.toArray[a.toArray.size-1]?=O7 u:=by
  show a.toArray[a.length-1]?=O7 u;rw[<-QY,<-m];exact hu
 refine XD F.slot_list_pop ⟨_,e,rfl⟩ F.entry_list_pop (F.args_list_pop_1 _) (MeetsSeq.list_pop_last l a.toArray n u b (by rw[Pw];omega+splitNatSub)) ⟨e,?_⟩;refine⟨y,_,I.F1 (its':=a.dropLast) f e ?_ r.dropLast ?_,j,q⟩
 .show a.toArray.eraseIdxIfInBounds (a.toArray.size-1)=a.dropLast.toArray;rw[Pw,Uy,tK]
 .rw[List.length_dropLast];omega+splitNatSub
noncomputable def F4:V->List V->Hp->VK->Prop:=λx b H Q=>∃l a i k y,x=.ref l/\b=[.int i]/\H l=O7 (.lst a)/\-(2^63)<=i/\i<2^63/\seqIndex? i a.length=O7 k/\a[k]?=O7 y/\Q y (upd H l (.lst (a.eraseIdx k)))
theorem yL:Mo X "list.pop" F4:=by
 intro c s D H x E v G Q I g j h;obtain⟨l,f,i,k,y,rfl,rfl,d,C,B,A,o,q⟩:=h;cases g;obtain⟨u,rfl,m⟩:=j.one;obtain⟨t,rfl⟩:=m;obtain⟨z,a,n,r,p,e⟩:=I.F2 d;obtain⟨w,hw,b⟩:=r.get o;refine XD F.slot_list_pop ⟨_,e,rfl⟩ F.entry_list_pop (F.args_list_pop_2 _ _) (MeetsSeq.list_pop_at l a.toArray n i t k w (fitsIndex_both C B) (by rw[Pw,<-p];exact A) (by rw[<-QY];exact hw) (by rw[Pw];omega)) ⟨e,?_⟩;refine⟨y,_,I.F1 (its':=a.eraseIdx k) d e ?_ (r.eraseIdx k) ?_,b,q⟩
 .show a.toArray.eraseIdxIfInBounds k=(a.eraseIdx k).toArray;rw[Uy]
 .have:=nE f k;omega
end
end L2
namespace L2
open PySem PySem.Spec PyProof.Rows
section
variable{κ:Type}[DecidableEq κ]
noncomputable def gU(a:List (κ×V))(k:κ):Option V:=(a.find? λb=>decide (b.1=k)).map (·.2)
noncomputable def putK(a:List (κ×V))(k:κ)(v:V):List (κ×V):=if(a.any λb=>decide (b.1=k))=Pa then a.map (λb=>if b.1=k then(b.1,v)else b)else a++[(k,v)]
theorem qD{p:κ×V}{r:List (κ×V)}{k:κ}(e:p.1=k):gU (p::r) k=O7 p.2:=by simp[gU,S_,e]
theorem qF{p:κ×V}{r:List (κ×V)}{k:κ}(e:¬p.1=k):gU (p::r) k=gU r k:=by simp[gU,S_,e]
theorem lb(k:κ):∀a:List (κ×V),(a.any λb=>decide (b.1=k))=(gU a k).isSome
 |[]=>rfl|p::r=>by
  rw[SD];by_cases e:p.1=k;.simp only[qD e,decide_eq_true e,Bool.true_or,XF]
  .rw[qF e,decide_eq_false e,Bool.false_or];exact lb k r
theorem qG(a:List (κ×V))(k:κ)(v:V):(putK a k v).length<=a.length+1:=by
 unfold putK;split;.rw[Pk];omega
 .rw[P6,PM,P8];omega
theorem hZ.nF{o:Option V}{u:Option O_}(r:hZ o u):o.isSome=u.isSome:=by cases o with
 |none=>cases u with
  |none=>rfl|some _=>exact(show False from r).elim
 |some _=>cases u with
  |none=>exact(show False from r).elim|some _=>rfl
theorem KV.val{a:List (κ×V)}{vs:List (κ×O_)}(r:KV a vs)(k:κ):hZ (gU a k) (UL vs k):=by
 unfold KV at r;induction r with
 |nil=>exact T6|@cons p q ps c h t g=>
  obtain⟨f,i⟩:=h;by_cases e:p.1=k
  .have d:q.1=k:=f.symm.trans e;have b:UL (q::c) k=O7 q.2:=by simp[UL,S_,d]
   rw[qD e,b];exact i
  .have d:¬q.1=k:=λz=>e (f.trans z);have b:UL (q::c) k=UL c k:=by simp[UL,S_,d]
   rw[qF e,b];exact g
theorem KV.any{a:List (κ×V)}{vs:List (κ×O_)}(r:KV a vs)(k:κ):(a.any λb=>decide (b.1=k))=vs.any λb=>decide (b.1=k):=by
 unfold KV at r;induction r with
 |nil=>rfl|cons h t c=>rw[SD,SD,c,h.1]
theorem KV.B_{b:List (κ×V)}{vs:List (κ×O_)}(r:KV b vs)(k:κ){y:V}{u:O_}(d:RelV y u):KV (b.map λa=>if a.1=k then(a.1,y)else a) (vs.map λa=>if a.1=k then(a.1,u)else a):=by
 unfold KV at r⊢;induction r with
 |nil=>exact .nil|@cons p q ps i h t f=>
  rw[PY,PY];refine .cons ?_ f;obtain⟨c,g⟩:=h;by_cases e:p.1=k;.rw[if_pos e,if_pos (c.symm.trans e)];exact⟨c,d⟩
  .rw[if_neg e,if_neg (λz=>e (c.trans z))];exact⟨c,g⟩
theorem KV.put{a:List (κ×V)}{vs:List (κ×O_)}(r:KV a vs)(k:κ){y:V}{u:O_}(b:RelV y u):KV (putK a k y) (stored vs k u):=by
 unfold putK stored;rw[r.any k];by_cases e:(vs.any λc=>decide (c.1=k))=Pa;.rw[if_pos e,if_pos e];exact r.B_ k b
 .rw[if_neg e,if_neg e];exact Paired.snoc r ⟨rfl,b⟩
end
theorem fI{P:PF}{w:P0}{k:Key}{u:O_}(r:RelV (kV k) u):(aq P w).is k u=Pa:=by cases k with
 |inl i=>obtain⟨t,e⟩:=(show∃t,u=T8 i t from r);subst e;exact jZ P w i t|inr x=>obtain⟨t,e⟩:=(show∃t,u=Yc x t from r);subst e;exact qy P w x t
theorem nG{P:PF}{w:P0}:∀{ks:List Key}{us:List O_},ar (ks.map kV) us->ItemsAre (aq P w) ks us
 |[],_,r=>by rw[Sw]at r;cases r;exact .nil|k::ks,_,r=>by
  rw[PY]at r;cases r with|cons h t=>exact .cons (fI h) (nG t)
section
variable{P:PF}{w:P0}{H:Hp}{h:P7}{a:Pg}
theorem J2{u:HO}(ok:gQ P w H h)(e:Rd H a u):aX P w H h a u:=e.ok ok
theorem J3{b:List (Key×V)}(ok:gQ P w H h)(e:Rd H a (.dK b)):b.length<=Pl/\(a==Q8)=Pc/\∃vs,KV b vs/\h.DictOf (aq P w) a vs:=show aX P w H h a (.dK b)from J2 ok e
theorem EE{b:List (Key×V)}(ok:gQ P w H h)(e:H a=O7 (.dK b)):b.length<=Pl/\(a==Q8)=Pc/\∃vs,KV b vs/\h.DictOf (aq P w) a vs:=J3 ok (.inl e)
end
section
variable{X:Cx}{pins:List (Pg×Qx)}{σ:St}{H:Hp}{s:Pe}{a:Pg}{y v:V}{u r:O_}{o:Option V}{A:P9}{E:O_->Pe->Prop}
theorem Inv.Ca(I:Inv X pins σ H s):Q8<s.heap.objs.size:=by
 have h:Qp<s.heap.objs.size:=(I.mod.glob.keeps I.bk).lt;exact U5 (by decide) h
theorem Cb{h':P7}{t':Nat}{ob:HO}(I:Inv X pins σ H s)(c:JA (H a))(hs:Ri a s.heap h')(d:∃q,h'.get? a=O7 q)(new:aX X.prog X.w (upd H a ob) h' a ob):Inv X pins σ (upd H a ob) {s with heap:=h',toks:=t'}:=I.write (x:=a) (e:=a) c (.inl rfl) (λb q hb z=>(hs.2 b hb).trans z) d new
theorem F5{P:PF}{w:P0}{H':Hp}{h':P7}{b:List (Key×V)}{vs:List (Key×O_)}(z:b.length<=Pl)(hd:(a==Q8)=Pc)(c:KV b vs)(dd:h'.DictOf (aq P w) a vs):aX P w H' h' a (.dK b):=⟨z,hd,vs,c,dd⟩
end
theorem yM{P:PF}{w:P0}{H:Hp}(h:P7)(hb:Q8<h.objs.size):aX P w H (h.push {cls:=.type "dict",data:=.dict #[]}) h.objs.size (.dK []):=⟨Qb _,beq_eq_false_iff_ne.mpr (Q9 (P5 hb)),[],.nil,Heap.DictOf.new h⟩
noncomputable def tL:List (TE×TE)->St->Hp->(List (V×V)->Hp->Prop)->Prop
 |[],_,H,Q=>Q [] H|(c,b)::r,a,H,Q=>c a H λx f=>b a f λy e=>tL r a e λps d=>Q ((x,y)::ps) d
noncomputable abbrev VV:List (V×V)->List (O_×O_)->Prop:=Paired λp q=>RelV p.1 q.1/\RelV p.2 q.2
noncomputable def Mp(X:Cx)(pos:Ro)(c:List (Option PC))(a:List PC)(e:List (TE×TE)):Prop:=∀(b:List (Pg×Qx))(s:Pe)(d:St)(H:Hp)(Q:List (V×V)->Hp->Prop),Inv X b d H s->tL e d H Q->wpAny (Py X.prog X.w) X.A (evalPairs (pairTrees c a X.env pos)) (λg h=>∃ps f,Inv X b d f h/\VV ps g/\Q ps f) X.xe s
theorem Cc{X:Cx}{pos:Ro}:Mp X pos [] [] []:=λa s b H Q I h=>pairTrees_nil_walk ⟨[],H,I,.nil,h⟩
theorem yN{X:Cx}{pos:Ro}{k v:PC}{ks:List (Option PC)}{vs:List PC}{f e:TE}{b:List (TE×TE)}(r:PE X k f)(p:PE X v e)(q:Mp X pos ks vs b):Mp X pos (O7 k::ks) (v::vs) ((f,e)::b):=λa s c H Q I h=>pairTrees_cons_walk (bp (r a s c H _ I h) λu i⟨x,C,z,l,o⟩=>bp (p a i c C _ z o) λD g⟨y,B,w,j,n⟩=>bp (q a g c B _ w n) λws E⟨ps,A,t,d,m⟩=>⟨(x,y)::ps,A,t,.cons ⟨l,j⟩ d,m⟩)
noncomputable def lg(b a:List (Key×V)):List (Key×V):=a.foldl (λc d=>putK c d.1 d.2) b
theorem KV.merge:∀{a:List (Key×V)}{c:List (Key×O_)}{b:List (Key×V)}{vs:List (Key×O_)},KV a c->KV b vs->KV (lg b a) (merged vs c):=by
 intro a c b vs r;unfold KV at r;induction r generalizing b vs with
 |nil=>intro q;exact q|@cons p q ps f h t d=>
  intro r0;have e:KV (putK b p.1 p.2) (stored vs q.1 q.2):=by
   have:=r0.put p.1 h.2;rw[<-h.1];exact this
  exact d e
theorem gY:∀(b a:List (Key×V)),(lg a b).length<=a.length+b.length
 |[],a=>by show a.length<=a.length+0;omega|p::r,a=>by
  have d:=gY r (putK a p.1 p.2);have c:=qG a p.1 p.2;show(lg (putK a p.1 p.2) r).length<=_;rw[PM];omega
theorem lh{P:PF}{w:P0}:∀{d:List (Key×V)}{ws:List (O_×O_)},VV (d.map λf=>(kV f.1,f.2)) ws->∃e,Carries (aq P w) ws e/\KV d e
 |[],_,r=>by rw[Sw]at r;cases r;exact⟨[],T6,.nil⟩|p::d,_,r=>by
  rw[PY]at r;cases r with|@cons a b as bs h t=>
   obtain⟨e,c,q⟩:=lh (P:=P) (w:=w) t;obtain⟨b1,g⟩:=b;exact⟨(p.1,g)::e,⟨fI h.1,rfl,c⟩,.cons ⟨rfl,h.2⟩ q⟩
noncomputable def yO(b:List (TE×TE)):TE:=λe H Q=>∀p,H p=Pb->tL b e (upd H p (.dK [])) λps d=>d p=O7 (.dK [])/\∃a:List (Key×V),ps=a.map (λc=>(kV c.1,c.2))/\a.length<=15/\Q (.ref p) (upd d p (.dK (lg [] a)))
theorem Cd{X:Cx}{pos:Ro}{b:List (Option PC)}{d:List PC}{f:List (TE×TE)}(h:Mp X pos b d f)(j:b.all (·.isSome)=Pa)(C:b.length=d.length)(F:b≠[])(n:b.length<=15):PE X (.Dict b d pos) (yO f):=by
 intro g s r H Q I q;have B:=I.aH.fresh (Pq s.heap.objs.size);have K:=I.laid (a:=s.heap.objs.size) (o:=.dK []) (h':=s.heap.push {cls:=.type "dict",data:=.dict #[]}) (t':=s.toks) (λ_ _ q=>Ph _ q) (Pq _) (yM s.heap I.Ca);refine wpAny_Dict_walk (knd:=aq X.prog X.w) j C F n (bp (h g _ r _ _ K (q _ B)) λws L l=>?_);obtain⟨ps,M,p,m,e,i,G,lk,x⟩:=l;subst G;obtain⟨u,c,v⟩:=lh (P:=X.prog) (w:=X.w) m;obtain⟨z,hd,t,r0,J⟩:=EE p.aH e;cases r0;refine⟨u,c,J,λh' k A=>⟨.ref s.heap.objs.size,_,?_,rfl,x⟩⟩;have y:(lg [] i).length<=Pl:=by
  have E:=gY i [];rw[P8]at E;rw[Rg];omega
 have D:∃q,h'.get? s.heap.objs.size=O7 q:=let⟨q,_,_,hq,_⟩:=k;⟨q,hq⟩;exact Cb p (by rw[e];exact T6) A D (F5 y hd (v.merge .nil) k)
end L2
namespace Att
open PySem PySem.W PySem.Calls PyProof.Rows
theorem ky{P:UZ}{h:P7}:∀(ns:List Int)(vs:List O_),WellAll P h vs (ns.map WData.int)->Sm vs ns:=by
 intro ns;induction ns with
 |nil=>
  intro vs w;rw[Sw]at w;cases w;exact .nil|cons n ns c=>
  intro vs w;rw[PY]at w;cases w with|cons a b=>
   cases a;exact .cons _ _ (c _ b)
theorem wZ{l:OpenLaw}{n:Nat}(u:l.most=O7 n){P:UZ}{h:P7}{b:List WData}{vals:List O_}(c:l.row.toRowW.claim.pre b=Pa)(j:WellAll P h vals b):∃a vs ns,vals=[PQ a]/\b=[WData.list (ns.map WData.int)]/\h.get? a=O7 {cls:=.type "list",data:=.seq vs.toArray}/\Sm vs ns/\ns.length<=n:=by
 have k:WShape.hasAll [] b [.list .int]=Pa:=(pre_splitW c).1;have m:l.pre.holds [] {args:=b}=Pa:=(pre_splitW c).2;obtain⟨d,r,rfl,x,w⟩:=hasAllW_cons k;obtain rfl:=hasAllW_nil w;obtain⟨y,rfl,v⟩:=hasW_list x;obtain⟨ns,rfl⟩:=items_int v;have e:ns.length<=n:=by
  unfold OpenLaw.pre at m;have i:(WTm.not (.lt (.lit (.int (n:Int))) (.len (.arg 0)))).holds [] {args:=[.list (ns.map .int)]}=Pa:=by
   have i:=(holds_andW m).1;rw[u]at i;exact i
  have g:=condW_of i (w_not (w_lt w_lit (w_len_list (w_arg rfl))));rw[Pk]at g;refine Nat.le_of_not_lt λq=>?_;have s:(n:Int)<((ns.length:Nat):Int):=by omega+splitNatSub
  first
   |(rw[decide_eq_true s]at g;exact absurd g (by decide))|(simp at g;omega+splitNatSub)
 cases j with|cons p o=>
  cases o;cases p with|list t f=>exact⟨_,_,ns,rfl,rfl,t,ky ns _ f,e⟩
theorem w4(l:OpenLaw)(a:List WData):l.row.toRowW.claim.post a (.bool Pa) a=Pa:=postW_of (r:=l.row.toRowW) (X:=(Pa==Pa)) (show WShape.has [] (.bool Pa) .bool=Pa by first|rfl|decide|simp[WShape.has,WShape.arms,WShape.armsAll]) (show(WTm.eq .res (.lit (.bool Pa))).value [] {args:=a,res:=O7 (.bool Pa),after:=a}=O7 (.bool (Pa==Pa))from w_eq_bool (w_res rfl) w_lit) rfl
theorem qH{l:OpenLaw}{n:Nat}{q:PF}{c:List PX}{C:(PX->Option O_)->P7->Prop}{B:P0->P7->Prop}{d:DefRec}(H:l.most=O7 n)(u:d.params.defaults=[])(call:∀(w:P0)(bI b:Pe)(mg p:PX->Option O_)(k:Pg)(o:Qx)(m cd g:O_)(a:Pg)(vs:List O_)(ns:List Int),Ground q c [] C w bI mg p b.heap->B w b.heap->b.heap.get? k=O7 o->o.data=.func (docDef d.name d.params d.body d.scope m cd g)->b.heap.CodeRec cd d.name->mg d.name=O7 (.ref k)->b.heap.get? a=O7 {cls:=.type "list",data:=.seq vs.toArray}->Sm vs ns->ns.length<=n->b.gens=#[]->codeAny (Py l.prog w) Xg (.call (.ref k) ⟨[.ref a],[]⟩) (λr s'=>r=.ok (.ret (.bool Pa))/\OldK b.heap s'.heap/\s'.os=b.os/\UK s'.gens) b):WalkO q c C B l.row.toRowW d [] (λf vs=>Ts f vs):=by
 intro w bI b mg p G Y k o m cd g O kV F hd v z t K A x as h y D s J;obtain rfl:O=.none:=Dflts.none z u;obtain rfl:kV=.none:=Dflts.noKw z;obtain⟨a,vs,ns,rfl,rfl,i,e,j⟩:=wZ H h s;refine enter_call (Tx (call w bI b mg p k o m cd g a vs ns G Y F (fd_plain hd) v t i e j K) λr s' E=>?_);obtain⟨rfl,N,M,L⟩:=E;exact⟨.inl ⟨.bool Pa,.bool Pa,[],rfl,λ_=>rfl,.bool Pa,w4 l _,λ_=>⟨List.Pairwise.nil,λ_ I=>(nomatch I)⟩⟩,N,M,L⟩
end Att
namespace L2
open PySem PySem.Spec PyProof.Rows
theorem nH:∀{vs:List O_}{ns:List Int},Sm vs ns->ar (ns.map V.int) vs
 |_,_,.nil=>.nil|_,_,.cons n t h=>.cons ⟨t,rfl⟩ (nH h)
noncomputable def F6(H:Hp):Prop:=∀b,H b=Pb\/∃o a,H b=O7 (.bQ o (.lst a))
theorem yP{P:PF}{w:P0}{K:Pj}{mg E:PX->Option O_}{CX:uN}{k:Nat}{M a:Pg}{fd:Rj}{x:PX}{sp:Sp}{c:Pe}{vs:List O_}{ns:List Int}(U:K.In c.heap)(t:c.heap.Ns Qp mg)(hb:c.heap.Ns V8 E)(J:∀x:PX,x≠"__name__"->E x=Ry x)(y:c.heap.NoLimit)(hg:c.gens=#[])(ha:c.heap.get? a=O7 {cls:=.type "list",data:=.seq vs.toArray})(hi:Sm vs ns)(Q:ns.length<=Pl)(Z:eT k Xg)(F:∀base:P7,K.In base->base.Ns Qp mg->dM P w K mg base CX k M fd [x] sp)(i:∀(s:Pe)(u:O_),YF s fd ⟨[u],[]⟩ [(x,u)])(G:∀H:Hp,F6 H->d5 K H a (ns.map V.int)->sp [.ref a] H (λv _=>v=.bl Pa) λ_ _ _=>False)(L:∀H e s',CX [] H c (λ_ _ _=>False) e s'->False):codeAny (Py P w) Xg (.call (.ref M) ⟨[.ref a],[]⟩) (λr s'=>r=.ok (.ret (.bool Pa))/\OldK c.heap s'.heap/\s'.os=c.os/\UK s'.gens) c:=by
 have O:=nH hi;have l:=hi.length;have g:∀H:Hp,F6 H->d5 K H a (ns.map V.int)->gQ P w H c.heap->(∀b,H b≠Pb->b=a)->(H a≠Pb->K.lookup a=Pb)->codeAny (Py P w) Xg (.call (.ref M) ⟨[.ref a],[]⟩) (λr s'=>r=.ok (.ret (.bool Pa))/\OldK c.heap s'.heap/\s'.os=c.os/\UK s'.gens) c:=by
  intro H R hS aH S hK;have iY:∀{b:Pg}{o:Qx},c.heap.get? b=O7 o->H b=Pb->(oJ c.heap H).get? b=O7 o:=λe n=>yq e n;have D:∀{b:Pg}{o:Qx}{B:Array Ub}{C:Nat},c.heap.get? b=O7 o->o.data=.dict B C->H b=Pb:=λ{b o B C}e d=>by cases q:H b with
   |none=>rfl|some u=>
    have N:b=a:=S b (by rw[q];simp);subst N;rw[ha]at e;cases e;have d':Data.seq vs.toArray _=Data.dict B C:=d;cases d'
  have f:∀{b:Pg}{m:PX->Option O_},c.heap.Ns b m->(oJ c.heap H).Ns b m:=λ{b m}⟨o,B,C,e,d,r⟩=>⟨o,B,C,iY e (D e d),d,r⟩;have A:K.In (oJ c.heap H):=λb o e=>iY (U b o e) (by cases q:H b with
   |none=>rfl|some u=>
    have N:b=a:=S b (by rw[q];simp);subst N;rw[hK (by rw[q];simp)]at e;cases e);have hM:Mod K mg (oJ c.heap H):=⟨A,f t,⟨E,f hb,J⟩,let⟨mc,h1,h2⟩:=y;⟨mc,f h1,h2⟩⟩;have e0:B1 P w K mg (oJ c.heap H) Xg [] c H:=⟨rfl,hM,λb o e=>BP e,Wf (wJ _ _),trivial,λb hb=>absurd (show b∈([]:List Pg)from hb) (by simp),aH,.of_eq hg⟩;refine Tx ((F _ A (f t)).run Xg [] c H ⟨[.ref a],[]⟩ [.ref a] [.ref a] _ _ Z e0 (i c (.ref a)) (.cons rfl .nil) (G H R hS)) λr s' h=>?_;cases r with
  |error e=>exact(L H e s' h).elim|ok fl=>cases fl with
   |next=>exact Rr h|brk=>exact Rr h|cont=>exact Rr h|ret u=>
    obtain⟨v,H',os,bare,un,p,X,q⟩:=h;have Y:v=.bl Pa:=q;subst Y;obtain rfl:u=Vc Pa:=X;refine⟨rfl,OldK.of_keep λb o e=>?_,os,bare⟩;cases q:H b with
    |none=>exact un.keep b o e q (by intro z;exact absurd (show b∈([]:List Pg)from z) (by simp)) (by simp)|some u=>
     rcases R b with z|⟨ob,xs,z⟩;.rw[q]at z;cases z
     .have W:=un.gR b ob _ z;obtain⟨T,_⟩:=aH b _ z;obtain⟨e2,_⟩:=p b _ W;rw[e]at T;cases T;exact e2
 cases I:K.lookup a with
 |some o=>
  have e:=U a o I;rw[ha]at e;cases e;refine g (λ_=>Pb) (λ_=>.inl rfl) (.inr ⟨_,vs.toArray,_,I,rfl,rfl,rfl,by rw[Pw,l];exact Q,by simpa using O⟩) (λb u z=>by have j:(Pb:Option HO)=O7 u:=z;cases j) (λb z=>absurd rfl z) λz=>absurd rfl z|none=>
  refine g (λb=>if b=a then O7 (.bQ {cls:=.type "list",data:=.seq vs.toArray} (.lst (ns.map V.int)))else Pb) (λb=>?_) (.inl (.inr ⟨{cls:=.type "list",data:=.seq vs.toArray},if_pos rfl⟩)) (λb u z=>?_) (λb z=>?_) λ_=>I
  .by_cases hb:b=a;.exact .inr ⟨_,_,if_pos hb⟩
   .exact .inl (if_neg hb)
  .by_cases hb:b=a
   .have j:=(if_pos hb).symm.trans z;cases j;subst hb;exact⟨ha,by rw[Pk];exact Q,vs,_,O,ha⟩
   .have j:=(if_neg hb).symm.trans z;cases j
  .by_cases hb:b=a;.exact hb
   .exact absurd (if_neg hb) z
end L2
namespace L2
open PySem PySem.Spec PyProof.Rows
theorem Ce{l:PySem.W.OpenLaw}{n k:Nat}{q:PF}{i:List PX}{R:(PX->Option O_)->P7->Prop}{C:P0->P7->Prop}{d:DefRec}{K:UZ->Pj}{CX:P0->uN}{sp:P0->Sp}{x:PX}(I:l.most=O7 n)(y:n<=Pl)(A:d.params.defaults=[])(E:eT k Xg)(M:∀(w:P0)(h:P7),C w h->(K w.params).In h)(F:∀(w:P0)(mg:PX->Option O_)(r:Pg)(h:P7),(K w.params).In h->h.Ns Qp mg->mg d.name=O7 (.ref r)->∃fd:Rj,(∀(s:Pe)(u:O_),YF s fd ⟨[u],[]⟩ [(x,u)])/\∀base:P7,(K w.params).In base->base.Ns Qp mg->dM l.prog w (K w.params) mg base (CX w) k r fd [x] (sp w))(t:∀(w:P0)(H:Hp)(a:Pg)(ns:List Int),ns.length<=n->F6 H->d5 (K w.params) H a (ns.map V.int)->sp w [.ref a] H (λv _=>v=.bl Pa) λ_ _ _=>False)(B:∀(w:P0)(H:Hp)(s:Pe)(e:O_)(s':Pe),CX w [] H s (λ_ _ _=>False) e s'->False):PySem.W.WalkO q i R C l.row.toRowW d [] (λf vs=>Ts f vs):=by
 refine Att.qH I A λw bI m mg U r o S cd Q a vs ns G Y X hd L z p j c J=>?_;have D:=M w _ Y;obtain⟨fd,hb,P⟩:=F w mg r _ D G.T.g z;exact yP D G.T.g G.T.b G.T.builtins G.T.nolimit J p j (Qa c y) E P hb (λH O N=>t w H a ns c O N) λH e s'=>B w H m e s'
end L2
namespace L2
open PySem PySem.Spec PyProof.Rows
noncomputable def dA(s:RP):VQ:=match s with
 |.FunctionDef _ a _ _ _ _ _ _ _ _=>a|_=>{posonlyargs:=[],args:=[],vararg:=Pb,kwonlyargs:=[],kw_defaults:=[],kwarg:=Pb,defaults:=[]}
noncomputable def cz(s:RP):List RP:=match s with
 |.FunctionDef _ _ b _ _ _ _ _ _ _=>b|_=>[]
noncomputable def ao(s:RP):RQ:=match s with
 |.FunctionDef _ _ _ _ _ _ sc _ _ _=>sc|_=>{kind:=.function,names:=[],isGenerator:=Pc,isCoroutine:=Pc}
noncomputable abbrev w5:uN:=λ_ _ _ _ _ _=>False
noncomputable abbrev E0:XK:=λ_ _ _=>False
theorem J4{X:Cx}:tG w5 X E0:=λ_ _ _ _ _ _ _ h=>h.elim
structure yQ(K:Pj)(x qual:PX)(st:RP)(f:Pg)(fd:Rj):Prop where
 ex:∃(oc:O_)(od:Option Pg)(kV doc pm:O_)(an:Option Pg)(cdv ct:O_)(osl:Array (Option O_)),fd=Wc x qual (dA st) (cz st) (ao st) .none kV doc pm an cdv ct/\K.lookup f=O7 ⟨oc,od,.func fd,osl⟩/\RJ K cdv qual=Pa
 kp:Tr K (.ref f)=Pa
section
variable{P:PF}{w:P0}{K:Pj}{mg:PX->Option O_}{base:P7}
theorem yQ.ok{x a:PX}{st:RP}{f:Pg}{fd:Rj}{N ps:List PX}{k:Nat}{sp:Sp}(F:yQ K x a st f fd)(S:c4 N ps (ao st))(len:∀vs H Q E,sp vs H Q E->vs.length=ps.length)(c:∀(b:O_)(A:P9)(outer:List U_)(s:Pe)(H:Hp)(vs:List V)(Q:VK)(E:XK),eT k (A.deeper (VI a (ao st) s.heap.objs.size f b))->sp vs H Q E->∃t,qt (ku w5 P w K mg base N a (ao st) f b A outer s H E).Ml (cz st) t/\t {nx:=λ_ H'=>Q .bH H',rt:=Q} (start N vs) H):dM P w K mg base w5 (k+1) f fd ps sp:=by
 obtain⟨n,m,kV,j,l,o,b,ct,g,rfl,lk,e⟩:=F.ex;refine yE lk e S len λA outer s H vs Q E i d=>?_;obtain⟨t,h,q⟩:=c b A outer s H vs Q E i d;exact⟨t,h.Ml,q⟩
end
theorem J5{A:P9}{k:Nat}(a:eT k A):A.units+1<Q_:=SR (Nat.add_le_add_left (by decide:1<=64) _) a.units
section
variable{X:Cx}
theorem pv(i:Nat){x:PX}{pos:Ro}(hN:X.N[i]?=O7 x:=by rfl)(b:s_ X.env.scope x:=by first|exact Ul rfl|exact Vg (Ul rfl)|exact Vg (Vg rfl))(hd:(x==("__debug__":PX))=Pc:=by decide)(a:(x==("__classdict__":PX))=Pc:=by decide):PE X (.Name x pos) (JB i):=dg hN b hd a
end
theorem M8{A B:Prop}(h:B):if Pc=Pa then A else B:=by
 rw[if_neg QM];exact h
theorem Cf{c A B:Prop}[Decidable c](b:c->A)(a:¬c->B):if c then A else B:=by
 by_cases h:c
 .rw[if_pos h];exact b h
 .rw[if_neg h];exact a h
noncomputable def tM(H H':Hp):Prop:=∀b o,H b=O7 o->H' b=O7 o
end L2
namespace L2
open PySem PySem.Spec PyProof.Rows
abbrev NK:=Key⊕List Key
section
variable{prog:PF}{w:P0}
inductive aS(prog:PF)(w:P0)(h:P7):List NK->List O_->Prop|nil:aS prog w h [] []|sc{k:Key}{v:O_}{ks:List NK}{vs:List O_}:(aq prog w).is k v=Pa->aS prog w h ks vs->aS prog w h (.inl k::ks) (v::vs)|tp{k:List Key}{b:Pg}{ks:List NK}{vs:List O_}:IsTupleKey (aq prog w) h k b->aS prog w h ks vs->aS prog w h (.inr k::ks) (.ref b::vs)
noncomputable def bM(prog:PF)(w:P0)(h:P7)(ks:List NK)(a:Pg):Prop:=∃o items n,h.get? a=O7 o/\o.cls=.type "tuple"/\o.data=.seq items n/\aS prog w h ks items.toList
theorem aS.inj{h:P7}{x y:List NK}{vs:List O_}(f:aS prog w h x vs)(e:aS prog w h y vs):x=y:=by induction f generalizing y with
 |nil=>cases e;rfl|sc c _ d=>cases e with
  |sc a b=>rw[(aq prog w).inj _ _ _ c a,d b]|tp a b=>have:=(aq prog w).byValue _ _ c;cases this
 |tp c _ d=>cases e with
  |sc a b=>have:=(aq prog w).byValue _ _ a;cases this|tp a b=>rw[c.inj a,d b]
theorem bM.typeIs{s:Pe}{ks:List NK}{a:Pg}(x:bM prog w s.heap ks a):s.TypeIs (.ref a) "tuple":=let⟨o,_,_,b,c,_⟩:=x;⟨o,b,c⟩
theorem bM.inj{h:P7}{a:Pg}{x y:List NK}(i:bM prog w h x a)(g:bM prog w h y a):x=y:=by
 obtain⟨o,items,n,j,_,hd,hi⟩:=i;obtain⟨f,c,l,d,_,b,e⟩:=g;obtain rfl:o=f:=Pm (j.symm.trans d);rw[hd]at b;injection b with k _;subst k;exact hi.inj e
theorem aS.keeps{h h':P7}{d:Pg}{o:Qx}{es ep}{x:List NK}{vs:List O_}(c:aS prog w h x vs)(e:h.get? d=O7 o)(hd:o.data=.dict es ep)(hs:Ri d h h'):aS prog w h' x vs:=by induction c with
 |nil=>exact .nil|sc b _ a=>exact .sc b a|tp b _ a=>exact .tp (b.keeps e hd hs) a
theorem bM.keeps{h h':P7}{ks:List NK}{a d:Pg}{o:Qx}{es ep}(x:bM prog w h ks a)(g:h.get? d=O7 o)(hd:o.data=.dict es ep)(hs:Ri d h h'):bM prog w h' ks a:=by
 obtain⟨f,items,n,c,i,b,hi⟩:=x;have e:a≠d:=by
  rintro rfl;obtain rfl:f=o:=Pm (c.symm.trans g);rw[hd]at b;exact nomatch b
 exact⟨f,items,n,(hs.2 a e).trans c,i,b,hi.keeps g hd hs⟩
noncomputable def gZ(prog:PF)(w:P0):NK->Int
 |.inl k=>(aq prog w).hash k|.inr ks=>tupleKeyHash (aq prog w) ks
noncomputable def lj(prog:PF)(w:P0)(ks:List NK):Int:=reduceHash (Rq (ks.map (gZ prog w)))
noncomputable def J6:NK->Nat
 |.inl _=>1|.inr ks=>ks.length+1
noncomputable def fJ:List NK->Nat
 |[]=>0|k::ks=>J6 k+fJ ks
theorem ll(a:List NK)(k:NK):fJ (a++[k])=fJ a+J6 k:=by induction a with
 |nil=>simp[fJ]|cons x r b=>simp[fJ,b,TN]
variable{A:P9}{E:O_->Pe->Prop}{s:Pe}
theorem in1_units{A:P9}(h:A.units+1<Q_):A.in1.units<Q_:=h
theorem w6{ks:List NK}{a:Pg}{Q:Int->Pe->Prop}(hu:A.units+1<Q_)(t:bM prog w s.heap ks a)(h:Q (lj prog w ks) {s with toks:=s.toks+(fJ ks+1)}):wpAny (Py prog w) A (pyHash (.ref a)) Q E s:=by
 have m:=t.typeIs;obtain⟨o,items,n,u,_,hd,hi⟩:=t;unfold pyHash;first|unfold pyHashByItsType|skip
 first|refine O9 (wpAny_cRoomFor_or (.inr (by omega)) ?_)|skip
 refine O9 (Ta m PySem.F.slot_tuple_hash.lookup ?_);show wpAny _ _ (if(O7 (TQ "tuple.__hash__")==O7 Qc)=Pa then _ else _) Q E s;rw[if_neg (by rw[beq_builtin_none];exact QM)];refine O9 (Ta m PySem.F.slot_tuple_hash.lookup ?_);show wpAny _ _ (callSpecialIfBoundUnlessNone? (.ref a) "__hash__" _>>=_) Q E s;refine O9 (wpAny_callSpecialIfBoundUnlessNone?_slot m VT (QJ VT m PySem.F.entry_tuple_hash ?_ (PySem.F.args_tuple_hash_1 _)));show wpAny _ _ (Vh (.ref a)>>=_) _ _ s;refine O9 (Vi u hd ?_);refine O9 ?_;rw[<-Vj];refine SH _ (λrest(b:Array Int)p=>∃done left,ks=done++left/\aS prog w s.heap left rest/\b.toList=done.map (gZ prog w)/\p={s with toks:=s.toks+fJ done}) _ ?_ ?_ _ _ ⟨[],ks,rfl,hi,rfl,rfl⟩
 .rintro x rest b p⟨done,left,rfl,q,hb,rfl⟩;cases q with
  |@sc k _ g _ r j=>
   refine O9 ((aq prog w).pyHash r ?_);have i:∃d e,done++.inl k::g=d++e/\aS prog w s.heap e rest/\(b.push ((aq prog w).hash k)).toList=d.map (gZ prog w)/\({s with toks:=s.toks+fJ done+1}:Pe)={s with toks:=s.toks+fJ d}:=⟨done++[.inl k],g,by simp,j,by simp[hb,gZ],by rw[ll];rfl⟩;first
    |exact Pf i|exact O9 (Pf (Pf i))
  |@tp k c g _ r j=>
   refine O9 (wpAny_pyHash_tuple (in1_units hu) r ?_);have i:∃d e,done++.inr k::g=d++e/\aS prog w s.heap e rest/\(b.push (tupleKeyHash (aq prog w) k)).toList=d.map (gZ prog w)/\({s with toks:=s.toks+fJ done+(k.length+1)}:Pe)={s with toks:=s.toks+fJ d}:=⟨done++[.inr k],g,by simp,j,by simp[hb,gZ],by rw[ll,TN];rfl⟩;first
    |exact Pf i|exact O9 (Pf (Pf i))
 .rintro b p⟨done,left,rfl,q,hb,rfl⟩;cases q;rw[QL]at h;show wpAny _ _ (retInt (Rq b.toList)) _ _ _;rw[hb];refine wpAny_ret_mkInt ?_;show wpAny _ _ (if(decide (-(2:Int)^63<=Rq (done.map (gZ prog w)))&&decide (Rq (done.map (gZ prog w))<2^63))=Pa then _ else _) Q E _;unfold lj reduceHash at h;by_cases l:(decide (-(2:Int)^63<=Rq (done.map (gZ prog w)))&&decide (Rq (done.map (gZ prog w))<2^63))=Pa
  .rw[if_pos l];rw[if_pos l]at h;exact Pf (by simpa[TN]using h)
  .rw[if_neg l];rw[if_neg l]at h;exact O9 (UD (Pf (by simpa[TN]using h)))
theorem uQ{k:Key}{v:O_}(h:(aq prog w).is k v=Pa):(∃i t,v=.int i t/\k=.inl i)\/∃x t,v=.str x t/\k=.inr x:=by
 rcases aR (k:=k) (v:=v) h with⟨i,t,b,a⟩|⟨i,t,b,a⟩;.exact .inl ⟨i,t,a,b⟩
 .exact .inr ⟨i,t,a,b⟩
theorem IsTupleKey.tup{h:P7}{k:List Key}{b:Pg}(x:IsTupleKey (aq prog w) h k b):∃items,h.IsTuple b items:=let⟨o,items,n,a,c,hd,_⟩:=x;⟨items,o,a,c,n,hd⟩
theorem aS.two{x y:List NK}{xs r:List O_}{u v:O_}{rest:List (O_×O_)}(hu:A.units<Q_)(J:aS prog w s.heap x xs)(G:aS prog w s.heap y r)(c:(u,v)::rest=List.zip xs r):∃n m F D g f,x=n::F/\y=m::D/\xs=u::g/\r=v::f/\rest=List.zip g f/\aS prog w s.heap F g/\aS prog w s.heap D f/\∀(Q:Bool->Pe->Prop),Q (decide (n=m)) s->wpAny (Py prog w) A (eqBool u v) Q E s:=by cases J with
 |nil=>simp at c|@sc k K H B p l=>cases G with
  |nil=>simp at c|@sc d I z e j h=>
   simp only[RE,Tb,TR]at c;obtain⟨⟨rfl,rfl⟩,rfl⟩:=c;refine⟨_,_,_,_,_,_,rfl,rfl,rfl,rfl,rfl,l,h,λQ q=>(aq prog w).eqBool (a:=k) (b:=d) p j ?_⟩;rw[show decide (k=d)=decide ((UJ k:NK)=UJ d)by simp];exact q|@tp d b z e j h=>
   simp only[RE,Tb,TR]at c;obtain⟨⟨rfl,rfl⟩,rfl⟩:=c;refine⟨_,_,_,_,_,_,rfl,rfl,rfl,rfl,rfl,l,h,λQ q=>?_⟩;rw[decide_eq_false (by simp)]at q;obtain⟨C,o⟩:=IsTupleKey.tup j;rcases uQ p with⟨i,t,rfl,_⟩|⟨i,t,rfl,_⟩;.exact WX i t o hu prog w E Q q
   .exact WY i t o hu prog w E Q q
 |@tp k b1 H B p l=>cases G with
  |nil=>simp at c|@sc d I z e j h=>
   simp only[RE,Tb,TR]at c;obtain⟨⟨rfl,rfl⟩,rfl⟩:=c;refine⟨_,_,_,_,_,_,rfl,rfl,rfl,rfl,rfl,l,h,λQ q=>?_⟩;rw[decide_eq_false (by simp)]at q;obtain⟨C,o⟩:=IsTupleKey.tup p;rcases uQ j with⟨i,t,rfl,_⟩|⟨i,t,rfl,_⟩;.exact WZ i t o hu prog w E Q q
   .exact W0 i t o hu prog w E Q q|@tp d b z e j h=>
   simp only[RE,Tb,TR]at c;obtain⟨⟨rfl,rfl⟩,rfl⟩:=c;refine⟨_,_,_,_,_,_,rfl,rfl,rfl,rfl,rfl,l,h,λQ q=>XG hu p j ?_⟩;rw[show decide (k=d)=decide ((Vw k:NK)=Vw d)by simp];exact q
theorem aS.length{h:P7}{x:List NK}{xs:List O_}(b:aS prog w h x xs):x.length=xs.length:=by induction b with
 |nil=>rfl|sc _ _ a=>simp[a]|tp _ _ a=>simp[a]
theorem Cg{x y:List NK}{a b:Pg}{P:PySem.Fin->Pe->Prop}(hu:A.units<Q_)(U:bM prog w s.heap x a)(T:bM prog w s.heap y b)(h:P (.done (.ret (.bool (decide (x=y))))) s):wpAny (Py prog w) A (Builtin.«tuple.__eq__» ⟨[.ref a,.ref b],[]⟩) P E s:=by
 have S:=T.typeIs;obtain⟨Y,G,na,L,_,R,O⟩:=U;obtain⟨ob,F,Z,K,_,Q,N⟩:=T;show wpAny _ _ (Vk (.ref b) (.type "tuple")>>=_) _ _ s;refine O9 (SI S Uz ?_);simp only[Rb,P4,if_false];refine O9 (Vi L R ?_);refine O9 (Vi K Q ?_);refine O9 ?_;refine SH _ (λrest r H=>r.1=Pb/\H=s/\∃q j e d,rest=List.zip e d/\aS prog w s.heap q e/\aS prog w s.heap j d/\decide (q=j)=decide (x=y)/\(e.length==d.length)=(G.size==F.size)) _ ?_ ?_ _ _ ⟨rfl,rfl,x,y,G.toList,F.toList,rfl,O,N,rfl,by simp⟩
 .rintro⟨u,v⟩rest r H⟨J,rfl,q,j,e,d,I,i,g,c,f⟩;obtain⟨n,m,p,l,o,k,rfl,rfl,rfl,rfl,rfl,C,z,ask⟩:=i.two (E:=E) hu g I;refine O9 (ask _ ?_);by_cases M:n=m
  .subst M;rw[decide_eq_true rfl];simp only[Rb,P4,if_false];refine Pf ⟨rfl,rfl,p,l,o,k,rfl,C,z,?_,by simpa using f⟩;rw[<-c];by_cases B:p=l;.simp[B]
   .simp[B]
  .rw[decide_eq_false M];simp only[Bool.not_false,if_true];have V:decide (x=y)=Pc:=by rw[<-c];simp[M]
   rw[V]at h;exact O9 (Pf (Pf (Pf h)))
 .rintro⟨X,W⟩H⟨J,rfl,q,j,e,d,I,i,g,c,f⟩;simp only at J;subst J;refine Pf ?_;have D:(G.size==F.size)=decide (x=y):=by
   rw[<-c,<-f,<-i.length,<-g.length];have t:=congrArg RZ I;simp only[P8,List.length_zip,<-i.length,<-g.length]at t;cases q with
   |nil=>cases j<;>simp|cons _ _=>cases j with
    |nil=>simp|cons _ _=>simp at t
  show P (.done (.ret (.bool (G.size==F.size)))) H;rw[D];exact h
theorem Ci{x y:List NK}{a b:Pg}{Q:Bool->Pe->Prop}(hu:A.units+1<Q_)(d:bM prog w s.heap x a)(f:bM prog w s.heap y b)(h:Q (decide (x=y)) s):wpAny (Py prog w) A (eqBool (.ref a) (.ref b)) Q E s:=by
 unfold eqBool;try with_reducible refine Qn ?_
 show wpAny _ _ (if(PQ a==PQ b)=Pa then _ else _) Q E s;by_cases c:(PQ a==PQ b)=Pa
 .rw[if_pos c];have e:a=b:=by have:=eq_of_beq c;injection this
  subst e;obtain rfl:=d.inj f;exact O9 (UD (Pf (by simpa using h)))
 .rw[if_neg c];exact O9 (wpAny_richCompare_same_room (op:=.Eq) d.typeIs f.typeIs WE (QJ WE d.typeIs PySem.F.entry_tuple_eq (Cg (in1_units hu) d f ⟨_,rfl,(λe=>nomatch e),Sv h⟩) (PySem.F.args_tuple_eq_2 _ _)) (by omega))
theorem w9(n:Nat){ks:List Key}{a:Pg}{Q:Bool->Pe->Prop}(f:IsTupleKey (aq prog w) s.heap ks a)(h:Q Pa s):wpAny (Py prog w) A (Yf (n+1) (.ref a)) Q E s:=by
 have g:=f.typeIs;obtain⟨o,items,m,i,_,hd,hi⟩:=f;unfold Yf;refine O9 (Ta g PySem.F.slot_tuple_eq.lookup ?_);show wpAny _ _ (Vk (.ref a) (.type "tuple")>>=_) _ _ s;refine O9 (SI g Uz ?_);simp only[Rb,P4,if_false];refine O9 (Vl i hd ?_);refine O9 ?_;show wpAny _ _ (forIn items _ _) _ _ s;rw[<-Vj];refine SH _ (λrest r c=>r.1=Pb/\c=s/\∀v∈rest,carriedByValue v=Pa) _ ?_ ?_ _ _ ⟨rfl,rfl,hi.byValue⟩
 .rintro v rest r c⟨e,rfl,b⟩;rw[XZ _ (b v Pn)];refine O9 (Pf ?_);simp only[Rb,P4,if_false];exact Pf ⟨rfl,rfl,λu d=>b u (Po _ d)⟩
 .rintro⟨k,j⟩c⟨e,rfl,_⟩;simp only at e;subst e;exact Pf h
theorem tN{ks:List NK}{a:Pg}{Q:Bool->Pe->Prop}(e:bM prog w s.heap ks a)(h:Q Pa s):wpAny (Py prog w) A (Yf 8 (.ref a)) Q E s:=by
 have f:=e.typeIs;obtain⟨o,items,m,g,_,hd,hi⟩:=e;unfold Yf;refine O9 (Ta f PySem.F.slot_tuple_eq.lookup ?_);show wpAny _ _ (Vk (.ref a) (.type "tuple")>>=_) _ _ s;refine O9 (SI f Uz ?_);simp only[Rb,P4,if_false];refine O9 (Vl g hd ?_);refine O9 ?_;show wpAny _ _ (forIn items _ _) _ _ s;rw[<-Vj];refine SH _ (λrest r b=>r.1=Pb/\b=s/\∃ks,aS prog w s.heap ks rest) _ ?_ ?_ _ _ ⟨rfl,rfl,ks,hi⟩
 .rintro v rest r b⟨c,rfl,ks,i⟩;cases i with
  |sc d t=>
   rw[XZ _ ((aq prog w).byValue _ _ d)];refine O9 (Pf ?_);simp only[Rb,P4,if_false];exact Pf ⟨rfl,rfl,_,t⟩|tp d t=>
   refine O9 (w9 6 d ?_);simp only[Rb,P4,if_false];exact Pf ⟨rfl,rfl,_,t⟩
 .rintro⟨k,j⟩b⟨c,rfl,_⟩;simp only at c;subst c;exact Pf h
end
noncomputable def bR(prog:PF)(w:P0):HeapKind prog w (List NK)where
 is:=bM prog w;hash:=lj prog w;draws:=λks=>fJ ks+1;room:=λA=>A.units+1<Q_;inj:=λb a=>b.inj a;keeps:=λx e hd d=>x.keeps e hd d;pyHash:=λhu c h=>w6 hu c h;eqBool:=λhu b a h=>Ci hu b a h;quiet:=λc h=>tN c h
theorem dH{prog:PF}{w:P0}{A:P9}(hu:A.units+2<Q_):(bR prog w).room A.in1:=hu
structure J7(X:Cx)(scope:RQ)(cl:List (PX×Pg)):Prop where
 J8:Ys scope X.env=pure cl
 sub:∀x c,cl.lookup x=O7 c->X.env.cells.lookup x=O7 c
 has:∀x,scope.names.lookup x=O7 .free->(∃c,cl.lookup x=O7 c)/\(X.env.kindOf x=O7 .cell\/X.env.kindOf x=O7 .free)kind:scope.kind=.function
 cells:∀y∈scope.names,y.2=.cell->scope.names.lookup y.1=O7 .cell
 names:∀y∈scope.names,y.2=.local->scope.names.lookup y.1=O7 .local
noncomputable def ee(X:Cx)(pins:List (Pg×Qx))(a:RQ)(N:List PX)(cl:List (PX×Pg))(C:Pg)(b:List Pg)(s:Pe)(H:Hp):Cx:={X with N:=N,bI:=s,ig:=H,env:=compEnvC a cl C X.env,outer:=X.stack,stack:=X.stack,ex:=b,fn:=λx=>a.names.lookup x==O7 .cell,pn:=X.pn++pins,xe:=λ_ _=>False}
theorem dN{env:U_}:∀{names:List (PX×Sj)}{x:PX}{k:Sj},(names.map λ(n,k)=>if(k==Rm&&env.scope.kind==.function&&env.kindOf n==O7 .cell)then(n,Rc)else(n,k)).lookup x=O7 k->(k=.cell\/k=.free)->names.lookup x=O7 .free\/names.lookup x=O7 .cell
 |[],_,_,h,_=>by simp at h|(n,b)::r,x,k,h,d=>by
  have e:=@dN env r x k;have h:Yk x ((if(b==Rm&&env.scope.kind==.function&&env.kindOf n==O7 .cell)=Pa then(n,Rc)else(n,b))::_)=O7 k:=h;cases c:x==n with
  |true=>
   by_cases a:(b==Rm&&env.scope.kind==.function&&env.kindOf n==O7 .cell)=Pa
   .rw[if_pos a]at h;simp only[Pp,beq_iff_eq]at a;simp only[Qo,c];exact .inl (by rw[a.1.1])
   .rw[if_neg a]at h;simp only[Qo,c]at h⊢;cases h;rcases d with z|z;.exact .inr (by rw[z])
    .exact .inl (by rw[z])|false=>
   by_cases a:(b==Rm&&env.scope.kind==.function&&env.kindOf n==O7 .cell)=Pa
   .rw[if_pos a]at h;simp only[Qo,c]at h⊢;exact e h d
   .rw[if_neg a]at h;simp only[Qo,c]at h⊢;exact e h d
theorem iZ:∀(names:List (PX×Sj))(n:Nat)(a:List (PX×Pg)),(∀x c,a.lookup x=O7 c->c<n)->(∀x y c,a.lookup x=O7 c->a.lookup y=O7 c->x=y)->(∀x y c,(RO n names a).lookup x=O7 c->(RO n names a).lookup y=O7 c->x=y)/\∀x c,(RO n names a).lookup x=O7 c->(a.lookup x=O7 c/\(x,Rc)∉names)\/(n<=c/\(x,Rc)∈names/\∀h:P7,h.objs.size=n->(Sh h names).IsCell c Pb)
 |[],n,a,_,hi=>⟨hi,λx c e=>.inl ⟨e,by simp⟩⟩|(b,kind)::r,n,a,hb,hi=>by
  by_cases s:kind=.cell
  .subst s;have t:RO n ((b,Rc)::r) a=RO (n+1) r ((b,n)::a):=rfl;have lk:∀x c,((b,n)::a).lookup x=O7 c->(x=b/\c=n)\/(x≠b/\a.lookup x=O7 c):=λx c e=>by
    rw[Qo]at e;cases k:x==b with
    |true=>rw[k]at e;cases e;exact .inl ⟨beq_iff_eq.mp k,rfl⟩|false=>rw[k]at e;exact .inr ⟨by simpa using k,e⟩
   obtain⟨p,o⟩:=iZ r (n+1) ((b,n)::a) (λx c e=>by
    rcases lk x c e with⟨_,z⟩|⟨_,z⟩;.rw[z];exact SJ n
    .exact Sx (hb x c z)) (λx y c w v=>by
    rcases lk x c w with⟨f,d⟩|⟨_,d⟩<;>rcases lk y c v with⟨m,g⟩|⟨_,g⟩;.rw[f,m]
    .exact absurd (hb y c g) (by rw[d];exact Qf n)
    .exact absurd (hb x c d) (by rw[g];exact Qf n)
    .exact hi x y c d g);rw[t];refine⟨p,λx c e=>?_⟩;rcases o x c e with⟨f,d⟩|⟨f,d,l⟩
   .rcases lk x c f with⟨rfl,rfl⟩|⟨m,g⟩
    .refine .inr ⟨Pq _,Pn,λh i=>?_⟩;show(Sh (h.push {cls:=.type "cell",data:=.cell Pb}) r).IsCell c Pb;exact⟨_,TZ r _ _ _ (i▸PR _ rfl),rfl⟩
    .refine .inl ⟨g,λq=>?_⟩;rcases List.mem_cons.mp q with q|q;.exact m (Prod.mk.inj q).1
     .exact d q
   .refine .inr ⟨Nat.le_of_succ_le f,Po _ d,λh i=>?_⟩;show(Sh (h.push {cls:=.type "cell",data:=.cell Pb}) r).IsCell c Pb;exact l _ (by rw[SK,i])
  .have j:(kind==Rc)=Pc:=beq_eq_false_iff_ne.mpr s;have t:RO n ((b,kind)::r) a=RO n r a:=by
    show(if kind==Rc then _ else _)=_;rw[j];rfl
   have u:∀h:P7,Sh h ((b,kind)::r)=Sh h r:=λh=>by
    show(if kind==Rc then _ else _)=_;rw[j];rfl
   obtain⟨p,o⟩:=iZ r n a hb hi;rw[t];refine⟨p,λx c e=>?_⟩;rcases o x c e with⟨f,d⟩|⟨f,d,l⟩
   .refine .inl ⟨f,λq=>?_⟩;rcases List.mem_cons.mp q with q|q;.exact s (Prod.mk.inj q).2.symm
    .exact d q
   .exact .inr ⟨f,Po _ d,λh i=>by rw[u];exact l h i⟩
structure Cj(X:Cx)(scope:RQ)(s:Pe)(C:Pg)(h':P7)(cs:List (PX×Pg)):Prop where
 inj:∀x y c,cs.lookup x=O7 c->cs.lookup y=O7 c->x=y
 sub:∀x c,cs.lookup x=O7 c->(X.env.cells.lookup x=O7 c/\scope.names.lookup x≠O7 .cell)\/(s.heap.objs.size<=C/\C<c/\h'.IsCell c Pb)free:∀x c,cs.lookup x=O7 c->scope.names.lookup x=O7 .free->X.env.cells.lookup x=O7 c
 has:∀x,scope.names.lookup x=O7 .cell\/scope.names.lookup x=O7 .free->∃c,cs.lookup x=O7 c
theorem i5{M:T9}{A:P9}{E:O_->Pe->Prop}{s:Pe}{a:RQ}{globals:Pg}{cl:List (PX×Pg)}{c:PX}{b:U_}{Q:U_->Pe->Prop}(h:Q (newEnv a s.heap.objs.size globals (RO (s.heap.objs.size+1) a.names cl) c Pb .none (O7 b) V8) {s with heap:=Sh (s.heap.push {cls:=.type "dict",data:=.dict #[]}) a.names}):wpAny M A (newFunctionEnv a globals cl [] c Pb .none (O7 b)) Q E s:=by
 simp only[newFunctionEnv,XF,if_true];refine O9 (wpAny_alloc ?_);refine O9 (wpAny_layCells _ (λe kind cells=>by cases d:kind==Rc<;>simp[d]) _ _ _ _ ?_);rw[Um];refine O9 (Pf (Pf ?_));rw[show({s with heap:=s.heap.push {cls:=.type "dict",data:=.dict #[]}}:Pe).heap.objs.size=s.heap.objs.size+1 from SK ..];exact h
section
variable{X:Cx}{pins:List (Pg×Qx)}{σ:St}{H H':Hp}{s s':Pe}{cs:List (PX×Pg)}{fp:List Pg}{scope:RQ}{cl:List (PX×Pg)}{own fr:List PX}{js:List Nat}{C:Pg}{h':P7}
noncomputable def bJ(σ:St)(n:Nat)(js:List Nat):St:=Qy n Pb++js.map λj=>(σ[j]?).join
theorem oU(I:Inv X pins σ H s)(a:∀b∈fp,fN X pins H b):∀b∈fp,b∉gS X.stack:=λb hb z=>by
 obtain⟨_,d,c,_⟩:=a b hb;rcases List.mem_cons.mp (I.ij b z)with e|e;.exact d e
 .exact c e
theorem F7(I:Inv X pins σ H s)(d:∀b∈fp,fN X pins H b)(g:∀b∈fp,b<s.heap.objs.size)(c:J7 X scope cl)(k:Cj X scope s C h' cs)(j:s.heap.objs.size<=C){N:List PX}:(ee X pins scope N cs C fp s H).Ok where
 mod:=I.mod;kind:=c.kind;glob:=I.ok.glob;blt:=I.ok.blt;above:=j;inj:=k.inj;has:=λx f=>by
  have l:scope.names.lookup x=O7 .free\/scope.names.lookup x=O7 .cell:=by
   rcases f with f|f;.exact dN f (.inl rfl)
   .exact dN f (.inr rfl)
  exact k.has x l.symm
 Fs:=λx a z e=>by
  have z:(scope.names.lookup x==O7 .cell)=Pa:=z;rcases k.sub x a e with⟨_,q⟩|⟨i,h,_⟩;.exact absurd (beq_iff_eq.mp z) q
  .exact Tw (SR i h)
 hd:=I.ok.hd;frames:=I.ok.frames;Jg:=.inl rfl;Mk:=λb hb=>⟨P5 (PJ (g b hb) j),λx a e=>by
  rcases k.sub x a e with⟨q,_⟩|⟨i,h,_⟩;.exact(d b hb).2.2.2.2.1 x a q
  .exact RA (U5 (PJ (g b hb) i) h)⟩;bs:=I.bs;BL:=Qa I.ok.BL I.sz;tq:=λb o e hb=>by
  rcases(d b hb).2.2.2.1 with z|z;.exact I.ok.tq b o e z
  .exact absurd (PJ (PJ (Px e) I.ok.BL) z) (Qf _)
 wK:=oU I d;jI:=I.stack;Eu:=I.kE
theorem nI(I:Inv X pins σ H s)(K:∀b∈fp,fN X pins H b)(L:∀b∈fp,b<s.heap.objs.size)(c:J7 X scope cl)(A:Cj X scope s C h' cs)(R:js.map (λj=>X.N[j]?)=fr.map O7)(J:∀x∈fr,scope.names.lookup x=O7 .free){t':Nat}(M:s.heap.objs.size<=C)(k:∀b o,s.heap.get? b=O7 o->h'.get? b=O7 o){m:PX->Option O_}(hn:h'.Ns C m):Inv (ee X pins scope (own++fr) cs C fp s H) [] (bJ σ own.length js) H {s with heap:=h',toks:=t'}:=by
 have Z:js.length=fr.length:=by simpa using congrArg RZ R
 refine⟨F7 I K L c A M,rfl,I.bare,Un.kept k,⟨m,hn,λi x v w f _=>?_⟩,λx a e=>?_,I.aH.fresh M,λx a e=>?_,λp F=>?_,I.aH.kept k,?_⟩
 .unfold bJ at f;have w:(own++fr)[i]?=O7 x:=w;by_cases hi:i<own.length
  .rw[QP (by simpa using hi),R4,if_pos hi]at f;cases f
  .rw[Qh (by simpa using hi)]at f;rw[Qh (by omega)]at w;rw[RT]at f;generalize i-own.length=t at w f;have E:=congrArg (λl=>l[t]?) R;rw[PV,PV,w]at E;rw[PV]at f;cases T:js[t]? with
   |none=>rw[T]at f;cases f|some j=>
    rw[T]at f E;have h:X.N[j]?=O7 x:=Pm E;have hv:σ[j]?=O7 (O7 v):=by
     have f:(σ[j]?).join=O7 v:=Pm f;cases S:σ[j]? with
     |none=>rw[S]at f;cases f|some o=>
      rw[S]at f;have f:o=O7 v:=f;rw[f]
    have g:=J x (Qd w);obtain⟨_,O⟩:=c.has x g;obtain⟨a,U⟩:=A.has x (.inr g);obtain⟨m0,_,hl⟩:=I.loc;obtain⟨u,r,lk⟩:=hl j x v h hv (.inr O);refine⟨u,r,.inr ⟨?_,a,U,?_⟩⟩
    .show(YI scope X.env).names.lookup x=O7 .cell\/(YI scope X.env).names.lookup x=O7 .free;have gen:∀names:List (PX×Sj),names.lookup x=O7 .free->(names.map λ(n,k)=>if(k==Rm&&X.env.scope.kind==.function&&X.env.kindOf n==O7 .cell)then(n,Rc)else(n,k)).lookup x=O7 .cell\/(names.map λ(n,k)=>if(k==Rm&&X.env.scope.kind==.function&&X.env.kindOf n==O7 .cell)then(n,Rc)else(n,k)).lookup x=O7 .free:=by
      intro names;induction names with
      |nil=>intro z;simp at z|cons y r Q=>
       obtain⟨n,B⟩:=y;intro z;show Yk x ((if(B==Rm&&X.env.scope.kind==.function&&X.env.kindOf n==O7 .cell)=Pa then(n,Rc)else(n,B))::_)=_\/Yk x ((if(B==Rm&&X.env.scope.kind==.function&&X.env.kindOf n==O7 .cell)=Pa then(n,Rc)else(n,B))::_)=_;cases h:x==n with
       |true=>
        simp only[Qo,h]at z;cases z;by_cases D:(Rm==Rm&&X.env.scope.kind==.function&&X.env.kindOf n==O7 .cell)=Pa;.rw[if_pos D];exact .inl (by simp[Qo,h])
        .rw[if_neg D];exact .inr (by simp[Qo,h])|false=>
        simp only[Qo,h]at z;by_cases D:(B==Rm&&X.env.scope.kind==.function&&X.env.kindOf n==O7 .cell)=Pa;.rw[if_pos D];simp only[Qo,h];exact Q z
        .rw[if_neg D];simp only[Qo,h];exact Q z
     exact gen scope.names g
    .rcases lk with⟨P,_⟩|⟨_,b,eb,z⟩
     .rcases O with q|q;.rw[P]at q;cases q
      .rw[P]at q;cases q
     .have e:=A.free x a U g;rw[eb]at e;cases e;obtain⟨o,G,hd⟩:=z;exact⟨o,k _ _ G,hd⟩
 .rcases A.sub x a e with⟨q,_⟩|⟨_,_,q⟩
  .obtain⟨v,o,G,hd⟩:=I.cell x a q;exact⟨v,o,k _ _ G,hd⟩
  .exact⟨Pb,q⟩
 .rcases A.sub x a e with⟨q,_⟩|⟨W,V,_⟩;.exact I.cQ x a q
  .exact I.aH.fresh (Tw (SR W V))
 .have F:p∈X.pn++pins:=by simpa[ee]using F
  obtain⟨e,n,ne,Y,d⟩:=I.pin p F;refine⟨k _ _ e,n,P5 (PJ (Px e) M),λz=>?_,d⟩;rcases List.mem_cons.mp (I.ij _ z)with q|q;.exact ne q
  .exact Y q
 .show(bJ σ own.length js).length=(own++fr).length;unfold bJ;simp[Z]
theorem Ck{a:St}{d:List (Pg×Qx)}{N:List PX}(I:Inv X pins σ H s)(c:∀b∈fp,fN X pins H b)(J:Inv (ee X pins scope N cl C fp s H) d a H' s'):Inv X pins σ H' s':=by
 refine I.uI (ch:=fp) J.os J.base J.aH J.bare λb hb=>?_;obtain⟨_,h,_,g,f,e⟩:=c b hb;exact⟨g,h,f,e⟩
theorem yR{d:St}{j:List (Pg×Qx)}{N:List PX}(I:Inv X pins σ H s)(f:∀b∈fp,fN X pins H b)(J:Inv (ee X pins scope N cl C fp s H) j d H' s')(m:s.heap.objs.size<=C)(hs:Ri C s'.heap h'):Inv X pins σ H' {s' with heap:=h'}:=by
 have ne:∀b o,s.heap.get? b=O7 o->b≠C:=λb o e=>P5 (PJ (Px e) m);have h:H' C=Pb:=J.free;refine I.uI (s':={s' with heap:=h'}) (ch:=fp) J.os ⟨λb o e n hb a=>(hs.2 b (ne b o e)).trans (J.base.keep b o e n hb a),λb o e n hb a=>?_,J.base.free,λb o e a=>?_,J.base.ic,J.base.gR,J.base.ie⟩ (λb ob e=>?_) J.bare λb hb=>?_
 .obtain⟨i,g⟩:=J.base.slot b o e n hb a;exact⟨i,(hs.2 b (ne b o e)).trans g⟩
 .obtain⟨k,g⟩:=J.base.there b o e a;exact⟨k,(hs.2 b (ne b o e)).trans g⟩
 .refine(J.aH b ob e).h_ (λc v l q=>(hs.2 c ?_).trans q) (λ_ q=>q) λ_ _ q=>q;rintro rfl;rcases l with z|z;.rw[<-z,h]at e;cases e
  .rw[h]at z;cases z
 .obtain⟨_,u,_,t,r,p⟩:=f b hb;exact⟨t,u,r,p⟩
theorem Inv.uR{a:Pg}{o:HO}(I:Inv X pins σ H s)(ha:X.bI.heap.objs.size<=a)(f:H a=Pb)(l:a≠X.env.locals)(k:∀x c,X.env.cells.lookup x=O7 c->c≠a)(j:∀p∈X.pn++pins,p.1≠a)(new:aX X.prog X.w (upd H a o) s.heap a o):Inv X pins σ (upd H a o) s:=by
 refine⟨I.ok,I.os,I.bare,⟨I.base.keep,I.base.slot,λb ob e n i=>?_,I.base.there,λb g e=>?_,λb ob u e=>?_,λb ps e=>?_⟩,I.loc,I.cell,?_,λx c e=>?_,λp h=>?_,λb u e=>?_,I.len⟩
 .rw[ai (P5 (PJ (Px e) ha))];exact I.base.free b ob e n i
 .have q:=I.base.ic b g e;rw[ai (aF q f)];exact q
 .have q:=I.base.gR b ob u e;rw[ai (aF q f)];exact q
 .obtain⟨d,q⟩:=I.base.ie b ps e;exact⟨d,by rw[ai (aF q f)];exact q⟩
 .rw[ai (Q9 l)];exact I.free
 .rw[ai (k x c e)];exact I.cQ x c e
 .obtain⟨e,n,r⟩:=I.pin p h;exact⟨e,by rw[ai (j p h)];exact n,r⟩
 .by_cases hb:b=a
  .subst hb;rw[ah]at e;cases e;exact new
  .rw[ai hb]at e;exact(I.aH b u e).h_ (λ_ _ _ q=>q) (λc q=>by rw[ai (aF q f)];exact q) λc g q=>by rw[ai (aF q f)];exact q
end
noncomputable def w_(Y:Cx)(ifs:List PC)(t:TT):Prop:=∀(a:List (Pg×Qx))(s:Pe)(b:St)(H:Hp)(Q:Bool->Hp->Prop),Inv Y a b H s->t b H Q->wpAny (Py Y.prog Y.w) Y.A (forIn ifs Pa λc r=>if r=Pa then do let ok<-V9 c Y.env (Rz c Y.env);pure (RC ok)else pure (RC r)) (TP Y a b Q) Y.xe s
noncomputable def M9:TT:=λ_ H Q=>Q Pa H
theorem yS{Y:Cx}:w_ Y [] M9:=λa s b H Q I h=>wpAny_tests_nil ⟨H,I,h⟩
theorem yT{Y:Cx}{c:PC}{t:TT}(h:PT Y c t):w_ Y [c] t:=λa s b H Q I q=>wpAny_tests_one (h a s b H Q I q)
noncomputable abbrev RB(a:Type):=St->Hp->a->(a->St->Hp->Prop)->Prop
noncomputable def Body(Y:Cx){e:Type}(ok:e->Qx->Prop)(D:Pg)(body:Vy Unit)(rd:RB e):Prop:=∀(b:List (Pg×Qx))(s:Pe)(f:St)(H:Hp)(a:e)(ob:Qx)(Q:e->St->Hp->Prop),Inv Y ((D,ob)::b) f H s->(∀p∈Y.pn++b,p.1≠D)->ok a ob->rd f H a Q->wpAny (Py Y.prog Y.w) Y.A body (λ_ i=>∃g d c h,Inv Y ((D,d)::b) c h i/\ok g d/\Q g c h) Y.xe s
noncomputable def uS{j:Type}(J:It)(g:TG)(e:TT)(rd:RB j):RB j:=λd H a Q=>∃W:Nat->Nat->j->St->Hp->Prop,(∃m,W 0 m a d H)/\∀i m a d H,W i m a d H->(J.stop i H/\Q a d H)\/(J.go i H/\∀x l,J.Mm i H x l->g x d l λc p=>e c p λb k=>if b=Pa then rd c k a λn h o=>∃f,f<m/\W (i+1) f n h o else∃f,f<m/\W (i+1) f a c k)
theorem j3{Y:Cx}{α:Type}{ok:α->Qx->Prop}{D it:Pg}{e tg:PC}{d:Nat}{ifs:List PC}{body:Vy Unit}{pos0:Ro}{J:It}{y:List Pg}{tn:Nat->P7->Prop}{g:TG}{E:TT}{rd:RB α}(hc:Y.calm=Pa)(hx:∀x s',¬Y.xe x s')(a7:(Py Y.prog Y.w).den (.compLoop e d (.ref it) (.ref D) Y.env)=(VU e d (.ref it) (.ref D) Y.env).onRaise (λx=>do Uc x Y.env;Wz x))(a4:Y.A.under (.compLoop e d (.ref it) (.ref D) Y.env)=Y.A)(b2:VU e d (.ref it) (.ref D) Y.env=(do
   Ug pos0;match<-UE (.ref it)with
   |none=>pure (.done .next)|some v=>
    Ss tg (.ref it) v;UC tg Y.env v;let mut ok:=Pa;for c in ifs do if ok then ok<-V9 c Y.env (Rz c Y.env)
    if ok then body
    YD (.compLoop e d (.ref it) (.ref D) Y.env)))(T:Turn Y.prog Y.w Y.K tg J y it tn)(hg:PG Y tg g)(hi:w_ Y ifs E)(hb:Body Y ok D body rd){pins:List (Pg×Qx)}{ob:Qx}{a:α}{σ:St}{H:Hp}{s:Pe}{Q:α->St->Hp->Prop}(I:Inv Y ((D,ob)::pins) σ H s)(a6:∀p∈Y.pn++pins,p.1≠D)(aH:ok a ob)(O:∀b∈y,fN Y ((D,ob)::pins) H b)(b0:tn 0 s.heap)(h:uS J g E rd σ H a Q):codeAny (Py Y.prog Y.w) Y.A (.compLoop e d (.ref it) (.ref D) Y.env) (λr s'=>∃a' C Z H',r=.ok .next/\Inv Y ((D,C)::pins) Z H' s'/\ok a' C/\Q a' Z H'/\∀b∈y,H' b=Pb) s:=by
 obtain⟨W,⟨m0,w0⟩,a0⟩:=h;have B:∀{H':Hp}{C:Qx},(∀b∈y,H' b=Pb)->∀b∈y,fN Y ((D,C)::pins) H' b:=λ{H' C}hn b hb=>by
  obtain⟨_,h1,h2,h3,h4,h5⟩:=O b hb;refine⟨hn b hb,h1,h2,h3,h4,λp hp=>?_⟩;rcases List.mem_append.mp hp with z|z;.exact h5 p (Qk _ z)
  .rcases List.mem_cons.mp z with q|q;.rw[q];exact h5 (D,ob) (PK _ Pn)
   .exact h5 p (PK _ (Po _ q))
 have a5:∀h:P7,∀p∈Y.pn++(pins++fh y h),p.1≠D:=λh p hp=>by
  rcases List.mem_append.mp hp with z|z;.exact a6 p (Qk _ z)
  .rcases List.mem_append.mp z with q|q;.exact a6 p (PK _ q)
   .exact Q9 ((O p.1 (nr q).1).2.2.2.2.2 (D,ob) (PK _ Pn))
 have t:∀{R:O_->Pe->Prop}(x:O_)(s':Pe),Y.xe x s'->R x s':=λx s' z=>(hx x s' z).elim;refine codeAny_loop rfl (λn s'=>∃i a ob σ H,Inv Y ((D,ob)::pins) σ H s'/\ok a ob/\tn i s'.heap/\(∀b∈y,H b=Pb)/\W i n a σ H) ?_ m0 ⟨0,a,ob,σ,H,I,aH,b0,λb hb=>(O b hb).1,w0⟩;rintro n s3⟨i,a3,N,k,H3,I3,M,a2,P,w3⟩;rw[a7,a4];refine wpAny_noted ?_;rw[b2];refine O9 (RG (O9 ?_));rcases a0 i n a3 k H3 w3 with⟨stop,qn⟩|⟨go,step⟩
 .refine QV (T.done Y rfl rfl rfl hc i _ s3 k H3 Y.xe I3 (B P) a2 stop) (λr s4⟨hr,I4⟩=>?_) t;subst hr;exact Pf ⟨a3,N,k,H3,rfl,I4,M,qn,P⟩
 .refine QV (T.item Y rfl rfl rfl hc i _ s3 k H3 Y.xe I3 (B P) a2 go) (λr s4⟨u,hr,h4⟩=>?_) t;subst hr;refine O9 (QV h4 (λ_ U⟨x,H5,I5,r5,y5,G,b3⟩=>?_) t);have b6:Inv Y ((D,N)::(pins++fh y U.heap)) k H5 U:=I5.pinned (B b3) (T.obj _ _ G);refine O9 (QV (hg _ U k H5 x u _ b6 r5 (step x H5 y5)) (λ_ s6⟨X,H6,I6,q6⟩=>?_) t);refine O9 (QV (hi _ s6 X H6 _ I6 q6) (λb s7⟨H7,I7,q7⟩=>?_) t);have f:∀{a8:α}{l:Qx}{j:St}{V:Hp}{S:Pe},Inv Y ((D,l)::(pins++fh y U.heap)) j V S->ok a8 l->(∃m',m'<n/\W (i+1) m' a8 j V)->∃m,m<n/\∃i a ob σ H,Inv Y ((D,ob)::pins) σ H S/\ok a ob/\tn i S.heap/\(∀b∈y,H b=Pb)/\W i m a σ H:=λ{a8 l j V S}I8 L a9=>by
   obtain⟨m',hm,w8⟩:=a9;have F:=λ(b:Pg)(o:Qx)(z:(b,o)∈fh y U.heap)=>I8.pin (b,o) (PK _ (Po _ (PK _ z)));have b4:Inv Y (((D,l)::pins)++fh y U.heap) j V S:=I8;refine⟨m',hm,i+1,a8,l,j,V,b4.iW,L,T.keep _ _ _ G λb hb o e=>(F b o (fi hb e)).1,λb hb=>?_,w8⟩;obtain⟨o,e,_⟩:=T.obj _ _ G b hb;exact(F b o (fi hb e)).2.1
  cases b with
  |false=>
   rw[if_neg QM]at q7;exact Pf ⟨rfl,f I7 M q7⟩|true=>
   rw[if_pos rfl]at q7;refine O9 (QV (hb _ s7 X H7 a3 N _ I7 (a5 _) M q7) (λ_ S⟨a8,l,j,V,I8,L,q8⟩=>?_) t);exact Pf ⟨rfl,f I8 L q8⟩
noncomputable def Mq(b:List V)(ob:Qx):Prop:=b.length<=Pl/\∃(a:List O_)(n:Nat),ar b a/\ob={cls:=.type "list",data:=.seq a.toArray n}
noncomputable def lq(c:TE):RB (List V):=λb H a Q=>c b H λy d=>a.length<Pl/\Q (a++[y]) b d
theorem ar.snoc{xs:List V}{us:List O_}{x:V}{u:O_}(r:ar xs us)(q:RelV x u):ar (xs++[x]) (us++[u]):=r.append (.cons q .nil)
theorem Inv.EF{Y:Cx}{pins:List (Pg×Qx)}{σ:St}{H:Hp}{s:Pe}{D:Pg}{ob a:Qx}{h':P7}(I:Inv Y ((D,ob)::pins) σ H s)(m:Y.bI.heap.objs.size<=D)(h:∀x c,Y.env.cells.lookup x=O7 c->c≠D)(l:∀p∈Y.pn++pins,p.1≠D)(k:∀b o,b≠D->s.heap.get? b=O7 o->h'.get? b=O7 o)(e:h'.get? D=O7 a)(hd:∀v,a.data≠.cell v){t':Nat}:Inv Y ((D,a)::pins) σ H {s with heap:=h',toks:=t'}:=by
 obtain⟨_,n,ne,j,_⟩:=I.pin (D,ob) (PK _ Pn);have q:Inv Y pins σ H s:=I.d_ λp g=>I.pin p (PK _ (Po _ g));have i:Inv Y pins σ H {s with heap:=h',toks:=t'}:=q.turned (it:=D) k n ne (.inr m) h l;refine i.d_ λp g=>?_;rcases List.mem_cons.mp g with z|z;.rw[z];exact⟨e,n,ne,j,hd⟩
 .exact i.pin p (PK _ z)
structure Jh(Y:Cx)(D:Pg):Prop where
 young:Y.bI.heap.objs.size<=D
 cells:∀x c,Y.env.cells.lookup x=O7 c->c≠D
theorem nJ{Y:Cx}{D:Pg}{c:PC}{j:TE}(o:Jh Y D)(h:PE Y c j):Body Y Mq D (do let _<-call (.builtin "list.append") [.ref D,<-Rz c Y.env]) (lq j):=by
 intro m s i H g ob Q I f aH q;refine O9 (bp (h _ s i H _ I q) λu E d=>?_);obtain⟨y,C,p,r,F,t⟩:=d;obtain⟨A,a,n,k,rfl⟩:=aH;have eD:=(p.pin _ (PK _ Pn)).1;refine O9 (wpAny_list_append_plain (l:=D) (items:=a.toArray) ⟨n,eD⟩ (λG⟨w,B⟩x=>Pf ?_) (by rw[Pw,<-k.length];exact A));refine⟨g++[y],_,i,C,p.EF o.young o.cells f (λb ob hb e=>(x.2 b hb).trans e) B (λv z=>nomatch z),⟨by simp;omega,a++[u],w,k.snoc r,by simp⟩,t⟩
end L2
end
section
namespace ST
open PySem
noncomputable def f5(n i:Nat):Nat:=(i*5+1)%n
noncomputable def uT(n:Nat):Nat->Nat->Nat
 |0,i=>i|k+1,i=>f5 n (uT n k i)
theorem kG(n a b i:Nat):uT n (a+b) i=uT n a (uT n b i):=by induction a with
 |zero=>simp[uT]|succ a c=>rw[Nat.succ_add];simp only[uT];rw[c]
noncomputable def row(n:Nat):Nat->Nat->List Nat
 |0,_=>[]|k+1,i=>i::row n k (f5 n i)
theorem xa(n k i:Nat):uT n (k+1) i=uT n k (f5 n i):=by
 have:=kG n k 1 i;rw[this];rfl
theorem uU{n:Nat}:∀{k i j:Nat},j∈row n k i->∃m,m<k/\uT n m i=j
 |0,_,_,h=>by simp[row]at h|k+1,i,j,h=>by
  rcases List.mem_cons.mp h with rfl|h;.exact⟨0,U6 _,rfl⟩
  .obtain⟨m,b,a⟩:=uU h;exact⟨m+1,Nat.succ_lt_succ b,by rw[xa];exact a⟩
noncomputable def Mask(k:Nat):Prop:=k=7\/k=31\/k=127\/k=511
noncomputable def full(n:Nat):Bool:=(Qg n).all (λj=>(row n n 0).contains j)&&(uT n n 0==0)
theorem J9:full 8=Pa:=by decide+kernel
theorem F8:full 32=Pa:=by decide+kernel
theorem Co:full 128=Pa:=by decide+kernel
theorem Cp:full 512=Pa:=by decide+kernel
theorem Mask.full{k:Nat}(h:Mask k):ST.full (k+1)=Pa:=by
 rcases h with rfl|rfl|rfl|rfl;.exact J9
 .exact F8
 .exact Co
 .exact Cp
theorem xb{n:Nat}(h:full n=Pa){i j:Nat}(hi:i<n)(g:j<n):∃m,m<n/\uT n m i=j:=by
 unfold full at h;rw[Pp,Qq,beq_iff_eq]at h;obtain⟨l,k⟩:=h;have get:∀x,x<n->∃m,m<n/\uT n m 0=x:=λx f=>uU (by simpa using l x (List.mem_range.mpr f));obtain⟨a,ha,e⟩:=get i hi;obtain⟨b,hb,d⟩:=get j g;by_cases c:a<=b
 .refine⟨b-a,by omega,?_⟩;rw[<-e,<-kG,Nat.sub_add_cancel c,d]
 .refine⟨b+(n-a),by omega,?_⟩;rw[<-e,<-kG,show b+(n-a)+a=b+n by omega,kG,k,d]
noncomputable def run(mask:Nat)(b:Nat):Nat->Nat×Nat
 |0=>(b%(mask+1),b)|m+1=>Th mask (run mask b m).1 (run mask b m).2
theorem qI(mask b m:Nat):(run mask b m).2=b/32^m:=by induction m with
 |zero=>simp[run]|succ m a=>
  show(run mask b m).2/32=_;rw[a,Wg,Nat.pow_succ]
theorem F9(mask b m:Nat):(run mask b m).1<mask+1:=by cases m with
 |zero=>exact Wh _ (U6 _)|succ m=>exact Wh _ (U6 _)
theorem yU{mask b:Nat}(hb:b<2^64)(m:Nat):(run mask b (13+m)).1=uT (mask+1) m (run mask b 13).1:=by induction m with
 |zero=>rfl|succ m a=>
  show((run mask b (13+m)).1*5+1+(run mask b (13+m)).2/32)%(mask+1)=f5 (mask+1) (uT (mask+1) m (run mask b 13).1);have:(run mask b (13+m)).2/32=0:=by
   rw[qI,Wg,<-Nat.pow_succ];refine Nat.div_eq_of_lt (PJ hb ?_);have:(32:Nat)^13<=32^(13+m).succ:=Nat.pow_le_pow_right (by decide) (by omega);exact Qa (by decide) this
  rw[this,X1,a];rfl
theorem uV{mask b:Nat}(a:Mask mask)(hb:b<2^64){j:Nat}(d:j<=mask):∃m,m<=13+mask/\(run mask b m).1=j:=by
 obtain⟨m,e,c⟩:=xb a.full (F9 mask b 13) (show j<mask+1 by omega);exact⟨13+m,by omega,by rw[yU hb];exact c⟩
noncomputable def i7(mask:Nat)(p:Sk):Sk:=if 0<p.more then{p with more:=p.more-1,j:=p.j+1}else{p with j:=(Th mask p.i p.perturb).1,more:=Qe mask (Th mask p.i p.perturb).1-(Th mask p.i p.perturb).1,i:=(Th mask p.i p.perturb).1,perturb:=(Th mask p.i p.perturb).2}
noncomputable def begin(mask b:Nat):Sk:={j:=b%(mask+1),more:=Qe mask (b%(mask+1))-b%(mask+1),i:=b%(mask+1),perturb:=b,dummy:=Pb}
noncomputable def bP(mask b:Nat):Nat->Sk
 |0=>begin mask b|n+1=>i7 mask (bP mask b n)
noncomputable def jK(mask b m:Nat):Sk:={j:=(run mask b m).1,more:=Qe mask (run mask b m).1-(run mask b m).1,i:=(run mask b m).1,perturb:=(run mask b m).2,dummy:=Pb}
theorem more_le(mask i:Nat):Qe mask i-i<=9:=by
 unfold Qe;split<;>omega
theorem oV{mask b n:Nat}{p:Sk}(h:bP mask b n=p):∀o,o<=p.more->bP mask b (n+o)={p with j:=p.j+o,more:=p.more-o}
 |0,_=>by rw[X1,h];rfl|o+1,c=>by
  have a:=oV h o (by omega);show i7 mask (bP mask b (n+o))=_;rw[a];unfold i7;have:p.more-o>0:=by omega
  rw[if_pos (show(({p with j:=p.j+o,more:=p.more-o}:Sk)).more>0 from this)];show({p with j:=p.j+o+1,more:=p.more-o-1}:Sk)={p with j:=p.j+(o+1),more:=p.more-(o+1)};rw[TN,Nat.sub_sub]
theorem uW(mask b:Nat):∀m,∃n,n<=10*m/\bP mask b n=jK mask b m
 |0=>⟨0,Pq _,rfl⟩|m+1=>by
  obtain⟨n,d,a⟩:=uW mask b m;have c:=more_le mask (run mask b m).1;refine⟨n+(jK mask b m).more+1,by show n+(Qe mask (run mask b m).1-(run mask b m).1)+1<=_;omega,?_⟩;show i7 mask (bP mask b (n+(jK mask b m).more))=_;rw[oV a _ (Pq _)];unfold i7;rw[if_neg (by show¬(jK mask b m).more-(jK mask b m).more>0;omega)];rfl
theorem Cq{mask b:Nat}(c:Mask mask)(hb:b<2^64){j:Nat}(a:j<=mask):∃n,n<10*RK mask/\(bP mask b n).j=j:=by
 obtain⟨m,g,e⟩:=uV c hb a;obtain⟨n,f,d⟩:=uW mask b m;refine⟨n,by unfold RK;omega,?_⟩;rw[d];exact e
theorem xf(mask b n:Nat):(bP mask b n).dummy=Pb:=by induction n with
 |zero=>rfl|succ n a=>
  show(i7 mask (bP mask b n)).dummy=Pb;unfold i7;split<;>exact a
theorem yV(mask b n:Nat):(bP mask b n).j+(bP mask b n).more<=mask/\(bP mask b n).i<=mask:=by
 have start:∀i,i<=mask->i+(Qe mask i-i)<=mask:=λi hi=>by
  unfold Qe;split<;>omega
 induction n with
 |zero=>
  have lt:b%(mask+1)<=mask:=X2 (Wh _ (U6 _));exact⟨start _ lt,lt⟩|succ n a=>
  show(i7 mask (bP mask b n)).j+(i7 mask (bP mask b n)).more<=mask/\(i7 mask (bP mask b n)).i<=mask;unfold i7;split;.exact⟨by show(bP mask b n).j+1+((bP mask b n).more-1)<=mask;omega,a.2⟩
  .have lt:(Th mask (bP mask b n).i (bP mask b n).perturb).1<=mask:=X2 (Wh _ (U6 _));exact⟨start _ lt,lt⟩
end ST
end
section
namespace ST
open PySem
noncomputable def a_(l:List Nat):Prop:=l.Pairwise (·<·)
theorem a_.get{l:List Nat}(h:a_ l){i j x y:Nat}(hi:l[i]?=O7 x)(d:l[j]?=O7 y)(c:i<j):x<y:=by
 obtain⟨a,rfl⟩:=List.getElem?_eq_some_iff.mp hi;obtain⟨b,rfl⟩:=List.getElem?_eq_some_iff.mp d;exact List.pairwise_iff_getElem.mp h i j a b c
theorem lr{xs:Array Nat}{j:Nat}(h:a_ xs.toList):∀(fuel lo hi:Nat),hi-lo<=fuel->lo<=hi->hi<=xs.size->(∀i x,i<lo->xs[i]?=O7 x->x<j)->(∀i x,hi<=i->xs[i]?=O7 x->j<=x)->∃p,X3 xs j fuel lo hi=p/\p<=xs.size/\(∀i x,i<p->xs[i]?=O7 x->x<j)/\∀i x,p<=i->xs[i]?=O7 x->j<=x
 |0,lo,hi,q,o,k,f,d=>⟨lo,rfl,by omega,f,λi x b e=>d i x (by omega) e⟩|fuel+1,lo,hi,q,o,k,f,d=>by
  unfold X3;by_cases c:lo<hi
  .rw[if_pos c];have r:(lo+hi)/2<hi:=by omega
   have n:lo<=(lo+hi)/2:=by omega
   have a:(lo+hi)/2<xs.size:=by omega
   have eD:xs.getD ((lo+hi)/2) j=xs[(lo+hi)/2]:=by simp[XH,a]
   have m:xs.toList[(lo+hi)/2]?=O7 xs[(lo+hi)/2]:=by simp[a]
   simp only[eD];by_cases l:xs[(lo+hi)/2]<j
   .rw[if_pos l];refine lr h fuel ((lo+hi)/2+1) hi (by omega) (by omega) k (λi x b e=>?_) d;by_cases g:i=(lo+hi)/2
    .subst g;have:x=xs[(lo+hi)/2]:=by rw[Pz a]at e;exact(Pm e).symm
     omega
    .have:x<xs[(lo+hi)/2]:=h.get (i:=i) (j:=(lo+hi)/2) (by simpa using e) m (by omega);omega
   .rw[if_neg l];refine lr h fuel lo ((lo+hi)/2) (by omega) (by omega) (by omega) f (λi x b e=>?_);by_cases g:i=(lo+hi)/2
    .subst g;have:x=xs[(lo+hi)/2]:=by rw[Pz a]at e;exact(Pm e).symm
     omega
    .have:xs[(lo+hi)/2]<x:=h.get (i:=(lo+hi)/2) (j:=i) m (by simpa using e) (by omega);omega
  .rw[if_neg c];exact⟨lo,rfl,by omega,f,λi x b e=>d i x (by omega) e⟩
theorem fT{xs:Array Nat}(h:a_ xs.toList)(j:Nat):PB xs j<=xs.size/\(∀i x,i<PB xs j->xs[i]?=O7 x->x<j)/\∀i x,PB xs j<=i->xs[i]?=O7 x->j<=x:=by
 obtain⟨p,e,r⟩:=lr h (j:=j) xs.size 0 xs.size (by omega) (Qb _) (Pq _) (λi x hi=>absurd hi (R8 _)) (λi x hi e=>absurd (Array.getElem?_eq_some_iff.mp e).1 (by omega));have:PB xs j=p:=e;rw[this];exact r
theorem below_at{xs:Array Nat}(h:a_ xs.toList){i j:Nat}(hi:xs[i]?=O7 j):PB xs j=i:=by
 obtain⟨_,d,b⟩:=fT h j;rcases Sy (PB xs j) i with c|c|c
 .have a:PB xs j<xs.size:=U5 c (Array.getElem?_eq_some_iff.mp hi).1;have e:xs[PB xs j]?=O7 xs[PB xs j]:=Pz a;have:=b _ _ (Pq _) e;have:=h.get (i:=PB xs j) (j:=i) (x:=xs[PB xs j]) (y:=j) (by simp[a]) (by simpa using hi) c;omega
 .exact c
 .have:=d i j c hi;omega
theorem xg{t:QX}(h:a_ t.place.toList){i j:Nat}(hi:t.place[i]?=O7 j):t.slot j=.live i:=by
 unfold SetTable.slot;rw[below_at h hi];simp[hi]
theorem tO{t:QX}(h:a_ t.place.toList)(hd:t.dummies=#[]){j:Nat}(a:∀i:Nat,t.place[i]?≠O7 j):t.slot j=.empty:=by
 unfold SetTable.slot;have c:(t.place[PB t.place j]?==O7 j)=Pc:=by cases e:t.place[PB t.place j]? with
  |none=>rfl|some x=>
   have:x≠j:=λz=>a _ (by rw[e,z]);simpa using this
 have b:SetTable.has t.dummies j=Pc:=by rw[hd];rfl
 simp[c,b]
theorem eU{a:Type}(xs:Array a)(p:Nat)(x:a)(b:p<=xs.size):(Qt xs p x).toList=xs.toList.take p++x::xs.toList.drop p:=by
 unfold Qt;simp[SS]
theorem nh{xs:Array Nat}(h:a_ xs.toList){j:Nat}(m:∀i:Nat,xs[i]?≠O7 j):a_ (Qt xs (PB xs j) j).toList:=by
 obtain⟨g,n,f⟩:=fT h j;rw[eU _ _ _ g];unfold a_;rw[W3,List.pairwise_cons];refine⟨h.sublist (XW _ _),⟨λy l=>?_,h.sublist (List.drop_sublist _ _)⟩,λa ha b hb=>?_⟩
 .obtain⟨i,hi⟩:=List.mem_iff_getElem?.mp l;rw[Vm]at hi;have d:xs[PB xs j+i]?=O7 y:=by simpa using hi
  have:=f _ y (TF _ _) d;have:y≠j:=λz=>m _ (by rw[d,z]);omega
 .obtain⟨i,hi⟩:=List.mem_iff_getElem?.mp ha;have c:i<PB xs j:=by
   have:=(List.getElem?_eq_some_iff.mp hi).1;simp at this;omega
  rw[TL c]at hi;have o:=n i a c (by simpa using hi);rcases List.mem_cons.mp hb with rfl|hb;.exact o
  .obtain⟨k,e⟩:=List.mem_iff_getElem?.mp hb;rw[Vm]at e;have:=f _ b (TF _ _) (show xs[PB xs j+k]?=O7 b by simpa using e);omega
end ST
end
section
namespace ST
open PySem
structure qJ(t:QX)(hs:List Int):Prop where
 mask:Mask t.mask
 rise:a_ t.place.toList
 J_:t.dummies=#[]len:t.place.size=hs.length
 low:∀(i j:Nat),t.place[i]?=O7 j->j<=t.mask
 Ji:hs.length<=t.mask
 way:∀(i:Nat)(h:Int)(j:Nat),hs[i]?=O7 h->t.place[i]?=O7 j->∃n,(bP t.mask (PD h) n).j=j/\∀m,m<n->∃i':Nat,t.place[i']?=O7 (bP t.mask (PD h) m).j
theorem uX(h:Int):PD h<2^64:=by
 unfold PD;have a:=T2 h (show(2^64:Int)≠0 by decide);have b:=SU h (show(0:Int)<2^64 by decide);have:((h%2^64).toNat:Int)=h%2^64:=Int.toNat_of_nonneg a;have e:((2^64:Nat):Int)=(2^64:Int):=by decide
 omega
theorem j4{l:List Nat}(h:a_ l):∀k,(∀j,j<=k->∃i:Nat,l[i]?=O7 j)->∃i,k<=i/\l[i]?=O7 k
 |0,f=>by obtain⟨i,hi⟩:=f 0 (Pq _);exact⟨i,Qb _,hi⟩|k+1,f=>by
  obtain⟨i,g,d⟩:=j4 h k λj e=>f j (by omega);obtain⟨b,a⟩:=f (k+1) (Pq _);refine⟨b,?_,a⟩;rcases Sy i b with c|c|c;.omega
  .subst c;rw[d]at a;cases a
  .have:=h.get a d c;omega
theorem qJ.room{t:QX}{hs:List Int}(T:qJ t hs):∃j,j<=t.mask/\∀i:Nat,t.place[i]?≠O7 j:=by
 by_cases b:∃j,j<=t.mask/\∀i:Nat,t.place[i]?≠O7 j;.exact b
 .exfalso;have all:∀j,j<=t.mask->∃i:Nat,t.place.toList[i]?=O7 j:=λj c=>by
   by_cases a:∃i:Nat,t.place[i]?=O7 j;.obtain⟨i,hi⟩:=a;exact⟨i,by simpa using hi⟩
   .exact(b ⟨j,c,λi hi=>a ⟨i,hi⟩⟩).elim
  obtain⟨i,e,d⟩:=j4 T.rise t.mask all;have:i<t.place.size:=by
   have:=(List.getElem?_eq_some_iff.mp d).1;simpa using this
  have:=T.len;have:=T.Ji;omega
noncomputable def bj(t:QX)(h:Int)(N:Nat):Prop:=(∀i:Nat,t.place[i]?≠O7 (bP t.mask (PD h) N).j)/\∀m,m<N->∃i:Nat,t.place[i]?=O7 (bP t.mask (PD h) m).j
theorem qJ.first{t:QX}{hs:List Int}(T:qJ t hs)(h:Int):∃N,N<10*RK t.mask/\bj t h N:=by
 obtain⟨j,l,g⟩:=T.room;obtain⟨n,b,a⟩:=Cq T.mask (uX h) l;have ex:∃n,n<10*RK t.mask/\∀i:Nat,t.place[i]?≠O7 (bP t.mask (PD h) n).j:=⟨n,b,λi=>by rw[a];exact g i⟩;clear b a g;obtain⟨n,b,a⟩:=ex;induction n using Nat.strongRecOn with|ind n k=>
  by_cases f:∃m,m<n/\∀i:Nat,t.place[i]?≠O7 (bP t.mask (PD h) m).j
  .obtain⟨m,d,c⟩:=f;exact k m d (by omega) c
  .refine⟨n,b,a,λm d=>?_⟩;by_cases e:∃i:Nat,t.place[i]?=O7 (bP t.mask (PD h) m).j;.exact e
   .exact(f ⟨m,d,λi hi=>e ⟨i,hi⟩⟩).elim
theorem qK{t:QX}{hs:List Int}(T:qJ t hs){h:Int}{N:Nat}(F:bj t h N)(Wj:Nat->Int):∀(fuel n:Nat),n<=N->N<n+fuel->(∃f i,n<=f/\f<N/\t.place[i]?=O7 (bP t.mask (PD h) f).j/\Wj i=h/\(∀m,n<=m->m<f->∀k:Nat,t.place[k]?=O7 (bP t.mask (PD h) m).j->Wj k≠h)/\VA t Wj h fuel (bP t.mask (PD h) n)=O7 (.candidate (bP t.mask (PD h) f).j i (bP t.mask (PD h) (f+1))))\/((∀m,n<=m->m<N->∀k:Nat,t.place[k]?=O7 (bP t.mask (PD h) m).j->Wj k≠h)/\VA t Wj h fuel (bP t.mask (PD h) n)=O7 (.empty (bP t.mask (PD h) N).j Pb))
 |0,n,u,s=>by omega|fuel+1,n,u,s=>by
  unfold VA;by_cases q:n=N
  .subst q;refine .inr ⟨λm a b=>by omega,?_⟩;rw[tO T.rise T.J_ F.1];simp only[xf]
  .obtain⟨i,hi⟩:=F.2 n (by omega);rw[xg T.rise hi];by_cases l:Wj i=h
   .refine .inl ⟨n,i,Pq _,by omega,hi,l,λm a b=>by omega,?_⟩;simp only[l,beq_self_eq_true,if_true];rfl
   .have hb:(Wj i==h)=Pc:=by simpa using l
    simp only[hb,P4,if_false];have one:∀k:Nat,t.place[k]?=O7 (bP t.mask (PD h) n).j->Wj k≠h:=λk r=>by
     have:k=i:=by rw[<-below_at T.rise r,below_at T.rise hi]
     rw[this];exact l
    rcases qK T F Wj fuel (n+1) (by omega) (by omega)with⟨f,p,a,b,c,d,e,g⟩|⟨e,g⟩;.exact .inl ⟨f,p,by omega,b,c,d,λm x y=>by
      by_cases o:m=n;.subst o;exact one
      .exact e m (by omega) y,g⟩
    .exact .inr ⟨λm x y=>by
      by_cases o:m=n;.subst o;exact one
      .exact e m (by omega) y,g⟩
theorem qJ.put{t:QX}{hs:List Int}(T:qJ t hs){h:Int}{N:Nat}(F:bj t h N)(w:hs.length+1<=t.mask):(t.put (bP t.mask (PD h) N).j).2<=hs.length/\qJ (t.put (bP t.mask (PD h) N).j).1 (hs.take (t.put (bP t.mask (PD h) N).j).2++h::hs.drop (t.put (bP t.mask (PD h) N).j).2):=by
 have hd:SetTable.has t.dummies (bP t.mask (PD h) N).j=Pc:=by rw[T.J_];rfl
 generalize B:(bP t.mask (PD h) N).j=J at*;obtain⟨z,b1,H⟩:=fT T.rise J;have D:(t.put J).2=PB t.place J:=rfl;have G:(t.put J).1={t with place:=Qt t.place (PB t.place J) J}:=by
  unfold SetTable.put;simp[hd]
 have C:=F.1;rw[B]at C;have u:(Qt t.place (PB t.place J) J).toList=t.place.toList.take (PB t.place J)++J::t.place.toList.drop (PB t.place J):=eU _ _ _ z;have p:∀(i j:Nat),t.place[i]?=O7 j->∃f:Nat,(Qt t.place (PB t.place J) J)[f]?=O7 j:=λi j hi=>by
  have o:j∈(Qt t.place (PB t.place J) J).toList:=by
   rw[u];have:j∈t.place.toList:=Qd (i:=i) (by simpa using hi);rw[<-RV (PB t.place J) t.place.toList]at this;rcases List.mem_append.mp this with q|q;.exact Qk _ q
   .exact PK _ (Po _ q)
  obtain⟨f,y⟩:=List.mem_iff_getElem?.mp o;exact⟨f,by simpa using y⟩
 refine⟨by rw[D,<-T.len];exact z,?_⟩;rw[D,G];have A:t.place.toList.length=hs.length:=by simpa using T.len
 refine⟨T.mask,nh T.rise C,T.J_,?_,λi j hi=>?_,?_,λi g j hi E=>?_⟩
 .have:=congrArg RZ u;simp only[P6,Tz,PM,UG]at this⊢;rw[<-QO];omega
 .have o:j∈(Qt t.place (PB t.place J) J).toList:=Qd (i:=i) (by simpa using hi);rw[u]at o;have:j∈t.place.toList\/j=J:=by
   rcases List.mem_append.mp o with q|q;.exact .inl (W4 q)
   .rcases List.mem_cons.mp q with q|q;.exact .inr q
    .exact .inl (W5 q)
  rcases this with q|q
  .obtain⟨k,x⟩:=List.mem_iff_getElem?.mp q;exact T.low k j (by simpa using x)
  .have:=(yV t.mask (PD h) N).1;show j<=t.mask;omega
 .show(hs.take (PB t.place J)++h::hs.drop (PB t.place J)).length<=t.mask;simp only[P6,Tz,PM,UG];omega
 .have e:(t.place.toList.take (PB t.place J)++J::t.place.toList.drop (PB t.place J))[i]?=O7 j:=by rw[<-u];simpa using E
  have s:(t.place.toList.take (PB t.place J)).length=PB t.place J:=by simp;omega
  have r:(hs.take (PB t.place J)).length=PB t.place J:=by simp;have:=T.len;omega
  have l:∀(g:Int)(j i:Nat),hs[i]?=O7 g->t.place[i]?=O7 j->∃n,(bP t.mask (PD g) n).j=j/\∀m,m<n->∃f:Nat,(Qt t.place (PB t.place J) J)[f]?=O7 (bP t.mask (PD g) m).j:=λg j i a b=>by
   obtain⟨n,c,d⟩:=T.way i g j a b;exact⟨n,c,λm o=>by obtain⟨f,q⟩:=d m o;exact p f _ q⟩
  rcases Sy i (PB t.place J)with c|c|c
  .rw[QP (by omega)]at hi e;rw[TL c]at hi e;exact l g j i hi (by simpa using e)
  .rw[Qh (by omega),r,c,Nat.sub_self]at hi;rw[Qh (by omega),s,c,Nat.sub_self]at e;simp at hi e;subst hi e;exact⟨N,B,λm o=>by obtain⟨f,q⟩:=F.2 m o;exact p f _ q⟩
  .rw[Qh (by omega),r]at hi;rw[Qh (by omega),s]at e;obtain⟨k,x⟩:∃k,i=PB t.place J+1+k:=⟨i-PB t.place J-1,by omega⟩;subst x;rw[show PB t.place J+1+k-PB t.place J=k+1 by omega]at hi e;rw[R5,Vm]at hi e;exact l g j _ hi (by simpa using e)
end ST
end
section
namespace ST
open PySem
theorem ek:∀(k:Nat)(l:List Nat),l.Nodup->(∀x∈l,x<k)->l.length<=k
 |0,[],_,_=>Pq _|0,x::_,_,h=>absurd (h x Pn) (R8 _)|k+1,l,b,h=>by
  by_cases c:k∈l
  .have:=ek k (l.erase k) (b.erase k) λx a=>by
    have f:=h x (List.mem_of_mem_erase a);have d:x≠k:=λe=>by
     subst e;exact(List.Nodup.not_mem_erase b) a
    omega
   rw[TU c]at this;omega
  .have:=ek k l b λx a=>by
    have f:=h x a;have d:x≠k:=λe=>c (e▸a);omega
   omega
theorem nK:∀(k:Nat)(l:List Nat),(∀x,x<k->x∈l)->k<=l.length
 |0,_,_=>Qb _|k+1,l,h=>by
  have a:k∈l:=h k (SJ _);have:=nK k (l.erase k) λx b=>(W6 (by omega)).mpr (h x (by omega));rw[TU a]at this;have:=Wl a;omega
structure Cr(mask:Nat)(hs:List Int)(owner:Array (Option Nat))(k:Nat):Prop where
 size:owner.size=mask+1
 has:∀i,i<k->∃j:Nat,owner[j]?=O7 (O7 i)low:∀(j i:Nat),owner[j]?=O7 (O7 i)->i<k
 one:∀(j j' i:Nat),owner[j]?=O7 (O7 i)->owner[j']?=O7 (O7 i)->j=j'
 way:∀(j i:Nat)(h:Int),owner[j]?=O7 (O7 i)->hs[i]?=O7 h->∃n,(bP mask (PD h) n).j=j/\∀m,m<n->∃i':Nat,owner[(bP mask (PD h) m).j]?=O7 (O7 i')
theorem Cr.room{mask k:Nat}{hs:List Int}{owner:Array (Option Nat)}(O:Cr mask hs owner k)(q:k<=mask):∃j,j<=mask/\owner[j]?=O7 Pb:=by
 by_cases a:∃j,j<=mask/\owner[j]?=O7 Pb;.exact a
 .exfalso;have all:∀j,j<=mask->∃i,owner[j]?=O7 (O7 i):=λj b=>by
   have f:j<owner.size:=by rw[O.size];omega
   cases e:owner[j]with
   |none=>exact(a ⟨j,b,by rw[Pz f,e]⟩).elim|some i=>exact⟨i,by rw[Pz f,e]⟩
  have key:∀n,n<=mask+1->∃l:List Nat,l.length=n/\l.Nodup/\(∀x∈l,x<k)/\∀x∈l,∃j,j<n/\owner[j]?=O7 (O7 x):=λn=>by induction n with
   |zero=>exactλ_=>⟨[],rfl,.nil,(λx a=>absurd a (by simp)),(λx a=>absurd a (by simp))⟩|succ n m=>
    intro p;obtain⟨l,h,d,c,g⟩:=m (by omega);obtain⟨i,hi⟩:=all n (by omega);refine⟨i::l,by simp[h],List.nodup_cons.mpr ⟨λo=>?_,d⟩,λx a=>?_,λx a=>?_⟩
    .obtain⟨j,b,e⟩:=g i o;have:=O.one j n i e hi;omega
    .rcases List.mem_cons.mp a with rfl|a;.exact O.low _ _ hi
     .exact c x a
    .rcases List.mem_cons.mp a with rfl|a;.exact⟨n,by omega,hi⟩
     .obtain⟨j,b,e⟩:=g x a;exact⟨j,by omega,e⟩
  obtain⟨l,h,d,c,_⟩:=key (mask+1) (Pq _);have:=ek k l d c;omega
theorem uY{mask:Nat}(A:Mask mask){b:Nat}{owner:Array (Option Nat)}(w:owner.size=mask+1){ms:Nat}(p:owner[(run mask b ms).1]?=O7 Pb):∀(fuel m n:Nat),m<=ms->ms<m+fuel->bP mask b n=jK mask b m->(∀q,q<n->∃t:Nat,owner[(bP mask b q).j]?=O7 (O7 t))->∃N,SV mask owner fuel (run mask b m).1 (run mask b m).2=O7 (bP mask b N).j/\owner[(bP mask b N).j]?=O7 Pb/\∀q,q<N->∃t:Nat,owner[(bP mask b q).j]?=O7 (O7 t)
 |0,m,n,C,B,_,_=>by omega|fuel+1,m,n,C,B,y,x=>by
  unfold SV;have pos:∀o,o<=Qe mask (run mask b m).1-(run mask b m).1->(bP mask b (n+o)).j=(run mask b m).1+o:=λo f=>by
   rw[oV y o f];rfl
  have h:∀o,o<=Qe mask (run mask b m).1-(run mask b m).1->(run mask b m).1+o<owner.size:=λo f=>by
   have:=(yV mask b (n+o)).1;rw[<-pos o f,w];omega
  have gd:∀o,o<=Qe mask (run mask b m).1-(run mask b m).1->((owner.getD ((run mask b m).1+o) (O7 0)).isNone=Pa↔owner[(run mask b m).1+o]?=O7 Pb):=λo f=>by
   have a:=h o f;simp[XH,a]
  have D:Qe mask (run mask b m).1+1-(run mask b m).1=Qe mask (run mask b m).1-(run mask b m).1+1:=by
   have:(run mask b m).1<=Qe mask (run mask b m).1:=by unfold Qe;split<;>omega
   omega
  rw[D];cases s:(Qg (Qe mask (run mask b m).1-(run mask b m).1+1)).find? λk=>(owner.getD ((run mask b m).1+k) (O7 0)).isNone with
  |some o=>
   have f:o<=Qe mask (run mask b m).1-(run mask b m).1:=by
    have:=List.mem_range.mp (Vt s);omega
   have hb:=List.find?_some s;refine⟨n+o,by simp only[pos o f],?_,λq u=>?_⟩;.rw[pos o f];exact(gd o f).mp hb
   .by_cases a:q<n;.exact x q a
    .obtain⟨c,rfl⟩:∃c,q=n+c:=⟨q-n,by omega⟩;have d:c<=Qe mask (run mask b m).1-(run mask b m).1:=by omega
     rw[pos c d];have g:=h c d;cases e:owner[(run mask b m).1+c]with
     |some i=>exact⟨i,by rw[Pz g,e]⟩|none=>
      exfalso;have v:(owner.getD ((run mask b m).1+c) (O7 0)).isNone=Pa:=(gd c d).mpr (by rw[Pz g,e]);have:=(List.find?_range_eq_some.mp s).2.2 c (by omega);rw[v]at this;cases this
  |none=>
   have r:=List.find?_eq_none.mp s;have l:∀o,o<=Qe mask (run mask b m).1-(run mask b m).1->∃i:Nat,owner[(run mask b m).1+o]?=O7 (O7 i):=λo f=>by
    have a:=h o f;cases e:owner[(run mask b m).1+o]with
    |some i=>exact⟨i,by rw[Pz a,e]⟩|none=>exact absurd ((gd o f).mpr (by rw[Pz a,e])) (r o (List.mem_range.mpr (by omega)))
   have z:m≠ms:=λe=>by
    subst e;obtain⟨i,hi⟩:=l 0 (Qb _);rw[X1,p]at hi;cases hi
   have nx:bP mask b (n+(jK mask b m).more+1)=jK mask b (m+1):=by
    show i7 mask (bP mask b (n+(jK mask b m).more))=_;rw[oV y _ (Pq _)];unfold i7;rw[if_neg (by show¬(jK mask b m).more-(jK mask b m).more>0;omega)];rfl
   refine uY A w p fuel (m+1) (n+(jK mask b m).more+1) (by omega) (by omega) nx λq u=>?_;by_cases a:q<n;.exact x q a
   .obtain⟨c,rfl⟩:∃c,q=n+c:=⟨q-n,by omega⟩;have d:c<=Qe mask (run mask b m).1-(run mask b m).1:=by
     have:(jK mask b m).more=Qe mask (run mask b m).1-(run mask b m).1:=rfl;omega
    rw[pos c d];exact l c d
theorem Cr.lay{mask k:Nat}(A:Mask mask){hs:List Int}{owner:Array (Option Nat)}(O:Cr mask hs owner k)(E:k<=mask){h:Int}(F:hs[k]?=O7 h):∃j,SV mask owner (RK mask) (PD h%(mask+1)) (PD h)=O7 j/\Cr mask hs (owner.setIfInBounds j (O7 k)) (k+1):=by
 obtain⟨j0,w,L⟩:=O.room E;obtain⟨ms,M,H⟩:=uV A (uX h) w;obtain⟨N,K,B,I⟩:=uY A (b:=PD h) O.size (ms:=ms) (by rw[H];exact L) (RK mask) 0 0 (Qb _) (by unfold RK;omega) rfl (λq D=>absurd D (R8 _));refine⟨_,K,?_⟩;generalize G:(bP mask (PD h) N).j=J at*;have p:J<owner.size:=(Array.getElem?_eq_some_iff.mp B).1;have o:(owner.setIfInBounds J (O7 k))[J]?=O7 (O7 k):=by simp[p]
 have l:∀j:Nat,j≠J->(owner.setIfInBounds J (O7 k))[j]?=owner[j]?:=λj f=>by
  rw[U0];rw[if_neg (Q9 f)]
 have d:∀(j i:Nat),(owner.setIfInBounds J (O7 k))[j]?=O7 (O7 i)->(j=J/\i=k)\/(j≠J/\owner[j]?=O7 (O7 i)):=λj i e=>by
  by_cases f:j=J
  .subst f;rw[o]at e;exact .inl ⟨rfl,(Pm (Pm e)).symm⟩
  .rw[l j f]at e;exact .inr ⟨f,e⟩
 have keep:∀(j i:Nat),owner[j]?=O7 (O7 i)->∃t:Nat,(owner.setIfInBounds J (O7 k))[j]?=O7 (O7 t):=λj i e=>by
  by_cases f:j=J;.subst f;exact⟨k,o⟩
  .exact⟨i,by rw[l j f];exact e⟩
 refine⟨by simp[O.size],λi hi=>?_,λj i e=>?_,λj s i e C=>?_,λj i g e y=>?_⟩
 .by_cases x:i=k;.subst x;exact⟨J,o⟩
  .obtain⟨j,f⟩:=O.has i (by omega);have u:j≠J:=λz=>by subst z;rw[B]at f;cases f
   exact⟨j,by rw[l j u];exact f⟩
 .rcases d j i e with⟨_,rfl⟩|⟨_,q⟩;.omega
  .have:=O.low j i q;omega
 .rcases d j i e with⟨rfl,rfl⟩|⟨_,q⟩
  .rcases d s i C with⟨rfl,_⟩|⟨_,r⟩;.rfl
   .exact absurd (O.low _ _ r) (Qf _)
  .rcases d s i C with⟨rfl,rfl⟩|⟨_,r⟩;.exact absurd (O.low _ _ q) (Qf _)
   .exact O.one j s i q r
 .rcases d j i e with⟨rfl,rfl⟩|⟨_,q⟩
  .rw[F]at y;cases y;exact⟨N,G,λm v=>by obtain⟨t,z⟩:=I m v;exact keep _ _ z⟩
  .obtain⟨n,a,c⟩:=O.way j i g q y;exact⟨n,a,λm v=>by obtain⟨t,z⟩:=c m v;exact keep _ _ z⟩
noncomputable def Ct(mask:Nat)(b:Option (Array (Option Nat)×Nat))(h:Int):Option (Array (Option Nat)×Nat):=do
 let(a,k)<-b;let j<-SV mask a (RK mask) (PD h%(mask+1)) (PD h)pure (a.setIfInBounds j (O7 k),k+1)
theorem qL(mask:Nat)(a:Array Int):VB mask a=(a.toList.foldl (Ct mask) (O7 (Array.replicate (mask+1) Pb,0))).map (·.1):=by
 unfold VB;rw[<-Array.foldl_toList];rfl
theorem qM{mask:Nat}(d:Mask mask){hs:List Int}(f:hs.length<=mask):∀(r:List Int)(k:Nat)(owner:Array (Option Nat)),hs.drop k=r->k<=hs.length->Cr mask hs owner k->∃a,r.foldl (Ct mask) (O7 (owner,k))=O7 (a,hs.length)/\Cr mask hs a hs.length
 |[],k,owner,e,b,O=>by
  have c:hs.length<=k:=List.drop_eq_nil_iff.mp e;have:k=hs.length:=by omega
  subst this;exact⟨owner,rfl,O⟩|h::r,k,owner,e,b,O=>by
  have c:k<hs.length:=by
   have:=congrArg RZ e;simp at this;omega
  have g:hs[k]?=O7 h:=by
   have:=congrArg (λl=>l[0]?) e;simpa using this
  obtain⟨j,o,n⟩:=O.lay d (by omega) g;have p:hs.drop (k+1)=r:=by
   have:=congrArg List.tail e;simpa using this
  obtain⟨a,m,i⟩:=qM d f r (k+1) _ p c n;refine⟨a,?_,i⟩;rw[List.foldl_cons];have:Ct mask (O7 (owner,k)) h=O7 (owner.setIfInBounds j (O7 k),k+1):=by simp[Ct,o]
  rw[this];exact m
theorem qN{mask:Nat}(b:Mask mask){hs:List Int}(a:hs.length<=mask):∃owner,VB mask hs.toArray=O7 owner/\Cr mask hs owner hs.length:=by
 have f:Cr mask hs (Array.replicate (mask+1) Pb) 0:=by
  refine⟨by simp,λi hi=>absurd hi (R8 _),λj i e=>?_,λj g i e=>?_,λj i h e=>?_⟩;all_goals
   rw[Array.getElem?_replicate]at e;split at e<;>cases e
 obtain⟨owner,d,c⟩:=qM b a hs 0 _ rfl (Qb _) f;exact⟨owner,by rw[qL];simp[d],c⟩
noncomputable def aY(owner:Array (Option Nat)):List Nat->List (Nat×Nat)
 |[]=>[]|j::r=>match owner.getD j Pb with
  |some i=>(j,i)::aY owner r|none=>aY owner r
theorem uZ(owner:Array (Option Nat)):∀l:List Nat,(l.filterMap λj=>(owner.getD j Pb).map (j,·))=aY owner l
 |[]=>rfl|j::r=>by
  rw[Rf];unfold aY;have a:=uZ owner r;cases e:owner.getD j Pb with
  |none=>exact a|some i=>exact congrArg (List.cons (j,i)) a
theorem fU{owner:Array (Option Nat)}:∀{l:List Nat}{p:Nat×Nat},p∈aY owner l↔p.1∈l/\owner.getD p.1 Pb=O7 p.2
 |[],p=>by simp[aY]|j::r,p=>by
  unfold aY;cases e:owner.getD j Pb with
  |none=>
   simp only[];rw[fU];constructor;.rintro⟨a,b⟩;exact⟨Po _ a,b⟩
   .rintro⟨a,b⟩;rcases List.mem_cons.mp a with z|z;.rw[z,e]at b;cases b
    .exact⟨z,b⟩|some i=>
   simp only[];rw[Sf,fU];constructor
   .rintro(z|⟨a,b⟩);.rw[z];exact⟨Pn,e⟩
    .exact⟨Po _ a,b⟩
   .rintro⟨a,b⟩;rcases List.mem_cons.mp a with z|z
    .left;rw[z,e]at b;cases b;exact Prod.ext z rfl
    .exact .inr ⟨z,b⟩
theorem et{owner:Array (Option Nat)}:∀{l:List Nat},a_ l->a_ ((aY owner l).map (·.1))
 |[],_=>by simp[aY,a_]|j::r,h=>by
  have a:a_ r:=(List.pairwise_cons.mp h).2;unfold aY;cases e:owner.getD j Pb with
  |none=>exact et a|some i=>
   show a_ (j::(aY owner r).map (·.1));refine List.pairwise_cons.mpr ⟨λy b=>?_,et a⟩;obtain⟨p,c,rfl⟩:=List.mem_map.mp b;exact(List.pairwise_cons.mp h).1 _ (fU.mp c).1
theorem getD_at{owner:Array (Option Nat)}{j i:Nat}:owner.getD j Pb=O7 i↔owner[j]?=O7 (O7 i):=by
 by_cases h:j<owner.size;.simp[XH,h]
 .simp[XH,h]
theorem Cu{mask finger moves:Nat}{led plain:Bool}(B:Mask mask){hs:List Int}(G:hs.length<=mask):∃(t:QX)(O:List Nat),SetTable.laid mask finger moves led plain hs.toArray=O7 (t,O.toArray)/\t.mask=mask/\t.led=led/\t.plain=plain/\O.Nodup/\O.length=hs.length/\(∀i,i∈O↔i<hs.length)/\∀c:List Int,c.length=O.length->(∀(k i:Nat)(h:Int),O[k]?=O7 i->hs[i]?=O7 h->c[k]?=O7 h)->qJ t c:=by
 obtain⟨owner,M,d⟩:=qN B G;have w:a_ (Qg (mask+1)):=List.pairwise_lt_range;have o:∀p∈aY owner (Qg (mask+1)),owner[p.1]?=O7 (O7 p.2):=λp l=>getD_at.mp (fU.mp l).2;have lv:∀(j i:Nat),owner[j]?=O7 (O7 i)->(j,i)∈aY owner (Qg (mask+1)):=λj i e=>by
  refine fU.mpr ⟨List.mem_range.mpr ?_,getD_at.mpr e⟩;have:=(Array.getElem?_eq_some_iff.mp e).1;rw[d.size]at this;exact this
 have mem:∀i,i∈(aY owner (Qg (mask+1))).map (·.2)↔i<hs.length:=λi=>by
  constructor
  .intro h;obtain⟨p,l,rfl⟩:=List.mem_map.mp h;exact d.low _ _ (o p l)
  .intro h;obtain⟨j,J⟩:=d.has i h;exact List.mem_map.mpr ⟨(j,i),lv j i J,rfl⟩
 have nd:((aY owner (Qg (mask+1))).map (·.2)).Nodup:=by
  have D:=et (owner:=owner) w;have f:((aY owner (Qg (mask+1))).map (·.1)).Nodup:=D.imp λh=>P5 h;rw[List.Nodup,List.pairwise_map]at f⊢;refine TV (λ{p q}l F u e=>u ?_) f;exact d.one _ _ _ (o p l) (by rw[e];exact o q F)
 have len:((aY owner (Qg (mask+1))).map (·.2)).length=hs.length:=Nat.le_antisymm (ek _ _ nd λx s=>(mem x).mp s) (nK _ _ λx s=>(mem x).mpr s);refine⟨_,(aY owner (Qg (mask+1))).map (·.2),by simp only[SetTable.laid,M,uZ];rfl,rfl,rfl,rfl,nd,len,mem,λc v K=>?_⟩;have A:∀k j:Nat,((aY owner (Qg (mask+1))).map (·.1)).toArray[k]?=O7 j->∃i,(aY owner (Qg (mask+1)))[k]?=O7 (j,i)/\owner[j]?=O7 (O7 i):=λk j e=>by
  have e:((aY owner (Qg (mask+1))).map (·.1))[k]?=O7 j:=by simpa using e
  rw[PV]at e;cases q:(aY owner (Qg (mask+1)))[k]? with
  |none=>rw[q]at e;cases e|some p=>
   rw[q]at e;cases e;exact⟨p.2,rfl,o p (Qd q)⟩
 have r:∀j i:Nat,owner[j]?=O7 (O7 i)->∃k:Nat,((aY owner (Qg (mask+1))).map (·.1)).toArray[k]?=O7 j:=λj i e=>by
  obtain⟨k,I⟩:=List.mem_iff_getElem?.mp (lv j i e);exact⟨k,by simp[I]⟩
 refine⟨B,et w,rfl,?_,λk j e=>?_,?_,λk g j L e=>?_⟩;.rw[v];simp
 .obtain⟨i,_,q⟩:=A k j e;have:=(Array.getElem?_eq_some_iff.mp q).1;rw[d.size]at this;show j<=mask;omega
 .show c.length<=mask;omega
 .obtain⟨i,E,y⟩:=A k j e;have hi:=d.low j i y;have C:c[k]?=O7 hs[i]:=K k i hs[i] (by rw[PV,E];rfl) (PN hi);rw[L]at C;cases C;obtain⟨n,a,b⟩:=d.way j i hs[i] y (PN hi);exact⟨n,a,λm H=>by obtain⟨N,z⟩:=b m H;exact r _ _ z⟩
end ST
end
section
namespace ST
open PySem PyProof.Rows
end ST
end
section
namespace ST
open PySem PyProof.Rows
section
variable{prog:PF}{w:P0}{K:Type}[DecidableEq K]{kk:PySem.KeyKind prog w K}{A:P9}{E:O_->Pe->Prop}{s:Pe}
theorem bW{a:Type}{m b:Vy a}{Q:a->Pe->Prop}(e:m=b)(h:wpAny (Py prog w) A b Q E s):wpAny (Py prog w) A m Q E s:=e▸h
theorem Cv{l d:List Nat}:l.Nodup->d.Nodup->(∀i,i∈l↔i∈d)->l.Perm d:=λa b c=>(Vn a b).mpr c
theorem xh{a:Type}(l:List a)(d:a):(Qg l.length).map (λi=>(l[i]?).getD d)=l:=by
 apply VW;.simp
 .intro i c b;simp[b]
theorem fits_of{t:QX}{hs:List Int}(T:qJ t hs){n:Nat}(e:n=hs.length):t.fits n=Pa:=by
 unfold SetTable.fits SetTable.fill;have a:=T.len;have b:=T.Ji;rw[T.J_,e];simp[a];omega+splitNatSub
end
end ST
end
section
namespace ST
open PySem PyProof.Rows
theorem qO{t:QX}{hs:List Int}(T:qJ t hs){h:Int}{N:Nat}(F:bj t h N)(hN:N<10*RK t.mask):t.freeSlot h=O7 ((bP t.mask (PD h) N).j,Pc):=by
 unfold SetTable.freeSlot;have e:t.probe (λ_=>h+1) h (t.probeStart h)=O7 (.empty (bP t.mask (PD h) N).j Pb):=by
  rcases qK T F (λ_=>h+1) (10*RK t.mask) 0 (Qb _) (by omega)with⟨a,i,_,_,_,b,_⟩|⟨_,g⟩;.omega
  .exact g
 rw[e];rfl
theorem xi{t:QX}{hs:List Int}(T:qJ t hs)(Ca:¬hs.length*5<t.mask*3)(d:(hs.length-1)*5<t.mask*3)(pos:0<hs.length)(f:hs.length<=306):∃(a:QX)(O:List Nat),t.relaid hs.toArray (W7 hs.length)=O7 (a,O.toArray)/\hs.length*5<a.mask*3/\hs.length<=a.mask/\a.led=t.led/\a.plain=t.plain/\O.Perm (Qg hs.length)/\∀b:List Int,b.length=O.length->(∀(k i:Nat)(h:Int),O[k]?=O7 i->hs[i]?=O7 h->b[k]?=O7 h)->qJ a b:=by
 obtain⟨mask,u,s,j,r,c⟩:∃mask,SetTable.sizeAbove (W7 hs.length)=mask+1/\Mask mask/\hs.length<=mask/\mask+1<=512/\hs.length*5<mask*3:=by
  rcases T.mask with e|e|e|e<;>rw[e]at Ca d
  .have:hs.length=5:=by omega
   rw[this];exact⟨31,by decide,.inr (.inl rfl),by omega,by omega,by omega⟩
  .have:hs.length=19:=by omega
   rw[this];exact⟨127,by decide,.inr (.inr (.inl rfl)),by omega,by omega,by omega⟩
  .have:hs.length=77:=by omega
   rw[this];exact⟨511,by decide,.inr (.inr (.inr rfl)),by omega,by omega,by omega⟩
  .omega
 obtain⟨a,O,q,g,p,o,n,v,m,l⟩:=Cu (finger:=t.finger) (moves:=t.movedTo mask) (led:=t.led) (plain:=t.plain) s j;refine⟨a,O,?_,by rw[g];exact c,by rw[g];exact j,p,o,Cv n List.nodup_range λi=>by rw[m i,List.mem_range],l⟩;unfold SetTable.relaid;rw[u];exact q
section
variable{prog:PF}{w:P0}{A:P9}{E:O_->Pe->Prop}{s:Pe}
noncomputable def jL(prog:PF)(w:P0)(x:Int×V7):Int×O_:=((Qr prog w).hash x.1,.int x.1 x.2)
structure td(prog:PF)(w:P0)(h:P7)(a:Pg)(xs:List (Int×V7))(t:QX):Prop where
 ob:∃o es ep,h.get? a=O7 o/\o.ExactSet/\o.data=.set es ep t/\es.toList=xs.map (jL prog w)tab:qJ t (xs.map λx=>(Qr prog w).hash x.1)Ji:xs.length*5<t.mask*3
 nd:(xs.map (·.1)).Nodup
 led:t.led=!w.params.followText "set-order"plain:t.plain=Pa
theorem u0(xs:List (Int×V7)):ElemsOf (Qr prog w) (xs.map (jL prog w)):=λe a=>by
 obtain⟨x,_,rfl⟩:=List.mem_map.mp a;exact⟨⟨x.1,Tt _ _ _ _,rfl⟩,rfl⟩
theorem tP{c:Array (Int×O_)}{xs:List (Int×V7)}{t:QX}(f:c.toList=xs.map (jL prog w))(T:qJ t (xs.map λx=>(Qr prog w).hash x.1))(Ca:¬xs.length*5<t.mask*3)(q:(xs.length-1)*5<t.mask*3)(pos:0<xs.length)(e:xs.length<=306):∃(o:Array (Int×O_))(t':QX)(d:List (Int×V7)),relayAll t c (W7 c.size)=(o,t',Pc)/\o.toList=d.map (jL prog w)/\d.Perm xs/\qJ t' (d.map λx=>(Qr prog w).hash x.1)/\d.length*5<t'.mask*3/\t'.led=t.led/\t'.plain=t.plain:=by
 have r:c.size=xs.length:=by have:=congrArg RZ f;simpa using this
 have a:(xs.map λx=>(Qr prog w).hash x.1).length=xs.length:=Pk ..;obtain⟨v,O,z,y,M,L,K,m,J⟩:=xi T (by rw[a];exact Ca) (by rw[a];exact q) (by rw[a];exact pos) (by rw[a];exact e);rw[a]at z y M m;have Q:c.map (·.1)=(xs.map λx=>(Qr prog w).hash x.1).toArray:=by
  apply Array.ext';rw[TH,f,Rk];rfl
 let g:Nat->Int×V7:=λi=>(xs[i]?).getD (0,0);have G:∀i∈O,i<xs.length:=λi hi=>List.mem_range.mp (m.mem_iff.mp hi);have H:∀i(hi:i<xs.length),g i=xs[i]:=λi hi=>by show(xs[i]?).getD _=_;rw[PN hi];rfl
 have n:∀i∈O,c[i]?=O7 (jL prog w (g i)):=λi hi=>by
  have b:=G i hi;have:c.toList[i]?=O7 (jL prog w xs[i]):=by rw[f,PV,PN b];rfl
  rw[H i b];simpa using this
 have R:∀l:List Nat,(∀i∈l,c[i]?=O7 (jL prog w (g i)))->l.filterMap (λi=>c[i]?)=(l.map g).map (jL prog w):=by
  intro l;induction l with
  |nil=>intro _;rfl|cons i l N=>
   intro D;rw[Rf,D i Pn,N λj P=>D j (Po _ P)];rfl
 have p:(O.toArray.filterMap (λi=>c[i]?)).toList=(O.map g).map (jL prog w):=by
  rw[Array.toList_filterMap];exact R O n
 have C:O.length=xs.length:=by rw[m.length_eq,Uo]
 have u:(O.toArray.filterMap (λi=>c[i]?)).size=xs.length:=by
  rw[<-QO,p];simp[C]
 have I:qJ v ((O.map g).map λx=>(Qr prog w).hash x.1):=by
  refine J _ (by simp) λk i h F hi=>?_;rw[PV,PV,F];have b:=G i (Qd F);rw[PV,PN b]at hi;simp only[Su,R6]at hi⊢;rw[H i b,hi]
 have B:(O.map g).Perm xs:=by
  have:=m.map g;rwa[xh]at this
 refine⟨_,v,O.map g,?_,p,B,I,by rw[B.length_eq];exact y,L,K⟩;unfold relayAll;rw[r,Q,z];dsimp only;rw[if_pos];rw[Pp];refine⟨?_,fits_of I (by rw[u];simp[C])⟩;unfold coversAll;exact List.isPerm_iff.mpr m
theorem u4{a:Pg}{xs:List (Int×V7)}{t:QX}{i:Int}{b:V7}(S:td prog w s.heap a xs t)(hn:xs.length<306){Q:Bool->Pe->Prop}(X:i∈xs.map (·.1)->Q Pc s)(new:i∉xs.map (·.1)->∀h' v t',Ri a s.heap h'->td prog w h' a v t'->v.Perm ((i,b)::xs)->Q Pa {s with heap:=h'}):wpAny (Py prog w) A (setAddHashed a (.int i b) ((Qr prog w).hash i)) Q E s:=by
 obtain⟨o,d,ep,L,hex,hd,g⟩:=id S.ob;have T:=S.tab;have Z:d.size=xs.length:=by have:=congrArg RZ g;simpa using this
 have I:ElemsOf (Qr prog w) d.toList:=by rw[g];exact u0 xs
 have hf:t.fits d.size=Pa:=fits_of T (by rw[Z,Pk]);have hb:d.size<scanBound:=by unfold scanBound;omega
 unfold setAddHashed setAddHashedIn;refine Qn (O9 (Uq L hd hf ?_));dsimp only;rw[byScan_of (knd:=Qr prog w) rfl hb I];simp only[↓reduceIte];unfold setAddByScan;refine O9 (O9 (UD (O9 (wpAny_setScan_of (knd:=Qr prog w) (Tt _ _ _ _) L hd hf I ?_))));cases hr:List.findIdx? (λe=>(Qr prog w).is i e.2) d.toList with
 |some j=>
  obtain⟨hj,a0,_⟩:=List.findIdx?_eq_some_iff_getElem.mp hr;have hm:∃e∈xs.map (jL prog w),(Qr prog w).is i e.2=Pa:=⟨_,g▸VX hj,a0⟩;obtain⟨e,he,hp⟩:=hm;obtain⟨x,Y,rfl⟩:=List.mem_map.mp he;have:i=x.1:=(Qr prog w).inj _ _ _ hp (Tt _ _ _ _);exact Pf (Pf (X (by rw[this];exact SF Y)))|none=>
  have f:i∉xs.map (·.1):=λz=>by
   obtain⟨x,Y,rfl⟩:=List.mem_map.mp z;have:=List.findIdx?_eq_none_iff.mp hr (jL prog w x) (by rw[g];exact SF Y);rw[show(Qr prog w).is x.1 (jL prog w x).2=Pa from Tt _ _ _ _]at this;cases this
  dsimp only;obtain⟨N,hN,F⟩:=T.first ((Qr prog w).hash i);have n:(xs.map λx=>(Qr prog w).hash x.1).length+1<=t.mask:=by
   have:=S.Ji;simp only[Pk];rcases T.mask with e|e|e|e<;>rw[e]at this⊢<;>omega
  obtain⟨hp,u⟩:=T.put F n;have ed:(t.put (bP t.mask (PD ((Qr prog w).hash i)) N).j).1.plain=t.plain:=rfl;have M:(t.put (bP t.mask (PD ((Qr prog w).hash i)) N).j).1.mask=t.mask:=rfl;have el:(t.put (bP t.mask (PD ((Qr prog w).hash i)) N).j).1.led=t.led:=rfl;have eL:layNew t d ((Qr prog w).hash i) (.int i b)=(Qt d (t.put (bP t.mask (PD ((Qr prog w).hash i)) N).j).2 ((Qr prog w).hash i,.int i b),(t.put (bP t.mask (PD ((Qr prog w).hash i)) N).j).1.orStandIn (Qt d (t.put (bP t.mask (PD ((Qr prog w).hash i)) N).j).2 ((Qr prog w).hash i,.int i b)).size,Pc,!(t.put (bP t.mask (PD ((Qr prog w).hash i)) N).j).1.fits (Qt d (t.put (bP t.mask (PD ((Qr prog w).hash i)) N).j).2 ((Qr prog w).hash i,.int i b)).size):=by
   unfold layNew;rw[qO T F hN]
  generalize(t.put (bP t.mask (PD ((Qr prog w).hash i)) N).j).2=p at*;generalize(t.put (bP t.mask (PD ((Qr prog w).hash i)) N).j).1=m at*;simp only[Pk]at hp;have eh:((xs.take p++(i,b)::xs.drop p).map λx=>(Qr prog w).hash x.1)=((xs.map λx=>(Qr prog w).hash x.1).take p++(Qr prog w).hash i::(xs.map λx=>(Qr prog w).hash x.1).drop p):=by rw[Qm,PY,List.map_take,List.map_drop]
  rw[<-eh]at u;have K:(xs.take p++(i,b)::xs.drop p).Perm ((i,b)::xs):=by
   have:=List.perm_middle (a:=(i,b)) (l₁:=xs.take p) (l₂:=xs.drop p);rwa[RV]at this
  have r:(Qt d p ((Qr prog w).hash i,.int i b)).toList=(xs.take p++(i,b)::xs.drop p).map (jL prog w):=by
   rw[eU d p _ (by omega),g,Qm,PY,List.map_take,List.map_drop];rfl
  generalize a2:xs.take p++(i,b)::xs.drop p=xs1 at*;generalize Qt d p ((Qr prog w).hash i,.int i b)=h at*;have C:xs1.length=xs.length+1:=by rw[K.length_eq];rfl
  have y:h.size=xs1.length:=by have:=congrArg RZ r;simpa using this
  have l:m.fits h.size=Pa:=fits_of u (by rw[y,Pk]);have W:m.orStandIn h.size=m:=by unfold SetTable.orStandIn;rw[l];rfl
  rw[eL,W,l];have B:(xs1.map (·.1)).Nodup:=(K.map (·.1)).nodup_iff.mpr (List.nodup_cons.mpr ⟨f,S.nd⟩);dsimp only;refine O9 (Pf ?_);rw[ed,S.plain];simp only[if_true];refine O9 (Pf ?_);simp only[if_true];refine O9 (X4 L hd ?_ (by rw[y,Rg];omega));have k:=Qu (Obj.putSet h m) L (by rw[Yg _ _ hd];rfl);rw[Yg _ _ hd]at k;have H:({o with data:=.set h (ep+1) m}:Qx).ExactSet:=hex;have tf:m.tooFull=decide (¬xs1.length*5<t.mask*3):=by
   unfold SetTable.tooFull SetTable.fill;have h3:=u.len;have h4:=u.J_;simp only[Pk]at h3;simp only[h3,h4,M];simp
  rw[tf];by_cases c:xs1.length*5<t.mask*3
  .rw[if_neg (by simpa using c)];exact Pf (Pf (new f _ xs1 m (Qz ..) ⟨⟨_,_,_,k,H,rfl,r⟩,u,by rw[M];exact c,B,by rw[el];exact S.led,by rw[ed];exact S.plain⟩ K))
  .rw[if_pos (by simpa using c)];have P:=S.Ji;obtain⟨q,R,O,q1,q2,V,q4,q5,q6,q7⟩:=tP r u (by rw[M];exact c) (by rw[M,C];exact P) (by omega) (by omega);rw[q1];dsimp only;refine O9 (Pf ?_);have U:q.size=xs1.length:=by have:=congrArg RZ q2;rw[Pk,V.length_eq]at this;simpa using this
   refine O9 (X4 (s:={s with heap:=_}) k rfl ?_ (by rw[U,Rg];omega));have D:=Qu (Obj.putSet q R) k (by rw[Yg _ _ rfl];rfl);rw[Yg _ _ rfl]at D;have G:({o with data:=.set q (ep+1+1) R}:Qx).ExactSet:=hex;exact Pf (Pf (new f _ O R ((Qz ..).trans (Qz ..)) ⟨⟨_,_,_,D,G,rfl,q2⟩,q4,q5,(V.map (·.1)).nodup_iff.mpr B,by rw[q6,el];exact S.led,by rw[q7,ed];exact S.plain⟩ (V.trans K)))
end
end ST
end
section
namespace SortM
open PySem PySem.W PyProof.Rows
structure Ord(N:Nat)(lt:Nat->Nat->Bool)(cmp:Nat->Nat->(Bool->Pe->Prop)->Pe->Prop)(s:Pe):Prop where
 ask:∀(i j:Nat)(C:Bool->Pe->Prop),i<N->j<N->C (lt i j) s->cmp i j C s
 yW:∀a b,lt a b=Pa->lt b a=Pc
 yX:∀a b c,lt a b=Pc->lt b c=Pc->lt a c=Pc
noncomputable abbrev at'(p:Array Nat)(k:Nat):Nat:=p.getD k 0
noncomputable def Ok(N:Nat)(p:Array Nat):Prop:=p.size=N/\p.toList.Perm (Qg N)
section
variable{N:Nat}{lt:Nat->Nat->Bool}{cmp:Nat->Nat->(Bool->Pe->Prop)->Pe->Prop}{s:Pe}
theorem Ok.g0{p:Array Nat}(v:Ok N p){k:Nat}(a:k<N):at' p k<N:=by
 have h:k<p.size:=by rw[v.1];exact a
 have m:at' p k∈p.toList:=by
  unfold at';rw[Ql,Pz h];exact Array.getElem_mem_toList h
 exact List.mem_range.mp (v.2.mem_iff.mp m)
theorem Ok.rev{p:Array Nat}(v:Ok N p)(i j:Nat):Ok N (VC p i j):=⟨(mirror_size _ _ _ _).trans v.1,((mirror_perm p i j _).toList).trans v.2⟩
theorem Ok.OE{p:Array Nat}(v:Ok N p)(i j:Nat):Ok N (bubble p i j):=⟨(bubble_size _ _ _).trans v.1,((bubble_perm p i j).toList).trans v.2⟩
theorem fu{p:Array Nat}{i j:Nat}(a:j<=p.size)(k:Nat):at' (VC p i j) k=if i<=k/\k<j then at' p (i+j-1-k)else at' p k:=by
 unfold at' VC;rw[Ql,getElem?_mirror_all a];split;.rw[Ql]
 .rw[Ql]
theorem yY{p:Array Nat}{k d:Nat}(a:k<p.size)(hd:d<=k)(i:Nat):at' (bubble p k d) i=if i=k-d then at' p k else if k-d<i/\i<=k then at' p (i-1)else at' p i:=by
 show(bubble p k d).getD i 0=if i=k-d then p.getD k 0 else if k-d<i/\i<=k then p.getD (i-1) 0 else p.getD i 0;rw[Ql,Ql,Ql,Ql,getElem?_bubble a d hd];split;.rfl
 .split;.rfl
  .rfl
noncomputable def Up(lt:Nat->Nat->Bool)(p:Array Nat)(k:Nat):Prop:=∀i j,i<=j->j<k->lt (at' p j) (at' p i)=Pc
noncomputable def Down(lt:Nat->Nat->Bool)(p:Array Nat)(k:Nat):Prop:=∀i j,i<=j->j<k->lt (at' p i) (at' p j)=Pc
theorem Ord.refl(O:Ord N lt cmp s)(a:Nat):lt a a=Pc:=by cases h:lt a a with
 |false=>rfl|true=>
  have:=O.yW a a h;rw[h]at this;cases this
theorem Up.step(O:Ord N lt cmp s){p:Array Nat}{k:Nat}(u:Up lt p k)(h:1<=k->lt (at' p k) (at' p (k-1))=Pc):Up lt p (k+1):=by
 intro i j b c;by_cases a:j<k;.exact u i j b a
 .have e:j=k:=by omega
  subst e;by_cases hi:i=j;.subst hi;exact O.refl _
  .exact O.yX _ _ _ (h (by omega)) (u i (j-1) (by omega) (by omega))
theorem Down.step(O:Ord N lt cmp s){p:Array Nat}{k:Nat}(u:Down lt p k)(h:1<=k->lt (at' p (k-1)) (at' p k)=Pc):Down lt p (k+1):=by
 intro i j b c;by_cases a:j<k;.exact u i j b a
 .have e:j=k:=by omega
  subst e;by_cases hi:i=j;.subst hi;exact O.refl _
  .exact O.yX _ _ _ (u i (j-1) (by omega) (by omega)) (h (by omega))
theorem tQ(O:Ord N lt cmp s){p:Array Nat}(v:Ok N p){Q:Nat->Pe->Prop}:∀(f n:Nat),1<=n->n+f<=N->Up lt p n->(∀m,n<=m->m<=n+f->Up lt p m->(m<n+f->lt (at' p m) (at' p (m-1))=Pa)->Q m s)->(kas_asc p f n).kasWp cmp Q s
 |0,n,_,_,u,q=>q n (Pq _) (Pq _) u λh=>absurd h (by omega)|f+1,n,i,g,u,q=>by
  refine O.ask _ _ _ (v.g0 (by omega)) (v.g0 (by omega)) ?_;cases e:lt (at' p n) (at' p (n-1))with
  |true=>exact q n (Pq _) (by omega) u λ_=>e|false=>
   show(kas_asc p f (n+1)).kasWp cmp Q s;exact tQ O v f (n+1) (by omega) (by omega) (u.step O λ_=>e) λm a b c d=>q m (by omega) (by omega) c λz=>d (by omega)
noncomputable def Cw(lt:Nat->Nat->Bool)(p:Array Nat)(n q:Nat):Prop:=q+1<=n/\∀i j,n-(q+1)<=i->i<n->n-(q+1)<=j->j<n->lt (at' p i) (at' p j)=Pc
theorem Down.u5{p:Array Nat}{n q:Nat}(c:n<=p.size)(O:Ord N lt cmp s)(u:Down lt p n)(t:Cw lt p n q):Down lt (VC p (n-(q+1)) n) n:=by
 obtain⟨e,t⟩:=t;intro i j b d;rw[fu c,fu c];by_cases hi:n-(q+1)<=i/\i<n
 .rw[if_pos hi,if_pos (by omega)];exact t _ _ (by omega) (by omega) (by omega) (by omega)
 .rw[if_neg hi];by_cases a:n-(q+1)<=j/\j<n
  .rw[if_pos a];exact u _ _ (by omega) (by omega)
  .rw[if_neg a];exact u i j b d
theorem qP{p:Array Nat}{i n k:Nat}(a:n<=p.size)(b:n<=k):at' (VC p i n) k=at' p k:=by rw[fu a,if_neg (by omega)]
theorem Down.revAll{p:Array Nat}{n:Nat}(a:n<=p.size)(u:Down lt p n):Up lt (VC p 0 n) n:=by
 intro i j b c;rw[fu a,fu a,if_pos (by omega+splitNatSub),if_pos (by omega+splitNatSub)];exact u _ _ (by omega+splitNatSub) (by omega+splitNatSub)
theorem kH(O:Ord N lt cmp s){Q:Array Nat×Nat×Nat->Pe->Prop}:∀(f:Nat)(p:Array Nat)(n q:Nat),Ok N p->1<=n->n+f<=N->Down lt p n->Cw lt p n q->(∀g h l,Ok N g->1<=h->h<=n+f->Down lt g h->Cw lt g h l->Q (g,h,l) s)->(kas_desc f p n q).kasWp cmp Q s
 |0,p,n,q,v,r,z,u,t,k=>k p n q v r (Pq _) u t|f+1,p,n,q,v,r,z,u,t,k=>by
  have m:n<=p.size:=by rw[v.1];omega
  have one:∀g,Cw lt g (n+1) 0:=λg=>⟨by omega,λi j a b c d=>by
   have D:i=n:=by omega
   have C:j=n:=by omega
   subst D;subst C;exact O.refl _⟩;refine O.ask _ _ _ (v.g0 (by omega)) (v.g0 (by omega)) ?_;cases e:lt (at' p n) (at' p (n-1))with
  |true=>
   have y:=O.yW _ _ e;show(if q>0 then kas_desc f (VC p (n-(q+1)) n) (n+1) 0 else kas_desc f p (n+1) 0).kasWp cmp Q s;by_cases x:q>0
   .rw[if_pos x];refine kH O f _ (n+1) 0 (v.rev _ _) (by omega) (by omega) ((u.u5 m O t).step O λ_=>?_) (one _) λg h l a b c d e=>k g h l a b (by omega) d e;rw[qP m (Pq _),fu m,if_pos (by have:=t.1;omega)];exact O.yX _ _ _ (t.2 _ (n-1) (by omega) (by have:=t.1;omega) (by omega) (by omega)) y
   .rw[if_neg x];exact kH O f p (n+1) 0 v (by omega) (by omega) (u.step O λ_=>y) (one _) λg h l a b c d e=>k g h l a b (by omega) d e|false=>
   refine O.ask _ _ _ (v.g0 (by omega)) (v.g0 (by omega)) ?_;cases d:lt (at' p (n-1)) (at' p n)with
   |true=>exact k p n q v r (by omega) u t|false=>
    refine kH O f p (n+1) (q+1) v (by omega) (by omega) (u.step O λ_=>d) ⟨by have:=t.1;omega,λi j a b c E=>?_⟩ λg h l a b c d e=>k g h l a b (by omega) d e;have A:=t.1;by_cases hi:i<n
    .by_cases o:j<n;.exact t.2 i j (by omega) hi (by omega) o
     .have w:j=n:=by omega
      subst w;exact O.yX _ _ _ (t.2 i (j-1) (by omega) hi (by omega) (by omega)) d
    .have B:i=n:=by omega
     subst B;by_cases o:j<i;.exact O.yX _ _ _ e (t.2 (i-1) j (by omega) (by omega) (by omega) o)
     .have w:j=i:=by omega
      subst w;exact O.refl _
theorem qQ(O:Ord N lt cmp s){p:Array Nat}(v:Ok N p){n:Nat}{Q:Nat×Array Nat->Pe->Prop}(g:1<=n)(f:n<=N)(u:Down lt p n)(k:∀m d,Ok N d->m<=N->Up lt d m->Q (m,d) s):(Yh n N p).kasWp cmp Q s:=by
 have e:n<=p.size:=by rw[v.1];exact f
 unfold Yh;rw[T4];exact tQ O (v.rev 0 n) (N-n) n g (by omega) (u.revAll e) λm a b c _=>k m _ (v.rev 0 n) (by omega) c
theorem j5(O:Ord N lt cmp s){p:Array Nat}(v:Ok N p){n:Nat}{Q:Nat×Array Nat->Pe->Prop}(y:1<=n)(x:n+1<=N)(u:Down lt p (n+1))(k:∀m e,Ok N e->m<=N->Up lt e m->Q (m,e) s):(Wm n N p).kasWp cmp Q s:=by
 unfold Wm;rw[T4];refine kH O (N-(n+1)) p (n+1) 0 v (by omega) (by omega) u ⟨by omega,λi j a b c d=>?_⟩ λe f h g a b o r=>?_
 .have w:i=n:=by omega
  have t:j=n:=by omega
  subst w;subst t;exact O.refl _
 .have l:f<=e.size:=by rw[g.1];omega
  show(if h>0 then Yh f N (VC e (f-(h+1)) f)else Yh f N e).kasWp cmp Q s;by_cases q:h>0
  .rw[if_pos q];exact qQ O (g.rev _ _) a (by omega) (o.u5 l O r) k
  .rw[if_neg q];exact qQ O g a (by omega) o k
theorem yZ(O:Ord N lt cmp s){p:Array Nat}(v:Ok N p){Q:Nat×Array Nat->Pe->Prop}(w:2<=N)(k:∀m g,Ok N g->m<=N->Up lt g m->Q (m,g) s):(kas_count N p).kasWp cmp Q s:=by
 unfold kas_count;rw[T4];refine tQ O v (N-1) 1 (Pq _) (by omega) (λi j a b=>?_) λn a b u d=>?_
 .have o:i=0:=by omega
  have l:j=0:=by omega
  subst o;subst l;exact O.refl _
 .have f:n<=p.size:=by rw[v.1];omega
  show(if(n==N)=Pa then Yt (n,p)else if n>1 then KasT.ask (p.getD 0 0) (p.getD (n-1) 0) λc=>if c=Pa then Yt (n,p)else Wm n N (VC p 0 n)else Wm n N p).kasWp cmp Q s;by_cases hN:(n==N)=Pa
  .rw[if_pos hN];exact k n p v (by omega) u
  .rw[if_neg hN];have t:n<N:=by
    have:n≠N:=λz=>hN (by rw[z];simp);omega
   have d:=d (by omega);by_cases r:n>1
   .rw[if_pos r];refine O.ask _ _ _ (v.g0 (by omega)) (v.g0 (by omega)) ?_;cases e:lt (at' p 0) (at' p (n-1))with
    |true=>exact k n p v (by omega) u|false=>
     have all:∀i j,i<n->j<n->lt (at' p i) (at' p j)=Pc:=λi j hi q=>O.yX _ _ _ (u i (n-1) (by omega) (by omega)|>λ_=>O.yX _ _ _ (O.yX _ _ _ (u 0 i (by omega) hi) e) (O.refl _)) (u j (n-1) (by omega) (by omega));refine j5 O (v.rev 0 n) a (by omega) (Down.step O (λi j h q=>?_) λ_=>?_) k
     .rw[fu f,fu f,if_pos (by omega),if_pos (by omega)];exact all _ _ (by omega) (by omega)
     .rw[qP f (Pq _),fu f,if_pos (by omega)];exact O.yX _ _ _ (all _ (n-1) (by omega) (by omega)) (O.yW _ _ d)
   .rw[if_neg r];have en:n=1:=by omega
    subst en;refine j5 O v (Pq _) (by omega) (Down.step O (λi j h q=>?_) λ_=>O.yW _ _ d) k;have o:i=0:=by omega
    have l:j=0:=by omega
    subst o;subst l;exact O.refl _
theorem ls(O:Ord N lt cmp s){p:Array Nat}(v:Ok N p){k:Nat}(h:k<N)(u:Up lt p k){Q:Nat->Pe->Prop}:∀(f l r:Nat),l<=r->r<=k->r-l<=f->(∀i,i<l->lt (at' p k) (at' p i)=Pc)->(∀i,r<=i->i<k->lt (at' p i) (at' p k)=Pc)->(∀m,m<=k->(∀i,i<m->lt (at' p k) (at' p i)=Pc)->(∀i,m<=i->i<k->lt (at' p i) (at' p k)=Pc)->Q m s)->(kas_place p k f l r).kasWp cmp Q s
 |0,l,r,t,g,o,a,b,q=>by
  have e:l=r:=by omega+splitNatSub
  subst e;exact q l g a b|f+1,l,r,t,g,o,a,b,q=>by
  show(if l>=r then Yt l else KasT.ask (p.getD k 0) (p.getD ((l+r)/2) 0) λc=>if c=Pa then kas_place p k f l ((l+r)/2)else kas_place p k f ((l+r)/2+1) r).kasWp cmp Q s;by_cases d:l>=r
  .rw[if_pos d];have e:l=r:=by omega+splitNatSub
   subst e;exact q l g a b
  .rw[if_neg d];refine O.ask _ _ _ (v.g0 h) (v.g0 (by omega+splitNatSub)) ?_;cases e:lt (at' p k) (at' p ((l+r)/2))with
   |true=>
    refine ls O v h u f l ((l+r)/2) (by omega+splitNatSub) (by omega+splitNatSub) (by omega+splitNatSub) a (λi j n=>?_) q;exact O.yX _ _ _ (u _ _ j n) (O.yW _ _ e)|false=>
    refine ls O v h u f ((l+r)/2+1) r (by omega+splitNatSub) g (by omega+splitNatSub) (λi j=>?_) b q;exact O.yX _ _ _ e (u _ _ (by omega+splitNatSub) (by omega+splitNatSub))
theorem y4(O:Ord N lt cmp s){Q:Array Nat->Pe->Prop}(q:∀l,Ok N l->Up lt l N->Q l s):∀(f:Nat)(p:Array Nat)(k:Nat),Ok N p->k+f=N->Up lt p k->(kas_bin f p k).kasWp cmp Q s
 |0,p,k,v,h,u=>q p v (by have e:k=N:=h;subst e;exact u)|f+1,p,k,v,h,u=>by
  have d:k<p.size:=by rw[v.1];omega
  unfold kas_bin;rw[T4];refine ls O v (by omega) u k 0 k (Qb _) (Pq _) (by omega) (λi h=>absurd h (by omega)) (λi o w=>absurd o (by omega)) λm r a b=>?_;refine y4 O q f _ (k+1) (v.OE _ _) (by omega) λi j n t=>?_;have e:k-(k-m)=m:=by omega
  rw[yY d (by omega),yY d (by omega),e];by_cases hi:i=m
  .rw[if_pos hi];by_cases c:j=m;.rw[if_pos c];exact O.refl _
   .rw[if_neg c,if_pos (by omega)];exact b _ (by omega) (by omega)
  .rw[if_neg hi];by_cases c:j=m
   .rw[if_pos c,if_neg (by omega)];exact a _ (by omega)
   .rw[if_neg c];by_cases qv:m<i/\i<=k
    .rw[if_pos qv,if_pos (by omega)];exact u _ _ (by omega) (by omega)
    .rw[if_neg qv];by_cases g:m<j/\j<=k
     .rw[if_pos g];exact u _ _ (by omega) (by omega)
     .rw[if_neg g];exact u _ _ n (by omega)
theorem Cy(O:Ord N lt cmp s)(c:2<=N){Q:Array Nat->Pe->Prop}(q:∀p,Ok N p->Up lt p N->Q p s):(kas_sort N).kasWp cmp Q s:=by
 unfold kas_sort;rw[T4];refine yZ O (p:=QF (Qg N)) ⟨by simp,by simp⟩ c λm p v g u=>?_;show(if m<N then kas_bin (N-max m 1) p (max m 1)else Yt p).kasWp cmp Q s;by_cases h:m<N
 .rw[if_pos h];refine y4 O q _ p _ v (by omega) λi j a k=>?_;by_cases b:1<=m;.exact u i j a (by omega)
  .have f:i=0:=by omega
   have d:j=0:=by omega
   subst f;subst d;exact O.refl _
 .rw[if_neg h];have e:m=N:=by omega
  subst e;exact q p v u
end
end SortM
end
section
namespace SortM
open PySem PySem.W PyProof.Rows
noncomputable def Kept(a:Pg)(h h':P7):Prop:=∀b o,b≠a->h.get? b=O7 o->h'.get? b=O7 o
theorem y6(n:Nat):Ok n (QF (Qg n)):=⟨by simp,by simp⟩
theorem nM(vs:List O_):((QF (Qg vs.length)).toList.map λi=>vs.getD i Qc)=vs:=by
 show(Qg vs.length).map (λi=>vs.getD i Qc)=vs;apply VW;.simp
 .intro i a b;simp at a;simp[RL,a]
section
variable{prog:PF}{w:P0}{A:P9}{E:O_->Pe->Prop}{s:Pe}
theorem oW{a:Pg}{vs:List O_}{n:Nat}{P:PySem.Fin->Pe->Prop}{H:RF}{lt:Nat->Nat->Bool}(F:s.heap.get? a=O7 (Rx "list" vs.toArray n))(K:vs.length<64)(I:∀i,lt i i=Pc)(V:2<=vs.length->∀h',Kept a s.heap h'->(∀R:RF->Pe->Prop,R H {s with heap:=h'}->wpAny (Py prog w) A (Yu vs.toArray) R (λ_ _=>False) {s with heap:=h'})/\Ord vs.length lt (kas_ask prog w A H vs) {s with heap:=h'})(h:∀(p:Array Nat)(h':P7)(c:Nat),Ok vs.length p->Up lt p vs.length->Kept a s.heap h'->h'.get? a=O7 (Rx "list" (QF (p.toList.map λi=>vs.getD i Qc)) c)->P (.done (.ret .none)) {s with heap:=h'}):wpAny (Py prog w) A (Builtin.«list.sort» ⟨[.ref a],[]⟩) P E s:=by
 have ha:a<s.heap.objs.size:=Px F;have S:=Qz s.heap a (Q5 λ_=>(#[]:Array O_));obtain⟨D,z⟩:∃D,(s.heap.update a (Q5 λ_=>(#[]:Array O_))).get? a=O7 (Rx "list" #[] D):=⟨_,Tc F λ_=>#[]⟩;rw[list_sort_plain];refine O9 (listItems_at F rfl ?_);refine O9 (TX F rfl ?_ (by rw[Pw,Rg];omega) (Qb _));refine O9 (UR z rfl ?_);refine O9 (wpAny_newTuple ?_ (by show vs.length<=_;rw[Rg];omega));refine O9 (VL ?_ (Qb _));refine Qn ?_;show wpAny (Py prog w) A _ P E {s with heap:=((s.heap.update a (Q5 λ_=>(#[]:Array O_))).push (Rx "tuple" vs.toArray 0)).push (Rx "list" #[] 0)};generalize B:((s.heap.update a (Q5 λ_=>(#[]:Array O_))).push (Rx "tuple" vs.toArray 0)).push (Rx "list" #[] 0)=h6;have M:Kept a s.heap h6:=λb o hb e=>by
  rw[<-B];exact Ph _ (Ph _ ((S.2 b hb).trans e))
 have d:h6.get? a=O7 (Rx "list" #[] D):=by
  rw[<-B];exact Ph _ (Ph _ z)
 dsimp only;have C:∀(p:Array Nat),Ok vs.length p->Up lt p vs.length->∀g,(h6.update a (Q5 λ_=>QF (p.toList.map λi=>vs.getD i Qc))).get? a=O7 (Rx "list" (QF (p.toList.map λi=>vs.getD i Qc)) g)->P (.done (.ret .none)) {s with heap:=h6.update a (Q5 λ_=>QF (p.toList.map λi=>vs.getD i Qc))}:=λp v u g L=>h p _ g v u (λb o hb e=>((Qz h6 a _).2 b hb).trans (M b o hb e)) L;by_cases r:vs.toArray.size<2
 .rw[if_pos r,if_pos r];refine O9 (Pf ?_);rw[StateT.run_pure];refine O9 (Pf ?_);dsimp only;have f:(R0 (Wn general' (vs.toArray.zip vs.toArray) #[] 7 Pb)).map (·.2)=QF ((QF (Qg vs.length)).toList.map λi=>vs.getD i Qc):=by
   rw[nM];show(vs.toArray.zip vs.toArray).map (·.2)=vs.toArray;apply Array.toList_inj.mp;rw[TH,Array.toList_zip];exact List.map_snd_zip (Pq _)
  rw[f];obtain⟨g,m⟩:∃g,(h6.update a (Q5 λ_=>QF ((QF (Qg vs.length)).toList.map λi=>vs.getD i Qc))).get? a=O7 (Rx "list" (QF ((QF (Qg vs.length)).toList.map λi=>vs.getD i Qc)) g):=⟨_,Tc d λ_=>_⟩;refine O9 (UR d rfl ?_);refine O9 (TX d rfl ?_ (Qb _) (by rw[nM,Pw,Rg];omega));simp only[bne_self_eq_false,P4,if_false];refine Pf (C _ (y6 _) (λi j W hj=>?_) g m);have y:vs.length<2:=by simpa using r
  have D:i=0:=by omega
  have L:j=0:=by omega
  subst D;subst L;exact I _
 .rw[if_neg r,if_neg r];have q:2<=vs.length:=by
   have:¬vs.length<2:=by simpa using r
   omega
  obtain⟨T,O⟩:=V q h6 M;refine O9 (QV (T (λt l=>t=H/\l={s with heap:=h6}) ⟨rfl,rfl⟩) (λt s0 Y=>?_) λ_ _ x=>x.elim);obtain⟨rfl,rfl⟩:=Y;refine O9 (QV (kat_run (Q:=λk l=>∃p:Array Nat,l={s with heap:=h6}/\R0 k=p.map (kas_item (vs.toArray.zip vs.toArray))/\VY k=Pb/\Ok vs.length p/\Up lt p vs.length) (G:=λp l=>l={s with heap:=h6}/\Ok vs.length p/\Up lt p vs.length) rfl q K (λU k l a1 a2 Z N=>⟨U,N.1,a2,Z,N.2⟩) (Cy O q λp v u=>⟨rfl,v,u⟩)) ?_ λ_ _ e=>e);rintro⟨⟨⟩,k⟩l⟨p,rfl,J,X,v,u⟩;dsimp only;have f:=kat_snds rfl J;rw[f];have y:(QF (p.toList.map λi=>vs.getD i Qc)).size=vs.length:=by rw[Pw,Pk,QO,v.1]
  obtain⟨g,m⟩:∃g,(h6.update a (Q5 λ_=>QF (p.toList.map λi=>vs.getD i Qc))).get? a=O7 (Rx "list" (QF (p.toList.map λi=>vs.getD i Qc)) g):=⟨_,Tc d λ_=>_⟩;refine O9 (UR d rfl ?_);refine O9 (TX d rfl ?_ (Qb _) (Qa (Wf y) (by rw[Rg];omega)));rw[X];simp only[bne_self_eq_false,P4,if_false];exact Pf (C p v u g m)
end
end SortM
end
section
namespace SortM
open PySem PySem.W PyProof.Rows L2
noncomputable abbrev dz(h h':P7):Prop:=∀b o,h.get? b=O7 o->h'.get? b=O7 o
section
variable{prog:PF}{w:P0}{A:P9}{E:O_->Pe->Prop}{s:Pe}
structure y7(prog:PF)(w:P0)(A:P9)(vals:List O_)(κ:RF)(lt:Nat->Nat->Bool)(s:Pe):Prop where
 rf:∀i,lt i i=Pc
 kind:2<=vals.length->∀h',dz s.heap h'->∀Q':RF->Pe->Prop,Q' κ {s with heap:=h'}->wpAny (Py prog w) A (Yu vals.toArray) Q' (λ_ _=>False) {s with heap:=h'}ord:2<=vals.length->∀h',dz s.heap h'->Ord vals.length lt (kas_ask prog w A κ vals) {s with heap:=h'}
theorem xj{v:O_}{Q:O_->Pe->Prop}(h:wpAny (Py prog w) A.in1 (Xh v) (λvals s1=>vals.length<64/\∃d lt,y7 prog w A.in1.in1 vals d lt s1/\∀(p:Array Nat)(h':P7)(c:Nat),Ok vals.length p->Up lt p vals.length->dz s1.heap h'->h'.get? s1.heap.objs.size=O7 (Rx "list" (QF (p.toList.map λi=>vals.getD i Qc)) c)->Q (.ref s1.heap.objs.size) {s1 with heap:=h'}) E s):wpAny (Py prog w) A (call (.builtin "sorted") [v]) Q E s:=by
 refine Vu kind_sorted plain_sorted entry_sorted (args_sorted1 _) ?_;unfold Builtin.«sorted»;refine O9 (m:=checkCount "sorted" 1 1 _) (Pf ?_);refine O9 (QV h (λvals s1⟨g,d,lt,K,q⟩=>?_) λ_ _ e=>e);refine O9 (VL ?_ (by rw[Rg];omega+splitNatSub));have a:(s1.heap.push (Rx "list" vals.toArray 0)).get? s1.heap.objs.size=O7 (Rx "list" vals.toArray 0):=PR _ rfl;have keep:∀h',Kept s1.heap.objs.size (s1.heap.push (Rx "list" vals.toArray 0)) h'->dz s1.heap h':=λh' k b o e=>k b o (P5 (Px e)) (Ph _ e);refine O9 (Qn (QJ slot_list_sort ⟨_,a,rfl⟩ entry_list_sort ?body (args_list_sort _)));case body=>
  refine oW (s:={s1 with heap:=s1.heap.push (Rx "list" vals.toArray 0)}) a g K.rf (λf h' k=>⟨K.kind f h' (keep h' k),K.ord f h' (keep h' k)⟩) λp h' c v u k e=>⟨_,rfl,?_⟩;exact Pf ⟨_,rfl,q p h' c v u (keep h' k) e⟩
theorem u6{Q:Bool->Pe->Prop}{a:Bool}:∀(xs c:List O_)(ns ms:List Int)(i:Nat),Sm xs ns->Sm c ms->(ns.length<ms.length↔a=Pa)->Q (HT.lexLt ns ms) s->KatLex prog w A Pa a Q (xs.zip c) i s
 |[],[],[],[],i,_,_,b,q=>by
  have:a=Pc:=by cases a with|false=>rfl|true=>exact absurd (b.mpr rfl) (by simp)
  subst this;exact q|[],y::c,[],m::ms,i,_,_,b,q=>by
  have:a=Pa:=b.mp (by simp);subst this;exact q|x::xs,[],n::ns,[],i,_,_,b,q=>by
  have:a=Pc:=by cases a with|false=>rfl|true=>exact absurd (b.mpr rfl) (by simp)
  subst this;exact q|x::xs,y::c,n::ns,m::ms,i,j,g,b,q=>by cases j with|cons _ l f=>cases g with|cons _ k d=>
    rw[HT.kZ]at q;refine kat_cons (VP ?_);by_cases e:n=m
    .rw[if_pos e]at q;rw[show(n==m)=Pa by simp[e]];exact YJ (u6 xs c ns ms (i+1) f d (by simpa using b) q)
    .rw[if_neg e]at q;rw[show(n==m)=Pc by simp[e]];refine kat_no ?_;cases i with
     |zero=>exact Yi q|succ i=>exact YK _ _ (lt_int q)
 |[],_,n::_,_,_,h,_,_,_=>by cases h|_::_,_,[],_,_,h,_,_,_=>by cases h|_,[],_,m::_,_,_,h,_,_=>by cases h|_,_::_,_,[],_,_,h,_,_=>by cases h
theorem jM{M:T9}{h:P7}(n:Int)(t:V7):YE M h (VJ (.int n t)) (.type "int"):=λA Q E s _ q=>Pf q
theorem lu{b a:Type}{F:b->a->Prop}{d:b}{c:a}:∀{l₁:List b}{l₂:List a},Paired F l₁ l₂->∀i,i<l₁.length->F (l₁.getD i d) (l₂.getD i c)
 |_,_,.nil,i,h=>absurd h (by simp)|_,_,.cons r _,0,_=>r|_,_,.cons _ t,i+1,h=>lu t i (by simpa using h)
theorem tR{vals:List O_}{ns:List Int}(t:Sm vals ns):y7 prog w A vals oneType' (λi j=>decide (ns.getD i 0<ns.getD j 0)) s where
 rf:=λi=>decide_eq_false (Int.lt_irrefl _);kind:=λm o g F q=>by
  refine kas_kind (s:={s with heap:=o}) m (T:=.type "int") (λv l=>?_) (by decide) (by decide) q;have:∀{d:List O_}{ns:List Int},Sm d ns->v∈d->YE (Py prog w) o (VJ v) (.type "int"):=λ{d ns}t l=>by induction t with
   |nil=>cases l|cons i f _ n=>
    rcases List.mem_cons.mp l with z|z;.rw[z];exact jM i f
    .exact n z
  exact this t l
 ord:=λm o g=>⟨λi j C hi p q=>by
   have:∀{d:List O_}{ns:List Int},Sm d ns->∀i,i<d.length->∃f,d.getD i Qc=.int (ns.getD i 0) f:=λ{d ns}t=>by induction t with
    |nil=>intro i h;exact absurd h (by simp)|cons k f _ n=>
     intro i h;cases i with
     |zero=>exact⟨f,rfl⟩|succ i=>
      obtain⟨u,e⟩:=n i (by simpa using h);exact⟨u,e⟩
   obtain⟨D,y⟩:=this t i hi;obtain⟨B,x⟩:=this t j p;unfold kas_ask;rw[y,x,keyLt'_oneType];exact Yi q,λa b h=>by have:=of_decide_eq_true h;exact decide_eq_false (by omega),λa b c r m=>by
   have:=of_decide_eq_false r;have:=of_decide_eq_false m;exact decide_eq_false (by omega)⟩
end
end SortM
end
section
namespace L2
open PySem PySem.W PyProof.Rows SortM
theorem xk{a:Type}{p:Array Nat}{n:Nat}(v:Ok n p)(xs:List a)(d:a)(h:xs.length=n):(p.toList.map λi=>xs.getD i d).Perm xs:=by
 have e:(Qg n).map (λi=>xs.getD i d)=xs:=by
  subst h;apply VW;.simp
  .intro i b c;simp at b;simp[RL,b]
 exact(v.2.map λi=>xs.getD i d).trans (by rw[e])
theorem qR{b:Type}{p:Array Nat}{n:Nat}{lt:Nat->Nat->Bool}(v:Ok n p)(u:Up lt p n){f:Nat->b}{R:b->b->Prop}(g:∀i j,lt j i=Pc->R (f i) (f j)):(p.toList.map f).Pairwise R:=by
 rw[List.pairwise_iff_getElem];intro i j hi e c;have d:i<p.size:=by simpa using hi
 have a:j<p.size:=by simpa using e
 rw[List.getElem_map,List.getElem_map];refine g _ _ ?_;have h:=u i j (Tw c) (by rw[<-v.1];exact a);unfold at' at h;rw[Ql,Ql,Pz d,Pz a]at h;simpa using h
theorem j6{b a:Type}{F:b->a->Prop}{e:b}{d:a}{l₁:List b}{l₂:List a}(r:Paired F l₁ l₂):∀(is:List Nat),(∀i∈is,i<l₁.length)->Paired F (is.map λi=>l₁.getD i e) (is.map λi=>l₂.getD i d)
 |[],_=>.nil|i::is,h=>.cons (lu r i (h i Pn)) (j6 r is λj c=>h j (Po _ c))
section
variable{X:Cx}
theorem Inv.newList{pins:List (Pg×Qx)}{σ:St}{H:Hp}{s:Pe}{h':P7}{D c:Nat}{a:List V}{us:List O_}(I:Inv X pins σ H s)(g:dz s.heap h')(d:s.heap.objs.size<=D)(r:ar a us)(b:a.length<=Pl)(e:h'.get? D=O7 (Rx "list" us.toArray c)){t:Nat}:Inv X pins σ (upd H D (.lst a)) {s with heap:=h',toks:=t}:=I.laid g d ⟨b,us,c,r,e⟩
end
end L2
end
section
namespace DictIt
open PySem PySem.W PyProof.Rows
section
variable{prog:PF}{w:P0}{A:P9}{E:O_->Pe->Prop}{s:Pe}
theorem u7{d:Pg}{o:Qx}{e:Array Ub}{f:Nat}{Q:O_->Pe->Prop}(a:(d==Q8)=Pc)(b:s.heap.get? d=O7 o)(g:o.cls=.type "dict")(hd:o.data=.dict e f)(h:Q (.ref s.heap.objs.size) {s with heap:=s.heap.push {cls:=.type "dict_keyiterator",data:=.fields #[.ref d,.int 0 0,.int e.size 0,.int f 0]}}):wpAny (Py prog w) A (Ye (.ref d)) Q E s:=by
 have c:s.TypeIs (.ref d) "dict":=⟨o,b,g⟩;refine Ur c F.slot_dict_iter (QJ F.slot_dict_iter c F.entry_dict_iter ?_ (F.args_dict_iter_1 _));unfold Builtin.«dict.__iter__»;refine O9 ?_;unfold Builtin.Dict.dictSlotNone;refine O9 (WG c ?_);show wpAny _ _ (pure (PQ d)) _ _ s;refine Pf ?_;show wpAny _ _ (WH d>>=_) _ _ s;unfold WH;rw[if_neg (by rw[a];exact QM)];refine O9 (Pf ?_);refine O9 (VD b hd ?_);refine O9 (WA b hd ?_);refine O9 (Q6 (Pf ⟨_,rfl,"dict_keyiterator",_,⟨_,PR _ rfl,rfl⟩,F.slot_dict_keyiterator_next.lookup,?_⟩));simpa[To]using h
theorem u9{it d:Pg}{i h:Nat}{l:Qx}{c:Array Ub}{Q:Option O_->Pe->Prop}(a:s.heap.IsKeyIter it d i c.size h)(f:s.heap.get? d=O7 l)(g:l.data=.dict c h)(k:i<c.size)(n:∀h',h'.IsKeyIter it d (i+1) c.size h->Ri it s.heap h'->Q (O7 c[i].key) {s with heap:=h'}):wpAny (Py prog w) A (UE (.ref it)) Q E s:=by
 obtain⟨o,j,m,hd⟩:=id a;unfold UE;refine O9 (UM (SN (name:=O8 "__next__") a.typeIs R9 (QJ R9 a.typeIs US ?_ (UH _))));refine O9 (Pf ?_);refine O9 ?_;refine O9 ?_;first|refine O9 (R1 a.typeIs (Pf ?_))|refine O9 (SE a.typeIs (Pf ?_))
 refine O9 (Vo j hd ?_);have e:U1 "dict_keyiterator"=Pc:=by decide
 simp only[e,P4,if_false];show wpAny _ _ (if(PQ d==Qc)=Pa then _ else _) _ _ s;rw[if_neg (show¬((PQ d==Qc)=Pa)from QM)];refine O9 (Pf ?_);refine O9 (VD f g ?_);rw[if_neg (by simp)];refine O9 (Pf ?_);refine O9 (WA f g ?_);rw[if_neg (by simp)];refine Pf ?_;simp only[show¬((i:Int)<0)from by omega,if_false,Uj,Pz k];refine O9 ?_;first|refine O9 (R1 a.typeIs (Pf ?_))|refine O9 (SE a.typeIs (Pf ?_))
 refine O9 (WI a.typeIs ?_);show wpAny _ _ (W8 (.ref it) 1 (To ((i:Int)+1))>>=_) _ _ s;refine O9 (Sl j hd (by simp) ?_);have b:(s.heap.update it (RH (·.setIfInBounds 1 (To ((i:Int)+1))))).IsKeyIter it d (i+1) c.size h:=⟨_,Qu _ j (Rw (QN hd _)),(Us ..).trans m,by rw[QN hd];simp[To]⟩;refine O9 (Qn ?_);refine O9 (WI (s:={s with heap:=s.heap.update it (RH (·.setIfInBounds 1 (To ((i:Int)+1))))}) b.typeIs ?_);show wpAny _ _ (pure c[i].key) _ _ _;exact Pf (Pf ⟨_,rfl,Pf (n _ b (Qz ..))⟩)
theorem y8{it d:Pg}{i n:Nat}{k:Qx}{j:Array Ub}{Q:Option O_->Pe->Prop}(p:A.handled=Pb)(c:s.heap.IsKeyIter it d i j.size n)(f:s.heap.get? d=O7 k)(g:k.data=.dict j n)(h:j.size<=i)(q:∀h',Heap.ExtBut it s.heap h'->Q Pb {s with heap:=h'}):wpAny (Py prog w) A (UE (.ref it)) Q E s:=by
 obtain⟨o,l,r,hd⟩:=id c;unfold UE;refine O9 (UM (SN (name:=O8 "__next__") c.typeIs R9 (QJ R9 c.typeIs US ?_ (UH _))));refine O9 (Pf ?_);refine O9 ?_;refine O9 ?_;first|refine O9 (R1 c.typeIs (Pf ?_))|refine O9 (SE c.typeIs (Pf ?_))
 refine O9 (Vo l hd ?_);have e:U1 "dict_keyiterator"=Pc:=by decide
 simp only[e,P4,if_false];show wpAny _ _ (if(PQ d==Qc)=Pa then _ else _) _ _ s;rw[if_neg (show¬((PQ d==Qc)=Pa)from QM)];refine O9 (Pf ?_);refine O9 (VD f g ?_);rw[if_neg (by simp)];refine O9 (Pf ?_);refine O9 (WA f g ?_);rw[if_neg (by simp)];refine Pf ?_;simp only[show¬((i:Int)<0)from by omega,if_false,Uj,Rp h];refine O9 ?_;first|refine O9 (R1 c.typeIs (Pf ?_))|refine O9 (SE c.typeIs (Pf ?_))
 show wpAny _ _ (W8 (.ref it) 0 .none>>=_) _ _ s;refine O9 (Sl l hd (by simp) ?_);show wpAny _ _ (newExc (.type "StopIteration") []>>=_) _ _ _;refine O9 ?_;simp only[newExc,newTuple];refine O9 (Q6 ?_ (by size_fits));refine O9 (m:=Vp _ _) (VE (a:=Qc) (by first|rfl|(simp only[Vp];rfl)) ?_);refine Q6 ?_ (by size_fits);simp only[raiseNew];refine O9 (wpAny_handled ?_);rw[show A.in1.handled=Pb from p];refine O9 (Pf (wpAny_throw ?_));refine O9 (SI (T:="StopIteration") (b:=Pa) ⟨_,PR _ rfl,rfl⟩ isSubtype_stop ?_);exact Pf (q _ (((Qz ..).extBut.push _).push _))
theorem y9(p:A.handled=Pb)(I d:Pg)(j:d≠I)(o:Qx)(g:Array Ub)(n:Nat)(hd:o.data=.dict g n):Walks prog w A I [I,d] [I] g.size (λi v=>∃e,g[i]?=O7 e/\v=e.key) (λi h=>h.IsKeyIter I d i g.size n/\h.get? d=O7 o)where
 sub:=λb hb=>by simp at hb;simp[hb]
 frame:=λ_ _ _ st m=>⟨st.1.at λo e=>m I (by simp) o e,m d (by simp) o st.2⟩;item:=λi s Q E hi st f=>u9 st.1 st.2 hd hi λl c a=>f _ l s.toks ⟨g[i],by simp[hi],rfl⟩ ⟨c,(a.2 d j).trans st.2⟩ λb o hb e=>a.extBut b o (λh=>hb (by simp[h])) e;done:=λs Q E st f=>y8 p st.1 st.2 hd (Pq _) λl k=>f l s.toks λb o hb e=>k b o (λh=>hb (by simp[h])) e;self:=λ_ _ _ _ st f=>W9 st.1 f
theorem F_{d:Pg}{o:Qx}{c:Array Ub}{j:Nat}(b:(d==Q8)=Pc)(g:o.cls=.type "dict")(hd:o.data=.dict c j):KdlSrc prog w "dict" d d c.size (λi v=>∃e,c[i]?=O7 e/\v=e.key) (λh=>h.get? d=O7 o)where
 type:=λ_ a=>⟨o,a,g⟩;there:=λ_ a=>⟨Px a,Px a⟩;keep:=λ_ _ a k=>k d (.inl rfl) o a;notList:=by decide
 notTuple:=by decide
 hint:=λ_ _ s _ a f=>kdl_hint_dict ⟨o,a,g⟩ f;iter:=λ_ _ l a=>⟨_,_,(λ_ _ f=>u7 b a g hd f),y9 l _ d (P5 (Px a)) o c j hd,⟨⟨_,PR _ rfl,rfl,rfl⟩,Ph _ a⟩⟩
theorem tS{d:Pg}{o:Qx}{k:Array Ub}{u:Nat}{R:List O_->Pe->Prop}(p:A.handled=Pb)(j:(d==Q8)=Pc)(m:s.heap.get? d=O7 o)(q:o.cls=.type "dict")(hd:o.data=.dict k u)(n:k.size<=Pl)(h:∀(h':P7)(l:Nat),(∀b o,s.heap.get? b=O7 o->h'.get? b=O7 o)->R (k.toList.map (·.key)) {s with heap:=h',toks:=l}):wpAny (Py prog w) A (Xh (.ref d)) R E s:=by
 refine kdu_collect (F_ (prog:=prog) (w:=w) j q hd) p m n λh' l f g a=>?_;have e:f.toList=k.toList.map (·.key):=by
  apply X5;intro i;rw[PV];by_cases hi:i<k.size
  .have c:i<f.size:=by rw[a.1];exact hi
   obtain⟨e,t,r⟩:=a.2 i f[i] (by simp[c]);simp only[QY,t,Pz c,r,Su]
  .have c:f.size<=i:=by rw[a.1];omega
   simp only[QY,Rp c,Rp (Nat.not_lt.mp hi),Option.map_none]
 rw[e];exact h h' l g
end
end DictIt
end
section
namespace ST
open PySem PySem.W PyProof.Rows
theorem y_:Manifest.owners.lookup (String.ofList ['r','o','t','a','r','e','t','i','_','t','e','s'].reverse)=O7 Manifest.sig_set_iterator:=by kernel_rfl
theorem bL:Slot "set_iterator" "__next__" "set_iterator.__next__":=.of (owner:="set_iterator") (n:="__next__") (by rw[WB,UA];kernel_rfl) (by decide+kernel) (by decide+kernel) (by decide+kernel) (by first|exact .inl (by decide+kernel)|exact .inr (by decide+kernel)) (by rw[W_];kernel_rfl)
theorem i8:Slot "set_iterator" "__iter__" "set_iterator.__iter__":=.of (owner:="set_iterator") (n:="__iter__") (by rw[WB,UA];kernel_rfl) (by decide+kernel) (by decide+kernel) (by decide+kernel) (by first|exact .inl (by decide+kernel)|exact .inr (by decide+kernel)) (by rw[W_];kernel_rfl)
theorem g8:Yv table "set_iterator.__next__"=O7 Builtin.«set_iterator.__next__»:=entryFor_of_tree (by kernel_rfl)
theorem ni:Yv table "set_iterator.__iter__"=O7 Builtin.«dict_keyiterator.__iter__»:=entryFor_alias (id':="dict_keyiterator.__iter__") (by kernel_rfl) rfl (by decide+kernel) (by kernel_rfl)
theorem oX:Yv table "set.__iter__"=O7 Builtin.«frozenset.__iter__»:=entryFor_alias (id':="frozenset.__iter__") (by kernel_rfl) rfl (by decide+kernel) (by kernel_rfl)
theorem i9(a:O_):argsOk "set_iterator.__next__" ⟨[a],[]⟩:=by unfold argsOk;rw[signature?_of (id:="set_iterator.__next__") (n:=['_','_','t','x','e','n','_','_']) (o:=['r','o','t','a','r','e','t','i','_','t','e','s']) (by kernel_rfl) y_];kernel_rfl
theorem oY(a:O_):argsOk "set_iterator.__iter__" ⟨[a],[]⟩:=by unfold argsOk;rw[signature?_of (id:="set_iterator.__iter__") (n:=['_','_','r','e','t','i','_','_']) (o:=['r','o','t','a','r','e','t','i','_','t','e','s']) (by kernel_rfl) y_];kernel_rfl
theorem ly{a:Type}:∀{l:List a}{i:Nat}{x:a},l[i]?=O7 x->(x::l.eraseIdx i).Perm l
 |[],i,x,h=>by simp at h|y::l,0,x,h=>by simp at h;subst h;exact .refl _|y::l,i+1,x,h=>by
  rw[VS];exact(List.Perm.swap _ _ _).trans ((ly (by simpa using h)).cons y)
theorem u_{b:Type}(V_:Nat->Nat):∀(fuel k:Nat)(left:List b)(a:Array b),left.length<=fuel->(X6 V_ fuel k left a).toList.Perm (a.toList++left)
 |0,k,left,a,h=>by
  have:left=[]:=List.length_eq_zero_iff.mp (by omega);subst this;unfold X6;simp|fuel+1,k,left,a,h=>by
  unfold X6;cases e:left[V_ k%left.length]? with
  |none=>
   have:left=[]:=by cases left with
    |nil=>rfl|cons y l=>
     have:V_ k%(y::l).length<(y::l).length:=Wh _ (by simp);rw[PN this]at e;cases e
   subst this;simp|some x=>
   have hi:=(List.getElem?_eq_some_iff.mp e).1;have:=u_ V_ fuel (k+1) (left.eraseIdx (V_ k%left.length)) (a.push x) (by rw[Vq hi];omega);refine this.trans ?_;rw[Rt,Qj];exact(ly e).append_left _
theorem xl{a:Type}(V_:Nat->Nat)(xs:Array a):(Xi V_ xs).toList.Perm xs.toList:=by
 have:=u_ V_ xs.size 0 xs.toList #[] (by simp);simpa[Xi]using this
structure Wk(w:P0)(o:Qx)(es:Array (Int×O_))(ep:Nat)(t:QX):Prop where
 ex:o.ExactSet
 dat:o.data=.set es ep t
 EG:t.fits es.size=Pa
 rise:a_ t.place.toList
 plain:t.plain=Pa
 led:t.led=!w.params.followText "set-order"
noncomputable def fK(w:P0)(a:Pg)(b:Array (Int×O_))(c:Nat):Array (Int×O_):=if w.params.followText "set-order"then Xi (w.params.setOrder a c) b else b
theorem qS(w:P0)(a:Pg)(b:Array (Int×O_))(c:Nat):(fK w a b c).toList.Perm b.toList:=by
 unfold fK;split;.exact xl _ _
 .exact .refl _
theorem seq_size(w:P0)(a:Pg)(b:Array (Int×O_))(c:Nat):(fK w a b c).size=b.size:=by
 have:=(qS w a b c).length_eq;simpa using this
noncomputable def i_(h:P7)(it a:Pg)(b i n c:Nat):Prop:=∃o,h.get? it=O7 o/\o.cls=.type "set_iterator"/\o.data=.fields #[.int b 0,.int i 0,.ref a,.int n 0,.int c 0]
theorem i_.typeIs{s:Pe}{it a:Pg}{b i n e:Nat}(h:i_ s.heap it a b i n e):s.TypeIs (.ref it) "set_iterator":=let⟨o,c,d,_⟩:=h;⟨o,c,d⟩
section
variable{prog:PF}{w:P0}{A:P9}{E:O_->Pe->Prop}{s:Pe}{a it:Pg}{o:Qx}{es:Array (Int×O_)}{ep:Nat}{t:QX}
theorem za(W:Wk w o es ep t)(b:s.heap.get? a=O7 o){Q:O_->Pe->Prop}(d:Q (.ref s.heap.objs.size) {s with heap:=s.heap.push {cls:=.type "set_iterator",data:=.fields #[.int 0 0,.int 0 0,.ref a,.int es.size 0,.int ep 0]}}):wpAny (Py prog w) A (Ye (.ref a)) Q E s:=by
 have c:s.TypeIs (.ref a) "set":=⟨o,b,W.ex.1⟩;refine Ur c WJ (QJ WJ c oX ?_ (PySem.F.args_set_iter_1 _));unfold Builtin.«frozenset.__iter__»Builtin.Frozenset.slot0 slotArgs;simp only[TJ,Rb,P4,↓reduceIte,bind_assoc,P8,bne_self_eq_false];unfold VM Builtin.Frozenset.sizeOf setDrawn Yw;refine O9 (Pf ?_);try dsimp only
 refine O9 (Pf ?_);refine O9 (O9 (U4 b W.dat W.EG (Pf ?_)));refine O9 (O9 (Uq b W.dat W.EG ?_));dsimp only;refine O9 (O9 (Si (Pf (Pf ?_))));refine bW (if_neg ?_) ?_
 .show¬((!w.params.followText "set-order"&&(!t.plain&&decide (es.size>1)))=Pa);rw[W.plain];simp
 refine O9 (Pf (O9 (wpAny_setEpoch_of b W.dat W.EG ?_)));refine O9 (Q6 (Pf ⟨_,rfl,"set_iterator",_,⟨_,PR _ rfl,rfl⟩,bL.lookup,?_⟩));simpa[To]using d
noncomputable def lz(w:P0)(t:QX)(b i:Nat):Prop:=w.params.followText "set-order"=Pa\/PB t.place b=i
theorem tT(w:P0){t:QX}(h:a_ t.place.toList):lz w t 0 0:=by
 refine .inr ?_;obtain⟨e,b,d⟩:=fT h 0;by_cases c:PB t.place 0=0;.exact c
 .have:0<t.place.size:=by omega
  exact absurd (b 0 t.place[0] (by omega) (Pz this)) (R8 _)
theorem tU{w:P0}{t:QX}(h:a_ t.place.toList){i j:Nat}(e:t.place[i]?=O7 j):PB t.place (j+1)=i+1:=by
 obtain⟨f,d,b⟩:=fT h (j+1);have hi:=(Array.getElem?_eq_some_iff.mp e).1;rcases Sy (PB t.place (j+1)) (i+1)with c|c|c
 .have:=b i j (by omega) e;omega
 .exact c
 .have qv:i+1<t.place.size:=by omega
  have a1:=d (i+1) t.place[i+1] c (Pz qv);have g:=a_.get h (i:=i) (j:=i+1) (x:=j) (y:=t.place[i+1]) (by simpa using e) (by simp[qv]) (SJ _);omega
theorem qU(W:Wk w o es ep t){h i:Nat}(j:lz w t h i)(l:s.heap.get? a=O7 o){Q:Option (O_×Nat)->Pe->Prop}(va:∀(hi:i<es.size)d,lz w t d (i+1)->Q (O7 (((fK w a es ep)[i]'(by rw[seq_size];exact hi)).2,d)) s)(c:es.size<=i->Q Pb s):wpAny (Py prog w) A (setNext a h i ep) Q E s:=by
 unfold setNext setWalk Yw;refine O9 (Uq l W.dat W.EG ?_);dsimp only;refine O9 (O9 (Si (Pf ?_)));have f:=seq_size w a es ep;cases b:w.params.followText "set-order"with
 |true=>
  refine bW (if_pos b) ?_;refine bW (if_neg (by simp)) ?_;refine O9 (O9 (Uq l W.dat W.EG ?_));dsimp only;refine O9 (O9 (Si (Pf ?_)));refine bW (if_pos b) ?_;refine O9 (Si (Pf (Pf ?_)));have e:Xi (w.params.setOrder a ep) es=fK w a es ep:=by unfold fK;rw[if_pos b]
  show Q (((Xi (w.params.setOrder a ep) es)[i]?).map λe=>(e.2,h)) s;rw[e];by_cases hi:i<es.size
  .rw[Pz (by rw[f];exact hi)];exact va hi h (.inl b)
  .rw[Rp (by rw[f];omega)];exact c (by omega)|false=>
  refine bW (if_neg (by rw[show({program:=(Py prog w).prog,params:=(Py prog w).w.params}:Setting).params.followText "set-order"=Pc from b];exact QM)) ?_;refine bW (if_neg ?_) ?_
  .show¬((!t.plain&&decide (es.size>1))=Pa);rw[W.plain];simp
  refine O9 (bW (if_neg ?_) (Pf ?_))
  .show¬((!t.led&&!es.isEmpty)=Pa);rw[W.led,b];simp
  refine Pf ?_;rcases j with z|z;.rw[b]at z;cases z
  have e:fK w a es ep=es:=by unfold fK;rw[b];rfl
  have k:t.place.size=es.size:=by
   have:=W.EG;unfold SetTable.fits at this;rw[Pp]at this;exact beq_iff_eq.mp this.1
  rw[z];by_cases hi:i<es.size
  .have g:i<t.place.size:=by rw[k];exact hi
   have:=va hi (t.place[i]+1) (.inr (tU (w:=w) W.rise (Pz g)));rw[Pz hi,Pz g];simpa only[e]using this
  .rw[Rp (by omega:es.size<=i)];exact c (by omega)
end
end ST
end
section
namespace ST
open PySem PySem.W PyProof.Rows
section
variable{prog:PF}{w:P0}{A:P9}{E:O_->Pe->Prop}{s:Pe}{a it:Pg}{o:Qx}{es:Array (Int×O_)}{ep:Nat}{t:QX}
theorem Cz(W:Wk w o es ep t){l i:Nat}(j:lz w t l i)(e:i_ s.heap it a l i es.size ep)(m:s.heap.get? a=O7 o)(h:i<es.size){Q:Option O_->Pe->Prop}(p:∀h' b,lz w t b (i+1)->i_ h' it a b (i+1) es.size ep->Ri it s.heap h'->Q (O7 ((fK w a es ep)[i]'(by rw[seq_size];exact h)).2) {s with heap:=h'}):wpAny (Py prog w) A (UE (.ref it)) Q E s:=by
 obtain⟨q,d,n,hd⟩:=id e;unfold UE;refine O9 (UM (SN (name:=O8 "__next__") e.typeIs bL (QJ bL e.typeIs g8 ?_ (i9 _))));unfold Builtin.«set_iterator.__next__»slotArgs;simp only[TJ,Rb,P4,↓reduceIte,bind_assoc,P8,bne_self_eq_false];refine O9 (Pf ?_);refine O9 (Vo d hd ?_);show wpAny _ _ (setEntries a>>=_) _ _ s;refine O9 (U4 m W.dat W.EG ?_);rw[if_neg (by simp)];refine O9 (qU W (by simpa using j) m (λhi b c=>?_) λz=>absurd h (Nat.not_lt.mpr (by simpa using z)));simp only[Uj]at c;show wpAny _ _ (W8 (.ref it) 0 (To (b:Int))>>=_) _ _ s;refine O9 (Sl d hd (by simp) ?_);have yh:i_ (s.heap.update it (RH (·.setIfInBounds 0 (To (b:Int))))) it a b i es.size ep:=⟨_,Qu _ d (Rw (QN hd _)),(Us ..).trans n,by rw[QN hd];simp[To]⟩;obtain⟨r,g,k,f⟩:=id yh;show wpAny _ _ (W8 (.ref it) 1 (To ((i:Int)+1))>>=_) _ _ _;refine O9 (Sl (s:={s with heap:=_}) g f (by simp) ?_);have qv:i_ ((s.heap.update it (RH (·.setIfInBounds 0 (To (b:Int))))).update it (RH (·.setIfInBounds 1 (To ((i:Int)+1))))) it a b (i+1) es.size ep:=⟨_,Qu _ g (Rw (QN f _)),(Us ..).trans k,by rw[QN f];simp[To]⟩;have:=p _ b c qv ((Qz ..).trans (Qz ..));exact Pf ⟨_,rfl,Pf this⟩
theorem Ga(l:A.handled=Pb)(W:Wk w o es ep t){g i:Nat}(e:lz w t g i)(c:i_ s.heap it a g i es.size ep)(j:s.heap.get? a=O7 o)(f:es.size<=i){Q:Option O_->Pe->Prop}(n:∀h',Heap.ExtBut it s.heap h'->Q Pb {s with heap:=h'}):wpAny (Py prog w) A (UE (.ref it)) Q E s:=by
 obtain⟨p,d,q,hd⟩:=id c;unfold UE;refine O9 (UM (SN (name:=O8 "__next__") c.typeIs bL (QJ bL c.typeIs g8 ?_ (i9 _))));unfold Builtin.«set_iterator.__next__»slotArgs;simp only[TJ,Rb,P4,↓reduceIte,bind_assoc,P8,bne_self_eq_false];refine O9 (Pf ?_);refine O9 (Vo d hd ?_);show wpAny _ _ (setEntries a>>=_) _ _ s;refine O9 (U4 j W.dat W.EG ?_);rw[if_neg (by simp)];refine O9 (qU W (by simpa using e) j (λhi k h=>absurd hi (Nat.not_lt.mpr (by simpa using f))) λ_=>?_);show wpAny _ _ (W8 (.ref it) 2 .none>>=_) _ _ s;refine O9 (Sl d hd (by simp) ?_);show wpAny _ _ (newExc (.type "StopIteration") []>>=_) _ _ _;refine O9 ?_;simp only[newExc,newTuple];refine O9 (Q6 ?_ (by size_fits));refine O9 (m:=Vp _ _) (VE (a:=Qc) (by first|rfl|(simp only[Vp];rfl)) ?_);refine Q6 ?_ (by size_fits);simp only[raiseNew];refine O9 (wpAny_handled ?_);rw[show A.in1.handled=Pb from l];refine O9 (Pf (wpAny_throw ?_));refine O9 (SI (T:="StopIteration") (b:=Pa) ⟨_,PR _ rfl,rfl⟩ isSubtype_stop ?_);exact Pf (n _ (((Qz ..).extBut.push _).push _))
theorem CA{c i n:Nat}(b:i_ s.heap it a c i n ep){Q:O_->Pe->Prop}(h:Q (.ref it) s):wpAny (Py prog w) A (Ye (.ref it)) Q E s:=by
 refine Ur b.typeIs i8 (QJ i8 b.typeIs ni ?_ (oY _));show wpAny _ _ (YC (.ref it)) _ _ s;exact Pf ⟨_,rfl,"set_iterator",_,b.typeIs,bL.lookup,h⟩
theorem zb{r:Pg}{Q:Bool->Pe->Prop}(e:s.TypeIs (.ref r) "set")(h:Q Pc s):wpAny (Py prog w) A (U7 (.ref r)) Q E s:=by
 unfold U7;refine O9 (Ta e PySem.F.slot_set_len.lookup ?_);generalize d:("set.__len__":String)=id0;wp_delta;rw[show splitId id0=O7 ("set","__len__")from by subst d;decide+kernel];subst d;refine O9 (SI (T:="set") (b:=Pa) e (by rw[W_];kernel_rfl) ?_);refine wpAny_ite_split (λc=>absurd c (by decide)) (λ_=>?_);refine wpAny_ite_split (λ_=>?_) (λc=>absurd (by decide+kernel) c);refine O9 (Wo e ?_);exact Pf h
noncomputable def Ka(w:P0)(a:Pg)(es:Array (Int×O_))(ep:Nat)(i:Nat)(v:O_):Prop:=∃e,(fK w a es ep)[i]?=O7 e/\v=e.2
theorem zc(v:A.handled=Pb)(I:Pg)(n:a≠I)(W:Wk w o es ep t):Walks prog w A I [I,a] [I] es.size (Ka w a es ep) (λi h=>(∃c,lz w t c i/\i_ h I a c i es.size ep)/\h.get? a=O7 o)where
 sub:=λb hb=>by simp at hb;simp[hb]
 frame:=λ_ _ _⟨⟨c,f,u,d,x⟩,st⟩r=>⟨⟨c,f,u,r I (by simp) _ d,x⟩,r a (by simp) o st⟩;item:=λi s Q E hi⟨⟨c,f,d⟩,st⟩l=>Cz W f d st hi λq m g k j=>l _ q s.toks ⟨_,Pz (by rw[seq_size];exact hi),rfl⟩ ⟨⟨m,g,k⟩,(j.2 a n).trans st⟩ λb o hb e=>j.extBut b o (λh=>hb (by simp[h])) e;done:=λs Q E⟨⟨c,f,d⟩,st⟩l=>Ga v W f d st (Pq _) λq p=>l q s.toks λb o hb e=>p b o (λh=>hb (by simp[h])) e;self:=λ_ _ _ _⟨⟨c,f,d⟩,st⟩l=>CA d l
theorem CB(W:Wk w o es ep t):KdlSrc prog w "set" a a es.size (Ka w a es ep) (λh=>h.get? a=O7 o)where
 type:=λ_ b=>⟨o,b,W.ex.1⟩;there:=λ_ b=>⟨Px b,Px b⟩;keep:=λ_ _ b d=>d a (.inl rfl) o b;notList:=by decide
 notTuple:=by decide
 hint:=λ_ _ s _ b c=>zb ⟨o,b,W.ex.1⟩ c;iter:=λ_ _ e b=>⟨_,_,(λ_ _ c=>za W b c),zc e _ (P5 (Px b)) W,⟨⟨0,tT w W.rise,_,PR _ rfl,rfl,rfl⟩,Ph _ b⟩⟩
theorem qV(W:Wk w o es ep t)(n:A.handled=Pb)(l:s.heap.get? a=O7 o)(m:es.size<=Pl){R:List O_->Pe->Prop}(h:∀(h':P7)(j:Nat)(vs:List O_),(∀b o,s.heap.get? b=O7 o->h'.get? b=O7 o)->vs.Perm (es.toList.map (·.2))->R vs {s with heap:=h',toks:=j}):wpAny (Py prog w) A (Xh (.ref a)) R E s:=by
 refine kdu_collect (CB (prog:=prog) W) n l m λh' j d g c=>?_;have k:=seq_size w a es ep;have e:d.toList=(fK w a es ep).toList.map (·.2):=by
  apply X5;intro i;rw[PV];by_cases hi:i<es.size
  .have f:i<d.size:=by rw[c.1];exact hi
   obtain⟨e,q,p⟩:=c.2 i d[i] (by simp[f]);simp only[QY,q,Pz f,p,Su]
  .have f:d.size<=i:=by rw[c.1];omega
   simp only[QY,Rp f,Rp (show(fK w a es ep).size<=i by omega),Option.map_none]
 exact h h' j d.toList g (by rw[e];exact(qS w a es ep).map _)
end
end ST
end
section
namespace L2
open PySem PySem.Spec PyProof.Rows
noncomputable def nN(P:PF)(w:P0)(o:Qx)(xs:List (Int×V7)):Prop:=o.data≠.freed/\(∀v,o.data≠.cell v)/\∀(h:P7)(a:Pg),h.get? a=O7 o->∃t,ST.td P w h a xs t
theorem nN.of{P:PF}{w:P0}{h:P7}{a:Pg}{o:Qx}{xs:List (Int×V7)}{t:QX}(S:ST.td P w h a xs t)(e:h.get? a=O7 o):nN P w o xs:=by
 obtain⟨i,d,f,c,hex,hd,b⟩:=S.ob;rw[e]at c;cases c;exact⟨λz=>(by rw[hd]at z;cases z),λv z=>(by rw[hd]at z;cases z),λj k g=>⟨t,⟨o,d,f,g,hex,hd,b⟩,S.tab,S.Ji,S.nd,S.led,S.plain⟩⟩
noncomputable def jN(w:P0):Qx:={cls:=.type "set",dict:=Pb,data:=.set #[] 0 (.fresh 0 0 (!w.params.followText "set-order"))}
theorem CC{prog:PF}{w:P0}{A:P9}{E:O_->Pe->Prop}{s:Pe}{Q:O_->Pe->Prop}(h:Q (.ref s.heap.objs.size) {s with heap:=s.heap.push (jN w)}):wpAny (Py prog w) A (newSet (.type "set")) Q E s:=by
 unfold newSet Yw;refine O9 (O9 (Si (Pf ?_)));dsimp only;simp only[newObj];exact O9 (wpAny_alloc (Pf h))
theorem CD(P:PF)(w:P0):nN P w (jN w) []:=by
 refine⟨(λz=>nomatch z),(λv z=>nomatch z),λh a e=>⟨_,⟨_,_,_,e,⟨rfl,rfl,rfl⟩,rfl,rfl⟩,?_,(by show 0*5<7*3;omega),.nil,rfl,rfl⟩⟩;exact⟨.inl rfl,.nil,rfl,rfl,λi j e=>(by simp[SetTable.fresh]at e),Qb _,λi h j e=>(by simp at e)⟩
section
variable{prog:PF}{w:P0}{A:P9}{E:O_->Pe->Prop}{s:Pe}
open ST
theorem td.typeIs{a:Pg}{xs:List (Int×V7)}{t:QX}(S:td prog w s.heap a xs t):s.TypeIs (.ref a) "set":=let⟨o,_,_,b,c,_⟩:=S.ob;⟨o,b,c.1⟩
theorem oZ{a:Pg}{xs:List (Int×V7)}{t:QX}{i:Int}{d:V7}{Q:O_->Pe->Prop}(S:td prog w s.heap a xs t)(j:xs.length<306)(f:i∈xs.map (·.1)->∀d,Q .none {s with toks:=d})(new:i∉xs.map (·.1)->∀h' b t' e,Ri a s.heap h'->td prog w h' a b t'->b.Perm ((i,d)::xs)->Q .none {s with heap:=h',toks:=e}):wpAny (Py prog w) A (call (.builtin "set.add") [.ref a,.int i d]) Q E s:=by
 refine QJ Xa (td.typeIs S) PySem.F.entry_set_add ?_ (PySem.F.args_set_add_2 _ _);unfold Builtin.«set.add»Builtin.Frozenset.oneOther;simp only[TJ,bind_assoc];unfold VM setAdd;refine O9 (Pf ?_);try dsimp only
 refine O9 (Pf ?_);try dsimp only
 refine O9 (Qn (O9 ((Qr prog w).pyHash (Tt _ _ _ _) ?_)));refine u4 (A:=A.in1) (s:={s with toks:=s.toks+1}) S j (λg=>?_) λc h' b t' sb k h=>?_
 .show wpAny _ _ (YC Qc) _ _ _;exact Pf ⟨_,rfl,f g _⟩
 .show wpAny _ _ (YC Qc) _ _ _;exact Pf ⟨_,rfl,new c h' b t' _ sb k h⟩
theorem tV{a:Pg}{xs:List (Int×V7)}{t:QX}{i:Int}{e:V7}{Q:Bool->Pe->Prop}(S:td prog w s.heap a xs t)(g:xs.length<306)(d:i∈xs.map (·.1)->Q Pc {s with toks:=s.toks+1})(new:i∉xs.map (·.1)->∀h' b t',Ri a s.heap h'->td prog w h' a b t'->b.Perm ((i,e)::xs)->Q Pa {s with heap:=h',toks:=s.toks+1}):wpAny (Py prog w) A (setAdd a (.int i e)) Q E s:=by
 unfold setAdd;refine Qn (O9 ((Qr prog w).pyHash (Tt _ _ _ _) ?_));exact u4 (s:={s with toks:=s.toks+1}) S g d λc h' b t' sb h f=>new c h' b t' sb h f
end
section
variable{prog:PF}{w:P0}
open ST in
theorem td.setOf{h:P7}{a:Pg}{xs:List (Int×V7)}{t:QX}(S:ST.td prog w h a xs t)(p:xs.length<=511):h.SetOf (Qr prog w) a (λi=>decide (i∈xs.map (·.1))) xs.length:=by
 obtain⟨o,f,n,j,hex,hd,b⟩:=S.ob;have c:f.size=xs.length:=by have:=congrArg RZ b;simpa using this
 refine⟨o,f,n,t,j,hex,hd,by rw[b];exact ST.u0 xs,λk=>?_,by unfold scanBound;omega,ST.fits_of S.tab (by rw[c,Pk]),c⟩;rw[decide_eq_true_eq,b];constructor
 .intro l;obtain⟨x,d,rfl⟩:=List.mem_map.mp l;exact⟨_,SF d,Tt _ _ _ _⟩
 .rintro⟨e,m,g⟩;obtain⟨x,d,rfl⟩:=List.mem_map.mp m;have:k=x.1:=(Qr prog w).inj _ _ _ g (Tt _ _ _ _);rw[this];exact SF d
end
inductive D where|bH|bl(b:Bool)|int(i:Int)|str(x:PX)|tup(xs:List D)|lst(xs:List D)|aE(ks vs:List D)|exc(c:Pg)(nm:List D)|aM(xs:List Int)
inductive W where|d(x:D)|feed|own(d:D)
abbrev ag:=List (Option W)
structure Xc where
 x:D
 en:ag
structure M(α:Type)where
 run:Nat->(α->Nat->Prop)->(Xc->Nat->Prop)->Prop
 mono:∀{k Q Q' E E'},run k Q E->(∀a k,Q a k->Q' a k)->(∀x k,E x k->E' x k)->run k Q' E'
namespace M
variable{α β:Type}
protected def pure(a:α):M α:=⟨λk Q _=>Q a k,λh q _=>q _ _ h⟩
protected def bind(m:M α)(f:α->M β):M β:=⟨λk Q E=>m.run k (λa k'=>(f a).run k' Q E) E,λh q e=>m.mono h (λa k' h=>(f a).mono h q e) e⟩
instance:Monad M where
 pure:=M.pure;bind:=M.bind
noncomputable def fail:M α:=⟨λ_ _ _=>False,λh _ _=>h⟩
noncomputable def need(P:Prop):M Unit:=⟨λk Q _=>P/\Q () k,λh q _=>⟨h.1,q _ _ h.2⟩⟩
noncomputable def any(P:α->Prop):M α:=⟨λk Q _=>∀a,P a->Q a k,λh q _ a p=>q _ _ (h a p)⟩
noncomputable def throw(x:Xc):M α:=⟨λk _ E=>E x k,λh _ e=>e _ _ h⟩
noncomputable def tick(n:Nat):M Unit:=⟨λk Q _=>k+n<=1000000/\∀c,k<=c->c<=k+n->Q () c,λh q _=>⟨h.1,λc a b=>q _ _ (h.2 c a b)⟩⟩
noncomputable def get(o:Option α):M α:=match o with
 |some a=>pure a|none=>fail
theorem run_bind{m:M α}{f:α->M β}{k Q E}:(m>>=f).run k Q E=m.run k (λa b=>(f a).run b Q E) E:=rfl
theorem run_get{o:Option α}{k Q E}:(get o).run k Q E↔∃a,o=O7 a/\Q a k:=by cases o with
 |none=>exact⟨λh=>h.elim,λ⟨a,h,_⟩=>nomatch h⟩|some a=>exact⟨λh=>⟨a,rfl,h⟩,λ⟨b,h,q⟩=>by cases h;exact q⟩
end M
structure cF(H:Hp)(p q:Pg)(ns:List Int)(i r:Int):Prop where
 ob:H p=O7 (.lst [.ref q,.int i,.int r])cs:∃o,H q=O7 (.bQ o (.lst (ns.map V.int)))ne:q≠p
 i0:0<=i
 r0:0<=r
 ln:ns.length<=63
noncomputable def lA(H:Hp)(p q:Pg)(k:Nat):Prop:=∃ns i r,cF H p q ns i r/\i<=(k:Int)
noncomputable def Jj(H:Hp)(p:Pg)(k:Nat):Prop:=∃q,lA H p q k
theorem lA.same{H H':Hp}{p q:Pg}{k:Nat}(F:lA H p q k)(h:tM H H'):lA H' p q k:=by
 obtain⟨ns,i,r,⟨f,⟨o,e⟩,d,c,b,a⟩,hi⟩:=F;exact⟨ns,i,r,⟨h _ _ f,⟨o,h _ _ e⟩,d,c,b,a⟩,hi⟩
structure Fb where
 K:Pj
 p:Pg
 P:PF
 w:P0
structure Fx extends Fb where
 H0:Hp
 k0:Nat
 E:Xc->Nat->Prop
 Hs:Hp
 ks:Nat
noncomputable def Gb(H:Hp)(a:Pg)(xs:List V):Prop:=∃o,H a=O7 (.bQ o (.lst xs))
theorem Gb.sq{K:Pj}{H:Hp}{a:Pg}{xs:List V}(h:Gb H a xs):d5 K H a xs:=.inl (.inr h)
noncomputable def TupAt(F:Fb)(H:Hp)(a:Pg)(xs:List V):Prop:=a≠F.p/\kq F.K H a xs
noncomputable def LstAt(F:Fb)(H:Hp)(a:Pg)(xs:List V):Prop:=a≠F.p/\Gb H a xs
theorem Gc{X:Cx}{pins:List (Pg×Qx)}{σ:St}{H:Hp}{s:Pe}{a:Pg}{ks:List Key}(I:Inv X pins σ H s)(h:kq X.K H a (ks.map kV)):IsTupleKey (aq X.prog X.w) s.heap ks a:=by
 obtain⟨b,r,⟨o,e,d,n,c⟩,_⟩:=I.tuple h;exact⟨o,b.toArray,n,e,d,c,by simpa using nG r⟩
noncomputable def kD:Key->D
 |.inl i=>.int i|.inr x=>.str x
noncomputable def nD:NK->D
 |.inl k=>kD k|.inr ks=>.tup (ks.map kD)
noncomputable def Jk(F:Fb)(H:Hp):V->NK->Prop
 |v,.inl k=>v=kV k|v,.inr ks=>∃b,v=.ref b/\TupAt F H b (ks.map kV)
noncomputable def eV(F:Fb)(H:Hp)(a:Pg)(ks:List NK):Prop:=∃b,TupAt F H a b/\Paired (Jk F H) b ks
noncomputable def ja(P:PF)(w:P0)(o:Qx)(us:List (Key×O_)):Prop:=∃a b,o.ExactDict/\o.data=.dict a b/\KeysOf (aq P w) a/\Pairs (aq P w) a.toList us/\(us.map (·.1)).Nodup
noncomputable def jO(P:PF)(w:P0)(o:Qx)(xs:List (List NK×Pg×O_)):Prop:=∃a b,o.ExactDict/\o.data=.dict a b/\a.toList=xs.map (Yn (bR P w))/\(xs.map (·.1)).Nodup
noncomputable def KA:List (List NK×Pg×V)->List (List NK×Pg×O_)->Prop:=Paired λp q=>p.1=q.1/\p.2.1=q.2.1/\RelV p.2.2 q.2.2
noncomputable def bG(F:Fb)(H:Hp)(o:Qx)(ks:List D)(vs:List V):Prop:=ks.length<=Pl/\((∃(a:List (Key×V))(c:List (Key×O_)),KV a c/\ja F.P F.w o c/\ks=a.map (λx=>kD x.1)/\vs=a.map (·.2))\/(∃(a:List (List NK×Pg×V))(b:List (List NK×Pg×O_)),KA a b/\jO F.P F.w o b/\(∀x∈a,eV F H x.2.1 x.1)/\ks=a.map (λx=>D.tup (x.1.map nD))/\vs=a.map (·.2.2)))
noncomputable def xm(F:Fb)(H:Hp)(a:Pg)(o:Qx):Prop:=a≠F.p/\(a==Q8)=Pc/\((∃u,H a=O7 (.bQ o u))\/F.K.lookup a=O7 o)
noncomputable def vb(F:Fb)(H:Hp)(a:Pg)(ks:List D)(vs:List V):Prop:=∃o,xm F H a o/\bG F H o ks vs
noncomputable def fV(a:Pg)(o:Qx):HO:=.ext λh=>h.get? a=O7 o
noncomputable def CF(F:Fb)(H:Hp)(a c:Pg):List V->Prop
 |[]=>a≠F.p/\∃ob u,H a=O7 (.bQ ob u)/\ob.cls=.ref c/\(∃b,ob.data=.fields b)|[v]=>a≠F.p/\∃ob u d e,H a=O7 (.bQ ob u)/\ob.cls=.ref c/\(∃b,ob.data=.fields b)/\ob.dict=O7 d/\d≠F.p/\H d=O7 (.bQ e (.xd [("name",v)]))|_=>False
noncomputable def fv(F:Fb)(o:Qx)(xs:List Int):Prop:=∃a,nN F.P F.w o a/\(a.map (·.1)).Perm xs
noncomputable def Gd(F:Fb)(H:Hp)(a:Pg)(xs:List Int):Prop:=a≠F.p/\∃o u,H a=O7 (.bQ o u)/\fv F o xs
mutual
noncomputable def Is(F:Fb)(H:Hp):V->D->Prop
 |v,.bH=>v=.bH|v,.bl b=>v=.bl b|v,.int i=>v=.int i|v,.str x=>v=.str x|v,.tup e=>∃a d,v=.ref a/\TupAt F H a d/\af F H d e|v,.lst e=>∃a d,v=.ref a/\LstAt F H a d/\af F H d e|v,.aE ks e=>∃a d,v=.ref a/\vb F H a ks d/\af F H d e|v,.exc c e=>∃a d,v=.ref a/\CF F H a c d/\af F H d e|v,.aM d=>∃a,v=.ref a/\Gd F H a d
noncomputable def af(F:Fb)(H:Hp):List V->List D->Prop
 |xs,[]=>xs=[]|xs,d::b=>∃x a,xs=x::a/\Is F H x d/\af F H a b
end
noncomputable def HO.nO:HO->Bool
 |.tup _=>Pa|.bQ _ _=>Pa|_=>Pc
structure Kp(F:Fb)(H:Hp)(k:Nat)(H':Hp)(k':Nat):Prop where
 keep:∀a o,a≠F.p->o.nO=Pa->H a=O7 o->H' a=O7 o
 live:H F.p≠Pb->H' F.p≠Pb
 le:k<=k'
 dO:∀q,lA H F.p q k->lA H' F.p q k'
structure Ext(F:Fb)(H:Hp)(k:Nat)(H':Hp)(k':Nat):Prop where
 keep:∀a o,a≠F.p->H a=O7 o->H' a=O7 o
 live:H F.p≠Pb->H' F.p≠Pb
 le:k<=k'
 dO:∀q,lA H F.p q k->lA H' F.p q k'
section
variable{F:Fb}{H H1 H2 H':Hp}{k k1 k2 k':Nat}
theorem Ext.kp(e:Ext F H k H' k'):Kp F H k H' k':=⟨λa o h _ q=>e.keep a o h q,e.live,e.le,e.dO⟩
theorem Ext.feed(e:Ext F H k H' k'):Jj H F.p k->Jj H' F.p k':=λ⟨q,h⟩=>⟨q,e.dO q h⟩
theorem Kp.feed(e:Kp F H k H' k'):Jj H F.p k->Jj H' F.p k':=λ⟨q,h⟩=>⟨q,e.dO q h⟩
theorem Ext.refl:Ext F H k H k:=⟨λ_ _ _ h=>h,λh=>h,Pq _,λ_ h=>h⟩
theorem Kp.refl:Kp F H k H k:=Ext.refl.kp
theorem Ext.trans(a:Ext F H k H1 k1)(b:Ext F H1 k1 H2 k2):Ext F H k H2 k2:=⟨λc o d h=>b.keep c o d (a.keep c o d h),λh=>b.live (a.live h),Qa a.le b.le,λq h=>b.dO q (a.dO q h)⟩
theorem Kp.trans(a:Kp F H k H1 k1)(b:Kp F H1 k1 H2 k2):Kp F H k H2 k2:=⟨λc o d s h=>b.keep c o d s (a.keep c o d s h),λh=>b.live (a.live h),Qa a.le b.le,λq h=>b.dO q (a.dO q h)⟩
theorem xp(h:tM H H'):H F.p≠Pb->H' F.p≠Pb:=λn z=>n (by cases e:H F.p with
 |none=>rfl|some o=>rw[h _ _ e]at z;cases z)
theorem Ext.of(h:tM H H'):Ext F H k H' k:=⟨λa o _ e=>h a o e,xp h,Pq _,λ_ f=>f.same h⟩
theorem zd{a:Pg}{o:HO}(h:H a=Pb):tM H (upd H a o):=λb u e=>by rw[ai (aF e h)];exact e
theorem Ext.new{a:Pg}{o:HO}(h:H a=Pb):Ext F H k (upd H a o) k:=.of (zd h)
theorem iB{a:Pg}(l:H F.p≠Pb)(h:H a=Pb):a≠F.p:=λz=>l (z▸h)
theorem TupAt.mono{a:Pg}{xs:List V}(h:TupAt F H a xs)(e:Kp F H k H' k'):TupAt F H' a xs:=by
 refine⟨h.1,?_⟩;rcases h.2 with b|b
 .refine .inl ?_;rcases b with b|⟨o,b⟩;.exact .inl (e.keep _ _ h.1 rfl b)
  .exact .inr ⟨o,e.keep _ _ h.1 rfl b⟩
 .exact .inr b
theorem eV.mono{a:Pg}{ks:List NK}(h:eV F H a ks)(e:Kp F H k H' k'):eV F H' a ks:=by
 obtain⟨f,i,g⟩:=h;refine⟨f,i.mono e,Paired.Fp g λv n z=>?_⟩;cases n with
 |inl k=>exact z|inr ks=>obtain⟨b,d,c⟩:=z;exact⟨b,d,c.mono e⟩
theorem LstAt.mono{a:Pg}{xs:List V}(h:LstAt F H a xs)(e:Kp F H k H' k'):LstAt F H' a xs:=by
 refine⟨h.1,?_⟩;obtain⟨o,b⟩:=h.2;exact⟨o,e.keep _ _ h.1 rfl b⟩
theorem xm.mono{a:Pg}{o:Qx}(h:xm F H a o)(e:Kp F H k H' k'):xm F H' a o:=by
 obtain⟨c,d,b⟩:=h;refine⟨c,d,?_⟩;rcases b with⟨u,b⟩|b;.exact .inl ⟨u,e.keep _ _ c rfl b⟩
 .exact .inr b
theorem bG.mono{o:Qx}{ks:List D}{xs:List V}(h:bG F H o ks xs)(e:Kp F H k H' k'):bG F H' o ks xs:=by
 obtain⟨b,h⟩:=h;refine⟨b,?_⟩;rcases h with h|⟨a,xs,i,g,f,d⟩;.exact .inl h
 .exact .inr ⟨a,xs,i,g,λx c=>(f x c).mono e,d⟩
theorem vb.mono{a:Pg}{ks:List D}{xs:List V}(h:vb F H a ks xs)(e:Kp F H k H' k'):vb F H' a ks xs:=let⟨o,c,b⟩:=h;⟨o,c.mono e,b.mono e⟩
theorem CF.mono{a c:Pg}{xs:List V}(h:CF F H a c xs)(e:Kp F H k H' k'):CF F H' a c xs:=by match xs,h with
 |[],⟨b,ob,u,f,d⟩=>exact⟨b,ob,u,e.keep _ _ b rfl f,d⟩|[v],⟨b,ob,u,n,i,f,d,m,l,g,j⟩=>exact⟨b,ob,u,n,i,e.keep _ _ b rfl f,d,m,l,g,e.keep _ _ g rfl j⟩
mutual
theorem Is.mono(e:Kp F H k H' k'):∀{v:V}{d:D},Is F H v d->Is F H' v d
 |_,.bH,h=>by simp only[Is]at h⊢;exact h|_,.bl _,h=>by simp only[Is]at h⊢;exact h|_,.int _,h=>by simp only[Is]at h⊢;exact h|_,.str _,h=>by simp only[Is]at h⊢;exact h|_,.tup _,h=>by
  simp only[Is]at h⊢;obtain⟨a,g,f,b,c⟩:=h;exact⟨a,g,f,b.mono e,af.mono e c⟩|_,.lst _,h=>by
  simp only[Is]at h⊢;obtain⟨a,g,f,b,c⟩:=h;exact⟨a,g,f,b.mono e,af.mono e c⟩|_,.aE _ _,h=>by
  simp only[Is]at h⊢;obtain⟨a,g,f,b,c⟩:=h;exact⟨a,g,f,b.mono e,af.mono e c⟩|_,.exc _ _,h=>by
  simp only[Is]at h⊢;obtain⟨a,g,f,b,c⟩:=h;exact⟨a,g,f,b.mono e,af.mono e c⟩|_,.aM _,h=>by
  simp only[Is]at h⊢;obtain⟨a,f,b,o,u,c,i⟩:=h;exact⟨a,f,b,o,u,e.keep _ _ b rfl c,i⟩
theorem af.mono(e:Kp F H k H' k'):∀{xs:List V}{ds:List D},af F H xs ds->af F H' xs ds
 |_,[],h=>by simp only[af]at h⊢;exact h|_,d::ds,h=>by
  simp only[af]at h⊢;obtain⟨x,a,f,c,b⟩:=h;exact⟨x,a,f,Is.mono e c,af.mono e b⟩
end
theorem af.nil:af F H [] []:=by simp only[af]
theorem af.cons{x:V}{xs:List V}{d:D}{ds:List D}(h:Is F H x d)(t:af F H xs ds):af F H (x::xs) (d::ds):=by simp only[af];exact⟨x,xs,rfl,h,t⟩
theorem af.length:∀{xs:List V}{ds:List D},af F H xs ds->xs.length=ds.length
 |_,[],h=>by simp only[af]at h;rw[h];rfl|_,d::ds,h=>by
  simp only[af]at h;obtain⟨x,b,rfl,_,a⟩:=h;simp[af.length a]
theorem af.append:∀{xs a:List V}{ds b:List D},af F H xs ds->af F H a b->af F H (xs++a) (ds++b)
 |_,_,[],_,h,t=>by simp only[af]at h;rw[h];exact t|_,_,d::ds,_,h,t=>by
  simp only[af]at h;obtain⟨x,a,rfl,e,c⟩:=h;exact .cons e (af.append c t)
theorem af.get:∀{xs:List V}{ds:List D}{i:Nat}{d:D},af F H xs ds->ds[i]?=O7 d->∃x,xs[i]?=O7 x/\Is F H x d
 |_,[],_,_,_,e=>by simp at e|_,c::ds,i,d,h,e=>by
  simp only[af]at h;obtain⟨x,f,rfl,b,a⟩:=h;cases i with
  |zero=>simp at e;subst e;exact⟨x,rfl,b⟩|succ i=>simpa using af.get (i:=i) a (by simpa using e)
end
noncomputable def lB(F:Fb)(H:Hp)(a:Pg):D->Prop
 |.lst c=>∃b,H a=O7 (.lst b)/\af F H b c|.aE ks c=>∃o b,H a=O7 (fV a o)/\(a==Q8)=Pc/\bG F H o ks b/\af F H b c|.aM b=>∃o,H a=O7 (fV a o)/\fv F o b|_=>False
noncomputable def jb(F:Fx)(H:Hp)(a:Pg)(d:D):Prop:=a≠F.p/\F.H0 a=Pb/\lB F.toFb H a d
noncomputable def Jl(F:Fx)(H:Hp)(k:Nat):V->W->Prop
 |v,.d x=>Is F.toFb H v x|v,.feed=>v=.ref F.p/\Jj H F.p k|v,.own d=>∃a,v=.ref a/\jb F H a d
inductive A where|d(x:D)|feed
noncomputable def A.w:A->W
 |.d x=>.d x|.feed=>.feed
noncomputable def Jm(F:Fb)(H:Hp)(k:Nat):V->A->Prop
 |v,.d x=>Is F H v x|v,.feed=>v=.ref F.p/\Jj H F.p k
noncomputable abbrev xq(F:Fb)(H:Hp)(k:Nat):List V->List A->Prop:=Paired (Jm F H k)
section
variable{F:Fx}{H H1 H2 H':Hp}{k k1 k2 k':Nat}
theorem lB.keep{B:Fb}{a:Pg}{d:D}(h:lB B H a d)(e:Kp B H k H' k')(ha:∀o,H a=O7 o->H' a=O7 o):lB B H' a d:=by cases d with
 |lst j=>obtain⟨f,c,b⟩:=h;exact⟨f,ha _ c,b.mono e⟩|aE ks j=>obtain⟨o,f,c,b,i,g⟩:=h;exact⟨o,f,ha _ c,b,i.mono e,g.mono e⟩|aM f=>obtain⟨o,c,b⟩:=h;exact⟨o,ha _ c,b⟩|_=>exact h.elim
theorem jb.mono{a:Pg}{d:D}(h:jb F H a d)(e:Ext F.toFb H k H' k'):jb F H' a d:=⟨h.1,h.2.1,h.2.2.keep e.kp λo q=>e.keep a o h.1 q⟩
theorem Jl.mono{v:V}{x:W}(h:Jl F H k v x)(e:Ext F.toFb H k H' k'):Jl F H' k' v x:=by cases x with
 |d x=>exact Is.mono e.kp h|feed=>exact⟨h.1,e.feed h.2⟩|own d=>
  obtain⟨a,c,b⟩:=h;exact⟨a,c,b.mono e⟩
theorem Jm.w{v:V}{x:A}(h:Jm F.toFb H k v x):Jl F H k v x.w:=by cases x<;>exact h
end
noncomputable def W.ze:W->Bool
 |.own _=>Pa|_=>Pc
structure cg(F:Fx)(ρ:ag)(k:Nat)(σ:St)(H:Hp):Prop where
 len:ρ.length=σ.length
 at_:∀(i:Nat)(d:W),ρ[i]?=O7 (O7 d)->∃v,σ[i]?=O7 (O7 v)/\Jl F H k v d
 apart:∀(i j:Nat)(d e:W)(v:V),i≠j->ρ[i]?=O7 (O7 d)->ρ[j]?=O7 (O7 e)->d.ze=Pa->e.ze=Pa->σ[i]?=O7 (O7 v)->σ[j]?≠O7 (O7 v)live:H F.p≠Pb
 ext:Ext F.toFb F.H0 F.k0 H k
 kJ:Kp F.toFb F.Hs F.ks H k
theorem cg.mono{F:Fx}{ρ:ag}{k a:Nat}{σ:St}{H H':Hp}(h:cg F ρ k σ H)(e:Ext F.toFb H k H' a):cg F ρ a σ H' where
 len:=h.len;at_:=λi d q=>let⟨v,c,b⟩:=h.at_ i d q;⟨v,c,b.mono e⟩;apart:=h.apart;live:=e.live h.live;ext:=h.ext.trans e;kJ:=h.kJ.trans e.kp
noncomputable def qE(F:Fb)(H:Hp)(k:Nat)(Q:V->Hp->Prop):D->Nat->Prop:=λd b=>∀v a,Ext F H k a b->Is F a v d->Q v a
noncomputable def qT(F:Fb)(H:Hp)(k:Nat)(Q:Bool->Hp->Prop):Bool->Nat->Prop:=λb c=>∀a,Ext F H k a c->Q b a
noncomputable def qA(F:Fb)(H:Hp)(k:Nat)(Q:List V->Hp->Prop):List A->Nat->Prop:=λd c=>∀b a,Ext F H k a c->xq F a c b d->Q b a
noncomputable def di(F:Fx)(t:ag->M D):TE:=λb H Q=>∃a k,cg F a k b H/\(t a).run k (qE F.toFb H k Q) F.E
noncomputable def qW(F:Fx)(t:ag->M Bool):TT:=λb H Q=>∃a k,cg F a k b H/\(t a).run k (qT F.toFb H k Q) F.E
noncomputable def qY(F:Fx)(t:ag->M (List A)):TA:=λb H Q=>∃a k,cg F a k b H/\(t a).run k (qA F.toFb H k Q) F.E
structure DE(X:Cx)(F:Fx)(e:PC)(t:ag->M D):Prop where
 hK:X.K=F.K
 pe:PE X e (di F t)
structure DT(X:Cx)(F:Fx)(e:PC)(t:ag->M Bool):Prop where
 hK:X.K=F.K
 pt:PT X e (qW F t)
structure DA(X:Cx)(F:Fx)(es:List PC)(t:ag->M (List A)):Prop where
 hK:X.K=F.K
 pa:PA X es (qY F t)
inductive Fl where|nx(ρ:ag)|rt(d:D)|bk(ρ:ag)|ct(ρ:ag)
noncomputable def xr(F:Fx)(Z:Ends)(H:Hp)(k:Nat)(f:Fl)(c:Nat):Prop:=match f with
 |.nx e=>∀b a,Kp F.toFb H k a c->cg F e c b a->Z.nx b a|.rt d=>∀v a,Ext F.toFb F.H0 F.k0 a c->Is F.toFb a v d->Z.rt v a|.bk e=>∀b a,Kp F.toFb H k a c->cg F e c b a->Z.bk b a|.ct e=>∀b a,Kp F.toFb H k a c->cg F e c b a->Z.ct b a
noncomputable def M_(F:Fx)(t:ag->M Fl):TS:=λZ b H=>∃a k,cg F a k b H/\(t a).run k (xr F Z H k) F.E
structure DS(X:Cx)(F:Fx)(st:RP)(t:ag->M Fl):Prop where
 hK:X.K=F.K
 ps:PS X st (M_ F t)
structure xt(X:Cx)(F:Fx)(st:List RP)(t:ag->M Fl):Prop where
 hK:X.K=F.K
 ps:qt X st (M_ F t)
theorem xr.mono{F:Fx}{Z:Ends}{H H':Hp}{k g j:Nat}{c:Fl}(e:Kp F.toFb H k H' g)(h:xr F Z H k c j):xr F Z H' g c j:=by cases c with
 |nx f=>exactλa b q S=>h a b (e.trans q) S|rt d=>exact h|bk f=>exactλa b q S=>h a b (e.trans q) S|ct f=>exactλa b q S=>h a b (e.trans q) S
section
variable{X:Cx}
theorem PE.imp{e:PC}{t t':TE}(h:PE X e t)(q:∀σ H Q,t' σ H Q->t σ H Q):PE X e t':=λa s σ H Q I z=>h a s σ H Q I (q σ H Q z)
theorem PT.imp{e:PC}{t t':TT}(h:PT X e t)(q:∀σ H Q,t' σ H Q->t σ H Q):PT X e t':=λa s σ H Q I z=>h a s σ H Q I (q σ H Q z)
theorem PW.imp{e:PC}{t t':TT}(h:PW X e t)(q:∀σ H Q,t' σ H Q->t σ H Q):PW X e t':=λw a s σ H Q I z=>h w a s σ H Q I (q σ H Q z)
theorem PA.imp{e:List PC}{t t':TA}(h:PA X e t)(q:∀σ H Q,t' σ H Q->t σ H Q):PA X e t':=λpos a s σ H Q I z=>h pos a s σ H Q I (q σ H Q z)
theorem PS.imp{e:RP}{t t':TS}(h:PS X e t)(q:∀D σ H,t' D σ H->t D σ H):PS X e t':=λa s σ H D I z=>h a s σ H D I (q D σ H z)
theorem qt.imp{e:List RP}{t t':TS}(h:qt X e t)(q:∀D σ H,t' D σ H->t D σ H):qt X e t':=λa s σ H D I z=>h a s σ H D I (q D σ H z)
end
theorem di.next{F:Fx}{t:ag->M D}{σ:St}{H:Hp}{ρ:ag}{k:Nat}{R:D->Nat->Prop}{Q:V->Hp->Prop}(S:cg F ρ k σ H)(h:(t ρ).run k R F.E)(q:∀d a v H',Ext F.toFb H k H' a->cg F ρ a σ H'->Is F.toFb H' v d->R d a->Q v H'):di F t σ H Q:=⟨ρ,k,S,(t ρ).mono h (λd a r v H' e i=>q d a v H' e (S.mono e) i r) λ_ _ z=>z⟩
theorem qW.next{F:Fx}{t:ag->M Bool}{σ:St}{H:Hp}{ρ:ag}{k:Nat}{R:Bool->Nat->Prop}{Q:Bool->Hp->Prop}(S:cg F ρ k σ H)(h:(t ρ).run k R F.E)(q:∀b a H',Ext F.toFb H k H' a->cg F ρ a σ H'->R b a->Q b H'):qW F t σ H Q:=⟨ρ,k,S,(t ρ).mono h (λb a r H' e=>q b a H' e (S.mono e) r) λ_ _ z=>z⟩
theorem qY.next{F:Fx}{t:ag->M (List A)}{σ:St}{H:Hp}{ρ:ag}{k:Nat}{R:List A->Nat->Prop}{Q:List V->Hp->Prop}(S:cg F ρ k σ H)(h:(t ρ).run k R F.E)(q:∀ds a vs H',Ext F.toFb H k H' a->cg F ρ a σ H'->xq F.toFb H' a vs ds->R ds a->Q vs H'):qY F t σ H Q:=⟨ρ,k,S,(t ρ).mono h (λds a r vs H' e i=>q ds a vs H' e (S.mono e) i r) λ_ _ z=>z⟩
noncomputable def fO(ρ:ag)(i:Nat):Option D:=match ρ[i]? with
 |some (O7 (.d x))=>O7 x|_=>Pb
theorem o_{ρ:ag}{i:Nat}{x:D}(h:fO ρ i=O7 x):ρ[i]?=O7 (O7 (.d x)):=by
 unfold fO at h;split at h;.rename_i y e;cases h;exact e
 .cases h
noncomputable def iC:D->M Bool
 |.bl b=>pure b|_=>M.fail
noncomputable def fb:D->M Int
 |.int i=>pure i|_=>M.fail
theorem fw{d:D}{k Q E}:(iC d).run k Q E↔∃b,d=.bl b/\Q b k:=by cases d with
 |bl b=>exact⟨λh=>⟨b,rfl,h⟩,λ⟨c,e,h⟩=>by cases e;exact h⟩|_=>exact⟨λh=>h.elim,λ⟨c,e,h⟩=>nomatch e⟩
theorem aN{d:D}{k Q E}:(fb d).run k Q E↔∃b,d=.int b/\Q b k:=by cases d with
 |int b=>exact⟨λh=>⟨b,rfl,h⟩,λ⟨c,e,h⟩=>by cases e;exact h⟩|_=>exact⟨λh=>h.elim,λ⟨c,e,h⟩=>nomatch e⟩
section
variable{X:Cx}{F:Fx}{a b c e:PC}{es rest:List PC}{pos:Ro}{ta tb tc:ag->M D}
theorem zf(i:Nat){x:PX}{pos:Ro}(hN:X.N[i]?=O7 x:=by rfl)(g:s_ X.env.scope x:=by first|exact Ul rfl|exact Vg (Ul rfl)|exact Vg (Vg rfl))(hd:(x==("__debug__":PX))=Pc:=by decide)(f:(x==("__classdict__":PX))=Pc:=by decide)(hK:X.K=F.K:=by rfl):DE X F (.Name x pos) (λρ=>M.get (fO ρ i)):=by
 refine⟨hK,(dg hN g hd f).imp λo H Q⟨ρ,k,S,h⟩=>?_⟩;obtain⟨d,n,m⟩:=M.run_get.mp h;obtain⟨v,l,j⟩:=S.at_ i _ (o_ n);exact⟨v,l,m v H .refl j⟩
theorem Ge{i j pos}(hK:X.K=F.K:=by rfl):DE X F (.Constant (.int i) j pos) (λ_=>pure (.int i)):=⟨hK,aG.imp λd H Q⟨f,k,S,h⟩=>h _ H .refl (by simp only[Is])⟩
theorem Kb{i j pos}(hK:X.K=F.K:=by rfl):DE X F (.Constant (.bool i) j pos) (λ_=>pure (.bl i)):=⟨hK,Ew.imp λd H Q⟨f,k,S,h⟩=>h _ H .refl (by simp only[Is])⟩
theorem Gf{j pos}(hK:X.K=F.K:=by rfl):DE X F (.Constant .none j pos) (λ_=>pure .bH):=⟨hK,Ft.imp λd H Q⟨f,k,S,h⟩=>h _ H .refl (by simp only[Is])⟩
theorem Gg{i j pos}(hK:X.K=F.K:=by rfl):DE X F (.Constant (.str i) j pos) (λ_=>pure (.str i)):=⟨hK,Fu.imp λd H Q⟨f,k,S,h⟩=>h _ H .refl (by simp only[Is])⟩
structure gV(X:Cx)(F:Fx)(f:O_->O_->Vy O_)(m:D->D->M D):Prop where
 op:∀(pins:List (Pg×Qx))(s:Pe)(σ:St)(H:Hp)(k:Nat)(x y:V)(v u:O_)(d e:D)(Q:VK),Inv X pins σ H s->RelV x v->RelV y u->H F.p≠Pb->X.K=F.K->Is F.toFb H x d->Is F.toFb H y e->(m d e).run k (qE F.toFb H k Q) F.E->wpAny (Py X.prog X.w) X.A (f v u) (EP X pins σ Q) X.xe s
noncomputable def Kc(F:Fx)(m:D->D->M D):R2:=λx y H Q=>∃k d e,H F.p≠Pb/\Is F.toFb H x d/\Is F.toFb H y e/\(m d e).run k (qE F.toFb H k Q) F.E
theorem gV.Kd{f:O_->O_->Vy O_}{m:D->D->M D}(h:gV X F f m)(hK:X.K=F.K):kW X f (Kc F m):=λg s i H x y v u Q I n j⟨k,d,e,l,p,o,q⟩=>h.op g s i H k x y v u d e Q I n j l hK p o q
theorem gV.of{f:O_->O_->Vy O_}{m:D->D->M D}{r:R2}(h:kW X f r)(q:X.K=F.K->∀H k x y d e Q,H F.p≠Pb->Is F.toFb H x d->Is F.toFb H y e->(m d e).run k (qE F.toFb H k Q) F.E->r x y H Q):gV X F f m:=⟨λg s i H k x y v u d e Q I n j l hK t o z=>h g s i H x y v u Q I n j (q hK H k x y d e Q l t o z)⟩
theorem qE.ext{B:Fb}{H f:Hp}{k k1:Nat}{Q:V->Hp->Prop}{d:D}{j:Nat}(e:Ext B H k f k1)(h:qE B H k Q d j):qE B f k1 Q d j:=λv l g i=>h v l (e.trans g) i
theorem qT.ext{B:Fb}{H f:Hp}{k k1:Nat}{Q:Bool->Hp->Prop}{d:Bool}{j:Nat}(e:Ext B H k f k1)(h:qT B H k Q d j):qT B f k1 Q d j:=λi g=>h i (e.trans g)
theorem M.wk{d:Type}{m:M d}{k Q Q' E}(h:m.run k Q E)(q:∀a k,Q a k->Q' a k):m.run k Q' E:=m.mono h q λ_ _ z=>z
theorem vc{m:D->D->M D}{σ:St}{H:Hp}{Q:VK}(h:di F (λρ=>do let d<-ta ρ;let e<-tb ρ;m d e) σ H Q):JL (Kc F m) (di F ta) (di F tb) σ H Q:=by
 obtain⟨ρ,k,S,h⟩:=h;refine di.next S h λd t v w o r j n=>?_;refine di.next r n λp g s u f q i l=>?_;exact⟨g,d,p,q.live,j.mono f.kp,i,M.wk l λ_ _ z=>z.ext (o.trans f)⟩
theorem Ke{op:WS}{m:D->D->M D}(f:gV X F (Sb op) m)(ha:DE X F a ta)(hb:DE X F b tb):DE X F (.BinOp a op b pos) (λρ=>do let d<-ta ρ;let e<-tb ρ;m d e):=⟨ha.hK,(bw (f.Kd ha.hK) ha.pe hb.pe).imp λg H Q h=>vc h⟩
theorem Gh{op:UO}{m:D->D->M D}(f:gV X F (QB op) m)(ha:DE X F a ta)(hb:DE X F b tb)(g:Te op b=Pc:=by first|exact jJ _|with_unfolding_all rfl):DE X F (.Compare a [op] [b] pos) (λρ=>do let d<-ta ρ;let e<-tb ρ;m d e):=⟨ha.hK,(BZ (f.Kd ha.hK) ha.pe hb.pe g).imp λi H Q h=>vc h⟩
theorem CG{t:ag->M D}{σ:St}{H:Hp}{Q:Bool->Hp->Prop}(h:qW F (λρ=>do iC (<-t ρ)) σ H Q):EC (di F t) σ H Q:=by
 obtain⟨ρ,k,S,h⟩:=h;refine di.next S h λd l v j i m g f=>?_;obtain⟨c,rfl,f⟩:=fw.mp f;simp only[Is]at g;exact⟨c,g,f j i⟩
theorem Gi{op:UO}{m:D->D->M D}(f:gV X F (QB op) m)(ha:DE X F a ta)(hb:DE X F b tb)(g:Te op b=Pc:=by first|exact jJ _|with_unfolding_all rfl):DT X F (.Compare a [op] [b] pos) (λρ=>do iC (<-(do let d<-ta ρ;let e<-tb ρ;m d e))):=⟨ha.hK,(iX (f.Kd ha.hK) ha.pe hb.pe g).imp λi H Q h=>by
  obtain⟨ρ,k,S,h⟩:=CG (t:=λρ=>do let d<-ta ρ;let e<-tb ρ;m d e) h;exact vc ⟨ρ,k,S,h⟩⟩
noncomputable def zg(m g:D->D->M D)(ta tb tc:ag->M D)(ρ:ag):M D:=do
 let d<-ta ρ;let e<-tb ρ;let r<-m d e;let y<-iC r;if y then do let f<-tc ρ;g e f else pure (.bl Pc)
theorem zh{m j:D->D->M D}{σ:St}{H:Hp}{Q:VK}(h:di F (zg m j ta tb tc) σ H Q):yA (Kc F m) (Kc F j) (di F ta) (di F tb) (di F tc) σ H Q:=by
 obtain⟨J,k,S,h⟩:=h;refine di.next S h λd P v U p G x B=>?_;refine di.next G B λq u N T i s n A=>?_;refine⟨u,d,q,s.live,x.mono i.kp,n,M.wk A λr O f L I g l=>?_⟩;obtain⟨c,rfl,f⟩:=fw.mp f;simp only[Is]at l;refine⟨c,l,?_⟩;cases c with
 |false=>exact f _ I ((p.trans i).trans g) (by simp only[Is])|true=>
  refine di.next (s.mono g) f λC t K R o E w y=>?_;exact⟨t,q,C,E.live,n.mono (g.trans o).kp,w,M.wk y λ_ _ z=>z.ext (((p.trans i).trans g).trans o)⟩
theorem zi{op d:UO}{m g:D->D->M D}(i:gV X F (QB op) m)(f:gV X F (QB d) g)(ha:DE X F a ta)(hb:DE X F b tb)(k:DE X F c tc)(j:lastMarks [op,d] [b,c]=Pc:=by with_unfolding_all rfl):DE X F (.Compare a [op,d] [b,c] pos) (zg m g ta tb tc):=⟨ha.hK,(yB (i.Kd ha.hK) (f.Kd ha.hK) ha.pe hb.pe k.pe j).imp λl H Q h=>zh h⟩
noncomputable def mI(C:Int->Int->Prop)(g:Int->Int->D):D->D->M D:=λd e=>do
 let i<-fb d;let j<-fb e;M.need (C i j)pure (g i j)
noncomputable def Jn(g:Int->Int->D):D->D->M D:=λd e=>do
 let i<-fb d;let j<-fb e;pure (g i j)
theorem zj{f:O_->O_->Vy O_}{C:Int->Int->Prop}{g:Int->Int->Int}(h:kW X f (rI C λi j=>.int (g i j))):gV X F f (mI C λi j=>.int (g i j)):=.of h λhK H k x y d e Q l n m q=>by
  obtain⟨i,rfl,q⟩:=aN.mp q;obtain⟨j,rfl,q⟩:=aN.mp q;simp only[Is]at n m;exact⟨i,j,n,m,q.1,q.2 _ H .refl (by simp only[Is])⟩
theorem zk{f:O_->O_->Vy O_}{g:Int->Int->Bool}(h:kW X f (Ez λi j=>.bl (g i j))):gV X F f (Jn λi j=>.bl (g i j)):=.of h λhK H k x y d e Q l n m q=>by
  obtain⟨i,rfl,q⟩:=aN.mp q;obtain⟨j,rfl,q⟩:=aN.mp q;simp only[Is]at n m;exact⟨i,j,n,m,q _ H .refl (by simp only[Is])⟩
theorem Gj:gV X F (Sb .Mult) (mI BY λi j=>.int (i*j)):=zj iq
theorem Gk:gV X F (Sb .Mod) (mI (λ_ j=>0<j) λi j=>.int (i%j)):=zj eS
theorem Gm:gV X F (Sb .Pow) (mI JN λi j=>.int (i^j.toNat)):=zj yz
theorem Kf:gV X F (QB .Lt) (Jn λi j=>.bl (decide (i<j))):=zk EA
theorem Kg:gV X F (QB .LtE) (Jn λi j=>.bl (decide (i<=j))):=zk JO
noncomputable def lC:D->Bool
 |.bH=>Pa|_=>Pc
theorem zl{B:Fb}{H:Hp}{v:V}{d:D}(h:Is B H v d):decide (v=.bH)=lC d:=by cases d with
 |bH=>simp only[Is]at h;rw[h];rfl|bl b=>simp only[Is]at h;rw[h];rfl|int i=>simp only[Is]at h;rw[h];rfl|str x=>simp only[Is]at h;rw[h];rfl|tup g=>simp only[Is]at h;obtain⟨a,f,h,_⟩:=h;rw[h];rfl|lst g=>simp only[Is]at h;obtain⟨a,f,h,_⟩:=h;rw[h];rfl|aE ks g=>simp only[Is]at h;obtain⟨a,f,h,_⟩:=h;rw[h];rfl|exc c g=>simp only[Is]at h;obtain⟨a,f,h,_⟩:=h;rw[h];rfl|aM f=>simp only[Is]at h;obtain⟨a,h,_⟩:=h;rw[h];rfl
noncomputable def Na(neg:Bool):D->D->M D:=λd e=>do
 M.need (lC e=Pa)pure (.bl (if neg then !lC d else lC d))
theorem zm{B:Fb}{H:Hp}{v:V}{e:D}(h:lC e=Pa)(i:Is B H v e):v=.bH:=by cases e<;>first|(simp only[Is]at i;exact i)|cases h
theorem Gn:gV X F (QB .Is) (Na Pc):=.of FO λhK H k x y d e Q l g f q=>⟨zm q.1 f,by rw[zl g];exact q.2 _ H .refl (by simp only[Is];rfl)⟩
noncomputable def Nb(ta tb:ag->M D)(ρ:ag):M D:=do
 let b<-iC (<-ta ρ)if b then tb ρ else pure (.bl Pc)
theorem Gp{op}(h:DE X F a ta):DE X F (.BoolOp op [a] pos) ta:=⟨h.hK,Fy h.pe⟩
theorem Gq(ha:DE X F a ta)(hb:DE X F (.BoolOp .And (b::rest) pos) tb):DE X F (.BoolOp .And (a::b::rest) pos) (Nb ta tb):=⟨ha.hK,(Fz ha.pe hb.pe).imp λp H Q g=>by
  obtain⟨l,k,S,h⟩:=g;refine di.next S h λd m v o j n i f=>?_;obtain⟨c,rfl,f⟩:=fw.mp f;simp only[Is]at i;refine⟨c,i,?_⟩;cases c with
  |true=>exact⟨l,m,n,M.wk f λ_ _ z=>z.ext j⟩|false=>exact f _ o j (by simp only[Is])⟩
theorem Gu(ha:DE X F a ta):DE X F (.UnaryOp .Not a pos) (λρ=>do let b<-iC (<-ta ρ);pure (.bl (!b))):=⟨ha.hK,(FA ha.pe).imp λm H Q f=>by
  obtain⟨ρ,k,S,h⟩:=f;refine di.next S h λd n v l j o i g=>?_;obtain⟨c,rfl,g⟩:=fw.mp g;simp only[Is]at i;exact⟨c,i,g _ l j (by simp only[Is])⟩⟩
structure yi(X:Cx)(F:Fx)(e:PC)(t:ag->M Bool):Prop where
 hK:X.K=F.K
 pw:PW X e (qW F t)
theorem yi.dt{t:ag->M Bool}(h:yi X F e t):DT X F e t:=⟨h.hK,h.pw.pt⟩
variable{tA tB:ag->M Bool}
noncomputable def Nc(ta tb:ag->M Bool)(ρ:ag):M Bool:=do
 let b<-ta ρ;if b then tb ρ else pure Pc
noncomputable def OF(ta tb:ag->M Bool)(ρ:ag):M Bool:=do
 let b<-ta ρ;if b then pure Pa else tb ρ
theorem CH(ha:DT X F a tA):yi X F (.BoolOp .And [a] pos) tA:=⟨ha.hK,uJ ha.pt⟩
theorem Gw(ha:DT X F a tA):yi X F (.BoolOp .Or [a] pos) tA:=⟨ha.hK,Fv ha.pt⟩
theorem Gx(ha:DT X F a tA)(hb:yi X F (.BoolOp .And (b::rest) pos) tB):yi X F (.BoolOp .And (a::b::rest) pos) (Nc tA tB):=⟨ha.hK,(yt ha.pt hb.pw).imp λn H Q d=>by
  obtain⟨i,k,S,h⟩:=d;refine qW.next S h λc j m g l f=>?_;cases c with
  |true=>exact⟨i,j,l,M.wk f λ_ _ z=>z.ext g⟩|false=>exact f m g⟩
theorem Kh(ha:DT X F a tA)(hb:yi X F (.BoolOp .Or (b::rest) pos) tB):yi X F (.BoolOp .Or (a::b::rest) pos) (OF tA tB):=⟨ha.hK,(JC ha.pt hb.pw).imp λn H Q d=>by
  obtain⟨i,k,S,h⟩:=d;refine qW.next S h λc j m g l f=>?_;cases c with
  |false=>exact⟨i,j,l,M.wk f λ_ _ z=>z.ext g⟩|true=>exact f m g⟩
theorem Gy(ha:DT X F a tA):DT X F (.UnaryOp .Not a pos) (λρ=>do let b<-tA ρ;pure (!b)):=⟨ha.hK,(Fw ha.pt).imp λj H Q d=>by
  obtain⟨ρ,k,S,h⟩:=d;refine qW.next S h λc l i g m f=>?_;exact f i g⟩
variable{tas:ag->M (List A)}
theorem Gz(hK:X.K=F.K:=by rfl):DA X F [] (λ_=>pure []):=⟨hK,dh.imp λd H Q⟨f,k,S,h⟩=>h [] H .refl .nil⟩
theorem CI(ha:DE X F e ta)(n:DA X F es tas)(hs:PL (e::es) X.env=(Pc,Rz e X.env)::PL es X.env:=by rfl):DA X F (e::es) (λρ=>do let d<-ta ρ;let r<-tas ρ;pure (.d d::r)):=⟨ha.hK,(be ha.pe n.pa hs).imp λt H Q f=>by
  obtain⟨ρ,k,S,h⟩:=f;refine di.next S h λd w v z q s m p=>?_;refine qY.next s p λx j u i g y l o=>?_;exact o _ i (q.trans g) (.cons (show Jm F.toFb i j v (.d d)from m.mono g.kp) l)⟩
theorem CJ(i:Nat){x:PX}{pos:Ro}(g:DA X F es tas)(hN:X.N[i]?=O7 x:=by rfl)(p:s_ X.env.scope x:=by first|exact Ul rfl|exact Vg (Ul rfl)|exact Vg (Vg rfl))(hd:(x==("__debug__":PX))=Pc:=by decide)(f:(x==("__classdict__":PX))=Pc:=by decide)(hs:PL (.Name x pos::es) X.env=(Pc,Rz (.Name x pos) X.env)::PL es X.env:=by rfl):DA X F (.Name x pos::es) (λρ=>do M.need (ρ[i]?=O7 (O7 .feed));let r<-tas ρ;pure (.feed::r)):=⟨g.hK,(be (dg hN p hd f) g.pa hs).imp λt H Q d=>by
  obtain⟨ρ,k,S,h⟩:=d;obtain⟨v,q,j⟩:=S.at_ i _ h.1;refine⟨v,q,?_⟩;refine qY.next S h.2 λw n u m l y o s=>?_;exact s _ m l (.cons (show Jm F.toFb m n v .feed from⟨j.1,l.feed j.2⟩) o)⟩
noncomputable def iD:List A->M (List D)
 |[]=>pure []|.d x::r=>do let f<-iD r;pure (x::f)|.feed::_=>M.fail
theorem bS:∀{as:List A}{k Q E},(iD as).run k Q E->∃ds,as=ds.map A.d/\Q ds k
 |[],_,_,_,h=>⟨[],rfl,h⟩|.d x::r,k,Q,E,h=>by
  obtain⟨ds,e,q⟩:=bS (as:=r) h;exact⟨x::ds,by rw[e];rfl,q⟩|.feed::_,_,_,_,h=>h.elim
theorem bT{B:Fb}{H:Hp}{k:Nat}:∀{vs:List V}{ds:List D},xq B H k vs (ds.map A.d)->af B H vs ds
 |_,[],h=>by cases h;exact .nil|_,d::ds,h=>by cases h with|cons r t=>exact .cons r (bT t)
theorem GA{x1}(h:DA X F es tas):DE X F (.Tuple es x1 pos) (λρ=>do let ds<-iD (<-tas ρ);M.need (ds.length<=Pl);pure (.tup ds)):=⟨h.hK,(FR h.pa).imp λp H Q f=>by
  obtain⟨ρ,k,S,h⟩:=f;refine qY.next S h λas l j q n o d m=>?_;obtain⟨ds,rfl,i⟩:=bS m;have d:=bT d;refine⟨by rw[d.length];exact i.1,λt g=>i.2 _ _ (n.trans (.new g)) ?_⟩;simp only[Is];exact⟨t,j,rfl,⟨iB o.live g,.of ah⟩,d.mono (Ext.new (k:=l) g).kp⟩⟩
end
end L2
end
section
namespace L2
open PySem PySem.Spec PySem.W PyProof.Rows SortM
section
variable{X:Cx}{pins:List (Pg×Qx)}{σ:St}{H:Hp}{s:Pe}
theorem lD:∀{a:List (Key×V)}{vs:List (Key×O_)}{f:List Ub}{prog:PF}{w:P0},KV a vs->Pairs (aq prog w) f vs->ar (a.map λg=>kV g.1) (f.map (·.key))
 |_,_,_,_,_,.nil,.nil=>.nil|_,_,_,_,_,.cons ⟨e,_⟩ t,.cons h _ r=>by
  refine .cons ?_ (lD t r);dsimp only;rw[e];obtain⟨i,b,d,c⟩|⟨x,b,d,c⟩:=aR h;.rw[d,c];exact⟨b,rfl⟩
  .rw[d,c];exact⟨b,rfl⟩
theorem Inv.freeze{a:Pg}{o:Qx}{u:HO}(I:Inv X pins σ H s)(hu:H a=O7 u)(k:s.heap.get? a=O7 o)(nt:∀xs,u≠.tup xs)(g:∀b v,u≠.bQ b v)(h:∀ps,u≠.yg ps)(no:∀x,u≠.own x):Inv X pins σ (upd H a (.bQ o u)) s:=by
 have ne:∀{b:Pg},H b=Pb->b≠a:=λ{b}n z=>by rw[z,hu]at n;cases n
 have tp:∀b xs,H b=O7 (.tup xs)->(upd H a (.bQ o u)) b=O7 (.tup xs):=λb xs e=>by rw[ai (λz=>by rw[z,hu]at e;cases e;exact nt _ rfl)];exact e
 have f:∀b x,H b=O7 (.own x)->(upd H a (.bQ o u)) b=O7 (.own x):=λb x e=>by rw[ai (λz=>by rw[z,hu]at e;cases e;exact no _ rfl)];exact e
 refine⟨I.ok,I.os,I.bare,⟨I.base.keep,I.base.slot,λb ob e n i=>?_,I.base.there,λb xs e=>tp b xs (I.base.ic b xs e),λb ob v e=>?_,λb ps e=>?_⟩,I.loc,I.cell,?_,λx c e=>?_,λp j=>?_,λb v e=>?_,I.len⟩
 .have:=I.base.free b ob e n i;rw[ai (ne this)];exact this
 .have q:=I.base.gR b ob v e;rw[ai (λz=>by rw[z,hu]at q;cases q;exact g _ _ rfl)];exact q
 .obtain⟨d,q⟩:=I.base.ie b ps e;exact⟨d,by rw[ai (λz=>by rw[z,hu]at q;cases q;exact h _ rfl)];exact q⟩
 .rw[ai (ne I.free)];exact I.free
 .rw[ai (ne (I.cQ x c e))];exact I.cQ x c e
 .obtain⟨e,n,r⟩:=I.pin p j;exact⟨e,by rw[ai (ne n)];exact n,r⟩
 .by_cases hb:b=a
  .subst hb;rw[ah]at e;cases e;exact⟨k,(I.aH b u hu).h_ (λ_ _ _ q=>q) (λc q=>f c _ q) tp⟩
  .rw[ai hb]at e;exact(I.aH b v e).h_ (λ_ _ _ q=>q) (λc q=>f c _ q) tp
end
section
variable{X:Cx}{F:Fx}{a b c e:PC}{es rest:List PC}{pos:Ro}{ta tb tc:ag->M D}{tas:ag->M (List A)}
theorem zo{t:TE}(h:PE X e t):PE X e (λσ H Q=>t σ H λv g=>∃a xs,v=.ref a/\g a=O7 (.lst xs)/\∀o,Q v (upd g a (.bQ o (.lst xs)))):=by
 intro d s σ H Q I q;refine bp (h d s σ H _ I q) λu m f=>?_;obtain⟨v,g,i,r,a,xs,e,ha,j⟩:=f;obtain⟨_,k,n,p,l⟩:=i.aH a _ ha;exact⟨v,_,i.freeze ha l (λ_ z=>nomatch z) (λ_ _ z=>nomatch z) (λ_ z=>nomatch z) (λ_ z=>nomatch z),r,j _⟩
theorem cR{B:Fb}{H:Hp}{k:Nat}{l:Pg}{vs:List V}{ds:List D}{o:Qx}(lv:H B.p≠Pb)(d:H l=Pb)(i:af B H vs ds):Is B (upd H l (.bQ o (.lst vs))) (.ref l) (.lst ds):=by
 simp only[Is];exact⟨l,vs,rfl,⟨iB lv d,⟨o,ah⟩⟩,i.mono (Ext.new (k:=k) d).kp⟩
theorem iE{B:Fb}{H:Hp}{k:Nat}{l:Pg}{vs:List V}{ds:List D}(lv:H B.p≠Pb)(d:H l=Pb)(i:af B H vs ds):Is B (upd H l (.tup vs)) (.ref l) (.tup ds):=by
 simp only[Is];exact⟨l,vs,rfl,⟨iB lv d,.of ah⟩,i.mono (Ext.new (k:=k) d).kp⟩
theorem GB(h:DA X F es tas):DE X F (.List es pos) (λρ=>do let ds<-iD (<-tas ρ);M.need (ds.length<=Pl);pure (.lst ds)):=⟨h.hK,(zo (tE h.pa)).imp λq H Q f=>by
  obtain⟨ρ,k,S,h⟩:=f;refine qY.next S h λas l j r n p d m=>?_;obtain⟨ds,rfl,i⟩:=bS m;have d:=bT d;refine⟨by rw[d.length];exact i.1,λt g=>⟨t,j,rfl,ah,λo=>?_⟩⟩;rw[bF];exact i.2 _ _ (n.trans (.new g)) (cR (k:=l) p.live g d)⟩
noncomputable def items:D->Option (List D)
 |.tup d=>O7 d|.lst d=>O7 d|_=>Pb
theorem zp{B:Fb}{H:Hp}{vs:List V}{ds:List D}{i:Int}{d:D}(h:af B H vs ds)(e:fj ds i=O7 d):∃v,fj vs i=O7 v/\Is B H v d:=by
 unfold fj at e⊢;rw[h.length];cases q:BM ds.length i with
 |none=>rw[q]at e;cases e|some j=>
  rw[q]at e;exact h.get e
noncomputable def Ki(x:PX)(i:Int):Option D:=(fj x.cps.toList i).map λc=>.str ⟨#[c]⟩
noncomputable def N_:D->D->M D:=λd e=>do
 let i<-fb e;match d with
 |.tup f=>M.get (fj f i)|.lst f=>M.get (fj f i)|.str x=>do M.need (x.length<=Pl);M.get (Ki x i)|_=>M.fail
structure Mr(X:Cx)(F:Fx)(m:D->D->M D):Prop where ix:X.K=F.K->BN X (Kc F m)
theorem CK:Mr X F N_:=⟨λhK g j n s J H x y v u Q I N L h P=>by
 refine FX g j n s J H x y v u Q I N L ?_ P;obtain⟨k,d,e,l,m,p,q⟩:=h;obtain⟨i,rfl,q⟩:=aN.mp q;simp only[Is]at p;cases d with
 |tup K=>
  obtain⟨z,f,o⟩:=M.run_get.mp q;simp only[Is]at m;obtain⟨a,r,G,E,C⟩:=m;obtain⟨w,B,t⟩:=zp C f;exact .inr (.inl ⟨a,r,i,w,G,p,by rw[hK];exact E.2,B,o w H .refl t⟩)|lst K=>
  obtain⟨z,f,o⟩:=M.run_get.mp q;simp only[Is]at m;obtain⟨a,r,G,E,C⟩:=m;obtain⟨w,B,t⟩:=zp C f;exact .inl ⟨a,r,i,w,G,p,by rw[hK];exact E.2.sq,B,o w H .refl t⟩|str x=>
  obtain⟨O,q⟩:=q;obtain⟨z,f,o⟩:=M.run_get.mp q;simp only[Is]at m;unfold Ki at f;cases q:fj x.cps.toList i with
  |none=>rw[q]at f;cases f|some c=>
   rw[q]at f;cases f;exact .inr (.inr ⟨x,i,c,m,p,O,q,o _ H .refl (by simp only[Is])⟩)
 |_=>exact q.elim⟩
theorem Kj{m:D->D->M D}(f:Mr X F m)(ha:DE X F a ta)(hb:DE X F b tb)(hs:oQ b:=by intro _ _;rfl):DE X F (.Subscript a b pos) (λρ=>do let d<-ta ρ;let e<-tb ρ;m d e):=⟨ha.hK,(gX (f.ix ha.hK) ha.pe hb.pe hs).imp λg H Q h=>vc h⟩
structure bo(X:Cx)(F:Fx)(f:O_)(m:List D->M D):Prop where
 call:∀(pins:List (Pg×Qx))(s:Pe)(σ:St)(H:Hp)(k:Nat)(xs:List V)(us:List O_)(ds:List D)(Q:VK),Inv X pins σ H s->ar xs us->H F.p≠Pb->X.K=F.K->af F.toFb H xs ds->(m ds).run k (qE F.toFb H k Q) F.E->wpAny (Py X.prog X.w) X.A (Ts f us) (EP X pins σ Q) X.xe s
noncomputable def EH(F:Fx)(m:List D->M D):List V->Hp->VK->Prop:=λf H Q=>∃k d,H F.p≠Pb/\af F.toFb H f d/\(m d).run k (qE F.toFb H k Q) F.E
theorem bo.EI{f:O_}{m:List D->M D}(h:bo X F f m)(hK:X.K=F.K):e8 X f (EH F m):=λd s g H j n Q I r⟨k,o,l,i,q⟩=>h.call d s g H k j n o Q I r l hK i q
theorem bo.of{f:O_}{m:List D->M D}{r:List V->Hp->VK->Prop}(h:e8 X f r)(q:X.K=F.K->∀H k xs ds Q,H F.p≠Pb->af F.toFb H xs ds->(m ds).run k (qE F.toFb H k Q) F.E->r xs H Q):bo X F f m:=⟨λd s g H k xs j ds Q I n l hK i z=>h d s g H xs j Q I n (q hK H k xs ds Q l i z)⟩
theorem vd{m:List D->M D}{σ:St}{H:Hp}{Q:VK}(h:di F (λρ=>do m (<-iD (<-tas ρ))) σ H Q):M3 (EH F m) (qY F tas) σ H Q:=by
 obtain⟨ρ,k,S,h⟩:=h;refine qY.next S h λas d o p j n f i=>?_;obtain⟨l,rfl,g⟩:=bS i;exact⟨d,l,n.live,bT f,M.wk g λ_ _ z=>z.ext j⟩
theorem zr{id:String}{x:PX}{m:List D->M D}{p:Ro}(n:bo X F (.builtin id) m)(j:X.mg x=Pb)(g:Ry x=O7 (.builtin id))(ha:DA X F (e::es) tas)(k:Gl X x:=by rfl)(i:x≠"__name__":=by decide)(f:(x==("__debug__":PX))=Pc:=by decide)(l:PL (e::es) X.env=(Pc,Rz e X.env)::PL es X.env:=by rfl)(d:(RR pos (PL es X.env)).any (·.1)=Pc:=by rfl):DE X F (.Call (.Name x p) (e::es) [] pos) (λρ=>do m (<-iD (<-tas ρ))):=⟨ha.hK,(e_ (n.EI ha.hK) k j g ha.pa i f l d).imp λo H Q h=>vd h⟩
theorem xu{T:String}{x:PX}{m:List D->M D}{p:Ro}(n:bo X F (.type T) m)(j:X.mg x=Pb)(g:Ry x=O7 (.type T))(ha:DA X F (e::es) tas)(k:Gl X x:=by rfl)(i:x≠"__name__":=by decide)(f:(x==("__debug__":PX))=Pc:=by decide)(l:PL (e::es) X.env=(Pc,Rz e X.env)::PL es X.env:=by rfl)(d:(RR pos (PL es X.env)).any (·.1)=Pc:=by rfl):DE X F (.Call (.Name x p) (e::es) [] pos) (λρ=>do m (<-iD (<-tas ρ))):=⟨ha.hK,(nB (n.EI ha.hK) k j g ha.pa i f l d).imp λo H Q h=>vd h⟩
noncomputable def one(f:D->M D):List D->M D
 |[d]=>f d|_=>M.fail
noncomputable def two(f:D->D->M D):List D->M D
 |[d,e]=>f d e|_=>M.fail
theorem eA{f:D->M D}{ds:List D}{k Q E}(h:(one f ds).run k Q E):∃d,ds=[d]/\(f d).run k Q E:=by match ds,h with|[d],h=>exact⟨d,rfl,h⟩
theorem vf{f:D->D->M D}{ds:List D}{k Q E}(h:(two f ds).run k Q E):∃d e,ds=[d,e]/\(f d e).run k Q E:=by match ds,h with|[d,e],h=>exact⟨d,e,rfl,h⟩
theorem af.one{B:Fb}{H:Hp}{vs:List V}{d:D}(h:af B H vs [d]):∃v,vs=[v]/\Is B H v d:=by
 simp only[af]at h;obtain⟨x,g,rfl,f,rfl⟩:=h;exact⟨x,rfl,f⟩
theorem af.two{B:Fb}{H:Hp}{vs:List V}{d e:D}(h:af B H vs [d,e]):∃v u,vs=[v,u]/\Is B H v d/\Is B H u e:=by
 simp only[af]at h;obtain⟨x,j,rfl,g,y,i,rfl,f,rfl⟩:=h;exact⟨x,y,rfl,g,f⟩
noncomputable def Nd(d:D):M D:=match d with
 |.tup f=>pure (.int f.length)|.lst f=>pure (.int f.length)|.str x=>do M.need (x.length<=Pl);pure (.int x.length)|_=>M.fail
theorem zt:bo X F (.builtin "len") (one Nd):=.of yD λhK H k j o Q l n m=>by
 obtain⟨d,rfl,q⟩:=eA m;obtain⟨v,rfl,i⟩:=n.one;cases d with
 |tup j=>
  simp only[Is]at i;obtain⟨a,f,rfl,h,g⟩:=i;exact⟨_,f.length,rfl,.inr ⟨f,by rw[hK];exact h.2,rfl⟩,q _ H .refl (by simp only[Is];rw[g.length])⟩|lst j=>
  simp only[Is]at i;obtain⟨a,f,rfl,h,g⟩:=i;exact⟨_,f.length,rfl,.inl ⟨f,by rw[hK];exact h.2.sq,rfl⟩,q _ H .refl (by simp only[Is];rw[g.length])⟩|str x=>
  simp only[Is]at i;subst i;exact⟨_,x.length,rfl,⟨q.1,rfl⟩,q.2 _ H .refl (by simp only[Is])⟩|_=>exact q.elim
theorem CL(n:X.calm=Pa):bo X F (.builtin "max") (two (Jn λi j=>.int (if j>i then j else i))):=.of (wQ n) λhK H k o p Q l m h=>by
 obtain⟨d,e,rfl,q⟩:=vf h;obtain⟨v,u,rfl,g,f⟩:=m.two;obtain⟨i,rfl,q⟩:=aN.mp q;obtain⟨j,rfl,q⟩:=aN.mp q;simp only[Is]at g f;subst g f;exact⟨i,j,rfl,q _ H .refl (by simp only[Is])⟩
theorem CM(n:X.calm=Pa):bo X F (.builtin "min") (two (Jn λi j=>.int (if j<i then j else i))):=.of (wR n) λhK H k o p Q l m h=>by
 obtain⟨d,e,rfl,q⟩:=vf h;obtain⟨v,u,rfl,g,f⟩:=m.two;obtain⟨i,rfl,q⟩:=aN.mp q;obtain⟨j,rfl,q⟩:=aN.mp q;simp only[Is]at g f;subst g f;exact⟨i,j,rfl,q _ H .refl (by simp only[Is])⟩
noncomputable def Nf:D->M D
 |.int i=>pure (.int i)|.bl b=>pure (.int (if b then 1 else 0))|_=>M.fail
theorem GC:bo X F (.type "int") (one Nf):=.of wU λhK H k h m Q l g f=>by
 obtain⟨d,rfl,q⟩:=eA f;obtain⟨v,rfl,i⟩:=g.one;cases d with
 |int j=>simp only[Is]at i;subst i;exact .inl ⟨j,rfl,q _ H .refl (by simp only[Is])⟩|bl b=>simp only[Is]at i;subst i;exact .inr ⟨b,rfl,q _ H .refl (by simp only[Is])⟩|_=>exact q.elim
theorem zu:bo X F (.type "tuple") (one λd=>do pure (.tup (<-M.get (items d)))):=.of ng λhK H k p o Q l n m=>by
 obtain⟨d,rfl,q⟩:=eA m;obtain⟨v,rfl,i⟩:=n.one;obtain⟨o,e,q⟩:=M.run_get.mp q;cases d<;>first|cases e|skip
 .simp only[Is]at i;obtain⟨a,f,rfl,g,h⟩:=i;exact⟨a,f,rfl,.inr ⟨by rw[hK];exact g.2,q _ H .refl (by simp only[Is];exact⟨a,f,rfl,g,h⟩)⟩⟩
 .simp only[Is]at i;obtain⟨a,f,rfl,g,h⟩:=i;exact⟨a,f,rfl,.inl ⟨by rw[hK];exact g.2.sq,λt j=>q _ _ (.new j) (iE (k:=k) l j h)⟩⟩
noncomputable def GD:D->Option String
 |.bH=>O7 "NoneType"|.bl _=>O7 "bool"|.int _=>O7 "int"|.str _=>O7 "str"|.tup _=>O7 "tuple"|.lst _=>O7 "list"|.aE _ _=>Pb|.exc _ _=>Pb|.aM _=>Pb
theorem zv{pins:List (Pg×Qx)}{σ:St}{H:Hp}{s:Pe}{Q:O_->Pe->Prop}{E:O_->Pe->Prop}{A:P9}{d:D}{t:String}{c:O_}{b:Bool}{v:V}{u:O_}(I:Inv X pins σ H s)(r:RelV v u)(hK:X.K=F.K)(i:Is F.toFb H v d)(f:GD d=O7 t)(e:Ra X.K (.type t) c=O7 b)(h:∀q,Q (.bool b) {s with toks:=q}):wpAny (Py X.prog X.w) A (Ts (.builtin "isinstance") [u,c]) Q E s:=by cases d with
 |bH=>cases f;simp only[Is]at i;subst i;exact gG I r .bH e h|bl y=>cases f;simp only[Is]at i;subst i;exact gG I r (.bl _) e h|int y=>cases f;simp only[Is]at i;subst i;exact gG I r (.int _) e h|str y=>cases f;simp only[Is]at i;subst i;exact gG I r (.str _) e h|tup m=>
  cases f;simp only[Is]at i;obtain⟨a,p,rfl,k,C⟩:=i;cases(show u=PQ a from r);obtain⟨g,x,⟨o,l,j,_⟩,_⟩:=I.tuple (by rw[hK];exact k.2);exact QQ Xv I.jH ⟨o,l,j⟩ e (λz=>nomatch z) h|lst m=>
  cases f;simp only[Is]at i;obtain⟨a,p,rfl,k,C⟩:=i;cases(show u=PQ a from r);obtain⟨g,x,B,_⟩:=I.list (by rw[hK];exact k.2.sq);obtain⟨o,n,l,j,_⟩:=B;exact QQ Vz I.jH ⟨o,l,j⟩ e (λz=>nomatch z) h|aE ks p=>cases f|exc c G=>cases f|aM m=>cases f
end
noncomputable def fW(N:List PX)(as:List A):ag:=as.map (λa=>O7 a.w)++Qy (N.length-as.length) Pb
noncomputable def Kk(Q:D->Nat->Prop)(a:Fl)(k:Nat):Prop:=match a with
 |.rt d=>Q d k|.nx _=>Q .bH k|_=>False
section
variable{P:PF}{w:P0}{K:Pj}{mg:PX->Option O_}{base:P7}
theorem Paired.Km{b a:Type}{R:b->a->Prop}:∀{l:List b}{r:List a},Paired R l r->∀{i:Nat}{y:a},r[i]?=O7 y->∃x,l[i]?=O7 x/\R x y
 |_,_,.nil,i,y,e=>by simp at e|_,_,.cons h t,0,y,e=>by simp at e;subst e;exact⟨_,rfl,h⟩|_,_,.cons h t,i+1,y,e=>by simpa using Paired.Km t (i:=i) (by simpa using e)
theorem xw{B:Fb}{H:Hp}{k:Nat}{E:Xc->Nat->Prop}{N:List PX}{vs:List V}{as:List A}(lv:H B.p≠Pb)(i:xq B H k vs as):cg ⟨B,H,k,E,H,k⟩ (fW N as) k (start N vs) H:=by
 have m:=Paired.length i;refine⟨by simp[fW,start,m],λj d e=>?_,λi j d e v l b g h n=>?_,lv,.refl,.refl⟩
 .unfold fW at e;by_cases f:j<as.length
  .rw[QP (by simpa using f),PV]at e;cases c:as[j]? with
   |none=>rw[c]at e;cases e|some a=>
    rw[c]at e;cases e;obtain⟨v,b,g⟩:=Paired.Km i c;refine⟨v,?_,Jm.w (F:=⟨B,H,k,E,H,k⟩) g⟩;unfold start;rw[QP (by simp;omega),PV,b];rfl
  .rw[Qh (by simpa using f),R4]at e;split at e<;>cases e
 .exfalso;unfold fW at b;by_cases f:i<as.length
  .rw[QP (by simpa using f),PV]at b;cases c:as[i]? with
   |none=>rw[c]at b;cases b|some a=>
    rw[c]at b;cases b;cases a<;>cases h
  .rw[Qh (by simpa using f),R4]at b;split at b<;>cases b
end
section
variable{F:Fx}{ρ:ag}{σ:St}{H H':Hp}{k k':Nat}
theorem cg.set{v:V}{d:D}(S:cg F ρ k σ H)(i:Nat)(h:Is F.toFb H v d):cg F (ρ.set i (O7 (.d d))) k (σ.set i (O7 v)) H where
 len:=by simp[S.len]
 at_:=λj x e=>by
  rw[Rl]at e⊢;by_cases o:i=j
  .subst o;rw[if_pos rfl]at e⊢;split at e
   .rename_i p;cases e;rw[if_pos (by rw[<-S.len];exact p)];exact⟨v,rfl,h⟩
   .cases e
  .rw[if_neg o]at e⊢;exact S.at_ j x e
 apart:=λn m x y u f b a l g c=>by
  rw[Rl]at b a c⊢;have n1:i≠n:=by
   rintro rfl;rw[if_pos rfl]at b;split at b;.cases b;cases l
   .cases b
  have n2:i≠m:=by
   rintro rfl;rw[if_pos rfl]at a;split at a;.cases a;cases g
   .cases a
  rw[if_neg n1]at b c;rw[if_neg n2]at a⊢;exact S.apart n m x y u f b a l g c
 live:=S.live;ext:=S.ext;kJ:=S.kJ
end
noncomputable def Kn(F:Fx)(t:D->ag->M ag):TG:=λv g H Q=>∃e k d,cg F e k g H/\Is F.toFb H v d/\(t d e).run k (λb f=>∀a c,Ext F.toFb H k c f->cg F b f a c->Q a c) F.E
noncomputable def Ng(F:Fx)(t:List D->ag->M ag):BS:=λh g H Q=>∃d k f,cg F d k g H/\af F.toFb H h f/\(t f d).run k (λb e=>∀a c,Ext F.toFb H k c e->cg F b e a c->Q a c) F.E
structure DG(X:Cx)(F:Fx)(tg:PC)(t:D->ag->M ag):Prop where
 hK:X.K=F.K
 pg:PG X tg (Kn F t)
structure EJ(X:Cx)(F:Fx)(tgs:List PC)(t:List D->ag->M ag):Prop where
 hK:X.K=F.K
 pg:Ey X tgs (Ng F t)
section
variable{X:Cx}{F:Fx}{a b c e tg:PC}{es tgs:List PC}{pos:Ro}{ta tb tc:ag->M D}{tas:ag->M (List A)}{g:D->ag->M ag}{gs:List D->ag->M ag}
theorem PG.imp{t t':TG}(h:PG X tg t)(q:∀v σ H Q,t' v σ H Q->t v σ H Q):PG X tg t':=λd s σ H v u Q I r z=>h d s σ H v u Q I r (q v σ H Q z)
theorem Ey.imp{t t':BS}(h:Ey X tgs t)(q:∀v σ H Q,t' v σ H Q->t v σ H Q):Ey X tgs t':=λd s σ H v u Q I r z=>h d s σ H v u Q I r (q v σ H Q z)
noncomputable def gN(i:Nat)(d:D)(ρ:ag):M ag:=pure (ρ.set i (O7 (.d d)))
theorem CN(i:Nat){x:PX}{pos:Ro}(hN:X.N.Nodup)(hi:X.N[i]?=O7 x:=by rfl)(j:Loc X.env.scope x:=by first|exact Ul rfl|exact Vg rfl)(l:X.fn x=Pa\/X.env.scope.names.lookup x=O7 .local:=by first|exact Ul rfl|exact Vg rfl)(hK:X.K=F.K:=by rfl):DG X F (.Name x pos) (gN i):=⟨hK,(uL (i:=i) hN hi j l).imp λv m H Q⟨n,k,d,S,f,h⟩=>h _ H .refl (S.set i f)⟩
noncomputable def Ko:List D->ag->M ag
 |[],d=>pure d|_::_,_=>M.fail
noncomputable def GF(g:D->ag->M ag)(gs:List D->ag->M ag):List D->ag->M ag
 |[],_=>M.fail|d::h,f=>do gs h (<-g d f)
theorem CO(hK:X.K=F.K:=by rfl):EJ X F [] Ko:=⟨hK,BU.imp λv l H Q f=>by
 obtain⟨m,k,j,S,i,h⟩:=f;cases j with
 |nil=>simp only[af]at i;exact⟨i,h l H .refl S⟩|cons d j=>exact h.elim⟩
theorem zw(m:DG X F e g)(y:EJ X F es gs)(hs:(RI (e::es) X.env).map (·.2)=UC e X.env::(RI es X.env).map (·.2):=by rfl):EJ X F (e::es) (GF g gs):=by
 refine⟨m.hK,(yw m.pg y.pg hs).imp λv I H Q⟨r,k,l,S,i,h⟩=>?_⟩;cases l with
 |nil=>exact h.elim|cons d l=>
  simp only[af]at i;obtain⟨x,s,rfl,w,u⟩:=i;refine⟨x,s,rfl,r,k,d,S,w,M.wk h λj t q o K n E=>?_⟩;exact⟨j,t,l,E,u.mono n.kp,M.wk q λp J z f G B C=>z f G (n.trans B) C⟩
noncomputable def gT(n:Nat)(gs:List D->ag->M ag):D->ag->M ag
 |.tup d,f=>do M.need (d.length=n);gs d f|_,_=>M.fail
theorem GG{n:Nat}{j:Nat}(s:X.calm=Pa)(h:EJ X F es gs)(r:(RI es X.env).length=n:=by rfl)(l:(RI es X.env).findIdx? (·.1)=Pb:=by rfl):DG X F (.Tuple es j pos) (gT n gs):=⟨h.hK,(FD s h.pg r l).imp λv w H Q f=>by
  obtain⟨p,k,d,S,i,m⟩:=f;cases d with
  |tup u=>
   simp only[Is]at i;obtain⟨a,q,rfl,t,o⟩:=i;exact⟨a,q,rfl,by rw[h.hK];exact t.2,by rw[o.length];exact m.1,p,k,u,S,o,m.2⟩|_=>exact m.elim⟩
theorem GH(l:DE X F e ta)(p:DG X F tg g)(hs:VH [tg] e pos.line X.env=pure Pc:=by rfl)(hw:RX [tg] e X.env=pure Pb:=by rfl)(j:(RI [tg] X.env).map (·.2)=[UC tg X.env]:=by rfl):DS X F (.Assign [tg] e pos) (λρ=>do let d<-ta ρ;let ρ'<-g d ρ;pure (.nx ρ')):=⟨l.hK,(oN l.pe p.pg hs hw j).imp λZ x H i=>by
  obtain⟨ρ,k,S,h⟩:=i;refine di.next S h λd n v z s u o j=>?_;exact⟨ρ,n,d,u,o,M.wk j λm y q f w r t=>q f w (s.trans r).kp t⟩⟩
theorem zx(i:Nat){x:PX}{f:Ro}(hN:X.N.Nodup)(l:DE X F e ta)(hi:X.N[i]?=O7 x:=by rfl)(n:Loc X.env.scope x:=by first|exact Ul rfl|exact Vg rfl)(hs:RW e (O7 (.Name x f)) pos.line X.env=pure Pc:=by rfl)(o:X.fn x=Pa\/X.env.scope.names.lookup x=O7 .local:=by first|exact .inl rfl|exact .inr rfl):DS X F (.Assign [.Name x f] e pos) (λρ=>do let d<-ta ρ;pure (.nx (ρ.set i (O7 (.d d))))):=⟨l.hK,(bV (i:=i) hN hi n l.pe hs o).imp λZ t H j=>by
  obtain⟨ρ,k,S,h⟩:=j;refine di.next S h λd u v s q r m p=>?_;exact p _ s q.kp (r.set i m)⟩
theorem GI(i j:Nat){x y:PX}{p o pt:Ro}{kt k2 pt2}(J:X.calm=Pa)(hN:X.N.Nodup)(ha:DA X F [a,b] tas)(s:i≠j)(n:∀{ta:TA},PA X [a,b] ta->PS X (.Assign [.Tuple [.Name x p,.Name y o] kt pt] (.Tuple [a,b] k2 pt2) pos) (JJ i j ta)):DS X F (.Assign [.Tuple [.Name x p,.Name y o] kt pt] (.Tuple [a,b] k2 pt2) pos) (λρ=>do match<-iD (<-tas ρ)with
   |[d,e]=>pure (.nx ((ρ.set i (O7 (.d d))).set j (O7 (.d e))))|_=>M.fail):=⟨ha.hK,(n ha.pa).imp λZ E H l=>by
  obtain⟨ρ,k,S,h⟩:=l;refine qY.next S h λas I G C w B m t=>?_;obtain⟨z,rfl,f⟩:=bS t;match z,f,m with
  |[d,e],f,m=>
   obtain⟨v,u,rfl,r,q⟩:=(bT m).two;exact⟨v,u,rfl,f _ C w.kp ((B.set i r).set j q)⟩|[],f,_=>exact f.elim|[_],f,_=>exact f.elim|_::_::_::_,f,_=>exact f.elim⟩
theorem CP(i:DE X F e ta)(hs:RW e Pb pos.line X.env=pure Pc:=by rfl):DS X F (.Expr e pos) (λρ=>do let _<-ta ρ;pure (.nx ρ)):=⟨i.hK,(oM i.pe hs).imp λZ j H f=>by
  obtain⟨ρ,k,S,h⟩:=f;refine di.next S h λd p v o m n q l=>?_;exact l j o m.kp n⟩
theorem GJ(i:DE X F e ta):DS X F (.Return (O7 e) pos) (λρ=>do let d<-ta ρ;pure (.rt d)):=⟨i.hK,(kU i.pe).imp λZ o H f=>by
  obtain⟨ρ,k,S,h⟩:=f;refine di.next S h λd p v n q m j l=>?_;exact l v n m.ext j⟩
variable{st:RP}{sts sts':List RP}{t u:ag->M Fl}{tA:ag->M Bool}
noncomputable def Nh(t u:ag->M Fl)(ρ:ag):M Fl:=do match<-t ρ with
 |.nx d=>u d|f=>pure f
theorem CQ(hK:X.K=F.K:=by rfl):xt X F [] (λρ=>pure (.nx ρ)):=⟨hK,kF.imp λZ d H⟨ρ,k,S,h⟩=>h d H .refl S⟩
theorem zy(j:DS X F st t)(o:xt X F sts u):xt X F (st::sts) (Nh t u):=⟨j.hK,(bq j.ps o.ps).imp λZ w H i=>by
  obtain⟨m,k,S,h⟩:=i;refine⟨m,k,S,M.wk h λr n q=>?_⟩;cases r with
  |nx f=>exactλl y s v=>⟨f,n,v,M.wk q λp x z=>z.mono s⟩|rt d=>exact q|bk f=>exact q|ct f=>exact q⟩
theorem Kq{m:PC}(i:DT X F m tA)(ha:xt X F sts t)(hb:xt X F sts' u):DS X F (.If m sts sts' pos) (λρ=>do let b<-tA ρ;if b then t ρ else u ρ):=⟨i.hK,(uK i.pt ha.ps hb.ps).imp λZ q H d=>by
  obtain⟨ρ,k,S,h⟩:=d;refine qW.next S h λb f r l n j=>?_;cases b with
  |true=>exact⟨ρ,f,n,M.wk j λp o z=>z.mono l.kp⟩|false=>exact⟨ρ,f,n,M.wk j λp o z=>z.mono l.kp⟩⟩
structure tW(F:Fb)(J:It)(ds:List D)(H0:Hp)(k0:Nat):Prop where
 step:∀(i:Nat)(d:D)(H:Hp)(k:Nat),ds[i]?=O7 d->Kp F H0 k0 H k->H F.p≠Pb->J.go i H/\∀x H',J.Mm i H x H'->Ext F H k H' k/\Is F H' x d
 stop:∀(H:Hp)(k:Nat),Kp F H0 k0 H k->H F.p≠Pb->J.stop ds.length H
 len:ds.length<=Pl
noncomputable def Ni(F:Fx)(t:ag->M (List D)):TI:=λi H R=>∃f k,cg F f k i H/\(t f).run k (λj h=>∀J d,Ext F.toFb H k d h->tW F.toFb J j d h->R J d) F.E
structure DI(X:Cx)(F:Fx)(tg iter:PC)(t:ag->M (List D)):Prop where
 hK:X.K=F.K
 pi:PI X tg iter (Ni F t)
noncomputable def xx(g:D->ag->M ag)(body:ag->M Fl):List D->ag->M Fl
 |[],i=>pure (.nx i)|d::j,i=>do
  let h<-g d i;match<-body h with
  |.nx f=>xx g body j f|.ct f=>xx g body j f|.bk f=>pure (.nx f)|.rt r=>pure (.rt r)
theorem pd{d:Type}{l:List d}{i:Nat}(h:i<l.length):∃x,l[i]?=O7 x/\l.drop i=x::l.drop (i+1):=⟨l[i],PN h,Vv h⟩
theorem GK{iter:PC}{tI:ag->M (List D)}(hp:Va (Py X.prog X.w) X.A X.env X.xe)(hc:X.calm=Pa)(hi:DI X F tg iter tI)(hg:DG X F tg g)(hb:xt X F sts t)(hs:∀x,R3 iter X.env x=pure x:=by intro _;rfl):DS X F (.For tg iter sts [] pos) (λρ=>do xx g t (<-tI ρ) ρ):=⟨hi.hK,(FH hp hc hi.pi hg.pg hb.ps hs).imp λZ σ H R=>by
  obtain⟨ρ,k,S,h⟩:=R;refine⟨ρ,k,S,M.wk h λl N q J H1 V it=>?_⟩;refine⟨λi m o v=>m=l.length-i/\i<=l.length/\∃j p,cg F j p o v/\Kp F.toFb H1 N v p/\(xx g t (l.drop i) j).run p (xr F Z H k) F.E,⟨l.length,rfl,Qb _,ρ,N,S.mono V,.refl,q⟩,?_⟩;rintro i m o v⟨rfl,a2,j,p,P,O,L⟩;by_cases C:i<l.length
  .obtain⟨d,hd,U⟩:=pd C;rw[U]at L;obtain⟨go,yl⟩:=it.step i d v p hd O P.live;refine .inr ⟨go,λz Y=>∃B T,cg F B T z Y/\Kp F.toFb H1 N Y T/\(xx g t (l.drop (i+1)) B).run T (xr F Z H k) F.E,λz Y h3=>⟨l.length-(i+1),by omega+splitNatSub,rfl,C,h3⟩,λx H' y=>?_⟩;obtain⟨e3,i3⟩:=yl x H' y;refine⟨j,p,d,P.mono e3,i3,M.wk L λQ k4 q4 a0 H4 e4 S4=>?_⟩;have s:Kp F.toFb H1 N H4 k4:=O.trans (e3.trans e4).kp;refine⟨Q,k4,S4,M.wk q4 λfl k5 K=>?_⟩;cases fl with
   |nx f=>exactλn W G I=>⟨f,k5,I,s.trans G,K⟩|ct f=>exactλn W G I=>⟨f,k5,I,s.trans G,K⟩|bk f=>exactλn W G I=>K n W ((V.kp.trans s).trans G) I|rt r=>exact K
  .have e:i=l.length:=by omega+splitNatSub
   subst e;rw[VZ]at L;exact .inl ⟨it.stop v p O P.live,L o v (V.kp.trans O) P⟩⟩
noncomputable def fx(c:ag->M Bool)(body:ag->M Fl):Nat->ag->M Fl
 |0,_=>M.fail|n+1,f=>do
  let b<-c f;if b then do match<-body f with
   |.nx d=>fx c body n d|.ct d=>fx c body n d|.bk d=>pure (.nx d)|.rt r=>pure (.rt r)else pure (.nx f)
noncomputable def GL(c:ag->M Bool)(body:ag->M Fl)(ρ:ag):M Fl:=⟨λk Q E=>∃n,(fx c body n ρ).run k Q E,λ⟨n,h⟩q e=>⟨n,(fx c body n ρ).mono h q e⟩⟩
theorem zA{Q:PC}(V:Va (Py X.prog X.w) X.A X.env X.xe)(N:DT X F Q tA)(hb:xt X F sts t):DS X F (.While Q sts [] pos) (GL tA t):=⟨N.hK,(yx V N.pt hb.ps).imp λZ σ H y=>by
  obtain⟨U,k,S,n,h⟩:=y;refine⟨λm j G=>∃f x,cg F f x j G/\Kp F.toFb H k G x/\(fx tA t m f).run x (xr F Z H k) F.E,⟨n,U,k,S,.refl,h⟩,?_⟩;rintro m j G⟨f,x,S2,P,J⟩;cases m with
  |zero=>exact J.elim|succ m=>
   refine qW.next S2 J λb L T O R I=>?_;cases b with
   |false=>exact I j T (P.trans O.kp) R|true=>
    refine⟨λo C=>∃p z,cg F p z o C/\Kp F.toFb H k C z/\(fx tA t m p).run z (xr F Z H k) F.E,λo C W=>⟨m,SJ _,W⟩,f,L,R,M.wk I λY K v=>?_⟩;have l:Kp F.toFb H k T L:=P.trans O.kp;cases Y with
    |nx d=>exactλi B q s=>⟨d,K,s,l.trans q,v⟩|ct d=>exactλi B q s=>⟨d,K,s,l.trans q,v⟩|bk d=>exactλi B q s=>v i B (l.trans q) s|rt r=>exact v⟩
theorem PI.imp{iter:PC}{t t':TI}(h:PI X tg iter t)(q:∀σ H R,t' σ H R->t σ H R):PI X tg iter t':=λd s σ H R I z=>h d s σ H R I (q σ H R z)
noncomputable def GN{h:Type}(f:D->M h):List D->M h
 |[d]=>f d|_=>M.fail
theorem qZ{i:Type}{f:D->M i}{ds:List D}{k Q E}(h:(GN f ds).run k Q E):∃d,ds=[d]/\(f d).run k Q E:=by match ds,h with|[d],h=>exact⟨d,rfl,h⟩
noncomputable def aT(n:Nat):List D:=(Qg n).map λ(i:Nat)=>D.int (i:Int)
noncomputable def GO(d:D):M (List D):=do
 let j<-fb d;M.need (-(2^62)<=j/\j<=1000000)pure (aT j.toNat)
theorem xy{p:Ro}(z:X.mg "range"=Pb)(ha:DA X F [a] tas)(B:Gl X "range":=by rfl)(hs:PL [a] X.env=[(Pc,Rz a X.env)]:=by rfl):DI X F tg (.Call (.Name "range" p) [a] [] pos) (λρ=>do GN GO (<-iD (<-tas ρ))):=⟨ha.hK,(wO B z ha.pa hs).imp λN H R m=>by
  obtain⟨ρ,k,S,h⟩:=m;refine qY.next S h λas Q O L J U w G=>?_;obtain⟨T,rfl,E⟩:=bS G;obtain⟨d,rfl,C⟩:=qZ E;obtain⟨j,rfl,l⟩:=aN.mp C;obtain⟨v,rfl,q⟩:=(bT w).one;simp only[Is]at q;subst q;refine⟨j,rfl,l.1.1,Int.lt_of_le_of_lt l.1.2 (by decide),l.2 _ L J ⟨λi d K s hd I P=>?_,λK s I _=>?_,?_⟩⟩
  .unfold aT at hd;rw[PV]at hd;cases o:(Qg j.toNat)[i]? with
   |none=>rw[o]at hd;cases hd|some n=>
    rw[o]at hd;cases hd;obtain⟨f,r⟩:=List.getElem?_eq_some_iff.mp o;rw[List.getElem_range]at r;subst r;rw[Uo]at f;refine⟨f,λx V y=>?_⟩;obtain⟨rfl,rfl⟩:=y;exact⟨.refl,by simp only[Is];simp⟩
  .show j.toNat<=_;simp[aT]
  .have:=l.1.2;simp only[aT,Pk,Uo,Rg];omega⟩
theorem zB{B:Fb}{H:Hp}{k:Nat}{a:Pg}{vs:List V}{ds:List D}(h:LstAt B H a vs)(i:af B H vs ds)(p:vs.length<=Pl):tW B (N7 B.K a) ds H k where
 step:=λj d n o hd e l=>by
  obtain⟨x,m,q⟩:=(i.mono e).get hd;have f:d5 B.K n a vs:=(h.mono e).2.sq;refine⟨⟨vs,x,f,m⟩,λy r z=>?_⟩;obtain⟨rfl,z⟩:=z;have:=z vs f;rw[m]at this;cases this;exact⟨.refl,q⟩
 stop:=λn o e l=>⟨vs,(h.mono e).2.sq,Wf i.length⟩;len:=by rw[<-i.length];exact p
theorem zC{B:Fb}{H:Hp}{k:Nat}{a:Pg}{vs:List V}{ds:List D}(h:TupAt B H a vs)(i:af B H vs ds)(o:vs.length<=Pl):tW B (N8 B.K a) ds H k where
 step:=λj d q n hd e l=>by
  obtain⟨x,m,p⟩:=(i.mono e).get hd;have f:=(h.mono e).2;refine⟨⟨vs,x,f,m⟩,λy r z=>?_⟩;obtain⟨rfl,z⟩:=z;have:=z vs f;rw[m]at this;cases this;exact⟨.refl,p⟩
 stop:=λq n e l=>⟨vs,(h.mono e).2,Wf i.length⟩;len:=by rw[<-i.length];exact o
end
noncomputable def nP(outer a:RQ):Bool:=(a.kind==.function)&&a.names.all λy=>((y.2 !=.cell)||(a.names.lookup y.1==O7 .cell))&&((y.2 !=.local)||(a.names.lookup y.1==O7 .local))&&((y.2 !=.free)||(outer.names.lookup y.1==O7 .cell)||(outer.names.lookup y.1==O7 .free))
noncomputable def tX(env:U_)(y:PX×Sj)(cs:List (PX×Pg)):Vy (ForInStep (List (PX×Pg))):=do if y.2==.free then pure (RC ((y.1,<-cellOf env y.1)::cs))else pure (RC cs)
theorem tY{a:RQ}{env:U_}{cl:List (PX×Pg)}(h:forIn a.names [] (tX env)=(pure cl:Vy _)):Ys a env=pure cl:=by
 have e:Ys a env=(forIn a.names [] (tX env)>>=λs=>pure s):=rfl;rw[e,h];rfl
theorem tZ{env:U_}:∀(names:List (PX×Sj)),(∀y∈names,y.2=.free->∃c,env.cells.lookup y.1=O7 c)->∀a:List (PX×Pg),(∀x c,a.lookup x=O7 c->env.cells.lookup x=O7 c)->∃cl,forIn names a (tX env)=(pure cl:Vy _)/\(∀x c,cl.lookup x=O7 c->env.cells.lookup x=O7 c)/\(∀x c,a.lookup x=O7 c->∃b,cl.lookup x=O7 b)/\∀y∈names,y.2=.free->∃c,cl.lookup y.1=O7 c
 |[],_,a,ha=>⟨a,rfl,ha,λx c e=>⟨c,e⟩,λy d=>nomatch d⟩|(n,g)::r,k,a,ha=>by
  by_cases l:g=.free
  .subst l;obtain⟨c,s⟩:=k (n,.free) Pn rfl;have m:∀x b,((n,c)::a).lookup x=O7 b->env.cells.lookup x=O7 b:=λx b e=>by
    rw[Qo]at e;cases h:x==n with
    |true=>
     rw[h]at e;cases e;rw[beq_iff_eq.mp h];exact s|false=>
     rw[h]at e;exact ha x b e
   obtain⟨cl,q,p,j,o⟩:=tZ r (λy d=>k y (Po _ d)) ((n,c)::a) m;have keep:∀x b,a.lookup x=O7 b->∃f,((n,c)::a).lookup x=O7 f:=λx b e=>by
    rw[Qo];cases h:x==n with
    |true=>exact⟨c,rfl⟩|false=>exact⟨b,e⟩
   refine⟨cl,?_,p,λx b e=>?_,λy d i=>?_⟩
   .rw[U2];have e:tX env (n,.free) a=(pure (RC ((n,c)::a)):Vy _):=by
     unfold tX cellOf;rw[s];rfl
    rw[e];exact q
   .obtain⟨f,t⟩:=keep x b e;exact j x f t
   .rcases List.mem_cons.mp d with z|z
    .subst z;exact j n c (by rw[Qo,beq_self_eq_true])
    .exact o y z i
  .obtain⟨cl,q,p,j,o⟩:=tZ r (λy d=>k y (Po _ d)) a ha;refine⟨cl,?_,p,j,λy d i=>?_⟩
   .rw[U2];have e:tX env (n,g) a=(pure (RC a):Vy _):=by
     unfold tX;have:(g==Rm)=Pc:=by cases g<;>first|rfl|exact absurd rfl l
     rw[this];rfl
    rw[e];exact q
   .rcases List.mem_cons.mp d with z|z
    .subst z;exact absurd i l
    .exact o y z i
theorem zD{X:Cx}(ok:X.Ok){a:RQ}(h:nP X.env.scope a=Pa):∃cl,J7 X a cl:=by
 unfold nP at h;rw[Pp,Qq]at h;obtain⟨g,ha⟩:=h;have b:∀y∈a.names,y.2=.free->X.env.kindOf y.1=O7 .cell\/X.env.kindOf y.1=O7 .free:=λy d f=>by
  have:=ha y d;simp only[Pp,Q4,bne_iff_ne,beq_iff_eq,ne_eq]at this;rcases this.2 with(z|z)|z;.exact absurd f z
  .exact .inl z
  .exact .inr z
 obtain⟨cl,k,j,l,i⟩:=tZ (env:=X.env) a.names (λy d f=>ok.has y.1 (b y d f)) [] (λx c e=>nomatch e);refine⟨cl,tY k,j,λx e=>⟨i (x,.free) (Rh e) rfl,b (x,.free) (Rh e) rfl⟩,beq_iff_eq.mp g,λy d z=>?_,λy d z=>?_⟩
 .have:=ha y d;rw[z]at this;simpa using this
 .have:=ha y d;rw[z]at this;simpa using this
noncomputable def eW(ρ:ag)(n:Nat)(js:List Nat):ag:=Qy n Pb++js.map λj=>(ρ[j]?).join
theorem pf{ρ:ag}{n:Nat}{js:List Nat}{i:Nat}{w:W}(h:(eW ρ n js)[i]?=O7 (O7 w)):n<=i/\∃j,js[i-n]?=O7 j/\ρ[j]?=O7 (O7 w):=by
 unfold eW at h;by_cases hi:i<n
 .rw[QP (by simpa using hi),R4,if_pos hi]at h;cases h
 .rw[Qh (by simpa using hi),RT,PV]at h;refine⟨by omega,?_⟩;cases b:js[i-n]? with
  |none=>rw[b]at h;cases h|some j=>
   rw[b]at h;refine⟨j,rfl,?_⟩;have h:(ρ[j]?).join=O7 w:=Pm h;cases a:ρ[j]? with
   |none=>rw[a]at h;cases h|some o=>
    rw[a]at h;have h:o=O7 w:=h;rw[h]
theorem fX{σ:St}{n:Nat}{js:List Nat}{i j:Nat}{v:V}(hi:n<=i)(a:js[i-n]?=O7 j)(h:σ[j]?=O7 (O7 v)):(bJ σ n js)[i]?=O7 (O7 v):=by
 unfold bJ;rw[Qh (by simpa using hi),RT,PV,a];show O7 ((σ[j]?).join)=_;rw[h];rfl
theorem cg.ee{F:Fx}{ρ:ag}{k:Nat}{σ:St}{H:Hp}(S:cg F ρ k σ H)(n:Nat){js:List Nat}(B:js.Nodup):cg F (eW ρ n js) k (bJ σ n js) H where
 len:=by simp[eW,bJ]
 at_:=λi w e=>by
  obtain⟨hi,j,d,g⟩:=pf e;obtain⟨v,f,r⟩:=S.at_ j w g;exact⟨v,fX hi d f,r⟩
 apart:=λi A w q v l e D o y x t=>by
  obtain⟨hi,j,d,g⟩:=pf e;obtain⟨p,h,c,b⟩:=pf D;obtain⟨u,f,r⟩:=S.at_ j w g;obtain⟨E,a,C⟩:=S.at_ h q b;have a1:=fX hi d f;have s:=fX p c a;rw[x]at a1;rw[t]at s;cases a1;cases s;have m:j≠h:=λz=>by
   subst z;have:i-n=A-n:=(List.getElem?_inj (List.getElem?_eq_some_iff.mp d).1 B).mp (d.trans c.symm);exact l (by omega+splitNatSub)
  exact S.apart j h w q v m g b o y f a
 live:=S.live;ext:=S.ext;kJ:=S.kJ
structure lE(X:Cx)(F:Fx)(ifs:List PC)(t:ag->M Bool):Prop where
 hK:X.K=F.K
 pi:w_ X ifs (qW F t)
section
variable{X:Cx}{F:Fx}{elt tg iter c:PC}{ifs:List PC}{pos:Ro}{scope:RQ}{own fr:List PX}{js:List Nat}{g:D->ag->M ag}{tc:ag->M Bool}{te:ag->M D}{tI:ag->M (List D)}
theorem zE(hK:X.K=F.K:=by rfl):lE X F [] (λ_=>pure Pa):=⟨hK,λa s b H Q I⟨d,k,S,h⟩=>yS a s b H Q I (h H .refl)⟩
theorem zF(h:DT X F c tc):lE X F [c] tc:=⟨h.hK,yT h.pt⟩
noncomputable def nQ(g:D->ag->M ag)(tc:ag->M Bool)(te:ag->M D):List D->ag->M (List D)
 |[],_=>pure []|d::e,f=>do
  let a<-g d f;let b<-tc a;if b then do
   let x<-te a;let r<-nQ g tc te e a;pure (x::r)else nQ g tc te e a
theorem CS{σ:St}{ρ:ag}{u:Hp}{k1:Nat}{J:It}{ds:List D}{Q:List D->Nat->Prop}{O:List V->St->Hp->Prop}(it:tW F.toFb J ds u k1)(S:cg F ρ k1 σ u)(h:(nQ g tc te ds ρ).run k1 Q F.E)(q:∀vs xs A H' w,Ext F.toFb u k1 H' w->af F.toFb H' vs xs->Q xs w->vs.length<=Pl->O vs A H'):uS J (Kn F g) (qW F tc) (lq (di F te)) σ u [] O:=by
 refine⟨λi m k n l=>m=ds.length-i/\i<=ds.length/\k.length<=i/\∃f a as,cg F f a n l/\Ext F.toFb u k1 l a/\af F.toFb l k as/\(nQ g tc te (ds.drop i) f).run a (λr w=>Q (as++r) w) F.E,⟨ds.length,rfl,Qb _,Pq _,ρ,k1,[],S,.refl,.nil,h⟩,?_⟩;rintro i m k n l⟨rfl,a0,a2,f,a,as,G,t,B,o⟩;by_cases p:i<ds.length
 .obtain⟨d,hd,C⟩:=pd p;rw[C]at o;obtain⟨go,R⟩:=it.step i d l a hd t.kp G.live;refine .inr ⟨go,λx H3 y=>?_⟩;obtain⟨L,i3⟩:=R x H3 y;refine⟨f,a,d,G.mono L,i3,M.wk o λs k4 W P H4 e4 S4=>?_⟩;refine qW.next S4 W λb I H5 e5 N H=>?_;have j:Ext F.toFb l a H5 I:=(L.trans e4).trans e5;cases b with
  |false=>exact⟨ds.length-(i+1),by omega,rfl,p,by omega,s,I,as,N,t.trans j,B.mono j.kp,H⟩|true=>
   rw[if_pos rfl];refine di.next N H λT Y v H6 K S6 Z U=>?_;have hz:=it.len;refine⟨by omega,ds.length-(i+1),by omega,rfl,p,by simp;omega,s,Y,as++[T],S6,t.trans (j.trans K),(B.mono (j.trans K).kp).append (.cons Z .nil),M.wk U λr k7 z=>?_⟩;rw[Qj];exact z
 .have e:i=ds.length:=by omega
  subst e;rw[VZ]at o;have o:Q (as++[]) a:=o;rw[QL]at o;exact .inl ⟨it.stop l a t.kp G.live,q k as n l a t B o (by have:=it.len;omega)⟩
end
noncomputable def t4(e:PC)(d:Nat):Prop:=∀{prog:PF}{w:P0}{A:P9}{R:Result->Pe->Prop}{s:Pe}{it a:O_}{env:U_},codeAny (Py prog w) A (.compLoop e d it a env) R s->wpAny (Py prog w) A (Ye it) (λc b=>codeAny (Py prog w) A (.compLoop e d c a env) R b) (notedBy (Py prog w) A env λx b=>R (.error x) b) s->codeAny (Py prog w) A (.compStart e d it a env) R s
noncomputable def vg{c:Type}(n:Nat)(js:List Nat)(f:TI)(g:TG)(b:TT)(rd:RB c)(a0:c)(o:c->HO):TE:=λd H Q=>f d H λJ h=>uS J g b rd (bJ d n js) h a0 λa _ e=>∀p,e p=Pb->(p==Q8)=Pc->Q (.ref p) (upd e p (o a))
theorem vh{X:Cx}{Z:Type}{e tg iter:PC}{ifs:List PC}{rest:List UN}{f:RQ}{pos:Ro}{cl:List (PX×Pg)}{own fr:List PX}{js:List Nat}{wi:TI}{g:TG}{L:TT}{rd:RB Z}{ok:Z->Qx->Prop}{a0:Z}{ob0:Qx}{o:Z->HO}{newAcc:Vy O_}{body:Pg->U_->Vy Unit}(S:X.calm=Pa)(c:J7 X f cl)(hj:js.map (λj=>X.N[j]?)=fr.map O7)(d4:∀x∈fr,f.names.lookup x=O7 .free)(hw:PI X tg iter wi)(e0:Rz e X.env=comprehension e f X.env pos newAcc Pc (Rz iter X.env) Pb)(b7:clausesOf e=⟨tg,iter,ifs,0⟩::rest)(d0:t4 e 0)(b2:∀{Q:O_->Pe->Prop}{s:Pe},Q (.ref s.heap.objs.size) {s with heap:=s.heap.push ob0}->wpAny (Py X.prog X.w) X.A newAcc Q X.xe s)(d2:∀a ob v,ok a ob->ob.data≠.cell v)(a6:ok a0 ob0)(d1:ob0.data≠.freed)(b6:∀it D env,(Py X.prog X.w).den (.compLoop e 0 (.ref it) (.ref D) env)=(VU e 0 (.ref it) (.ref D) env).onRaise (λx=>do Uc x env;Wz x))(a9:∀it D env,X.A.under (.compLoop e 0 (.ref it) (.ref D) env)=X.A)(e3:∀it D env,VU e 0 (.ref it) (.ref D) env=(do
   Ug iter.pos;match<-UE (.ref it)with
   |none=>pure (.done .next)|some v=>
    Ss tg (.ref it) v;UC tg env v;let mut ok:=Pa;for c in ifs do if ok then ok<-V9 c env (Rz c env)
    if ok then body D env
    YD (.compLoop e 0 (.ref it) (.ref D) env)))(hg:∀pins cs C l s H,PG (ee X pins f (own++fr) cs C l s H) tg g)(hi:∀pins cs C l s H,w_ (ee X pins f (own++fr) cs C l s H) ifs L)(hb:∀pins cs C l s H D,Jh (ee X pins f (own++fr) cs C l s H) D->Body (ee X pins f (own++fr) cs C l s H) ok D (body D (ee X pins f (own++fr) cs C l s H).env) rd)(b4:∀(a:Z)(ob:Qx)(H:Hp)(h:P7)(D:Pg),ok a ob->h.get? D=O7 ob->gQ X.prog X.w H h->aX X.prog X.w (upd H D (o a)) h D (o a))(hs:∀x,R3 iter X.env x=pure x:=by intro _;rfl):PE X e (vg own.length js wi g L rd a0 o):=by
 intro pins s σ H Q I h;rw[e0];refine VN (use:=Pb) b7 hs c.J8 c.kind c.names (bp (hw pins s σ H _ I h) λv s1 h1=>bp h1 λe9 i h2=>?_);obtain⟨it,l,tn,J,F,e1,B,T,a3,f2,c3⟩:=h2;subst e1;refine b2 (i5 ?_);dsimp only;generalize U:i.heap.push ob0=k;have hC:k.objs.size=i.heap.objs.size+1:=by rw[<-U,SK]
 have b9:i.heap.objs.size≠k.objs.size:=by rw[hC];exact P5 (SJ _)
 have u:i.heap.objs.size<=k.objs.size:=by rw[hC];exact WW _
 have V:∀b,b<i.heap.objs.size->b≠k.objs.size:=λb hb=>by rw[hC];exact P5 (Sx hb)
 have a7:∀x a,X.env.cells.lookup x=O7 a->a<i.heap.objs.size:=λx a e=>by
  obtain⟨v,q⟩:=B.cell x a e;exact q.lt
 obtain⟨cj,ck⟩:=iZ f.names (k.objs.size+1) cl (λx a e=>Sx (PJ (a7 x a (c.sub x a e)) u)) (λx y a e1 e2=>B.ok.inj x y a (c.sub x a e1) (c.sub y a e2));have kc:Cj X f i k.objs.size (Sh (k.push {cls:=.type "dict",data:=.dict #[]}) f.names) (RO (k.objs.size+1) f.names cl):=by
  refine⟨cj,λx a e=>?_,λx a e hf=>?_,λx hx=>?_⟩
  .rcases ck x a e with⟨R,W⟩|⟨R,_,z3⟩;.exact .inl ⟨c.sub x a R,λq=>W (Rh q)⟩
   .exact .inr ⟨u,R,z3 _ (SK ..)⟩
  .rcases ck x a e with⟨R,W⟩|⟨_,W,_⟩;.exact c.sub x a R
   .have:=c.cells _ W rfl;rw[hf]at this;cases this
  .have:((RO (k.objs.size+1) f.names cl).lookup x).isSome=Pa:=SQ _ _ _ (by
    rcases hx with z|z;.exact .inl z
    .obtain⟨a,e⟩:=(c.has x z).1;exact .inr (by rw[e];rfl));exact Option.isSome_iff_exists.mp this
 have t:(Sh (k.push {cls:=.type "dict",data:=.dict #[]}) f.names).Ns k.objs.size (λ_=>Pb):=(Heap.Ns.new k (.type "dict")).keeps (TZ _ _);have E:∀b o,k.get? b=O7 o->(Sh (k.push {cls:=.type "dict",data:=.dict #[]}) f.names).get? b=O7 o:=λb o e=>TZ _ _ _ _ (Ph _ e);generalize Sh (k.push {cls:=.type "dict",data:=.dict #[]}) f.names=m at kc t E⊢;generalize RO (k.objs.size+1) f.names cl=cs at kc⊢;have a5:∀b o,i.heap.get? b=O7 o->m.get? b=O7 o:=λb o e=>E b o (U▸Ph _ e);have b8:m.get? i.heap.objs.size=O7 ob0:=E _ _ (U▸PR _ (by cases ob0;rename_i c d n sl;cases n<;>first|rfl|exact absurd rfl d1));have K:∀b∈l,b<i.heap.objs.size:=λb hb=>by
  obtain⟨o,e,_⟩:=T.obj _ _ a3 b hb;exact Px e
 have J0:=nI (own:=own) (fr:=fr) (t':=i.toks) B f2 K c kc hj d4 u a5 t;have oD:Jh (ee X pins f (own++fr) cs k.objs.size l i F) i.heap.objs.size:=⟨Pq _,λx a e z=>by
  rcases kc.sub x a e with⟨q,_⟩|⟨q1,q2,_⟩;.exact absurd (a7 x a q) (by rw[z];exact Qf _)
  .exact absurd (SR q1 q2) (by rw[z];exact Qf _)⟩;have e4:F i.heap.objs.size=Pb:=B.aH.fresh (Pq _);have c9:i.heap.objs.size∉gS X.stack:=λz=>by
  rcases List.mem_cons.mp (B.ij _ z)with q|q;.exact absurd B.lt (by rw[<-q];exact Qf _)
  .exact B.BQ (Pq _) q
 have M:∀p∈(X.pn++pins)++([]:List (Pg×Qx)),p.1≠i.heap.objs.size:=λp G z=>by
  rw[QL]at G;exact absurd (Px (B.pin p G).1) (by rw[z];exact Qf _)
 have J1:Inv (ee X pins f (own++fr) cs k.objs.size l i F) [(i.heap.objs.size,ob0)] (bJ σ own.length js) F {i with heap:=m,toks:=i.toks}:=J0.d_ λp G=>by
   have G:=List.mem_singleton.mp G;rw[G];exact⟨b8,e4,b9,c9,λv=>d2 a0 ob0 v a6⟩
 have b3:∀b∈l,fN (ee X pins f (own++fr) cs k.objs.size l i F) [(i.heap.objs.size,ob0)] F b:=λb hb=>by
  obtain⟨q0,q1,q2,q3,q4,q5⟩:=f2 b hb;refine⟨q0,V b (K b hb),oU B f2 b hb,.inl hb,λx a e=>?_,λp G=>?_⟩
  .rcases kc.sub x a e with⟨q,_⟩|⟨R,W,_⟩;.exact q4 x a q
   .exact RA (U5 (PJ (K b hb) R) W)
  rcases List.mem_append.mp G with z|z;.exact q5 p z
  .have z:=List.mem_singleton.mp z;rw[z];exact Q9 (P5 (K b hb))
 have a4:tn 0 m:=T.keep _ _ _ a3 λb hb o e=>a5 b o e;have a8:=j3 (Y:=ee X pins f (own++fr) cs k.objs.size l i F) (ok:=ok) (D:=i.heap.objs.size) (it:=it) (e:=e) (d:=0) (tg:=tg) (ifs:=ifs) (pos0:=iter.pos) (body:=body i.heap.objs.size (ee X pins f (own++fr) cs k.objs.size l i F).env) S (λ_ _ z=>z) (b6 _ _ _) (a9 _ _ _) (e3 _ _ _) T (hg pins _ _ l i F) (hi pins _ _ l i F) (hb pins _ _ l i F _ oD) J1 M (a:=a0) a6 b3 a4 c3;have c0:codeAny (Py X.prog X.w) X.A (.compLoop e 0 (.ref it) (.ref i.heap.objs.size) (compEnvC f cs k.objs.size X.env)) (compPost (Py X.prog X.w) X.A X.xe Pb (EP X pins σ Q) (.ref i.heap.objs.size) k.objs.size) {i with heap:=m,toks:=i.toks}:=by
  refine Tx a8 λr s' c2=>?_;obtain⟨a,c8,e6,H',hr,I',b0,q',_⟩:=c2;subst hr;obtain⟨m',d3,_⟩:=I'.loc;refine⟨m',d3,λe5 O=>?_⟩;obtain⟨eD,nD,e7,_,_⟩:=I'.pin _ (PK _ Pn);have c1:=yR B f2 I' u O;refine⟨.ref i.heap.objs.size,upd H' i.heap.objs.size (o a),c1.uR B.sz nD (RA B.lt) (λx a e z=>?_) (λp G=>M p (by rw[QL];exact G)) (b4 a c8 H' e5 _ b0 ((O.2 _ b9).trans eD) c1.aH),rfl,q' _ nD (beq_eq_false_iff_ne.mpr (Q9 (P5 B.Ca)))⟩;obtain⟨v,q⟩:=B.cell x a e;exact absurd q.lt (by rw[z];exact Qf _)
 exact d0 c0 (T.self _ 0 _ _ _ a4 c0)
theorem vi{X:Cx}{α:Type}{e tg iter:PC}{ifs:List PC}{rest:List UN}{f:RQ}{pos:Ro}{cl:List (PX×Pg)}{own fr:List PX}{js:List Nat}{wi:TI}{g:TG}{O:TT}{rd:RB α}{ok:α->Qx->Prop}{a0:α}{ob0:Qx}{o:α->HO}{newAcc:Vy O_}{body:Pg->U_->Vy Unit}(a2:X.calm=Pa)(c:J7 X f cl)(hj:js.map (λj=>X.N[j]?)=fr.map O7)(f8:∀x∈fr,f.names.lookup x=O7 .free)(hw:PI X tg iter wi)(f9:∀u,evalThenUse e X.env u=(do let _<-comprehension e f X.env pos newAcc Pc (Rz iter X.env) (O7 u)))(c9:clausesOf e=⟨tg,iter,ifs,0⟩::rest)(e7:t4 e 0)(c0:∀{Q:O_->Pe->Prop}{s:Pe},Q (.ref s.heap.objs.size) {s with heap:=s.heap.push ob0}->wpAny (Py X.prog X.w) X.A newAcc Q X.xe s)(f4:∀a ob v,ok a ob->ob.data≠.cell v)(b4:ok a0 ob0)(f1:ob0.data≠.freed)(c3:∀it D env,(Py X.prog X.w).den (.compLoop e 0 (.ref it) (.ref D) env)=(VU e 0 (.ref it) (.ref D) env).onRaise (λx=>do Uc x env;Wz x))(b8:∀it D env,X.A.under (.compLoop e 0 (.ref it) (.ref D) env)=X.A)(g1:∀it D env,VU e 0 (.ref it) (.ref D) env=(do
   Ug iter.pos;match<-UE (.ref it)with
   |none=>pure (.done .next)|some v=>
    Ss tg (.ref it) v;UC tg env v;let mut ok:=Pa;for c in ifs do if ok then ok<-V9 c env (Rz c env)
    if ok then body D env
    YD (.compLoop e 0 (.ref it) (.ref D) env)))(hg:∀pins cs C n s H,PG (ee X pins f (own++fr) cs C n s H) tg g)(hi:∀pins cs C n s H,w_ (ee X pins f (own++fr) cs C n s H) ifs O)(hb:∀pins cs C n s H D,Jh (ee X pins f (own++fr) cs C n s H) D->Body (ee X pins f (own++fr) cs C n s H) ok D (body D (ee X pins f (own++fr) cs C n s H).env) rd)(c2:∀(a:α)(ob:Qx)(H:Hp)(h:P7)(D:Pg),ok a ob->h.get? D=O7 ob->gQ X.prog X.w H h->aX X.prog X.w (upd H D (o a)) h D (o a))(hs:∀x,R3 iter X.env x=pure x:=by intro _;rfl):∀(pins:List (Pg×Qx))(s:Pe)(σ:St)(H:Hp)(x:PX)(p' p2:Ro)(gt:TG)(D:Ends),Inv X pins σ H s->RW e (O7 (.Name x p')) p2.line X.env=pure Pa->PG X (.Name x p') gt->BV (vg own.length js wi g O rd a0 o) gt D σ H->wpAny (Py X.prog X.w) X.A (exec (.Assign [.Name x p'] e p2) X.env) (SP X pins D) X.xe s:=by
 intro pins s σ H x p' p2 gt Z I e6 f7 h;rw[exec_Assign_Name_used _ _ _ _ e6];refine O9 (RG ?_);rw[f9];refine O9 (O9 ?_);refine VN (use:=O7 (UC (.Name x p') X.env)) (Q:=λ_ L=>wpAny (Py X.prog X.w) X.A (pure Yx) (λ_ W=>wpAny (Py X.prog X.w) X.A (pure Yd) (SP X pins Z) X.xe W) X.xe L) c9 hs c.J8 c.kind c.names (bp (hw pins s σ H _ I h) λv s1 h1=>bp h1 λg7 i h2=>?_);obtain⟨it,n,tn,J,K,e1,m,T,a9,f2,d4⟩:=h2;subst e1;refine c0 (i5 ?_);dsimp only;generalize a3:i.heap.push ob0=k;have hC:k.objs.size=i.heap.objs.size+1:=by rw[<-a3,SK]
 have d1:i.heap.objs.size≠k.objs.size:=by rw[hC];exact P5 (SJ _)
 have l:i.heap.objs.size<=k.objs.size:=by rw[hC];exact WW _
 have a6:∀b,b<i.heap.objs.size->b≠k.objs.size:=λb hb=>by rw[hC];exact P5 (Sx hb)
 have b6:∀x a,X.env.cells.lookup x=O7 a->a<i.heap.objs.size:=λx a e=>by
  obtain⟨v,q⟩:=m.cell x a e;exact q.lt
 obtain⟨cj,ck⟩:=iZ f.names (k.objs.size+1) cl (λx a e=>Sx (PJ (b6 x a (c.sub x a e)) l)) (λx y a e1 e2=>m.ok.inj x y a (c.sub x a e1) (c.sub y a e2));have kc:Cj X f i k.objs.size (Sh (k.push {cls:=.type "dict",data:=.dict #[]}) f.names) (RO (k.objs.size+1) f.names cl):=by
  refine⟨cj,λx a e=>?_,λx a e hf=>?_,λx hx=>?_⟩
  .rcases ck x a e with⟨V,z2⟩|⟨V,_,z3⟩;.exact .inl ⟨c.sub x a V,λq=>z2 (Rh q)⟩
   .exact .inr ⟨l,V,z3 _ (SK ..)⟩
  .rcases ck x a e with⟨V,z2⟩|⟨_,z2,_⟩;.exact c.sub x a V
   .have:=c.cells _ z2 rfl;rw[hf]at this;cases this
  .have:((RO (k.objs.size+1) f.names cl).lookup x).isSome=Pa:=SQ _ _ _ (by
    rcases hx with z|z;.exact .inl z
    .obtain⟨a,e⟩:=(c.has x z).1;exact .inr (by rw[e];rfl));exact Option.isSome_iff_exists.mp this
 have F:(Sh (k.push {cls:=.type "dict",data:=.dict #[]}) f.names).Ns k.objs.size (λ_=>Pb):=(Heap.Ns.new k (.type "dict")).keeps (TZ _ _);have G:∀b o,k.get? b=O7 o->(Sh (k.push {cls:=.type "dict",data:=.dict #[]}) f.names).get? b=O7 o:=λb o e=>TZ _ _ _ _ (Ph _ e);generalize Sh (k.push {cls:=.type "dict",data:=.dict #[]}) f.names=t at kc F G⊢;generalize RO (k.objs.size+1) f.names cl=cs at kc⊢;have b3:∀b o,i.heap.get? b=O7 o->t.get? b=O7 o:=λb o e=>G b o (a3▸Ph _ e);have d0:t.get? i.heap.objs.size=O7 ob0:=G _ _ (a3▸PR _ (by cases ob0;rename_i c d B sl;cases B<;>first|rfl|exact absurd rfl f1));have M:∀b∈n,b<i.heap.objs.size:=λb hb=>by
  obtain⟨o,e,_⟩:=T.obj _ _ a9 b hb;exact Px e
 have J0:=nI (own:=own) (fr:=fr) (t':=i.toks) m f2 M c kc hj f8 l b3 F;have oD:Jh (ee X pins f (own++fr) cs k.objs.size n i K) i.heap.objs.size:=⟨Pq _,λx a e z=>by
  rcases kc.sub x a e with⟨q,_⟩|⟨q1,q2,_⟩;.exact absurd (b6 x a q) (by rw[z];exact Qf _)
  .exact absurd (SR q1 q2) (by rw[z];exact Qf _)⟩;have g2:K i.heap.objs.size=Pb:=m.aH.fresh (Pq _);have e3:i.heap.objs.size∉gS X.stack:=λz=>by
  rcases List.mem_cons.mp (m.ij _ z)with q|q;.exact absurd m.lt (by rw[<-q];exact Qf _)
  .exact m.BQ (Pq _) q
 have P:∀p∈(X.pn++pins)++([]:List (Pg×Qx)),p.1≠i.heap.objs.size:=λp E z=>by
  rw[QL]at E;exact absurd (Px (m.pin p E).1) (by rw[z];exact Qf _)
 have J1:Inv (ee X pins f (own++fr) cs k.objs.size n i K) [(i.heap.objs.size,ob0)] (bJ σ own.length js) K {i with heap:=t,toks:=i.toks}:=J0.d_ λp E=>by
   have E:=List.mem_singleton.mp E;rw[E];exact⟨d0,g2,d1,e3,λv=>f4 a0 ob0 v b4⟩
 have c1:∀b∈n,fN (ee X pins f (own++fr) cs k.objs.size n i K) [(i.heap.objs.size,ob0)] K b:=λb hb=>by
  obtain⟨q0,q1,q2,q3,q4,q5⟩:=f2 b hb;refine⟨q0,a6 b (M b hb),oU m f2 b hb,.inl hb,λx a e=>?_,λp E=>?_⟩
  .rcases kc.sub x a e with⟨q,_⟩|⟨V,z2,_⟩;.exact q4 x a q
   .exact RA (U5 (PJ (M b hb) V) z2)
  rcases List.mem_append.mp E with z|z;.exact q5 p z
  .have z:=List.mem_singleton.mp z;rw[z];exact Q9 (P5 (M b hb))
 have b0:tn 0 t:=T.keep _ _ _ a9 λb hb o e=>b3 b o e;have b7:=j3 (Y:=ee X pins f (own++fr) cs k.objs.size n i K) (ok:=ok) (D:=i.heap.objs.size) (it:=it) (e:=e) (d:=0) (tg:=tg) (ifs:=ifs) (pos0:=iter.pos) (body:=body i.heap.objs.size (ee X pins f (own++fr) cs k.objs.size n i K).env) a2 (λ_ _ z=>z) (c3 _ _ _) (b8 _ _ _) (g1 _ _ _) T (hg pins _ _ n i K) (hi pins _ _ n i K) (hb pins _ _ n i K _ oD) J1 P (a:=a0) b4 c1 b0 d4;have d2:codeAny (Py X.prog X.w) X.A (.compLoop e 0 (.ref it) (.ref i.heap.objs.size) (compEnvC f cs k.objs.size X.env)) (compPost (Py X.prog X.w) X.A X.xe (O7 (UC (.Name x p') X.env)) (λ_ L=>wpAny (Py X.prog X.w) X.A (pure Yx) (λ_ W=>wpAny (Py X.prog X.w) X.A (pure Yd) (SP X pins Z) X.xe W) X.xe L) (.ref i.heap.objs.size) k.objs.size) {i with heap:=t,toks:=i.toks}:=by
  refine Tx b7 λr L U=>?_;obtain⟨a,e0,g5,H',hr,I',b9,q',_⟩:=U;subst hr;show wpAny (Py X.prog X.w) X.A (UC (.Name x p') X.env (.ref i.heap.objs.size)) _ X.xe L;obtain⟨m',f6,_⟩:=I'.loc;obtain⟨oC,g3,g4,f3,c8,f0⟩:=id f6;have nC:H' k.objs.size=Pb:=I'.free;obtain⟨eD,nD,g6,_,_⟩:=I'.pin _ (PK _ Pn);have d3:Inv X pins σ H' L:=Ck m f2 I';have a4:∀y c,X.env.cells.lookup y=O7 c->c≠i.heap.objs.size:=λy c e z=>by
   obtain⟨v,q⟩:=m.cell y c e;exact absurd q.lt (by rw[z];exact Qf _)
  have a5:∀y c,X.env.cells.lookup y=O7 c->c≠k.objs.size:=λy c e z=>by
   obtain⟨v,q⟩:=m.cell y c e;exact absurd (PJ q.lt l) (by rw[z];exact Qf _)
  have b2:∀p∈X.pn++pins,p.1≠k.objs.size:=λp E z=>absurd (PJ (Px (m.pin p E).1) l) (by rw[z];exact Qf _);have R:k.objs.size≠X.env.locals:=RA (PJ m.lt l);have e4:k.objs.size∉X.fs:=m.BQ l;have I3:Inv X pins σ (upd H' i.heap.objs.size (o a)) L:=d3.uR m.sz nD (RA m.lt) a4 (λp E=>P p (by rw[QL];exact E)) (c2 a e0 H' L.heap _ b9 eD d3.aH);have I4:Inv X ((k.objs.size,oC)::pins) σ (upd H' i.heap.objs.size (o a)) L:=I3.d_ λp E=>by
   rcases List.mem_cons.mp E with z|z
   .rw[z];exact⟨f3,by rw[ai (Q9 d1)];exact nC,R,e4,λv q=>by rw[c8]at q;cases q⟩
   .exact I3.pin p (PK _ z)
  refine bp (f7 _ L σ _ (.ref i.heap.objs.size) (.ref i.heap.objs.size) Z.nx I4 rfl (q' _ nD (beq_eq_false_iff_ne.mpr (Q9 (P5 m.Ca))))) λ_ s5 U=>?_;obtain⟨a7,H5,I5,q5⟩:=U;obtain⟨e5,n5,_,_,_⟩:=I5.pin (k.objs.size,oC) (PK _ Pn);refine⟨m',⟨oC,g3,g4,e5,c8,f0⟩,λh6 e9=>Pf (Pf ?_)⟩;have I6:Inv X pins a7 H5 s5:=I5.d_ λp E=>I5.pin p (PK _ (Po _ E));exact⟨a7,H5,I6.turned (t':=s5.toks) (it:=k.objs.size) (λb ob hb e=>(e9.2 b hb).trans e) n5 R (.inr (Qa m.sz l)) a5 b2,q5⟩
 exact e7 d2 (T.self _ 0 _ _ _ b0 d2)
theorem gH{e:PC}{d:Nat}{g:UN}(j:(clausesOf e)[d]?=O7 g)(ha:(g.is_async !=0)=Pc)(c:∀prog w it a env,(Py prog w).den (.compStart e d it a env)=(compStart e d it a env).onRaise (λx=>do Uc x env;Ug theWindowsPlace):=by intros;rfl)(b:∀(A:P9)it a env,A.under (.compStart e d it a env)=A:=by intros;rfl):t4 e d:=by
 intro prog w A R s it a env f h;refine codeAny_of_tree ?_;rw[c,b];refine wpAny_notedAt ?_;unfold compStart;rw[j];simp only[Option.elim,ha,P4,if_false];refine O9 (Si (wpAny_ite ?_));split;.first
   |exact O9 (Pf (Pf (And.intro rfl f)))|exact Pf (And.intro rfl f)
 .refine O9 (UD (O9 (RG (O9 (QV h (λi l k=>Pf (And.intro rfl k)) λ_ _ x=>x)))))
section
variable{X:Cx}{elt tg iter tg2 iter2:PC}{ifs ifs2:List PC}{scope:RQ}{pos:Ro}{cl:List (PX×Pg)}{own fr:List PX}{js:List Nat}{wi wi2:TI}{g g2:TG}{tifs tifs2:TT}{te:TE}
theorem q_{P:PF}{w:P0}(a:List V)(ob:Qx)(H:Hp)(h:P7)(D:Pg)(ok:Mq a ob)(e:h.get? D=O7 ob)(_:gQ P w H h):aX P w (upd H D (.lst a)) h D (.lst a):=by
 obtain⟨d,b,n,c,rfl⟩:=ok;exact⟨d,b,n,c,e⟩
end
mutual
noncomputable def bh(h:P7):O_->D->Prop
 |u,.bH=>u=.none|u,.bl b=>u=.bool b|u,.int i=>∃t,u=.int i t|u,.str x=>∃t,u=.str x t|u,.tup d=>∃a c,u=.ref a/\h.IsTuple a c/\cu h c.toList d|u,.lst d=>∃a c,u=.ref a/\h.IsList a c/\cu h c.toList d|u,.aE _ _=>∃a,u=.ref a|u,.exc _ _=>∃a,u=.ref a|u,.aM _=>∃a,u=.ref a
noncomputable def cu(h:P7):List O_->List D->Prop
 |us,[]=>us=[]|us,d::a=>∃u r,us=u::r/\bh h u d/\cu h r a
end
theorem cu.length{h:P7}:∀{us:List O_}{ds:List D},cu h us ds->us.length=ds.length
 |_,[],q=>by simp only[cu]at q;rw[q];rfl|_,d::ds,q=>by
  simp only[cu]at q;obtain⟨u,r,rfl,_,q⟩:=q;simp[cu.length q]
theorem cu.get{h:P7}:∀{us:List O_}{ds:List D}{i:Nat}{u:O_},cu h us ds->us[i]?=O7 u->∃d,ds[i]?=O7 d/\bh h u d
 |_,[],_,_,q,e=>by simp only[cu]at q;rw[q]at e;simp at e|_,c::ds,i,u,q,e=>by
  simp only[cu]at q;obtain⟨x,r,rfl,a,q⟩:=q;cases i with
  |zero=>simp at e;subst e;exact⟨c,rfl,a⟩|succ i=>simpa using cu.get (i:=i) q (by simpa using e)
section
variable{X:Cx}{pins:List (Pg×Qx)}{σ:St}{H:Hp}{s:Pe}{B:Fb}
mutual
theorem eX(I:Inv X pins σ H s)(hK:X.K=B.K):∀{v:V}{u:O_}{d:D},RelV v u->Is B H v d->bh s.heap u d
 |_,_,.bH,r,i=>by simp only[Is]at i;subst i;simp only[bh];exact r|_,_,.bl _,r,i=>by simp only[Is]at i;subst i;simp only[bh];exact r|_,_,.int _,r,i=>by simp only[Is]at i;subst i;simp only[bh];exact r|_,_,.str _,r,i=>by simp only[Is]at i;subst i;simp only[bh];exact r|_,_,.tup k,r,i=>by
  simp only[Is]at i;obtain⟨a,h,rfl,g,f⟩:=i;obtain⟨b,c,e,_⟩:=I.tuple (by rw[hK];exact g.2);simp only[bh];exact⟨a,b.toArray,r,e,ph I hK c f⟩|_,_,.lst k,r,i=>by
  simp only[Is]at i;obtain⟨a,h,rfl,g,f⟩:=i;obtain⟨b,c,e,_⟩:=I.list (by rw[hK];exact g.2.sq);simp only[bh];exact⟨a,b.toArray,r,e.isList,ph I hK c f⟩|_,_,.aE _ _,r,i=>by
  simp only[Is]at i;obtain⟨a,h,rfl,_⟩:=i;simp only[bh];exact⟨a,r⟩|_,_,.exc _ _,r,i=>by
  simp only[Is]at i;obtain⟨a,j,rfl,_⟩:=i;simp only[bh];exact⟨a,r⟩|_,_,.aM j,r,i=>by
  simp only[Is]at i;obtain⟨a,rfl,_⟩:=i;simp only[bh];exact⟨a,r⟩
theorem ph(I:Inv X pins σ H s)(hK:X.K=B.K):∀{vs:List V}{us:List O_}{ds:List D},ar vs us->af B H vs ds->cu s.heap us ds
 |_,_,[],r,i=>by
  simp only[af]at i;subst i;cases r;simp only[cu]|_,_,d::ds,r,i=>by
  simp only[af]at i;obtain⟨x,f,rfl,e,c⟩:=i;cases r with|cons b a=>
   simp only[cu];exact⟨_,_,rfl,eX I hK b e,ph I hK a c⟩
end
end
noncomputable def aZ(f:D->D->Option Bool):List D->List D->Option Bool
 |x::d,y::c=>match f x y,aZ f d c with
  |some a,O7 b=>O7 (a&&b)|_,_=>Pb
 |_,_=>O7 Pa
noncomputable def cV:Nat->D->D->Option Bool
 |0=>λ_ _=>Pb|n+1=>λd e=>match d,e with
  |.tup f,.tup c=>(aZ (cV n) f c).map λb=>b&&f.length==c.length|.lst f,.lst c=>(aZ (cV n) f c).map λb=>b&&f.length==c.length|.bH,.bH=>O7 Pa|.bl a,.bl b=>O7 (a==b)|.bl a,.int b=>O7 ((if a then 1 else 0)==b)|.int a,.bl b=>O7 (a==(if b then 1 else 0))|.int a,.int b=>O7 (a==b)|.str a,.str b=>O7 (a==b)|.aE _ _,_=>Pb|.exc _ _,_=>Pb|.aM _,_=>Pb|_,.aE _ _=>Pb|_,.exc _ _=>Pb|_,.aM _=>Pb|_,_=>O7 Pc
theorem c7{f:D->D->Option Bool}:∀{xs d:List D}{b:Bool},aZ f xs d=O7 b->(∀(j:Nat)(x y:D),xs[j]?=O7 x->d[j]?=O7 y->∃c,f x y=O7 c)/\∀g:Nat->Bool,(∀(j:Nat)(x y:D),xs[j]?=O7 x->d[j]?=O7 y->f x y=O7 (g j))->(Qg (min xs.length d.length)).all g=b
 |[],d,b,h=>by cases d<;>(simp[aZ]at h;subst h;exact⟨λj x y e=>absurd e (by simp),λg _=>(by simp)⟩)|x::xs,[],b,h=>by
  simp[aZ]at h;subst h;exact⟨λj x y e i=>by simp at i,λg _=>by simp⟩|x::xs,y::d,b,h=>by
  simp only[aZ]at h;cases k:f x y with
  |none=>rw[k]at h;simp at h|some a=>cases n:aZ f xs d with
   |none=>rw[k,n]at h;simp at h|some c=>
    rw[k,n]at h;simp only[R6]at h;obtain⟨q,p⟩:=c7 n;refine⟨λj m l e i=>?_,λg o=>?_⟩;.cases j with
     |zero=>simp at e i;subst e i;exact⟨a,k⟩|succ j=>exact q j m l (by simpa using e) (by simpa using i)
    .have s:g 0=a:=by
      have:=o 0 x y rfl rfl;rw[k]at this;exact(Pm this).symm
     have r:=p (λj=>g (j+1)) λj m l e i=>o (j+1) m l (by simpa using e) (by simpa using i);rw[<-h,<-r,<-s];have:min (x::xs).length (y::d).length=min xs.length d.length+1:=by simp only[PM];omega
     rw[this,List.range_succ_eq_map,Sg,List.all_map];rfl
theorem j7{h:P7}{a:Pg}{b its':Array O_}(p:h.IsTuple a b)(q:h.IsTuple a its'):b=its':=by
 obtain⟨o,e,c,n,d⟩:=p;obtain⟨i,f,k,j,g⟩:=q;rw[e]at f;cases f;rw[d]at g;cases g;rfl
theorem lF{h:P7}{a:Pg}{b its':Array O_}(p:h.IsList a b)(q:h.IsList a its'):b=its':=by
 obtain⟨o,e,c,n,d⟩:=p;obtain⟨i,f,k,j,g⟩:=q;rw[e]at f;cases f;rw[d]at g;cases g;rfl
theorem vj{h:P7}{a:Pg}{b its':Array O_}(p:h.IsList a b)(q:h.IsTuple a its'):False:=by
 obtain⟨o,e,c,n,d⟩:=p;obtain⟨i,f,g,j,k⟩:=q;rw[e]at f;cases f;rw[c]at g;exact absurd (Value.type.inj g) (by decide)
theorem lG{h:P7}:∀(n:Nat){u:O_}{d e:D}{b:Bool},bh h u d->bh h u e->cV n d e=O7 b->b=Pa
  |0,_,_,_,_,_,_,q=>by cases q|n+1,u,d,e,b,p,i,q=>by
    have step:∀{f:List O_}{xs m:List D}{c:Bool},cu h f xs->cu h f m->aZ (cV n) xs m=O7 c->(c&&xs.length==m.length)=Pa:=λ{f xs m c}r v l=>by
      obtain⟨H,G⟩:=c7 l;have:=G (λ_=>Pa) λj x y ex C=>by
        obtain⟨z,w⟩:=H j x y ex C;have B:j<f.length:=by rw[r.length];exact(List.getElem?_eq_some_iff.mp ex).1
        obtain⟨M,F,J⟩:=r.get (PN B);obtain⟨L,E,I⟩:=v.get (PN B);rw[ex]at F;rw[C]at E;cases F;cases E;rw[w,lG n J I w]
      rw[<-this,<-r.length,<-v.length];simp
    cases d<;>first
      |exact nomatch(show(Pb:Option Bool)=O7 b from q)|(cases e<;>first
          |exact nomatch(show(Pb:Option Bool)=O7 b from q)
          | (simp only[bh]at p i;first
               | (exfalso;(first|(obtain⟨_,rfl⟩:=p)|(obtain⟨_,_,rfl,_⟩:=p)|subst p)<;>(first|(obtain⟨_,z⟩:=i;cases z;done)|(obtain⟨_,_,z,_⟩:=i;cases z;done)|(cases i;done)))|(subst p;cases i;have q:=Pm (show O7 _=O7 b from q);rw[<-q];try simp;done)|(obtain⟨t,rfl⟩:=p;obtain⟨K,z⟩:=i;cases z;have q:=Pm (show O7 _=O7 b from q);rw[<-q];try simp;done)|skip))
    all_goals
      obtain⟨a,f,rfl,o,A⟩:=p;obtain⟨N,s,z,g,k⟩:=i;cases z
    · obtain rfl:=j7 o g;obtain⟨c,l,rfl⟩:=Option.map_eq_some_iff.mp (show(aZ (cV n) _ _).map _=O7 b from q);exact step A k l
    ·exact(vj g o).elim
    ·exact(vj o g).elim
    · obtain rfl:=lF o g;obtain⟨c,l,rfl⟩:=Option.map_eq_some_iff.mp (show(aZ (cV n) _ _).map _=O7 b from q);exact step A k l
theorem nR{h:P7}{n:Nat}{a its':Array O_}{xs f:List D}{b:Bool}{A:P9}{s:Pe}(hs:cu s.heap a.toList xs)(k:cu s.heap its'.toList f)(q:(aZ (cV n) xs f).map (λb=>b&&xs.length==f.length)=O7 b)(C:∀{u v:O_}{d e:D}{c:Bool},bh s.heap u d->bh s.heap v e->cV n d e=O7 c->SA A s u v c):∃e:Nat->Bool,(∀j(o:j<a.size)(m:j<its'.size),SA A s a[j] its'[j] (e j))/\((Qg (min a.size its'.size)).all e&&a.size==its'.size)=b:=by
 simp only[Wq]at q;obtain⟨c,H,rfl⟩:=q;obtain⟨t,r⟩:=c7 H;have B:a.size=xs.length:=by have:=hs.length;simpa using this
 have w:its'.size=f.length:=by have:=k.length;simpa using this
 have all:∀j:Nat,∃g:Bool,∀(x y:D),xs[j]?=O7 x->f[j]?=O7 y->cV n x y=O7 g:=λj=>by cases F:xs[j]? with
  |none=>exact⟨Pa,λx y z=>nomatch z⟩|some x=>cases E:f[j]? with
   |none=>exact⟨Pa,λx y _ z=>nomatch z⟩|some y=>
    obtain⟨g,l⟩:=t j x y F E;exact⟨g,λL K z p=>by cases z;cases p;exact l⟩
 obtain⟨g,l⟩:∃g:Nat->Bool,∀(j:Nat)(x y:D),xs[j]?=O7 x->f[j]?=O7 y->cV n x y=O7 (g j):=⟨λj=>(all j).choose,λj=>(all j).choose_spec⟩;refine⟨g,λj o m=>?_,?_⟩
 .obtain⟨d,hd,J⟩:=hs.get (i:=j) (u:=a[j]) (by simp[o]);obtain⟨e,G,I⟩:=k.get (i:=j) (u:=its'[j]) (by simp[m]);exact C J I (l j d e hd G)
 .rw[B,w,r g l]
theorem GP{n:Nat}{A:P9}{s:Pe}{a1 a2:Pg}{f a:Array O_}{xs o:List D}{b:Bool}(m:cu s.heap f.toList xs)(l:cu s.heap a.toList o)(j:s.heap.IsTuple a1 f)(i:s.heap.IsTuple a2 a)(k:A.units<Q_)(q:cV (n+1) (.tup xs) (.tup o)=O7 b)(x:∀{u v:O_}{d e:D}{c:Bool},bh s.heap u d->bh s.heap v e->cV n d e=O7 c->SA A.in1 s u v c):Wr A s (.ref a1) (.ref a2) b/\U8 A s (.ref a1) (.ref a2) (!b)/\SA A s (.ref a1) (.ref a2) b:=by
 obtain⟨g,t,hb⟩:=nR (h:=s.heap) m l q x;have p:Wr A s (.ref a1) (.ref a2) b:=hb▸SeqAt.RcAt.tuples j i k t;have w:U8 A s (.ref a1) (.ref a2) (!b):=hb▸SeqAt.RcNeAt.tuples j i k t;refine⟨p,w,?_⟩;by_cases r:a1=a2
 .subst r;have:b=Pa:=lG (h:=s.heap) (n+1) (u:=.ref a1) (by simp only[bh];exact⟨a1,f,rfl,j,m⟩) (by simp only[bh];exact⟨a1,a,rfl,i,l⟩) q;subst this;exact .same _
 .exact .of_refs r p
theorem GQ{n:Nat}{A:P9}{s:Pe}{a1 a2:Pg}{a f:Array O_}{xs t:List D}{b:Bool}(p:cu s.heap a.toList xs)(o:cu s.heap f.toList t)(j:s.heap.IsList a1 a)(i:s.heap.IsList a2 f)(k:A.units<Q_)(q:cV (n+1) (.lst xs) (.lst t)=O7 b)(B:∀{u v:O_}{d e:D}{c:Bool},bh s.heap u d->bh s.heap v e->cV n d e=O7 c->SA A.in1 s u v c):Wr A s (.ref a1) (.ref a2) b/\U8 A s (.ref a1) (.ref a2) (!b)/\SA A s (.ref a1) (.ref a2) b:=by
 obtain⟨g,y,hb⟩:=nR (h:=s.heap) p o q B;have r:Wr A s (.ref a1) (.ref a2) b/\U8 A s (.ref a1) (.ref a2) (!b):=by
  by_cases m:a.size=f.size
  .have l:(Qg a.size).all g=b:=by rw[<-m]at hb;simpa using hb
   exact⟨l▸SeqAt.RcAt.lists j i m k y,l▸SeqAt.RcNeAt.lists j i m k y⟩
  .have l:b=Pc:=by rw[<-hb];simp[m]
   subst l;exact⟨SeqAt.RcAt.lists_lengths j i (by simpa using m) k,SeqAt.RcNeAt.lists_lengths j i (by simpa using m) k⟩
 obtain⟨w,z⟩:=r;refine⟨w,z,?_⟩;by_cases x:a1=a2
 .subst x;have:b=Pa:=lG (h:=s.heap) (n+1) (u:=.ref a1) (by simp only[bh];exact⟨a1,a,rfl,j,p⟩) (by simp only[bh];exact⟨a1,f,rfl,i,o⟩) q;subst this;exact .same _
 .exact .of_refs x w
theorem pj:∀(n:Nat){A:P9}{s:Pe}{u v:O_}{d e:D}{b:Bool},bh s.heap u d->bh s.heap v e->A.units+n<Q_->cV n d e=O7 b->Wr A s u v b/\U8 A s u v (!b)/\SA A s u v b
 |0,_,_,_,_,_,_,_,_,_,_,q=>by cases q|n+1,A,s,u,v,d,e,b,p,i,hu,q=>by
  have a:A.units<Q_:=by omega
  have H:∀{u v:O_}{d e:D}{c:Bool},bh s.heap u d->bh s.heap v e->cV n d e=O7 c->SA A.in1 s u v c:=λK E J=>(pj n K E (by rw[Around.in1_units];omega) J).2.2;have G:=q;cases d with
  |bH=>cases e with
   |bH=>
    simp only[bh]at p i;subst p;subst i;have q:=Pm (show O7 _=O7 b from q);subst q;exact⟨SeqAt.RcAt.none_none,SeqAt.RcNeAt.none_none,SeqAt.EqAt.same _⟩|bl y=>
    simp only[bh]at p i;subst p;subst i;have q:=Pm (show O7 _=O7 b from q);subst q;exact⟨SeqAt.RcAt.none_bool _,SeqAt.RcNeAt.none_bool _,SeqAt.EqAt.none_bool _⟩|int y=>
    simp only[bh]at p i;subst p;obtain⟨t,rfl⟩:=i;have q:=Pm (show O7 _=O7 b from q);subst q;exact⟨SeqAt.RcAt.none_int _ _,SeqAt.RcNeAt.none_int _ _,SeqAt.EqAt.none_int _ _⟩|str y=>
    simp only[bh]at p i;subst p;obtain⟨t,rfl⟩:=i;have q:=Pm (show O7 _=O7 b from q);subst q;exact⟨SeqAt.RcAt.none_str _ _,SeqAt.RcNeAt.none_str _ _,SeqAt.EqAt.none_str _ _⟩|tup o=>
    simp only[bh]at p i;subst p;obtain⟨C,j,rfl,g,l⟩:=i;have q:=Pm (show O7 _=O7 b from q);subst q;exact⟨SeqAt.RcAt.none_tuple g a,SeqAt.RcNeAt.none_tuple g a,SeqAt.EqAt.none_tuple g a⟩|lst o=>
    simp only[bh]at p i;subst p;obtain⟨C,j,rfl,g,l⟩:=i;have q:=Pm (show O7 _=O7 b from q);subst q;exact⟨SeqAt.RcAt.none_list g a,SeqAt.RcNeAt.none_list g a,SeqAt.EqAt.none_list g a⟩|aE z r=>exact nomatch(show(Pb:Option Bool)=O7 b from q)|exc E B=>exact nomatch(show(Pb:Option Bool)=O7 b from q)|aM F=>exact nomatch(show(Pb:Option Bool)=O7 b from q)
  |bl x=>cases e with
   |bH=>
    simp only[bh]at p i;subst p;subst i;have q:=Pm (show O7 _=O7 b from q);subst q;exact⟨SeqAt.RcAt.bool_none _,SeqAt.RcNeAt.bool_none _,SeqAt.EqAt.bool_none _⟩|bl y=>
    simp only[bh]at p i;subst p;subst i;have q:=Pm (show O7 _=O7 b from q);subst q;exact⟨SeqAt.RcAt.bool_bool _ _,SeqAt.RcNeAt.bool_bool _ _,SeqAt.EqAt.bool_bool _ _⟩|int y=>
    simp only[bh]at p i;subst p;obtain⟨t,rfl⟩:=i;have q:=Pm (show O7 _=O7 b from q);subst q;exact⟨SeqAt.RcAt.bool_int _ _ _,SeqAt.RcNeAt.bool_int _ _ _,SeqAt.EqAt.bool_int _ _ _⟩|str y=>
    simp only[bh]at p i;subst p;obtain⟨t,rfl⟩:=i;have q:=Pm (show O7 _=O7 b from q);subst q;exact⟨SeqAt.RcAt.bool_str _ _ _,SeqAt.RcNeAt.bool_str _ _ _,SeqAt.EqAt.bool_str _ _ _⟩|tup o=>
    simp only[bh]at p i;subst p;obtain⟨C,j,rfl,g,l⟩:=i;have q:=Pm (show O7 _=O7 b from q);subst q;exact⟨SeqAt.RcAt.bool_tuple _ g a,SeqAt.RcNeAt.bool_tuple _ g a,SeqAt.EqAt.bool_tuple _ g a⟩|lst o=>
    simp only[bh]at p i;subst p;obtain⟨C,j,rfl,g,l⟩:=i;have q:=Pm (show O7 _=O7 b from q);subst q;exact⟨SeqAt.RcAt.bool_list _ g a,SeqAt.RcNeAt.bool_list _ g a,SeqAt.EqAt.bool_list _ g a⟩|aE z r=>exact nomatch(show(Pb:Option Bool)=O7 b from q)|exc E B=>exact nomatch(show(Pb:Option Bool)=O7 b from q)|aM F=>exact nomatch(show(Pb:Option Bool)=O7 b from q)
  |int x=>cases e with
   |bH=>
    simp only[bh]at p i;obtain⟨w,rfl⟩:=p;subst i;have q:=Pm (show O7 _=O7 b from q);subst q;exact⟨SeqAt.RcAt.int_none _ _,SeqAt.RcNeAt.int_none _ _,SeqAt.EqAt.int_none _ _⟩|bl y=>
    simp only[bh]at p i;obtain⟨w,rfl⟩:=p;subst i;have q:=Pm (show O7 _=O7 b from q);subst q;exact⟨SeqAt.RcAt.int_bool _ _ _,SeqAt.RcNeAt.int_bool _ _ _,SeqAt.EqAt.int_bool _ _ _⟩|int y=>
    simp only[bh]at p i;obtain⟨w,rfl⟩:=p;obtain⟨t,rfl⟩:=i;have q:=Pm (show O7 _=O7 b from q);subst q;exact⟨SeqAt.RcAt.int_int _ _ _ _,SeqAt.RcNeAt.int_int _ _ _ _,Xz _ _ _ _⟩|str y=>
    simp only[bh]at p i;obtain⟨w,rfl⟩:=p;obtain⟨t,rfl⟩:=i;have q:=Pm (show O7 _=O7 b from q);subst q;exact⟨SeqAt.RcAt.int_str _ _ _ _,SeqAt.RcNeAt.int_str _ _ _ _,Xt _ _ _ _⟩|tup o=>
    simp only[bh]at p i;obtain⟨w,rfl⟩:=p;obtain⟨C,j,rfl,g,l⟩:=i;have q:=Pm (show O7 _=O7 b from q);subst q;exact⟨SeqAt.RcAt.int_tuple _ _ g a,SeqAt.RcNeAt.int_tuple _ _ g a,WX _ _ g a⟩|lst o=>
    simp only[bh]at p i;obtain⟨w,rfl⟩:=p;obtain⟨C,j,rfl,g,l⟩:=i;have q:=Pm (show O7 _=O7 b from q);subst q;exact⟨SeqAt.RcAt.int_list _ _ g a,SeqAt.RcNeAt.int_list _ _ g a,SeqAt.EqAt.int_list _ _ g a⟩|aE z r=>exact nomatch(show(Pb:Option Bool)=O7 b from q)|exc E B=>exact nomatch(show(Pb:Option Bool)=O7 b from q)|aM F=>exact nomatch(show(Pb:Option Bool)=O7 b from q)
  |str x=>cases e with
   |bH=>
    simp only[bh]at p i;obtain⟨w,rfl⟩:=p;subst i;have q:=Pm (show O7 _=O7 b from q);subst q;exact⟨SeqAt.RcAt.str_none _ _,SeqAt.RcNeAt.str_none _ _,SeqAt.EqAt.str_none _ _⟩|bl y=>
    simp only[bh]at p i;obtain⟨w,rfl⟩:=p;subst i;have q:=Pm (show O7 _=O7 b from q);subst q;exact⟨SeqAt.RcAt.str_bool _ _ _,SeqAt.RcNeAt.str_bool _ _ _,SeqAt.EqAt.str_bool _ _ _⟩|int y=>
    simp only[bh]at p i;obtain⟨w,rfl⟩:=p;obtain⟨t,rfl⟩:=i;have q:=Pm (show O7 _=O7 b from q);subst q;exact⟨SeqAt.RcAt.str_int _ _ _ _,SeqAt.RcNeAt.str_int _ _ _ _,Xu _ _ _ _⟩|str y=>
    simp only[bh]at p i;obtain⟨w,rfl⟩:=p;obtain⟨t,rfl⟩:=i;have q:=Pm (show O7 _=O7 b from q);subst q;exact⟨SeqAt.RcAt.str_str _ _ _ _,SeqAt.RcNeAt.str_str _ _ _ _,SeqAt.EqAt.str_str _ _ _ _⟩|tup o=>
    simp only[bh]at p i;obtain⟨w,rfl⟩:=p;obtain⟨C,j,rfl,g,l⟩:=i;have q:=Pm (show O7 _=O7 b from q);subst q;exact⟨SeqAt.RcAt.str_tuple _ _ g a,SeqAt.RcNeAt.str_tuple _ _ g a,WY _ _ g a⟩|lst o=>
    simp only[bh]at p i;obtain⟨w,rfl⟩:=p;obtain⟨C,j,rfl,g,l⟩:=i;have q:=Pm (show O7 _=O7 b from q);subst q;exact⟨SeqAt.RcAt.str_list _ _ g a,SeqAt.RcNeAt.str_list _ _ g a,SeqAt.EqAt.str_list _ _ g a⟩|aE z r=>exact nomatch(show(Pb:Option Bool)=O7 b from q)|exc E B=>exact nomatch(show(Pb:Option Bool)=O7 b from q)|aM F=>exact nomatch(show(Pb:Option Bool)=O7 b from q)
  |tup I=>cases e with
   |bH=>
    simp only[bh]at p i;obtain⟨a1,k,rfl,h,m⟩:=p;subst i;have q:=Pm (show O7 _=O7 b from q);subst q;exact⟨SeqAt.RcAt.tuple_none h a,SeqAt.RcNeAt.tuple_none h a,SeqAt.EqAt.tuple_none h a⟩|bl y=>
    simp only[bh]at p i;obtain⟨a1,k,rfl,h,m⟩:=p;subst i;have q:=Pm (show O7 _=O7 b from q);subst q;exact⟨SeqAt.RcAt.tuple_bool _ h a,SeqAt.RcNeAt.tuple_bool _ h a,SeqAt.EqAt.tuple_bool _ h a⟩|int y=>
    simp only[bh]at p i;obtain⟨a1,k,rfl,h,m⟩:=p;obtain⟨t,rfl⟩:=i;have q:=Pm (show O7 _=O7 b from q);subst q;exact⟨SeqAt.RcAt.tuple_int _ _ h a,SeqAt.RcNeAt.tuple_int _ _ h a,WZ _ _ h a⟩|str y=>
    simp only[bh]at p i;obtain⟨a1,k,rfl,h,m⟩:=p;obtain⟨t,rfl⟩:=i;have q:=Pm (show O7 _=O7 b from q);subst q;exact⟨SeqAt.RcAt.tuple_str _ _ h a,SeqAt.RcNeAt.tuple_str _ _ h a,W0 _ _ h a⟩|tup o=>
    simp only[bh]at p i;obtain⟨a1,k,rfl,h,m⟩:=p;obtain⟨C,j,rfl,g,l⟩:=i;exact GP m l h g a G H|lst o=>
    simp only[bh]at p i;obtain⟨a1,k,rfl,h,m⟩:=p;obtain⟨C,j,rfl,g,l⟩:=i;have q:=Pm (show O7 _=O7 b from q);subst q;exact⟨SeqAt.RcAt.tuple_list h g a,SeqAt.RcNeAt.tuple_list h g a,SeqAt.EqAt.tuple_list h g a⟩|aE z r=>exact nomatch(show(Pb:Option Bool)=O7 b from q)|exc E B=>exact nomatch(show(Pb:Option Bool)=O7 b from q)|aM F=>exact nomatch(show(Pb:Option Bool)=O7 b from q)
  |lst I=>cases e with
   |bH=>
    simp only[bh]at p i;obtain⟨a1,k,rfl,h,m⟩:=p;subst i;have q:=Pm (show O7 _=O7 b from q);subst q;exact⟨SeqAt.RcAt.list_none h a,SeqAt.RcNeAt.list_none h a,SeqAt.EqAt.list_none h a⟩|bl y=>
    simp only[bh]at p i;obtain⟨a1,k,rfl,h,m⟩:=p;subst i;have q:=Pm (show O7 _=O7 b from q);subst q;exact⟨SeqAt.RcAt.list_bool _ h a,SeqAt.RcNeAt.list_bool _ h a,SeqAt.EqAt.list_bool _ h a⟩|int y=>
    simp only[bh]at p i;obtain⟨a1,k,rfl,h,m⟩:=p;obtain⟨t,rfl⟩:=i;have q:=Pm (show O7 _=O7 b from q);subst q;exact⟨SeqAt.RcAt.list_int _ _ h a,SeqAt.RcNeAt.list_int _ _ h a,SeqAt.EqAt.list_int _ _ h a⟩|str y=>
    simp only[bh]at p i;obtain⟨a1,k,rfl,h,m⟩:=p;obtain⟨t,rfl⟩:=i;have q:=Pm (show O7 _=O7 b from q);subst q;exact⟨SeqAt.RcAt.list_str _ _ h a,SeqAt.RcNeAt.list_str _ _ h a,SeqAt.EqAt.list_str _ _ h a⟩|tup o=>
    simp only[bh]at p i;obtain⟨a1,k,rfl,h,m⟩:=p;obtain⟨C,j,rfl,g,l⟩:=i;have q:=Pm (show O7 _=O7 b from q);subst q;exact⟨SeqAt.RcAt.list_tuple h g a,SeqAt.RcNeAt.list_tuple h g a,SeqAt.EqAt.list_tuple h g a⟩|lst o=>
    simp only[bh]at p i;obtain⟨a1,k,rfl,h,m⟩:=p;obtain⟨C,j,rfl,g,l⟩:=i;exact GQ m l h g a G H|aE z r=>exact nomatch(show(Pb:Option Bool)=O7 b from q)|exc E B=>exact nomatch(show(Pb:Option Bool)=O7 b from q)|aM F=>exact nomatch(show(Pb:Option Bool)=O7 b from q)
  |aE ks L=>exact nomatch(show(Pb:Option Bool)=O7 b from q)|exc c M=>exact nomatch(show(Pb:Option Bool)=O7 b from q)|aM f=>exact nomatch(show(Pb:Option Bool)=O7 b from q)
theorem lH{h:P7}{n:Nat}{f:List O_}{xs i e:List D}{a b:Bool}(r:cu h f xs)(A:cu h f i)(q:aZ (cV n) xs e=O7 a)(I:aZ (cV n) i e=O7 b)(M:∀{u:O_}{d d' x:D}{a b:Bool},bh h u d->bh h u d'->cV n d x=O7 a->cV n d' x=O7 b->a=b):(a&&xs.length==e.length)=(b&&i.length==e.length):=by
 obtain⟨v,J⟩:=c7 q;obtain⟨p,o⟩:=c7 I;have B:xs.length=i.length:=r.length.symm.trans A.length;have same:∀j x y z,xs[j]?=O7 x->i[j]?=O7 y->e[j]?=O7 z->cV n x z=cV n y z:=λj x y z t l k=>by
  obtain⟨U,E⟩:=v j x z t k;obtain⟨T,C⟩:=p j y z l k;have c:j<f.length:=by rw[r.length];exact(List.getElem?_eq_some_iff.mp t).1
  obtain⟨S,G,L⟩:=r.get (PN c);obtain⟨R,F,K⟩:=A.get (PN c);rw[t]at G;rw[l]at F;cases G;cases F;rw[E,C,M L K E C]
 have all:∀j:Nat,∃g:Bool,∀(x z:D),xs[j]?=O7 x->e[j]?=O7 z->cV n x z=O7 g:=λj=>by cases O:xs[j]? with
  |none=>exact⟨Pa,λx y z=>nomatch z⟩|some x=>cases N:e[j]? with
   |none=>exact⟨Pa,λx y _ z=>nomatch z⟩|some z=>
    obtain⟨g,m⟩:=v j x z O N;exact⟨g,λQ P w H=>by cases w;cases H;exact m⟩
 obtain⟨g,m⟩:∃g:Nat->Bool,∀(j:Nat)(x z:D),xs[j]?=O7 x->e[j]?=O7 z->cV n x z=O7 (g j):=⟨λj=>(all j).choose,λj=>(all j).choose_spec⟩;have s:∀(j:Nat)(y z:D),i[j]?=O7 y->e[j]?=O7 z->cV n y z=O7 (g j):=λj y z l k=>by
  have c:j<xs.length:=by rw[B];exact(List.getElem?_eq_some_iff.mp l).1
  rw[<-same j xs[j] y z (PN c) l k];exact m j _ z (PN c) k
 rw[<-J g m,<-o g s,B]
theorem lI{h:P7}:∀(n:Nat){u:O_}{d d' x:D}{a b:Bool},bh h u d->bh h u d'->cV n d x=O7 a->cV n d' x=O7 b->a=b
  |0,_,_,_,_,_,_,_,_,q,_=>by cases q|n+1,u,d,d',x,a,b,p,g,q,e=>by
    cases d<;>first
      |exact nomatch(show(Pb:Option Bool)=O7 a from q)|(cases d'<;>first
          |exact nomatch(show(Pb:Option Bool)=O7 b from e)
          | (simp only[bh]at p g;first
               | (exfalso;(first|(obtain⟨_,rfl⟩:=p)|(obtain⟨_,_,rfl,_⟩:=p)|subst p)<;>(first|(obtain⟨_,z⟩:=g;cases z;done)|(obtain⟨_,_,z,_⟩:=g;cases z;done)|(cases g;done)))|(subst p;cases g;rw[q]at e;exact Pm e)|(obtain⟨t,rfl⟩:=p;obtain⟨t',z⟩:=g;cases z;rw[q]at e;exact Pm e)|skip))
    all_goals
      obtain⟨a1,y,rfl,k,hs⟩:=p;obtain⟨B,v,z,f,j⟩:=g;cases z
    · obtain rfl:=j7 k f;cases x with
      |tup w=>
        obtain⟨c,o,rfl⟩:=Option.map_eq_some_iff.mp (show(aZ (cV n) _ _).map _=O7 a from q);obtain⟨A,i,rfl⟩:=Option.map_eq_some_iff.mp (show(aZ (cV n) _ _).map _=O7 b from e);exact lH hs j o i λm l s r=>lI n m l s r|aE _ _=>exact nomatch(show(Pb:Option Bool)=O7 a from q)|exc _ _=>exact nomatch(show(Pb:Option Bool)=O7 a from q)|aM _=>exact nomatch(show(Pb:Option Bool)=O7 a from q)|_=>exact(Pm (show O7 Pc=O7 a from q)).symm.trans (Pm (show O7 Pc=O7 b from e))
    ·exact(vj f k).elim
    ·exact(vj k f).elim
    · obtain rfl:=lF k f;cases x with
      |lst w=>
        obtain⟨c,o,rfl⟩:=Option.map_eq_some_iff.mp (show(aZ (cV n) _ _).map _=O7 a from q);obtain⟨A,i,rfl⟩:=Option.map_eq_some_iff.mp (show(aZ (cV n) _ _).map _=O7 b from e);exact lH hs j o i λm l s r=>lI n m l s r|aE _ _=>exact nomatch(show(Pb:Option Bool)=O7 a from q)|exc _ _=>exact nomatch(show(Pb:Option Bool)=O7 a from q)|aM _=>exact nomatch(show(Pb:Option Bool)=O7 a from q)|_=>exact(Pm (show O7 Pc=O7 a from q)).symm.trans (Pm (show O7 Pc=O7 b from e))
noncomputable def dj:Nat:=60
noncomputable def OG:D->D->M D:=λd e=>do
 let b<-M.get (cV dj d e)pure (.bl b)
noncomputable def OH:D->D->M D:=λd e=>do
 let b<-M.get (cV dj d e)pure (.bl (!b))
noncomputable def lJ(x:D):List D->Option Bool
 |[]=>O7 Pc|y::c=>match cV 50 y x,lJ x c with
  |some a,O7 b=>O7 (a||b)|_,_=>Pb
noncomputable def Oa(neg:Bool):D->D->M D:=λd e=>do
 let a<-M.get (items e)let b<-M.get (lJ d a)pure (.bl (if neg then !b else b))
section
variable{X:Cx}{F:Fx}
theorem Kr(hu:X.A.units+64<Q_):gV X F (QB .Eq) OG:=⟨λa s i H k x y v u d e Q I f c l hK h g q=>by
 obtain⟨b,hb,q⟩:=M.run_get.mp q;exact EqBoolInt.of_rc (pj dj (eX I hK f h) (eX I hK c g) (by unfold dj;omega) hb).1 ⟨.bl b,H,I,rfl,q _ H .refl (by simp only[Is])⟩⟩
theorem Ks(hu:X.A.units+64<Q_):gV X F (QB .NotEq) OH:=⟨λa s i H k x y v u d e Q I f c l hK h g q=>by
 obtain⟨b,hb,q⟩:=M.run_get.mp q;exact EqBoolInt.of_rcne (pj dj (eX I hK f h) (eX I hK c g) (by unfold dj;omega) hb).2.1 ⟨.bl (!b),H,I,rfl,q _ H .refl (by simp only[Is])⟩⟩
theorem ra{x:D}:∀{g:List D}{b:Bool},lJ x g=O7 b->(∀y∈g,∃c,cV 50 y x=O7 c)/\(b=Pa↔∃y∈g,cV 50 y x=O7 Pa)
 |[],b,h=>by
  simp only[lJ,R6]at h;subst h;exact⟨λy k=>(nomatch k),⟨λz=>(nomatch z),λ⟨y,k,_⟩=>(nomatch k)⟩⟩|y::g,b,h=>by
  simp only[lJ]at h;cases f:cV 50 y x with
  |none=>rw[f]at h;simp at h|some a=>cases l:lJ x g with
   |none=>rw[f,l]at h;simp at h|some c=>
    rw[f,l]at h;simp only[R6]at h;obtain⟨n,m⟩:=ra l;refine⟨λz j=>?_,?_⟩
    .rcases List.mem_cons.mp j with rfl|j;.exact⟨a,f⟩
     .exact n z j
    .rw[<-h,Q4,m];constructor
     .rintro(z|⟨i,d,e⟩);.exact⟨y,Pn,by rw[f,z]⟩
      .exact⟨i,Po _ d,e⟩
     .rintro⟨i,d,e⟩;rcases List.mem_cons.mp d with rfl|d;.rw[f]at e;exact .inl (Pm e)
      .exact .inr ⟨i,d,e⟩
theorem jc{s:Pe}{A:P9}{a:Array O_}{d:List D}{x:D}{v:O_}{b:Bool}(hs:cu s.heap a.toList d)(w:bh s.heap v x)(hu:A.units+51<Q_)(q:lJ x d=O7 b):∃e:O_->Bool,(∀y,y∈a->SA A.in1 s y v (e y))/\a.any e=b:=by classical
 obtain⟨t,r⟩:=ra q;refine⟨λu=>decide (∃y∈d,bh s.heap u y/\cV 50 y x=O7 Pa),λu n=>?_,?_⟩
 .obtain⟨i,hi,rfl⟩:=Array.mem_iff_getElem.mp n;obtain⟨y,f,l⟩:=hs.get (i:=i) (u:=a[i]) (by simp[hi]);obtain⟨c,o⟩:=t y (Qd f);have:decide (∃y∈d,bh s.heap a[i] y/\cV 50 y x=O7 Pa)=c:=by cases c with
   |true=>exact decide_eq_true ⟨y,Qd f,l,o⟩|false=>
    refine decide_eq_false λm=>?_;obtain⟨p,_,k,e⟩:=m;have:=lI 50 l k o e;cases this
  show SA A.in1 s a[i] v (decide (∃y∈d,bh s.heap a[i] y/\cV 50 y x=O7 Pa));rw[this];exact(pj 50 l w (by rw[Around.in1_units];omega+splitNatSub) o).2.2
 .have key:a.any (λu=>decide (∃y∈d,bh s.heap u y/\cV 50 y x=O7 Pa))=Pa↔b=Pa:=by
   rw[r,Array.any_eq_true];constructor
   .rintro⟨i,hi,h⟩;obtain⟨y,f,_,e⟩:=of_decide_eq_true h;exact⟨y,f,e⟩
   .rintro⟨y,f,e⟩;obtain⟨i,hi⟩:=List.mem_iff_getElem?.mp f;have j:i<a.size:=by have:=hs.length;have:=(List.getElem?_eq_some_iff.mp hi).1;simp at*;omega+splitNatSub
    refine⟨i,j,decide_eq_true ⟨y,f,?_,e⟩⟩;obtain⟨p,g,l⟩:=hs.get (i:=i) (u:=a[i]) (by simp[j]);rw[hi]at g;cases g;exact l
  cases b with
  |true=>exact key.mpr rfl|false=>cases hb:a.any (λu=>decide (∃y∈d,bh s.heap u y/\cV 50 y x=O7 Pa))with
   |false=>rfl|true=>exact absurd (key.mp hb) (by decide)
theorem Kt(hu:X.A.units+64<Q_):gV X F (QB .In) (Oa Pc):=⟨λn s C H k x y v u d e Q I r p l hK z w q=>by
 obtain⟨D,B,t⟩:=M.run_get.mp q;obtain⟨b,hb,m⟩:=M.run_get.mp t;have o:=eX I hK r z;have c:=eX I hK p w;cases e<;>first|cases B|skip
 .simp only[bh]at c;obtain⟨a,f,rfl,g,h⟩:=c;obtain⟨e,j,i⟩:=jc (A:=X.A) h o (by omega) hb;exact SeqAt.in_tupleAt e g j (by rw[i];exact⟨.bl b,H,I,rfl,m _ H .refl (by simp only[Is];rfl)⟩)
 .simp only[bh]at c;obtain⟨a,f,rfl,g,h⟩:=c;obtain⟨e,j,i⟩:=jc (A:=X.A) h o (by omega) hb;exact SeqAt.in_listAt e g j (by rw[i];exact⟨.bl b,H,I,rfl,m _ H .refl (by simp only[Is];rfl)⟩)⟩
theorem zG(hu:X.A.units+64<Q_):gV X F (QB .NotIn) (Oa Pa):=⟨λn s C H k x y v u d e Q I r p l hK z w q=>by
 obtain⟨D,B,t⟩:=M.run_get.mp q;obtain⟨b,hb,m⟩:=M.run_get.mp t;have o:=eX I hK r z;have c:=eX I hK p w;cases e<;>first|cases B|skip
 .simp only[bh]at c;obtain⟨a,f,rfl,g,h⟩:=c;obtain⟨e,j,i⟩:=jc (A:=X.A) h o (by omega) hb;exact SeqAt.notIn_tupleAt e g j (by rw[i];exact⟨.bl (!b),H,I,rfl,m _ H .refl (by simp only[Is];rfl)⟩)
 .simp only[bh]at c;obtain⟨a,f,rfl,g,h⟩:=c;obtain⟨e,j,i⟩:=jc (A:=X.A) h o (by omega) hb;exact SeqAt.notIn_listAt e g j (by rw[i];exact⟨.bl (!b),H,I,rfl,m _ H .refl (by simp only[Is];rfl)⟩)⟩
end
end L2
end
section
namespace HT
open PySem PyProof.Rows
section
variable{prog:PF}{w:P0}{A:P9}{E:O_->Pe->Prop}{s:Pe}
theorem zH{t b:Pg}{ws:List O_}{Q:O_->Pe->Prop}(l:Xp s.heap t ([]:List O_).toArray)(hb:Xp s.heap b ws.toArray)(m:Q (.ref b) s):wpAny (Py prog w) A (Sb .Add (.ref t) (.ref b)) Q E s:=by
 obtain⟨⟨cls,o,i,k⟩,g,h,n,hd⟩:=id l;obtain⟨⟨j,f,data2,e⟩,a,d,n2,c⟩:=id hb;simp only at h hd d c;subst h hd d c;exact XX ⟨_,g,rfl⟩ ⟨_,a,rfl⟩ VR Xr Ui T_ (TM _ _) (tuple_addW0 t b ([]:List O_).toArray ws.toArray n n2 o f k e (by rfl)) ⟨g,a,m⟩
end
end HT
namespace L2
open PySem PySem.Spec PyProof.Rows
section
variable{X:Cx}{F:Fx}{e:PC}{te:ag->M D}{lo hi:Option PC}{tl th:ag->M (Option Int)}{pos p2:Ro}
noncomputable def Ku:D->D->M D
 |.int i,.int j=>pure (.int (i+j))|.tup b,.tup a=>do M.need (b.length+a.length<=Pl);pure (.tup (b++a))|.lst b,.lst a=>do M.need (b.length+a.length<=Pl);pure (.lst (b++a))|_,_=>M.fail
theorem CT:gV X F (Sb .Add) Ku:=⟨λG s σ H k x y v u d e Q I O N l hK E C q=>by cases d with
 |int i=>cases e with
  |int j=>
   simp only[Is]at E C;subst E C;obtain⟨t,rfl⟩:=O;obtain⟨t',rfl⟩:=N;exact add_int ⟨.int (i+j),H,I.tok _,⟨_,rfl⟩,q _ H .refl (by simp only[Is])⟩|_=>exact q.elim
 |tup w=>cases e with
  |tup W=>
   simp only[Is]at E C;obtain⟨a,A,rfl,K,p⟩:=E;obtain⟨L,f,rfl,m,c⟩:=C;cases O;cases N;obtain⟨h,R,Y,_⟩:=I.tuple (by rw[hK];exact K.2);obtain⟨g,B,p2,_⟩:=I.tuple (by rw[hK];exact m.2);by_cases Z:h=[]
   .subst Z;have T:A=[]:=R.uO.mp rfl;subst T;have hd:w=[]:=List.length_eq_zero_iff.mp (by rw[<-p.length];rfl);subst hd;exact HT.zH Y p2 ⟨.ref L,H,I,rfl,q.2 _ H .refl (by simp only[Is];exact⟨L,f,rfl,m,c⟩)⟩
   .have S:A.length+f.length<=Pl:=by rw[p.length,c.length];exact q.1
    refine HT.B3 Y p2 Z (λz=>?_) (λz=>?_) (by rw[<-R.length,<-B.length];exact S)
    .have T:f=[]:=B.uO.mp z;subst T;have hd:W=[]:=List.length_eq_zero_iff.mp (by rw[<-c.length];rfl);subst hd;exact⟨.ref a,H,I,rfl,q.2 _ H .refl (by simp only[Is];exact⟨a,A,rfl,K,by rw[QL];exact p⟩)⟩
    .have hf:=I.aH.fresh (Pq _);refine⟨.ref s.heap.objs.size,_,I.laid (t':=s.toks) (o:=.tup (A++f)) (λb ob q=>Ph _ q) (Pq _) ?_,rfl,q.2 _ _ (.new hf) (iE (k:=k) l hf (p.append c))⟩;exact⟨by rw[P6];exact S,_,R.append B,IsTup.new _ _⟩|_=>exact q.elim
 |lst w=>cases e with
  |lst W=>
   simp only[Is]at E C;obtain⟨a,A,rfl,K,p⟩:=E;obtain⟨L,f,rfl,m,c⟩:=C;cases O;cases N;obtain⟨o,U⟩:=K.2;obtain⟨o',J⟩:=m.2;obtain⟨_,z,h,n,r,e⟩:=I.aH a _ U;obtain⟨_,z2,g,n2,B,e2⟩:=I.aH L _ J;have l1:=r.length;have l2:=B.length;have S:A.length+f.length<=Pl:=by rw[p.length,c.length];exact q.1
   refine bp (PySem.P.add_list e e2 (Q:=EP X G σ λv V=>∃a w,v=.ref a/\V a=O7 (.lst w)/\∀o,Q v (upd V a (.bQ o (.lst w)))) ?_ (by rw[Pw,Pw];omega)) λu s1⟨v,V,I1,r,a,w,e,ha,q1⟩=>?_
   .have ea:h.toArray++g.toArray=(h++g).toArray:=by simp
    rw[ea];refine⟨.ref _,_,I.JZ (t':=s.toks) (r.append B) (by rw[P6];omega),rfl,_,_,rfl,ah,λo=>?_⟩;rw[bF];exact q.2 _ _ (.new I.fresh) (cR (k:=k) l I.fresh (p.append c))
   .obtain⟨_,h,n,rv,ho⟩:=I1.aH a _ ha;exact⟨v,_,I1.freeze ha ho (λ_ z=>nomatch z) (λ_ _ z=>nomatch z) (λ_ z=>nomatch z) (λ_ z=>nomatch z),r,q1 _⟩|_=>exact q.elim
 |_=>exact q.elim⟩
noncomputable def GR:D->D->M D
 |.int i,.int j=>pure (.int (i-j))|_,_=>M.fail
theorem vk:gV X F (Sb .Sub) GR:=⟨λa s h H k x y v u d e Q I g f l hK c b q=>by cases d with
 |int i=>cases e with
  |int j=>
   simp only[Is]at c b;subst c b;obtain⟨t,rfl⟩:=g;obtain⟨m,rfl⟩:=f;exact sub_int ⟨.int (i-j),H,I.tok _,⟨_,rfl⟩,q _ H .refl (by simp only[Is])⟩|_=>exact q.elim
 |_=>exact q.elim⟩
theorem GS(f:DE X F e te):DE X F (.UnaryOp .USub e pos) (λρ=>do let i<-fb (<-te ρ);pure (.int (-i))):=⟨f.hK,(JM FK f.pe).imp λl H Q a=>by
  obtain⟨ρ,k,S,h⟩:=a;refine di.next S h λd m v j g n c b=>?_;obtain⟨i,rfl,b⟩:=aN.mp b;simp only[Is]at c;exact⟨i,c,b _ j g (by simp only[Is])⟩⟩
end
end L2
end
section
namespace ZP
open PySem PyProof.Rows
end ZP
namespace L2
open PySem PySem.Spec PyProof.Rows ZP
section
variable{X:Cx}{pins:List (Pg×Qx)}{σ:St}{H:Hp}{s:Pe}
theorem Inv.EK{g:List Pg}{h':P7}{t':Nat}(I:Inv X pins σ H s)(d:∀b∈g,fN X pins H b)(keep:∀c o,c∉g->s.heap.get? c=O7 o->h'.get? c=O7 o):Inv X pins σ H {s with heap:=h',toks:=t'}:=I.call (h':=h') (g':=s.gens) (d':=s.drawn) (t':=t') (ch:=g) (H':=H) ⟨λb o e n hb a=>keep b o a e,λb o e n hb a=>⟨o.slots,keep b o a e⟩,λb o e n a=>n,λb o e a=>⟨o,keep b o a e⟩,λb m e=>e,λb o u e=>e,λb ps e=>⟨#[],by rw[Array.append_empty];exact e⟩⟩ (λb o e=>(I.aH b o e).h_ (λc v f q=>keep c v (λi=>by
   have h:=(d c i).1;rcases f with rfl|f;.rw[h]at e;cases e
   .rw[h]at f;cases f) q) (λ_ q=>q) λ_ _ q=>q) I.bare (λb hb=>by
   obtain⟨_,l,p,k,j,f5⟩:=d b hb;exact⟨k,l,j,f5⟩)
end
end L2
end
section
namespace L2
open PySem PySem.Spec PyProof.Rows ZP
noncomputable def Ms(K:Pj)(a:Pg):It:=⟨λi H=>∃b x,d5 K H a b/\b[i]?=O7 x,λi H x c=>∃t v,H t=Pb/\x=.ref t/\c=upd H t (.tup [.int i,v])/\∀b,d5 K H a b->b[i]?=O7 v,λi H=>∃b,d5 K H a b/\b.length<=i⟩
structure Ob(h:P7)(e it a:Pg)(k:Nat):Prop where
 en:∃old,IsEnum h e it (k:Int) old
 ii:h.IsListIter it a k
theorem xA{P:PF}{w:P0}{K:Pj}{elts:List PC}{x1:Nat}{pos:Ro}{e it a:Pg}(n:e≠it):Turn P w K (.Tuple elts x1 pos) (Ms K a) [e,it] e (λk h=>Ob h e it a k)where
 mem:=by simp
 obj:=λi h st b hb=>by
  simp only[Sf,UI,or_false]at hb;rcases hb with rfl|rfl;.obtain⟨d,q⟩:=st.en;exact⟨_,q,λv q=>nomatch q⟩
  .obtain⟨o,q,_,r⟩:=st.ii;exact⟨o,q,λv z=>by rw[r]at z;cases z⟩
 keep:=λi h O st k=>by
  obtain⟨d,q⟩:=st.en;obtain⟨o,q2,r⟩:=st.ii;exact⟨⟨d,k e (by simp) _ q⟩,⟨o,k it (by simp) _ q2,r⟩⟩
 item:=λX hP hw hK g i j s R H E I f st go=>by
  subst hP hw hK;obtain⟨Y,x,t,ex⟩:=go;obtain⟨G,B,D,_⟩:=I.list t;obtain⟨u,eu,Z⟩:=B.get ex;obtain⟨d,en⟩:=st.en;refine wpAny_pyNext_enum_item en st.ii D.isList (x:=u) (by simpa using eu) n λO eo M pr hz L=>⟨_,rfl,?_⟩;refine wpAny_letOwnedTupleGo_enum eo λy e2 m=>?_;have m:Ri e O y:=m;have V:H s.heap.objs.size=Pb:=I.aH.fresh (Pq _);have T:∀b∈[e,it],b<s.heap.objs.size:=λb hb=>by
   simp only[Sf,UI,or_false]at hb;rcases hb with rfl|rfl;.exact Px en
   .obtain⟨o,q,_⟩:=st.ii;exact Px q
  have l:∀c o,c∉[e,it]->s.heap.get? c=O7 o->y.get? c=O7 o:=λc o g q=>by
   simp only[Sf,UI,or_false,not_or]at g;exact m.extBut _ _ g.1 (L c o g.1 g.2 q)
  have C:y.get? s.heap.objs.size=O7 {cls:=.type "tuple",data:=.seq #[.int i s.toks,u]}:=m.extBut _ _ (RA (T e (by simp))) pr;have I2:Inv X j R H {s with heap:=y,toks:=s.toks+1}:=I.EK (t':=s.toks+1) f l;refine⟨.ref s.heap.objs.size,upd H s.heap.objs.size (.tup [.int i,x]),I2.uR (a:=s.heap.objs.size) I.sz V (RA I.lt) (λv c q z=>?_) (λp hp z=>?_) ⟨by show 2<=Pl;decide,[.int i s.toks,u],.cons ⟨_,rfl⟩ (.cons Z .nil),⟨_,C,rfl,_,rfl⟩⟩,rfl,⟨_,x,V,rfl,rfl,λzs J=>?_⟩,?_,λb hb=>?_⟩
  .obtain⟨w',q'⟩:=I.cell v c q;exact absurd q'.lt (by rw[z];exact Qf _)
  .exact absurd (Px (I.pin p hp).1) (by rw[z];exact Qf _)
  .rw[I.qz J t];exact ex
  .refine⟨⟨_,by rw[show((i+1:Nat):Int)=(i:Int)+1 from by push_cast;rfl];exact e2⟩,?_⟩;obtain⟨o,q,r⟩:=M;exact⟨o,m.extBut _ _ n.symm q,r⟩
  .rw[ai (P5 (T b hb))];exact(f b hb).1
 done:=λX hP hw hK g i j s R H E I f st stop=>by
  subst hP hw hK;obtain⟨Y,t,U⟩:=stop;obtain⟨G,B,D,_⟩:=I.list t;obtain⟨d,en⟩:=st.en;refine wpAny_pyNext_enum_end (I.ok.hd g) en st.ii D.isList (by rw[B.length]at U;simpa using U) λO L=>⟨rfl,?_⟩;exact I.EK (t':=s.toks) f λc o g q=>L c o (λz=>g (by simp[z])) q
 self:=λA i s Q E st q=>by
  obtain⟨d,en⟩:=st.en;have N:s.TypeIs (.ref e) "enumerate":=⟨_,en,rfl⟩;refine Ur N U9 (QJ U9 N PySem.F.entry_enumerate_iter ?_ (PySem.F.args_enumerate_iter_1 _));show wpAny _ _ (YC (.ref e)) _ _ s;exact Pf ⟨_,rfl,"enumerate",_,N,PySem.F.slot_enumerate_next.lookup,q⟩
noncomputable def Kv(K:Pj)(f:TA):TI:=λd H R=>f d H λe c=>∃a b,e=[.ref a]/\d5 K c a b/\(b.length<=Pl->R (Ms K a) c)
theorem CU{X:Cx}{elts:List PC}{x1:Nat}{tp:Ro}{a:PC}{j:TA}{p pos:Ro}(y:Gl X "enumerate")(v:X.mg "enumerate"=Pb)(ha:PA X [a] j)(hs:PL [a] X.env=[(Pc,Rz a X.env)]:=by rfl):PI X (.Tuple elts x1 tp) (.Call (.Name "enumerate" p) [a] [] pos) (Kv X.K j):=by
 intro d s k H R I h;refine Call_ (kT I y v (by decide+kernel:Ry "enumerate"=O7 (.type "enumerate")) (Tp (bp (ha pos d s k H _ I h) λE c⟨D,B,f,n,o⟩=>?_) hs rfl));obtain⟨a1,C,rfl,z,q⟩:=o;obtain⟨u,rfl,m⟩:=vals1 n;cases m;obtain⟨t,F,r,l⟩:=f.list z;refine call_enumerate_list r.isList λA en g G x=>?_;have T:Ob A (c.heap.objs.size+1) c.heap.objs.size a1 0:=⟨⟨_,en⟩,g⟩;have i:=xA (P:=X.prog) (w:=X.w) (K:=X.K) (elts:=elts) (x1:=x1) (pos:=tp) (a:=a1) (show c.heap.objs.size+1≠c.heap.objs.size by omega);refine i.self _ 0 _ _ _ T ?_;refine⟨c.heap.objs.size+1,[c.heap.objs.size+1,c.heap.objs.size],_,Ms X.K a1,B,rfl,f.kept (t':=c.toks) x,i,T,λb hb=>?_,q l⟩;have e:c.heap.objs.size<=b:=by
  simp only[Sf,UI,or_false]at hb;rcases hb with rfl|rfl;.exact TF _ _
  .exact Pq _
 exact f.BW e (f.aH.fresh e)
noncomputable def g9(xs:List D):List D:=xs.zipIdx.map λx=>D.tup [.int (x.2:Nat),x.1]
noncomputable def Kw(d:D):M (List D):=match d with
 |.lst a=>pure (g9 a)|_=>M.fail
theorem zI{xs:List D}{i:Nat}{d:D}(h:(g9 xs)[i]?=O7 d):∃x,xs[i]?=O7 x/\d=.tup [.int (i:Nat),x]:=by
 unfold g9 at h;rw[PV,List.getElem?_zipIdx]at h;cases a:xs[i]? with
 |none=>rw[a]at h;simp at h|some x=>
  rw[a]at h;simp at h;exact⟨x,rfl,h.symm⟩
theorem xB{B:Fb}{H:Hp}{k:Nat}{a:Pg}{vs:List V}{xs:List D}(h:LstAt B H a vs)(i:af B H vs xs)(f:vs.length<=Pl):tW B (Ms B.K a) (g9 xs) H k where
 step:=λj d o c hd e l=>by
  obtain⟨x,q,rfl⟩:=zI hd;obtain⟨v,n,s⟩:=(i.mono e).get q;have b:d5 B.K o a vs:=(h.mono e).2.sq;refine⟨⟨vs,v,b,n⟩,λz w p=>?_⟩;obtain⟨t,u,g,rfl,rfl,r⟩:=p;have m:=r vs b;rw[n]at m;cases m;exact⟨.new g,iE (k:=c) l g (.cons (by simp only[Is]) (.cons s .nil))⟩
 stop:=λo c e l=>⟨vs,(h.mono e).2.sq,by rw[i.length];simp[g9]⟩;len:=by rw[i.length]at f;simpa[g9]using f
section
variable{X:Cx}{F:Fx}{a:PC}{elts:List PC}{x1:Nat}{tp p pos:Ro}{tas:ag->M (List A)}
theorem CV(j:X.mg "enumerate"=Pb)(ha:DA X F [a] tas)(l:Gl X "enumerate":=by rfl)(hs:PL [a] X.env=[(Pc,Rz a X.env)]:=by rfl):DI X F (.Tuple elts x1 tp) (.Call (.Name "enumerate" p) [a] [] pos) (λρ=>do GN Kw (<-iD (<-tas ρ))):=⟨ha.hK,(CU l j ha.pa hs).imp λs H R b=>by
  obtain⟨ρ,k,S,h⟩:=b;refine qY.next S h λas w u r o y i n=>?_;obtain⟨x,rfl,m⟩:=bS n;obtain⟨d,rfl,f⟩:=qZ m;obtain⟨v,rfl,e⟩:=(bT i).one;rw[ha.hK];cases d with
  |lst t=>
   simp only[Is]at e;obtain⟨a,ws,rfl,c,q⟩:=e;exact⟨a,ws,rfl,c.2.sq,λg=>f _ r o (xB c q g)⟩|_=>exact f.elim⟩
end
noncomputable def zJ(x:D):Prop:=∃k:List NK,x=.tup (k.map nD)
theorem eY{B:Fb}{H:Hp}{v:V}{k:Key}(h:Is B H v (kD k)):v=kV k:=by cases k with
 |inl i=>simp only[kD,Is]at h;exact h|inr x=>simp only[kD,Is]at h;exact h
theorem pk{B:Fb}{H:Hp}:∀{vs:List V}{ks:List Key},af B H vs (ks.map kD)->vs=ks.map kV
 |_,[],h=>by simp only[Sw,af]at h;rw[h];rfl|_,k::ks,h=>by
  simp only[PY,af]at h;obtain⟨x,c,rfl,b,a⟩:=h;rw[eY b,pk a];rfl
theorem Kx{B:Fb}{H:Hp}{v:V}{k:NK}(h:Is B H v (nD k)):Jk B H v k:=by cases k with
 |inl k=>exact eY h|inr ks=>
  simp only[nD,Is]at h;obtain⟨a,d,rfl,c,b⟩:=h;exact⟨a,rfl,by rw[<-pk b];exact c⟩
theorem zK{B:Fb}{H:Hp}:∀{vs:List V}{ks:List NK},af B H vs (ks.map nD)->Paired (Jk B H) vs ks
 |_,[],h=>by simp only[Sw,af]at h;rw[h];exact .nil|_,k::ks,h=>by
  simp only[PY,af]at h;obtain⟨x,c,rfl,b,a⟩:=h;exact .cons (Kx b) (zK a)
theorem key_is{B:Fb}{H:Hp}(k:Key):Is B H (kV k) (kD k):=by cases k<;>simp only[kD,kV,Is]
theorem vm{B:Fb}{H:Hp}:∀(ks:List Key),af B H (ks.map kV) (ks.map kD)
 |[]=>.nil|k::ks=>.cons (key_is k) (vm ks)
theorem Ky{B:Fb}{H:Hp}{v:V}{k:NK}(h:Jk B H v k):Is B H v (nD k):=by cases k with
 |inl k=>rw[show v=kV k from h];exact key_is k|inr ks=>
  obtain⟨b,rfl,h⟩:=h;simp only[nD,Is];exact⟨b,_,rfl,h,vm ks⟩
theorem zL{B:Fb}{H:Hp}:∀{vs:List V}{ks:List NK},Paired (Jk B H) vs ks->af B H vs (ks.map nD)
 |_,_,.nil=>.nil|_,_,.cons h t=>.cons (Ky h) (zL t)
theorem eV.is{B:Fb}{H:Hp}{a:Pg}{ks:List NK}(h:eV B H a ks):Is B H (.ref a) (.tup (ks.map nD)):=by
 obtain⟨b,d,c⟩:=h;simp only[Is];exact⟨a,b,rfl,d,zL c⟩
theorem eV.of{B:Fb}{H:Hp}{v:V}{ks:List NK}(h:Is B H v (.tup (ks.map nD))):∃a,v=.ref a/\eV B H a ks:=by
 simp only[Is]at h;obtain⟨a,b,rfl,d,c⟩:=h;exact⟨a,rfl,b,d,zK c⟩
theorem t5{X:Cx}{F:Fb}{pins:List (Pg×Qx)}{σ:St}{H:Hp}{s:Pe}(I:Inv X pins σ H s)(hK:X.K=F.K):∀{xs:List V}{us:List O_}{ks:List NK},ar xs us->Paired (Jk F H) xs ks->aS X.prog X.w s.heap ks us
 |_,_,_,.nil,.nil=>.nil|_,_,.inl k::_,.cons r a,.cons h t=>by
  have h:_=kV k:=h;subst h;exact .sc (fI r) (t5 I hK a t)|_,_,.inr ks::_,.cons r a,.cons h t=>by
  obtain⟨b,rfl,hb⟩:=(show∃b,_=V.ref b/\TupAt F H b (ks.map kV)from h);cases(show _=PQ b from r);exact .tp (Gc I (by rw[hK];exact hb.2)) (t5 I hK a t)
theorem eC{X:Cx}{F:Fb}{pins:List (Pg×Qx)}{σ:St}{H:Hp}{s:Pe}{a:Pg}{ks:List NK}(I:Inv X pins σ H s)(hK:X.K=F.K)(h:eV F H a ks):bM X.prog X.w s.heap ks a:=by
 obtain⟨c,i,g⟩:=h;obtain⟨b,r,⟨o,f,e,n,d⟩,_⟩:=I.tuple (show kq X.K H a c by rw[hK];exact i.2);exact⟨o,b.toArray,n,f,e,d,by simpa using t5 I hK r g⟩
inductive T(α:Type)where|ok(a:α)|exc(x:Xc)|stuck|draw(n:Int)(k:Int->T α)|perm(l:List D)(k:List D->T α)
namespace T
variable{α β:Type}
protected def bind:T α->(α->T β)->T β
 |.ok a,f=>f a|.exc x,_=>.exc x|.stuck,_=>.stuck|.draw n k,f=>.draw n λi=>(k i).bind f|.perm l k,f=>.perm l λi=>(k i).bind f
instance:Monad T where
 pure:=T.ok;bind:=T.bind
noncomputable def get:Option α->T α
 |some a=>.ok a|none=>.stuck
noncomputable def need(b:Bool):T Unit:=if b then .ok ()else .stuck
noncomputable def at'(ρ:ag):T α->T α
 |.ok a=>.ok a|.exc x=>.exc ⟨x.x,ρ⟩|.stuck=>.stuck|.draw n k=>.draw n λi=>(k i).at' ρ|.perm l k=>.perm l λi=>(k i).at' ρ
noncomputable def calm:T α->T α
 |.ok a=>.ok a|.exc _=>.stuck|.stuck=>.stuck|.draw n k=>.draw n λi=>(k i).calm|.perm l k=>.perm l λi=>(k i).calm
noncomputable def jd(n:Int):M Int:=do
 M.need (0<n/\n<1073741824)M.tick 1;M.any λi=>0<=i/\i<n
noncomputable def aC:T α->M α
 |.ok a=>pure a|.exc x=>M.throw x|.stuck=>M.fail|.draw n k=>do let i<-jd n;(k i).aC|.perm l k=>do let i<-M.any λi=>i.Perm l;(k i).aC
end T
theorem M.ext{b:Type}{m a:M b}(h:∀k Q E,m.run k Q E=a.run k Q E):m=a:=by
 obtain⟨r,p⟩:=m;obtain⟨c,d⟩:=a;have:r=c:=by funext k Q E;exact h k Q E
 subst this;rfl
theorem M.bind_assoc{c b d:Type}(m:M c)(f:c->M b)(g:b->M d):(m>>=f)>>=g=m>>=λa=>f a>>=g:=M.ext λ_ _ _=>rfl
namespace T
variable{α β:Type}
theorem bB(t:T α)(f:α->T β):(t>>=f).aC=t.aC>>=λa=>(f a).aC:=by
 show(T.bind t f).aC=_;induction t with
 |ok a=>rfl|exc x=>rfl|stuck=>rfl|draw n k b=>
  show(jd n>>=λi=>((k i).bind f).aC)=(jd n>>=λi=>(k i).aC)>>=_;rw[M.bind_assoc];congr 1;funext i;exact b i|perm l k b=>
  show((M.any λi=>i.Perm l)>>=λi=>((k i).bind f).aC)=((M.any λi=>i.Perm l)>>=λi=>(k i).aC)>>=_;rw[M.bind_assoc];congr 1;funext i;exact b i
theorem je(o:Option α):(T.get o).aC=M.get o:=by cases o<;>rfl
end T
noncomputable def Ref{a:Type}(t m:M a):Prop:=∀k Q E,t.run k Q E->m.run k Q E
theorem Ref.refl{a:Type}(m:M a):Ref m m:=λ_ _ _ h=>h
theorem Ref.of_eq{a:Type}{t m:M a}(h:t=m):Ref t m:=h▸.refl _
theorem Ref.bind{b c:Type}{t m:M b}{f g:b->M c}(h:Ref t m)(q:∀a,Ref (f a) (g a)):Ref (t>>=f) (m>>=g):=λk Q E z=>by
 refine h k _ E ?_;exact t.mono z (λa d y=>q a d Q E y) λ_ _ y=>y
theorem Ref.fail{a:Type}{m:M a}:Ref M.fail m:=λ_ _ _ h=>h.elim
theorem Ref.need{b:Bool}{P:Prop}(h:b=Pa->P):Ref (T.need b).aC (M.need P):=λk Q E z=>by
 unfold T.need at z;split at z;.rename_i hb;exact⟨h hb,z⟩
 .exact z.elim
theorem Ref.get{a:Type}{o:Option a}:Ref (T.get o).aC (M.get o):=.of_eq (T.je o)
section
variable{X:Cx}{F:Fx}{e:PC}{es:List PC}{st:RP}{sts:List RP}
theorem DE.ref{t m:ag->M D}(h:DE X F e m)(r:∀ρ,Ref (t ρ) (m ρ)):DE X F e t:=⟨h.hK,h.pe.imp λa H Q⟨ρ,k,S,z⟩=>⟨ρ,k,S,r ρ _ _ _ z⟩⟩
theorem DT.ref{t m:ag->M Bool}(h:DT X F e m)(r:∀ρ,Ref (t ρ) (m ρ)):DT X F e t:=⟨h.hK,h.pt.imp λa H Q⟨ρ,k,S,z⟩=>⟨ρ,k,S,r ρ _ _ _ z⟩⟩
theorem yi.ref{t m:ag->M Bool}(h:yi X F e m)(r:∀ρ,Ref (t ρ) (m ρ)):yi X F e t:=⟨h.hK,h.pw.imp λa H Q⟨ρ,k,S,z⟩=>⟨ρ,k,S,r ρ _ _ _ z⟩⟩
theorem DA.ref{t m:ag->M (List A)}(h:DA X F es m)(r:∀ρ,Ref (t ρ) (m ρ)):DA X F es t:=⟨h.hK,h.pa.imp λa H Q⟨ρ,k,S,z⟩=>⟨ρ,k,S,r ρ _ _ _ z⟩⟩
theorem DS.ref{t m:ag->M Fl}(h:DS X F st m)(r:∀ρ,Ref (t ρ) (m ρ)):DS X F st t:=⟨h.hK,h.ps.imp λZ a H⟨ρ,k,S,z⟩=>⟨ρ,k,S,r ρ _ _ _ z⟩⟩
theorem xt.ref{t m:ag->M Fl}(h:xt X F sts m)(r:∀ρ,Ref (t ρ) (m ρ)):xt X F sts t:=⟨h.hK,h.ps.imp λZ a H⟨ρ,k,S,z⟩=>⟨ρ,k,S,r ρ _ _ _ z⟩⟩
theorem DG.ref{tg:PC}{t m:D->ag->M ag}(h:DG X F tg m)(r:∀d ρ,Ref (t d ρ) (m d ρ)):DG X F tg t:=⟨h.hK,h.pg.imp λv a H Q⟨ρ,k,d,S,i,z⟩=>⟨ρ,k,d,S,i,r d ρ _ _ _ z⟩⟩
theorem EJ.ref{a:List PC}{t m:List D->ag->M ag}(h:EJ X F a m)(r:∀d ρ,Ref (t d ρ) (m d ρ)):EJ X F a t:=⟨h.hK,h.pg.imp λv b H Q⟨ρ,k,d,S,i,z⟩=>⟨ρ,k,d,S,i,r d ρ _ _ _ z⟩⟩
theorem DI.ref{tg iter:PC}{t m:ag->M (List D)}(h:DI X F tg iter m)(r:∀ρ,Ref (t ρ) (m ρ)):DI X F tg iter t:=⟨h.hK,h.pi.imp λa H R⟨ρ,k,S,z⟩=>⟨ρ,k,S,r ρ _ _ _ z⟩⟩
theorem lE.ref{ifs:List PC}{t m:ag->M Bool}(h:lE X F ifs m)(r:∀ρ,Ref (t ρ) (m ρ)):lE X F ifs t:=⟨h.hK,λa s b H Q I⟨ρ,k,S,z⟩=>h.pi a s b H Q I ⟨ρ,k,S,r ρ _ _ _ z⟩⟩
theorem DE.stuck(hK:X.K=F.K):DE X F e (λ_=>M.fail):=⟨hK,λa s b H Q I⟨c,k,S,z⟩=>z.elim⟩
theorem DT.stuck(hK:X.K=F.K):DT X F e (λ_=>M.fail):=⟨hK,λa s b H Q I⟨c,k,S,z⟩=>z.elim⟩
theorem DS.stuck(hK:X.K=F.K):DS X F st (λ_=>M.fail):=⟨hK,λa s b H Q I⟨c,k,S,z⟩=>z.elim⟩
theorem DI.stuck{tg iter:PC}(hK:X.K=F.K):DI X F tg iter (λ_=>M.fail):=⟨hK,λa s b H R I⟨c,k,S,z⟩=>z.elim⟩
theorem gV.ref{f:O_->O_->Vy O_}{t:D->D->M D}(h:∀d e,∃m,gV X F f m/\Ref (t d e) (m d e)):gV X F f t:=⟨λa s b H k x y v u d e Q I g c l hK j i q=>by
 obtain⟨m,o,r⟩:=h d e;exact o.op a s b H k x y v u d e Q I g c l hK j i (r _ _ _ q)⟩
theorem bo.ref{f:O_}{t:List D->M D}(h:∀ds,∃m,bo X F f m/\Ref (t ds) (m ds)):bo X F f t:=⟨λa s b H k c d ds Q I g l hK i q=>by
 obtain⟨m,o,r⟩:=h ds;exact o.call a s b H k c d ds Q I g l hK i (r _ _ _ q)⟩
end
structure lK(lo:Nat)(h:P7)(H:Hp)(a c:Pg)(dx:Option Pg):Prop where
 un:H a=Pb
 ge:lo<=a
 ob:∃oe vs,h.get? a=O7 oe/\oe.cls=.ref c/\oe.dict=dx/\oe.data=.fields vs/\(vs[1]?=O7 .none\/∃T oT ts,vs[1]?=O7 (.ref T)/\T≠a/\lo<=T/\H T=Pb/\h.get? T=O7 oT/\oT.data=.fields ts/\ts[3]?=O7 .none)
theorem lK.mono{lo b:Nat}{h:P7}{H:Hp}{a c:Pg}{g:Option Pg}(f:lK lo h H a c g)(e:b<=lo):lK b h H a c g:=by
 obtain⟨u,l,p,i,v,t,s,r,d⟩:=f;refine⟨u,Qa e l,p,i,v,t,s,r,?_⟩;rcases d with d|⟨T,q,j,o,n,m,k⟩;.exact .inl d
 .exact .inr ⟨T,q,j,o,n,Qa e m,k⟩
section
variable{M:T9}{A:P9}{E:O_->Pe->Prop}{s:Pe}
theorem rb{base:P7}{env:U_}{outer:List U_}{L e:Pg}{z:Qx}{vs:Array O_}{head:O_}{l:Bool}{Q:Unit->Pe->Prop}(J:A.frames=O7 (env::outer))(P:s.heap.FunFrames base (env::outer))(V:env.frame=O7 L)(R:s.heap.get? e=O7 z)(hd:z.data=.fields vs)(hsz:1<vs.size)(h:∀h',(∀b o,s.heap.get? b=O7 o->b≠e->b∉gS (env::outer)->h'.get? b=O7 o)->(∀b o,s.heap.get? b=O7 o->b∈gS (env::outer)->∃H,h'.get? b=O7 {o with slots:=H})->(∃n B T N K,h'.get? e=O7 n/\n.cls=z.cls/\n.dict=z.dict/\n.data=.fields B/\B[1]?=O7 (.ref T)/\T≠e/\s.heap.objs.size<=T/\h'.get? T=O7 N/\N.data=.fields K/\K[3]?=O7 .none)->Q () {s with heap:=h'}):wpAny M A (do let a<-frameOf env;let y<-entryPlaceOf L l;let b<-Xl head a .none (To L) .none y;W8 (.ref e) 1 b) (λ_ s'=>wpAny M A (Vb (.ref e) Pb) Q E s') E s:=by
 have p:e∉(env::outer).filterMap (·.frame):=λU=>by
  obtain⟨_,o,G,I⟩:=P.mem U;rw[R]at G;injection G with G;subst G;exact I vs hd
 refine O9 (wpAny_frameOf_fun J P V λc d=>?_);refine O9 (wpAny_entryPlaceOf λy C=>?_);unfold Xl newFields;refine O9 (Q6 ?_ (C.sizeOk5 _ _ _ _ _));have j:c.get? e=O7 z:=(d.2.1 e p).trans R;generalize D:({cls:=.type "traceback",dict:=Pb,data:=.fields ([head,.ref L,.none,To L,.none]++(if y.isEmpty then Qy 6 Qc else y)).toArray}:Qx)=ob;have i:=Ph (h:=c) ob j;have k:ob.data=.fields ([head,.ref L,.none,To L,.none]++(if y.isEmpty then Qy 6 Qc else y)).toArray:=by rw[<-D]
 have r:ob.isFreed=Pc:=by rw[<-D];rfl
 refine Sl i hd hsz ?_;have w:c.objs.size≠e:=RA (Px j);have f:=QN hd (·.setIfInBounds 1 (PQ c.objs.size));have g:=Qu (RH (·.setIfInBounds 1 (PQ c.objs.size))) i (Rw f);have m:=(Qs (c.push ob) (RH (·.setIfInBounds 1 (PQ c.objs.size))) (Q9 w)).trans (PR c r);unfold Vb;refine O9 (VF g f (x:=.ref c.objs.size) (by simp[hsz]) ?_);rw[if_pos (show(PQ c.objs.size !=Qc)=Pa from by simp)];refine Sl m k (by simp only[Pw,P6,PM,P8]<;>omega) (h _ ?_ ?_ ?_)
 .intro b o hb u t;have F:c.get? b=O7 o:=(d.2.1 b t).trans hb;have v:c.objs.size≠b:=RA (Px F);show Heap.get? _ b=O7 o;rw[Qs _ _ v,Qs _ _ (Q9 u)];exact Ph _ F
 .intro b o hb t;obtain⟨H,O⟩:=d.2.2 b o hb;have u:b≠e:=λq=>p (q▸t);have v:c.objs.size≠b:=RA (Px O);refine⟨H,?_⟩;show Heap.get? _ b=_;rw[Qs _ _ v,Qs _ _ (Q9 u)];exact Ph _ O
 .refine⟨_,_,c.objs.size,_,_,?_,Us _ _,?_,f,by simp[hsz],w,by rw[d.1];exact Pq _,Qu _ m (Rw (QN k _)),QN k _,by first|(simp;done)|(rcases C with rfl|⟨_,_,_,_,_,_,_,rfl⟩<;>simp)⟩
  .show Heap.get? _ e=_;rw[Qs _ _ w];exact g
  .obtain⟨X,W,dt,S⟩:=z;cases dt<;>rfl
structure Nj(lo:Nat)(fs:List Pg)(H:Hp)(a c:Pg)(dx:Option Pg)(h h':P7)(ch:List Pg):Prop where
 keep:∀b o,h.get? b=O7 o->b∉ch->b∉fs->h'.get? b=O7 o
 slot:∀b o,h.get? b=O7 o->b∈fs->∃sl,h'.get? b=O7 {o with slots:=sl}there:∀b o,h.get? b=O7 o->∃o',h'.get? b=O7 o'
 un:∀b∈ch,H b=Pb
 ge:∀b∈ch,lo<=b
 Oc:lK lo h' H a c dx
theorem vn{base:P7}{env:U_}{outer:List U_}{L a c lo:Pg}{S:Option Pg}{H:Hp}{Q:Unit->Pe->Prop}(t:A.frames=O7 (env::outer))(K:s.heap.FunFrames base (env::outer))(N:env.frame=O7 L)(J:lo<=s.heap.objs.size)(Yy:∀b,s.heap.objs.size<=b->H b=Pb)(fl:lK lo s.heap H a c S)(h:∀h' ch,Nj lo (gS (env::outer)) H a c S s.heap h' ch->Q () {s with heap:=h'}):wpAny M A (Uc (.ref a) env) (λ_ s'=>wpAny M A (Vb (.ref a) Pb) Q E s') E s:=by
 obtain⟨un,Z,X,vs,C,hc,O,hd,I⟩:=fl;unfold Uc;simp only[N];have y:∀(k h':P7)(ch:List Pg),(∀b o,s.heap.get? b=O7 o->b∉ch->k.get? b=O7 o)->(∀b o,s.heap.get? b=O7 o->b∈gS (env::outer)->k.get? b=O7 o)->(∀b o,s.heap.get? b=O7 o->∃o',k.get? b=O7 o')->k.objs.size=s.heap.objs.size->(∀b∈ch,H b=Pb)->(∀b∈ch,lo<=b)->(∀b o,k.get? b=O7 o->b≠a->b∉gS (env::outer)->h'.get? b=O7 o)->(∀b o,k.get? b=O7 o->b∈gS (env::outer)->∃U,h'.get? b=O7 {o with slots:=U})->(∃g j T r l,h'.get? a=O7 g/\g.cls=X.cls/\g.dict=X.dict/\g.data=.fields j/\j[1]?=O7 (.ref T)/\T≠a/\k.objs.size<=T/\h'.get? T=O7 r/\r.data=.fields l/\l[3]?=O7 .none)->Nj lo (gS (env::outer)) H a c S s.heap h' (a::ch):=by
  intro k h' ch k1 k2 k3 hz c1 c2 p n⟨g,j,T,r,l,W,q2,q3,q4,q5,q6,V,q8,q9,D⟩;refine⟨λb o e hb f=>?_,λb o e f=>n b o (k2 b o e f) f,λb o e=>?_,λb hb=>?_,λb hb=>?_,⟨un,Z,g,j,W,q2.trans hc,q3.trans O,q4,.inr ⟨T,r,l,q5,q6,Qa J (by rw[<-hz];exact V),Yy T (by rw[<-hz];exact V),q8,q9,D⟩⟩⟩
  .rw[Sf,not_or]at hb;exact p b o (k1 b o e hb.2) hb.1 f
  .obtain⟨Y,e1⟩:=k3 b o e;by_cases u:b=a;.subst u;exact⟨_,W⟩
   .by_cases f:b∈gS (env::outer)
    .obtain⟨U,e2⟩:=n b Y e1 f;exact⟨_,e2⟩
    .exact⟨_,p b Y e1 u f⟩
  .rcases List.mem_cons.mp hb with z|z;.rw[z];exact un
   .exact c1 b z
  .rcases List.mem_cons.mp hb with z|z;.rw[z];exact Z
   .exact c2 b z
 rcases I with x|⟨T,r,l,x,R,v,P,w,i,h3⟩
 .refine O9 (VF C hd x ?_);rw[if_neg (by decide)];exact rb t K N C hd (Array.getElem?_eq_some_iff.mp x).1 λh' p n G=>h h' _ (y s.heap h' [] (λb o e _=>e) (λb o e _=>e) (λb o e=>⟨o,e⟩) rfl (λb hb=>nomatch hb) (λb hb=>nomatch hb) p n G)
 .refine O9 (VF C hd x ?_);rw[if_pos (show(PQ T !=Qc)=Pa from by simp)];refine O9 (VF w i h3 ?_);rw[if_neg (show¬((Qc==To L)=Pa)from by simp[To])];refine O9 (Sl w i (Array.getElem?_eq_some_iff.mp h3).1 ?_);have d:∀b,b≠T->(s.heap.update T (RH (·.setIfInBounds 3 Qc))).get? b=s.heap.get? b:=λb hb=>Qs _ _ (Q9 hb);have F:∀b,b∈gS (env::outer)->b≠T:=λb hb q=>by
   obtain⟨_,o,B,m⟩:=K.mem hb;rw[q,w]at B;injection B with B;subst B;exact m l i
  refine rb (s:={s with heap:=s.heap.update T (RH (·.setIfInBounds 3 Qc))}) t (K.of_keeps λb o hb m=>⟨o,(d b λq=>by rw[q,w]at hb;injection hb with hb;subst hb;exact m l i).trans hb,rfl⟩) N ((d a (Q9 R)).trans C) hd (Array.getElem?_eq_some_iff.mp x).1 λh' p n G=>h h' _ (y _ h' [T] (λb o e hb=>(d b λz=>hb (by rw[z];exact List.mem_singleton_self _)).trans e) (λb o e hb=>(d b (F b hb)).trans e) (λb o e=>?_) (Heap.size_after_update ..) (λb hb=>by rw[List.mem_singleton.mp hb];exact P) (λb hb=>by rw[List.mem_singleton.mp hb];exact v) p n G);by_cases hb:b=T
  .subst hb;exact⟨_,Qu _ w (Rw (QN i _))⟩
  .exact⟨o,(d b hb).trans e⟩
theorem zM{base:P7}{env:U_}{outer:List U_}{L a c lo:Pg}{f:Option Pg}{H:Hp}{Q:Unit->Pe->Prop}(e:A.frames=O7 (env::outer))(g:s.heap.FunFrames base (env::outer))(i:env.frame=O7 L)(d:lo<=s.heap.objs.size)(Yy:∀b,s.heap.objs.size<=b->H b=Pb)(j:lK lo s.heap H a c f)(h:∀h' ch,Nj lo (gS (env::outer)) H a c f s.heap h' ch->Q () {s with heap:=h'}):wpAny M A (YG env (.ref a)) Q E s:=by
 unfold YG;exact O9 (vn e g i d Yy j h)
end
noncomputable def rh(F:Fb)(H:Hp)(b:Option Pg):List D->Prop
 |[]=>True|[d]=>∃x a v,b=O7 x/\x≠F.p/\H x=O7 (.bQ a (.xd [("name",v)]))/\Is F H v d|_=>False
theorem rh.mono{F:Fb}{H H':Hp}{k f:Nat}{b:Option Pg}{nm:List D}(h:rh F H b nm)(e:Kp F H k H' f):rh F H' b nm:=by match nm,h with
 |[],_=>trivial|[d],⟨x,c,v,j,a,i,g⟩=>exact⟨x,c,v,j,a,e.keep _ _ a rfl i,g.mono e⟩
noncomputable def GU(P:PF)(w:P0):uN:=λouter H s E e b=>∃a c f d,e=.ref a/\b.os=s.os/\UK b.gens/\Un (gS outer) [] H d s.heap b.heap/\gQ P w d b.heap/\lK s.heap.objs.size b.heap d a c f/\E (.ref c) f d
section
variable{X:Cx}{F:Fx}{pins:List (Pg×Qx)}{σ:St}{H:Hp}{s s':Pe}
noncomputable def t6(X:Cx)(pins:List (Pg×Qx))(σ:St)(h:P7)(H:Hp)(a c:Pg)(d:Option Pg):Prop:=∃b H0,Inv X pins σ H0 b/\lK b.heap.objs.size h H a c d
noncomputable def yj(X:Cx)(F:Fx):Prop:=∀(pins:List (Pg×Qx))(σ:St)(b:ag)(H:Hp)(k:Nat)(s:Pe)(a c:Pg)(d:Option Pg)(nm:List D),Inv X pins σ H s->cg F b k σ H->t6 X pins σ s.heap H a c d->rh F.toFb H d nm->F.E ⟨.exc c nm,b⟩ k->X.xe (.ref a) s
theorem yj.never(h:∀x k,¬F.E x k):yj X F:=λ_ _ _ _ _ _ _ _ _ _ _ _ _ _ z=>(h _ _ z).elim
theorem Inv.Kz{E:XK}{e:O_}(I:Inv X pins σ H s)(h:GU X.prog X.w X.stack H s E e s'):∃a c d H',e=.ref a/\Inv X pins σ H' s'/\lK s.heap.objs.size s'.heap H' a c d/\E (.ref c) d H':=by
 obtain⟨a,c,d,H',rfl,os,bare,un,aH,f,q⟩:=h;exact⟨a,c,d,H',rfl,I.uI os un aH bare λb z=>absurd z (by simp),f,q⟩
theorem Inv.leave{A:P9}{outer:List U_}{a c:Pg}{D:Option Pg}{M:T9}{Q:Unit->Pe->Prop}{E:O_->Pe->Prop}(I:Inv X pins σ H s)(G:A.frames=O7 X.stack)(i:X.stack=X.env::outer)(p:X.env.frame=O7 X.env.locals)(x:X.outer=outer)(hex:X.ex=[])(y:t6 X pins σ s.heap H a c D)(h:∀s',s'.os=X.bI.os->UK s'.gens->Un (gS outer) [] X.ig H X.bI.heap s'.heap->gQ X.prog X.w H s'.heap->lK X.bI.heap.objs.size s'.heap H a c D->Q () s'):wpAny M A (YG X.env (.ref a)) Q E s:=by
 have g:=I.stack;obtain⟨U,H0,S,B⟩:=y;have B:lK X.bI.heap.objs.size s.heap H a c D:=B.mono S.sz;rw[i]at G g;refine zM G g p I.sz (λb hb=>I.aH.fresh hb) B λP K L=>?_;have k:∀b o,X.bI.heap.get? b=O7 o->b∉K:=λb o e z=>absurd (Px e) (Nat.not_lt.mpr (L.ge b z));have j:∀b,H b≠Pb->b∉K:=λb n z=>n (L.un b z);have m:X.fs=gS outer:=by show gS X.outer=_;rw[x]
 have v:∀b,b∈gS (X.env::outer)->H b=Pb:=λb hb=>I.kE b (by rw[i];exact hb);have mem:∀b,b∈gS (X.env::outer)->b=X.env.locals\/b∈gS outer:=λb hb=>by
  have:=I.ij b (by rw[i];exact hb);rw[m]at this;exact List.mem_cons.mp this
 have t:∀b o,X.bI.heap.get? b=O7 o->b<X.bI.heap.objs.size:=λb o e=>Px e;have O:∀b o,X.bI.heap.get? b=O7 o->b≠X.env.locals:=λb o e z=>by
  have J:=t b o e;rw[z]at J;exact absurd I.ok.above (Nat.not_le.mpr J)
 have f:=I.base;rw[m,hex]at f;refine h {s with heap:=P} I.os I.bare ⟨λb o e n hb l=>?_,λb o e n hb l=>?_,f.free,λb o e l=>?_,f.ic,f.gR,f.ie⟩ (λb o e=>?_) L.Oc
 .refine L.keep b o (f.keep b o e n hb l) (k b o e) λz=>?_;rcases mem b z with q|q;.exact O b o e q
  .exact hb q
 .obtain⟨T,C⟩:=f.slot b o e n hb l;have:b∈gS (X.env::outer):=by
   show b∈List.filterMap _ _;rw[Rf,p];exact Po _ hb
  obtain⟨r,R⟩:=L.slot b _ C this;exact⟨r,R⟩
 .obtain⟨N,C⟩:=f.there b o e l;exact L.there b N C
 .refine(I.aH b o e).h_ (λd u hd q=>L.keep d u q (j d ?_) λz=>?_) (λ_ q=>q) λ_ _ q=>q
  .rcases hd with z|z;.rw[z,e];exact(λq=>nomatch q)
   .rw[z];exact(λq=>nomatch q)
  .have n:=v d z;rcases hd with q|q;.rw[q,e]at n;cases n
   .rw[q]at n;cases n
end
noncomputable def qX(B:Fb)(H:Hp)(k:Nat)(E:XK):Xc->Nat->Prop:=λx d=>∀a c nm b,Ext B H k a d->x.x=.exc c nm->rh B a b nm->E (.ref c) b a
noncomputable def spT(P:PF)(w:P0)(K:Pj)(n:Nat)(m:List A->M D):Sp:=λa H Q E=>∃p k as,H p≠Pb/\xq ⟨K,p,P,w⟩ H k a as/\as.length=n/\(m as).run k (qE ⟨K,p,P,w⟩ H k Q) (qX ⟨K,p,P,w⟩ H k E)
noncomputable def lL(P:PF)(w:P0)(K:Pj)(mg:PX->Option O_)(base:P7)(x:PX)(n:Nat)(k:Nat)(m:List A->M D):Prop:=∃ps:List PX,ps.length=n/\∃f fd,dM P w K mg base (GU P w) k f fd ps (spT P w K n m)/\mg x=O7 (.ref f)/\Tr K (.ref f)=Pa/\Binds K fd ps []
section
variable{X:Cx}{F:Fx}{e:PC}{es:List PC}{pos:Ro}{tas:ag->M (List A)}
theorem CW(hK:X.K=F.K)(hP:X.prog=F.P)(hw:X.w=F.w):(⟨X.K,F.p,X.prog,X.w⟩:Fb)=F.toFb:=by
 have:F.toFb=⟨F.K,F.p,F.P,F.w⟩:=rfl;rw[this,hK,hP,hw]
noncomputable def Nk{a:Type}(ρ:ag)(m:M a):M a:=⟨λk Q E=>m.run k Q (λx b=>E ⟨x.x,ρ⟩ b),λh q e=>m.mono h q λx b z=>e _ _ z⟩
theorem T.GV{c:Type}(ρ:ag)(t:T c):(t.at' ρ).aC=Nk ρ t.aC:=by induction t with
 |ok a=>rfl|exc x=>rfl|stuck=>rfl|draw n k b=>
  refine M.ext λj Q E=>?_;show((T.jd n)>>=λi=>((k i).at' ρ).aC).run j Q E=((T.jd n)>>=λi=>(k i).aC).run j Q _;rw[M.run_bind,M.run_bind];simp only[b];rfl|perm l k b=>
  refine M.ext λj Q E=>?_;show((M.any λi=>i.Perm l)>>=λi=>((k i).at' ρ).aC).run j Q E=((M.any λi=>i.Perm l)>>=λi=>(k i).aC).run j Q _;rw[M.run_bind,M.run_bind];simp only[b];rfl
theorem CY{x:PX}{n k:Nat}{m:List A->M D}{p:Ro}(Df:lL X.prog X.w X.K X.mg X.base x n k m)(hr:eT k X.A)(ho:yj X F)(ha:DA X F (e::es) tas)(hg:Gl X x)(hP:X.prog=F.P)(hw:X.w=F.w)(U:(x==("__debug__":PX))=Pc)(he:PL (e::es) X.env=(Pc,Rz e X.env)::PL es X.env)(R:(RR pos (PL es X.env)).any (·.1)=Pc):DE X F (.Call (.Name x p) (e::es) [] pos) (λρ=>do let as<-tas ρ;M.need (as.length=n);Nk ρ (m as)):=by
 obtain⟨ps,hl,f,fd,FN,hm,hk,hb⟩:=Df;refine⟨ha.hK,λi s J H Q I⟨ρ,k0,S,h⟩=>?_⟩;refine T7 (iU I hg hm ?_ U);refine Xx (h₀:=X.base) I.ok.mod.Fq hk (bp (ha.pa pos i s J H _ I (qY.next (Q:=λv g=>∃as b,Ext F.toFb H k0 g b/\cg F ρ b J g/\xq F.toFb g b v as/\as.length=n/\(Nk ρ (m as)).run b (qE F.toFb H k0 Q) F.E) S h λas b v g Y G O h1=>⟨as,b,Y,G,O,h1.1,h1.2⟩)) λC N⟨v,g,t,r,as,b,Y,G,O,hn,q⟩=>⟨t.jH,?_⟩) he R;have eF:=CW (X:=X) (F:=F) ha.hK hP hw;have y:spT X.prog X.w X.K n m v g Q (λcl o j=>∃c nm l,cl=.ref c/\Ext F.toFb g b j l/\rh F.toFb j o nm/\F.E ⟨.exc c nm,ρ⟩ l):=by
  refine⟨F.p,b,as,G.live,?_,hn,?_⟩;.rw[eF];exact O
  .rw[eF];refine(m as).mono q (λd Z z=>z.ext Y) λx Z z=>?_;intro j c nm o W ex L;exact⟨c,nm,Z,rfl,W,L,by rw[<-ex];exact z⟩
 have T:C.length=ps.length:=by rw[<-r.length];exact FN.len _ _ _ _ y
 refine Xw (Tx (FN.run X.A X.stack N g ⟨C,[]⟩ C v Q _ hr t.tF ?_ r y) λr s' B=>?_)
 .have:=hb N C t.jH (by rw[QL];exact T);rw[QL]at this;exact this
 .cases r with
  |error e=>
   obtain⟨a,c,o,j,rfl,I2,V,c',nm,l,ec,W,L,z⟩:=t.Kz (E:=λcl o j=>∃c nm l,cl=.ref c/\Ext F.toFb g b j l/\rh F.toFb j o nm/\F.E ⟨.exc c nm,ρ⟩ l) (e:=e) (s':=s') B;cases ec;exact ho i J ρ j l s' a c o nm I2 (G.mono W) ⟨N,g,t,V⟩ L z|ok V=>cases V with
   |ret u=>exact t.after B|next=>exact Rr B|brk=>exact Rr B|cont=>exact Rr B
end
section
variable{P:PF}{w:P0}{K:Pj}{mg:PX->Option O_}{base:P7}
theorem yQ.OI{x b:PX}{st:RP}{f:Pg}{fd:Rj}{N ps:List PX}{n k:Nat}{m:List A->M D}(Fn:yQ K x b st f fd)(S:c4 N ps (ao st))(hn:ps.length=n)(l:∀(g:O_)(o:P9)(outer:List U_)(s:Pe)(H:Hp)(p:Pg)(k0:Nat)(E:XK)(y:Xc->Nat->Prop),eT k (o.deeper (VI b (ao st) s.heap.objs.size f g))->RJ K g b=Pa->yj (ku (GU P w) P w K mg base N b (ao st) f g o outer s H E) ⟨⟨K,p,P,w⟩,H,k0,y,H,k0⟩->∃t,xt (ku (GU P w) P w K mg base N b (ao st) f g o outer s H E) ⟨⟨K,p,P,w⟩,H,k0,y,H,k0⟩ (cz st) t/\∀(as:List A)(Q:D->Nat->Prop),as.length=n->(m as).run k0 Q y->(t (fW N as)).run k0 (Kk Q) y):dM P w K mg base (GU P w) (k+1) f fd ps (spT P w K n m):=by
 obtain⟨oc,od,kV,a0,pm,an,g,ct,V,rfl,lk,u⟩:=Fn.ex;refine yE lk u S (λU H Q E h=>?_) λo outer s H U Q E Y h=>?_
 .obtain⟨p,j,as,_,i,C,_⟩:=h;rw[Paired.length i,C,hn]
 .obtain⟨p,j,as,lv,i,C,q⟩:=h;have F:yj (ku (GU P w) P w K mg base N b (ao st) f g o outer s H E) ⟨⟨K,p,P,w⟩,H,j,qX ⟨K,p,P,w⟩ H j E,H,j⟩:=by
   intro L R B r W s' a c O nm I S' J T z;refine I.leave (A:=o.deeper (VI b (ao st) s.heap.objs.size f g)) (outer:=outer) I.ok.frames rfl rfl rfl rfl J λs2 os bare un aH G=>?_;exact⟨a,c,O,r,rfl,os,bare,un,aH,G,z r c nm O S'.ext rfl T⟩
  obtain⟨t,X,Z⟩:=l g o outer s H p j E (qX ⟨K,p,P,w⟩ H j E) Y u F;refine⟨_,X.ps,fW N as,j,xw lv i,M.wk (Z as _ C q) λJ W z=>?_⟩;cases J with
  |nx B=>exactλR r kp S=>z .bH r S.ext (by simp only[Is])|rt d=>exactλv r e i=>z v r e i|bk B=>exact z.elim|ct B=>exact z.elim
end
open PySem (wpAny_loadPart_at wpAny_madeBy_exc)
noncomputable def zN:List O_:=[.type "ValueError",.type "Exception",.type "BaseException",.type "object"]
noncomputable def EL(C t:Pg):Qx:={cls:=.ref C,data:=.fields #[.ref t,.none,.none,.none,.bool Pc,.none]}
structure zO(h h':P7)(e C:Pg):Prop where
 keeps:∀b o,h.get? b=O7 o->h'.get? b=O7 o
 ge:h.objs.size<=e
 there:∃t,h'.get? e=O7 (EL C t)
section
variable{prog:PF}{w:P0}{A:P9}{E:O_->Pe->Prop}{h:P7}{g:Array Yo}{d:Drawn}{t:Nat}{os:OsState}
variable{nm q:PX}{C N:Pg}{bs bm bmB:List O_}{hdct:Bool}{sn:List PX}{sub:List O_}{ab:Bool}{col:Option Bool}{dd:Option Pg}{k0 k1 k2 k3 k5:Option O_}{B newId initId:String}
theorem lM(F:ExcBaseFacts B newId initId bmB)(T:OwnTail h bmB bm){l:PX->Option O_}{rest:List O_}{Q:Fin->Pe->Prop}(k:h.get? C=O7 (Xb nm q C N bs bm hdct sn sub ab col dd k0 k1 k2 k3 k5 newId))(s:h.Ns N l)(m:l "__init__"=Pb)(p:∀h' e,zO h h' e C->Q (.done (.ret (.ref e))) ⟨h',g,d,t,os⟩)(i:rest.length<=Pl):wpAny (Py prog w) A (Builtin.«type.__call__» ⟨.ref C::rest,[]⟩) Q E ⟨h,g,d,t,os⟩:=by
 repeat(first|with_reducible refine QR k ?_|with_reducible refine wpAny_madeBy_exc k ?_|wp_step)
 refine codeAny_call_builtin_code (SW _ F.quiet) (wpAny_check_new_subT F T k ?_);refine codeAny_exc_new_subT F T k ?_ i;show wpAny _ _ _ _ _ _;have a:=Ph {cls:=.ref C,data:=.fields #[.ref h.objs.size,.none,.none,.none,.bool Pc,.none]} (Ph {cls:=.type "tuple",data:=.seq rest.toArray} k);have j:((h.push {cls:=.type "tuple",data:=.seq rest.toArray}).push {cls:=.ref C,data:=.fields #[.ref h.objs.size,.none,.none,.none,.bool Pc,.none]}).Ns N l:=let⟨o,u,v,e,r⟩:=s;⟨o,u,v,Ph _ (Ph _ e),r⟩;have c:((h.push {cls:=.type "tuple",data:=.seq rest.toArray}).push {cls:=.ref C,data:=.fields #[.ref h.objs.size,.none,.none,.none,.bool Pc,.none]}).get? (h.objs.size+1)=O7 {cls:=.ref C,data:=.fields #[.ref h.objs.size,.none,.none,.none,.bool Pc,.none]}:=by heap_get
 have n:(PQ C::bm).contains (.ref C)=Pa:=by simp
 have f:=T.keeps (h':=(h.push {cls:=.type "tuple",data:=.seq rest.toArray}).push {cls:=.ref C,data:=.fields #[.ref h.objs.size,.none,.none,.none,.bool Pc,.none]}) λb o e=>Ph _ (Ph _ e);unfold Vk;repeat(first|with_reducible refine QR c ?_|(with_reducible refine Xm a ?_;rw[n])|wp_step)
 show wpAny _ _ (Vf (.ref C) _) _ _ _;refine wpAny_typeLookup_tail a j f F.mroIs F.init.lookup ?_;rw[m];refine Qn (O9 (VE (F.init.bind _) ?_));refine O9 (Xw (UT F.init.plain F.initEntry (wpAny_check_init_subT F f a c rfl ?_)));wp_walk;refine p _ _ ⟨λb o hb=>?_,WW _,h.objs.size+2,?_⟩
 .rw[Qs _ _ (RA (Sx (Px hb)))];exact Ph _ (Ph _ (Ph _ hb))
 .rw[Qu _ (Ph _ c) rfl];simp only[SK];rfl
theorem xC(F:ExcBaseFacts B newId initId bmB)(T:OwnTail h bmB bm){f:PX->Option O_}{rest:List O_}{Q:O_->Pe->Prop}(b:h.get? C=O7 (Xb nm q C N bs bm hdct sn sub ab col dd k0 k1 k2 k3 k5 newId))(j:h.Ns N f)(c:f "__init__"=Pb)(i:∀h' e,zO h h' e C->Q (.ref e) ⟨h',g,d,t,os⟩)(a:rest.length<=Pl):wpAny (Py prog w) A (call (.ref C) rest) Q E ⟨h,g,d,t,os⟩:=by
 have n:=tc_lookup;have m:=tc_bind (.ref C);have l:(⟨h,g,d,t,os⟩:Pe).TypeIs (.ref C) "type":=⟨_,b,rfl⟩;refine Xw (codeAny_of_tree ?_);show wpAny _ _ (callAny (.ref C) _) _ _ _;repeat(any_goals(first|assumption|with_reducible refine QR b ?_|wp_step))
 refine⟨rfl,?_⟩;exact codeAny_call_builtin_at (SW _ (by decide+kernel)) entry_typeCall (wpAny_check_type_call_sub b (lM F T b j c (λh' e k=>i h' e k) a))
theorem rl{s:Pe}{M:T9}{env:U_}{x:Vy O_}{Q:Flow->Pe->Prop}(b:bm.contains (.type "BaseException")=Pa)(k:A.handled=Pb)(h:wpAny M A x (λv a=>∃e t j,v=.ref e/\a.heap.get? C=O7 (Xb nm q C N bs bm hdct sn sub ab col dd k0 k1 k2 k3 k5 newId)/\a.heap.get? e=O7 {cls:=.ref C,dict:=j,data:=.fields #[.ref t,.none,.none,.none,.bool Pc,.none]}/\E (.ref e) a) E s):wpAny M A (raiseStmt env (O7 x) Pb) Q E s:=by
 have f:(PQ C::bm).contains (.type "BaseException")=Pa:=by rw[List.contains_cons,b,Bool.or_true]
 unfold raiseStmt;refine O9 (QV h (λv a c=>?_) λ_ _ x=>x);obtain⟨e,t,j,rfl,i,l,m⟩:=c;obtain⟨o,g,d,n,os⟩:=a;repeat(first|with_reducible refine QR l ?_|with_reducible refine QR i ?_|(with_reducible refine Xm i ?_;rw[f])|wp_step)
 exact wpAny_raiseNew_none k m
end
noncomputable def rm(K:Pj)(C:Pg):Bool:=PySem.W.excIn K C zN "ValueError.__new__"
inductive Nl(h:P7)(C:Pg):Prop where|mk(bm:List O_)(N:Pg)(nm q:PX)(bs:List O_)(hdct:Bool)(sn:List PX)(sub:_)(ab:_)(col:_)(dd:Option Pg)(k0 k1 k2 k3 k5:Option O_)(mN:PX->Option O_)(hC:h.get? C=O7 (Xb nm q C N bs bm hdct sn sub ab col dd k0 k1 k2 k3 k5 "ValueError.__new__"))(hN:h.Ns N mN)(hi:mN "__init__"=Pb)(T:OwnTail h zN bm)
theorem vo{K:Pj}{h:P7}{C:Pg}(X:K.In h)(q:rm K C=Pa):Nl h C:=by
 unfold rm PySem.W.excIn at q;split at q
 .rename_i v cd e t;split at q
  .rename_i y w k0 j i g n f m k;simp only[Pp,beq_iff_eq,Ru]at q;obtain⟨⟨⟨⟨⟨rfl,rfl⟩,a⟩,s⟩,aH⟩,b⟩:=q;obtain⟨nm,bs,r,ns,p,hd,o,sub,x,d,u⟩:=cd;dsimp only at m a aH b;subst m a;have c:e=#[k0,j,i,g,O7 (.builtin "ValueError.__new__"),f]:=by
    obtain⟨l⟩:=e;simp only at k;rw[k]
   subst c;exact⟨w,ns,nm,p,bs,hd,o,sub,x,d,v,k0,j,i,g,f,_,X _ _ t,.of_isNs (PySem.W.isNs_of_in X aH),PySem.W.nsMap_none_of_in X aH b,PySem.W.tail_of_in X s⟩
  .cases q
 .cases q
section
variable{X:Cx}{F:Fx}{e:PC}{es:List PC}{tas:ag->M (List A)}
theorem GW{x:PX}{C:Pg}{np cpos:Ro}{pins:List (Pg×Qx)}{s:Pe}{σ:St}{H:Hp}{ρ:ag}{k:Nat}{R:Nat->Prop}{Q:O_->Pe->Prop}(I:Inv X pins σ H s)(S:cg F ρ k σ H)(ha:DA X F (e::es) tas)(h:(do let as<-tas ρ;M.need (as.length<=Pl):M Unit).run k (λ_ J=>R J) F.E)(Y:Gl X x)(V:X.mg x=O7 (.ref C))(U:rm X.K C=Pa)(n:(x==("__debug__":PX))=Pc)(v:PL (e::es) X.env=(Pc,Rz e X.env)::PL es X.env)(l:(RR cpos (PL es X.env)).any (·.1)=Pc)(q:∀k1 b s1 h' a t,Inv X pins σ b s1->Ext F.toFb H k b k1->cg F ρ k1 σ b->R k1->zO s1.heap h' a C->h'.get? a=O7 (EL C t)->Q (.ref a) {s1 with heap:=h'}):wpAny (Py X.prog X.w) X.A (Rz (.Call (.Name x np) (e::es) [] cpos) X.env) Q X.xe s:=by
 obtain⟨bm,N,nm,q0,bs,y,sn,sub,ab,a0,dd,k0,k1,k2,k3,k5,mN,Z,hN,m,T⟩:=vo I.ok.mod.Fq U;refine wpAny_Call_ofName (iU I Y V ?_ n);unfold callWith;rw[v];have u:=ha.pa cpos pins s σ H _ I (qY.next (Q:=λi b=>∃as k1,i.length=as.length/\Ext F.toFb H k b k1/\cg F ρ k1 σ b/\as.length<=Pl/\R k1) S h λas k1 i b o p L B=>⟨as,k1,Paired.length L,o,p,B.1,B.2⟩);rw[v]at u;have c:(RR cpos ((Pc,Rz e X.env)::PL es X.env)).any (·.1)=Pc:=by
  show(Pc||(RR cpos (PL es X.env)).any (·.1))=Pc;rw[l];rfl
 refine O9 (Qn (UQ (bp u λG s1⟨i,b,g,r,as,j,W,o,p,O,z⟩=>O9 (RG ?_))));obtain⟨hh,gg,d,tk,os⟩:=s1;have D:=g.bk _ _ Z;have c2:=hN.keeps g.bk;have c3:=T.keeps g.bk;simp only[c];refine O9 (wpAny_keeperOf_exc D ?_);refine O9 (xC PySem.F.excBase_ValueError c3 D c2 m (λh' a f=>O9 (Qn (wpAny_point (Pf ?_)))) (by show G.length<=Pl;rw[<-r.length,W];exact O));obtain⟨t,P⟩:=f.there;exact q j b _ h' a t g o p z f P
theorem zP{x:PX}{C:Pg}{np cpos pos:Ro}(J:X.calm=Pa)(w:yj X F)(ha:DA X F (e::es) tas)(D:Gl X x)(B:X.mg x=O7 (.ref C))(o:rm X.K C=Pa)(j:(x==("__debug__":PX))=Pc)(G:PL (e::es) X.env=(Pc,Rz e X.env)::PL es X.env)(i:(RR cpos (PL es X.env)).any (·.1)=Pc):DS X F (.Raise (O7 (.Call (.Name x np) (e::es) [] cpos)) Pb pos) (λρ=>do let as<-tas ρ;M.need (as.length<=Pl);M.throw ⟨.exc C [],ρ⟩):=by
 refine⟨ha.hK,λb s m H Z I⟨ρ,k,S,h⟩=>?_⟩;obtain⟨bm,N,nm,q,bs,hdct,sn,sub,ab,col,dd,k0,k1,k2,k3,k5,Q,L,hN,y,T⟩:=vo I.ok.mod.Fq o;rw[arm_exec_Raise];refine O9 (RG ?_);refine rl (C:=C) (nm:=nm) (q:=q) (N:=N) (bs:=bs) (bm:=bm) (hdct:=hdct) (sn:=sn) (sub:=sub) (ab:=ab) (col:=col) (dd:=dd) (k0:=k0) (k1:=k1) (k2:=k2) (k3:=k3) (k5:=k5) (newId:="ValueError.__new__") (T.hasType PySem.F.excBase_ValueError.hasBase) (I.ok.hd J) ?_;have v:(do let as<-tas ρ;M.need (as.length<=Pl):M Unit).run k (λ_ u=>F.E ⟨.exc C [],ρ⟩ u) F.E:=h;refine O9 (GW I S ha v D B o j G i λg d f O a t l R P z c n=>O9 (RG (Pf ?_)));have un:d a=Pb:=l.aH.fresh c.ge;have r:Inv X b m d {f with heap:=O}:=l.kept (t':=f.toks) c.keeps;exact⟨a,t,Pb,rfl,r.bk _ _ L,n,w b m ρ d g _ a C Pb [] r P ⟨f,d,l,un,c.ge,_,_,n,rfl,rfl,rfl,.inl rfl⟩ trivial z⟩
end
noncomputable def iF(K:Pj)(c P:Pg):Option Bool:=if Tu K (.ref P) (.type "BaseException")=O7 Pa then(match Tu K (.ref P) (.ref P)with
  |some _=>Tu K (.ref c) (.ref P)|none=>Pb)else Pb
theorem rn{K:Pj}{M:T9}{A:P9}{E:O_->Pe->Prop}{s:Pe}{e c P:Pg}{h:Qx}{b:Bool}{Q:Bool->Pe->Prop}(X:K.In s.heap)(l:s.heap.get? e=O7 h)(m:h.cls=.ref c)(hb:iF K c P=O7 b)(q:Q b s):wpAny M A (excMatches (.ref e) (.ref P)) Q E s:=by
 unfold iF at hb;split at hb
 .rename_i p;split at hb
  .rename_i v n;obtain⟨k,j,t⟩:=Td (M:=M) X n;obtain⟨_,_,i⟩:=Td (M:=M) X p;obtain⟨_,_,f⟩:=Td (M:=M) X hb;have a:∀b o,s.heap.get? b=O7 o->s.heap.get? b=O7 o:=λ_ _ e=>e;unfold excMatches Vk isExcClass;refine O9 (O9 (k A _ _ s a ?_));refine VE tc_notTuple ?_;rw[if_neg (by decide)];refine O9 (Pf ?_);refine O9 ?_;rw[U2];refine O9 (O9 (O9 (j A _ _ s a ?_)));rw[if_pos rfl];refine i A _ _ s a ?_;rw[if_neg (by decide)];obtain⟨u,g,d,r,os⟩:=s;repeat(first|(with_reducible refine QR l ?_;rw[m])|(with_reducible refine f A _ _ _ a ?_)|wp_step)
   refine f A _ _ _ a ?_;cases b with
   |true=>exact Pf (Pf (Pf q))|false=>exact Pf (Pf (Pf q))
  .cases hb
 .cases hb
section
variable{X:Cx}{F:Fx}{pins:List (Pg×Qx)}{σ:St}{H:Hp}{s s':Pe}
theorem Inv.KC{a c:Pg}{G:Option Pg}{M:T9}{Q:Unit->Pe->Prop}{E:O_->Pe->Prop}(I:Inv X pins σ H s)(h:X.stack=X.env::X.outer)(t:X.env.frame=O7 X.env.locals)(v:t6 X pins σ s.heap H a c G)(q:∀s',Inv X pins σ H s'->t6 X pins σ s'.heap H a c G->Q () s'):wpAny M X.A (Uc (.ref a) X.env) (λ_ s'=>wpAny M X.A (Vb (.ref a) Pb) Q E s') E s:=by
 obtain⟨l,H0,k,D⟩:=v;have B:=I.ok.frames;have f:=I.stack;rw[h]at B f;have r:l.heap.objs.size<=s.heap.objs.size:=by
  obtain⟨_,J,U,T,N,_⟩:=D;exact Qa J (Tw (Px N))
 refine vn B f t r (λb hb=>I.aH.fresh hb) D λC ch L=>?_;have m:∀b,b∈gS (X.env::X.outer)->H b=Pb:=λb hb=>I.kE b (by rw[h];exact hb);have i:∀b,H b≠Pb->b∉ch:=λb n z=>n (L.un b z);have g:∀{b:Pg},b<l.heap.objs.size->b∉ch:=λhb z=>absurd hb (Nat.not_lt.mpr (L.ge _ z));have R:Inv X pins σ H {s with heap:=C}:=by
  refine I.uI (s':={s with heap:=C}) (ch:=ch) rfl ?_ (λb o e=>?_) I.bare λb hb=>⟨.inr (Qa k.sz (L.ge b hb)),λz=>?_,λx P e z=>?_,λp K z=>?_⟩
  .rw[h];exact⟨λb o e n hb w=>L.keep b o e w hb,λb o e n hb w=>L.slot b o e hb,λ_ _ _ n _=>n,λb o e _=>L.there b o e,λ_ _ z=>z,λ_ _ _ z=>z,λb ps z=>⟨#[],by rw[z];simp⟩⟩
  .refine(I.aH b o e).h_ (λd u hd z=>L.keep d u z (i d ?_) λy=>?_) (λ_ z=>z) λ_ _ z=>z
   .rcases hd with y|y;.rw[y,e];exact(λz=>nomatch z)
    .rw[y];exact(λz=>nomatch z)
   .have n:=m d y;rcases hd with y|y;.rw[y,e]at n;cases n
    .rw[y]at n;cases n
  .exact g (z▸k.lt) hb
  .obtain⟨S,O⟩:=k.cell x P e;exact g (z▸O.lt) hb
  .exact g (z▸Px (k.pin p K).1) hb
 exact q _ R ⟨l,H0,k,L.Oc⟩
theorem Inv.hold{a c:Pg}{g:Option Pg}(I:Inv X pins σ H s)(d:t6 X pins σ s.heap H a c g):∃ob,Inv X pins σ (upd H a (.bQ ob (.ext λ_=>True))) s/\ob.cls=.ref c/\ob.dict=g/\(∃vs,ob.data=.fields vs)/\H a=Pb:=by
 obtain⟨o,H0,b,un,ge,h,vs,f,k,hd,j,_⟩:=d;refine⟨h,I.uR (Qa b.sz ge) un (λz=>?_) (λx m e z=>?_) (λp i z=>?_) ⟨f,trivial,⟨_,f⟩,λ_ _ _ _=>trivial⟩,k,hd,⟨vs,j⟩,un⟩;.exact absurd (z▸b.lt) (Nat.not_lt.mpr ge)
 .obtain⟨n,l⟩:=b.cell x m e;exact absurd (z▸l.lt) (Nat.not_lt.mpr ge)
 .exact absurd (z▸Px (b.pin p i).1) (Nat.not_lt.mpr ge)
theorem Inv.landed{a c:Pg}{G:Option Pg}{M:T9}{A:P9}{Q:Unit->Pe->Prop}{E:O_->Pe->Prop}(I:Inv X pins σ H s)(v:t6 X pins σ s.heap H a c G)(q:∀s',Inv X pins σ H s'->t6 X pins σ s'.heap H a c G->Q () s'):wpAny M A (Vb (.ref a) Pb) Q E s:=by
 obtain⟨t,H0,i,un,ge,y,w,r,C,hd,n,u⟩:=v;rcases u with m|⟨T,S,J,m,l,f,k,D,h,L⟩
 .unfold Vb;refine O9 (VF r n m ?_);rw[if_neg (by decide)];exact Pf (q s I ⟨t,H0,i,un,ge,y,w,r,C,hd,n,.inl m⟩)
 .have j:3<J.size:=(Array.getElem?_eq_some_iff.mp L).1;refine wpAny_setFlight_none r n m D h j ?_;have d:∀b,b≠T->(s.heap.update T (RH (·.setIfInBounds 3 Qc))).get? b=s.heap.get? b:=λb hb=>Qs _ _ (Q9 hb);have g:∀{b:Pg},b<t.heap.objs.size->b≠T:=λhb z=>absurd (z▸hb) (Nat.not_lt.mpr f);have P:Inv X pins σ H {s with heap:=s.heap.update T (RH (·.setIfInBounds 3 Qc))}:=I.turned (t':=s.toks) (it:=T) (λb o hb e=>(d b hb).trans e) k (Q9 (g i.lt)) (.inr (Qa i.sz f)) (λx O e=>by obtain⟨R,N⟩:=i.cell x O e;exact g N.lt) (λp K=>g (Px (i.pin p K).1));exact q _ P ⟨t,H0,i,un,ge,y,w,(d a (Q9 l)).trans r,C,hd,n,.inr ⟨T,_,_,m,l,f,k,Qu _ D (Rw (QN h _)),QN h _,by simp[U0,j]⟩⟩
theorem Inv.CZ{i:Nat}{n:PX}{l:Ro}{M:T9}{A:P9}{Q:Unit->Pe->Prop}{E:O_->Pe->Prop}(I:Inv X pins σ H s)(hN:X.N.Nodup)(hi:X.N[i]?=O7 n)(T:X.env.scope.names.lookup n=O7 .local)(q:∀s',Inv X pins (σ.set i Pb) H s'->Q () s'):wpAny M A (do WR X.env n .none;Xd X.env n l) Q E s:=by
 obtain⟨m,V,W⟩:=id I.loc;have B:(X.env.scope.kind==.class||(X.env.scope.kind==.module&&X.env.locals !=X.env.globals))=Pc:=by rw[I.ok.kind];rfl
 refine wpAny_nameGoes_keeps T V B λh' v L f=>q _ ?_;have yr:=I.yr;have O:=I.free;have d:∀b o,X.bI.heap.get? b=O7 o->b≠X.env.locals:=λb o e=>P5 (PJ (Px e) I.ok.above);refine⟨I.ok,I.os,I.bare,⟨λb o e k hb a=>(f.2 b (d b o e)).trans (I.base.keep b o e k hb a),λb o e k hb a=>?_,I.base.free,λb o e a=>?_,I.base.ic,I.base.gR,I.base.ie⟩,⟨_,L,λj y w h g Y=>?_⟩,λx c e=>?_,I.free,I.cQ,λp U=>?_,λb ob e=>?_,?_⟩
 .obtain⟨P,h⟩:=I.base.slot b o e k hb a;exact⟨P,(f.2 b (d b o e)).trans h⟩
 .obtain⟨R,h⟩:=I.base.there b o e a;exact⟨R,(f.2 b (d b o e)).trans h⟩
 .have t:i≠j:=by
   rintro rfl;rw[Rl]at g;rw[if_pos rfl]at g;split at g<;>cases g
  rw[Rl,if_neg t]at g;have J:y≠n:=λz=>t (kS hN hi (z▸h));obtain⟨u,r,lk⟩:=W j y w h g Y;refine⟨u,r,?_⟩;rcases lk with⟨G,C⟩|⟨G,c,C,S⟩;.exact .inl ⟨G,(if_neg J).trans C⟩
  .obtain⟨o,K,hd⟩:=S;exact .inr ⟨G,c,C,o,(f.2 c (yr y c C)).trans K,hd⟩
 .obtain⟨w,o,K,hd⟩:=I.cell x c e;exact⟨w,o,(f.2 c (yr x c e)).trans K,hd⟩
 .obtain⟨e,k,ne,r⟩:=I.pin p U;exact⟨(f.2 p.1 ne).trans e,k,ne,r⟩
 .refine(I.aH b ob e).h_ (λc Z D z=>(f.2 c ?_).trans z) (λ_ z=>z) λ_ _ z=>z;rintro rfl;rcases D with rfl|D;.rw[O]at e;cases e
  .rw[O]at D;cases D
 .rw[Wx];exact I.len
end
inductive Hd where|slot(j:Nat)|cst(d:D)
noncomputable def Mt(h:Hd)(ρ:ag):Option D:=match h with
 |.slot j=>fO ρ j|.cst d=>O7 d
noncomputable def vp(i:Option Nat)(x:D)(ρ:ag):ag:=match i with
 |some i=>ρ.set i (O7 (.d x))|none=>ρ
noncomputable def Od(i:Option Nat)(ρ:ag):ag:=match i with
 |some i=>ρ.set i Pb|none=>ρ
noncomputable def rp(K:Pj)(P:Pg)(i:Option Nat)(y:Nat)(h:Hd)(x:Xc):M Fl:=match x.x with
 |.exc c nm=>do
  M.need (iF K c P=O7 Pa)let d<-M.get (Mt h (vp i (.exc c nm) x.en))pure (.nx (Od i ((vp i (.exc c nm) x.en).set y (O7 (.d d)))))|_=>M.fail
noncomputable def xD(m:M Fl)(h:Xc->M Fl):M Fl:=⟨λk Q E=>m.run k Q (λx a=>(h x).run a Q E),λz q e=>m.mono z q λx a y=>(h x).mono y q e⟩
section
variable{X:Cx}{F:Fx}{pins:List (Pg×Qx)}{σ:St}{H:Hp}{s s':Pe}
noncomputable abbrev Cx.as(X:Cx)(A:P9)(calm:Bool)(pn:List (Pg×Qx))(xe:O_->Pe->Prop):Cx:={X with A:=A,calm:=calm,pn:=pn,xe:=xe}
theorem Cx.Ok.as(h:X.Ok){A:P9}{calm:Bool}{pn:List (Pg×Qx)}{xe:O_->Pe->Prop}(a:A.frames=X.A.frames)(hd:calm=Pa->A.handled=Pb):(X.as A calm pn xe).Ok:=⟨h.mod,h.kind,h.glob,h.blt,h.above,h.inj,h.has,h.Fs,hd,a.trans h.frames,h.Jg,h.Mk,h.bs,h.BL,h.tq,h.wK,h.jI,h.Eu⟩
theorem Inv.as{A:P9}{calm:Bool}{pn pins':List (Pg×Qx)}{xe:O_->Pe->Prop}(I:Inv X pins σ H s)(b:A.frames=X.A.frames)(hd:calm=Pa->A.handled=Pb)(a:∀p∈pn++pins',p∈X.pn++pins):Inv (X.as A calm pn xe) pins' σ H s:=⟨I.ok.as b hd,I.os,I.bare,I.base,I.loc,I.cell,I.free,I.cQ,λp h=>I.pin p (a p h),I.aH,I.len⟩
theorem Inv.zQ{A:P9}{calm:Bool}{pn pins':List (Pg×Qx)}{xe:O_->Pe->Prop}(ok:X.Ok)(I:Inv (X.as A calm pn xe) pins' σ H s)(a:∀p∈X.pn++pins,p∈pn++pins'):Inv X pins σ H s:=⟨ok,I.os,I.bare,I.base,I.loc,I.cell,I.free,I.cQ,λp h=>I.pin p (a p h),I.aH,I.len⟩
theorem cg.unset{ρ:ag}{k:Nat}(S:cg F ρ k σ H)(i:Nat):cg F (ρ.set i Pb) k (σ.set i Pb) H where
 len:=by simp[S.len]
 at_:=λj x e=>by
  rw[Rl]at e⊢;by_cases h:i=j
  .subst h;rw[if_pos rfl]at e;split at e<;>cases e
  .rw[if_neg h]at e⊢;exact S.at_ j x e
 apart:=λg f x y u d b a m l c=>by
  rw[Rl]at b a c⊢;have n1:i≠g:=by
   rintro rfl;rw[if_pos rfl]at b;split at b<;>cases b
  have n2:i≠f:=by
   rintro rfl;rw[if_pos rfl]at a;split at a<;>cases a
  rw[if_neg n1]at b c;rw[if_neg n2]at a⊢;exact S.apart g f x y u d b a m l c
 live:=S.live;ext:=S.ext;kJ:=S.kJ
theorem GX{B:Fb}{a c:Pg}{h:Option Pg}{nm:List D}{ob:Qx}{u:HO}(b:a≠B.p)(e:H a=O7 (.bQ ob u))(g:ob.cls=.ref c)(hd:ob.dict=h)(f:∃vs,ob.data=.fields vs)(i:rh B H h nm):Is B H (.ref a) (.exc c nm):=by
 simp only[Is];match nm,i with
 |[],_=>exact⟨a,[],rfl,⟨b,ob,u,e,g,f⟩,.nil⟩|[d],⟨x,j,v,n,m,l,k⟩=>exact⟨a,[v],rfl,⟨b,ob,u,x,j,e,g,f,hd.trans n,m,l⟩,.cons k .nil⟩
end
section
variable{X:Cx}{F:Fx}{body:List RP}{tb:ag->M Fl}
theorem zR{cn n J:PX}{P:Pg}{np C pos yp ap:Ro}{i y:Nat}{hd:Hd}{ex:PC}(a9:X.stack=X.env::X.outer)(b3:X.env.frame=O7 X.env.locals)(hK:X.K=F.K)(hN:X.N.Nodup)(hc:X.calm=Pa)(hb:∀(xe:O_->Pe->Prop)(pn:List (Pg×Qx))(E':Xc->Nat->Prop)(Hs:Hp)(ks:Nat),Va (Py X.prog X.w) X.A X.env xe->yj (X.as X.A Pa pn xe) {F with E:=E',Hs:=Hs,ks:=ks}->xt (X.as X.A Pa pn xe) {F with E:=E',Hs:=Hs,ks:=ks} body tb)(hg:Gl X cn)(hm:X.mg cn=O7 (.ref P))(b6:(cn==("__debug__":PX))=Pc)(hi:X.N[i]?=O7 n)(V:X.env.scope.names.lookup n=O7 .local)(hy:X.N[y]?=O7 J)(b0:Loc X.env.scope J)(b2:X.fn J=Pa\/X.env.scope.names.lookup J=O7 .local)(a8:RW ex (O7 (.Name J yp)) ap.line X.env=pure Pc)(hex:∀(A:P9)(pn:List (Pg×Qx))(xe:O_->Pe->Prop),DE (X.as A Pc pn xe) F ex (λρ=>M.get (Mt hd ρ)))(he:X.env.kindOf n=O7 .local):DS X F (.Try body [.ExceptHandler (O7 (.Name cn np)) (O7 n) [.Assign [.Name J yp] ex ap] C] [] [] pos) (λρ=>xD (tb ρ) (rp X.K P (O7 i) y hd)):=by
 refine⟨hK,λg s σ H Z I⟨ρ,k,S,h⟩=>?_⟩;refine wpAny_Try_except ?_;have hA:X.A.handled=Pb:=I.ok.hd hc;let L:O_->Pe->Prop:=λe a4=>wpAny (Py X.prog X.w) X.A (Uc e X.env) (λ_ a3=>wpAny (Py X.prog X.w) X.A (Vb e Pb) (λ_ a2=>wpAny (Py X.prog X.w) X.A (handleBy e X.env [.ExceptHandler (O7 (.Name cn np)) (O7 n) [.Assign [.Name J yp] ex ap] C]) (SP X g Z) X.xe a2) X.xe a3) X.xe a4;have b9:yj (X.as X.A Pa (X.pn++g) L) {F with E:=λx u=>(rp X.K P (O7 i) y hd x).run u (xr F Z H k) F.E,Hs:=H,ks:=k}:=by
  intro pins' t R Q u T a c dx nm I' D c0 xn z;have l:∀{t:St}{Q:Hp}{T:Pe},Inv (X.as X.A Pa (X.pn++g) L) pins' t Q T->Inv X g t Q T:=λI'=>I'.zQ I.ok λp O=>Qk _ O;obtain⟨s0,H0,I0,fl⟩:=c0;have S2:cg F R u t Q:=⟨D.len,D.at_,D.apart,D.live,D.ext,S.kJ.trans D.kJ⟩;show wpAny (Py X.prog X.w) X.A (Uc (.ref a) X.env) _ X.xe T;refine(l I').KC a9 b3 ⟨s0,H0,l I0,fl⟩ λs3 I3 f3=>?_;obtain⟨a6,z⟩:=z;obtain⟨d,b7,z⟩:=M.run_get.mp z;have z:xr F Z H k (.nx (((R.set i (O7 (.d (.exc c nm)))).set y (O7 (.d d))).set i Pb)) u:=z;refine wpAny_handleBy_cons (codeAny_handlers_test ?_) (by intro q;cases q);have a5:(X.A.mark (O7 (.ref a))).frames=X.A.frames:=rfl;have I4:=I3.as (A:=X.A.mark (O7 (.ref a))) (calm:=Pc) (pn:=X.pn) (pins':=g) (xe:=λ_ _=>False) a5 (λq=>nomatch q) (λp O=>O);refine iU (X:=X.as (X.A.mark (O7 (.ref a))) Pc X.pn (λ_ _=>False)) I4 hg hm ?_ b6;obtain⟨d2,e2,e0,d0,d4,oe,vs,b4,b8,c9,d3,c8⟩:=id f3;refine rn I3.jH b4 b8 a6 ?_;rw[if_pos rfl];refine codeAny_handlers_suite_as ?_;refine I3.landed f3 λs5 I5 f5=>?_;obtain⟨ob,I6,o1,o2,o3,un⟩:=I5.hold f5;have ne:a≠F.p:=λe=>S2.live (e▸un);have ix:Is F.toFb (upd Q a (.bQ ob (.ext λ_=>True))) (.ref a) (.exc c nm):=GX ne ah o1 o2 o3 (xn.mono (Ext.new (k:=u) un).kp);have S6:=S2.mono (Ext.new (F:=F.toFb) (k:=u) (o:=.bQ ob (.ext λ_=>True)) un);have I7:=I6.as (A:=X.A.mark (O7 (.ref a))) (calm:=Pc) (pn:=X.pn) (pins':=g) (xe:=λ_ _=>False) a5 (λq=>nomatch q) (λp O=>O);refine fR (X:=X.as (X.A.mark (O7 (.ref a))) Pc X.pn (λ_ _=>False)) I7 hN hi (.inl V) (v:=.ref a) rfl (λs8 I8=>?_) (.inr V);have S8:=S6.set i ix;have c1:DS (X.as (X.A.mark (O7 (.ref a))) Pc X.pn (λ_ _=>False)) F (.Assign [.Name J yp] ex ap) _:=zx (X:=X.as (X.A.mark (O7 (.ref a))) Pc X.pn (λ_ _=>False)) y hN (hex _ _ _) hy b0 a8 b2;have run:=c1.ps g s8 _ _ ⟨λG Y=>∃k9,Kp F.toFb Q u Y k9/\cg F ((R.set i (O7 (.d (.exc c nm)))).set y (O7 (.d d))) k9 G Y/\k9=u,λ_ _=>False,λ_ _=>False,λ_ _=>False⟩ I8 ⟨_,u,S8,by
   refine M.run_get.mpr ⟨d,b7,?_⟩;exactλG Y e9 S9=>⟨u,((Ext.new (F:=F.toFb) (k:=u) (o:=.bQ ob (.ext λ_=>True)) un).kp).trans e9,S9,rfl⟩⟩;have go:wpAny (Py X.prog X.w) (X.A.mark (O7 (.ref a))) (execs [.Assign [.Name J yp] ex ap] X.env) (λf s9=>wpAny (Py X.prog X.w) X.A (do WR X.env n .none;Xd X.env n C) (λ_ a7=>SP X g Z f a7) X.xe s9) (λ_ _=>False) s8:=by
   refine O9 (QV run (λf s9 q9=>?_) λ_ _ q=>q);cases f with
   |next=>
    obtain⟨G,Y,I9,k9,e9,S9,rfl⟩:=q9;refine Pf ?_;have c3:Inv X g G Y s9:=I9.zQ I.ok λp O=>O;refine c3.CZ hN hi V λd1 c2=>⟨_,Y,c2,?_⟩;refine z _ Y ?_ (S9.unset i);exact⟨λb o hb st e=>e9.keep b o hb st (D.kJ.keep b o hb st e),λq=>e9.live (D.kJ.live q),Qa D.kJ.le e9.le,λq f=>e9.dO q (D.kJ.dO q f)⟩|ret v=>obtain⟨_,_,_,_,_,q⟩:=q9;exact q.elim|brk=>obtain⟨_,_,_,q⟩:=q9;exact q.elim|cont=>obtain⟨_,_,_,q⟩:=q9;exact q.elim
  exact QV go (λ_ _ q=>q) λ_ _ q=>q.elim
 have S0:cg {F with E:=λx u=>(rp X.K P (O7 i) y hd x).run u (xr F Z H k) F.E,Hs:=H,ks:=k} ρ k σ H:=⟨S.len,S.at_,S.apart,S.live,S.ext,.refl⟩;have pb:=(hb L (X.pn++g) _ H k PassesOwn.looking b9).ps [] s σ H Z (I.as rfl (λ_=>hA) (by simp)) ⟨ρ,k,S0,M.wk h λfl u q=>by cases fl with
  |nx a0=>exactλj B e1 m=>q j B e1 ⟨m.len,m.at_,m.apart,m.live,m.ext,S.kJ.trans m.kJ⟩|rt d=>exact q|bk a0=>exactλj B e1 m=>q j B e1 ⟨m.len,m.at_,m.apart,m.live,m.ext,S.kJ.trans m.kJ⟩|ct a0=>exactλj B e1 m=>q j B e1 ⟨m.len,m.at_,m.apart,m.live,m.ext,S.kJ.trans m.kJ⟩⟩;refine QV pb (λf s1 q=>?_) λ_ _ q=>q;have l:∀{t:St}{Q:Hp}{T:Pe},Inv (X.as X.A Pa (X.pn++g) L) [] t Q T->Inv X g t Q T:=λI'=>I'.zQ I.ok λp O=>Qk _ O;cases f with
 |next=>
  obtain⟨j,B,W,U⟩:=q;exact Pf ⟨j,B,l W,U⟩|ret v=>
  obtain⟨w,j,B,W,r,U⟩:=q;exact⟨w,j,B,l W,r,U⟩|brk=>
  obtain⟨j,B,W,U⟩:=q;exact⟨j,B,l W,U⟩|cont=>
  obtain⟨j,B,W,U⟩:=q;exact⟨j,B,l W,U⟩
end
noncomputable def GY:D->Bool
 |.int _=>Pa|_=>Pc
noncomputable def yk:D->Bool
 |.int _=>Pa|.str _=>Pa|_=>Pc
noncomputable def GZ:D->Bool
 |.tup a=>a.all yk|d=>yk d
noncomputable def pq:D->Bool
 |.tup a=>a.all GZ|_=>Pc
noncomputable def jf:D->D->Bool
 |.int i,.int j=>decide (i=j)|.str x,.str y=>decide (x=y)|_,_=>Pc
noncomputable def fY:List D->List D->Bool
 |[],[]=>Pa|x::b,y::a=>jf x y&&fY b a|_,_=>Pc
noncomputable def xE:D->D->Bool
 |.tup b,.tup a=>fY b a|x,y=>jf x y
noncomputable def jg:List D->List D->Bool
 |[],[]=>Pa|x::b,y::a=>xE x y&&jg b a|_,_=>Pc
noncomputable def fZ:D->D->Bool
 |.tup b,.tup a=>jg b a|x,y=>jf x y
noncomputable def t7(x:D):Prop:=∃k:Key,x=kD k
theorem ji{x:D}(h:yk x=Pa):∃k:Key,x=kD k:=by cases x<;>first|exact⟨.inl _,rfl⟩|exact⟨.inr _,rfl⟩|cases h
theorem nS:∀{xs:List D},xs.all yk=Pa->∃ks:List Key,xs=ks.map kD
 |[],_=>⟨[],rfl⟩|x::xs,h=>by
  rw[Sg,Pp]at h;obtain⟨k,rfl⟩:=ji h.1;obtain⟨ks,rfl⟩:=nS h.2;exact⟨k::ks,rfl⟩
theorem zS{x:D}(h:GZ x=Pa):∃k:NK,x=nD k:=by
 by_cases b:∃a,x=.tup a
 .obtain⟨a,rfl⟩:=b;obtain⟨ks,rfl⟩:=nS h;exact⟨.inr ks,rfl⟩
 .have h:yk x=Pa:=by cases x<;>first|exact h|exact absurd ⟨_,rfl⟩ b
  obtain⟨k,rfl⟩:=ji h;exact⟨.inl k,rfl⟩
theorem lN:∀{xs:List D},xs.all GZ=Pa->∃ks:List NK,xs=ks.map nD
 |[],_=>⟨[],rfl⟩|x::xs,h=>by
  rw[Sg,Pp]at h;obtain⟨k,rfl⟩:=zS h.1;obtain⟨ks,rfl⟩:=lN h.2;exact⟨k::ks,rfl⟩
theorem rq{x:D}(h:pq x=Pa):zJ x:=by cases x<;>first|(obtain⟨ks,rfl⟩:=lN h;exact⟨ks,rfl⟩)|cases h
theorem zT{l:List D}(h:l.all pq=Pa):∀x∈l,zJ x:=λx a=>rq (List.all_eq_true.mp h x a)
theorem vq{l:List D}(h:l.all yk=Pa):∀x∈l,t7 x:=λx a=>ji (List.all_eq_true.mp h x a)
theorem f_(a b:Key):jf (kD a) (kD b)=Pa↔a=b:=by cases a<;>cases b<;>simp[kD,jf]
theorem nT:∀(a b:List Key),fY (a.map kD) (b.map kD)=Pa↔a=b
 |[],[]=>by simp[fY]|[],_::_=>by simp[fY]|_::_,[]=>by simp[fY]|x::a,y::b=>by simp[fY,f_,nT a b]
theorem lP(a b:Key):fZ (kD a) (kD b)=decide (a=b):=by
 have:fZ (kD a) (kD b)=jf (kD a) (kD b):=by cases a<;>cases b<;>rfl
 rw[this,R_,f_,decide_eq_true_iff]
theorem C1(a b:NK):xE (nD a) (nD b)=Pa↔a=b:=by cases a with
 |inl a=>cases b with
  |inl b=>
   have:xE (nD (.inl a)) (nD (.inl b))=jf (kD a) (kD b):=by cases a<;>cases b<;>rfl
   rw[this,f_];simp|inr b=>
   have:xE (nD (.inl a)) (nD (.inr b))=Pc:=by cases a<;>rfl
   rw[this];simp
 |inr a=>cases b with
  |inl b=>
   have:xE (nD (.inr a)) (nD (.inl b))=Pc:=by cases b<;>rfl
   rw[this];simp|inr b=>
   show fY (a.map kD) (b.map kD)=Pa↔_;rw[nT];simp
theorem rz:∀(a b:List NK),jg (a.map nD) (b.map nD)=Pa↔a=b
 |[],[]=>by simp[jg]|[],_::_=>by simp[jg]|_::_,[]=>by simp[jg]|x::a,y::b=>by simp[jg,C1,rz a b]
theorem lQ(a b:List NK):fZ (.tup (a.map nD)) (.tup (b.map nD))=decide (a=b):=by
 show jg _ _=_;rw[R_,rz,decide_eq_true_iff]
noncomputable def aJ:List D->List D->D->Option D
 |k::ks,v::a,d=>if fZ k d then O7 v else aJ ks a d|_,_,_=>Pb
noncomputable def cw(ks:List D)(d:D):Bool:=ks.any λk=>fZ k d
section
variable{P:PF}{w:P0}{o:Qx}{us:List (Key×O_)}{xs:List (List NK×Pg×O_)}{hp:P7}{a:Pg}
theorem ja.at(h:ja P w o us)(e:hp.get? a=O7 o):hp.DictOf (aq P w) a us:=let⟨i,j,g,f,d,c,b⟩:=h;⟨o,i,j,e,g,f,d,c,b⟩
theorem ja.of(h:hp.DictOf (aq P w) a us):∃o,hp.get? a=O7 o/\ja P w o us:=let⟨o,i,j,e,g,f,d,c,b⟩:=h;⟨o,e,i,j,g,f,d,c,b⟩
theorem jO.at(h:jO P w o xs)(e:hp.get? a=O7 o)(k:∀x∈xs,(bR P w).is hp x.1 x.2.1):hp.DictOfH (bR P w) a xs:=let⟨g,i,f,d,c,b⟩:=h;⟨o,g,i,e,f,d,c,k,b⟩
theorem jO.of(h:hp.DictOfH (bR P w) a xs):∃o,hp.get? a=O7 o/\jO P w o xs:=let⟨o,g,i,e,f,d,c,_,b⟩:=h;⟨o,e,g,i,f,d,c,b⟩
theorem KD(h:ja P w o []):jO P w o []:=by
 obtain⟨c,f,e,d,i,b,g⟩:=h;refine⟨c,f,e,d,?_,.nil⟩;generalize c.toList=l at b;cases b;rfl
theorem KE(h:jO P w o []):ja P w o []:=by
 obtain⟨c,i,g,f,d,j⟩:=h;have e:c.toList=[]:=d;refine⟨c,i,g,f,λk b=>?_,by rw[e];exact .nil,.nil⟩;rw[<-UU,e]at b;exact nomatch b
theorem ja.pz(h:ja P w o us):∀v,o.data≠.cell v:=λv z=>by obtain⟨d,e,c,b,_⟩:=h;rw[b]at z;cases z
theorem jO.pz(h:jO P w o xs):∀v,o.data≠.cell v:=λv z=>by obtain⟨d,e,c,b,_⟩:=h;rw[b]at z;cases z
end
section
variable{B:Fb}{H:Hp}{o:Qx}{ks:List D}{vs:List V}
theorem bG.G2(h:bG B H o ks vs)(b:∀x∈ks,t7 x):∃(a:List (Key×V))(us:List (Key×O_)),KV a us/\ja B.P B.w o us/\ks=a.map (λx=>kD x.1)/\vs=a.map (·.2):=by
 rcases h.2 with h|⟨a,f,d,c,g,rfl,rfl⟩;.exact h
 .cases a with
  |nil=>cases d;exact⟨[],[],.nil,KE c,rfl,rfl⟩|cons x r=>
   obtain⟨k,e⟩:=b _ Pn;cases k<;>cases e
theorem bG.G5(h:bG B H o ks vs)(d:∀x∈ks,zJ x):∃(a:List (List NK×Pg×V))(xs:List (List NK×Pg×O_)),KA a xs/\jO B.P B.w o xs/\(∀x∈a,eV B H x.2.1 x.1)/\ks=a.map (λx=>D.tup (x.1.map nD))/\vs=a.map (·.2.2):=by
 rcases h.2 with⟨a,j,g,f,rfl,rfl⟩|h;.cases a with
  |nil=>cases g;exact⟨[],[],.nil,KD f,λx c=>(nomatch c),rfl,rfl⟩|cons x r=>
   obtain⟨k,e⟩:=d _ Pn;obtain⟨b,i⟩:=x;cases b<;>cases e
 .exact h
theorem nU{a:Type}[DecidableEq a]{k0 k:a}{v:V}{r:List (a×V)}:gU ((k0,v)::r) k=if k0=k then O7 v else gU r k:=by
 unfold gU;rw[S_];by_cases h:k0=k;.simp[h]
 .simp[h]
theorem vt{k:Key}{e:D}:∀{a:List (Key×V)}{ds:List D},af B H (a.map (·.2)) ds->aJ (a.map λx=>kD x.1) ds (kD k)=O7 e->∃v,gU a k=O7 v/\Is B H v e
 |[],ds,_,q=>by cases ds<;>cases q|(k0,c)::r,[],h,_=>by simp[af]at h|(k0,c)::r,d::ds,h,q=>by
  simp only[PY,af]at h;obtain⟨x,j,i,g,f⟩:=h;cases i;simp only[PY,aJ,lP]at q;rw[nU];by_cases b:k0=k
  .simp only[b,decide_true,if_true]at q⊢;cases q;exact⟨_,rfl,g⟩
  .simp only[b,decide_false,if_false]at q⊢;exact vt f q
theorem t8{k:Key}:∀(a:List (Key×V)),cw (a.map λx=>kD x.1) (kD k)=(gU a k).isSome
 |[]=>rfl|(k0,d)::r=>by
  have b:=t8 (k:=k) r;unfold cw at b⊢;rw[PY,SD,b,nU,lP];by_cases c:k0=k<;>simp[c]
theorem lR{k0 k:List NK}{p:Pg×O_}{r:List (List NK×Pg×O_)}:X7 ((k0,p)::r) k=if k0=k then O7 p else X7 r k:=by
 unfold X7;rw[S_];by_cases h:k0=k;.simp[h]
 .simp[h]
theorem vw{k:List NK}{e:D}:∀{a:List (List NK×Pg×V)}{xs:List (List NK×Pg×O_)}{ds:List D},KA a xs->af B H (a.map (·.2.2)) ds->aJ (a.map λx=>D.tup (x.1.map nD)) ds (.tup (k.map nD))=O7 e->∃p v,X7 xs k=O7 p/\RelV v p.2/\Is B H v e
 |[],_,ds,_,_,q=>by cases ds<;>cases q|_::_,_,[],_,h,_=>by simp[af]at h|(k0,w,n)::r,(u,b1,s)::xs,d::ds,.cons z t,h,q=>by
  obtain⟨c,g,b⟩:=z;simp only at c g b;subst c;simp only[PY,af]at h;obtain⟨x,m,l,j,i⟩:=h;cases l;simp only[PY,aJ,lQ]at q;rw[lR];by_cases f:k0=k
  .simp only[f,decide_true,if_true]at q⊢;cases q;exact⟨_,_,rfl,b,j⟩
  .simp only[f,decide_false,if_false]at q⊢;exact vw t i q
theorem xF{k:List NK}:∀{a:List (List NK×Pg×V)}{xs:List (List NK×Pg×O_)},KA a xs->cw (a.map λx=>D.tup (x.1.map nD)) (.tup (k.map nD))=(X7 xs k).isSome
 |[],_,.nil=>rfl|(k0,j,g)::r,(i,b1,h)::xs,.cons z t=>by
  obtain⟨b,f,e⟩:=z;simp only at b;subst b;have c:=xF (k:=k) t;unfold cw at c⊢;rw[PY,SD,c,lR,lQ];by_cases d:k0=k<;>simp[d]
end
section
variable{X:Cx}{F:Fx}{pins:List (Pg×Qx)}{σ:St}{H:Hp}{s:Pe}{a:Pg}{o:Qx}{ks ds:List D}{vs:List V}{d e:D}{x:V}{v:O_}{A:P9}{E:O_->Pe->Prop}
theorem xm.get(I:Inv X pins σ H s)(hK:X.K=F.K)(h:xm F.toFb H a o):s.heap.get? a=O7 o:=by
 obtain⟨_,_,⟨u,h⟩|h⟩:=h;.exact(I.aH a _ h).1
 .exact I.jH _ _ (by rw[hK];exact h)
theorem eE(I:Inv X pins σ H s)(hK:X.K=F.K):∀{b:List (List NK×Pg×V)}{xs:List (List NK×Pg×O_)},KA b xs->(∀x∈b,eV F.toFb H x.2.1 x.1)->∀x∈xs,(bR X.prog X.w).is s.heap x.1 x.2.1
 |_,_,.nil,_,x,c=>nomatch c|(k0,n,k)::r,(m,b1,l)::xs,.cons z t,h,x,c=>by
  obtain⟨g,f,j⟩:=z;simp only at g f;subst g f;rcases List.mem_cons.mp c with rfl|c;.exact eC I hK (h _ Pn)
  .exact eE I hK t (λy i=>h y (Po _ i)) x c
noncomputable def kinds(ks:List D)(d:D):Prop:=(∀x∈ks,t7 x)/\t7 d\/(∀x∈ks,zJ x)/\zJ d
theorem jj(h:bG F.toFb H o ks vs)(c:s.heap.get? a=O7 o):s.TypeIs (.ref a) "dict":=by
 rcases h.2 with⟨_,_,_,⟨f,g,b,_⟩,_⟩|⟨_,_,_,⟨f,g,b,_⟩,_⟩;.exact⟨o,c,b.1⟩
 .exact⟨o,c,b.1⟩
theorem C2{Q:O_->Pe->Prop}(hu:A.units+2<Q_)(I:Inv X pins σ H s)(hK:X.K=F.K)(hP:X.prog=F.P)(hw:X.w=F.w)(h:bG F.toFb H o ks vs)(z:s.heap.get? a=O7 o)(t:af F.toFb H vs ds)(i:Is F.toFb H x d)(r:RelV x v)(c:kinds ks d)(B:aJ ks ds d=O7 e)(q:∀y u s',Inv X pins σ H s'->RelV y u->Is F.toFb H y e->Q u s'):wpAny (Py X.prog X.w) A (YH (.ref a) v) Q E s:=by
 rcases c with⟨c,k,rfl⟩|⟨c,k,rfl⟩
 .obtain⟨g,C,L,ob,rfl,rfl⟩:=h.G2 c;rw[<-hP,<-hw]at ob;obtain⟨y,m,l⟩:=vt t B;have:=eY i;subst this;obtain⟨G,j,f⟩:=hZ.some_of (v:=y) (o:=UL C k) (by rw[<-m];exact L.val k);exact wpAny_getItem_of (fI r) (ob.at z).mapOf j (q y G _ (I.tok _) f l)
 .obtain⟨g,N,n,ob,tp,rfl,rfl⟩:=h.G5 c;rw[<-hP,<-hw]at ob;obtain⟨p,y,m,l,M⟩:=vw n t B;obtain⟨b,rfl,J⟩:=eV.of i;cases(show v=PQ b from r);exact wpAny_getItem_heap (dH hu) (eC I hK J) (ob.at z (eE I hK n tp)) m (q y _ _ (I.tok _) l M)
theorem G6{Q:O_->Pe->Prop}(hu:A.units+2<Q_)(I:Inv X pins σ H s)(hK:X.K=F.K)(hP:X.prog=F.P)(hw:X.w=F.w)(h:bG F.toFb H o ks vs)(l:s.heap.get? a=O7 o)(c:(a==Q8)=Pc)(i:Is F.toFb H x d)(r:RelV x v)(f:kinds ks d)(q:∀s',Inv X pins σ H s'->Q (.bool (cw ks d)) s'):wpAny (Py X.prog X.w) A (QB .In v (.ref a)) Q E s:=by
 rcases f with⟨f,k,rfl⟩|⟨f,k,rfl⟩
 .obtain⟨g,t,n,ob,rfl,rfl⟩:=h.G2 f;rw[<-hP,<-hw]at ob;have:=eY i;subst this;refine wpAny_in_of (fI r) c (ob.at l).mapOf ?_;rw[<-(n.val k).nF,<-t8];exact q _ (I.tok _)
 .obtain⟨g,p,j,ob,tp,rfl,rfl⟩:=h.G5 f;rw[<-hP,<-hw]at ob;obtain⟨b,rfl,m⟩:=eV.of i;cases(show v=PQ b from r);refine wpAny_in_heap (dH hu) (eC I hK m) c (ob.at l (eE I hK j tp)) ?_;rw[<-xF j];exact q _ (I.tok _)
theorem xG{Q:O_->Pe->Prop}(hu:A.units+2<Q_)(I:Inv X pins σ H s)(hK:X.K=F.K)(hP:X.prog=F.P)(hw:X.w=F.w)(h:bG F.toFb H o ks vs)(l:s.heap.get? a=O7 o)(c:(a==Q8)=Pc)(i:Is F.toFb H x d)(r:RelV x v)(f:kinds ks d)(q:∀s',Inv X pins σ H s'->Q (.bool (!cw ks d)) s'):wpAny (Py X.prog X.w) A (QB .NotIn v (.ref a)) Q E s:=by
 rcases f with⟨f,k,rfl⟩|⟨f,k,rfl⟩
 .obtain⟨g,t,n,ob,rfl,rfl⟩:=h.G2 f;rw[<-hP,<-hw]at ob;have:=eY i;subst this;refine wpAny_notIn_of (fI r) c (ob.at l).mapOf ?_;rw[<-(n.val k).nF,<-t8];exact q _ (I.tok _)
 .obtain⟨g,p,j,ob,tp,rfl,rfl⟩:=h.G5 f;rw[<-hP,<-hw]at ob;obtain⟨b,rfl,m⟩:=eV.of i;cases(show v=PQ b from r);refine wpAny_notIn_heap (dH hu) (eC I hK m) c (ob.at l (eE I hK j tp)) ?_;rw[<-xF j];exact q _ (I.tok _)
theorem zU(h:bG F.toFb H o ks vs):∃b c,o.ExactDict/\o.data=.dict b c/\b.size=ks.length/\(b.size:Int)<2^63:=by
 have g:=h.1;rw[Rg]at g;rcases h.2 with⟨f,l,m,⟨b,c,j,i,_,p,_⟩,rfl,_⟩|⟨f,k,n,⟨b,c,j,i,q,_⟩,_,rfl,_⟩
 .have:b.size=l.length:=by rw[<-p.length];simp
  have r:=Paired.length m;rw[Pk]at g;exact⟨b,c,j,i,by rw[Pk];omega,by omega⟩
 .have:b.size=k.length:=size_of_entries q;have r:=Paired.length n;rw[Pk]at g;exact⟨b,c,j,i,by rw[Pk];omega,by omega⟩
end
theorem Kp.own{B:Fb}{H:Hp}{k:Nat}{a:Pg}{u o':HO}(j:a≠B.p)(hu:H a=O7 u)(ns:u.nO=Pc):Kp B H k (upd H a o') k where
 keep:=λb o hb st e=>by
  by_cases c:b=a;.subst c;rw[hu]at e;cases e;rw[ns]at st;cases st
  .rw[ai c];exact e
 live:=λh=>by rw[ai (Q9 j)];exact h
 le:=Pq _;dO:=λq d=>by
  obtain⟨f,i,r,⟨v,⟨o,g⟩,t,s,n,m⟩,hi⟩:=d;have l:q≠a:=λz=>by rw[z,hu]at g;cases g;cases ns
  exact⟨f,i,r,⟨by rw[ai (Q9 j)];exact v,⟨o,by rw[ai l];exact g⟩,t,s,n,m⟩,hi⟩
section
variable{X:Cx}{F:Fx}{pins:List (Pg×Qx)}{σ:St}{H:Hp}{s:Pe}{ρ:ag}{k:Nat}
theorem cg.eG{i:Nat}{d:D}{a:Pg}{u o':HO}{w':W}(S:cg F ρ k σ H)(hi:ρ[i]?=O7 (O7 (.own d)))(hs:σ[i]?=O7 (O7 (.ref a)))(L:a≠F.p)(M:F.H0 a=Pb)(hu:H a=O7 u)(ns:u.nO=Pc)(hw:Jl F (upd H a o') k (.ref a) w'):cg F (ρ.set i (O7 w')) k σ (upd H a o'):=by
 have kp:Kp F.toFb H k (upd H a o') k:=Kp.own L hu ns;have K:i<ρ.length:=(List.getElem?_eq_some_iff.mp hi).1;refine⟨by simp[S.len],λj x e=>?_,λA w x y v c r n E C t=>?_,kp.live S.live,⟨λb o hb e=>?_,λh=>kp.live (S.ext.live h),S.ext.le,λq f=>kp.dO q (S.ext.dO q f)⟩,S.kJ.trans kp⟩
 .rw[Rl]at e;by_cases B:i=j
  .subst B;rw[if_pos rfl,if_pos K]at e;cases e;exact⟨_,hs,hw⟩
  .rw[if_neg B]at e;obtain⟨v,m,l⟩:=S.at_ j x e;refine⟨v,m,?_⟩;cases x with
   |d x=>exact Is.mono kp l|feed=>exact⟨l.1,kp.feed l.2⟩|own N=>
    obtain⟨b,rfl,J,I,G⟩:=l;have g:b≠a:=λz=>by
     subst z;exact S.apart i j _ _ _ B hi e rfl rfl hs m
    exact⟨b,rfl,J,I,G.keep kp λo e=>by rw[ai g];exact e⟩
 .rw[Rl]at r n;by_cases m:i=A
  .subst m;rw[if_neg c]at n;exact S.apart i w _ _ v c hi n rfl C t
  .rw[if_neg m]at r;by_cases l:i=w
   .subst l;exact S.apart A i _ _ v c r hi E rfl t
   .rw[if_neg l]at n;exact S.apart A w _ _ v c r n E C t
 .have g:b≠a:=λz=>by rw[z,M]at e;cases e
  rw[ai g];exact S.ext.keep b o hb e
noncomputable def KG:D->Bool
 |.aE _ _=>Pa|_=>Pc
structure KH(X:Cx)(F:Fx)(pins:List (Pg×Qx))(σ:St)(H:Hp)(s:Pe)(k:Nat)(a:Pg)(d:D)(u:HO)(o:Qx):Prop where
 hu:H a=O7 u
 ns:u.nO=Pc
 nt:∀xs,u≠.tup xs
 inv:Inv X pins σ (upd H a (.bQ o u)) s
 xH:Is F.toFb (upd H a (.bQ o u)) (.ref a) d
 n1:∀xs,X.ig a≠O7 (.tup xs)n2:∀ob v,X.ig a≠O7 (.bQ ob v)n3:∀ps,X.ig a≠O7 (.yg ps)nl:KG d=Pa->∀xs,u≠.lst xs
theorem jb.zV{d:D}{a:Pg}(I:Inv X pins σ H s)(h:jb F H a d):∃u o,KH X F pins σ H s k a d u o:=by
  obtain⟨g,B,h⟩:=h;have base:∀{u:HO},H a=O7 u->u.nO=Pc->(∀f,u≠.tup f)->(∀b v,u≠.bQ b v)->(∀ps,u≠.yg ps)->(∀f,X.ig a≠O7 (.tup f))/\(∀ob v,X.ig a≠O7 (.bQ ob v))/\∀ps,X.ig a≠O7 (.yg ps):=λ{u}hu ns nt q r=>⟨λf e=>by have:=I.base.ic a f e;rw[hu]at this;cases this;exact nt _ rfl,λob v e=>by have:=I.base.gR a ob v e;rw[hu]at this;cases this;exact q _ _ rfl,λps e=>by obtain⟨m,this⟩:=I.base.ie a ps e;rw[hu]at this;cases this;exact r _ rfl⟩;cases d with
  |lst y=>
    obtain⟨f,c,j⟩:=h;obtain⟨_,t,n,A,i⟩:=I.aH a _ c;obtain⟨b1,p,l⟩:=base c rfl (λ_ z=>nomatch z) (λ_ _ z=>nomatch z) (λ_ z=>nomatch z);refine⟨_,_,c,rfl,(λ_ z=>nomatch z),I.freeze c i (λ_ z=>nomatch z) (λ_ _ z=>nomatch z) (λ_ z=>nomatch z) (λ_ z=>nomatch z),?_,b1,p,l,λz=>nomatch z⟩;simp only[Is];exact⟨a,f,rfl,⟨g,_,ah⟩,j.mono (Kp.own (k:=k) g c rfl)⟩|aE ks y=>
    obtain⟨o,f,c,j,x,w⟩:=h;have i:s.heap.get? a=O7 o:=(I.aH a _ c).1;obtain⟨b1,p,l⟩:=base c rfl (λ_ z=>nomatch z) (λ_ _ z=>nomatch z) (λ_ z=>nomatch z);refine⟨_,o,c,rfl,(λ_ z=>nomatch z),I.freeze c i (λ_ z=>nomatch z) (λ_ _ z=>nomatch z) (λ_ z=>nomatch z) (λ_ z=>nomatch z),?_,b1,p,l,λ_ _ z=>nomatch z⟩;simp only[Is];exact⟨a,f,rfl,⟨o,⟨g,j,.inl ⟨_,ah⟩⟩,x.mono (Kp.own (k:=k) g c rfl)⟩,w.mono (Kp.own (k:=k) g c rfl)⟩|aM f=>
    obtain⟨o,c,j⟩:=h;have i:s.heap.get? a=O7 o:=(I.aH a _ c).1;obtain⟨b1,p,l⟩:=base c rfl (λ_ z=>nomatch z) (λ_ _ z=>nomatch z) (λ_ z=>nomatch z);refine⟨_,o,c,rfl,(λ_ z=>nomatch z),I.freeze c i (λ_ z=>nomatch z) (λ_ _ z=>nomatch z) (λ_ z=>nomatch z) (λ_ z=>nomatch z),?_,b1,p,l,λz=>nomatch z⟩;simp only[Is];exact⟨a,rfl,g,o,_,ah,j⟩|_=>exact h.elim
theorem Inv.jk{a:Pg}{o:Qx}{u:HO}(I:Inv X pins σ H s)(f:H a=O7 (.bQ o u))(n1:∀xs,X.ig a≠O7 (.tup xs))(n2:∀ob v,X.ig a≠O7 (.bQ ob v))(n3:∀ps,X.ig a≠O7 (.yg ps)):Inv X pins σ (upd H a u) s:=by
 have ne:∀{b:Pg},H b=Pb->b≠a:=λ{b}n z=>by rw[z,f]at n;cases n
 have tp:∀b xs,H b=O7 (.tup xs)->(upd H a u) b=O7 (.tup xs):=λb xs e=>by rw[ai (λz=>by rw[z,f]at e;cases e)];exact e
 have g:∀b x,H b=O7 (.own x)->(upd H a u) b=O7 (.own x):=λb x e=>by rw[ai (λz=>by rw[z,f]at e;cases e)];exact e
 refine⟨I.ok,I.os,I.bare,⟨I.base.keep,I.base.slot,λb ob e n h=>?_,I.base.there,λb xs e=>tp b xs (I.base.ic b xs e),λb ob v e=>?_,λb ps e=>?_⟩,I.loc,I.cell,?_,λx c e=>?_,λp i=>?_,λb v e=>?_,I.len⟩
 .have:=I.base.free b ob e n h;rw[ai (ne this)];exact this
 .have q:=I.base.gR b ob v e;rw[ai (λz=>by rw[z]at e;exact n2 _ _ e)];exact q
 .obtain⟨d,q⟩:=I.base.ie b ps e;exact⟨d,by rw[ai (λz=>by rw[z]at e;exact n3 _ e)];exact q⟩
 .rw[ai (ne I.free)];exact I.free
 .rw[ai (ne (I.cQ x c e))];exact I.cQ x c e
 .obtain⟨e,n,r⟩:=I.pin p i;exact⟨e,by rw[ai (ne n)];exact n,r⟩
 .by_cases hb:b=a
  .subst hb;rw[ah]at e;cases e;exact(I.aH b _ f).2.h_ (λ_ _ _ q=>q) (λc q=>g c _ q) tp
  .rw[ai hb]at e;exact(I.aH b v e).h_ (λ_ _ _ q=>q) (λc q=>g c _ q) tp
end
mutual
noncomputable def flat(l:Bool):D->Bool
 |.bH=>Pa|.bl _=>Pa|.int _=>Pa|.str _=>Pa|.tup a=>lS l a|.lst a=>l&&lS l a|_=>Pc
noncomputable def lS(l:Bool):List D->Bool
 |[]=>Pa|x::a=>flat l x&&lS l a
end
section
variable{B:Fb}{H:Hp}{a:Pg}{o:Qx}{u u':HO}
theorem TupAt.jk{b:Pg}{xs:List V}(d:H a=O7 (.bQ o u))(nt:∀xs,u≠.tup xs)(h:TupAt B H b xs):TupAt B (upd H a u') b xs:=by
 refine⟨h.1,?_⟩;rcases h.2 with(c|⟨e,c⟩)|c;.exact .inl (.inl (by rw[ai (λz=>by rw[z,d]at c;cases c)];exact c))
 .exact .inl (.inr ⟨e,by rw[ai (λz=>by rw[z,d]at c;cases c;exact nt _ rfl)];exact c⟩)
 .exact .inr c
mutual
theorem Is.jk(c:H a=O7 (.bQ o u)){l:Bool}(nt:∀xs,u≠.tup xs)(nl:l=Pa->∀xs,u≠.lst xs):∀{d:D}{v:V},flat l d=Pa->Is B H v d->Is B (upd H a u') v d
 |.bH,_,_,h=>by simp only[Is]at h⊢;exact h|.bl _,_,_,h=>by simp only[Is]at h⊢;exact h|.int _,_,_,h=>by simp only[Is]at h⊢;exact h|.str _,_,_,h=>by simp only[Is]at h⊢;exact h|.tup _,_,f,h=>by
  simp only[Is]at h⊢;simp only[flat]at f;obtain⟨b,xs,j,i,g⟩:=h;exact⟨b,xs,j,i.jk c nt,af.jk c nt nl f g⟩|.lst _,_,f,h=>by
  simp only[Is]at h⊢;simp only[flat,Pp]at f;obtain⟨b,xs,j,⟨i,k,e⟩,g⟩:=h;exact⟨b,xs,j,⟨i,k,by rw[ai (λz=>by rw[z,c]at e;cases e;exact nl f.1 _ rfl)];exact e⟩,af.jk c nt nl f.2 g⟩|.aE _ _,_,f,_=>by simp[flat]at f|.exc _ _,_,f,_=>by simp[flat]at f|.aM _,_,f,_=>by simp[flat]at f
theorem af.jk(b:H a=O7 (.bQ o u)){l:Bool}(nt:∀xs,u≠.tup xs)(nl:l=Pa->∀xs,u≠.lst xs):∀{ds:List D}{xs:List V},lS l ds=Pa->af B H xs ds->af B (upd H a u') xs ds
 |[],_,_,h=>by simp only[af]at h⊢;exact h|d::ds,_,f,h=>by
  simp only[af]at h⊢;simp only[lS,Pp]at f;obtain⟨x,c,i,g,e⟩:=h;exact⟨x,c,i,Is.jk b nt nl f.1 g,af.jk b nt nl f.2 e⟩
end
end
noncomputable def iG(ρ:ag)(i:Nat):Bool:=match ρ[i]? with
 |some (O7 (.own d))=>KG d|_=>Pc
noncomputable def tm(i:Nat)(ρ:ag):ag:=match ρ[i]? with
 |some (O7 (.own d))=>ρ.set i (O7 (.d d))|_=>ρ
section
variable{X:Cx}{F:Fx}{e:PC}{st:RP}
theorem pA{ρ:ag}{i:Nat}{d:D}(h:ρ[i]?=O7 (O7 (.own d))):tm i ρ=ρ.set i (O7 (.d d)):=by unfold tm;rw[h]
theorem t9{ρ:ag}{i:Nat}(h:∀d,ρ[i]?≠O7 (O7 (.own d))):tm i ρ=ρ:=by
 unfold tm;split;.rename_i d e;exact absurd e (h d)
 .rfl
theorem t_(ρ:ag)(i:Nat):(∃d,ρ[i]?=O7 (O7 (.own d)))\/∀d,ρ[i]?≠O7 (O7 (.own d)):=by
 by_cases h:∃d,ρ[i]?=O7 (O7 (.own d));.exact .inl h
 .exact .inr λd e=>h ⟨d,e⟩
theorem DS.fz(i:Nat){t:ag->M Fl}(h:DS X F st t):DS X F st (λρ=>t (tm i ρ)):=by
 refine⟨h.hK,λb s g H Z I⟨ρ,k,S,z⟩=>?_⟩;rcases t_ ρ i with⟨d,hi⟩|hi
 .obtain⟨v,j,a,rfl,f⟩:=S.at_ i _ hi;obtain⟨u,o,c⟩:=jb.zV (k:=k) I f;have l:=S.eG (w':=.d d) hi j f.1 f.2.1 c.hu c.ns c.xH;dsimp only at z;rw[pA hi]at z;exact h.ps b s g _ Z c.inv ⟨_,k,l,M.wk z λn m q=>q.mono (Kp.own f.1 c.hu c.ns)⟩
 .dsimp only at z;rw[t9 hi]at z;exact h.ps b s g H Z I ⟨ρ,k,S,z⟩
theorem Ext.jk{H m:Hp}{k k2:Nat}{a:Pg}{u:HO}{o:Qx}(h:a≠F.p)(hu:H a=O7 u)(ns:u.nO=Pc)(e:Ext F.toFb (upd H a (.bQ o u)) k m k2):Ext F.toFb H k (upd m a u) k2:=by
 have ha:m a=O7 (.bQ o u):=e.keep a _ h ah;have kp:Kp F.toFb H k (upd H a (.bQ o u)) k:=Kp.own h hu ns;refine⟨λb n hb q=>?_,λq=>by rw[ai (Q9 h)];exact e.live (kp.live q),e.le,λq f=>?_⟩
 .by_cases c:b=a;.subst c;rw[ah,<-hu];exact q
  .rw[ai c];exact e.keep b n hb (by rw[ai c];exact q)
 .have s:q≠a:=λz=>by
   obtain⟨_,_,_,g,_⟩:=f;obtain⟨d,j⟩:=g.cs;rw[z,hu]at j;cases j;cases ns
  obtain⟨l,i,r,⟨y,⟨d,j⟩,x,w,v,t⟩,hi⟩:=e.dO q (kp.dO q f);exact⟨l,i,r,⟨by rw[ai (Q9 h)];exact y,⟨d,by rw[ai s];exact j⟩,x,w,v,t⟩,hi⟩
theorem DE.iH(i:Nat){t:ag->M D}(h:DE X F e t):DE X F e (λρ=>do let d<-t (tm i ρ);M.need (flat (iG ρ i) d=Pa);pure d):=by
 refine⟨h.hK,λc s p H Q I⟨ρ,k,S,z⟩=>?_⟩;rcases t_ ρ i with⟨d,hi⟩|hi
 .obtain⟨v,A,a,rfl,j⟩:=S.at_ i _ hi;obtain⟨u,o,b⟩:=jb.zV (k:=k) I j;have C:=S.eG (w':=.d d) hi A j.1 j.2.1 b.hu b.ns b.xH;have z:(t (tm i ρ)).run k (λd f=>flat (iG ρ i) d=Pa/\qE F.toFb H k Q d f) F.E:=z;rw[pA hi]at z;refine bp (h.pe c s p _ (λv g=>∃m d,Ext F.toFb (upd H a (.bQ o u)) k g m/\Is F.toFb g v d/\flat (iG ρ i) d=Pa/\qE F.toFb H k Q d m) b.inv ⟨_,k,C,M.wk z λd f q v g e n=>⟨f,d,e,n,q.1,q.2⟩⟩) λv J l=>?_;obtain⟨x,g,G,w,m,K,r,n,B,y⟩:=l;have ha:g a=O7 (.bQ o u):=r.keep a _ j.1 ah;exact⟨x,upd g a u,G.jk ha b.n1 b.n2 b.n3,w,y x _ (r.jk j.1 b.hu b.ns) (Is.jk ha b.nt (λz=>b.nl (by unfold iG at z;rw[hi]at z;exact z)) B n)⟩
 .have z:(t (tm i ρ)).run k (λd f=>flat (iG ρ i) d=Pa/\qE F.toFb H k Q d f) F.E:=z;rw[t9 hi]at z;exact h.pe c s p H Q I ⟨ρ,k,S,M.wk z λd f q=>q.2⟩
theorem DT.iH(i:Nat){t:ag->M Bool}(h:DT X F e t):DT X F e (λρ=>t (tm i ρ)):=by
 refine⟨h.hK,λf s n H Q I⟨ρ,k,S,z⟩=>?_⟩;dsimp only at z;rcases t_ ρ i with⟨d,hi⟩|hi
 .obtain⟨v,x,a,rfl,g⟩:=S.at_ i _ hi;obtain⟨u,o,c⟩:=jb.zV (k:=k) I g;have y:=S.eG (w':=.d d) hi x g.1 g.2.1 c.hu c.ns c.xH;rw[pA hi]at z;refine bp (h.pt f s n _ (λb j=>∃m,Ext F.toFb (upd H a (.bQ o u)) k j m/\qT F.toFb H k Q b m) c.inv ⟨_,k,y,M.wk z λb w q j e=>⟨w,e,q⟩⟩) λb B l=>?_;obtain⟨j,A,m,p,r⟩:=l;have ha:j a=O7 (.bQ o u):=p.keep a _ g.1 ah;exact⟨upd j a u,A.jk ha c.n1 c.n2 c.n3,r _ (p.jk g.1 c.hu c.ns)⟩
 .rw[t9 hi]at z;exact h.pt f s n H Q I ⟨ρ,k,S,z⟩
end
section
variable{X:Cx}{F:Fx}
noncomputable def KI:D->D->M D
 |.aE ks a,d=>do M.need (kinds ks d);M.get (aJ ks a d)|_,_=>M.fail
theorem C3(hu:X.A.units+2<Q_)(hP:X.prog=F.P)(hw:X.w=F.w):Mr X F KI:=⟨λhK f g c s m H x y v u Q I J G h S=>by
 obtain⟨k,d,e,l,t,O,q⟩:=h;cases d with
 |aE ks ds=>
  obtain⟨T,q⟩:=q;obtain⟨z,V,U⟩:=M.run_get.mp q;simp only[Is]at t;obtain⟨a,Y,rfl,⟨o,L,D⟩,N⟩:=t;cases(show v=PQ a from J);have B:=L.get I hK;have key:=C2 (A:=X.A) (E:=X.xe) (Q:=λr p=>EP X c m Q r p) hu I hK hP hw D B N O G T V λn Z p W K R=>⟨n,H,W,K,U n H .refl R⟩;have C:=jj D B;unfold Xs;refine O9 ?_;rw[getitemInPython_of_ne C.not_modules];refine O9 (Ta C PySem.F.slot_dict_getitem.lookup ?_);have i:wpAny (Py X.prog X.w) X.A (Yj g Pc (.ref a) u) (λr b=>wpAny (Py X.prog X.w) X.A (letTemporaryGo f (.ref a) r>>=λ_=>pure r) (EP X c m Q) X.xe b) X.xe s:=by
   rw[S];exact wpAny_operating (QV key (λr b j=>O9 (wpAny_letTemporaryGo (Pf j))) λ_ _ x=>x)
  first
   |exact Pf (O9 i)|exact O9 (Pf (O9 i))|exact O9 i
 |_=>exact q.elim⟩
noncomputable def KJ(neg:Bool):D->D->M D
 |d,.aE ks _=>do M.need (kinds ks d);pure (.bl (if neg then !cw ks d else cw ks d))|_,_=>M.fail
theorem G7(hu:X.A.units+2<Q_)(hP:X.prog=F.P)(hw:X.w=F.w):gV X F (QB .In) (KJ Pc):=⟨λb s p H k x y v u d e Q I h g l hK i f q=>by cases e with
 |aE ks B=>
  obtain⟨j,q⟩:=q;simp only[Is]at f;obtain⟨a,r,rfl,⟨o,c,m⟩,z⟩:=f;cases(show u=PQ a from g);exact G6 hu I hK hP hw m (c.get I hK) c.2.1 i h j λt n=>⟨.bl (cw ks d),H,n,rfl,q _ H .refl (by simp only[Is];rfl)⟩|_=>exact q.elim⟩
theorem xI(hu:X.A.units+2<Q_)(hP:X.prog=F.P)(hw:X.w=F.w):gV X F (QB .NotIn) (KJ Pa):=⟨λb s p H k x y v u d e Q I h g l hK i f q=>by cases e with
 |aE ks B=>
  obtain⟨j,q⟩:=q;simp only[Is]at f;obtain⟨a,r,rfl,⟨o,c,m⟩,z⟩:=f;cases(show u=PQ a from g);exact xG hu I hK hP hw m (c.get I hK) c.2.1 i h j λt n=>⟨.bl (!cw ks d),H,n,rfl,q _ H .refl (by simp only[Is];rfl)⟩|_=>exact q.elim⟩
noncomputable def Nm(K:Pj)(H:Hp)(a:Pg)(o:Qx):Prop:=(∃u,H a=O7 (.bQ o u))\/K.lookup a=O7 o
noncomputable def OJ(K:Pj)(a:Pg)(o:Qx)(b:List V):It:=⟨λi H=>Nm K H a o/\i<b.length,λi H x c=>c=H/\b[i]?=O7 x,λi H=>Nm K H a o/\b.length<=i⟩
theorem ua{P:PF}{w:P0}{K:Pj}{tg:PC}{a it:Pg}{o:Qx}{f:List V}{l:Array Ub}{Q:Nat}(hd:o.data=.dict l Q)(t:ar f (l.toList.map (·.key)))(S:a≠it):Turn P w K tg (OJ K a o f) [it] it (λi h=>h.IsKeyIter it a i l.size Q)where
 mem:=by simp
 obj:=λi h st b hb=>by
  have e:b=it:=by simpa using hb
  subst e;obtain⟨o,e,c,d⟩:=st;exact⟨o,e,λv z=>by rw[d]at z;cases z⟩
 keep:=λi h r st k=>st.at λo e=>k it (by simp) o e;item:=by
  intro X hP hw hK O i j s L H E I q st B;obtain⟨g,hi⟩:=B;have T:f.length=l.size:=by simpa using t.length
  have A:s.heap.get? a=O7 o:=by
   rcases g with⟨u,g⟩|g;.exact(I.aH a _ g).1
   .exact I.jH _ _ (by rw[hK];exact g)
  obtain⟨x,N⟩:∃x,f[i]?=O7 x:=⟨f[i],by simp[hi]⟩;obtain⟨y,M,R⟩:=t.get N;have n:i<l.size:=by omega
  have W:y=l[i].key:=by
   rw[PV,QY,Pz n]at M;exact(Pm M).symm
  obtain⟨J,G,U,D,C,f5⟩:=q it (by simp);refine DictIt.u9 st A hd n λr m sb=>?_;have Z:Inv X j L H {s with heap:=r}:=I.turned (t':=s.toks) (λb o hb e=>(sb.2 b hb).trans e) J G D C f5;obtain⟨o',e,c,d⟩:=id m;exact⟨_,rfl,uM (s:={s with heap:=r}) e c d (by decide) ⟨x,H,Z,by rw[<-W];exact R,⟨rfl,N⟩,m,λb hb=>(q b hb).1⟩⟩
 done:=by
  intro X hP hw hK O i j s L H E I q st B;obtain⟨g,hi⟩:=B;have T:f.length=l.size:=by simpa using t.length
  have A:s.heap.get? a=O7 o:=by
   rcases g with⟨u,g⟩|g;.exact(I.aH a _ g).1
   .exact I.jH _ _ (by rw[hK];exact g)
  obtain⟨J,G,U,D,C,f5⟩:=q it (by simp);exact DictIt.y8 (I.ok.hd O) st A hd (by omega) λr Y=>⟨rfl,I.turned (t':=s.toks) (λb o hb e=>Y b o hb e) J G D C f5⟩
 self:=λ_ _ _ _ _ st h=>W9 st h
theorem nV{P:PF}{w:P0}:∀{a:List (List NK×Pg×V)}{xs:List (List NK×Pg×O_)},KA a xs->ar (a.map λx=>V.ref x.2.1) ((xs.map (Yn (bR P w))).map (·.key))
 |_,_,.nil=>.nil|_,_,.cons z t=>.cons (show PQ _=_ by rw[z.2.1]) (nV t)
theorem lT{B:Fb}{H:Hp}:∀{a:List (List NK×Pg×V)},(∀x∈a,eV B H x.2.1 x.1)->af B H (a.map λx=>V.ref x.2.1) (a.map λx=>D.tup (x.1.map nD))
 |[],_=>.nil|x::r,h=>.cons (h x Pn).is (lT λy b=>h y (Po _ b))
theorem lU{B:Fb}{H:Hp}:∀{a:List (Key×V)},af B H (a.map λx=>kV x.1) (a.map λx=>kD x.1)
 |[]=>.nil|(k,v)::ks=>.cons (by cases k<;>simp only[kD,kV,Is]) lU
theorem rA{H:Hp}{o:Qx}{ks:List D}{vs:List V}(h:bG F.toFb H o ks vs):∃a b c,o.ExactDict/\o.data=.dict b c/\ar a (b.toList.map (·.key))/\af F.toFb H a ks:=by
 rcases h.2 with⟨d,m,g,⟨b,c,f,e,_,j,_⟩,rfl,_⟩|⟨d,l,i,⟨b,c,f,e,k,_⟩,tp,rfl,_⟩;.exact⟨_,b,c,f,e,lD g j,lU⟩
 .exact⟨_,b,c,f,e,by rw[k];exact nV i,lT tp⟩
end
noncomputable def pB(X:Cx)(e:PC)(t:TE)(pins:List (Pg×Qx))(s:Pe)(σ:St)(H:Hp):Prop:=(∀Q,t σ H Q->wpAny (Py X.prog X.w) X.A (Rz e X.env) (EP X pins σ Q) X.xe s)/\∀(x:PX)(a b:Ro)(c:TG)(D:Ends),RW e (O7 (.Name x a)) b.line X.env=pure Pa->PG X (.Name x a) c->BV t c D σ H->wpAny (Py X.prog X.w) X.A (exec (.Assign [.Name x a] e b) X.env) (SP X pins D) X.xe s
structure DU(X:Cx)(F:Fx)(e:PC)(t:ag->M D):Prop where
 hK:X.K=F.K
 pu:∀pins s σ H,Inv X pins σ H s->pB X e (di F t) pins s σ H
section
variable{X:Cx}{F:Fx}{e:PC}{pins:List (Pg×Qx)}{s:Pe}{σ:St}{H:Hp}
theorem DU.de{t:ag->M D}(h:DU X F e t):DE X F e t:=⟨h.hK,λpins s σ H Q I q=>(h.pu pins s σ H I).1 Q q⟩
theorem DU.ref{t m:ag->M D}(h:DU X F e m)(r:∀ρ,Ref (t ρ) (m ρ)):DU X F e t:=⟨h.hK,λpins s σ H I=>⟨λQ⟨ρ,k,S,z⟩=>(h.pu pins s σ H I).1 Q ⟨ρ,k,S,r ρ _ _ _ z⟩,λx b a f D c d⟨ρ,k,S,z⟩=>(h.pu pins s σ H I).2 x b a f D c d ⟨ρ,k,S,r ρ _ _ _ z⟩⟩⟩
theorem pB.imp{t t':TE}(h:pB X e t pins s σ H)(q:∀Q,t' σ H Q->t σ H Q):pB X e t' pins s σ H:=⟨λQ z=>h.1 Q (q Q z),λx b a f D c d z=>h.2 x b a f D c d (q _ z)⟩
noncomputable def Nn(t:TE):TE:=λσ H Q=>t σ H λv c=>∃a b,v=.ref a/\c a=O7 (.lst b)/\∀o,Q v (upd c a (.bQ o (.lst b)))
theorem G8{tg:PC}{b:TG}(h:PG X tg b):PG X tg (λv σ H Q=>∃a xs,v=.ref a/\H a=O7 (.lst xs)/\∀o,b v σ (upd H a (.bQ o (.lst xs))) Q):=by
 intro pins s σ H v u Q I r⟨a,xs,e,ha,q⟩;obtain⟨_,c,n,f,d⟩:=I.aH a _ ha;exact h pins s σ _ v u Q (I.freeze ha d (λ_ z=>nomatch z) (λ_ _ z=>nomatch z) (λ_ z=>nomatch z) (λ_ z=>nomatch z)) r (q _)
theorem pB.bQ{t:TE}(I:Inv X pins σ H s)(h:pB X e t pins s σ H):pB X e (Nn t) pins s σ H:=by
 refine⟨λQ z=>?_,λx g f q D j l z=>h.2 x g f _ D j (G8 l) z⟩;refine bp (h.1 _ z) λu o b=>?_;obtain⟨v,w,c,r,a,m,e,ha,d⟩:=b;obtain⟨_,i,n,p,k⟩:=c.aH a _ ha;exact⟨v,_,c.freeze ha k (λ_ z=>nomatch z) (λ_ _ z=>nomatch z) (λ_ z=>nomatch z) (λ_ z=>nomatch z),r,d _⟩
theorem C4(i:Nat){x:PX}{a pos:Ro}{b:ag->M D}(hN:X.N.Nodup)(c:DU X F e b)(hi:X.N[i]?=O7 x)(g:Loc X.env.scope x)(hs:RW e (O7 (.Name x a)) pos.line X.env=pure Pa)(j:X.fn x=Pa\/X.env.scope.names.lookup x=O7 .local):DS X F (.Assign [.Name x a] e pos) (λρ=>do let d<-b ρ;pure (.nx (ρ.set i (O7 (.d d))))):=by
 refine⟨c.hK,λpins s σ H Z I⟨ρ,k,S,h⟩=>(c.pu pins s σ H I).2 x a pos (yu i) Z hs (uL (i:=i) hN hi g j) ?_⟩;refine di.next S h λd p v o m n f l=>?_;exact l _ o m.kp (n.set i f)
end
section
variable{X:Cx}{F:Fx}{elt tg iter tg2 iter2:PC}{ifs ifs2:List PC}{pos:Ro}{scope:RQ}{g g2:D->ag->M ag}{tc tc2:ag->M Bool}{te:ag->M D}{tI tI2:ag->M (List D)}
theorem zW(own fr:List PX)(js:List Nat)(d:X.calm=Pa)(u:nP X.env.scope scope=Pa)(y:js.map (λj=>X.N[j]?)=fr.map O7)(f:∀x∈fr,scope.names.lookup x=O7 .free)(n:js.Nodup)(hw:DI X F tg iter tI)(A:∀pins cl C b s H,DG (ee X pins scope (own++fr) cl C b s H) F tg g)(hi:∀pins cl C b s H,lE (ee X pins scope (own++fr) cl C b s H) F ifs tc)(B:∀pins cl C b s H,DE (ee X pins scope (own++fr) cl C b s H) F elt te)(hs:∀x,R3 iter X.env x=pure x):DU X F (.ListComp elt [⟨tg,iter,ifs,0⟩] scope pos) (λρ=>do let ds<-tI ρ;let r<-nQ g tc te ds (eW ρ own.length js);pure (.lst r)):=by
  refine⟨hw.hK,λpins s i H I=>?_⟩;obtain⟨cl,c⟩:=zD I.ok u;have P:pB X (.ListComp elt [⟨tg,iter,ifs,0⟩] scope pos) (vg own.length js (Ni F tI) (Kn F g) (qW F tc) (lq (di F te)) [] .lst) pins s i H:=⟨λQ z=>vh (ok:=Mq) (ob0:={cls:=.type "list",dict:=Pb,data:=.seq ([]:List O_).toArray}) (newAcc:=newObj (.type "list") (.seq #[])) (o:=HO.lst) (a0:=[]) (rd:=lq (di F te)) (body:=λD env=>do let _<-call (.builtin "list.append") [.ref D,<-Rz elt env]) d c y f hw.pi rfl rfl (gH rfl rfl) (λh=>Q6 h) (λa ob v⟨_,_,_,_,e⟩z=>by rw[e]at z;cases z) ⟨Qb _,[],_,.nil,rfl⟩ (λz=>nomatch z) (λ_ _ _=>rfl) (λ_ _ _=>rfl) (λ_ _ _=>rfl) (λpins cs C b s H=>(A pins cs C b s H).pg) (λpins cs C b s H=>(hi pins cs C b s H).pi) (λpins cs C b s H D o=>nJ o (B pins cs C b s H).pe) q_ hs pins s i H Q I z,λx U T Y D m t z=>vi (ok:=Mq) (ob0:={cls:=.type "list",dict:=Pb,data:=.seq ([]:List O_).toArray}) (newAcc:=newObj (.type "list") (.seq #[])) (o:=HO.lst) (a0:=[]) (rd:=lq (di F te)) (body:=λD env=>do let _<-call (.builtin "list.append") [.ref D,<-Rz elt env]) d c y f hw.pi (λ_=>rfl) rfl (gH rfl rfl) (λh=>Q6 h) (λa ob v⟨_,_,_,_,e⟩z=>by rw[e]at z;cases z) ⟨Qb _,[],_,.nil,rfl⟩ (λz=>nomatch z) (λ_ _ _=>rfl) (λ_ _ _=>rfl) (λ_ _ _=>rfl) (λpins cs C b s H=>(A pins cs C b s H).pg) (λpins cs C b s H=>(hi pins cs C b s H).pi) (λpins cs C b s H D o=>nJ o (B pins cs C b s H).pe) q_ hs pins s i H x U T Y D I m t z⟩;refine(P.bQ I).imp λQ l=>?_;obtain⟨ρ,k,S,h⟩:=l;refine⟨ρ,k,S,M.wk h λds k1 q J H1 G it=>?_⟩;have K:=(S.mono G).ee own.length n;refine CS it K q λO Z L H' V E W R hz p w _=>⟨p,O,rfl,ah,λo=>?_⟩;rw[bF];exact R _ _ ((G.trans E).trans (.new w)) (cR (k:=V) (E.live K.live) w W)
end
noncomputable def eI:List D->List D->D->D->List D
 |k::ks,v::a,d,e=>(if fZ k d then e else v)::eI ks a d e|_,_,_,_=>[]
noncomputable def putD(ks ds:List D)(d e:D):List D×List D:=if cw ks d then(ks,eI ks ds d e)else(ks++[d],ds++[e])
section
variable{B:Fb}{H:Hp}
theorem EM{k:Key}{y:V}{e:D}(f:Is B H y e):∀{a:List (Key×V)}{ds:List D},af B H (a.map (·.2)) ds->af B H ((a.map λb=>if b.1=k then(b.1,y)else b).map (·.2)) (eI (a.map λx=>kD x.1) ds (kD k) e)
 |[],ds,h=>by cases ds<;>exact .nil|(k0,i)::r,[],h=>by simp[af]at h|(k0,i)::r,d::ds,h=>by
  simp only[PY,af]at h;obtain⟨x,n,m,l,j⟩:=h;cases m;have c:=EM (k:=k) f j;simp only[PY,eI,lP];by_cases g:k0=k
  .simp only[g,decide_true,if_true];exact .cons f c
  .simp only[g,decide_false,if_false];exact .cons l c
theorem EN{k:List NK}{y:V}{e:D}(c:Is B H y e):∀{a:List (List NK×Pg×V)}{ds:List D},af B H (a.map (·.2.2)) ds->af B H ((a.map λx=>if x.1=k then(x.1,x.2.1,y)else x).map (·.2.2)) (eI (a.map λx=>D.tup (x.1.map nD)) ds (.tup (k.map nD)) e)
 |[],ds,h=>by cases ds<;>exact .nil|(k0,m,g)::r,[],h=>by simp[af]at h|(k0,m,g)::r,d::ds,h=>by
  simp only[PY,af]at h;obtain⟨x,n,l,j,i⟩:=h;cases l;have b:=EN (k:=k) c i;simp only[PY,eI,lQ];by_cases f:k0=k
  .simp only[f,decide_true,if_true];exact .cons c b
  .simp only[f,decide_false,if_false];exact .cons j b
theorem KA.B_{k:List NK}{y:V}{u:O_}(r:RelV y u):∀{a:List (List NK×Pg×V)}{xs:List (List NK×Pg×O_)},KA a xs->KA (a.map λx=>if x.1=k then(x.1,x.2.1,y)else x) (xs.map (putAt k u))
 |_,_,.nil=>.nil|(k0,j,f)::h,(i,b1,g)::xs,.cons z t=>by
  obtain⟨d,c,b⟩:=z;simp only at d c b;subst d c;refine .cons ?_ (KA.B_ r t);by_cases e:k0=k;.simp only[e,if_true,putAt];exact⟨trivial,trivial,r⟩
  .simp only[e,if_false,putAt];exact⟨trivial,trivial,b⟩
end
section
variable{X:Cx}{F:Fx}{pins:List (Pg×Qx)}{σ:St}{H:Hp}{s:Pe}{a:Pg}{o:Qx}{ks ds:List D}{vs:List V}{d e:D}{x y:V}{v r:O_}{A:P9}{E:O_->Pe->Prop}
noncomputable def rB(F:Fx)(H:Hp)(ks ds:List D)(d e:D)(o':Qx):Prop:=(∃b,bG F.toFb H o' (putD ks ds d e).1 b/\af F.toFb H b (putD ks ds d e).2)/\∀v,o'.data≠.cell v
theorem vz{b:List (Key×V)}{us:List (Key×O_)}{k:Key}{o':Qx}(h:KV b us)(i:b.length<Pl)(f:af F.toFb H (b.map (·.2)) ds)(c:Is F.toFb H y e)(g:RelV y r)(ob:ja F.P F.w o' (stored us k r)):rB F H (b.map λx=>kD x.1) ds (kD k) e o':=by
 refine⟨⟨(putK b k y).map (·.2),⟨?_,.inl ⟨putK b k y,_,h.put k g,ob,?_,rfl⟩⟩,?_⟩,ob.pz⟩
 .unfold putD;split;.simp;omega
  .simp;omega
 .unfold putD putK;rw[t8,<-lb];split
  .rw[Rk];refine Se λx _=>?_;simp only[Xn];split<;>rfl
  .simp
 .unfold putD putK;rw[t8,<-lb];split;.exact EM c f
  .rw[Qm];exact f.append (.cons c .nil)
theorem vA{c:List (List NK×Pg×V)}{xs:List (List NK×Pg×O_)}{k:List NK}{b:Pg}{o':Qx}(g:KA c xs)(p:c.length<Pl)(n:af F.toFb H (c.map (·.2.2)) ds)(tp:∀x∈c,eV F.toFb H x.2.1 x.1)(t:eV F.toFb H b k)(m:Is F.toFb H y e)(l:RelV y r)(ob:jO F.P F.w o' (Ym xs k b r)):rB F H (c.map λx=>D.tup (x.1.map nD)) ds (.tup (k.map nD)) e o':=by
 have q:=xF (k:=k) g;by_cases f:(X7 xs k).isSome=Pa
 .have j:Ym xs k b r=xs.map (putAt k r):=by unfold Ym;rw[if_pos f]
  have i:putD (c.map λx=>D.tup (x.1.map nD)) ds (.tup (k.map nD)) e=(c.map λx=>D.tup (x.1.map nD),eI (c.map λx=>D.tup (x.1.map nD)) ds (.tup (k.map nD)) e):=by unfold putD;rw[q,if_pos f]
  rw[j]at ob;refine⟨?_,ob.pz⟩;rw[i];refine⟨_,⟨by simp;omega,.inr ⟨c.map λx=>if x.1=k then(x.1,x.2.1,y)else x,_,KA.B_ l g,ob,λx h=>?_,?_,rfl⟩⟩,EN m n⟩
  .obtain⟨z,p,rfl⟩:=List.mem_map.mp h;split<;>exact tp z p
  .rw[Rk];refine Se λx _=>?_;simp only[Xn];split<;>rfl
 .have j:Ym xs k b r=xs++[(k,b,r)]:=by unfold Ym;rw[if_neg f]
  have i:putD (c.map λx=>D.tup (x.1.map nD)) ds (.tup (k.map nD)) e=(c.map (λx=>D.tup (x.1.map nD))++[.tup (k.map nD)],ds++[e]):=by unfold putD;rw[q,if_neg f]
  rw[j]at ob;refine⟨?_,ob.pz⟩;rw[i];refine⟨_,⟨by simp;omega,.inr ⟨c++[(k,b,y)],_,Paired.snoc g ⟨rfl,rfl,l⟩,ob,λx h=>?_,by simp,rfl⟩⟩,by rw[Qm];exact n.append (.cons m .nil)⟩;rcases List.mem_append.mp h with z|z;.exact tp x z
  .rw[List.mem_singleton.mp z];exact t
theorem vB{Q:Unit->Pe->Prop}(hu:A.units+1<Q_)(I:Inv X pins σ H s)(hK:X.K=F.K)(hP:X.prog=F.P)(hw:X.w=F.w)(h:bG F.toFb H o ks vs)(J:s.heap.get? a=O7 o)(G:af F.toFb H vs ds)(i:Is F.toFb H x d)(z:RelV x v)(C:Is F.toFb H y e)(u:RelV y r)(g:kinds ks d)(j:ks.length<Pl)(q:∀h' o' L,Ri a s.heap h'->h'.get? a=O7 o'->rB F H ks ds d e o'->Q () {s with heap:=h',toks:=L}):wpAny (Py X.prog X.w) A (dictSet a v r) Q E s:=by
 rcases g with⟨g,k,rfl⟩|⟨g,k,rfl⟩
 .obtain⟨l,N,B,ob,rfl,rfl⟩:=h.G2 g;rw[<-hP,<-hw]at ob;have:=eY i;subst this;rw[Pk]at j;refine wpAny_dictSet_pairs (hsz:=by rw[<-Paired.length B];omega) (fI z) (ob.at J) λh' f n=>?_;obtain⟨o',p,c⟩:=ja.of f;exact q h' o' _ n p (vz B j G C u (by rw[<-hP,<-hw];exact c))
 .obtain⟨l,M,m,ob,tp,rfl,rfl⟩:=h.G5 g;rw[<-hP,<-hw]at ob;obtain⟨b,rfl,t⟩:=eV.of i;cases(show v=PQ b from z);rw[Pk]at j;refine wpAny_dictSet_heap (hsz:=by rw[<-Paired.length m];omega) (show(bR X.prog X.w).room A from hu) (eC I hK t) (ob.at J (eE I hK m tp)) λh' f n=>?_;obtain⟨o',p,c⟩:=jO.of f;exact q h' o' _ n p (vA m j G tp t C u (by rw[<-hP,<-hw];exact c))
theorem rC{Q:Unit->Pe->Prop}(hu:A.units+2<Q_)(I:Inv X pins σ H s)(hK:X.K=F.K)(hP:X.prog=F.P)(hw:X.w=F.w)(h:bG F.toFb H o ks vs)(J:s.heap.get? a=O7 o)(G:af F.toFb H vs ds)(i:Is F.toFb H x d)(z:RelV x v)(C:Is F.toFb H y e)(u:RelV y r)(g:kinds ks d)(j:ks.length<Pl)(q:∀h' o' L,Ri a s.heap h'->h'.get? a=O7 o'->rB F H ks ds d e o'->Q () {s with heap:=h',toks:=L}):wpAny (Py X.prog X.w) A (setItem (.ref a) v r) Q E s:=by
 rcases g with⟨g,k,rfl⟩|⟨g,k,rfl⟩
 .obtain⟨l,N,B,ob,rfl,rfl⟩:=h.G2 g;rw[<-hP,<-hw]at ob;have:=eY i;subst this;rw[Pk]at j;refine wpAny_setItem_pairs (hsz:=by rw[<-Paired.length B];omega) (fI z) (ob.at J) λh' f n=>?_;obtain⟨o',p,c⟩:=ja.of f;exact q h' o' _ n p (vz B j G C u (by rw[<-hP,<-hw];exact c))
 .obtain⟨l,M,m,ob,tp,rfl,rfl⟩:=h.G5 g;rw[<-hP,<-hw]at ob;obtain⟨b,rfl,t⟩:=eV.of i;cases(show v=PQ b from z);rw[Pk]at j;refine wpAny_setItem_heap (hsz:=by rw[<-Paired.length m];omega) (dH hu) (eC I hK t) (ob.at J (eE I hK m tp)) λh' f n=>?_;obtain⟨o',p,c⟩:=jO.of f;exact q h' o' _ n p (vA m j G tp t C u (by rw[<-hP,<-hw];exact c))
end
theorem lB.va{B:Fb}{H:Hp}{a:Pg}{d:D}(h:lB B H a d):∃u,H a=O7 u:=by cases d with
 |lst e=>obtain⟨c,b,f⟩:=h;exact⟨_,b⟩|aE ks e=>obtain⟨o,c,b,_⟩:=h;exact⟨_,b⟩|aM c=>obtain⟨o,b,_⟩:=h;exact⟨_,b⟩|_=>exact h.elim
section
variable{X:Cx}{F:Fx}{σ:St}{H:Hp}{ρ:ag}{k:Nat}
theorem cg.jm{p:Pg}{o':HO}{d:D}(S:cg F ρ k σ H)(i:Nat)(m:H p=Pb)(h:lB F.toFb (upd H p o') p d):cg F (ρ.set i (O7 (.own d))) k (σ.set i (O7 (.ref p))) (upd H p o'):=by
 have s:=S.mono (Ext.new (F:=F.toFb) (k:=k) (o:=o') m);have ne:p≠F.p:=iB S.live m;have G:F.H0 p=Pb:=by cases e:F.H0 p with
  |none=>rfl|some o=>have:=S.ext.keep p o ne e;rw[m]at this;cases this
 have g:∀{j:Nat}{y:W},ρ[j]?=O7 (O7 y)->y.ze=Pa->σ[j]?≠O7 (O7 (.ref p)):=λ{j y}e o z=>by
  obtain⟨v,f,n⟩:=S.at_ j y e;rw[z]at f;cases f;cases y with
  |own J=>
   obtain⟨b,I,_,_,q⟩:=n;cases I;obtain⟨u,q⟩:=q.va;rw[m]at q;cases q|_=>cases o
 refine⟨by simp[S.len],λj x e=>?_,λB A x y v c r l w t a=>?_,s.live,s.ext,s.kJ⟩
 .rw[Rl]at e⊢;by_cases C:i=j
  .subst C;rw[if_pos rfl]at e⊢;split at e
   .rename_i E;cases e;rw[if_pos (by rw[<-S.len];exact E)];exact⟨_,rfl,p,rfl,ne,G,h⟩
   .cases e
  .rw[if_neg C]at e⊢;exact s.at_ j x e
 .rw[Rl]at r l a⊢;by_cases f:i=B
  .subst f;rw[if_pos rfl]at a;rw[if_neg c]at l⊢;split at a;.cases a;exact g l t
   .cases a
  .rw[if_neg f]at r a;by_cases n:i=A
   .subst n;rw[if_pos rfl];split;.intro z;cases z;exact g r w a
    .exactλz=>nomatch z
   .rw[if_neg n]at l⊢;exact S.apart B A x y v c r l w t a
end
section
variable{X:Cx}{F:Fx}{e:PC}{es:List PC}{tas:ag->M (List A)}{ta tk:ag->M D}{pos pos' lp:Ro}{x:PX}
theorem C8(i:Nat)(hN:X.N.Nodup)(ha:DA X F es tas)(hi:X.N[i]?=O7 x)(m:Loc X.env.scope x)(n:X.fn x=Pa\/X.env.scope.names.lookup x=O7 .local):DS X F (.Assign [.Name x pos'] (.List es lp) pos) (λρ=>do let ds<-iD (<-tas ρ);M.need (ds.length<=Pl);pure (.nx (ρ.set i (O7 (.own (.lst ds)))))):=⟨ha.hK,(bV (i:=i) hN hi m (tE ha.pa) rfl n).imp λZ s H a=>by
  obtain⟨ρ,k,S,h⟩:=a;refine qY.next S h λas g f t q r j o=>?_;obtain⟨ds,rfl,c⟩:=bS o;obtain⟨l,c⟩:=c;have d:=bT j;refine⟨by rw[d.length];exact l,λp b=>?_⟩;exact c _ _ (q.trans (.new b)).kp (r.jm i b ⟨f,ah,d.mono (Ext.new (k:=g) b).kp⟩)⟩
noncomputable def dB:Qx:={cls:=.type "dict",dict:=Pb,data:=.dict #[]}
theorem nW{B:Fb}{H:Hp}:bG B H dB [] []:=⟨Qb _,.inl ⟨[],[],.nil,⟨#[],0,⟨rfl,rfl,rfl⟩,rfl,λe a=>by simp at a,.nil,.nil⟩,rfl,rfl⟩⟩
theorem lV{P:PF}{w:P0}{H:Hp}{h:P7}{a:Pg}{o:Qx}(e:h.get? a=O7 o):aX P w H h a (fV a o):=⟨e,⟨o,e⟩,λc b q st=>st _ q⟩
theorem C9(i:Nat)(hN:X.N.Nodup)(hK:X.K=F.K)(hi:X.N[i]?=O7 x)(g:Loc X.env.scope x)(j:X.fn x=Pa\/X.env.scope.names.lookup x=O7 .local):DS X F (.Assign [.Name x pos'] (.Dict [] [] lp) pos) (λρ=>pure (.nx (ρ.set i (O7 (.own (.aE [] [])))))):=by
 have pe:PE X (.Dict [] [] lp) (λ_ H Q=>∀p,H p=Pb->(p==Q8)=Pc->Q (.ref p) (upd H p (fV p dB))):=λc s f H Q I h=>wpAny_Dict_empty ⟨.ref s.heap.objs.size,_,I.laid (a:=s.heap.objs.size) (o:=fV s.heap.objs.size dB) (t':=s.toks) (λ_ _ q=>Ph _ q) (Pq _) (lV (PR _ rfl)),rfl,h _ (I.aH.fresh (Pq _)) (beq_eq_false_iff_ne.mpr (Q9 (P5 I.Ca)))⟩;exact⟨hK,(bV (i:=i) hN hi g pe rfl j).imp λZ f H⟨ρ,k,S,h⟩p d b=>h _ _ (Ext.new (k:=k) d).kp (S.jm i d ⟨_,[],ah,b,nW,.nil⟩)⟩
noncomputable def gb(ρ:ag)(i:Nat):Option D:=match ρ[i]? with
 |some (O7 (.own d))=>O7 d|_=>Pb
theorem cJ{ρ:ag}{i:Nat}{d:D}(h:gb ρ i=O7 d):ρ[i]?=O7 (O7 (.own d)):=by
 unfold gb at h;split at h;.rename_i y e;cases h;exact e
 .cases h
noncomputable def lW:D->M (List D)
 |.lst a=>pure a|_=>M.fail
theorem fc{d:D}{k Q E}(h:(lW d).run k Q E):∃xs,d=.lst xs/\Q xs k:=by cases d with
 |lst xs=>exact⟨xs,rfl,h⟩|_=>exact h.elim
theorem G9(i:Nat){np p o:Ro}(hi:X.N[i]?=O7 x)(z:s_ X.env.scope x)(hd:(x==("__debug__":PX))=Pc)(l:(x==("__classdict__":PX))=Pc)(ha:DE X F e ta)(B:(p.endLine==o.line)=Pa)(hs:PL [e] X.env=(Pc,Rz e X.env)::PL [] X.env):DS X F (.Expr (.Call (.Attribute (.Name x np) "append" p) [e] [] o) pos) (λρ=>do
   let ds<-lW (<-M.get (gb ρ i))let d<-ta ρ;M.need (ds.length<Pl)pure (.nx (ρ.set i (O7 (.own (.lst (ds++[d]))))))):=by
 have pe:=ED (X:=X) (name:="append") (apos:=p) (cpos:=o) Ud PySem.F.slot_list_append (by rfl) wY (dg (pos:=np) hi z hd l) (be ha.pe dh hs) rfl (by rw[hs];rfl) B hs rfl;refine⟨ha.hK,(oM pe rfl).imp λZ E H⟨ρ,k,S,h⟩=>?_⟩;obtain⟨G,s,h⟩:=M.run_get.mp h;obtain⟨ds,rfl,h⟩:=fc h;obtain⟨v,g,a,rfl,b⟩:=S.at_ i _ (cJ s);obtain⟨j,r,ix⟩:=b.2.2;refine⟨_,g,.inl ⟨rfl,j,.inl (.inl r)⟩,?_⟩;refine di.next S h λd q u t n C w m=>?_;obtain⟨y,m⟩:=m;have c:=n.keep a _ b.1 r;have f:=ix.mono n.kp;refine⟨a,j,u,rfl,rfl,c,by rw[f.length];exact y,?_⟩;have kp:Kp F.toFb t q (upd t a (.lst (j++[u]))) q:=Kp.own b.1 c rfl;refine m _ _ (n.kp.trans kp) ?_;exact C.eG (cJ s) g b.1 b.2.1 c rfl ⟨a,rfl,b.1,b.2.1,j++[u],ah,(f.append (.cons w .nil)).mono kp⟩
end
section
variable{X:Cx}{F:Fx}{e ke:PC}{ta tk:ag->M D}{pos pos' lp:Ro}{x:PX}
theorem gJ{pins:List (Pg×Qx)}{σ:St}{H:Hp}{s:Pe}{a:Pg}{o o':Qx}{h':P7}{tk:Nat}(I:Inv X pins σ H s)(e:H a=O7 (fV a o))(sb:Ri a s.heap h')(c:h'.get? a=O7 o'):Inv X pins σ (upd H a (fV a o')) {s with heap:=h',toks:=tk}:=I.write (x:=a) (e:=a) (by rw[e];exact trivial) (.inl rfl) (λb u hb q=>(sb.2 b hb).trans q) ⟨_,c⟩ (lV c)
noncomputable def vC:D->M (List D×List D)
 |.aE ks a=>pure (ks,a)|_=>M.fail
theorem xJ{d:D}{k Q E}(h:(vC d).run k Q E):∃ks ds,d=.aE ks ds/\Q (ks,ds) k:=by cases d with
 |aE ks ds=>exact⟨ks,ds,rfl,h⟩|_=>exact h.elim
theorem G_(i:Nat){np:Ro}(hu:X.A.units+2<Q_)(hP:X.prog=F.P)(hw:X.w=F.w)(hi:X.N[i]?=O7 x)(hv:s_ X.env.scope x)(hd:(x==("__debug__":PX))=Pc)(Y:(x==("__classdict__":PX))=Pc)(hk:DE X F ke tk)(ha:DE X F e ta)(hs:RW e (O7 (.Subscript (.Name x np) ke pos')) pos.line X.env=pure Pc):DS X F (.Assign [.Subscript (.Name x np) ke pos'] e pos) (λρ=>do
   let d<-ta ρ;let b<-vC (<-M.get (gb ρ i))let q<-tk ρ;M.need (b.1.length<Pl/\kinds b.1 q)pure (.nx (ρ.set i (O7 (.own (.aE (putD b.1 b.2 q d).1 (putD b.1 b.2 q d).2)))))):=by
 refine⟨ha.hK,λc s B H Z I⟨ρ,k,S,h⟩=>?_⟩;let R2:D->List D×List D->D->M Fl:=λd b q=>do
  M.need (b.1.length<Pl/\kinds b.1 q)pure (.nx (ρ.set i (O7 (.own (.aE (putD b.1 b.2 q d).1 (putD b.1 b.2 q d).2)))))
 let R:D->M Fl:=λd=>do
  let b<-vC (<-M.get (gb ρ i))let q<-tk ρ;R2 d b q
 refine wpAny_Assign_Subscript (bp (ha.pe c s B H (λu z=>∃d m,Ext F.toFb H k z m/\cg F ρ m B z/\Is F.toFb z u d/\(R d).run m (xr F Z H k) F.E) I (di.next S h λd m u z e1 K U n=>⟨d,m,e1,K,U,n⟩)) λr s1⟨u,z,I1,ru,d,m,e1,K,U,n⟩=>?_) hs;obtain⟨d0,h0,n⟩:=M.run_get.mp n;obtain⟨ks,ds,rfl,n⟩:=xJ n;obtain⟨v,G,a,rfl,l⟩:=K.at_ i _ (cJ h0);refine bp (dg (pos:=np) hi hv hd Y c s1 B z (λv L=>v=.ref a/\L=z) I1 ⟨_,G,rfl,rfl⟩) λov s2 j=>?_;obtain⟨w,L,I2,Q,ew,eH⟩:=j;subst ew eH;cases(show ov=PQ a from Q);refine bp (hk.pe c s2 B L (λy t=>∃q g,Ext F.toFb L m t g/\cg F ρ g B t/\Is F.toFb t y q/\(R2 d (ks,ds) q).run g (xr F Z H k) F.E) I2 (di.next K n λq g y t p S3 T J=>⟨q,g,p,S3,T,J⟩)) λkv s3 j=>?_;obtain⟨y,t,I3,ry,q,g,p,S3,T,J⟩:=j;obtain⟨⟨hz,W⟩,J⟩:=J;obtain⟨o,xs,ho,C,dd,ia⟩:=l.2.2;have f:=p.keep a _ l.1 ho;have V:s3.heap.get? a=O7 o:=(I3.aH a _ f).1;refine rC (F:=F) hu I3 ha.hK hP hw (dd.mono p.kp) V (ia.mono p.kp) T ry (U.mono p.kp) ru W hz λh' o' tk sb eo po=>?_;obtain⟨⟨O,d1,d2⟩,_⟩:=po;have kp:Kp F.toFb t g (upd t a (fV a o')) g:=Kp.own l.1 f rfl;refine⟨B,_,gJ I3 f sb eo,J _ _ (((e1.trans p).kp).trans kp) ?_⟩;exact S3.eG (cJ h0) G l.1 l.2.1 f rfl ⟨a,rfl,l.1,l.2.1,o',O,ah,C,d1.mono kp,d2.mono kp⟩
end
section
variable{X:Cx}{F:Fx}{o e:PC}{es:List PC}{to:TE}{t:TA}{name:PX}{apos cpos:Ro}{T id:String}{r:V->List V->Hp->VK->Prop}{ty:V->Hp->Prop}
theorem uc(D:∀{pins:List (Pg×Qx)}{σ:St}{H:Hp}{s:Pe}{x:V}{v:O_},Inv X pins σ H s->RelV x v->ty x H->s.TypeIs v T/\∀a,v=.ref a->∃ob,s.heap.get? a=O7 ob/\ob.dict=Pb)(pa:XB T)(slot:Slot T name id)(j:VJ (.builtin id)=pure (.type "method_descriptor"))(C:JU X id r)(B:PE X o to)(ha:PA X (e::es) t)(d:Tf o name X.env (Rz o X.env)=Rz o X.env)(f:((RR cpos (PL (e::es) X.env)).all (λx=>!x.1)&&(WV cpos (UP [] X.env)).all (λx=>x.1.isSome)&&decide ((e::es).length+([]:List TC).length+(if([]:List TC).isEmpty then 0 else 1)<30))=Pa)(c:(apos.endLine==cpos.line)=Pa)(hs:PL (e::es) X.env=(Pc,Rz e X.env)::PL es X.env)(b:(RR cpos (PL es X.env)).any (·.1)=Pc):PE X (.Call (.Attribute o name apos) (e::es) [] cpos) (λσ H Q=>to σ H λx g=>ty x g/\t σ g λxs k=>r x xs k Q):=by
 intro pins s σ H Q I h;refine We d f c rfl (bp (B pins s σ H _ I h) λv w i=>?_);obtain⟨x,g,n,l,ty,A⟩:=i;obtain⟨G,E⟩:=D n l ty;refine⟨T,id,pa,slot,j,G,E,?_⟩;have m:=ha cpos pins w σ g _ n A;rw[hs]at m⊢;refine Uk (by show(Pc||(RR cpos (PL es X.env)).any (·.1))=Pc;rw[b]<;>rfl) (UQ ?_);exact bp m λq u⟨p,k,J,y,z⟩=>C pins u σ k x p v q Q J l y z
end
section
variable{X:Cx}{F:Fx}
noncomputable def Ha(T:String)(x:V)(H:Hp):Prop:=∃a o,x=.ref a/\H a=O7 (fV a o)/\o.cls=.type T/\o.dict=Pb
theorem C_{T:String}{pins:List (Pg×Qx)}{σ:St}{H:Hp}{s:Pe}{x:V}{v:O_}(I:Inv X pins σ H s)(r:RelV x v)(h:Ha T x H):s.TypeIs v T/\∀a,v=.ref a->∃ob,s.heap.get? a=O7 ob/\ob.dict=Pb:=by
 obtain⟨a,o,rfl,e,f,d⟩:=h;cases(show v=PQ a from r);have c:s.heap.get? a=O7 o:=(I.aH a _ e).1;exact⟨⟨o,c,f⟩,λb q=>by cases q;exact⟨o,c,d⟩⟩
end
section
variable{X:Cx}{F:Fx}{e:PC}{ta:ag->M D}{pos pos' lp:Ro}{x y:PX}
theorem gc{B:Fb}{H:Hp}:∀{xs:List V}{ds:List D},af B H xs ds->af B H xs.dropLast ds.dropLast
 |_,[],h=>by simp only[af]at h;rw[h];exact .nil|_,[d],h=>by
  simp only[af]at h;obtain⟨x,f,rfl,_,a⟩:=h;rw[a];exact .nil|_,d::j::ds,h=>by
  simp only[af]at h;obtain⟨x,f,rfl,g,i,c,rfl,b,a⟩:=h;exact .cons g (gc (.cons b a))
theorem Hb(i j:Nat){np o n:Ro}(hN:X.N.Nodup)(hK:X.K=F.K)(hi:X.N[i]?=O7 x)(s:s_ X.env.scope x)(hd:(x==("__debug__":PX))=Pc)(m:(x==("__classdict__":PX))=Pc)(w:X.N[j]?=O7 y)(r:Loc X.env.scope y)(z:X.fn y=Pa\/X.env.scope.names.lookup y=O7 .local)(t:(o.endLine==n.line)=Pa):DS X F (.Assign [.Name y pos'] (.Call (.Attribute (.Name x np) "pop" o) [] [] n) pos) (λρ=>do
   let ds<-lW (<-M.get (gb ρ i))let d<-M.get ds[ds.length-1]?;pure (.nx ((ρ.set i (O7 (.own (.lst ds.dropLast)))).set j (O7 (.d d))))):=by
 have pe:=FZ (X:=X) (name:="pop") (apos:=o) (cpos:=n) Ud WK (by rfl) F3 (dg (pos:=np) hi s hd m) rfl t;refine⟨hK,(bV (i:=j) hN w r pe rfl z).imp λZ B H⟨ρ,k,S,h⟩=>?_⟩;obtain⟨C,p,h⟩:=M.run_get.mp h;obtain⟨ds,rfl,h⟩:=fc h;obtain⟨d,l,h⟩:=M.run_get.mp h;obtain⟨v,f,a,rfl,b⟩:=S.at_ i _ (cJ p);obtain⟨c,g,ix⟩:=b.2.2;obtain⟨u,hu,q⟩:=ix.get l;refine⟨_,f,.inl ⟨rfl,c,.inl (.inl g)⟩,a,c,u,rfl,rfl,g,by rw[ix.length];exact hu,?_⟩;have kp:Kp F.toFb H k (upd H a (.lst c.dropLast)) k:=Kp.own b.1 g rfl;refine h _ _ kp ?_;have A:=S.eG (o':=.lst c.dropLast) (w':=.own (.lst ds.dropLast)) (cJ p) f b.1 b.2.1 g rfl ⟨a,rfl,b.1,b.2.1,c.dropLast,ah,(gc ix).mono kp⟩;exact A.set j (q.mono kp)
end
structure Jo(M:T9)(h:P7)(C:Pg):Prop where
 ga:Ti M h (Vf (.ref C) "__getattribute__") (O7 (.builtin "BaseException.__getattribute__"))no:Ti M h (Vf (.ref C) "__getattr__") Pb
 cl:Ti M h (Vf (.ref C) "__class__") (O7 (.builtin "object.__class__"))sb:Ti M h (isSubtype (.ref C) (.type "BaseException")) Pa
 so:Ti M h (isSubtype (.ref C) (.type "object")) Pa
 it:Ti M h (isType (.ref C)) Pa
section
variable{prog:PF}{w:P0}{A:P9}{E:O_->Pe->Prop}{h:P7}{g:Array Yo}{d:Drawn}{t:Nat}{os:OsState}{a C:Pg}{o:Qx}
theorem Hc{R:Result->Pe->Prop}(L:Jo (Py prog w) h C)(c:h.get? a=O7 o)(e:o.cls=.ref C)(i:R (.ok (.ret (.ref C))) ⟨h,g,d,t,os⟩):codeAny (Py prog w) A (.call (.builtin "getset_descriptor.__get__") ⟨[.builtin "object.__class__",.ref a,.ref C],[]⟩) R ⟨h,g,d,t,os⟩:=by
 have b:(⟨h,g,d,t,os⟩:Pe).TypeIs (.builtin "object.__class__") "getset_descriptor":=UB;have f:Ti (Py prog w) h (isSubtype (.ref C) (.type (".".intercalate ("object.__class__".cutAt '.').dropLast))) Pa:=by rw[F.owner_object_class];exact L.so
 refine UT F.slot_gs_get.plain F.entry_gs_get (F.slot_gs_get.check _ _ _ _ _ _ _ _ b (F.args_gs_get _ _ _) ?_);repeat(any_goals(first|assumption|(with_reducible refine QR c ?_;rw[e])|with_reducible refine f.at ?_|wp_step))
 refine⟨SW _ (by decide+kernel),WC F.entry_object_class ?_⟩;repeat(any_goals(first|assumption|(with_reducible refine QR c ?_;rw[e])|wp_step))
theorem zX{e:V7}{Q:Fin->Pe->Prop}(L:Jo (Py prog w) h C)(b:h.get? a=O7 o)(c:o.cls=.ref C)(j:Q (.done (.ret (.ref C))) ⟨h,g,d,t,os⟩):wpAny (Py prog w) A (Builtin.«object.__getattribute__» ⟨[.ref a,.str "__class__" e],[]⟩) Q E ⟨h,g,d,t,os⟩:=by
 have f:(⟨h,g,d,t,os⟩:Pe).TypeIs (.builtin "object.__class__") "getset_descriptor":=UB;have f5:=UB;have l:=F.slot_gs_get.lookup;have k:=F.slot_gs_set.lookup;have i:=L.cl;repeat(any_goals(first|assumption|(with_reducible refine QR b ?_;rw[c])|with_reducible refine i.at ?_|wp_step))
 refine Hc L b c ?_;repeat(any_goals(first|assumption|wp_step))
theorem zY{M:T9}{b:O_}{Q:Unit->Pe->Prop}(L:Jo M h C)(e:h.get? a=O7 o)(j:o.cls=.ref C)(f:Q () ⟨h,g,d,t,os⟩):wpAny M A (checkBuiltinCall "BaseException.__getattribute__" ⟨[.ref a,b],[]⟩) Q E ⟨h,g,d,t,os⟩:=by
 have i:builtinKind "BaseException.__getattribute__"=O7 .slot:=by decide+kernel
 have c:splitId "BaseException.__getattribute__"=O7 ("BaseException","__getattribute__"):=by decide+kernel
 have ha:=F.args_bexc_ga (.ref a) b;have sb:=L.sb;simp only[checkBuiltinCall,i,c];refine O9 ?_
 .unfold Vk;repeat(first|(with_reducible refine QR e ?_;rw[j])|with_reducible refine sb.at ?_|wp_step)
  exact f
theorem KL{f:V7}{Q:O_->Pe->Prop}(L:Jo (Py prog w) h C)(c:h.get? a=O7 o)(e:o.cls=.ref C)(l:Q (.ref C) ⟨h,g,d,t,os⟩):wpAny (Py prog w) A (getAttrBy (.ref a) (.str "__class__" f) Pc) Q E ⟨h,g,d,t,os⟩:=by
 have k:=L.ga;have j:=L.no;have m:=F.excAttr_ValueError.ga.bind (.ref a);have b:(TQ "BaseException.__getattribute__"==TQ "object.__getattribute__")=Pc:=by decide+kernel
 have i:(onTheHeap (PQ C)&&TQ "BaseException.__getattribute__"==TQ "object.__getattribute__")=Pc:=by rw[b];rfl
 repeat(any_goals(first|assumption|(with_reducible refine QR c ?_;rw[e])|with_reducible refine k.at ?_|with_reducible refine j.at ?_|wp_step))
 refine UT F.excAttr_ValueError.ga.plain F.entry_bexc_ga (zY L c e (zX L c e ?_));repeat(any_goals(first|assumption|wp_step))
theorem Dc{Q:Option O_->Pe->Prop}(L:Jo (Py prog w) h C)(b:h.get? a=O7 o)(c:o.cls=.ref C)(e:Q (O7 (.ref C)) ⟨h,g,d,t+1,os⟩):wpAny (Py prog w) A (X8 (.ref a) "__class__") Q E ⟨h,g,d,t,os⟩:=by
 unfold X8 getAttrBy?;repeat(any_goals(first|assumption|with_reducible apply KL L b c|wp_step))
end
noncomputable def BO(K:Pj)(C:Pg):Bool:=Uh K (.ref C) "__getattribute__"==O7 (O7 (.builtin "BaseException.__getattribute__"))&&Uh K (.ref C) "__getattr__"==O7 Pb&&Uh K (.ref C) "__class__"==O7 (O7 (.builtin "object.__class__"))&&Tu K (.ref C) (.type "BaseException")==O7 Pa&&Tu K (.ref C) (.type "object")==O7 Pa&&(Tu K (.ref C) (.ref C)).isSome&&(PySem.W.clsIn K C).isSome
theorem zZ{K:Pj}{M:T9}{h:P7}{C:Pg}(X:K.In h)(q:BO K C=Pa):Jo M h C:=by
 simp only[BO,Pp,beq_iff_eq]at q;obtain⟨⟨⟨⟨⟨⟨f,e⟩,d⟩,c⟩,b⟩,a⟩,_⟩:=q;obtain⟨v,g⟩:=Option.isSome_iff_exists.mp a;exact⟨UW X f,UW X e,UW X d,(Td X c).2.2,(Td X b).2.2,(Td X g).2.1⟩
noncomputable def Oe(a C:Pg)(h:P7):Prop:=∃o,h.get? a=O7 o/\o.cls=.ref C
theorem z0{K:Pj}{a C:Pg}(q:BO K C=Pa):PySem.W.KitX K (.ref a) (.ref C) (Oe a C)where
 ty:=λM h _ p=>by
  obtain⟨o,i,f⟩:=p;exact f▸(PySem.W.Looks.ld i).andThen .now
 it:=λM h X p=>(zZ X q).it;ne:=λh tp x l n u X b=>by
  simp only[BO,Pp]at q;obtain⟨cd,c⟩:=Option.isSome_iff_exists.mp q.2;refine Bool.eq_false_iff.mpr λz=>?_;have e:C=tp:=Value.ref.inj (beq_iff_eq.mp z);subst e;unfold PySem.W.clsIn at c;split at c
  .rename_i B y r j m;have z:=(X _ _ m).symm.trans b;cases z
  .cases c
 ca:=λ{prog w A E Q s}X p k=>by
  obtain⟨v,g,d,t,os⟩:=s;obtain⟨o,i,f⟩:=p;exact Dc (zZ X q) i f k
noncomputable def g_(K:Pj)(d:D)(c:O_):Option Bool:=match d with
 |.exc a _=>if BO K a=Pa then Ra K (.ref a) c else Pb|d=>match GD d with
  |some t=>Ra K (.type t) c|none=>Pb
section
variable{X:Cx}{F:Fx}{a:PC}{ta:ag->M D}{pos:Ro}
theorem rD{pins:List (Pg×Qx)}{σ:St}{H:Hp}{s:Pe}{Q:O_->Pe->Prop}{E:O_->Pe->Prop}{A:P9}{d:D}{c:O_}{b:Bool}{v:V}{u:O_}(I:Inv X pins σ H s)(r:RelV v u)(hK:X.K=F.K)(i:Is F.toFb H v d)(e:g_ X.K d c=O7 b)(h:∀o,Q (.bool b) {s with toks:=o}):wpAny (Py X.prog X.w) A (Ts (.builtin "isinstance") [u,c]) Q E s:=by
 by_cases m:∃f nm,d=.exc f nm
 .obtain⟨f,nm,rfl⟩:=m;have l:(if BO X.K f=Pa then Ra X.K (.ref f) c else Pb)=O7 b:=e;split at l
  .rename_i q;simp only[Is]at i;obtain⟨a,n,rfl,p,_⟩:=i;cases(show u=PQ a from r);have:Oe a f s.heap:=by match n,p with
    |[],⟨_,ob,u,k,j,_⟩=>exact⟨ob,(I.aH a _ k).1,j⟩|[v],⟨_,ob,u,y,x,k,j,_⟩=>exact⟨ob,(I.aH a _ k).1,j⟩
   exact QQ (z0 q) I.jH this l (λz=>nomatch z) h
  .cases l
 .have e:(match GD d with
    |some t=>Ra X.K (.type t) c|none=>Pb)=O7 b:=by cases d<;>first|exact e|exact absurd ⟨_,_,rfl⟩ m
  cases g:GD d with
  |none=>rw[g]at e;cases e|some t=>
   rw[g]at e;exact zv I r hK i g e h
theorem z4{x p1 f:Ro}{cn:PX}{P:Pg}(ha:DE X F a ta)(B:X.mg "isinstance"=Pb)(g:X.mg cn=O7 (.ref P))(C:Gl X "isinstance")(j:Gl X cn)(l:(cn==("__debug__":PX))=Pc)(n:PL [a,.Name cn f] X.env=(Pc,Rz a X.env)::PL [.Name cn f] X.env):DE X F (.Call (.Name "isinstance" p1) [a,.Name cn f] [] pos) (λρ=>do let d<-ta ρ;let b<-M.get (g_ X.K d (.ref P));pure (.bl b)):=by
 refine⟨ha.hK,?_⟩;have E:e8 X (.builtin "isinstance") (λp H Q=>∃k v d b,p=[v,.ref P]/\Is F.toFb H v d/\g_ X.K d (.ref P)=O7 b/\qE F.toFb H k Q (.bl b) k):=by
  intro m s o H N O Q I r h;obtain⟨k,v,d,b,rfl,i,hb,q⟩:=h;obtain⟨u,c,rfl,y,w⟩:=vals2 r;cases(show c=PQ P from w);exact rD I y ha.hK i hb λt=>⟨.bl b,H,I.tok t,rfl,q _ H .refl (by simp only[Is])⟩
 refine(e_ E C B (by decide+kernel) (be ha.pe (be (oK (v:=.ref P) j g rfl l) dh rfl) n) (by decide) (by decide) n rfl).imp λo H Q e=>?_;obtain⟨ρ,k,S,h⟩:=e;refine di.next S h λd z v T L R A J=>?_;obtain⟨b,hb,G⟩:=M.run_get.mp J;exact⟨z,v,d,b,rfl,A,hb,G.ext L⟩
theorem z_{T:String}{p1 g:Ro}{e:PX}(ha:DE X F a ta)(E:X.mg "isinstance"=Pb)(l:X.mg e=Pb)(j:Ry e=O7 (.type T))(G:Gl X "isinstance")(m:Gl X e)(C:e≠"__name__")(n:(e==("__debug__":PX))=Pc)(p:PL [a,.Name e g] X.env=(Pc,Rz a X.env)::PL [.Name e g] X.env):DE X F (.Call (.Name "isinstance" p1) [a,.Name e g] [] pos) (λρ=>do let d<-ta ρ;let b<-M.get (g_ X.K d (.type T));pure (.bl b)):=by
 refine⟨ha.hK,?_⟩;have J:e8 X (.builtin "isinstance") (λw H Q=>∃k v d b,w=[v,.ty T]/\Is F.toFb H v d/\g_ X.K d (.type T)=O7 b/\qE F.toFb H k Q (.bl b) k):=by
  intro o s t H P R Q I r h;obtain⟨k,v,d,b,rfl,i,hb,q⟩:=h;obtain⟨u,c,rfl,z,y⟩:=vals2 r;cases(show c=Value.type T from y);exact rD I z ha.hK i hb λx=>⟨.bl b,H,I.tok x,rfl,q _ H .refl (by simp only[Is])⟩
 refine(e_ J G E (by decide+kernel) (be ha.pe (be (BR (v:=.ty T) m l j rfl C n) dh rfl) p) (by decide) (by decide) p rfl).imp λt H Q f=>?_;obtain⟨ρ,k,S,h⟩:=f;refine di.next S h λd A v V O U B N=>?_;obtain⟨b,hb,L⟩:=M.run_get.mp N;exact⟨A,v,d,b,rfl,B,hb,L.ext O⟩
end
section
variable{X:Cx}{F:Fx}
structure Np(X:Cx)(F:Fx)(T:String)(id:String)(rc:D->Bool)(m:D->List D->M D):Prop where
 ty:∀{pins:List (Pg×Qx)}{σ:St}{H:Hp}{s:Pe}{x:V}{v:O_}{d:D},Inv X pins σ H s->RelV x v->X.K=F.K->Is F.toFb H x d->rc d=Pa->s.TypeIs v T/\∀a,v=.ref a->∃ob,s.heap.get? a=O7 ob/\ob.dict=Pb
 call:∀(pins:List (Pg×Qx))(s:Pe)(σ:St)(H:Hp)(k:Nat)(x:V)(xs:List V)(v:O_)(us:List O_)(d:D)(ds:List D)(Q:VK),Inv X pins σ H s->RelV x v->ar xs us->H F.p≠Pb->X.K=F.K->Is F.toFb H x d->af F.toFb H xs ds->rc d=Pa->(m d ds).run k (qE F.toFb H k Q) F.E->wpAny (Py X.prog X.w) X.A (Ts (.builtin id) (v::us)) (EP X pins σ Q) X.xe s
variable{o e:PC}{es:List PC}{to:ag->M D}{tas:ag->M (List A)}{name:PX}{ap cp:Ro}{T id:String}{rc:D->Bool}{m:D->List D->M D}
theorem Dd(J:Np X F T id rc m)(pa:XB T)(slot:Slot T name id)(y:VJ (.builtin id)=pure (.type "method_descriptor"))(t:DE X F o to)(ha:DA X F (e::es) tas)(f:Tf o name X.env (Rz o X.env)=Rz o X.env)(b:(ap.endLine==cp.line)=Pa)(j:((RR cp (PL (e::es) X.env)).all (λx=>!x.1)&&(WV cp (UP [] X.env)).all (λx=>x.1.isSome)&&decide ((e::es).length+([]:List TC).length+(if([]:List TC).isEmpty then 0 else 1)<30))=Pa)(hs:PL (e::es) X.env=(Pc,Rz e X.env)::PL es X.env)(a:(RR cp (PL es X.env)).any (·.1)=Pc):DE X F (.Call (.Attribute o name ap) (e::es) [] cp) (λρ=>do let d<-to ρ;M.need (rc d=Pa);let ds<-iD (<-tas ρ);m d ds):=by
 have mt:JU X id (λx u H Q=>∃k d ds,H F.p≠Pb/\Is F.toFb H x d/\af F.toFb H u ds/\rc d=Pa/\(m d ds).run k (qE F.toFb H k Q) F.E):=λg s C H x u v L Q I N O⟨k,d,ds,l,n,w,c,q⟩=>J.call g s C H k x u v L d ds Q I N O l t.hK n w c q;refine⟨t.hK,(uc (ty:=λx H=>∃d,Is F.toFb H x d/\rc d=Pa) (λI r⟨d,i,c⟩=>J.ty I r t.hK i c) pa slot y mt t.pe ha.pa f j b hs a).imp λC H Q⟨ρ,k,S,h⟩=>?_⟩;refine di.next S h λd k1 v H1 V Y n B=>?_;obtain⟨G,B⟩:=B;refine⟨⟨d,n,G⟩,?_⟩;refine qY.next Y B λas P Z H2 K W w U=>?_;obtain⟨ds,rfl,R⟩:=bS U;exact⟨P,d,ds,W.live,n.mono K.kp,bT w,G,M.wk R λ_ _ z=>z.ext (V.trans K)⟩
end
section
variable{X:Cx}{F:Fx}
noncomputable def rE:D->Bool
 |.aE _ _=>Pa|_=>Pc
noncomputable def Nq:D->List D->M D
 |.aE ks a,[d]=>do M.need (kinds ks d/\ks.length=a.length);pure ((aJ ks a d).getD .bH)|_,_=>M.fail
theorem gf:∀{ks ds:List D}{d:D},ks.length=ds.length->(aJ ks ds d).isSome=cw ks d
 |[],[],d,_=>rfl|[],_::_,d,h=>by simp at h|_::_,[],d,h=>by simp at h|k::ks,v::ds,d,h=>by
  have a:=gf (ks:=ks) (ds:=ds) (d:=d) (by simpa using h);unfold cw at a⊢;rw[SD,<-a];simp only[aJ];cases fZ k d<;>simp
theorem He(hu:X.A.units+2<Q_)(hP:X.prog=F.P)(hw:X.w=F.w):Np X F "dict" "dict.get" rE Nq where
 ty:=λ{t W H s x v d}I r hK i c=>by
  cases d<;>first|cases c|skip
  simp only[Is]at i;obtain⟨a,Y,rfl,⟨o,B,n⟩,L⟩:=i;cases(show v=PQ a from r);have m:=B.get I hK;obtain⟨G,ep,hx,_⟩:=zU n;exact⟨jj n m,λb q=>by cases q;exact⟨o,m,hx.2.1⟩⟩
 call:=λt s W H k x Y v us d ds Q I rx rs l hK U i2 c q=>by match d,ds,q with
  |.aE ks G,[d],q=>
   obtain⟨⟨E,C⟩,q⟩:=q;have q:qE F.toFb H k Q ((aJ ks G d).getD .bH) k:=q;simp only[Is]at U;obtain⟨a,ws,rfl,⟨o,B,n⟩,L⟩:=U;cases(show v=PQ a from rx);have m:=B.get I hK;obtain⟨w,rfl,iw⟩:=i2.one;obtain⟨u,rfl,S⟩:=vals1 rs;have V:=jj (F:=F) n m;rcases E with⟨E,f,rfl⟩|⟨E,f,rfl⟩
   .obtain⟨g,j,T,ob,rfl,rfl⟩:=n.G2 E;rw[<-hP,<-hw]at ob;have:=eY iw;subst this;refine Ws Sn V SX (V0 _ _) (meets_dict_get (aq X.prog X.w) a (fI S) B.2.1) ⟨_,(ob.at m).mapOf,?_⟩;cases h:aJ (g.map λx=>kD x.1) G (kD f)with
    |some e=>
     obtain⟨y,R,O⟩:=vt L h;obtain⟨u',M,J⟩:=hZ.some_of (v:=y) (o:=UL j f) (by rw[<-R];exact T.val f);rw[M];rw[h]at q;exact⟨y,H,I.tok _,J,q y H .refl O⟩|none=>
     have N:gU g f=Pb:=by
      have:=gf (d:=kD f) C;rw[h,t8]at this;cases e:gU g f with
      |none=>rfl|some z=>rw[e]at this;cases this
     have:UL j f=Pb:=hZ.none_of (by rw[<-N];exact T.val f);rw[this];rw[h]at q;exact⟨.bH,H,I.tok _,rfl,q _ H .refl (by simp only[TB,Is])⟩
   .obtain⟨g,j,K,ob,tp,rfl,rfl⟩:=n.G5 E;rw[<-hP,<-hw]at ob;obtain⟨b,rfl,Z⟩:=eV.of iw;cases(show u=PQ b from S);refine Ws Sn V SX (V0 _ _) (meetsH_dict_get (bR X.prog X.w) a b B.2.1) ⟨dH hu,f,j,eC I hK Z,ob.at m (eE I hK K tp),?_⟩;cases h:aJ (g.map λx=>D.tup (x.1.map nD)) G (.tup (f.map nD))with
    |some e=>
     obtain⟨p,y,R,O,h3⟩:=vw K L h;rw[R];rw[h]at q;exact⟨y,H,I.tok _,O,q y H .refl h3⟩|none=>
     have N:X7 j f=Pb:=by
      have:=gf (d:=.tup (f.map nD)) C;rw[h,xF K]at this;cases e:X7 j f with
      |none=>rfl|some z=>rw[e]at this;cases this
     rw[N];rw[h]at q;exact⟨.bH,H,I.tok _,rfl,q _ H .refl (by simp only[TB,Is])⟩
end
noncomputable def jn:D->Option (List D)
 |.tup a=>O7 a|.lst a=>O7 a|.aE ks _=>O7 ks|_=>Pb
section
variable{X:Cx}{F:Fx}
theorem De{tg a:PC}{Z:ag->M D}(ha:DE X F a Z):DI X F tg a (λρ=>do M.get (jn (<-Z ρ))):=⟨ha.hK,λg s σ H R I N=>by
  obtain⟨ρ,k,S,h⟩:=N;refine bp (ha.pe g s σ H _ I (di.next S h (Q:=λv f=>∃d m w,Ext F.toFb H k f m/\Is F.toFb f v d/\jn d=O7 w/\f F.p≠Pb/\(∀J Y,Ext F.toFb H k Y m->tW F.toFb J w Y m->R J Y)) λd m v f u S1 j C=>by
   obtain⟨w,e,W⟩:=M.run_get.mp C;exact⟨d,m,w,u,j,e,S1.live,W⟩)) λv c⟨x,f,l,P,d,m,w,u,j,E,lv,q⟩=>?_;have Yy:∀b∈[c.heap.objs.size],fN X g f b:=λb hb=>by
   have e:b=c.heap.objs.size:=by simpa using hb
   subst e;exact l.BW (Pq _) (l.aH.fresh (Pq _))
  cases d with
  |tup xs=>
   cases E;simp only[Is]at j;obtain⟨a,A,rfl,t,B⟩:=j;cases(show v=PQ a from P);obtain⟨r,O,p,n⟩:=l.tuple (show kq X.K f a A by rw[ha.hK];exact t.2);refine wpAny_pyIter_tuple (show c.heap.IsTuple a r.toArray from p) ?_;exact⟨c.heap.objs.size,[c.heap.objs.size],_,_,f,rfl,l.kept (t':=c.toks) λb o e=>Ph _ e,tw a _,⟨_,PR _ rfl,rfl,rfl⟩,Yy,q _ f u (by rw[ha.hK];exact zC t B n)⟩|lst xs=>
   cases E;simp only[Is]at j;obtain⟨a,A,rfl,t,B⟩:=j;cases(show v=PQ a from P);obtain⟨r,O,p,n⟩:=l.list (show d5 X.K f a A by rw[ha.hK];exact t.2.sq);refine X9 p.isList ?_;exact⟨c.heap.objs.size,[c.heap.objs.size],_,_,f,rfl,l.kept (t':=c.toks) λb o e=>Ph _ e,wN a _,⟨_,PR _ rfl,rfl,rfl⟩,Yy,q _ f u (by rw[ha.hK];exact zB t B n)⟩|aE ks a2=>
   cases E;simp only[Is]at j;obtain⟨a,A,rfl,⟨o,T,dd⟩,B⟩:=j;cases(show v=PQ a from P);obtain⟨a0,es,ep,hx,hd,O,ik⟩:=rA dd;have ho:=T.get l ha.hK;have lt:a<c.heap.objs.size:=Px ho;refine DictIt.u7 T.2.1 ho hx.1 hd ?_;refine⟨c.heap.objs.size,[c.heap.objs.size],_,_,_,rfl,l.kept (t':=c.toks) λb o e=>Ph _ e,ua (K:=X.K) hd O (P5 lt),⟨_,PR _ rfl,rfl,rfl⟩,Yy,q _ _ u ?_⟩;have kn:∀{L:Hp}{U:Nat},Kp F.toFb f m L U->Nm X.K L a o:=λe=>by
    rcases(T.mono e).2.2 with z|z;.exact .inl z
    .exact .inr (by rw[ha.hK];exact z)
   refine⟨λi d L U V G l2=>?_,λL U G l2=>⟨kn G,by rw[ik.length];exact Pq _⟩,dd.1⟩;obtain⟨y,C,W⟩:=(ik.mono G).get V;refine⟨⟨kn G,(List.getElem?_eq_some_iff.mp C).1⟩,λz H3 yl=>?_⟩;obtain⟨rfl,n⟩:=yl;rw[C]at n;cases n;exact⟨.refl,W⟩|_=>cases E⟩
noncomputable def Dg:D->Option Bool
 |.bH=>O7 Pc|.bl b=>O7 b|.int i=>O7 (i !=0)|.str y=>if y.length<=Pl then O7 ((y.length:Int)!=0)else Pb|.tup a=>O7 (!a.isEmpty)|.lst a=>O7 (!a.isEmpty)|_=>Pb
theorem j8{B:Fb}{H:Hp}{xs:List V}{ds:List D}(h:af B H xs ds):xs.isEmpty=ds.isEmpty:=by
 have:=h.length;cases xs<;>cases ds<;>first|rfl|simp at this
theorem Hg{e:PC}{t:ag->M D}(h:DE X F e t)(p:∀whole,V9 e X.env whole=(do let v<-whole;Ug e.pos;Wa [v] (truthy v))):DT X F e (λρ=>do M.get (Dg (<-t ρ))):=⟨h.hK,(yC h.pe p).imp λw H Q g=>by
  obtain⟨ρ,k,S,z⟩:=g;refine di.next S z λd x v u s A f r=>?_;obtain⟨b,hb,q⟩:=M.run_get.mp r;refine⟨b,?_,q u s⟩;cases d with
  |bH=>cases hb;simp only[Is]at f;rw[f];rfl|bl c=>cases hb;simp only[Is]at f;rw[f];rfl|int i=>cases hb;simp only[Is]at f;rw[f];rfl|str y=>
   simp only[Dg]at hb;split at hb
   .rename_i o;cases hb;simp only[Is]at f;rw[f];exact⟨o,rfl⟩
   .cases hb|tup n=>
   cases hb;simp only[Is]at f;obtain⟨a,j,rfl,m,l⟩:=f;exact .inr (.inl ⟨j,by rw[h.hK];exact m.2,by rw[j8 l]⟩)|lst n=>
   cases hb;simp only[Is]at f;obtain⟨a,j,rfl,m,l⟩:=f;exact .inl ⟨j,by rw[h.hK];exact m.2.sq,by rw[j8 l]⟩|_=>cases hb⟩
end
end L2
end
section
namespace SrtP
open PySem PyProof.Rows
section
variable{prog:PF}{w:P0}{A:P9}{E:O_->Pe->Prop}{s:Pe}{κ:RF}{a₀:Array PZ}
noncomputable def Cm(prog:PF)(w:P0)(A:P9)(s:Pe)(κ:RF)(a₀:Array PZ):Prop:=∀x∈a₀,∀y∈a₀,∀(Q:Bool->Pe->Prop)(E:O_->Pe->Prop),(∀b,Q b s)->wpAny (Py prog w) A (keyLt' κ x.1 y.1) Q E s
structure Bs(κ:RF)(a₀:Array PZ)(st:P_):Prop where
 k:kindOf st=κ
 p:(R0 st).Perm a₀
 f:VY st=Pb
theorem Bs.size{st:P_}(h:Bs κ a₀ st):(R0 st).size=a₀.size:=h.p.size_eq
theorem Bs.mem{st:P_}(h:Bs κ a₀ st){x:PZ}(m:x∈R0 st):x∈a₀:=h.p.mem_iff.mp m
theorem lX(C:Cm prog w A s κ a₀){st:P_}{x y:PZ}{Q:Option Bool->P_->Prop}(d:kindOf st=κ)(c:x∈a₀)(a:y∈a₀)(q:∀b,Q (O7 b) st):WN (Py prog w) A E s (lt' x y) Q st:=by
 rw[lt'_eq];refine Pu (Ut ?_);rw[d];refine Pu (wpS_lift (UM (C x c y a _ _ λb=>⟨rfl,?_⟩)));exact PH (q b)
theorem aA{st:P_}{a:Array PZ}{i:Nat}{Q:PZ->P_->Prop}(h:i<a.size)(q:∀x∈a,a[i]?=O7 x->Q x st):WN (Py prog w) A E s (RM a i) Q st:=by
 rw[elem'_eq,Pz h];exact PH (q _ (Array.getElem_mem h) (Pz h))
theorem gh(C:Cm prog w A s κ a₀){st:P_}{i j:Nat}{Q:Option Bool->P_->Prop}(h:Bs κ a₀ st)(hi:i<a₀.size)(d:j<a₀.size)(q:∀b,Q (O7 b) st):WN (Py prog w) A E s (ltAt' i j) Q st:=by
 rw[ltAt'_eq];refine Pu (Ut ?_);refine Pu (aA (by rw[h.size];exact hi) λx c _=>?_);refine Pu (aA (by rw[h.size];exact d) λy a _=>?_);exact lX C h.k (h.mem c) (h.mem a) q
theorem eJ{st:P_}{i j:Nat}{Q:Unit->P_->Prop}(h:Bs κ a₀ st)(q:∀a,Bs κ a₀ a->PU a=PU st->Q () a):WN (Py prog w) A E s (reverseSlice' i j) Q st:=by
 rw[reverseSlice'_eq];exact SY (q _ ⟨h.k,(mirror_perm _ _ _ _).trans h.p,h.f⟩ rfl)
theorem Aa{st:P_}{i j:Nat}{Q:Unit->P_->Prop}(h:Bs κ a₀ st)(q:∀a,Bs κ a₀ a->PU a=PU st->Q () a):WN (Py prog w) A E s (moveDown' i j) Q st:=by
 rw[moveDown'_eq];exact SY (q _ ⟨h.k,(bubble_perm _ _ _).trans h.p,h.f⟩ rfl)
theorem dP{st:P_}{x:String}{Q:Unit->P_->Prop}(q:Q () st):WN (Py prog w) A E s (liftM (WQ x):StateT P_ Vy Unit) Q st:=wpS_lift (UD ⟨rfl,q⟩)
theorem bf{e:Type}{a b:Nat}{f:Nat->e->StateT P_ Vy (ForInStep e)}{Q:e->P_->Prop}{c:e}{st:P_}(I:Nat->e->P_->Prop)(R:e->P_->Prop)(k:I a c st)(d:∀i c st,a<=i->i<b->I i c st->WN (Py prog w) A E s (f i c) (λr g=>match r with|.done j=>R j g|.yield j=>I (i+1) j g) st)(h:∀c st,I (max a b) c st->R c st)(q:∀c st,R c st->Q c st):WN (Py prog w) A E s (forIn [a:b] c f) Q st:=UX (wpS_forRange I d h k) q
theorem jo(C:Cm prog w A s κ a₀){st:P_}{lo a d:Nat}{Q:Option (Option Nat)×Nat->P_->Prop}(h:Bs κ a₀ st)(l:1<=a)(j:a<=d)(k:lo+d<=a₀.size)(q:∀n,a<=n->n<=d->Q (Pb,n) st):WN (Py prog w) A E s (forIn [a:d] ((Pb,a):Option (Option Nat)×Nat) λx __s=>do
   let __x<-ltAt' (lo+__s.snd) (lo+__s.snd-1)match __x with
    |some f=>if f=Pa then pure (Uu (Pb,__s.snd))else pure (RC (Pb,__s.snd+1))|x=>pure (Uu (O7 Pb,__s.snd))) Q st:=by
 refine bf (λi c e=>e=st/\c=(Pb,i)) (λc e=>e=st/\∃n,c=(Pb,n)/\a<=n/\n<=d) ⟨rfl,rfl⟩ ?_ ?_ ?_
 .rintro i c e yh qv⟨rfl,rfl⟩;refine Pu (gh C h (by dsimp only;omega+splitNatSub) (by dsimp only;omega+splitNatSub) λb=>?_);cases b with
  |true=>exact PH ⟨rfl,i,rfl,yh,by omega+splitNatSub⟩|false=>exact PH ⟨rfl,rfl⟩
 .rintro c e⟨rfl,rfl⟩;exact⟨rfl,_,rfl,by omega+splitNatSub,by omega+splitNatSub⟩
 .rintro c e⟨rfl,n,rfl,a1,g⟩;exact q n a1 g
theorem rF(C:Cm prog w A s κ a₀){st:P_}{lo a e:Nat}{Q:Option (Option Nat)×Nat×Nat->P_->Prop}(h:Bs κ a₀ st)(v:1<=a)(t:a<=e)(u:lo+e<=a₀.size)(q:∀n m d,a<=n->n<=e->Bs κ a₀ d->PU d=PU st->Q (Pb,n,m) d):WN (Py prog w) A E s (forIn [a:e] ((Pb,a,0):Option (Option Nat)×Nat×Nat) λx __s=>do
   let __x<-ltAt' (lo+__s.snd.fst) (lo+__s.snd.fst-1)match __x with
    |some f=>
     if f=Pa then
      if __s.snd.snd>0 then do
       let __r<-reverseSlice' (lo+__s.snd.fst-(__s.snd.snd+1)) (lo+__s.snd.fst)pure (RC (Pb,__s.snd.fst+1,0))else pure (RC (Pb,__s.snd.fst+1,0))else do
      let __x<-ltAt' (lo+__s.snd.fst-1) (lo+__s.snd.fst)match __x with
       |some g=>
        if g=Pa then pure (Uu (Pb,__s.snd.fst,__s.snd.snd))else pure (RC (Pb,__s.snd.fst+1,__s.snd.snd+1))|x=>pure (Uu (O7 Pb,__s.snd.fst,__s.snd.snd))
    |x=>pure (Uu (O7 Pb,__s.snd.fst,__s.snd.snd))) Q st:=by
 refine bf (λi c d=>Bs κ a₀ d/\PU d=PU st/\∃m,c=(Pb,i,m)) (λc d=>Bs κ a₀ d/\PU d=PU st/\∃n m,c=(Pb,n,m)/\a<=n/\n<=e) ⟨h,rfl,0,rfl⟩ ?_ ?_ ?_
 .rintro i c d yh qv⟨hb,j,m,rfl⟩;refine Pu (gh C hb (by dsimp only;omega) (by dsimp only;omega) λb=>?_);cases b with
  |true=>
   dsimp only;rw[if_pos rfl];by_cases o:m>0
   .rw[if_pos o];exact Pu (eJ hb λp l k=>PH ⟨l,k.trans j,0,rfl⟩)
   .rw[if_neg o];exact PH ⟨hb,j,0,rfl⟩|false=>
   dsimp only;rw[if_neg (by decide)];refine Pu (gh C hb (by omega) (by omega) λb=>?_);cases b with
   |true=>exact PH ⟨hb,j,i,m,rfl,yh,by omega⟩|false=>exact PH ⟨hb,j,m+1,rfl⟩
 .rintro c d⟨hb,j,m,rfl⟩;exact⟨hb,j,_,m,rfl,by omega,by omega⟩
 .rintro c d⟨hb,j,n,m,rfl,a1,r⟩;exact q n m d a1 r hb j
theorem xK(C:Cm prog w A s κ a₀){st:P_}{lo a:Nat}{Q:Option Nat->P_->Prop}(h:Bs κ a₀ st)(K:1<=a)(k:lo+a<=a₀.size)(q:∀n i,1<=n->n<=a->Bs κ a₀ i->PU i=PU st->Q (O7 n) i):WN (Py prog w) A E s (countRun' lo a) Q st:=by
 rw[countRun'_eq];refine Pu (jo C h (Pq _) K k λn a1 G=>?_);dsimp only;by_cases B:(n==a)=Pa
 .rw[if_pos B];exact PH (q n st a1 G h rfl)
 .rw[if_neg B];have r:n+1<=a:=by
   have:n≠a:=λe=>B (by rw[e];exact beq_self_eq_true _);omega
  by_cases p:n>1
  .rw[if_pos p];refine Pu (gh C h (by omega) (by omega) λb=>?_);cases b with
   |true=>exact PH (q n st a1 G h rfl)|false=>
    refine Pu (eJ h λI b1 F=>?_);refine Pu (dP ?_);refine Pu (rF C b1 (by omega) r k λJ m y H l u o=>?_);dsimp only;by_cases t:m>0
    .rw[if_pos t];refine Pu (eJ u λx D z=>?_);refine Pu (eJ D λc f j=>?_);refine Pu (jo C f (by omega) l k λd v g=>?_);exact PH (q d c (by omega) g f (j.trans (z.trans (o.trans F))))
    .rw[if_neg t];refine Pu (eJ u λc f j=>?_);refine Pu (jo C f (by omega) l k λd v g=>?_);exact PH (q d c (by omega) g f (j.trans (o.trans F)))
  .rw[if_neg p];refine Pu (dP ?_);refine Pu (rF C h (by omega) r k λJ m y H l u o=>?_);dsimp only;by_cases t:m>0
   .rw[if_pos t];refine Pu (eJ u λx D z=>?_);refine Pu (eJ D λc f j=>?_);refine Pu (jo C f (by omega) l k λd v g=>?_);exact PH (q d c (by omega) g f (j.trans (z.trans o)))
   .rw[if_neg t];refine Pu (eJ u λc f j=>?_);refine Pu (jo C f (by omega) l k λd v g=>?_);exact PH (q d c (by omega) g f (j.trans o))
theorem Dh(C:Cm prog w A s κ a₀){st:P_}{lo n ok:Nat}{Q:Bool->P_->Prop}(h:Bs κ a₀ st)(x:lo+n<=a₀.size)(q:∀a,Bs κ a₀ a->PU a=PU st->Q Pa a):WN (Py prog w) A E s (binarySort' lo n ok) Q st:=by
 rw[binarySort'_eq];refine Pu (bf (λk c a=>c=(Pb,())/\Bs κ a₀ a/\PU a=PU st) (λc a=>c=(Pb,())/\Bs κ a₀ a/\PU a=PU st) ⟨rfl,h,rfl⟩ ?_ (λ_ _ z=>z) ?_)
 .rintro k c d t p⟨rfl,b1,f⟩;refine Pu (bf (λi(c:Option Bool×Nat×Nat)a=>a=d/\c.1=Pb/\c.2.2<=k) (λc a=>a=d/\c.1=Pb) ⟨rfl,rfl,Pq _⟩ ?_ (λc a z=>⟨z.1,z.2.1⟩) ?_)
  .rintro i⟨u,l,r⟩a yh qv⟨rfl,e,g⟩;dsimp only at e g⊢;subst e;by_cases j:l>=r
   .rw[if_pos j];exact PH ⟨rfl,rfl⟩
   .rw[if_neg j];refine Pu (gh C b1 (by omega) (by omega) λb=>?_);cases b with
    |true=>exact PH ⟨rfl,rfl,by show(l+r)/2<=k;omega⟩|false=>exact PH ⟨rfl,rfl,g⟩
  .rintro⟨u,l,r⟩a⟨rfl,e⟩;dsimp only at e⊢;subst e;exact Pu (Aa b1 λm v o=>PH ⟨rfl,v,o.trans f⟩)
 .rintro c d⟨rfl,b1,f⟩;exact PH (q d b1 f)
noncomputable def bU:Bool->PZ->Array PZ->Nat->Nat->Nat->StateT P_ Vy (Option Nat):=sortPriv%PySem.Builtin.gallop
theorem ud(left:Bool)(key:PZ)(h:Array PZ)(base n a:Nat):bU left key h base n a=(do
 let e(i:Nat):StateT P_ Vy (Option Bool):=do
  let x<-RM h (base+i)if left then lt' x key else return(<-lt' key x).map (!·)
 let mut c:=0;let mut d:=1;let mut lo:=0;let mut hi:=0
 let O7 right<-e a|return Pb
 if right then
  let b:=n-a;for _ in[0:n]do
   if d>=b then break
   let O7 f<-e (a+d)|return Pb
   if !f then break
   c:=d;d:=2*d+1
  lo:=a+c+1;hi:=a+min d b;else
  let b:=a+1;for _ in[0:n]do
   if d>=b then break
   let O7 g<-e (a-d)|return Pb
   if g then break
   c:=d;d:=2*d+1
  lo:=a+1-min d b;hi:=a-c
 for _ in[0:n]do
  if lo>=hi then break
  let m:=lo+(hi-lo)/2
  let O7 f<-e m|return Pb
  if f then lo:=m+1 else hi:=m
 return O7 hi):=rfl
theorem cX(C:Cm prog w A s κ a₀){st:P_}{left:Bool}{key:PZ}{h:Array PZ}{base n e:Nat}{Q:Option Nat->P_->Prop}(v:kindOf st=κ)(u:∀x∈h,x∈a₀)(g:key∈a₀)(o:e<n)(hs:base+n<=h.size)(q:∀k,k<=n->Q (O7 k) st):WN (Py prog w) A E s (bU left key h base n e) Q st:=by
 rw[ud];extract_lets beyond la0 of0 jp mx1 mx2;have hb:∀(i:Nat)(Q:Option Bool->P_->Prop),i<n->(∀b,Q (O7 b) st)->WN (Py prog w) A E s (beyond i) Q st:=λi Q hi q=>by
  refine Pu (aA (by omega) λx t _=>?_);cases left with
  |true=>exact lX C v (u x t) g q|false=>exact Pu (lX C v g (u x t) λb=>PH (q _))
 have y:∀(p of lo hi:Nat),hi<=n->WN (Py prog w) A E s (jp () p of lo hi) Q st:=λp of lo hi o=>by
  refine Pu (bf (λi(c:Option (Option Nat)×Nat×Nat)a=>a=st/\c.1=Pb/\c.2.2<=n) (λc a=>a=st/\c.1=Pb/\c.2.2<=n) ⟨rfl,rfl,o⟩ ?_ (λc a z=>z) ?_)
  .rintro i⟨m,l,r⟩a yh qv⟨rfl,d,j⟩;dsimp only at d j⊢;subst d;by_cases f:l>=r
   .rw[if_pos f];exact PH ⟨rfl,rfl,j⟩
   .rw[if_neg f];refine Pu (hb _ _ (by omega) λb=>?_);cases b with
    |true=>exact PH ⟨rfl,rfl,j⟩|false=>exact PH ⟨rfl,rfl,by show l+(r-l)/2<=n;omega⟩
  .rintro⟨m,l,r⟩a⟨rfl,d,j⟩;dsimp only at d j⊢;subst d;exact PH (q r j)
 refine Pu (hb _ _ o λb=>?_);cases b with
 |true=>
  dsimp only;rw[if_pos rfl];refine Pu (bf (λi(c:Option (Option Nat)×Nat×Nat)a=>a=st/\c.1=Pb) (λc a=>a=st/\c.1=Pb) ⟨rfl,rfl⟩ ?_ (λc a z=>z) ?_)
  .rintro i⟨m,l,r⟩a yh qv⟨rfl,d⟩;dsimp only at d⊢;subst d;by_cases f:r>=mx1
   .rw[if_pos f];exact PH ⟨rfl,rfl⟩
   .rw[if_neg f];refine Pu (hb _ _ (by have:mx1=n-e:=rfl;omega) λb=>?_);cases b<;>exact PH ⟨rfl,rfl⟩
  .rintro⟨m,l,r⟩a⟨rfl,d⟩;dsimp only at d⊢;subst d;exact y l r _ _ (by have:mx1=n-e:=rfl;omega)|false=>
  dsimp only;rw[if_neg (by decide)];refine Pu (bf (λi(c:Option (Option Nat)×Nat×Nat)a=>a=st/\c.1=Pb) (λc a=>a=st/\c.1=Pb) ⟨rfl,rfl⟩ ?_ (λc a z=>z) ?_)
  .rintro i⟨m,l,r⟩a yh qv⟨rfl,d⟩;dsimp only at d⊢;subst d;by_cases f:r>=mx2
   .rw[if_pos f];exact PH ⟨rfl,rfl⟩
   .rw[if_neg f];refine Pu (hb _ _ (by omega) λb=>?_);cases b<;>exact PH ⟨rfl,rfl⟩
  .rintro⟨m,l,r⟩a⟨rfl,d⟩;dsimp only at d⊢;subst d;exact y l r _ _ (by omega)
noncomputable def aI:Nat->StateT P_ Vy Unit:=sortPriv%PySem.Builtin.setMinGallop
noncomputable abbrev Hh(st:P_)(g:Nat):P_:=Wn (kindOf st) (R0 st) (PU st) g (VY st)
theorem jP(g:Nat):aI g=modify λs=>Hh s g:=rfl
noncomputable def jq:Array PZ->Array PZ->StateT P_ Vy (Array PZ):=sortPriv%PySem.Builtin.mergeLo
theorem rG(a b:Array PZ):jq a b=(do
 WQ "list.sort.merge-lo"let j:=a.size+b.size;let done(d:Array PZ)(e f:Nat):=d++a.extract e a.size++b.extract f b.size;let i(d:Array PZ)(e f:Nat):=d++b.extract f b.size++a.extract e a.size;let mut d:Array PZ:=#[<-RM b 0]let mut e:=0;let mut f:=1;if f==b.size then return done d e f
 if e+1==a.size then return i d e f
 let mut c:=Yz (<-get)for _ in[0:j]do
  let mut h:=0;let mut g:=0;for _ in[0:j]do
   let O7 l<-lt' (<-RM b f) (<-RM a e)|return done d e f
   if l then
    d:=d.push (<-RM b f);f:=f+1;g:=g+1;h:=0;if f==b.size then return done d e f
    if g>=c then break
   else
    d:=d.push (<-RM a e);e:=e+1;h:=h+1;g:=0;if e+1==a.size then return i d e f
    if h>=c then break
  WQ "list.sort.gallop"c:=c+1;for _ in[0:j]do
   if c>1 then c:=c-1
   aI c
   let O7 k<-bU Pc (<-RM b f) a e (a.size-e) 0|return done d e f
   h:=k;if k>0 then
    d:=d++a.extract e (e+k);e:=e+k;if e+1==a.size then return i d e f
    if e==a.size then return done d e f
   d:=d.push (<-RM b f);f:=f+1;if f==b.size then return done d e f
   let O7 k<-bU Pa (<-RM a e) b f (b.size-f) 0|return done d e f
   g:=k;if k>0 then
    d:=d++b.extract f (f+k);f:=f+k;if f==b.size then return done d e f
   d:=d.push (<-RM a e);e:=e+1;if e+1==a.size then return i d e f
   if h<7&&g<7 then break
  c:=c+1;aI c
 VG "internal:list.sort.merge-bound"):=rfl
structure Lo(a b out:Array PZ)(ia ib:Nat):Prop where
 p:(out.toList++a.toList.drop ia++b.toList.drop ib).Perm (a.toList++b.toList)ha:ia<=a.size
 hb:ib<=b.size
section
variable{a b out:Array PZ}{ia ib k:Nat}{x:PZ}
theorem Lo.size(h:Lo a b out ia ib):out.size+(a.size-ia)+(b.size-ib)=a.size+b.size:=by
 have:=h.p.length_eq;simp only[P6,UG,QO]at this;exact this
theorem rH(xs:Array PZ)(i:Nat):(xs.extract i xs.size).toList=xs.toList.drop i:=by
 rw[Sz];rw[RS,SS (by simp)]
theorem rJ(xs:Array PZ)(i k:Nat):(xs.extract i (i+k)).toList=(xs.toList.drop i).take k:=by rw[Sz,RS,V1]
theorem Lo.done(h:Lo a b out ia ib):(out++a.extract ia a.size++b.extract ib b.size).Perm (a++b):=by
 rw[RN];simp only[Q3,rH];exact h.p
theorem Lo.last(h:Lo a b out ia ib):(out++b.extract ib b.size++a.extract ia a.size).Perm (a++b):=by
 rw[RN];simp only[Q3,rH];refine RD ?_ h.p;rw[Qj,Qj];exact Qw _ Sq
theorem rK{xs:Array PZ}{i:Nat}(e:xs[i]?=O7 x):xs.toList.drop i=x::xs.toList.drop (i+1)/\i<xs.size:=by
 obtain⟨hi,e⟩:=Array.getElem?_eq_some_iff.mp e;refine⟨?_,hi⟩;rw[Vv (by simpa using hi)];simp[e]
theorem Lo.nX(h:Lo a b out ia ib)(e:a[ia]?=O7 x):Lo a b (out.push x) (ia+1) ib:=by
 obtain⟨c,d⟩:=rK e;refine⟨?_,by omega,h.hb⟩;have:=h.p;rw[c]at this;rw[Rt];simpa using this
theorem Lo.nY(h:Lo a b out ia ib)(e:b[ib]?=O7 x):Lo a b (out.push x) ia (ib+1):=by
 obtain⟨c,d⟩:=rK e;refine⟨?_,h.ha,by omega⟩;have:=h.p;rw[c]at this;rw[Rt];refine RD ?_ this;simp only[Qj];refine Qw _ ?_;show(x::(a.toList.drop ia++b.toList.drop (ib+1))).Perm (a.toList.drop ia++x::b.toList.drop (ib+1));exact List.perm_middle.symm
theorem Lo.Hj(h:Lo a b out ia ib)(c:ia+k<=a.size):Lo a b (out++a.extract ia (ia+k)) (ia+k) ib:=by
 refine⟨?_,c,h.hb⟩;rw[Q3,rJ];refine RD (T5 ?_) h.p;have:a.toList.drop ia=(a.toList.drop ia).take k++a.toList.drop (ia+k):=by rw[<-List.drop_drop,RV]
 conv=>rhs;rw[this]
 simp only[Qj]
theorem Lo.Hk(h:Lo a b out ia ib)(c:ib+k<=b.size):Lo a b (out++b.extract ib (ib+k)) ia (ib+k):=by
 refine⟨?_,h.ha,c⟩;rw[Q3,rJ];refine RD ?_ h.p;have:b.toList.drop ib=(b.toList.drop ib).take k++b.toList.drop (ib+k):=by rw[<-List.drop_drop,RV]
 conv=>rhs;rw[this]
 simp only[Qj];refine Qw _ ?_;rw[<-Qj,<-Qj];exact S7 _ Sq
end
structure Gs(κ:RF)(a₀:Array PZ)(st st':P_):Prop where
 b:Bs κ a₀ st'
 e:R0 st'=R0 st
 p:PU st'=PU st
theorem kK{a st:P_}{g:Nat}{Q:Unit->P_->Prop}(h:Gs κ a₀ a st)(q:∀c,Gs κ a₀ a c->Q () c):WN (Py prog w) A E s (aI g) Q st:=by
 rw[jP];exact SY (q _ ⟨⟨h.b.k,h.b.p,h.b.f⟩,h.e,h.p⟩)
theorem aU{i n:Nat}(h:¬(i==n)=Pa):i≠n:=λe=>h (by rw[e];exact beq_self_eq_true _)
abbrev C6:=Option (Array PZ)×Array PZ×Nat×Nat×Nat×Nat
abbrev C7:=Option (Array PZ)×Array PZ×Nat×Nat×Nat×Nat×Nat
abbrev C5:=Option (Array PZ)×Array PZ×Nat×Nat×Nat
abbrev SM:=StateT P_ Vy
noncomputable def dn(a b c:Array PZ)(e d:Nat):Array PZ:=c++a.extract e a.size++b.extract d b.size
noncomputable def lst(a b c:Array PZ)(e d:Nat):Array PZ:=c++b.extract d b.size++a.extract e a.size
noncomputable def lo1(a b:Array PZ)(mg:Nat)(c:C6):SM (ForInStep C6):=do
 let y<-RM b c.2.2.2.1;let x<-RM a c.2.2.1;match<-lt' y x with
 |some d=>
  if d=Pa then do
   let z<-RM b c.2.2.2.1;if(c.2.2.2.1+1==b.size)=Pa then pure (.done (O7 (dn a b (c.2.1.push z) c.2.2.1 (c.2.2.2.1+1)),c.2.1.push z,c.2.2.1,c.2.2.2.1+1,0,c.2.2.2.2.2+1))else if c.2.2.2.2.2+1>=mg then pure (.done (Pb,c.2.1.push z,c.2.2.1,c.2.2.2.1+1,0,c.2.2.2.2.2+1))else pure (.yield (Pb,c.2.1.push z,c.2.2.1,c.2.2.2.1+1,0,c.2.2.2.2.2+1))else do
   let z<-RM a c.2.2.1;if(c.2.2.1+1+1==a.size)=Pa then pure (.done (O7 (lst a b (c.2.1.push z) (c.2.2.1+1) c.2.2.2.1),c.2.1.push z,c.2.2.1+1,c.2.2.2.1,c.2.2.2.2.1+1,0))else if c.2.2.2.2.1+1>=mg then pure (.done (Pb,c.2.1.push z,c.2.2.1+1,c.2.2.2.1,c.2.2.2.2.1+1,0))else pure (.yield (Pb,c.2.1.push z,c.2.2.1+1,c.2.2.2.1,c.2.2.2.2.1+1,0))|_=>pure (.done (O7 (dn a b c.2.1 c.2.2.1 c.2.2.2.1),c.2))
noncomputable def Nr(a b:Array PZ)(mg g f d:Nat)(c:Array PZ)(e:Nat):SM (ForInStep C7):=do
 let z<-RM a d;if(d+1+1==a.size)=Pa then pure (.done (O7 (lst a b (c.push z) (d+1) e),c.push z,d+1,e,mg,g,f))else if(decide (g<7)&&decide (f<7))=Pa then pure (.done (Pb,c.push z,d+1,e,mg,g,f))else pure (.yield (Pb,c.push z,d+1,e,mg,g,f))
noncomputable def Mu(a b:Array PZ)(mg f g c:Nat)(d:Array PZ)(e:Nat):SM (ForInStep C7):=do
 let z<-RM b c;if(c+1==b.size)=Pa then pure (.done (O7 (dn a b (d.push z) e (c+1)),d.push z,e,c+1,mg,f,g))else do
  let x<-RM a e;match<-bU Pa x b (c+1) (b.size-(c+1)) 0 with
  |some k=>
   if k>0 then
    if(c+1+k==b.size)=Pa then pure (.done (O7 (dn a b (d.push z++b.extract (c+1) (c+1+k)) e (c+1+k)),d.push z++b.extract (c+1) (c+1+k),e,c+1+k,mg,f,k))else Nr a b mg f k e (d.push z++b.extract (c+1) (c+1+k)) (c+1+k)else Nr a b mg f k e (d.push z) (c+1)|_=>pure (.done (O7 (dn a b (d.push z) e (c+1)),d.push z,e,c+1,mg,f,g))
noncomputable def Mv(a b:Array PZ)(c:C7)(mg:Nat):SM (ForInStep C7):=do
 aI mg;let y<-RM b c.2.2.2.1;match<-bU Pc y a c.2.2.1 (a.size-c.2.2.1) 0 with
 |some k=>
  if k>0 then
   if(c.2.2.1+k+1==a.size)=Pa then pure (.done (O7 (lst a b (c.2.1++a.extract c.2.2.1 (c.2.2.1+k)) (c.2.2.1+k) c.2.2.2.1),c.2.1++a.extract c.2.2.1 (c.2.2.1+k),c.2.2.1+k,c.2.2.2.1,mg,k,c.2.2.2.2.2.2))else if(c.2.2.1+k==a.size)=Pa then pure (.done (O7 (dn a b (c.2.1++a.extract c.2.2.1 (c.2.2.1+k)) (c.2.2.1+k) c.2.2.2.1),c.2.1++a.extract c.2.2.1 (c.2.2.1+k),c.2.2.1+k,c.2.2.2.1,mg,k,c.2.2.2.2.2.2))else Mu a b mg k c.2.2.2.2.2.2 c.2.2.2.1 (c.2.1++a.extract c.2.2.1 (c.2.2.1+k)) (c.2.2.1+k)else Mu a b mg k c.2.2.2.2.2.2 c.2.2.2.1 c.2.1 c.2.2.1|_=>pure (.done (O7 (dn a b c.2.1 c.2.2.1 c.2.2.2.1),c.2.1,c.2.2.1,c.2.2.2.1,mg,c.2.2.2.2.2.1,c.2.2.2.2.2.2))
noncomputable def Nu(a b:Array PZ)(c:C5):SM (ForInStep C5):=do
 let d<-forIn [0:a.size+b.size] ((Pb,c.2.1,c.2.2.1,c.2.2.2.1,0,0):C6) λ_ d=>lo1 a b c.2.2.2.2 d;match d.1 with
 |some r=>pure (.done (O7 r,d.2.1,d.2.2.1,d.2.2.2.1,c.2.2.2.2))|none=>do
  liftM (WQ "list.sort.gallop")let e<-forIn [0:a.size+b.size] ((Pb,d.2.1,d.2.2.1,d.2.2.2.1,c.2.2.2.2+1,d.2.2.2.2.1,d.2.2.2.2.2):C7) λ_ e=>if e.2.2.2.2.1>1 then Mv a b e (e.2.2.2.2.1-1)else Mv a b e e.2.2.2.2.1;match e.1 with
  |some r=>pure (.done (O7 r,e.2.1,e.2.2.1,e.2.2.2.1,e.2.2.2.2.1))|none=>do
   aI (e.2.2.2.2.1+1)pure (.yield (Pb,e.2.1,e.2.2.1,e.2.2.2.1,e.2.2.2.2.1+1))
theorem xM(a b:Array PZ):jq a b=(do
 liftM (WQ "list.sort.merge-lo")let x<-RM b 0;if(1==b.size)=Pa then pure (dn a b #[x] 0 1)else if(0+1==a.size)=Pa then pure (lst a b #[x] 0 1)else do
  let st<-get;let c<-forIn [0:a.size+b.size] ((Pb,#[x],0,1,Yz st):C5) λ_ c=>Nu a b c;match c.1 with
  |some r=>pure r|none=>liftM (VG "internal:list.sort.merge-bound":Vy (Array PZ))):=by
 rw[rG];dsimp only;refine congrArg _ (funext λ_=>?_);refine congrArg _ (funext λx=>?_);refine congrArg _ ?_;refine congrArg _ ?_;refine congrArg _ (funext λst=>?_);refine congr (congrArg _ ?_) (funext λc=>by obtain⟨e,c⟩:=c;cases e<;>rfl);refine congrArg _ (funext λ_=>funext λc=>?_);unfold Nu;refine congr (congrArg _ rfl) (funext λd=>?_);obtain⟨f,d⟩:=d;cases f with
 |some r=>rfl|none=>
  dsimp only;refine congrArg _ (funext λ_=>?_);refine congr (congrArg _ ?_) (funext λc=>by obtain⟨e,c⟩:=c;cases e<;>rfl);refine congrArg _ (funext λ_=>funext λc=>?_);unfold Mv;refine congr (congrArg _ ?_) ?_;all_goals
   refine congrArg _ (funext λ_=>?_);refine congrArg _ (funext λy=>?_);refine congrArg _ (funext λk=>?_);cases k with
   |none=>rfl|some k=>
    dsimp only;unfold Mu;refine congr (congrArg _ ?_) ?_
    .refine congrArg _ ?_;refine congrArg _ ?_;refine congrArg _ (funext λy=>?_);refine congrArg _ ?_;refine congrArg _ (funext λy=>?_);refine congrArg _ (funext λk=>?_);cases k<;>rfl
    .refine congrArg _ (funext λy=>?_);refine congrArg _ ?_;refine congrArg _ (funext λy=>?_);refine congrArg _ (funext λk=>?_);cases k<;>rfl
structure Go(κ:RF)(a₀:Array PZ)(st:P_)(a b:Array PZ)(o0:Nat)(r:Option (Array PZ))(out:Array PZ)(ia ib:Nat)(st':P_):Prop where
 g:Gs κ a₀ st st'
 n:r=Pb
 l:Lo a b out ia ib
 a1:ia+1<a.size
 b1:ib<b.size
 o:o0<out.size
inductive Fi(κ:RF)(a₀:Array PZ)(st:P_)(a b:Array PZ)(o0:Nat)(out:Array PZ)(ia ib:Nat)(st':P_):Option (Array PZ)->Prop where|ret{z:Array PZ}(g:Gs κ a₀ st st')(p:z.Perm (a++b)):Fi κ a₀ st a b o0 out ia ib st' (O7 z)|go(h:Go κ a₀ st a b o0 Pb out ia ib st'):Fi κ a₀ st a b o0 out ia ib st' Pb
section
variable{st:P_}{a b:Array PZ}
noncomputable abbrev Q7(κ:RF)(a₀:Array PZ)(st:P_)(a b:Array PZ)(e:Nat):ForInStep C7->P_->Prop:=λr d=>match r with
 |.done c=>Fi κ a₀ st a b e c.2.1 c.2.2.1 c.2.2.2.1 d c.1|.yield c=>Go κ a₀ st a b e c.1 c.2.1 c.2.2.1 c.2.2.2.1 d
theorem vD(u:∀x∈a,x∈a₀){mg n m e j i:Nat}{c:Array PZ}{d:P_}(h:Go κ a₀ st a b i Pb c e j d):WN (Py prog w) A E s (Nr a b mg n m e c j) (Q7 κ a₀ st a b i) d:=by
 refine Pu (aA (by have:=h.a1;omega) λv t ev=>?_);have k:=h.l.nX ev;have r:(c.push v).size=c.size+1:=Sa ..;have q:=h.o;have p:=h.a1;by_cases f:(e+1+1==a.size)=Pa
 .rw[if_pos f];exact PH (.ret h.g k.last)
 rw[if_neg f];have f:=aU f;have g:Go κ a₀ st a b i Pb (c.push v) (e+1) j d:=⟨h.g,rfl,k,by omega,h.b1,by omega⟩;split;.exact PH (.go g)
 .exact PH g
theorem vE(C:Cm prog w A s κ a₀)(p:∀x∈a,x∈a₀)(n:∀x∈b,x∈a₀){mg z y t f q:Nat}{c:Array PZ}{d:P_}(h:Go κ a₀ st a b q Pb c t f d):WN (Py prog w) A E s (Mu a b mg z y f c t) (Q7 κ a₀ st a b q) d:=by
 refine Pu (aA h.b1 λv G ev=>?_);have m:=h.l.nY ev;have F:(c.push v).size=c.size+1:=Sa ..;have D:=h.o;have B:=h.b1;by_cases j:(f+1==b.size)=Pa
 .rw[if_pos j];exact PH (.ret h.g m.done)
 rw[if_neg j];have j:=aU j;refine Pu (aA (by have:=h.a1;omega) λx u ex=>?_);refine Pu (cX C h.g.b.k n (p x u) (by omega) (by omega) λk H=>?_);show WN _ _ _ _ (if k>0 then _ else _) _ _;by_cases e:k>0
 .rw[if_pos e];have r:=m.Hk (k:=k) (by omega);by_cases i:(f+1+k==b.size)=Pa
  .rw[if_pos i];exact PH (.ret h.g r.done)
  .rw[if_neg i];have i:=aU i;exact vD p ⟨h.g,rfl,r,h.a1,by omega,by rw[Uv];omega⟩
 .rw[if_neg e];exact vD p ⟨h.g,rfl,m,h.a1,by omega,by omega⟩
theorem vF(C:Cm prog w A s κ a₀)(n:∀x∈a,x∈a₀)(d:∀x∈b,x∈a₀){mg p:Nat}{c:C7}{e:P_}(h:Go κ a₀ st a b p c.1 c.2.1 c.2.2.1 c.2.2.2.1 e):WN (Py prog w) A E s (Mv a b c mg) (Q7 κ a₀ st a b p) e:=by
 obtain⟨J,B,q,H,D,L,K⟩:=c;obtain⟨v,u,o,t,i,r⟩:=h;dsimp only at v u o t i r;subst u;refine Pu (kK v λz g=>?_);refine Pu (aA i λy F I=>?_);refine Pu (cX C g.b.k n (d y F) (by dsimp only;omega) (by dsimp only;omega) λk G=>?_);show WN _ _ _ _ (if k>0 then _ else _) _ _;dsimp only at G⊢;by_cases f:k>0
 .rw[if_pos f];have m:=o.Hj (k:=k) (by omega);by_cases l:(q+k+1==a.size)=Pa
  .rw[if_pos l];exact PH (.ret g m.last)
  rw[if_neg l];have l:=aU l;by_cases j:(q+k==a.size)=Pa
  .rw[if_pos j];exact PH (.ret g m.done)
  rw[if_neg j];have j:=aU j;exact vE C n d ⟨g,rfl,m,by omega,i,by rw[Uv];omega⟩
 .rw[if_neg f];exact vE C n d ⟨g,rfl,o,t,i,r⟩
theorem Di(C:Cm prog w A s κ a₀)(H:∀x∈a,x∈a₀)(p:∀x∈b,x∈a₀){mg u n:Nat}{c:C6}{d:P_}(h:Go κ a₀ st a b n c.1 c.2.1 c.2.2.1 c.2.2.2.1 d)(K:u<=n):WN (Py prog w) A E s (lo1 a b mg c) (λr d=>match r with
  |.done g=>Fi κ a₀ st a b (u+1) g.2.1 g.2.2.1 g.2.2.2.1 d g.1|.yield g=>Go κ a₀ st a b (n+1) g.1 g.2.1 g.2.2.1 g.2.2.2.1 d) d:=by
 obtain⟨M,e,F,D,O,N⟩:=c;obtain⟨i,v,t,q,l,I⟩:=h;dsimp only at i v t q l I;subst v;refine Pu (aA l λy o m=>?_);refine Pu (aA (by dsimp only;omega) λz G L=>?_);refine Pu (lX C i.b.k (p y o) (H z G) λJ=>?_);cases J with
 |true=>
  dsimp only;rw[if_pos rfl];refine Pu (aA l λy o m=>?_);have j:=t.nY m;have B:(e.push y).size=e.size+1:=Sa ..;by_cases f:(D+1==b.size)=Pa
  .rw[if_pos f];exact PH (.ret i j.done)
  .rw[if_neg f];have f:=aU f;split;.exact PH (.go ⟨i,rfl,j,q,by dsimp only;omega,by dsimp only;omega⟩)
   .exact PH ⟨i,rfl,j,q,by dsimp only;omega,by dsimp only;omega⟩|false=>
  dsimp only;rw[if_neg (by decide)];refine Pu (aA (by omega) λy o m=>?_);have j:=t.nX m;have B:(e.push y).size=e.size+1:=Sa ..;by_cases f:(F+1+1==a.size)=Pa
  .rw[if_pos f];exact PH (.ret i j.last)
  .rw[if_neg f];have f:=aU f;split;.exact PH (.go ⟨i,rfl,j,by dsimp only;omega,l,by dsimp only;omega⟩)
   .exact PH ⟨i,rfl,j,by dsimp only;omega,l,by dsimp only;omega⟩
theorem Dj(C:Cm prog w A s κ a₀)(J:∀x∈a,x∈a₀)(m:∀x∈b,x∈a₀){i:Nat}{c:C5}{v:P_}(h:Go κ a₀ st a b i c.1 c.2.1 c.2.2.1 c.2.2.2.1 v):WN (Py prog w) A E s (Nu a b c) (λr e=>match r with
  |.done q=>∃z,q.1=O7 z/\z.Perm (a++b)/\Gs κ a₀ st e|.yield q=>Go κ a₀ st a b (i+1) q.1 q.2.1 q.2.2.1 q.2.2.2.1 e) v:=by
 refine Pu (bf (λj(d:C6)e=>Go κ a₀ st a b (i+j) d.1 d.2.1 d.2.2.1 d.2.2.2.1 e) (λd e=>Fi κ a₀ st a b (i+1) d.2.1 d.2.2.1 d.2.2.2.1 e d.1) ⟨h.g,rfl,h.l,h.a1,h.b1,h.o⟩ ?_ ?_ ?_)
 .rintro j d u _ P g;exact UX (Di C J m g (TF _ _)) λr e h=>by cases r<;>exact h
 .rintro⟨K,k,I,H,M,L⟩u g;obtain⟨F,D,n,B,y,G⟩:=g;dsimp only at F D n B y G;subst D;have:=n.size;exact .go ⟨F,rfl,n,B,y,by dsimp only;omega⟩
 .rintro⟨K,k,I,H,M,L⟩u f;dsimp only at f⊢;cases f with
  |ret g p=>exact PH ⟨_,rfl,p,g⟩|go g=>
   refine Pu (dP ?_);refine Pu (bf (λj(d:C7)e=>Go κ a₀ st a b (i+1) d.1 d.2.1 d.2.2.1 d.2.2.2.1 e) (λd e=>Fi κ a₀ st a b (i+1) d.2.1 d.2.2.1 d.2.2.2.1 e d.1) g ?_ ?_ ?_)
   .rintro j d t _ _ g;split;.exact UX (vF C J m g) λr e h=>by cases r<;>exact h
    .exact UX (vF C J m g) λr e h=>by cases r<;>exact h
   .rintro⟨K,k,I,H,mg,M,L⟩t g;obtain⟨F,D,n,B,y,G⟩:=g;dsimp only at F D n B y G;subst D;exact .go ⟨F,rfl,n,B,y,G⟩
   .rintro⟨K,k,I,H,mg,M,L⟩t f;dsimp only at f⊢;cases f with
    |ret g p=>exact PH ⟨_,rfl,p,g⟩|go g=>exact Pu (kK g.g λN O=>PH ⟨O,rfl,g.l,g.a1,g.b1,g.o⟩)
theorem rL(C:Cm prog w A s κ a₀){Q:Array PZ->P_->Prop}(h:Bs κ a₀ st)(D:∀x∈a,x∈a₀)(n:∀x∈b,x∈a₀)(ha:0<a.size)(hb:0<b.size)(q:∀r d,r.Perm (a++b)->Gs κ a₀ st d->Q r d):WN (Py prog w) A E s (jq a b) Q st:=by
 rw[xM];refine Pu (dP ?_);refine Pu (aA hb λx G ex=>?_);have m:Lo a b #[x] 0 1:=by
  have l:Lo a b #[] 0 0:=⟨by simp,Qb _,Qb _⟩;exact l.nY ex
 have t:Gs κ a₀ st st:=⟨h,rfl,rfl⟩;by_cases j:(1==b.size)=Pa
 .rw[if_pos j];exact PH (q _ _ m.done t)
 rw[if_neg j];by_cases f:(0+1==a.size)=Pa
 .rw[if_pos f];exact PH (q _ _ m.last t)
 rw[if_neg f];have j:=aU j;have f:=aU f;refine Pu (Ut ?_);refine Pu (bf (λi(c:C5)d=>Go κ a₀ st a b i c.1 c.2.1 c.2.2.1 c.2.2.2.1 d) (λc d=>∃z,c.1=O7 z/\z.Perm (a++b)/\Gs κ a₀ st d) ⟨t,rfl,m,by dsimp only;omega,by dsimp only;omega,by show 0<1;omega⟩ ?_ ?_ ?_)
 .rintro i c v _ _ g;exact UX (Dj C D n g) λr d h=>by cases r<;>exact h
 .rintro⟨F,k,B,y,mg⟩e g;have:=g.l.size;have:=g.o;have:=g.a1;have:=g.b1;dsimp only at*;omega
 .rintro⟨F,k,B,y,mg⟩e⟨z,u,p,g⟩;dsimp only at u⊢;subst u;exact PH (q z e p g)
end
end
end SrtP
end
section
namespace SrtP
open PySem PyProof.Rows
section
variable{prog:PF}{w:P0}{A:P9}{E:O_->Pe->Prop}{s:Pe}{κ:RF}{a₀:Array PZ}
noncomputable def jr:Array PZ->Array PZ->StateT P_ Vy (Array PZ):=sortPriv%PySem.Builtin.mergeHi
theorem rM(a b:Array PZ):jr a b=(do
 WQ "list.sort.merge-hi"let j:=a.size+b.size;let done(d:Array PZ)(f e:Nat):=a.extract 0 f++b.extract 0 e++d.reverse;let g(d:Array PZ)(f e:Nat):=b.extract 0 e++a.extract 0 f++d.reverse;let mut f:=a.size-1;let mut e:=b.size;let mut d:Array PZ:=#[<-RM a f]if f==0 then return done d f e
 if e==1 then return g d f e
 let mut c:=Yz (<-get)for _ in[0:j]do
  let mut i:=0;let mut h:=0;for _ in[0:j]do
   let O7 l<-lt' (<-RM b (e-1)) (<-RM a (f-1))|return done d f e
   if l then
    f:=f-1;d:=d.push (<-RM a f);i:=i+1;h:=0;if f==0 then return done d f e
    if i>=c then break
   else
    e:=e-1;d:=d.push (<-RM b e);h:=h+1;i:=0;if e==1 then return g d f e
    if h>=c then break
  WQ "list.sort.gallop"c:=c+1;for _ in[0:j]do
   if c>1 then c:=c-1
   aI c
   let O7 at_<-bU Pc (<-RM b (e-1)) a 0 f (f-1)|return done d f e
   let k:=f-at_;i:=k;if k>0 then
    d:=d++(a.extract at_ f).reverse;f:=at_;if f==0 then return done d f e
   e:=e-1;d:=d.push (<-RM b e)if e==1 then return g d f e
   let O7 at_<-bU Pa (<-RM a (f-1)) b 0 e (e-1)|return done d f e
   let k:=e-at_;h:=k;if k>0 then
    d:=d++(b.extract at_ e).reverse;e:=at_;if e==1 then return g d f e
    if e==0 then return done d f e
   f:=f-1;d:=d.push (<-RM a f)if f==0 then return done d f e
   if i<7&&h<7 then break
  c:=c+1;aI c
 VG "internal:list.sort.merge-bound"):=rfl
structure Hi(a b out:Array PZ)(na nb:Nat):Prop where
 p:(a.toList.take na++b.toList.take nb++out.toList).Perm (a.toList++b.toList)ha:na<=a.size
 hb:nb<=b.size
section
variable{a b out:Array PZ}{na nb k:Nat}{x:PZ}
theorem Hi.size(h:Hi a b out na nb):na+nb+out.size=a.size+b.size:=by
 have:=h.p.length_eq;have d:=h.ha;have c:=h.hb;simp only[P6,Tz,QO]at this;omega
noncomputable def vG(a b out:Array PZ)(na nb:Nat):Array PZ:=a.extract 0 na++b.extract 0 nb++out.reverse
noncomputable def Jp(a b out:Array PZ)(na nb:Nat):Array PZ:=b.extract 0 nb++a.extract 0 na++out.reverse
theorem EO(xs:Array PZ)(n:Nat):(xs.extract 0 n).toList=xs.toList.take n:=by
 rw[Sz,RS];rfl
theorem Hi.done(h:Hi a b out na nb):(vG a b out na nb).Perm (a++b):=by
 unfold vG;rw[RN];simp only[Q3,EO,Tv];exact(Qw _ (Uw _)).trans h.p
theorem Hi.first(h:Hi a b out na nb):(Jp a b out na nb).Perm (a++b):=by
 unfold Jp;rw[RN];simp only[Q3,EO,Tv];exact(List.Perm.append Sq (Uw _)).trans h.p
theorem rN{xs:Array PZ}{i:Nat}(e:xs[i]?=O7 x):xs.toList.take (i+1)=xs.toList.take i++[x]:=by
 obtain⟨hi,e⟩:=Array.getElem?_eq_some_iff.mp e;rw[List.take_succ_eq_append_getElem (by simpa using hi)];simp[e]
theorem fe(xs:Array PZ){i n:Nat}(h:i<=n):xs.toList.take n=xs.toList.take i++(xs.extract i n).toList:=by
 rw[Sz,RS];obtain⟨k,rfl⟩:∃k,n=i+k:=⟨n-i,by omega⟩;rw[V1,<-List.take_add]
theorem Hi.nX(h:Hi a b out na nb)(c:1<=na)(e:a[na-1]?=O7 x):Hi a b (out.push x) (na-1) nb:=by
 refine⟨?_,by have:=h.ha;omega,h.hb⟩;refine RD ?_ h.p;have:=rN e;rw[show na-1+1=na by omega]at this;rw[this,Rt];simp only[Qj];refine Qw _ ?_;rw[<-Qj];exact Sq
theorem Hi.nY(h:Hi a b out na nb)(c:1<=nb)(e:b[nb-1]?=O7 x):Hi a b (out.push x) na (nb-1):=by
 refine⟨?_,h.ha,by have:=h.hb;omega⟩;refine RD ?_ h.p;have:=rN e;rw[show nb-1+1=nb by omega]at this;rw[this,Rt];simp only[Qj];refine Qw _ (Qw _ ?_);exact Sq
theorem Hi.Hj(h:Hi a b out na nb)(c:k<=na):Hi a b (out++(a.extract k na).reverse) k nb:=by
 refine⟨?_,by have:=h.ha;omega,h.hb⟩;refine RD ?_ h.p;rw[fe a c,Q3,Tv];simp only[Qj];refine Qw _ ?_;rw[<-Qj];exact List.perm_append_comm.trans (S7 _ (Uw _))
theorem Hi.Hk(h:Hi a b out na nb)(c:k<=nb):Hi a b (out++(b.extract k nb).reverse) na k:=by
 refine⟨?_,h.ha,by have:=h.hb;omega⟩;refine RD ?_ h.p;rw[fe b c,Q3,Tv];simp only[Qj];refine Qw _ (Qw _ ?_);exact List.perm_append_comm.trans (S7 _ (Uw _))
end
abbrev D6:=Option (Array PZ)×Nat×Nat×Array PZ×Nat×Nat
abbrev D7:=Option (Array PZ)×Nat×Nat×Array PZ×Nat×Nat×Nat
abbrev D5:=Option (Array PZ)×Nat×Nat×Array PZ×Nat
noncomputable def yh(a b:Array PZ)(mg:Nat)(c:D6):SM (ForInStep D6):=do
 let y<-RM b (c.2.2.1-1)let x<-RM a (c.2.1-1)match<-lt' y x with
 |some d=>
  if d=Pa then do
   let z<-RM a (c.2.1-1)if(c.2.1-1==0)=Pa then pure (.done (O7 (vG a b (c.2.2.2.1.push z) (c.2.1-1) c.2.2.1),c.2.1-1,c.2.2.1,c.2.2.2.1.push z,c.2.2.2.2.1+1,0))else if c.2.2.2.2.1+1>=mg then pure (.done (Pb,c.2.1-1,c.2.2.1,c.2.2.2.1.push z,c.2.2.2.2.1+1,0))else pure (.yield (Pb,c.2.1-1,c.2.2.1,c.2.2.2.1.push z,c.2.2.2.2.1+1,0))else do
   let z<-RM b (c.2.2.1-1)if(c.2.2.1-1==1)=Pa then pure (.done (O7 (Jp a b (c.2.2.2.1.push z) c.2.1 (c.2.2.1-1)),c.2.1,c.2.2.1-1,c.2.2.2.1.push z,0,c.2.2.2.2.2+1))else if c.2.2.2.2.2+1>=mg then pure (.done (Pb,c.2.1,c.2.2.1-1,c.2.2.2.1.push z,0,c.2.2.2.2.2+1))else pure (.yield (Pb,c.2.1,c.2.2.1-1,c.2.2.2.1.push z,0,c.2.2.2.2.2+1))|_=>pure (.done (O7 (vG a b c.2.2.2.1 c.2.1 c.2.2.1),c.2))
noncomputable def Nv(a b:Array PZ)(mg g f d:Nat)(c:Array PZ)(e:Nat):SM (ForInStep D7):=do
 let z<-RM a (d-1)if(d-1==0)=Pa then pure (.done (O7 (vG a b (c.push z) (d-1) e),d-1,e,c.push z,mg,g,f))else if(decide (g<7)&&decide (f<7))=Pa then pure (.done (Pb,d-1,e,c.push z,mg,g,f))else pure (.yield (Pb,d-1,e,c.push z,mg,g,f))
noncomputable def Mw(a b:Array PZ)(mg f g d:Nat)(c:Array PZ)(e:Nat):SM (ForInStep D7):=do
 let z<-RM b (d-1)if(d-1==1)=Pa then pure (.done (O7 (Jp a b (c.push z) e (d-1)),e,d-1,c.push z,mg,f,g))else do
  let x<-RM a (e-1)match<-bU Pa x b 0 (d-1) (d-1-1)with
  |some p=>
   if d-1-p>0 then
    if(p==1)=Pa then pure (.done (O7 (Jp a b (c.push z++(b.extract p (d-1)).reverse) e p),e,p,c.push z++(b.extract p (d-1)).reverse,mg,f,d-1-p))else if(p==0)=Pa then pure (.done (O7 (vG a b (c.push z++(b.extract p (d-1)).reverse) e p),e,p,c.push z++(b.extract p (d-1)).reverse,mg,f,d-1-p))else Nv a b mg f (d-1-p) e (c.push z++(b.extract p (d-1)).reverse) p;else Nv a b mg f (d-1-p) e (c.push z) (d-1)|_=>pure (.done (O7 (vG a b (c.push z) e (d-1)),e,d-1,c.push z,mg,f,g))
noncomputable def qv(a b:Array PZ)(c:D7)(mg:Nat):SM (ForInStep D7):=do
 aI mg;let y<-RM b (c.2.2.1-1)match<-bU Pc y a 0 c.2.1 (c.2.1-1)with
 |some p=>
  if c.2.1-p>0 then
   if(p==0)=Pa then pure (.done (O7 (vG a b (c.2.2.2.1++(a.extract p c.2.1).reverse) p c.2.2.1),p,c.2.2.1,c.2.2.2.1++(a.extract p c.2.1).reverse,mg,c.2.1-p,c.2.2.2.2.2.2))else Mw a b mg (c.2.1-p) c.2.2.2.2.2.2 c.2.2.1 (c.2.2.2.1++(a.extract p c.2.1).reverse) p;else Mw a b mg (c.2.1-p) c.2.2.2.2.2.2 c.2.2.1 c.2.2.2.1 c.2.1|_=>pure (.done (O7 (vG a b c.2.2.2.1 c.2.1 c.2.2.1),c.2.1,c.2.2.1,c.2.2.2.1,mg,c.2.2.2.2.2.1,c.2.2.2.2.2.2))
noncomputable def Nw(a b:Array PZ)(c:D5):SM (ForInStep D5):=do
 let d<-forIn [0:a.size+b.size] ((Pb,c.2.1,c.2.2.1,c.2.2.2.1,0,0):D6) λ_ d=>yh a b c.2.2.2.2 d;match d.1 with
 |some r=>pure (.done (O7 r,d.2.1,d.2.2.1,d.2.2.2.1,c.2.2.2.2))|none=>do
  liftM (WQ "list.sort.gallop")let e<-forIn [0:a.size+b.size] ((Pb,d.2.1,d.2.2.1,d.2.2.2.1,c.2.2.2.2+1,d.2.2.2.2.1,d.2.2.2.2.2):D7) λ_ e=>if e.2.2.2.2.1>1 then qv a b e (e.2.2.2.2.1-1)else qv a b e e.2.2.2.2.1;match e.1 with
  |some r=>pure (.done (O7 r,e.2.1,e.2.2.1,e.2.2.2.1,e.2.2.2.2.1))|none=>do
   aI (e.2.2.2.2.1+1)pure (.yield (Pb,e.2.1,e.2.2.1,e.2.2.2.1,e.2.2.2.2.1+1))
theorem xN(a b:Array PZ):jr a b=(do
 liftM (WQ "list.sort.merge-hi")let x<-RM a (a.size-1)if(a.size-1==0)=Pa then pure (vG a b #[x] (a.size-1) b.size)else if(b.size==1)=Pa then pure (Jp a b #[x] (a.size-1) b.size)else do
  let st<-get;let c<-forIn [0:a.size+b.size] ((Pb,a.size-1,b.size,#[x],Yz st):D5) λ_ c=>Nw a b c;match c.1 with
  |some r=>pure r|none=>liftM (VG "internal:list.sort.merge-bound":Vy (Array PZ))):=by
 rw[rM];dsimp only;refine congrArg _ (funext λ_=>?_);refine congrArg _ (funext λx=>?_);refine congrArg _ ?_;refine congrArg _ ?_;refine congrArg _ (funext λst=>?_);refine congr (congrArg _ ?_) (funext λc=>by obtain⟨e,c⟩:=c;cases e<;>rfl);refine congrArg _ (funext λ_=>funext λc=>?_);unfold Nw;refine congr (congrArg _ rfl) (funext λd=>?_);obtain⟨f,d⟩:=d;cases f with
 |some r=>rfl|none=>
  dsimp only;refine congrArg _ (funext λ_=>?_);refine congr (congrArg _ ?_) (funext λc=>by obtain⟨e,c⟩:=c;cases e<;>rfl);refine congrArg _ (funext λ_=>funext λc=>?_);unfold qv;refine congr (congrArg _ ?_) ?_;all_goals
   refine congrArg _ (funext λ_=>?_);refine congrArg _ (funext λy=>?_);refine congrArg _ (funext λk=>?_);cases k with
   |none=>rfl|some k=>
    dsimp only;unfold Mw;refine congr (congrArg _ ?_) ?_
    .refine congrArg _ ?_;refine congrArg _ (funext λy=>?_);refine congrArg _ ?_;refine congrArg _ (funext λy=>?_);refine congrArg _ (funext λk=>?_);cases k<;>rfl
    .refine congrArg _ (funext λy=>?_);refine congrArg _ ?_;refine congrArg _ (funext λy=>?_);refine congrArg _ (funext λk=>?_);cases k<;>rfl
structure Ho(κ:RF)(a₀:Array PZ)(st:P_)(a b:Array PZ)(o0:Nat)(r:Option (Array PZ))(out:Array PZ)(na nb:Nat)(st':P_):Prop where
 g:Gs κ a₀ st st'
 n:r=Pb
 l:Hi a b out na nb
 a1:1<=na
 b1:2<=nb
 o:o0<out.size
inductive Hf(κ:RF)(a₀:Array PZ)(st:P_)(a b:Array PZ)(o0:Nat)(out:Array PZ)(na nb:Nat)(st':P_):Option (Array PZ)->Prop where|ret{z:Array PZ}(g:Gs κ a₀ st st')(p:z.Perm (a++b)):Hf κ a₀ st a b o0 out na nb st' (O7 z)|go(h:Ho κ a₀ st a b o0 Pb out na nb st'):Hf κ a₀ st a b o0 out na nb st' Pb
section
variable{st:P_}{a b:Array PZ}
noncomputable abbrev R7(κ:RF)(a₀:Array PZ)(st:P_)(a b:Array PZ)(e:Nat):ForInStep D7->P_->Prop:=λr d=>match r with
 |.done c=>Hf κ a₀ st a b e c.2.2.2.1 c.2.1 c.2.2.1 d c.1|.yield c=>Ho κ a₀ st a b e c.1 c.2.2.2.1 c.2.1 c.2.2.1 d
theorem vH(y:∀x∈a,x∈a₀){mg p n e j i:Nat}{c:Array PZ}{d:P_}(h:Ho κ a₀ st a b i Pb c e j d):WN (Py prog w) A E s (Nv a b mg p n e c j) (R7 κ a₀ st a b i) d:=by
 have m:=h.a1;have q:=h.l.ha;refine Pu (aA (by omega) λv u ev=>?_);have k:=h.l.nX m ev;have t:(c.push v).size=c.size+1:=Sa ..;have r:=h.o;by_cases f:(e-1==0)=Pa
 .rw[if_pos f];exact PH (.ret h.g k.done)
 rw[if_neg f];have f:=aU f;have g:Ho κ a₀ st a b i Pb (c.push v) (e-1) j d:=⟨h.g,rfl,k,by omega,h.b1,by omega⟩;split;.exact PH (.go g)
 .exact PH g
theorem vI(C:Cm prog w A s κ a₀)(r:∀x∈a,x∈a₀)(q:∀x∈b,x∈a₀){mg D B u e t:Nat}{c:Array PZ}{d:P_}(h:Ho κ a₀ st a b t Pb c u e d):WN (Py prog w) A E s (Mw a b mg D B e c u) (R7 κ a₀ st a b t) d:=by
 have H:=h.b1;have G:=h.l.hb;have F:=h.a1;have y:=h.l.ha;refine Pu (aA (by omega) λv K ev=>?_);have p:=h.l.nY (by omega) ev;have J:(c.push v).size=c.size+1:=Sa ..;have I:=h.o;by_cases m:(e-1==1)=Pa
 .rw[if_pos m];exact PH (.ret h.g p.first)
 rw[if_neg m];have m:=aU m;refine Pu (aA (by omega) λx z ex=>?_);refine Pu (cX C h.g.b.k q (r x z) (by omega) (by omega) λk L=>?_);show WN _ _ _ _ (if e-1-k>0 then _ else _) _ _;by_cases f:e-1-k>0
 .rw[if_pos f];have n:=p.Hk (k:=k) (by omega);by_cases j:(k==1)=Pa
  .rw[if_pos j];exact PH (.ret h.g n.first)
  .rw[if_neg j];have j:=aU j;by_cases i:(k==0)=Pa
   .rw[if_pos i];exact PH (.ret h.g n.done)
   .rw[if_neg i];have i:=aU i;exact vH r ⟨h.g,rfl,n,h.a1,by omega,by rw[Uv];omega⟩
 .rw[if_neg f];exact vH r ⟨h.g,rfl,p,h.a1,by omega,by omega⟩
theorem vJ(C:Cm prog w A s κ a₀)(l:∀x∈a,x∈a₀)(d:∀x∈b,x∈a₀){mg n:Nat}{c:D7}{e:P_}(h:Ho κ a₀ st a b n c.1 c.2.2.2.1 c.2.1 c.2.2.1 e):WN (Py prog w) A E s (qv a b c mg) (R7 κ a₀ st a b n) e:=by
 obtain⟨K,o,I,z,B,M,L⟩:=c;obtain⟨u,t,g,r,m,q⟩:=h;dsimp only at u t g r m q;subst t;have H:=g.ha;have G:=g.hb;refine Pu (kK u λv j=>?_);refine Pu (aA (by dsimp only;omega) λy D J=>?_);refine Pu (cX C j.b.k l (d y D) (by dsimp only;omega) (by dsimp only;omega) λk F=>?_);show WN _ _ _ _ (if o-k>0 then _ else _) _ _;dsimp only at F⊢;by_cases f:o-k>0
 .rw[if_pos f];have p:=g.Hj (k:=k) (by omega);by_cases i:(k==0)=Pa
  .rw[if_pos i];exact PH (.ret j p.done)
  rw[if_neg i];have i:=aU i;exact vI C l d ⟨j,rfl,p,by omega,m,by rw[Uv];omega⟩
 .rw[if_neg f];exact vI C l d ⟨j,rfl,g,r,m,q⟩
theorem Dl(C:Cm prog w A s κ a₀)(H:∀x∈a,x∈a₀)(q:∀x∈b,x∈a₀){mg u o:Nat}{c:D6}{d:P_}(h:Ho κ a₀ st a b o c.1 c.2.2.2.1 c.2.1 c.2.2.1 d)(M:u<=o):WN (Py prog w) A E s (yh a b mg c) (λr d=>match r with
  |.done g=>Hf κ a₀ st a b (u+1) g.2.2.2.1 g.2.1 g.2.2.1 d g.1|.yield g=>Ho κ a₀ st a b (o+1) g.1 g.2.2.2.1 g.2.1 g.2.2.1 d) d:=by
 obtain⟨O,F,D,e,Q,P⟩:=c;obtain⟨i,v,l,m,t,I⟩:=h;dsimp only at i v l m t I;subst v;have L:=l.ha;have K:=l.hb;refine Pu (aA (by dsimp only;omega) λy p n=>?_);refine Pu (aA (by dsimp only;omega) λz G N=>?_);refine Pu (lX C i.b.k (q y p) (H z G) λJ=>?_);cases J with
 |true=>
  dsimp only;rw[if_pos rfl];refine Pu (aA (by omega) λy p n=>?_);have j:=l.nX m n;have B:(e.push y).size=e.size+1:=Sa ..;by_cases f:(F-1==0)=Pa
  .rw[if_pos f];exact PH (.ret i j.done)
  .rw[if_neg f];have f:=aU f;split;.exact PH (.go ⟨i,rfl,j,by dsimp only;omega,t,by dsimp only;omega⟩)
   .exact PH ⟨i,rfl,j,by dsimp only;omega,t,by dsimp only;omega⟩|false=>
  dsimp only;rw[if_neg (by decide)];refine Pu (aA (by omega) λy p n=>?_);have j:=l.nY (by omega) n;have B:(e.push y).size=e.size+1:=Sa ..;by_cases f:(D-1==1)=Pa
  .rw[if_pos f];exact PH (.ret i j.first)
  .rw[if_neg f];have f:=aU f;split;.exact PH (.go ⟨i,rfl,j,m,by dsimp only;omega,by dsimp only;omega⟩)
   .exact PH ⟨i,rfl,j,m,by dsimp only;omega,by dsimp only;omega⟩
theorem Dm(C:Cm prog w A s κ a₀)(J:∀x∈a,x∈a₀)(m:∀x∈b,x∈a₀){i:Nat}{c:D5}{v:P_}(h:Ho κ a₀ st a b i c.1 c.2.2.2.1 c.2.1 c.2.2.1 v):WN (Py prog w) A E s (Nw a b c) (λr e=>match r with
  |.done q=>∃z,q.1=O7 z/\z.Perm (a++b)/\Gs κ a₀ st e|.yield q=>Ho κ a₀ st a b (i+1) q.1 q.2.2.2.1 q.2.1 q.2.2.1 e) v:=by
 refine Pu (bf (λj(d:D6)e=>Ho κ a₀ st a b (i+j) d.1 d.2.2.2.1 d.2.1 d.2.2.1 e) (λd e=>Hf κ a₀ st a b (i+1) d.2.2.2.1 d.2.1 d.2.2.1 e d.1) ⟨h.g,rfl,h.l,h.a1,h.b1,h.o⟩ ?_ ?_ ?_)
 .rintro j d u _ P g;exact UX (Dl C J m g (TF _ _)) λr e h=>by cases r<;>exact h
 .rintro⟨K,I,H,k,M,L⟩u g;obtain⟨F,D,n,B,y,G⟩:=g;dsimp only at F D n B y G;subst D;have:=n.size;exact .go ⟨F,rfl,n,B,y,by dsimp only;omega⟩
 .rintro⟨K,I,H,k,M,L⟩u f;dsimp only at f⊢;cases f with
  |ret g p=>exact PH ⟨_,rfl,p,g⟩|go g=>
   refine Pu (dP ?_);refine Pu (bf (λj(d:D7)e=>Ho κ a₀ st a b (i+1) d.1 d.2.2.2.1 d.2.1 d.2.2.1 e) (λd e=>Hf κ a₀ st a b (i+1) d.2.2.2.1 d.2.1 d.2.2.1 e d.1) g ?_ ?_ ?_)
   .rintro j d t _ _ g;split;.exact UX (vJ C J m g) λr e h=>by cases r<;>exact h
    .exact UX (vJ C J m g) λr e h=>by cases r<;>exact h
   .rintro⟨K,I,H,k,mg,M,L⟩t g;obtain⟨F,D,n,B,y,G⟩:=g;dsimp only at F D n B y G;subst D;exact .go ⟨F,rfl,n,B,y,G⟩
   .rintro⟨K,I,H,k,mg,M,L⟩t f;dsimp only at f⊢;cases f with
    |ret g p=>exact PH ⟨_,rfl,p,g⟩|go g=>exact Pu (kK g.g λN O=>PH ⟨O,rfl,g.l,g.a1,g.b1,g.o⟩)
theorem rO(C:Cm prog w A s κ a₀){Q:Array PZ->P_->Prop}(h:Bs κ a₀ st)(D:∀x∈a,x∈a₀)(n:∀x∈b,x∈a₀)(ha:0<a.size)(hb:0<b.size)(q:∀r d,r.Perm (a++b)->Gs κ a₀ st d->Q r d):WN (Py prog w) A E s (jr a b) Q st:=by
 rw[xN];refine Pu (dP ?_);refine Pu (aA (by omega) λx G ex=>?_);have m:Hi a b #[x] (a.size-1) b.size:=by
  have l:Hi a b #[] a.size b.size:=⟨by simp[SS],Pq _,Pq _⟩;exact l.nX ha ex
 have t:Gs κ a₀ st st:=⟨h,rfl,rfl⟩;by_cases j:(a.size-1==0)=Pa
 .rw[if_pos j];exact PH (q _ _ m.done t)
 rw[if_neg j];by_cases f:(b.size==1)=Pa
 .rw[if_pos f];exact PH (q _ _ m.first t)
 rw[if_neg f];have j:=aU j;have f:=aU f;refine Pu (Ut ?_);refine Pu (bf (λi(c:D5)d=>Ho κ a₀ st a b i c.1 c.2.2.2.1 c.2.1 c.2.2.1 d) (λc d=>∃z,c.1=O7 z/\z.Perm (a++b)/\Gs κ a₀ st d) ⟨t,rfl,m,by dsimp only;omega,by dsimp only;omega,by show 0<1;omega⟩ ?_ ?_ ?_)
 .rintro i c v _ _ g;exact UX (Dm C D n g) λr d h=>by cases r<;>exact h
 .rintro⟨F,B,y,k,mg⟩e g;have:=g.l.size;have:=g.o;have:=g.a1;have:=g.b1;dsimp only at*;omega
 .rintro⟨F,B,y,k,mg⟩e⟨z,u,p,g⟩;dsimp only at u⊢;subst u;exact PH (q z e p g)
end
end
end SrtP
end
section
namespace SrtP
open PySem PyProof.Rows
inductive Runs:Nat->List (Nat×Nat×Nat)->Nat->Prop where|nil(s:Nat):Runs s [] s|cons{s n p e:Nat}{r:List (Nat×Nat×Nat)}(h:1<=n)(t:Runs (s+n) r e):Runs s ((s,n,p)::r) e
theorem Runs.le{s e:Nat}{l:List (Nat×Nat×Nat)}(h:Runs s l e):s<=e:=by induction h with
 |nil=>exact Pq _|cons _ _ a=>omega
theorem Runs.snoc{s e n p:Nat}{l:List (Nat×Nat×Nat)}(h:Runs s l e)(b:1<=n):Runs s (l++[(e,n,p)]) (e+n):=by induction h with
 |nil s=>exact .cons b (.nil _)|cons h t a=>exact .cons h a
theorem Runs.mod{s e i:Nat}{l:List (Nat×Nat×Nat)}(pw:Nat)(h:Runs s l e):Runs s (l.modify i λx=>(x.1,x.2.1,pw)) e:=by induction h generalizing i with
 |nil s=>cases i<;>exact .nil s|cons h t a=>cases i with
  |zero=>exact .cons h t|succ i=>exact .cons h a
theorem Runs.two{s e:Nat}:∀{i:Nat}{l:List (Nat×Nat×Nat)},Runs s l e->i+1<l.length->∃sa a p b q,l[i]?=O7 (sa,a,p)/\l[i+1]?=O7 (sa+a,b,q)/\1<=a/\1<=b/\sa+a+b<=e/\Runs s ((l.set i (sa,a+b,p)).eraseIdx (i+1)) e
 |i,[],h,hi=>by simp at hi|0,[_],h,hi=>by simp at hi|0,_::_::_,.cons (n:=n) (p:=p) c (.cons (n:=m) (p:=q) d t),hi=>⟨_,n,p,m,q,rfl,rfl,c,d,t.le,.cons (by omega) (by rw[<-TN];exact t)⟩|i+1,_::_,.cons c t,hi=>by
  obtain⟨sa,a,p,b,q,r,o,k,j,g,f⟩:=t.two (i:=i) (by simpa using hi);exact⟨sa,a,p,b,q,by simpa using r,by simpa using o,k,j,g,.cons c f⟩
theorem rP:∀(m pre c b:List PZ)(k:Nat),c.length=m.length->∀(xs:Array PZ),xs.toList=pre++c++b->k<=pre.length->((m.zipIdx k).foldl (λa(x:PZ×Nat)=>a.setIfInBounds (pre.length-k+x.2) x.1) xs).toList=pre++m++b
 |[],pre,c,b,k,h,xs,e,_=>by cases c with
  |nil=>exact e|cons _ _=>simp at h
 |y::m,pre,[],b,k,h,xs,e,_=>by simp at h|y::m,pre,z::c,b,k,h,xs,e,g=>by
  simp only[List.zipIdx_cons,List.foldl_cons];have f:(xs.setIfInBounds (pre.length-k+k) y).toList=(pre++[y])++c++b:=by
   rw[show pre.length-k+k=pre.length by omega+splitNatSub,Vr,e];simp
  have:=rP m (pre++[y]) c b (k+1) (by simpa using h) _ f (by simp;omega+splitNatSub);have d:(pre++[y]).length-(k+1)=pre.length-k:=by simp
  rw[d]at this;rw[this];simp
section
variable{prog:PF}{w:P0}{A:P9}{E:O_->Pe->Prop}{s:Pe}{κ:RF}{a₀:Array PZ}
theorem rQ(i:Nat):mergeAt' i=(do
 let s<-get
 let(O7 (sa,d,b),O7 (sb,c,_)):=((PU s)[i]?,(PU s)[i+1]?)|unsupported "internal:list.sort.pending"
 set (setPending s (((PU s).setIfInBounds i (sa,d+c,b)).eraseIdxIfInBounds (i+1)))
 let O7 k<-bU Pc (<-RM (R0 s) sb) (R0 s) sa d 0|return Pc
 let(sa,d):=(sa+k,d-k)if d==0 then return Pa
 let O7 c<-bU Pa (<-RM (R0 s) (sa+d-1)) (R0 s) sb c (c-1)|return Pc
 if c==0 then return Pa
 let x:=(R0 s).extract sa sb;let y:=(R0 s).extract sb (sb+c)let merged<-if d<=c then jq x y else jr x y
 modify λs=>setArr s (merged.toList.zipIdx.foldl (λa(p,j)=>a.setIfInBounds (sa+j) p) (R0 s))return(VY (<-get)).isNone):=rfl
theorem vK{xs:Array PZ}{i j:Nat}{z:PZ}(h:z∈xs.extract i j):z∈xs:=by
 rw[<-UU,Sz,RS]at h;exact Array.mem_toList_iff.mp (W5 (W4 h))
theorem Dp{Q:PUnit->P_->Prop}{st a:P_}(h:Q ⟨⟩ a):WN (Py prog w) A E s (set a:StateT P_ Vy PUnit) Q st:=by
 unfold WN;rw[StateT.run_set];exact Pf ⟨rfl,h⟩
theorem gj(C:Cm prog w A s κ a₀){st:P_}{i lo:Nat}{Q:Bool->P_->Prop}(h:Bs κ a₀ st)(N:Runs 0 (PU st).toList lo)(U:lo<=a₀.size)(hi:i+1<(PU st).size)(q:∀t,Bs κ a₀ t->Runs 0 (PU t).toList lo->Q Pa t):WN (Py prog w) A E s (mergeAt' i) Q st:=by
 obtain⟨sa,d,p,G,L,T,S,Y,X,W,R⟩:=N.two (i:=i) (by simpa using hi);rw[rQ];refine Pu (Ut ?_);rw[show(PU st)[i]?=O7 (sa,d,p)by rw[<-QY];exact T,show(PU st)[i+1]?=O7 (sa+d,G,L)by rw[<-QY];exact S];dsimp only;refine Pu (Dp ?_);have M:=h.size;generalize l:setPending st (((PU st).setIfInBounds i (sa,d+G,p)).eraseIdxIfInBounds (i+1))=st1;have b1:Bs κ a₀ st1:=by subst l;exact⟨h.k,h.p,h.f⟩
 have F:Runs 0 (PU st1).toList lo:=by
  subst l;show Runs 0 (((PU st).setIfInBounds i (sa,d+G,p)).eraseIdxIfInBounds (i+1)).toList lo;rw[Array.eraseIdxIfInBounds_eq,dif_pos (by rw[Array.size_setIfInBounds];exact hi),Array.toList_eraseIdx,Vr];exact R
 have a1:R0 st1=R0 st:=by subst l;rfl
 clear l;refine Pu (aA (by omega) λx B _=>?_);refine Pu (cX C b1.k (λy o=>h.mem o) (h.mem B) (by omega) (by omega) λk V=>?_);dsimp only;by_cases D:(d-k==0)=Pa
 .rw[if_pos D];exact PH (q st1 b1 F)
 rw[if_neg D];have D:=aU D;refine Pu (aA (by omega) λy o _=>?_);refine Pu (cX C b1.k (λy o=>h.mem o) (h.mem o) (by omega) (by omega) λm O=>?_);dsimp only;by_cases n:(m==0)=Pa
 .rw[if_pos n];exact PH (q st1 b1 F)
 rw[if_neg n];have n:=aU n;have B:0<((R0 st).extract (sa+k) (sa+d)).size:=by rw[XI];omega
 have o:0<((R0 st).extract (sa+d) (sa+d+m)).size:=by rw[XI];omega
 have J:∀z∈(R0 st).extract (sa+k) (sa+d),z∈a₀:=λz H=>h.mem (vK H);have I:∀z∈(R0 st).extract (sa+d) (sa+d+m),z∈a₀:=λz H=>h.mem (vK H);have v:∀(r:Array PZ)(c:P_),r.Perm ((R0 st).extract (sa+k) (sa+d)++(R0 st).extract (sa+d) (sa+d+m))->Gs κ a₀ st1 c->WN (Py prog w) A E s (do
   modify λs=>setArr s (r.toList.zipIdx.foldl (λa(x:PZ×Nat)=>match x with|(p,j)=>a.setIfInBounds (sa+k+j) p) (R0 s))let __do_lift<-get;pure (VY __do_lift).isNone) Q c:=λr c u g=>by
  refine Pu (SY ?_);refine Pu (Ut ?_);have P:(VY (setArr c (r.toList.zipIdx.foldl (λa(x:PZ×Nat)=>match x with|(p,j)=>a.setIfInBounds (sa+k+j) p) (R0 c)))).isNone=Pa:=by
   show(VY c).isNone=Pa;rw[g.b.f];rfl
  rw[P];refine PH (q _ ⟨g.b.k,?_,g.b.f⟩ ?_)
  .show(r.toList.zipIdx.foldl (λa(x:PZ×Nat)=>match x with|(p,j)=>a.setIfInBounds (sa+k+j) p) (R0 c)).Perm a₀;rw[g.e,a1];refine Array.Perm.trans ?_ h.p;rw[RN];have K:=rP r.toList ((R0 st).toList.take (sa+k)) (((R0 st).extract (sa+k) (sa+d)++(R0 st).extract (sa+d) (sa+d+m)).toList) ((R0 st).toList.drop (sa+d+m)) 0 (by rw[QO,QO];exact u.size_eq.symm) (R0 st) ?_ (Qb _)
   .rw[show((R0 st).toList.take (sa+k)).length-0=sa+k by simp;omega]at K;refine RD (T5 K) ?_;refine RD (S7 _ (Qw _ u.toList)) (T5 ?_);rw[Q3,<-Qj,<-fe _ (by omega),<-fe _ (by omega),RV]
   .rw[Q3,<-Qj,<-fe _ (by omega),<-fe _ (by omega),RV]
  .show Runs 0 (PU c).toList lo;rw[g.p];exact F
 split;.exact Pu (rL C b1 J I B o λr c u g=>v r c u g)
 .exact Pu (rO C b1 J I B o λr c u g=>v r c u g)
end
end SrtP
end
section
namespace SrtP
open PySem PyProof.Rows
section
variable{prog:PF}{w:P0}{A:P9}{E:O_->Pe->Prop}{s:Pe}{κ:RF}{a₀:Array PZ}
theorem lY:∀(f n r:Nat),1<=n->1<=minRun' f n r
 |0,n,r,h=>by show 1<=n+r;omega|f+1,n,r,h=>by
  rw[minRun'_succ];split;.omega
  .exact lY f _ _ (by omega)
theorem Hl(c:Prop)[Decidable c]{n:Nat}(h:2<=n):(if c then n-2-1 else n-2)+1<n:=by split<;>omega+splitNatSub
theorem Ab(C:Cm prog w A s κ a₀){st:P_}{Q:Unit->P_->Prop}(h:Bs κ a₀ st)(j:PU st=#[])(q:∀a,Bs κ a₀ a->Q () a):WN (Py prog w) A E s sortRuns' Q st:=by
 rw[sortRuns'_eq];refine Pu (Ut ?_);have G:=h.size;dsimp only;rw[G];refine Pu (bf (λ_(c:Option Unit×Nat)a=>c.1=Pb/\Bs κ a₀ a/\Runs 0 (PU a).toList c.2/\c.2<=a₀.size) (λc a=>c.1=Pb/\Bs κ a₀ a/\∃lo,Runs 0 (PU a).toList lo/\lo<=a₀.size) ⟨rfl,h,by rw[j];exact .nil _,Qb _⟩ ?_ (λc a z=>⟨z.1,z.2.1,_,z.2.2⟩) ?_)
 .rintro i⟨W,lo⟩F _ _⟨v,b1,t,o⟩;dsimp only at v t o⊢;subst v;by_cases K:lo>=a₀.size
  .rw[if_pos K];exact PH ⟨rfl,b1,lo,t,o⟩
  .rw[if_neg K];refine Pu (xK C b1 (by omega) (by omega) λn b u V d R=>?_);have e:Runs 0 (PU b).toList lo:=by rw[R];exact t
   dsimp only;have H:=lY a₀.size a₀.size 0 (by omega);generalize minRun' a₀.size a₀.size 0=D at H⊢;by_cases J:n<D
   .rw[if_pos J];refine Pu (dP ?_);have hN:1<=min (a₀.size-lo) D:=by omega
    have B:lo+min (a₀.size-lo) D<=a₀.size:=by omega
    generalize min (a₀.size-lo) D=m at hN B⊢;refine Pu (Dh C d B λg l P=>?_);have r:Runs 0 (PU g).toList lo:=by rw[P];exact e
    simp only[Rb,P4,if_false];refine Pu (Ut ?_);cases I:(PU g).back? with
    |none=>
     dsimp only;refine Pu (SY (PH ⟨rfl,⟨l.k,l.p,l.f⟩,?_,by dsimp only;omega⟩));show Runs 0 ((PU g).push (lo,m,0)).toList (lo+m);rw[Rt];exact r.snoc hN|some x=>
     obtain⟨O,n1,S⟩:=x;dsimp only;refine Pu (bf (λ_ c a=>c=(Pb,())/\Bs κ a₀ a/\Runs 0 (PU a).toList lo) (λc a=>c=(Pb,())/\Bs κ a₀ a/\Runs 0 (PU a).toList lo) ⟨rfl,l,r⟩ ?_ (λ_ _ z=>z) ?_)
     .rintro i c b _ _⟨rfl,d,e⟩;refine Pu (Ut ?_);by_cases j:(PU b).size>1
      .rw[if_pos j];cases U:(PU b)[(PU b).size-2]? with
       |none=>exact PH ⟨rfl,d,e⟩|some y=>
        obtain⟨N,M,L⟩:=y;dsimp only;split;.exact PH ⟨rfl,d,e⟩
        .refine Pu (gj C d e (by omega) (by omega) λg l r=>?_);exact PH ⟨rfl,l,r⟩
      .rw[if_neg j];exact PH ⟨rfl,d,e⟩
     .rintro c b⟨rfl,d,e⟩;dsimp only;refine Pu (SY (Pu (SY (PH ⟨rfl,⟨d.k,d.p,d.f⟩,?_,by dsimp only;omega⟩))));show Runs 0 (((PU b).modify ((PU b).size-1) _).push (lo,m,0)).toList (lo+m);rw[Rt,Xo];exact(e.mod _).snoc hN
   .rw[if_neg J];refine Pu (Ut ?_);cases I:(PU b).back? with
    |none=>
     dsimp only;refine Pu (SY (PH ⟨rfl,⟨d.k,d.p,d.f⟩,?_,by dsimp only;omega⟩));show Runs 0 ((PU b).push (lo,n,0)).toList (lo+n);rw[Rt];exact e.snoc u|some x=>
     obtain⟨O,n1,S⟩:=x;dsimp only;refine Pu (bf (λ_ c a=>c=(Pb,())/\Bs κ a₀ a/\Runs 0 (PU a).toList lo) (λc a=>c=(Pb,())/\Bs κ a₀ a/\Runs 0 (PU a).toList lo) ⟨rfl,d,e⟩ ?_ (λ_ _ z=>z) ?_)
     .rintro i c b _ _⟨rfl,d,e⟩;refine Pu (Ut ?_);by_cases j:(PU b).size>1
      .rw[if_pos j];cases U:(PU b)[(PU b).size-2]? with
       |none=>exact PH ⟨rfl,d,e⟩|some y=>
        obtain⟨N,M,L⟩:=y;dsimp only;split;.exact PH ⟨rfl,d,e⟩
        .refine Pu (gj C d e (by omega) (by omega) λg l r=>?_);exact PH ⟨rfl,l,r⟩
      .rw[if_neg j];exact PH ⟨rfl,d,e⟩
     .rintro c b⟨rfl,d,e⟩;dsimp only;refine Pu (SY (Pu (SY (PH ⟨rfl,⟨d.k,d.p,d.f⟩,?_,by dsimp only;omega⟩))));show Runs 0 (((PU b).modify ((PU b).size-1) _).push (lo,n,0)).toList (lo+n);rw[Rt,Xo];exact(e.mod _).snoc u
 .rintro⟨W,T⟩F⟨v,b1,lo,t,o⟩;dsimp only at v⊢;subst v;refine Pu (bf (λ_ c a=>c=(Pb,())/\Bs κ a₀ a/\Runs 0 (PU a).toList lo) (λc a=>c=(Pb,())/\Bs κ a₀ a/\Runs 0 (PU a).toList lo) ⟨rfl,b1,t⟩ ?_ (λ_ _ z=>z) ?_)
  .rintro i c b _ _⟨rfl,d,e⟩;refine Pu (Ut ?_);by_cases j:(PU b).size<=1
   .rw[if_pos j];exact PH ⟨rfl,d,e⟩
   .rw[if_neg j];refine Pu (gj C d e o (Hl _ (by omega)) λg l r=>?_);exact PH ⟨rfl,l,r⟩
  .rintro c b⟨rfl,d,e⟩;exact PH (q b d)
end
end SrtP
end
section
namespace SrtP
open PySem PySem.W PyProof.Rows L2
noncomputable def Kept(a:Pg)(h h':P7):Prop:=∀b o,b≠a->h.get? b=O7 o->h'.get? b=O7 o
noncomputable abbrev dz(h h':P7):Prop:=∀b o,h.get? b=O7 o->h'.get? b=O7 o
section
variable{prog:PF}{w:P0}{A:P9}{E:O_->Pe->Prop}{s:Pe}
theorem rR(vs:List O_):(vs.toArray.zip vs.toArray).toList=vs.map λv=>(v,v):=by
 rw[Array.toList_zip];induction vs with
 |nil=>rfl|cons v r a=>simpa using a
theorem lZ{a:Pg}{vs:List O_}{n:Nat}{P:PySem.Fin->Pe->Prop}{D:RF}(B:s.heap.get? a=O7 (Rx "list" vs.toArray n))(M:vs.length<=Pl)(T:2<=vs.length->∀h',Kept a s.heap h'->(∀N:RF->Pe->Prop,N D {s with heap:=h'}->wpAny (Py prog w) A (Yu vs.toArray) N (λ_ _=>False) {s with heap:=h'})/\∀x∈vs,∀y∈vs,∀(Q:Bool->Pe->Prop)(E:O_->Pe->Prop),(∀b,Q b {s with heap:=h'})->wpAny (Py prog w) A (keyLt' D x y) Q E {s with heap:=h'})(h:∀(us:List O_)(h':P7)(c:Nat),us.Perm vs->Kept a s.heap h'->h'.get? a=O7 (Rx "list" us.toArray c)->P (.done (.ret .none)) {s with heap:=h'}):wpAny (Py prog w) A (Builtin.«list.sort» ⟨[.ref a],[]⟩) P E s:=by
 have ha:a<s.heap.objs.size:=Px B;have O:=Qz s.heap a (Q5 λ_=>(#[]:Array O_));obtain⟨G,q⟩:∃G,(s.heap.update a (Q5 λ_=>(#[]:Array O_))).get? a=O7 (Rx "list" #[] G):=⟨_,Tc B λ_=>#[]⟩;rw[list_sort_plain];refine O9 (listItems_at B rfl ?_);refine O9 (TX B rfl ?_ (by rw[Pw];exact M) (Qb _));refine O9 (UR q rfl ?_);refine O9 (wpAny_newTuple ?_ (by show vs.length<=_;exact M));refine O9 (VL ?_ (Qb _));refine Qn ?_;show wpAny (Py prog w) A _ P E {s with heap:=((s.heap.update a (Q5 λ_=>(#[]:Array O_))).push (Rx "tuple" vs.toArray 0)).push (Rx "list" #[] 0)};generalize r:((s.heap.update a (Q5 λ_=>(#[]:Array O_))).push (Rx "tuple" vs.toArray 0)).push (Rx "list" #[] 0)=l;have I:Kept a s.heap l:=λb o hb e=>by
  rw[<-r];exact Ph _ (Ph _ ((O.2 b hb).trans e))
 have g:l.get? a=O7 (Rx "list" #[] G):=by
  rw[<-r];exact Ph _ (Ph _ q)
 dsimp only;have z:∀(us:Array O_),us.toList.Perm vs->∀k,(l.update a (Q5 λ_=>us)).get? a=O7 (Rx "list" us k)->P (.done (.ret .none)) {s with heap:=l.update a (Q5 λ_=>us)}:=λus hu k U=>h us.toList _ k hu (λb o hb e=>((Qz l a _).2 b hb).trans (I b o hb e)) U;have fz:∀(us:Array O_),us.toList.Perm vs->us.size<=Pl+1:=λus hu=>by have:=hu.length_eq;rw[QO]at this;omega
 have J:((vs.toArray.zip vs.toArray).map (·.2)).toList=vs:=by
  rw[TH,rR,Rk];exact List.map_id _
 by_cases t:vs.toArray.size<2
 .rw[if_pos t,if_pos t];refine O9 (Pf ?_);rw[StateT.run_pure];refine O9 (Pf ?_);dsimp only;have hu:((R0 (Wn general' (vs.toArray.zip vs.toArray) #[] 7 Pb)).map (·.2)).toList.Perm vs:=T5 J;generalize(R0 (Wn general' (vs.toArray.zip vs.toArray) #[] 7 Pb)).map (·.2)=us at hu⊢;obtain⟨k,m⟩:∃k,(l.update a (Q5 λ_=>us)).get? a=O7 (Rx "list" us k):=⟨_,Tc g λ_=>_⟩;refine O9 (UR g rfl ?_);refine O9 (TX g rfl ?_ (Qb _) (fz us hu));simp only[bne_self_eq_false,P4,if_false];exact Pf (z us hu k m)
 .rw[if_neg t,if_neg t];have F:2<=vs.length:=by
   have:¬vs.length<2:=by simpa using t
   omega
  obtain⟨R,C⟩:=T F l I;refine O9 (QV (R (λi H=>i=D/\H={s with heap:=l}) ⟨rfl,rfl⟩) (λi X V=>?_) λ_ _ x=>x.elim);obtain⟨rfl,rfl⟩:=V;have W:Cm prog w A {s with heap:=l} i (vs.toArray.zip vs.toArray):=λx L y K=>by
   rw[<-UU,rR]at L K;obtain⟨v,S,rfl⟩:=List.mem_map.mp L;obtain⟨u,hu,rfl⟩:=List.mem_map.mp K;exact C v S u hu
  refine O9 (QV (Ab (st:=Wn i (vs.toArray.zip vs.toArray) #[] 7 Pb) (Q:=λ_ j=>Bs i (vs.toArray.zip vs.toArray) j) W ⟨rfl,Array.Perm.refl _,rfl⟩ rfl λj b=>b) ?_ λ_ _ e=>e);rintro⟨⟨⟩,j⟩H⟨rfl,b⟩;dsimp only;have hu:((R0 j).map (·.2)).toList.Perm vs:=by
   rw[TH];refine(b.p.toList.map _).trans (T5 ?_);rw[<-TH];exact J
  rw[b.f];generalize(R0 j).map (·.2)=us at hu⊢;obtain⟨k,m⟩:∃k,(l.update a (Q5 λ_=>us)).get? a=O7 (Rx "list" us k):=⟨_,Tc g λ_=>_⟩;refine O9 (UR g rfl ?_);refine O9 (TX g rfl ?_ (Qb _) (fz us hu));simp only[bne_self_eq_false,P4,if_false];exact Pf (z us hu k m)
structure xO(prog:PF)(w:P0)(A:P9)(vals:List O_)(κ:RF)(s:Pe):Prop where
 kind:2<=vals.length->∀h',dz s.heap h'->∀Q':RF->Pe->Prop,Q' κ {s with heap:=h'}->wpAny (Py prog w) A (Yu vals.toArray) Q' (λ_ _=>False) {s with heap:=h'}cmp:2<=vals.length->∀h',dz s.heap h'->∀x∈vals,∀y∈vals,∀(Q:Bool->Pe->Prop)(E:O_->Pe->Prop),(∀b,Q b {s with heap:=h'})->wpAny (Py prog w) A (keyLt' κ x y) Q E {s with heap:=h'}
theorem rS{v:O_}{Q:O_->Pe->Prop}(h:wpAny (Py prog w) A.in1 (Xh v) (λvals s1=>vals.length<=Pl/\∃d,xO prog w A.in1.in1 vals d s1/\∀(us:List O_)(h':P7)(c:Nat),us.Perm vals->dz s1.heap h'->h'.get? s1.heap.objs.size=O7 (Rx "list" us.toArray c)->Q (.ref s1.heap.objs.size) {s1 with heap:=h'}) E s):wpAny (Py prog w) A (call (.builtin "sorted") [v]) Q E s:=by
 refine Vu kind_sorted plain_sorted entry_sorted (args_sorted1 _) ?_;unfold Builtin.«sorted»;refine O9 (m:=checkCount "sorted" 1 1 _) (Pf ?_);refine O9 (QV h (λvals s1 i=>?_) λ_ _ e=>e);obtain⟨f,d,K,q⟩:=i;refine O9 (VL ?_ f);have a:(s1.heap.push (Rx "list" vals.toArray 0)).get? s1.heap.objs.size=O7 (Rx "list" vals.toArray 0):=PR _ rfl;have keep:∀h',Kept s1.heap.objs.size (s1.heap.push (Rx "list" vals.toArray 0)) h'->dz s1.heap h':=λh' k b o e=>k b o (P5 (Px e)) (Ph _ e);refine O9 (Qn (QJ slot_list_sort ⟨_,a,rfl⟩ entry_list_sort ?body (args_list_sort _)));case body=>
  refine lZ (s:={s1 with heap:=s1.heap.push (Rx "list" vals.toArray 0)}) a f (λg h' k=>⟨K.kind g h' (keep h' k),K.cmp g h' (keep h' k)⟩) λus h' c v k e=>⟨_,rfl,?_⟩;exact Pf ⟨_,rfl,q us h' c v (keep h' k) e⟩
end
end SrtP
end
section
namespace SrtP
open PySem PySem.W PyProof.Rows L2
section
variable{prog:PF}{w:P0}{A:P9}{E:O_->Pe->Prop}{s:Pe}
noncomputable def l9(h:P7)(v:O_)(k:List Int):Prop:=∃a b,v=.ref a/\Xp h a (QF b)/\Sm b k
noncomputable def TT(h:P7)(v:O_):Prop:=∃k,k≠[]/\l9 h v k
noncomputable def NT(h:P7)(v:O_):Prop:=∃a b,v=.ref a/\Xp h a (QF b)/\b≠[]/\∀u∈b,∃k,l9 h u k
theorem l9.grown{h h':P7}{v:O_}{k:List Int}(t:l9 h v k)(g:dz h h'):l9 h' v k:=by
 obtain⟨a,b,e,⟨o,c,r⟩,hi⟩:=t;exact⟨a,b,e,⟨o,g _ _ c,r⟩,hi⟩
theorem TT.grown{h h':P7}{v:O_}(t:TT h v)(g:dz h h'):TT h' v:=let⟨k,a,t⟩:=t;⟨k,a,t.grown g⟩
theorem NT.grown{h h':P7}{v:O_}(t:NT h v)(g:dz h h'):NT h' v:=by
 obtain⟨a,b,e,⟨o,c,r⟩,d,hi⟩:=t;exact⟨a,b,e,⟨o,g _ _ c,r⟩,d,λu hu=>let⟨k,z⟩:=hi u hu;⟨k,z.grown g⟩⟩
theorem xP{M:T9}{h:P7}{v:O_}{k:List Int}(t:l9 h v k):YE M h (VJ v) (.type "tuple"):=λA Q E s g q=>by
 obtain⟨a,b,rfl,⟨o,c,d,n,hd⟩,hi⟩:=t;exact Wo (T:="tuple") ⟨o,g _ _ c,d⟩ q
theorem rT{h:P7}{M:T9}:∀{vals:List O_},(∀v∈vals,TT h v)->∃fs:List O_,KatTups h vals fs/\fs.length=vals.length/\∀v∈fs,YE M h (VJ v) (.type "int")
 |[],_=>⟨[],trivial,rfl,λv b=>by cases b⟩|v::r,H=>by
  obtain⟨fs,m,l,j⟩:=rT (M:=M) (vals:=r) λu hu=>H u (Po _ hu);obtain⟨k,f,a,d,rfl,⟨o,e,g,n,hd⟩,hi⟩:=H v Pn;cases hi with
  |nil=>exact absurd rfl f|cons i c r=>
   refine⟨.int i c::fs,X_ e g hd (by simp) m,by simp[l],λv b=>?_⟩;rcases List.mem_cons.mp b with z|z;.rw[z];exact SortM.jM i c
   .exact j v z
theorem rV{h:P7}{M:T9}:∀{vals:List O_},(∀v∈vals,NT h v)->∃fs:List O_,KatTups h vals fs/\fs.length=vals.length/\∀v∈fs,YE M h (VJ v) (.type "tuple")
 |[],_=>⟨[],trivial,rfl,λv c=>by cases c⟩|v::r,H=>by
  obtain⟨fs,j,i,g⟩:=rV (M:=M) (vals:=r) λu hu=>H u (Po _ hu);obtain⟨a,b,rfl,⟨o,d,f,n,hd⟩,e,hi⟩:=H v Pn;cases b with
  |nil=>exact absurd rfl e|cons u l=>
   refine⟨u::fs,X_ d f hd (by simp) j,by simp[i],λv c=>?_⟩;rcases List.mem_cons.mp c with z|z
   .rw[z];obtain⟨k,t⟩:=hi u Pn;exact xP t
   .exact g v z
theorem xQ{vals:List O_}(t:∀v∈vals,∃i a,v=.int i a):xO prog w A vals oneType' s where
 kind:=λb c g k q=>by
  refine kas_kind (s:={s with heap:=c}) b (T:=.type "int") (λv f=>?_) (by decide) (by decide) q;obtain⟨i,a,rfl⟩:=t v f;exact SortM.jM i a
 cmp:=λb c g x e y d Q E q=>by
  obtain⟨i,a,rfl⟩:=t x e;obtain⟨j,h,rfl⟩:=t y d;rw[keyLt'_oneType];exact Yi (q _)
theorem Hm{vals:List O_}(t:∀v∈vals,TT s.heap v):xO prog w A vals (tuples' Pa) s where
 kind:=λz e g H q=>by
  obtain⟨fs,B,G,u⟩:=rT (M:=Py prog w) λv m=>(t v m).grown g;exact kat_kind (s:={s with heap:=e}) B (by omega) u (by decide) q
 cmp:=λz e g x l y j Q E q=>by
  obtain⟨k,_,a,i,rfl,⟨o,p,F,n,hd⟩,hi⟩:=(t x l).grown g;obtain⟨D,_,b,h,rfl,⟨C,c,r,n2,d⟩,f⟩:=(t y j).grown g;refine kat_lt (s:={s with heap:=e}) p hd c d (SortM.u6 _ _ _ _ 0 hi f ?_ (q _));rw[Pw,Pw,hi.length,f.length,decide_eq_true_iff]
theorem items_int{a:List O_}{k:List Int}(h:Sm a k):ItemsAre (aq prog w) (k.map UJ) a:=by induction h with
 |nil=>exact .nil|cons i b _ c=>exact .cons (jZ prog w i b) c
theorem l9.key{h:P7}{v:O_}{k:List Int}(t:l9 h v k):∃a,v=.ref a/\IsTupleKey (aq prog w) h (k.map UJ) a:=by
 obtain⟨a,b,e,⟨o,c,d,n,hd⟩,hi⟩:=t;exact⟨a,e,o,_,n,c,d,hd,by simpa using items_int hi⟩
theorem ER{Q:Bool->Pe->Prop}{c:Bool}(hu:A.units<Q_)(q:∀b,Q b s):∀(xs d:List O_)(i:Nat),(∀u∈xs,∃k,l9 s.heap u k)->(∀u∈d,∃k,l9 s.heap u k)->KatLex prog w A Pc c Q (xs.zip d) i s
 |[],_,_,_,_=>q c|_::_,[],_,_,_=>q c|x::xs,y::d,i,h,g=>by
  obtain⟨k,f⟩:=h x Pn;obtain⟨z,ty⟩:=g y Pn;obtain⟨a,v,n⟩:=f.key (prog:=prog) (w:=w);obtain⟨b,t,m⟩:=ty.key (prog:=prog) (w:=w);have go:∀e,KatGo prog w A Pc c Q x y (xs.zip d) i e s:=λe=>by cases e with
   |true=>exact YJ (ER hu q xs d (i+1) (λu hu=>h u (Po _ hu)) λu hu=>g u (Po _ hu))|false=>
    refine kat_no ?_;obtain⟨C,p,rfl,l,hi⟩:=f;obtain⟨B,o,rfl,j,r⟩:=ty;exact YK _ _ (HT.tH l j (by simpa using hi) (by simpa using r) hu (q _))
  subst v t;exact XG hu n m (go _)
theorem Hn{vals:List O_}(hu:A.units<Q_)(t:∀v∈vals,NT s.heap v):xO prog w A vals (tuples' Pc) s where
 kind:=λz h g H q=>by
  obtain⟨fs,B,G,u⟩:=rV (M:=Py prog w) λv k=>(t v k).grown g;exact kat_kind (s:={s with heap:=h}) B (by omega) u (by decide) q
 cmp:=λz h g x j y i Q E q=>by
  obtain⟨a,d,rfl,⟨o,l,F,n,hd⟩,D,hi⟩:=(t x j).grown g;obtain⟨b,c,rfl,⟨C,e,r,n2,f⟩,m,p⟩:=(t y i).grown g;exact kat_lt (s:={s with heap:=h}) l hd e f (ER hu q d c 0 hi p)
end
end SrtP
end
section
namespace SrtP
open PySem PySem.W PyProof.Rows L2
section
variable{prog:PF}{w:P0}{A:P9}{E:O_->Pe->Prop}{s:Pe}
inductive fy:List O_->List Bool->Prop|nil:fy [] []|int(i:Int)(tk:V7){vs:List O_}{g:List Bool}(h:fy vs g):fy (.int i tk::vs) (Pc::g)|str(x:PX)(tk:V7){vs:List O_}{g:List Bool}(h:fy vs g):fy (.str x tk::vs) (Pa::g)
noncomputable def XT(g:List Bool)(h:P7)(v:O_):Prop:=∃a b,v=.ref a/\Xp h a (QF b)/\fy b g
theorem XT.grown{g:List Bool}{h h':P7}{v:O_}(t:XT g h v)(q:dz h h'):XT g h' v:=by
 obtain⟨a,b,e,⟨o,c,r⟩,hi⟩:=t;exact⟨a,b,e,⟨o,q _ _ c,r⟩,hi⟩
theorem xR{M:T9}{h:P7}(n:PX)(t:V7):YE M h (VJ (.str n t)) (.type "str"):=λA Q E s _ q=>Pf q
theorem rW{g:List Bool}{h:P7}{M:T9}:∀{vals:List O_},(∀v∈vals,XT (Pa::g) h v)->∃fs:List O_,KatTups h vals fs/\fs.length=vals.length/\∀v∈fs,YE M h (VJ v) (.type "str")
 |[],_=>⟨[],trivial,rfl,λv b=>by cases b⟩|v::r,H=>by
  obtain⟨fs,k,j,i⟩:=rW (M:=M) (vals:=r) λu hu=>H u (Po _ hu);obtain⟨a,d,rfl,⟨o,e,f,n,hd⟩,hi⟩:=H v Pn;cases hi with|str x c r=>
   refine⟨.str x c::fs,X_ e f hd (by simp) k,by simp[j],λv b=>?_⟩;rcases List.mem_cons.mp b with z|z;.rw[z];exact xR x c
   .exact i v z
theorem Ac{Q:Bool->Pe->Prop}{c:Bool}(q:∀b,Q b s):∀{xs e:List O_}{g:List Bool}(i:Nat),fy xs g->fy e g->KatLex prog w A Pa c Q (xs.zip e) i s
 |_,_,_,i,.nil,.nil=>q c|_,_,_,i,.int a t h,.int b u d=>kat_cons (VP (by cases a==b with
  |true=>exact YJ (Ac q (i+1) h d)|false=>
   refine kat_no ?_;cases i with
   |zero=>exact Yi (q _)|succ i=>exact YK _ _ (Xk (q _))))|_,_,_,i,.str a t h,.str b u d=>kat_cons (PyProof.Rows.eqBool_str (by cases a==b with
  |true=>exact YJ (Ac q (i+1) h d)|false=>
   refine kat_no ?_;cases i with
   |zero=>exact oneLt_str (q _)|succ i=>exact YK _ _ (PyProof.Rows.lt_str (q _))))
theorem Hq{g:List Bool}{vals:List O_}(t:∀v∈vals,XT (Pa::g) s.heap v):xO prog w A vals (tuples' Pa) s where
 kind:=λu e g F q=>by
  obtain⟨fs,z,D,r⟩:=rW (M:=Py prog w) λv k=>(t v k).grown g;exact kat_kind (s:={s with heap:=e}) z (by omega) r (by decide) q
 cmp:=λu e g x j y i Q E q=>by
  obtain⟨a,h,rfl,⟨o,l,C,n,hd⟩,hi⟩:=(t x j).grown g;obtain⟨b,f,rfl,⟨B,c,p,n2,d⟩,m⟩:=(t y i).grown g;exact kat_lt (s:={s with heap:=e}) l hd c d (Ac q 0 hi m)
end
end SrtP
end
section
namespace L2
open PySem PySem.Spec PyProof.Rows
section
variable{X:Cx}{F:Fx}
noncomputable def ES:D->List D->M D
 |.aE ks a,[d,z]=>do M.need (kinds ks d/\ks.length=a.length);pure ((aJ ks a d).getD z)|_,_=>M.fail
theorem Dq(hu:X.A.units+2<Q_)(hP:X.prog=F.P)(hw:X.w=F.w):Np X F "dict" "dict.get" rE ES where
 ty:=(He hu hP hw).ty;call:=λS s σ H k x xs v us d ds Q I rx rs l hK W i2 c q=>by match d,ds,q with
  |.aE ks L,[d,z],q=>
   obtain⟨⟨n,m⟩,q⟩:=q;have q:qE F.toFb H k Q ((aJ ks L d).getD z) k:=q;simp only[Is]at W;obtain⟨a,ws,rfl,⟨o,t,M⟩,V⟩:=W;cases(show v=PQ a from rx);have E:=t.get I hK;obtain⟨w,N,rfl,iw,U⟩:=i2.two;obtain⟨u,O,rfl,R,j⟩:=vals2 rs;have Y:=jj (F:=F) M E;rcases n with⟨n,f,rfl⟩|⟨n,f,rfl⟩
   .obtain⟨g,i,T,ob,rfl,rfl⟩:=M.G2 n;rw[<-hP,<-hw]at ob;have:=eY iw;subst this;refine Ws Sn Y SX (V2 _ _ _) (meets_dict_get_default (aq X.prog X.w) a (fI R) t.2.1 O) ⟨_,(ob.at E).mapOf,?_⟩;cases h:aJ (g.map λx=>kD x.1) L (kD f)with
    |some e=>
     obtain⟨y,K,J⟩:=vt V h;obtain⟨u',C,r⟩:=hZ.some_of (v:=y) (o:=UL i f) (by rw[<-K];exact T.val f);rw[C];rw[h]at q;exact⟨y,H,I.tok _,r,q y H .refl J⟩|none=>
     have G:gU g f=Pb:=by
      have:=gf (d:=kD f) m;rw[h,t8]at this;cases e:gU g f with
      |none=>rfl|some z=>rw[e]at this;cases this
     have:UL i f=Pb:=hZ.none_of (by rw[<-G];exact T.val f);rw[this];rw[h]at q;exact⟨N,H,I.tok _,j,q _ H .refl U⟩
   .obtain⟨g,i,B,ob,tp,rfl,rfl⟩:=M.G5 n;rw[<-hP,<-hw]at ob;obtain⟨b,rfl,Z⟩:=eV.of iw;cases(show u=PQ b from R);refine Ws Sn Y SX (V2 _ _ _) (meetsH_dict_get_default (bR X.prog X.w) a b t.2.1 O) ⟨dH hu,f,i,eC I hK Z,ob.at E (eE I hK B tp),?_⟩;cases h:aJ (g.map λx=>D.tup (x.1.map nD)) L (.tup (f.map nD))with
    |some e=>
     obtain⟨p,y,K,J,h3⟩:=vw B V h;rw[K];rw[h]at q;exact⟨y,H,I.tok _,J,q y H .refl h3⟩|none=>
     have G:X7 i f=Pb:=by
      have:=gf (d:=.tup (f.map nD)) m;rw[h,xF B]at this;cases e:X7 i f with
      |none=>rfl|some z=>rw[e]at this;cases this
     rw[G];rw[h]at q;exact⟨N,H,I.tok _,j,q _ H .refl U⟩
noncomputable def Dr:D->Bool
 |.tup []=>Pc|.tup a=>a.all GY|_=>Pc
noncomputable def KN:D->Bool
 |.tup a=>a.all GY|_=>Pc
noncomputable def Hr:D->Bool
 |.tup []=>Pc|.tup a=>a.all KN|_=>Pc
noncomputable def vL:List Bool->List D->Bool
 |[],[]=>Pa|false::g,.int _::a=>vL g a|true::g,.str _::a=>vL g a|_,_=>Pc
noncomputable def Ht:D->Bool
 |.tup a=>vL [Pa,Pa,Pc,Pc,Pc,Pc] a|_=>Pc
noncomputable def iI(ds:List D):Bool:=ds.all GY||ds.all Dr||ds.all Hr||ds.all Ht
noncomputable def j9:D->Option (List D)
 |.lst a=>O7 a|.aE ks _=>O7 ks|_=>Pb
noncomputable def Ad(d:D):M D:=do
 let a<-M.get (j9 d)M.need (a.length<=Pl/\iI a=Pa)let l<-M.any λl=>l.Perm a;pure (.lst l)
theorem vM{d:D}(h:GY d=Pa):∃i,d=.int i:=by cases d<;>first|exact⟨_,rfl⟩|cases h
theorem vN:∀{ds:List D},ds.all GY=Pa->∃ns:List Int,ds=ns.map D.int
 |[],_=>⟨[],rfl⟩|d::ds,h=>by
  rw[Sg,Pp]at h;obtain⟨i,rfl⟩:=vM h.1;obtain⟨ns,rfl⟩:=vN h.2;exact⟨i::ns,rfl⟩
theorem iJ{B:Fb}{H:Hp}:∀{vs:List V}{ns:List Int},af B H vs (ns.map D.int)->vs=ns.map V.int
 |_,[],h=>by simp only[Sw,af]at h;rw[h];rfl|_,n::ns,h=>by
  simp only[PY,af,Is]at h;obtain⟨x,b,rfl,rfl,a⟩:=h;rw[iJ a];rfl
section
variable{pins:List (Pg×Qx)}{σ:St}{H:Hp}{s:Pe}
theorem vO(I:Inv X pins σ H s)(hK:X.K=F.K){v:V}{u:O_}{xs:List D}(r:RelV v u)(i:Is F.toFb H v (.tup xs))(h:xs.all GY=Pa):∃ns:List Int,xs=ns.map D.int/\SrtP.l9 s.heap u ns:=by
 obtain⟨ns,rfl⟩:=vN h;simp only[Is]at i;obtain⟨a,g,rfl,c,e⟩:=i;cases(show u=PQ a from r);have:=iJ e;subst this;obtain⟨b,d,f,_⟩:=I.tuple (show kq X.K H a _ by rw[hK];exact c.2);exact⟨ns,rfl,a,b,rfl,f,intsAre_of d⟩
theorem KO(I:Inv X pins σ H s)(hK:X.K=F.K){v:V}{u:O_}{d:D}(r:RelV v u)(i:Is F.toFb H v d)(h:Dr d=Pa):SrtP.TT s.heap u:=by match d,h,i with
 |.tup (x::a),h,i=>
  obtain⟨ns,e,t⟩:=vO I hK r i h;refine⟨ns,λz=>?_,t⟩;rw[z]at e;cases e
theorem Ae(I:Inv X pins σ H s)(hK:X.K=F.K){v:V}{u:O_}{d:D}(r:RelV v u)(i:Is F.toFb H v d)(h:Hr d=Pa):SrtP.NT s.heap u:=by match d,h,i with
 |.tup (x::f),h,i=>
  simp only[Is]at i;obtain⟨a,A,rfl,l,b⟩:=i;cases(show u=PQ a from r);obtain⟨g,m,n,_⟩:=I.tuple (show kq X.K H a _ by rw[hK];exact l.2);refine⟨a,g,rfl,n,?_,?_⟩
  .intro z;subst z;cases m;simp[af]at b
  .have h:(x::f).all KN=Pa:=h;clear n l r;rename_i k;clear k;generalize x::f=c at b h;induction m generalizing c with
   |nil=>intro u hu;cases hu|cons o B p=>
    intro u hu;cases c with
    |nil=>simp[af]at b|cons d c=>
     simp only[af]at b;obtain⟨y,w,e,j,q⟩:=b;cases e;rw[Sg,Pp]at h;rcases List.mem_cons.mp hu with z|z
     .subst z;match d,h.1,j with
      |.tup f,hd,j=>
       obtain⟨ns,_,t⟩:=vO I hK o j hd;exact⟨ns,t⟩
     .exact p c q h.2 u z
theorem uf:∀{g:List Bool}{ds:List D}{vs:List V}{us:List O_},vL g ds=Pa->af F.toFb H vs ds->ar vs us->SrtP.fy us g
 |[],[],_,_,_,a,b=>by
  simp only[af]at a;subst a;cases b;exact .nil|false::g,.int i::ds,_,_,h,a,b=>by
  simp only[af,Is]at a;obtain⟨x,f,rfl,rfl,e⟩:=a;cases b with|cons d c=>
   obtain⟨j,rfl⟩:=d;exact .int _ _ (uf h e c)|true::g,.str i::ds,_,_,h,a,b=>by
  simp only[af,Is]at a;obtain⟨x,f,rfl,rfl,e⟩:=a;cases b with|cons d c=>
   obtain⟨j,rfl⟩:=d;exact .str _ _ (uf h e c)
theorem KP(I:Inv X pins σ H s)(hK:X.K=F.K){v:V}{u:O_}{d:D}(r:RelV v u)(i:Is F.toFb H v d)(h:Ht d=Pa):SrtP.XT [Pa,Pa,Pc,Pc,Pc,Pc] s.heap u:=by match d,h,i with
 |.tup j,h,i=>
  simp only[Is]at i;obtain⟨a,k,rfl,c,f⟩:=i;cases(show u=PQ a from r);obtain⟨b,e,g,_⟩:=I.tuple (show kq X.K H a _ by rw[hK];exact c.2);exact⟨a,b,rfl,g,uf h f e⟩
theorem l_{P:O_->Prop}{f:D->Bool}(c:∀{v:V}{u:O_}{d:D},RelV v u->Is F.toFb H v d->f d=Pa->P u):∀{vs:List V}{us:List O_}{ds:List D},ar vs us->af F.toFb H vs ds->ds.all f=Pa->∀u∈us,P u
 |_,_,[],b,a,_,u,hu=>by
  simp only[af]at a;subst a;cases b;cases hu|_,_,d::ds,b,a,h,u,hu=>by
  simp only[af]at a;obtain⟨x,k,rfl,j,i⟩:=a;rw[Sg,Pp]at h;cases b with|cons g e=>
   rcases List.mem_cons.mp hu with z|z;.subst z;exact c g j h.1
   .exact l_ c e i h.2 u z
theorem Ds(I:Inv X pins σ H s)(hK:X.K=F.K){A:P9}(hu:A.units<Q_){vs:List V}{us:List O_}{ds:List D}(a:ar vs us)(b:af F.toFb H vs ds)(h:iI ds=Pa):∃c,SrtP.xO X.prog X.w A us c s:=by
 unfold iI at h;rw[Q4,Q4,Q4]at h;rcases h with((h|h)|h)|h
 .refine⟨_,SrtP.xQ (l_ (P:=λu=>∃i e,u=.int i e) (λ{v u d}r i hd=>?_) a b h)⟩;obtain⟨f,rfl⟩:=vM hd;simp only[Is]at i;subst i;exact⟨f,r⟩
 .exact⟨_,SrtP.Hm (l_ (λr i hd=>KO I hK r i hd) a b h)⟩
 .exact⟨_,SrtP.Hn hu (l_ (λr i hd=>Ae I hK r i hd) a b h)⟩
 .exact⟨_,SrtP.Hq (l_ (λr i hd=>KP I hK r i hd) a b h)⟩
end
theorem Paired.KQ{e d:Type}{P:e->d->Prop}{f us:List d}(p:us.Perm f):∀{xs:List e},Paired P xs f->∃vs,vs.Perm xs/\Paired P vs us:=by induction p with
 |nil=>intro xs h;exact⟨xs,.refl _,h⟩|cons x p n=>
  intro xs h;cases h with|cons r t=>
   obtain⟨vs,g,c⟩:=n t;exact⟨_::vs,g.cons _,.cons r c⟩
 |swap x y l=>
  intro xs h;cases h with|cons r t=>cases t with|cons j i=>exact⟨_,.swap _ _ _,.cons j (.cons r i)⟩
 |trans g q b a=>
  intro xs h;obtain⟨vs,m,c⟩:=a h;obtain⟨ws,k,o⟩:=b c;exact⟨ws,k.trans m,o⟩
theorem ug{B:Fb}{H:Hp}{vs xs:List V}(p:vs.Perm xs):∀{ds:List D},af B H xs ds->∃c,c.Perm ds/\af B H vs c:=by induction p with
 |nil=>intro ds h;exact⟨ds,.refl _,h⟩|cons x p s=>
  intro ds h;cases ds with
  |nil=>simp[af]at h|cons d ds=>
   simp only[af]at h;obtain⟨o,m,e,b,a⟩:=h;cases e;obtain⟨c,j,i⟩:=s a;exact⟨d::c,j.cons _,.cons b i⟩
 |swap x y l=>
  intro ds h;cases ds with
  |nil=>simp[af]at h|cons d ds=>cases ds with
   |nil=>simp[af]at h|cons u ds=>
    simp only[af]at h;obtain⟨o,m,e,b,n,k,t,a,i⟩:=h;cases e;cases t;exact⟨u::d::ds,.swap _ _ _,.cons a (.cons b i)⟩
 |trans j v g f=>
  intro ds h;obtain⟨c,r,b⟩:=f h;obtain⟨fs,q,a⟩:=g b;exact⟨fs,q.trans r,a⟩
theorem xS{pins:List (Pg×Qx)}{σ:St}{H:Hp}{s:Pe}{a:Pg}{vs:List V}{R:List O_->Pe->Prop}(I:Inv X pins σ H s)(hs:d5 X.K H a vs)(h:∀(h':P7)(g:Nat)(us:List O_),SrtP.dz s.heap h'->ar vs us->R us {s with heap:=h',toks:=g}):wpAny (Py X.prog X.w) X.A.in1 (Xh (.ref a)) R X.xe s:=by
 obtain⟨d,f,i,j⟩:=I.list hs;have c:=f.length;refine collect_list i.isList ?_ (by simpa[c]using j);refine h _ s.toks d (λb o e=>?_) f;rw[Heap.get?_update_ne _ _ _ _ (P5 (Px e))];exact Ph _ e
theorem nZ(B:X.calm=Pa){pins:List (Pg×Qx)}{σ:St}{H:Hp}{s:Pe}{x:V}{u:O_}{d:D}{ds:List D}{R:List O_->Pe->Prop}(I:Inv X pins σ H s)(hK:X.K=F.K)(r:RelV x u)(i:Is F.toFb H x d)(e:j9 d=O7 ds)(h:∀(h':P7)(c:Nat)(vs:List V)(us:List O_),SrtP.dz s.heap h'->ar vs us->af F.toFb H vs ds->R us {s with heap:=h',toks:=c}):wpAny (Py X.prog X.w) X.A.in1 (Xh u) R X.xe s:=by
 have hd:(∃l,d=.lst l)\/∃ks n,d=.aE ks n:=by cases d<;>first|exact .inl ⟨_,rfl⟩|exact .inr ⟨_,_,rfl⟩|cases e
 rcases hd with⟨l,rfl⟩|⟨ks,n,rfl⟩
 .cases e;simp only[Is]at i;obtain⟨a,vs,rfl,p,q⟩:=i;cases(show u=PQ a from r);exact xS I (by rw[hK];exact p.2.sq) λh' c us g j=>h h' c vs us g j q
 .cases e;simp only[Is]at i;obtain⟨a,vs,rfl,⟨o,m,k⟩,E⟩:=i;cases(show u=PQ a from r);obtain⟨f,C,G,v,hd,j,t⟩:=rA k;have y:=m.get I hK;obtain⟨_,_,_,b,z,_⟩:=zU k;rw[hd]at b;injection b with b _;subst b;exact DictIt.tS (show X.A.in1.handled=Pb from I.ok.hd B) m.2.1 y v.1 hd (by rw[z];exact k.1) λh' c g=>h h' c f _ g j t
theorem Af(T:X.calm=Pa)(hu:X.A.units+2<Q_):bo X F (.builtin "sorted") (one Ad)where
 call:=λb s C H k Y p ds Q I L l hK P N=>by
  obtain⟨d,rfl,q⟩:=eA N;obtain⟨v,rfl,i⟩:=P.one;obtain⟨es,e,q⟩:=M.run_get.mp q;obtain⟨⟨w,R⟩,q⟩:=q;obtain⟨u,rfl,J⟩:=vals1 L;refine SrtP.rS (nZ T I hK J i e λf h Z p g a m=>?_);have o:Inv X b C H {s with heap:=f,toks:=h}:=I.kept (t':=h) g;obtain⟨E,K⟩:=Ds o hK (A:=X.A.in1.in1) (show X.A.units+1+1<Q_ from hu) a m R;have S:p.length<=Pl:=by rw[<-a.length,m.length];exact w
  refine⟨S,E,K,λG U c O V B=>?_⟩;obtain⟨ws,pw,j⟩:=Paired.KQ O a;obtain⟨n,pe,iw⟩:=ug pw m;have x:H f.objs.size=Pb:=o.aH.fresh (Pq _);have W:=o.newList (t:=h) (D:=f.objs.size) V (Pq _) j (by rw[iw.length,pe.length_eq];exact w) B;exact⟨.ref f.objs.size,_,W.freeze ah B (λ_ z=>nomatch z) (λ_ _ z=>nomatch z) (λ_ z=>nomatch z) (λ_ z=>nomatch z),rfl,by
   rw[bF];exact q n pe _ _ (.new x) (cR (k:=k) l x iw)⟩
end
section
variable{prog:PF}{w:P0}{A:P9}{E:O_->Pe->Prop}{s:Pe}
theorem ma:Vf (.type "list") "keys"=pure Pb:=by rw[WB,UA];kernel_rfl
theorem xT{a:Pg}{o:Qx}{xs:Array O_}{k:Nat}{Q:Option O_->Pe->Prop}(q:s.heap.get? a=O7 o)(t:o.cls=.type "list")(i:o.data=.seq xs k)(hd:o.dict=Pb)(x:A.handled=Pb)(h:∀h' l,(∀b o,s.heap.get? b=O7 o->h'.get? b=O7 o)->Q Pb {s with heap:=h',toks:=l}):wpAny (Py prog w) A (X8 (.ref a) "keys") Q E s:=by
 obtain⟨c,D,dat,v⟩:=o;simp only at t i hd;subst t i hd;obtain⟨m,g,d,l,os⟩:=s;have u:∀f,(⟨m,g,d,f,os⟩:Pe).TypeIs (.ref a) "list":=λ_=>⟨_,q,rfl⟩;have L:=sub_AttributeError;have K:=F.slot_list_getattribute.lookup;have J:=F.slot_list_getattribute.bind (.ref a);have f5:=am_list_getattr_none;have n:wpAny (Py prog w) A (X8 (.ref a) "keys") (λr p=>∃h' f,r=Pb/\(∀b o,m.get? b=O7 o->h'.get? b=O7 o)/\p=⟨h',g,d,f,os⟩) E ⟨m,g,d,l,os⟩:=by
  unfold X8 getAttrBy? getAttrBy;repeat(any_goals(first|assumption|exact u _|((with_reducible show wpAny _ _ (call (TQ "list.__getattribute__") _ _) _ _ _);refine XD F.slot_list_getattribute (u _) am_entry_list_getattribute (F.args_list_getattribute_2 _ _) (meets_getattribute_miss_list a xs k v "keys" _ ma (by decide+kernel) (by size_fits)) ⟨q,x,λh' f e j=>?_⟩)|wp_step))
  obtain⟨H,G,I⟩:=j.there;show wpAny _ _ (XJ _ _ _ _ _ _ _) _ _ _;unfold XJ;repeat(any_goals(first|assumption|wp_step))
  exact⟨_,_,rfl,j.of.keeps,rfl⟩
 exact QV n (λr p⟨h',f,C,y,B⟩=>by subst C B;exact h h' f y) λ_ _ z=>z
theorem n6:Yv table "dict.update.loop"=O7 Builtin.«dict.update.loop»:=entryFor_of_tree (by kernel_rfl)
theorem n8:plainId "dict.update.loop"=Pa:=by decide+kernel
end
noncomputable def az(ks:List D)(d:D):Bool:=(ks.all yk&&yk d)||(ks.all pq&&pq d)
theorem cY{ks:List D}{d:D}(h:az ks d=Pa):kinds ks d:=by
 unfold az at h;rw[Q4,Pp,Pp]at h;rcases h with⟨b,a⟩|⟨b,a⟩;.exact .inl ⟨vq b,ji a⟩
 .exact .inr ⟨zT b,rq a⟩
noncomputable def eK:List D->List D×List D->Option (List D×List D)
 |[],a=>O7 a|.tup [k,v]::r,a=>if az a.1 k&&decide (a.1.length<Pl)then eK r (putD a.1 a.2 k v)else Pb|_,_=>Pb
section
variable{X:Cx}{F:Fx}{pins:List (Pg×Qx)}{σ:St}
theorem n_(hc:X.calm=Pa)(hK:X.K=F.K)(hP:X.prog=F.P)(hw:X.w=F.w){A1:P9}(hA:A1.handled=Pb)(hu:A1.units+2<Q_){f a it:Pg}{r:List D×List D}{R:Result->Pe->Prop}(hp:f≠F.p):∀(ps:List D)(i:Nat)(j:Int)(t:V7)(ks ds:List D)(vs xs:List V)(o:Qx)(c:Hp)(s:Pe),Inv X pins σ c s->c f=O7 (fV f o)->bG F.toFb c o ks vs->af F.toFb c vs ds->LstAt F.toFb c a xs->af F.toFb c (xs.drop i) ps->s.heap.IsListIter it a i->fN X pins c it->eK ps (ks,ds)=O7 r->(∀o' h s',Inv X pins σ (upd c f (fV f o')) s'->bG F.toFb (upd c f (fV f o')) o' r.1 h->af F.toFb (upd c f (fV f o')) h r.2->R (.ok (.ret .none)) s')->codeAny (Py X.prog X.w) A1 (.builtin "dict.update.loop" ⟨[.ref f,.ref it,.int j t,.none],[]⟩) R s
 |[],i,j,t,ks,ds,vs,xs,o,c,s,I,m,dd,ia,S,l,st,fp,e,q=>by
  refine WC n6 ?_;rw[Xe n8 _];unfold Builtin.«dict.update.loop»;dsimp only;obtain⟨G,rv,p,hz⟩:=I.list (show d5 X.K c a xs by rw[hK];exact S.2.sq);have hl:G.toArray[i]?=Pb:=by
   have h1:=l.length;have h2:=rv.length;simp at h1⊢;omega
  refine O9 (WD hA st p.isList hl λL eb=>?_);obtain⟨y,Y,f2,W,U,f5⟩:=fp;have B:Inv X pins σ c {s with heap:=L}:=I.turned (t':=s.toks) (λb o hb e=>eb b o hb e) y Y W U f5;cases e;refine O9 (Pf (Pf ?_));have:upd c f (fV f o)=c:=by
   funext b;by_cases hb:b=f;.rw[hb,ah,m]
   .rw[ai hb]
  exact q o vs _ (by rw[this];exact B) (by rw[this];exact dd) (by rw[this];exact ia)|d::ps,i,j,t,ks,ds,vs,xs,o,c,s,I,m,dd,ia,S,l,st,fp,e,q=>by match d,e,l with
  |.tup [k,v],e,l=>
   have e:(if az ks k&&decide (ks.length<Pl)then eK ps (putD ks ds k v)else Pb)=O7 r:=e;by_cases J:(az ks k&&decide (ks.length<Pl))=Pa
   .rw[if_pos J]at e;rw[Pp,decide_eq_true_eq]at J;refine WC n6 ?_;rw[Xe n8 _];unfold Builtin.«dict.update.loop»;dsimp only;obtain⟨G,rv,p,hz⟩:=I.list (show d5 X.K c a xs by rw[hK];exact S.2.sq);rw[show af F.toFb c (xs.drop i) (.tup [k,v]::ps)=∃x O,xs.drop i=x::O/\Is F.toFb c x (.tup [k,v])/\af F.toFb c O ps by simp only[af]]at l;obtain⟨x,O,ex,l,ir⟩:=l;rw[show Is F.toFb c x (.tup [k,v])=∃a xs,x=.ref a/\TupAt F.toFb c a xs/\af F.toFb c xs [k,v]by simp only[Is]]at l;obtain⟨Q,a7,rfl,tt,a0⟩:=l;obtain⟨x1,x2,rfl,i1,i2⟩:=a0.two;have hx:xs[i]?=O7 (.ref Q):=by
     have:=congrArg List.head? ex;simpa[List.head?_drop]using this
    have a2:xs.drop (i+1)=O:=by
     have:=congrArg List.tail ex;simpa[List.tail_drop]using this
    obtain⟨u,a3,ru⟩:=rv.get hx;cases(show u=PQ Q from ru);refine O9 (Wb st p.isList (x:=.ref Q) (by simpa using a3) λL Z sb=>?_);obtain⟨y,Y,f2,W,U,f5⟩:=id fp;have B:Inv X pins σ c {s with heap:=L}:=I.turned (t':=s.toks) (λb o hb e=>(sb.2 b hb).trans e) y Y W U f5;obtain⟨a8,rj,⟨oj,ho,a5,n,hd⟩,_⟩:=B.tuple (show kq X.K c Q _ by rw[hK];exact tt.2);obtain⟨u1,u2,rfl,r1,r2⟩:=vals2 rj;dsimp only;refine O9 (Qn (O9 (wpAny_tryCatch ?_)));unfold Builtin.Dict.pairItems;refine O9 (Wo (T:="tuple") ⟨oj,ho,a5⟩ ?_);rw[if_pos (by decide)];refine O9 (Vl ho hd (Pf ?_));dsimp only[Option.getD_some];have a4:L.get? f=O7 o:=(B.aH f _ m).1;refine Qn (vB (F:=F) (A:=A1.in1) (show A1.units+1+1<Q_ from hu) B hK hP hw dd a4 ia i1 r1 i2 r2 (cY J.1) J.2 λh2 o2 tk E eo po=>?_);refine Pf ⟨SW _ (by decide+kernel),?_⟩;obtain⟨⟨h,d1,d2⟩,_⟩:=po;have kp:Kp F.toFb c 0 (upd c f (fV f o2)) 0:=Kp.own hp m rfl;have H:it≠f:=λz=>by rw[z,m]at y;cases y
    have I2:Inv X pins σ (upd c f (fV f o2)) {s with heap:=h2,toks:=tk}:=gJ (s:={s with heap:=L}) B m E eo;refine n_ hc hK hP hw hA hu hp ps (i+1) _ _ (putD ks ds k v).1 (putD ks ds k v).2 h xs o2 _ _ I2 ah (d1.mono kp) (d2.mono kp) (S.mono kp) (by rw[a2];exact ir.mono kp) ?_ ⟨by rw[ai H];exact y,Y,f2,W,U,f5⟩ e λo' C s' I' N M=>?_
    .obtain⟨oi,z1,z2⟩:=Z;exact⟨oi,(E.2 it H).trans z1,z2⟩
    .rw[bF]at I' N M;exact q o' C s' I' N M
   .rw[if_neg J]at e;cases e
noncomputable def Hu:D->M D
 |.lst ps=>do let r<-M.get (eK ps ([],[]));pure (.aE r.1 r.2)|_=>M.fail
theorem Ag(S:X.calm=Pa)(hu:X.A.units+4<Q_)(hP:X.prog=F.P)(hw:X.w=F.w):bo X F (.type "dict") (one Hu)where
 call:=λpins s σ H k xs us ds Q I rv l hK ia qa=>by
  obtain⟨d,rfl,q⟩:=eA qa;obtain⟨v,rfl,i⟩:=ia.one;match d,q,i with
  |.lst ps,q,i=>
   obtain⟨r,e,q⟩:=M.run_get.mp q;have q:qE F.toFb H k Q (.aE r.1 r.2) k:=q;obtain⟨u,rfl,rx⟩:=vals1 rv;simp only[Is]at i;obtain⟨a,D,rfl,G,iv⟩:=i;cases(show u=PQ a from rx);have O:H s.heap.objs.size=Pb:=I.aH.fresh (Pq _);have j:s.heap.objs.size≠F.p:=iB l O;have L:(s.heap.objs.size==Q8)=Pc:=beq_eq_false_iff_ne.mpr (Q9 (P5 I.Ca));refine callType_codes (Q₁:=λobj h=>obj=.ref s.heap.objs.size/\h={s with heap:=s.heap.push {cls:=.type "dict",data:=.dict #[]}}) PySem.F.kt_called_dict (PySem.F.kt_typeCall_dict_1 _) PySem.F.entry_dict_init (kt_code_dict_new _ ⟨rfl,rfl⟩) ?_;rintro obj h⟨rfl,rfl⟩;have d6:(s.heap.push {cls:=.type "dict",data:=.dict #[]}).get? s.heap.objs.size=O7 dB:=PR _ rfl;have I1:Inv X pins σ (upd H s.heap.objs.size (fV s.heap.objs.size dB)) {s with heap:=s.heap.push {cls:=.type "dict",data:=.dict #[]}}:=I.laid (a:=s.heap.objs.size) (t':=s.toks) (λ_ _ q=>Ph _ q) (Pq _) (lV d6);have ex:Ext F.toFb H k (upd H s.heap.objs.size (fV s.heap.objs.size dB)) k:=.new O;have Y:Shared.TypeIs {s with heap:=s.heap.push {cls:=.type "dict",data:=.dict #[]}} (.ref s.heap.objs.size) "dict":=⟨_,d6,rfl⟩;refine⟨Y,PySem.F.args_dict_init_2 _ _,?_⟩;unfold Builtin.«dict.__init__»;refine O9 ?_;unfold Builtin.Dict.selfAndRest;refine O9 (WG Y ?_);show wpAny _ _ (pure (s.heap.objs.size,[PQ a])) _ _ _;refine Pf ?_;show wpAny _ _ (V3 "dict.__init__" s.heap.objs.size (.ref a) [] .none) _ _ _;unfold V3;obtain⟨J,a2,pl,hz⟩:=I1.list (show d5 X.K _ a D by rw[hK];exact(G.mono ex.kp).2.sq);obtain⟨o,W,x,vG,n,R⟩:∃o,(s.heap.push {cls:=.type "dict",data:=.dict #[]}).get? a=O7 o/\o.cls=.type "list"/\o.dict=Pb/\∃n,o.data=.seq J.toArray n:=by
    obtain⟨o,n,y,h3,h1,h4⟩:=pl;exact⟨o,y,h3,h1,n,h4⟩
   refine O9 (Wo (T:="list") ⟨o,W,x⟩ ?_);rw[if_pos (by decide)];refine O9 (xT W x R vG (show X.A.in1.in1.handled=Pb from I.ok.hd S) λy g g2=>?_);rw[if_pos (show(Pb:Option O_).isNone=Pa from rfl)];refine O9 (UD ?_);have B:Inv X pins σ (upd H s.heap.objs.size (fV s.heap.objs.size dB)) {s with heap:=y,toks:=g}:=I1.kept (t':=g) g2;obtain⟨V,a0,E,a3⟩:=B.list (show d5 X.K _ a D by rw[hK];exact(G.mono ex.kp).2.sq);refine O9 (X9 E.isList ?_);refine Pf ⟨SW _ (by decide+kernel),?_⟩;have I3:Inv X pins σ (upd H s.heap.objs.size (fV s.heap.objs.size dB)) {s with heap:=y.push {cls:=.type "list_iterator",data:=.fields #[.ref a,.int 0 0]},toks:=g}:=B.kept (t':=g) λb o e=>Ph _ e;refine n_ (a:=a) (it:=y.objs.size) S hK hP hw (A1:=X.A.in1) (I.ok.hd S) (show X.A.units+1+2<Q_ by omega) j ps 0 0 _ [] [] [] D dB _ _ I3 ah nW .nil (G.mono ex.kp) (by simpa using iv.mono ex.kp) ⟨_,PR _ rfl,rfl,rfl⟩ (B.BW (Pq _) (B.aH.fresh (Pq _))) e λm C s' U d1 Z=>⟨rfl,?_⟩;rw[bF]at U d1 Z;have N:s'.heap.get? s.heap.objs.size=O7 m:=(U.aH _ _ ah).1;have I4:=U.freeze ah N (λ_ z=>nomatch z) (λ_ _ z=>nomatch z) (λ_ z=>nomatch z) (λ_ z=>nomatch z);have kp:Kp F.toFb (upd H s.heap.objs.size (fV s.heap.objs.size m)) k (upd (upd H s.heap.objs.size (fV s.heap.objs.size m)) s.heap.objs.size (.bQ m (fV s.heap.objs.size m))) k:=Kp.own j ah rfl;refine⟨.ref s.heap.objs.size,_,I4,rfl,q _ _ ?_ ?_⟩
   .rw[bF];exact .new O
   .simp only[Is];exact⟨_,C,rfl,⟨m,⟨j,L,.inl ⟨_,ah⟩⟩,d1.mono kp⟩,Z.mono kp⟩|.bH,q,_=>exact q.elim|.bl _,q,_=>exact q.elim|.int _,q,_=>exact q.elim|.str _,q,_=>exact q.elim|.tup _,q,_=>exact q.elim|.aE _ _,q,_=>exact q.elim|.exc _ _,q,_=>exact q.elim|.aM _,q,_=>exact q.elim
end
mutual
noncomputable def og:D->PyData
 |.bl b=>.bool b|.int i=>.int i|.str x=>.str x|.tup a=>.tuple (iK a)|.lst a=>.list (iK a)|_=>.none
noncomputable def iK:List D->List PyData
 |[]=>[]|x::a=>og x::iK a
end
mutual
noncomputable def pD:D->Bool
 |.bH=>Pa|.bl _=>Pa|.int _=>Pa|.str _=>Pa|.tup a=>md a|.lst a=>md a|_=>Pc
noncomputable def md:List D->Bool
 |[]=>Pa|x::a=>pD x&&md a
end
mutual
theorem vP:∀(d:D),(og d).hasDict=Pc
 |.bH=>rfl|.bl _=>rfl|.int _=>rfl|.str _=>rfl|.tup a=>by simp only[og,PyData.hasDict];exact me a|.lst a=>by simp only[og,PyData.hasDict];exact me a|.aE _ _=>rfl|.exc _ _=>rfl|.aM _=>rfl
theorem me:∀(ds:List D),Ya (iK ds)=Pc
 |[]=>rfl|d::ds=>by simp only[iK,Ya,vP d,me ds,Bool.or_self]
end
mutual
theorem rX{h:P7}:∀{u:O_}{d:D},pD d=Pa->bh h u d->∃as,Reads h u (og d) as
 |_,.bH,_,i=>by simp only[bh]at i;subst i;exact⟨_,.none⟩|_,.bl b,_,i=>by simp only[bh]at i;subst i;exact⟨_,.bool b⟩|_,.int n,_,i=>by simp only[bh]at i;obtain⟨t,rfl⟩:=i;exact⟨_,.int n t⟩|_,.str x,_,i=>by simp only[bh]at i;obtain⟨t,rfl⟩:=i;exact⟨_,.str x t⟩|_,.tup k,p,i=>by
  simp only[bh]at i;obtain⟨a,c,rfl,⟨o,j,g,n,f⟩,e⟩:=i;simp only[pD]at p;obtain⟨as,r⟩:=jQ p e;exact⟨_,.tuple j g f r⟩|_,.lst k,p,i=>by
  simp only[bh]at i;obtain⟨a,c,rfl,⟨o,j,g,n,f⟩,e⟩:=i;simp only[pD]at p;obtain⟨as,r⟩:=jQ p e;exact⟨_,.list j g f r⟩|_,.aE _ _,p,_=>by simp[pD]at p|_,.exc _ _,p,_=>by simp[pD]at p|_,.aM _,p,_=>by simp[pD]at p
theorem jQ{h:P7}:∀{us:List O_}{ds:List D},md ds=Pa->cu h us ds->∃as,ReadsAll h us (iK ds) as
 |_,[],_,i=>by simp only[cu]at i;subst i;exact⟨_,.nil⟩|_,d::ds,p,i=>by
  simp only[cu]at i;obtain⟨u,r,rfl,e,c⟩:=i;simp only[md,Pp]at p;obtain⟨as,b⟩:=rX p.1 e;obtain⟨bs,a⟩:=jQ p.2 c;exact⟨_,.cons b a⟩
end
noncomputable def mf(d:D):Bool:=pD d&&((og d).showable&&(decide ((og d).depth<=8)&&decide ((og d).shown.length<=Pl)))
noncomputable def jR:D->Bool
 |.tup _=>Pa|_=>Pc
noncomputable def KR(d:D):M D:=do
 M.need (jR d=Pa/\mf d=Pa)pure (.str (og d).shown)
section
variable{X:Cx}{F:Fx}
theorem Dt(w:X.A.guards=O7 [])(hu:X.A.units+16<Q_):bo X F (.builtin "repr") (one KR)where
 call:=λf s x H k y B D Q I h l hK m j=>by
  obtain⟨d,rfl,q⟩:=eA j;obtain⟨v,rfl,i⟩:=m.one;obtain⟨⟨n,b⟩,q⟩:=q;have q:qE F.toFb H k Q (.str (og d).shown) k:=q;obtain⟨u,rfl,c⟩:=vals1 h;unfold mf at b;rw[Pp,Pp,Pp,decide_eq_true_eq,decide_eq_true_eq]at b;obtain⟨as,r⟩:=rX b.1 (eX I hK c i);have o:∃a,u=.ref a:=by
   cases d<;>first|cases n|skip
   simp only[Is]at i;obtain⟨a,z,rfl,_⟩:=i;exact⟨a,c⟩
  obtain⟨a,rfl⟩:=o;refine repr_of_reads' r b.2.1 (PyData.noDict_hsm (vP d)) w (by have:=b.2.2.1;omega) (λ_ _ e=>e) (λC t g p=>?_) b.2.2.2;exact⟨.str (og d).shown,H,I.kept (t':=g) p,⟨t,rfl⟩,q _ H .refl (by simp only[Is])⟩
end
noncomputable def oh{c:Type}(g:D->ag->M ag)(f:ag->M Bool)(h:c->ag->M (c×ag)):c->List D->ag->M (c×ag)
 |acc,[],e=>pure (acc,e)|acc,d::i,e=>do
  let a<-g d e;let b<-f a;if b then do
   let r<-h acc a;oh g f h r.1 i r.2;else oh g f h acc i a
noncomputable def ET(F:Fx){g e:Type}(So:Hp->g->e->Prop)(o:e->ag->M (e×ag))(rd:RB g):Prop:=∀(j:St)(l:ag)(H:Hp)(k:Nat)(a:g)(f:e)(Q:e×ag->Nat->Prop)(n:g->St->Hp->Prop),cg F l k j H->So H a f->(o f l).run k Q F.E->(∀m b d c h i,Ext F.toFb H k h i->cg F d i c h->So h m b->Q (b,d) i->n m c h)->rd j H a n
section
variable{F:Fx}{α β:Type}{So:Hp->α->β->Prop}{g g2:D->ag->M ag}{tc tc2:ag->M Bool}{em:β->ag->M (β×ag)}{rd:RB α}{tI2:ag->M (List D)}
theorem KS(mono:∀{H H':Hp}{k p:Nat}{a:α}{r:β},So H a r->Kp F.toFb H k H' p->So H' a r)(Z:ET F So em rd){σ:St}{ρ:ag}{u:Hp}{k1:Nat}{J:It}{ds:List D}{a0:α}{t:β}{Q:β×ag->Nat->Prop}{P:α->St->Hp->Prop}(it:tW F.toFb J ds u k1)(S:cg F ρ k1 σ u)(i0:So u a0 t)(h:(oh g tc em t ds ρ).run k1 Q F.E)(q:∀a xs ρ' o H' p,Ext F.toFb u k1 H' p->cg F ρ' p o H'->So H' a xs->Q (xs,ρ') p->P a o H'):uS J (Kn F g) (qW F tc) rd σ u a0 P:=by
 refine⟨λi m a n l=>m=ds.length-i/\i<=ds.length/\∃c f as,cg F c f n l/\Ext F.toFb u k1 l f/\So l a as/\(oh g tc em as (ds.drop i) c).run f Q F.E,⟨ds.length,rfl,Qb _,ρ,k1,t,S,.refl,i0,h⟩,?_⟩;rintro i m a n l⟨rfl,Y,c,f,as,B,w,I,A⟩;by_cases s:i<ds.length
 .obtain⟨d,hd,K⟩:=pd s;rw[K]at A;obtain⟨go,T⟩:=it.step i d l f hd w.kp B.live;refine .inr ⟨go,λx H3 y=>?_⟩;obtain⟨N,X⟩:=T x H3 y;refine⟨c,f,d,B.mono N,X,M.wk A λv k4 V C H4 e4 S4=>?_⟩;refine qW.next S4 V λb G R e5 O L=>?_;have j:Ext F.toFb l f R G:=(N.trans e4).trans e5;cases b with
  |false=>exact⟨ds.length-(i+1),by omega,rfl,s,v,G,as,O,w.trans j,mono I j.kp,L⟩|true=>
   rw[if_pos rfl];exact Z C v R G a as _ _ O (mono I j.kp) L λa' z ρ' o H' p e6 S6 W U=>⟨ds.length-(i+1),by omega,rfl,s,ρ',p,z,S6,w.trans (j.trans e6),W,U⟩
 .have e:i=ds.length:=by omega
  subst e;rw[VZ]at A;exact .inl ⟨it.stop l f w.kp B.live,q a as c n l f w B I A⟩
end
noncomputable def jt:Qx:={cls:=.type "dict",dict:=Pb,data:=.dict #[]}
noncomputable def Mx(a ob:Qx):Prop:=a=ob/\∀v,ob.data≠.cell v
noncomputable def uh(F:Fx)(j i:TE):RB Qx:=λc H a Q=>j c H λx k=>i c k λy b=>∃d e ks h f,bG F.toFb b a ks f/\af F.toFb b f h/\kinds ks d/\ks.length<Pl/\Is F.toFb b x d/\Is F.toFb b y e/\∀g,rB F b ks h d e g->Q g c b
noncomputable def om(k v:PC)(D:Pg)(env:U_):Vy Unit:=do
 let a<-Rz k env;let b<-Wa [a] (Rz v env)Ug {k.pos with endLine:=v.pos.endLine,endCol:=v.pos.endCol}Wa [a,b] (dictSet D a b)
theorem rY{Y:Cx}{F:Fx}{D:Pg}{k v:PC}{f j:TE}(o:Jh Y D)(hu:Y.A.units+2<Q_)(hK:Y.K=F.K)(hP:Y.prog=F.P)(hw:Y.w=F.w)(J:PE Y k f)(E:PE Y v j):Body Y Mx D (om k v D Y.env) (uh F f j):=by
 intro l s c H N ob Q I h aH q;unfold om;refine O9 (bp (J _ s c H _ I q) λW m a=>?_);obtain⟨x,S,O,p,t⟩:=a;refine O9 (Qn (bp (E _ m c S _ O t) λT V a=>?_));obtain⟨y,R,i,n,d,e,ks,Z,U,M,B,u,C,ix,z,r⟩:=a;refine O9 (RG (Qn ?_));obtain⟨rfl,G⟩:=aH;have eD:=(i.pin _ (PK _ Pn)).1;refine vB (F:=F) (by omega) i hK hP hw M eD B ix p z n u C λX g f sb L po=>?_;exact⟨g,g,c,R,i.EF o.young o.cells h (λb ob hb e=>(sb.2 b hb).trans e) L po.2,⟨rfl,po.2⟩,r g po⟩
noncomputable def oD(a:Qx):HO:=.bQ a (.ext λ_=>True)
theorem vQ{P:PF}{w:P0}(a ob:Qx)(H:Hp)(h:P7)(D:Pg)(ok:Mx a ob)(e:h.get? D=O7 ob)(_:gQ P w H h):aX P w (upd H D (oD a)) h D (oD a):=by
 obtain⟨rfl,_⟩:=ok;exact⟨e,trivial,⟨_,e⟩,λ_ _ _ _=>trivial⟩
theorem rZ{prog:PF}{w:P0}{A:P9}{E:O_->Pe->Prop}{s:Pe}{Q:O_->Pe->Prop}(h:Q (.ref s.heap.objs.size) {s with heap:=s.heap.push jt}):wpAny (Py prog w) A newDict Q E s:=Q6 h
theorem ui{B:Fb}{H:Hp}:bG B H jt [] []:=⟨Qb _,.inl ⟨[],[],.nil,⟨#[],0,⟨rfl,rfl,rfl⟩,rfl,λe a=>by simp at a,.nil,.nil⟩,rfl,rfl⟩⟩
noncomputable def Jq(F:Fx)(H:Hp)(a:Qx)(b:List D×List D):Prop:=∃c,bG F.toFb H a b.1 c/\af F.toFb H c b.2
theorem Jq.mono{F:Fx}{H H':Hp}{k c:Nat}{a:Qx}{r:List D×List D}(h:Jq F H a r)(e:Kp F.toFb H k H' c):Jq F H' a r:=let⟨b,f,d⟩:=h;⟨b,f.mono e,d.mono e⟩
noncomputable def Ah(c b:ag->M D)(a:List D×List D)(ρ:ag):M ((List D×List D)×ag):=do
 let x<-c ρ;let y<-b ρ;M.need (kinds a.1 x/\a.1.length<Pl)pure (putD a.1 a.2 x y,ρ)
theorem Du{F:Fx}{f e:ag->M D}:ET F (Jq F) (Ah f e) (uh F (di F f) (di F e)):=by
 intro i j H k a b Q G S so h q;refine di.next S h λx E C I g z p t=>?_;refine di.next z t λy n B A d w o c=>?_;obtain⟨⟨s,r⟩,c⟩:=c;obtain⟨l,v,u⟩:=so.mono (g.trans d).kp;exact⟨x,y,b.1,b.2,l,v,u,s,r,p.mono d.kp,o,λm po=>q m _ j i A n (g.trans d) w po.1 c⟩
theorem uj{F:Fx}{H:Hp}{k:Nat}{p:Pg}{a:Qx}{b:List D×List D}(e:H F.p≠Pb)(c:H p=Pb)(hs:(p==Q8)=Pc)(so:Jq F H a b):Is F.toFb (upd H p (oD a)) (.ref p) (.aE b.1 b.2):=by
 obtain⟨d,g,f⟩:=so.mono (Ext.new (F:=F.toFb) (o:=oD a) (k:=k) c).kp;simp only[Is];exact⟨p,d,rfl,⟨a,⟨iB e c,hs,.inl ⟨_,ah⟩⟩,g⟩,f⟩
section
variable{X:Cx}{F:Fx}{ke ve tg iter tg2 iter2:PC}{ifs ifs2:List PC}{pos:Ro}{scope:RQ}{g g2:D->ag->M ag}{tc tc2:ag->M Bool}{tk tv:ag->M D}{tI tI2:ag->M (List D)}
theorem oo(it:O_)(D:Pg)(env:U_):VU (.DictComp ke ve [⟨tg,iter,ifs,0⟩] scope pos) 0 it (.ref D) env=(do
   Ug iter.pos;match<-UE it with
   |none=>pure (.done .next)|some v=>
    Ss tg it v;UC tg env v;let mut ok:=Pa;for c in ifs do if ok then ok<-V9 c env (Rz c env)
    if ok then om ke ve D env
    YD (.compLoop (.DictComp ke ve [⟨tg,iter,ifs,0⟩] scope pos) 0 it (.ref D) env)):=by
 unfold om;rfl
theorem Ai(own fr:List PX)(js:List Nat)(d:X.calm=Pa)(hu:X.A.units+2<Q_)(B:nP X.env.scope scope=Pa)(L:js.map (λj=>X.N[j]?)=fr.map O7)(i:∀x∈fr,scope.names.lookup x=O7 .free)(u:js.Nodup)(hw:DI X F tg iter tI)(O:∀pins cl C b s H,DG (ee X pins scope (own++fr) cl C b s H) F tg g)(hi:∀pins cl C b s H,lE (ee X pins scope (own++fr) cl C b s H) F ifs tc)(K:∀pins cl C b s H,DE (ee X pins scope (own++fr) cl C b s H) F ke tk)(E:∀pins cl C b s H,DE (ee X pins scope (own++fr) cl C b s H) F ve tv)(hs:∀x,R3 iter X.env x=pure x)(hP:X.prog=F.P)(f:X.w=F.w):DU X F (.DictComp ke ve [⟨tg,iter,ifs,0⟩] scope pos) (λρ=>do let ds<-tI ρ;let r<-oh g tc (Ah tk tv) ([],[]) ds (eW ρ own.length js);pure (.aE r.1.1 r.1.2)):=by
  refine⟨hw.hK,λpins s l H I=>?_⟩;obtain⟨cl,c⟩:=zD I.ok B;have P:pB X (.DictComp ke ve [⟨tg,iter,ifs,0⟩] scope pos) (vg own.length js (Ni F tI) (Kn F g) (qW F tc) (uh F (di F tk) (di F tv)) jt oD) pins s l H:=⟨λQ z=>vh (ok:=Mx) (ob0:=jt) (newAcc:=newDict) (own:=own) (fr:=fr) (js:=js) (body:=λD env=>om ke ve D env) d c L i hw.pi rfl rfl (gH rfl rfl) (λh=>rZ h) (λa ob v ok=>ok.2 v) ⟨rfl,λv z=>nomatch z⟩ (λz=>nomatch z) (λ_ _ _=>rfl) (λ_ _ _=>rfl) (λ_ _ _=>oo _ _ _) (λpins cs C b s H=>(O pins cs C b s H).pg) (λpins cs C b s H=>(hi pins cs C b s H).pi) (λpins cs C b s H D o=>rY o hu hw.hK hP f (K pins cs C b s H).pe (E pins cs C b s H).pe) vQ hs pins s l H Q I z,λx Y W gt D t y z=>vi (ok:=Mx) (ob0:=jt) (newAcc:=newDict) (own:=own) (fr:=fr) (js:=js) (body:=λD env=>om ke ve D env) d c L i hw.pi (λ_=>rfl) rfl (gH rfl rfl) (λh=>rZ h) (λa ob v ok=>ok.2 v) ⟨rfl,λv z=>nomatch z⟩ (λz=>nomatch z) (λ_ _ _=>rfl) (λ_ _ _=>rfl) (λ_ _ _=>oo _ _ _) (λpins cs C b s H=>(O pins cs C b s H).pg) (λpins cs C b s H=>(hi pins cs C b s H).pi) (λpins cs C b s H D o=>rY o hu hw.hK hP f (K pins cs C b s H).pe (E pins cs C b s H).pe) vQ hs pins s l H x Y W gt D I t y z⟩;refine P.imp λQ m=>?_;obtain⟨ρ,k,S,h⟩:=m;refine⟨ρ,k,S,M.wk h λds k1 q J H1 R it=>?_⟩;have S1:=(S.mono R).ee own.length u;refine KS (So:=Jq F) (λh e=>h.mono e) Du it S1 ⟨[],ui,.nil⟩ q λa xs U T H' Z e2 S2 so V p G n=>?_;exact V _ _ ((R.trans e2).trans (.new G)) (uj (k:=Z) S2.live G n so)
end
section
variable{X:Cx}{F:Fx}
noncomputable def Aj(d:D):List D->Nat->Option Nat
 |[],_=>Pb|x::r,i=>if jf x d then O7 i else Aj d r (i+1)
noncomputable def Ak:D->List D->M D
 |.tup a,[d]=>do M.need ((∀x∈a,t7 x)/\t7 d);let i<-M.get (Aj d a 0);pure (.int i)|_,_=>M.fail
theorem keysOf{l:List D}:(∀x∈l,t7 x)->∃ks:List Key,l=ks.map kD:=by induction l with
 |nil=>exactλ_=>⟨[],rfl⟩|cons x l a=>
  intro h;obtain⟨ks,rfl⟩:=a λy b=>h y (Po _ b);obtain⟨k,rfl⟩:=h x Pn;exact⟨k::ks,rfl⟩
theorem oq:∀{ks:List Key}{a:List O_}{P:PF}{w:P0},ar (ks.map kV) a->∀(i:Nat)(k:Key),ks[i]?=O7 k->∃u,a[i]?=O7 u/\(aq P w).is k u=Pa
 |[],_,_,_,_,i,k,h=>by simp at h|k0::ks,_,P,w,.cons r t,0,k,h=>by
  simp only[SO,R6]at h;subst h;exact⟨_,rfl,fI r⟩|k0::ks,_,P,w,.cons r t,i+1,k,h=>by
  simp only[R5]at h;obtain⟨u,c,b⟩:=oq (P:=P) (w:=w) t i k h;exact⟨u,by simpa using c,b⟩
theorem vR{a:Key}:∀{ks:List Key}{j i:Nat},Aj (kD a) (ks.map kD) j=O7 i->∃m,i=j+m/\ks[m]?=O7 a/\∀n k,n<m->ks[n]?=O7 k->k≠a
 |[],j,i,h=>by cases h|k::ks,j,i,h=>by
  simp only[PY,Aj]at h;split at h
  .rename_i e;cases h;exact⟨0,rfl,by rw[(f_ k a).mp e];rfl,λn k c=>absurd c (R8 _)⟩
  .rename_i e;obtain⟨m,l,g,f⟩:=vR h;refine⟨m+1,by omega,by simpa using g,λn d c b=>?_⟩;cases n with
   |zero=>
    simp only[SO,R6]at b;subst b;intro z;exact e ((f_ k a).mpr z)|succ n=>exact f n d (by omega) (by simpa using b)
theorem Al{pins:List (Pg×Qx)}{s:Pe}{σ:St}{H:Hp}{k:Nat}{a:Pg}{xs:List V}{us:List O_}{d:D}{ds:List D}{Q:VK}(I:Inv X pins σ H s)(R:ar xs us)(hK:X.K=F.K)(J:Is F.toFb H (.ref a) d)(Y:af F.toFb H xs ds)(q:(Ak d ds).run k (qE F.toFb H k Q) F.E):wpAny (Py X.prog X.w) X.A (Ts (.builtin "tuple.index") (.ref a::us)) (EP X pins σ Q) X.xe s:=by match d,ds,q with
 |.tup es,[d],q=>
  obtain⟨⟨hk,hd⟩,q⟩:=q;obtain⟨i,hi,q⟩:=M.run_get.mp q;have q:qE F.toFb H k Q (.int i) k:=q;simp only[Is]at J;obtain⟨a',ws,e,N,W⟩:=J;cases e;obtain⟨b,t,U,hz⟩:=I.tuple (by rw[hK];exact N.2);obtain⟨o,L,hc,n,g⟩:=id U;have hT:s.TypeIs (.ref a) "tuple":=⟨o,L,hc⟩;obtain⟨w,rfl,iw⟩:=Y.one;obtain⟨u,rfl,O⟩:=vals1 R;obtain⟨ks,rfl⟩:=keysOf hk;obtain⟨C,rfl⟩:=hd;have:=pk W;subst this;have:=eY iw;subst this;obtain⟨m,l,B,h3⟩:=vR hi;rw[Nat.zero_add]at l;subst l;have hm:i<b.length:=by
   have:=t.length;rw[Pk]at this;have:=(List.getElem?_eq_some_iff.mp B).1;omega
  refine QJ VO hT PySem.F.entry_tuple_index ?_ (PySem.F.args_tuple_index_2 _ _);unfold Builtin.«tuple.index»;refine O9 (m:=selfAndSome "tuple.index" "index" 1 3 ⟨[.ref a,u],[]⟩) (VE (show selfAndSome "tuple.index" "index" 1 3 ⟨[.ref a,u],[]⟩=pure (.ref a,[u])from rfl) ?_);dsimp only;unfold Vh;refine O9 (O9 (Vl L g (Pf ?_)));refine O9 (Pf ?_);refine O9 (Pf ?_);rw[Std.Legacy.Range.forIn_eq_forIn_range'];refine O9 (SH _ (λrest r p=>r.1=Pb/\p=s/\∃j,j<=i/\rest=List.range' j (b.length-j) 1) _ ?_ ?_ _ _ ⟨rfl,rfl,0,Qb _,?_⟩)
  .rintro j rest⟨T,S⟩p⟨hr,rfl,G,hj,h⟩;have f:b.length-G=(b.length-G-1)+1:=by omega
   rw[f,List.range'_succ]at h;injection h with l e2;subst l;have c:j<ks.length:=by
    have:=t.length;rw[Pk]at this;omega
   obtain⟨y,Z,v⟩:=oq (P:=X.prog) (w:=X.w) t j ks[j] (PN c);have x:b.toArray[j]?=O7 y:=by simpa using Z
   rw[x];dsimp only;refine O9 ((aq X.prog X.w).eqBool v (fI O) ?_);by_cases z:j=i
   .subst z;have:ks[j]=C:=by
     rw[PN c]at B;exact Pm B
    rw[decide_eq_true this,if_pos rfl];refine O9 (O9 (wpAny_mkInt (Pf (Pf (Pf ⟨_,rfl,?_⟩)))));exact⟨.int j,H,I.tok _,⟨_,rfl⟩,q _ H .refl (by simp only[Is])⟩
   .have:ks[j]≠C:=h3 j _ (by omega) (PN c);rw[decide_eq_false this,if_neg QM];exact Pf ⟨rfl,rfl,j+1,by omega,by rw[e2];congr 1⟩
  .rintro⟨T,S⟩p⟨hr,rfl,j,hj,h⟩;have:=congrArg RZ h;simp only[P8,List.length_range']at this;omega
  .simp[Std.Legacy.Range.size]
theorem EU{pins:List (Pg×Qx)}{σ:St}{H:Hp}{s:Pe}{p:Pg}(I:Inv X pins σ H s)(h:H p≠Pb):X.K.lookup p=Pb:=by cases e:X.K.lookup p with
 |none=>rfl|some o=>exact absurd (I.bs p o (I.mod.Fq p o e)).2 h
theorem Am{x:PX}{v:V}{u:O_}{d:D}{pos:Ro}(e:Gl X x)(c:X.mg x=O7 u)(r:RelV v u)(hi:∀H,H F.p≠Pb->X.K.lookup F.p=Pb->Is F.toFb H v d)(hd:(x==("__debug__":PX))=Pc)(hK:X.K=F.K):DE X F (.Name x pos) (λ_=>pure d):=⟨hK,λa s b H Q I⟨f,k,S,h⟩=>oK e c r hd a s b H Q I (h _ H .refl (hi H S.live (EU I S.live)))⟩
theorem Hv{x:PX}{e:PC}{np B n:Ro}{a:Pg}{o:Qx}{d:D}{i:ag->M (List A)}(R:Gl X x)(P:X.mg x=O7 (.ref a))(hd:(x==("__debug__":PX))=Pc)(hi:∀H,H F.p≠Pb->X.K.lookup F.p=Pb->Is F.toFb H (.ref a) d)(lk:X.K.lookup a=O7 o)(T:o.cls=.type "tuple")(O:o.dict=Pb)(ha:DA X F [e] i)(g:Tf (.Name x np) "index" X.env (Rz (.Name x np) X.env)=Rz (.Name x np) X.env)(f:(B.endLine==n.line)=Pa)(m:((RR n (PL [e] X.env)).all (λx=>!x.1)&&(WV n (UP [] X.env)).all (λx=>x.1.isSome)&&decide ([e].length+([]:List TC).length+(if([]:List TC).isEmpty then 0 else 1)<30))=Pa)(hs:PL [e] X.env=(Pc,Rz e X.env)::PL [] X.env)(c:(RR n (PL [] X.env)).any (·.1)=Pc):DE X F (.Call (.Attribute (.Name x np) "index" B) [e] [] n) (λρ=>do let ds<-iD (<-i ρ);Ak d ds):=by
 have mt:JU X "tuple.index" (λx y H Q=>x=.ref a/\∃k ds,H F.p≠Pb/\af F.toFb H y ds/\(Ak d ds).run k (qE F.toFb H k Q) F.E):=λj s w H x y v Z Q I C G u=>by
  obtain⟨ex,k,ds,l,L,q⟩:=u;subst ex;cases(show v=PQ a from C);exact Al I G ha.hK (hi H l (EU I l)) L q
 refine⟨ha.hK,(uc (ty:=λx H=>x=.ref a) (λ{j w H s x v}I r ex=>by
  subst ex;cases(show v=PQ a from r);have t:s.heap.get? a=O7 o:=I.jH _ _ lk;exact⟨⟨o,t,T⟩,λb q=>by cases q;exact⟨o,t,O⟩⟩) PySem.F.plainAttrs_tuple VO PySem.F.type_tuple_index mt (oK R P (v:=.ref a) rfl hd) ha.pa g m f hs c).imp λw H Q⟨ρ,k,S,h⟩=>?_⟩;refine⟨rfl,qY.next S h λas J Y H1 V W N t=>?_⟩;obtain⟨ds,rfl,U⟩:=bS t;exact⟨rfl,J,ds,W.live,bT N,(Ak d ds).mono U (λd' k' r=>qE.ext V r) λ_ _ z=>z⟩
end
end L2
end
section
namespace L2
open PySem PySem.Spec PyProof.Rows SortM
noncomputable def insI(n:Int):List Int->List Int
 |[]=>[n]|m::r=>if n<=m then n::m::r else m::insI n r
noncomputable def sortI:List Int->List Int
 |[]=>[]|n::r=>insI n (sortI r)
theorem insI_perm(n:Int):∀l:List Int,(insI n l).Perm (n::l)
 |[]=>.refl _|m::r=>by
  unfold insI;split;.exact .refl _
  .exact((insI_perm n r).cons m).trans (.swap n m r)
theorem sortI_perm:∀l:List Int,(sortI l).Perm l
 |[]=>.nil|n::r=>(insI_perm n (sortI r)).trans ((sortI_perm r).cons n)
theorem vS(n:Int):∀{l:List Int},l.Pairwise (·<=·)->(insI n l).Pairwise (·<=·)
 |[],_=>by simp[insI]|m::r,h=>by
  unfold insI;have b:=List.pairwise_cons.mp h;split
  .rename_i e;refine List.pairwise_cons.mpr ⟨λx a=>?_,h⟩;rcases List.mem_cons.mp a with rfl|a;.exact e
   .exact Int.le_trans e (b.1 x a)
  .rename_i e;refine List.pairwise_cons.mpr ⟨λx a=>?_,vS n b.2⟩;rcases List.mem_cons.mp ((insI_perm n r).mem_iff.mp a)with rfl|a;.omega
   .exact b.1 x a
theorem mh:∀l:List Int,(sortI l).Pairwise (·<=·)
 |[]=>.nil|n::r=>vS n (mh r)
theorem EV:∀{l m:List Int},l.Perm m->l.Pairwise (·<=·)->m.Pairwise (·<=·)->l=m
 |[],m,p,_,_=>(List.perm_nil.mp p.symm).symm|a::l,[],p,_,_=>absurd p.length_eq (by simp)|a::l,b::m,p,g,f=>by
  have d:=List.pairwise_cons.mp g;have c:=List.pairwise_cons.mp f;have e:a=b:=by
   rcases List.mem_cons.mp (p.mem_iff.mp (Pn (a:=a)))with e|e;.exact e
   .rcases List.mem_cons.mp (p.mem_iff.mpr (Pn (a:=b)))with z|z;.exact z.symm
    .exact Int.le_antisymm (d.1 b z) (c.1 a e)
  subst e;rw[EV (List.Perm.cons_inv p) d.2 c.2]
theorem r8{l m:List Int}(p:l.Perm m)(h:l.Pairwise (·<=·)):l=sortI m:=EV (p.trans (sortI_perm m).symm) h (mh m)
theorem pE{c j:Type}{f:c->j}{vs k:List j}(p:vs.Perm k):∀{l:List c},k=l.map f->∃m:List c,m.Perm l/\vs=m.map f:=by induction p with
 |nil=>intro l e;exact⟨[],by cases l with
   |nil=>exact .nil|cons=>simp at e,rfl⟩|cons x p o=>
  intro l e;cases l with
  |nil=>simp at e|cons y l=>
   simp only[PY,Tb]at e;obtain⟨m,g,rfl⟩:=o e.2;exact⟨y::m,g.cons y,by rw[e.1];rfl⟩
 |swap x y t=>
  intro l e;cases l with
  |nil=>simp at e|cons a l=>cases l with
   |nil=>simp at e|cons b l=>
    simp only[PY,Tb]at e;exact⟨b::a::l,.swap _ _ _,by rw[e.1,e.2.1,e.2.2];rfl⟩
 |trans s r i h=>
  intro l e;obtain⟨m,g,rfl⟩:=h e;obtain⟨n,d,q⟩:=i rfl;exact⟨n,d.trans g,q⟩
theorem iL{B:Fb}{H:Hp}:∀{ns:List Int},af B H (ns.map V.int) (ns.map D.int)
 |[]=>.nil|n::ns=>.cons (by simp only[Is]) iL
section
variable{X:Cx}{F:Fx}
theorem kL{pins:List (Pg×Qx)}{σ:St}{H:Hp}{s:Pe}{a:Pg}{o:Qx}{xs:List Int}(hP:X.prog=F.P)(hw:X.w=F.w)(h:fv F.toFb o xs)(d:s.heap.get? a=O7 o):∃b t,ST.td X.prog X.w s.heap a b t/\(b.map (·.1)).Perm xs:=by
 obtain⟨b,ob,c⟩:=h;obtain⟨t,S⟩:=ob.2.2 s.heap a d;rw[<-hP,<-hw]at S;exact⟨b,t,S,c⟩
theorem j_{pins:List (Pg×Qx)}{σ:St}{H:Hp}{s:Pe}{v:O_}{xs:List Int}{Q:VK}(I:Inv X pins σ H s)(J:xs.length<64)(h:∀R:List O_->Pe->Prop,(∀(d:P7)(r:Nat)(m:List Int)(us:List O_),(∀b o,s.heap.get? b=O7 o->d.get? b=O7 o)->m.Perm xs->ar (m.map V.int) us->R us {s with heap:=d,toks:=r})->wpAny (Py X.prog X.w) X.A.in1 (Xh v) R X.xe s)(q:∀l o,H l=Pb->Q (.ref l) (upd H l (.bQ o (.lst ((sortI xs).map V.int))))):wpAny (Py X.prog X.w) X.A (Ts (.builtin "sorted") [v]) (EP X pins σ Q) X.xe s:=by
 refine xj (h _ λd r m us K n u=>?_);have y:Inv X pins σ H {s with heap:=d,toks:=r}:=I.kept K;have N:m.length=xs.length:=n.length_eq;have E:m.length=us.length:=by have:=u.length;rwa[Pk]at this
 refine⟨by omega,_,_,tR (intsAre_of u),λa O c v C g e=>?_⟩;have bound:∀i∈a.toList,i<m.length:=λi hi=>by have:=List.mem_range.mp (v.2.mem_iff.mp hi);omega
 have k:ar (a.toList.map λi=>(m.map V.int).getD i .bH) (a.toList.map λi=>us.getD i Qc):=j6 u _ λi hi=>by rw[Pk];exact bound i hi
 have eq:(a.toList.map λi=>(m.map V.int).getD i .bH)=(a.toList.map λi=>m.getD i 0).map V.int:=by
  rw[Rk];refine Se λi hi=>?_;have x:=bound i hi;simp[RL,x]
 rw[eq]at k;have B:SortM.Ok m.length a:=by rw[E];exact v
 have L:(a.toList.map λi=>m.getD i 0)=sortI xs:=r8 ((xk B _ _ rfl).trans n) (qR v C λi j z=>by
  have:=of_decide_eq_false z;omega);have G:H d.objs.size=Pb:=y.aH.fresh (Pq _);have M:=y.newList (t:=r) (D:=d.objs.size) g (Pq _) k (by rw[Pk,Pk,QO,v.1,Rg];omega) e;refine⟨.ref d.objs.size,_,M.freeze ah e (λ_ z=>nomatch z) (λ_ _ z=>nomatch z) (λ_ z=>nomatch z) (λ_ z=>nomatch z),rfl,?_⟩;rw[bF,L];exact q _ _ G
theorem r9{pins:List (Pg×Qx)}{σ:St}{H:Hp}{s:Pe}{a:Pg}{b:List (Int×V7)}{t:QX}{xs:List Int}{Q:VK}(p:X.calm=Pa)(I:Inv X pins σ H s)(S:ST.td X.prog X.w s.heap a b t)(h:(b.map (·.1)).Perm xs)(g:xs.length<64)(q:∀l o,H l=Pb->Q (.ref l) (upd H l (.bQ o (.lst ((sortI xs).map V.int))))):wpAny (Py X.prog X.w) X.A (Ts (.builtin "sorted") [.ref a]) (EP X pins σ Q) X.xe s:=by
 obtain⟨o,i,y,n,hex,hd,d⟩:=id S.ob;have c:i.size=b.length:=by have:=congrArg RZ d;simpa using this
 have B:b.length=xs.length:=by have:=h.length_eq;simpa using this
 have W:ST.Wk X.w o i y t:=⟨hex,hd,ST.fits_of S.tab (by rw[c,Pk]),S.tab.rise,S.plain,S.led⟩;refine j_ I g (λR r=>ST.qV W (show X.A.in1.handled=Pb from I.ok.hd p) n (by rw[c,Rg];omega) λu j z v pv=>?_) q;rw[d,Rk]at pv;obtain⟨m,e,rfl⟩:=pE pv (f:=λx:Int×V7=>T8 x.1 x.2) (l:=b) rfl;refine r u j (m.map (·.1)) _ v ((e.map (·.1)).trans h) ?_;have:∀l:List (Int×V7),ar ((l.map (·.1)).map V.int) (l.map λx=>T8 x.1 x.2):=λl=>by induction l with
  |nil=>exact .nil|cons x l k=>exact .cons ⟨_,rfl⟩ k
 exact this m
noncomputable def Hw(d:D):M D:=match d with
 |.aM a=>do M.need (a.length<64);pure (.lst ((sortI a).map D.int))|_=>M.fail
theorem An(m:X.calm=Pa)(hP:X.prog=F.P)(hw:X.w=F.w):bo X F (.builtin "sorted") (one Hw)where
 call:=λpins s σ H k p r B Q I f l hK j g=>by
  obtain⟨d,rfl,q⟩:=eA g;obtain⟨v,rfl,i⟩:=j.one;obtain⟨u,rfl,e⟩:=vals1 f;cases d with
  |aM ns=>
   obtain⟨b,q⟩:=q;have q:qE F.toFb H k Q (.lst ((sortI ns).map D.int)) k:=q;simp only[Is]at i;obtain⟨a,rfl,A,o,x,hu,so⟩:=i;cases(show u=PQ a from e);obtain⟨n,t,S,h⟩:=kL (X:=X) (F:=F) (pins:=pins) (σ:=σ) (H:=H) (s:=s) hP hw so (I.aH a _ hu).1;exact r9 m I S h b λz y c=>q _ _ (.new c) (cR (k:=k) l c iL)|_=>exact q.elim
noncomputable def KU:D->D->M D
 |.int i,.aM a=>pure (.bl (!decide (i∈a)))|_,_=>M.fail
theorem Dv(hP:X.prog=F.P)(hw:X.w=F.w):gV X F (QB .NotIn) (λd e=>do(match e with|.aM xs=>M.need (xs.length<=300)|_=>M.fail);KU d e):=⟨λpins s σ H k x y v u d e Q I i h l hK f c q=>by cases e with
 |aM xs=>
  obtain⟨z,q⟩:=q;cases d with
  |int j=>
   simp only[Is]at f c;subst f;obtain⟨a,rfl,r,o,n,hu,so⟩:=c;cases(show u=PQ a from h);obtain⟨p,rfl⟩:=(show∃t,v=T8 j t from i);obtain⟨g,t,S,b⟩:=kL (X:=X) (F:=F) (pins:=pins) (σ:=σ) (H:=H) (s:=s) hP hw so (I.aH a _ hu).1;have m:g.length<=511:=by have:=b.length_eq;rw[Pk]at this;omega
   refine wpAny_notInSet_of (knd:=Qr X.prog X.w) (Tt _ _ _ _) rfl (td.setOf S m) ⟨.bl _,H,I.tok _,rfl,q _ H .refl ?_⟩;simp only[Is];congr 2;exact decide_eq_decide.mpr b.mem_iff|_=>exact q.elim
 |_=>exact q.elim⟩
end
section
variable{X:Cx}{F:Fx}
noncomputable def kf:List D->Option (List Int)
 |[]=>O7 []|.int i::r=>(kf r).map (i::·)|_=>Pb
theorem r_:∀{ds:List D}{ns:List Int},kf ds=O7 ns->ds=ns.map D.int
 |[],ns,h=>by cases h;rfl|d::ds,ns,h=>by cases d with
  |int i=>
   simp only[kf,Wq]at h;obtain⟨r,a,rfl⟩:=h;rw[r_ a];rfl|_=>cases h
theorem Dw{pins:List (Pg×Qx)}{σ:St}{H:Hp}{s:Pe}{a:Pg}{i:Int}{m:V7}{o:Qx}{xs:List Int}{Q:Hp->Prop}{E:O_->Pe->Prop}(hP:X.prog=F.P)(hw:X.w=F.w)(I:Inv X pins σ H s)(e:H a=O7 (fV a o))(so:fv F.toFb o xs)(x:xs.length<=300)(p:i∈xs->Q H)(n:i∉xs->∀o',fv F.toFb o' (xs++[i])->Q (upd H a (fV a o'))):wpAny (Py X.prog X.w) X.A (setAdd a (.int i m)) (λ_ s'=>∃H',Inv X pins σ H' s'/\Q H') E s:=by
 obtain⟨k,t,S,g⟩:=kL (X:=X) (F:=F) (pins:=pins) (σ:=σ) (H:=H) (s:=s) hP hw so (I.aH a _ e).1;have y:k.length=xs.length:=by have:=g.length_eq;simpa using this
 refine tV S (by omega) (λj=>⟨H,I.tok _,p (g.mem_iff.mp j)⟩) λd B b v sb l h=>?_;obtain⟨o',r,u,f,_⟩:=id l.ob;have c:=nN.of l f;rw[hP,hw]at c;refine⟨_,gJ I e sb f,n (λz=>d (g.mem_iff.mpr z)) o' ⟨b,c,?_⟩⟩;have q:(b.map (·.1)).Perm (i::k.map (·.1)):=h.map (·.1);exact q.trans ((g.cons i).trans (Vs i xs).symm)
theorem pF{pins:List (Pg×Qx)}{σ:St}{H:Hp}{s:Pe}{q:PX}{Q:Bool->Pe->Prop}{A:P9}{E:O_->Pe->Prop}(I:Inv X pins σ H s)(c:RJ X.K X.env.code q=Pa)(h:∀b,Q b s):wpAny (Py X.prog X.w) A (inMainModule X.env) Q E s:=by
 obtain⟨a,o,g,t,f,e,d,i⟩:=Xy I.jH c;unfold inMainModule;rw[f];show wpAny _ _ (fieldsOf (.ref a)>>=_) _ _ _;refine O9 ?_;show wpAny _ _ (load a>>=_) _ _ _;refine O9 (wpAny_load e ?_);rw[d];refine Pf ?_;split;.exact O9 (Si (Pf (h _)))
 .exact Pf (h _)
theorem Dx{y:PX}{j:Nat}{np sp:Ro}{q:PX}(hP:X.prog=F.P)(hw:X.w=F.w)(x:RJ X.K X.env.code q=Pa)(n:X.N[j]?=O7 y)(k:s_ X.env.scope y)(hd:(y==("__debug__":PX))=Pc)(f:(y==("__classdict__":PX))=Pc):PE X (.Set [.Name y np] 0 sp) (λσ H Q=>∃i,σ[j]?=O7 (O7 (.int i))/\∀p o',H p=Pb->fv F.toFb o' [i]->Q (.ref p) (upd H p (fV p o'))):=by
 intro c s σ H Q I⟨i,l,m⟩;rw[arm_eval_Set];refine O9 (RG ?_);refine O9 (pF I x λb=>?_);show wpAny _ _ (setDisplay .oneByOne b [(Pc,Rz (.Name y np) X.env>>=λv=>Ug sp>>=λ_=>pure v)]) _ _ _;unfold setDisplay;show wpAny _ _ (newSet (.type "set")>>=_) _ _ _;refine O9 (CC ?_);have r:H s.heap.objs.size=Pb:=I.aH.fresh (Pq _);have J:Inv X c σ (upd H s.heap.objs.size (fV s.heap.objs.size (jN X.w))) {s with heap:=s.heap.push (jN X.w)}:=I.laid (a:=s.heap.objs.size) (o:=fV s.heap.objs.size (jN X.w)) (t':=s.toks) (λ_ _ q=>Ph _ q) (Pq _) (lV (PR _ rfl));refine O9 (Qn ?_);refine O9 ?_;show wpAny _ _ (evalAll [Rz (.Name y np) X.env>>=λv=>Ug sp>>=λ_=>pure v]) _ _ _;unfold evalAll;refine O9 ?_;refine O9 (bp (dg (pos:=np) n k hd f c _ σ _ (λw g=>w=.int i/\g=upd H s.heap.objs.size (fV s.heap.objs.size (jN X.w))) J ⟨_,l,rfl,rfl⟩) λu O d=>?_);obtain⟨w,S,G,e,C,B⟩:=d;subst C B;obtain⟨L,rfl⟩:=(show∃t,u=T8 i t from e);refine O9 (RG (Pf ?_));refine O9 (Qn (Pf (Pf ?_)));refine O9 (Qn ?_);simp only[U2,Um];refine O9 ?_;refine O9 (O9 (bp (Dw (F:=F) (Q:=λg=>∃o',fv F.toFb o' [i]/\g=upd H s.heap.objs.size (fV s.heap.objs.size o')) (E:=X.xe) (xs:=[]) hP hw G ah ⟨[],by rw[hw];exact CD _ _,.nil⟩ (by decide) (λz=>nomatch z) λ_ o' so=>⟨o',so,bF ..⟩) λb M⟨R,D,o',so,A⟩=>?_));subst A;refine Pf (Pf ?_);rw[if_neg (by decide)];refine Pf ?_;show wpAny _ _ (forIn ([]:List (Bool×Vy O_)) Yx _>>=_) _ _ _;rw[Um];refine O9 (Pf (Pf (Pf ?_)));exact⟨.ref s.heap.objs.size,_,D,rfl,m _ o' r so⟩
theorem Ao(i j:Nat){x y:PX}{np sp pos a:Ro}{q:PX}(hN:X.N.Nodup)(hK:X.K=F.K)(hP:X.prog=F.P)(hw:X.w=F.w)(s:RJ X.K X.env.code q=Pa)(hi:X.N[i]?=O7 x)(l:Loc X.env.scope x)(r:X.fn x=Pa\/X.env.scope.names.lookup x=O7 .local)(o:X.N[j]?=O7 y)(m:s_ X.env.scope y)(hd:(y==("__debug__":PX))=Pc)(e:(y==("__classdict__":PX))=Pc):DS X F (.Assign [.Name x a] (.Set [.Name y np] 0 sp) pos) (λρ=>do
   let n<-fb (<-M.get (fO ρ j))pure (.nx (ρ.set i (O7 (.own (.aM [n])))))):=by
 refine⟨hK,(bV (i:=i) hN hi l (Dx (np:=np) (sp:=sp) (F:=F) hP hw s o m hd e) rfl r).imp λZ u H⟨ρ,k,S,h⟩=>?_⟩;obtain⟨d,t,h⟩:=M.run_get.mp h;obtain⟨n,rfl,h⟩:=aN.mp h;obtain⟨v,c,b⟩:=S.at_ j _ (o_ t);have b:Is F.toFb H v (.int n):=b;simp only[Is]at b;subst b;exact⟨n,c,λp g f so=>h _ _ (Ext.new (k:=k) f).kp (S.jm i f ⟨g,ah,so⟩)⟩
noncomputable def KW(F:Fx):V->List V->Hp->VK->Prop:=λx d H Q=>∃a i o b,x=.ref a/\d=[.int i]/\H a=O7 (fV a o)/\fv F.toFb o b/\b.length<=300/\(i∈b->Q .bH H)/\(i∉b->∀c,fv F.toFb c (b++[i])->Q .bH (upd H a (fV a c)))
theorem Dy(hP:X.prog=F.P)(hw:X.w=F.w):Mo X "set.add" (KW F):=by
 intro pins s σ H x K v L Q I r y h;obtain⟨a,i,o,m,rfl,rfl,e,so,N,C,B⟩:=h;obtain⟨u,rfl,A⟩:=y.one;cases(show v=PQ a from r);obtain⟨p,rfl⟩:=(show∃t,u=T8 i t from A);obtain⟨l,t,S,g⟩:=kL (X:=X) (F:=F) (pins:=pins) (σ:=σ) (H:=H) (s:=s) hP hw so (I.aH a _ e).1;have O:l.length=m.length:=by have:=g.length_eq;simpa using this
 refine oZ S (by omega) (λk q=>⟨.bH,H,I.tok _,rfl,C (g.mem_iff.mp k)⟩) λd R b M q sb n j=>?_;obtain⟨E,G,J,f,_⟩:=id n.ob;have c:=nN.of n f;rw[hP,hw]at c;refine⟨.bH,_,gJ I e sb f,rfl,B (λz=>d (g.mem_iff.mpr z)) E ⟨b,c,?_⟩⟩;have D:(b.map (·.1)).Perm (i::l.map (·.1)):=j.map (·.1);exact D.trans ((g.cons i).trans (Vs i m).symm)
noncomputable def uk:D->M (List Int)
 |.aM a=>pure a|_=>M.fail
theorem um{d:D}{k Q E}(h:(uk d).run k Q E):∃xs,d=.aM xs/\Q xs k:=by cases d with
 |aM xs=>exact⟨xs,rfl,h⟩|_=>exact h.elim
theorem Hx(i:Nat){x:PX}{e:PC}{G:ag->M D}{np E C pos:Ro}(hP:X.prog=F.P)(hw:X.w=F.w)(hi:X.N[i]?=O7 x)(V:s_ X.env.scope x)(hd:(x==("__debug__":PX))=Pc)(z:(x==("__classdict__":PX))=Pc)(ha:DE X F e G)(Q:(E.endLine==C.line)=Pa)(hs:PL [e] X.env=(Pc,Rz e X.env)::PL [] X.env):DS X F (.Expr (.Call (.Attribute (.Name x np) "add" E) [e] [] C) pos) (λρ=>do
   let xs<-uk (<-M.get (gb ρ i))let n<-fb (<-G ρ)M.need (xs.length<=300)pure (.nx (ρ.set i (O7 (.own (.aM (if n∈xs then xs else xs++[n]))))))):=by
 have pe:=uc (X:=X) (name:="add") (apos:=E) (cpos:=C) (ty:=Ha "set") (λI r h=>C_ I r h) PySem.F.plainAttrs_set Xa (by rfl) (Dy (F:=F) hP hw) (dg (pos:=np) hi V hd z) (be ha.pe dh hs) rfl (by rw[hs];rfl) Q hs rfl;refine⟨ha.hK,(oM pe rfl).imp λZ Y H⟨ρ,k,S,h⟩=>?_⟩;obtain⟨d0,A,h⟩:=M.run_get.mp h;obtain⟨xs,rfl,h⟩:=um h;obtain⟨v,j,a,rfl,f⟩:=S.at_ i _ (cJ A);obtain⟨o,O,so⟩:=f.2.2;have ty:Ha "set" (.ref a) H:=by
  obtain⟨ys,ob,_⟩:=id so;have J:o.isFreed=Pc:=by
   have:=ob.1;cases o;rename_i c d p sl;cases p<;>first|rfl|exact absurd rfl this
  obtain⟨t,S⟩:=ob.2.2 ((default:P7).push o) _ (PR _ J);obtain⟨s,es,ep,m,hex,_⟩:=S.ob;rw[PR _ J]at m;cases m;exact⟨a,o,rfl,O,hex.1,hex.2.1⟩
 refine⟨_,j,ty,?_⟩;refine di.next S h λd K u T B R L b=>?_;obtain⟨n,rfl,b⟩:=aN.mp b;obtain⟨U,b⟩:=b;have g:=B.keep a _ f.1 O;simp only[Is]at L;subst L;refine⟨a,n,o,xs,rfl,rfl,g,so,U,λy=>?_,λl s q=>?_⟩
 .rw[if_pos y]at b;refine b _ _ B.kp ?_;have e:ρ.set i (O7 (.own (.aM xs)))=ρ:=by
   have:=cJ A;obtain⟨Q,W⟩:=List.getElem?_eq_some_iff.mp this;rw[<-W,List.set_getElem_self]
  rw[e];exact R
 .rw[if_neg l]at b;have kp:Kp F.toFb T K (upd T a (fV a s)) K:=Kp.own f.1 g rfl;exact b _ _ (B.kp.trans kp) (R.eG (cJ A) j f.1 f.2.1 g rfl ⟨a,rfl,f.1,f.2.1,s,ah,q⟩)
end
section
variable{X:Cx}{F:Fx}
noncomputable def EW:D->D->M D
 |.str x,.str y=>do M.need (x.length+y.length<=Pl);pure (.str (x++y))|_,_=>M.fail
theorem Dz:gV X F (Sb .Add) EW:=⟨λc s m H k x y v u d e Q I j i l hK g f q=>by cases d with
 |str a=>cases e with
  |str b=>
   simp only[Is]at g f;subst g f;obtain⟨t,rfl⟩:=j;obtain⟨h,rfl⟩:=i;exact SB.add (λh n=>⟨.str _,H,I.tok _,⟨_,rfl⟩,q.2 _ H .refl (by simp only[Is])⟩) q.1|_=>exact q.elim
 |_=>exact q.elim⟩
noncomputable def KY:D->D->M D
 |.bl a,.bl b=>pure (.bl (a !=b))|_,_=>M.fail
theorem DB:gV X F (QB .IsNot) KY:=⟨λc s j H k x y v u d e Q I i h l hK g f q=>by cases d with
 |bl a=>cases e with
  |bl b=>
   simp only[Is]at g f;subst g f;cases(show v=Vc a from i);cases(show u=Vc b from h);exact isnot_bool ⟨.bl _,H,I,rfl,q _ H .refl (by simp only[Is])⟩|_=>exact q.elim
 |_=>exact q.elim⟩
noncomputable def Hy(d:D):M D:=match d with
 |.aE ks _=>do let ns<-M.get (kf ks);M.need (ns.length<64);pure (.lst ((sortI ns).map D.int))|_=>M.fail
theorem Ap(t:X.calm=Pa):bo X F (.builtin "sorted") (one Hy)where
 call:=λf s y H k z c G Q I o l hK r p=>by
  obtain⟨d,rfl,q⟩:=eA p;obtain⟨v,rfl,i⟩:=r.one;obtain⟨u,rfl,n⟩:=vals1 o;cases d with
  |aE ks E=>
   obtain⟨ns,e,q⟩:=M.run_get.mp q;obtain⟨b,q⟩:=q;have q:qE F.toFb H k Q (.lst ((sortI ns).map D.int)) k:=q;refine j_ I b (λR w=>nZ t I hK n i rfl λx m A c g a h=>?_) λC B j=>q _ _ (.new j) (cR (k:=k) l j iL);rw[r_ e]at h;have:=iJ h;subst this;exact w x m ns c g (.refl _) a|_=>exact q.elim
noncomputable def KZ:R2:=λx y H Q=>∃a b o d c ws,x=.ref a/\y=.ref b/\H a=O7 (.bQ o (.lst c))/\H b=O7 (.bQ d (.lst ws))/\c.length+ws.length<=Pl/\∀p,H p=Pb->Q (.ref p) (upd H p (.lst (c++ws)))
theorem DC:kW X (Sb .Add) KZ:=λg s m H x y v u Q I j i h=>by
 obtain⟨a,b,o,w,t,ws,rfl,rfl,ha,hb,C,q⟩:=h;cases j;cases i;obtain⟨_,z,d,n,r,e⟩:=I.aH a _ ha;obtain⟨_,p,c,n2,f,l⟩:=I.aH b _ hb;have B:=r.length;have A:=f.length;refine PySem.P.add_list e l ?_ (by rw[Pw,Pw];omega);have k:d.toArray++c.toArray=(d++c).toArray:=by simp
 rw[k];exact⟨.ref _,_,I.JZ (t':=s.toks) (r.append f) (by rw[P6];omega),rfl,q _ I.fresh⟩
theorem DD(i:Nat){a b:PC}{q o:ag->M D}{x:PX}{pos f r:Ro}(hN:X.N.Nodup)(ha:DE X F a q)(hb:DE X F b o)(hi:X.N[i]?=O7 x)(I:Loc X.env.scope x)(J:X.fn x=Pa\/X.env.scope.names.lookup x=O7 .local):DS X F (.Assign [.Name x f] (.BinOp a .Add b r) pos) (λρ=>do let d<-q ρ;let e<-o ρ;let xs<-lW d;let l<-lW e;M.need (xs.length+l.length<=Pl);pure (.nx (ρ.set i (O7 (.own (.lst (xs++l))))))):=⟨ha.hK,(bV (i:=i) hN hi I (bw (pos:=r) DC ha.pe hb.pe) rfl J).imp λZ Q H j=>by
  obtain⟨ρ,k,S,h⟩:=j;refine di.next S h λd R v U L P g K=>?_;refine di.next P K λe E u T t O s c=>?_;obtain⟨xs,rfl,c⟩:=fc c;obtain⟨l,rfl,c⟩:=fc c;obtain⟨G,c⟩:=c;have g:=g.mono t.kp;simp only[Is]at g s;obtain⟨A,n,rfl,⟨_,C,a1⟩,y⟩:=g;obtain⟨z,ws,rfl,⟨_,B,b1⟩,w⟩:=s;refine⟨A,z,C,B,n,ws,rfl,rfl,a1,b1,by rw[y.length,w.length];exact G,λp m=>?_⟩;exact c _ _ ((L.trans t).trans (.new m)).kp (O.jm i m ⟨n++ws,ah,(y.append w).mono (Ext.new (k:=E) m).kp⟩)⟩
theorem af.erase{B:Fb}{H:Hp}:∀{xs:List V}{ds:List D}(n:Nat),af B H xs ds->af B H (xs.eraseIdx n) (ds.eraseIdx n)
 |_,[],n,h=>by simp only[af]at h;rw[h];simpa using af.nil|_,d::ds,0,h=>by
  simp only[af]at h;obtain⟨x,b,rfl,_,a⟩:=h;exact a|_,d::ds,n+1,h=>by
  simp only[af]at h;obtain⟨x,b,rfl,c,a⟩:=h;exact .cons c (a.erase n)
theorem DF(i j:Nat){e:PC}{z:ag->M D}{x y:PX}{pos l np t s:Ro}(hN:X.N.Nodup)(hi:X.N[i]?=O7 x)(K:s_ X.env.scope x)(hd:(x==("__debug__":PX))=Pc)(q:(x==("__classdict__":PX))=Pc)(P:X.N[j]?=O7 y)(J:Loc X.env.scope y)(Q:X.fn y=Pa\/X.env.scope.names.lookup y=O7 .local)(ha:DE X F e z)(O:(t.endLine==s.line)=Pa)(hs:PL [e] X.env=(Pc,Rz e X.env)::PL [] X.env):DS X F (.Assign [.Name y l] (.Call (.Attribute (.Name x np) "pop" t) [e] [] s) pos) (λρ=>do
   let ds<-lW (<-M.get (gb ρ i))let n<-fb (<-z ρ)M.need (0<=n/\n<(ds.length:Int)/\ds.length<=Pl)let d<-M.get ds[n.toNat]?;pure (.nx ((ρ.set i (O7 (.own (.lst (ds.eraseIdx n.toNat))))).set j (O7 (.d d))))):=by
 have pe:=ED (X:=X) (name:="pop") (apos:=t) (cpos:=s) Ud WK (by rfl) yL (dg (pos:=np) hi K hd q) (be ha.pe dh hs) rfl (by rw[hs];rfl) O hs rfl;refine⟨ha.hK,(bV (i:=j) hN P J pe rfl Q).imp λZ U H⟨ρ,k,S,h⟩=>?_⟩;obtain⟨V,E,h⟩:=M.run_get.mp h;obtain⟨ds,rfl,h⟩:=fc h;obtain⟨v,m,a,rfl,b⟩:=S.at_ i _ (cJ E);obtain⟨o,C,ix⟩:=b.2.2;refine⟨_,m,.inl ⟨rfl,o,.inl (.inl C)⟩,?_⟩;refine di.next S h λd A u G r R B g=>?_;obtain⟨n,rfl,g⟩:=aN.mp g;obtain⟨⟨I,n1,n2⟩,g⟩:=g;obtain⟨d,p,g⟩:=M.run_get.mp g;simp only[Is]at B;subst B;have f:=r.keep a _ b.1 C;have c:=ix.mono r.kp;obtain⟨w,hw,iw⟩:=c.get p;have L:=c.length;have hs:=Rg;refine⟨a,o,n,n.toNat,w,rfl,rfl,f,by omega,by omega,?_,hw,?_⟩;.exact WU I (by omega)
 have kp:Kp F.toFb G A (upd G a (.lst (o.eraseIdx n.toNat))) A:=Kp.own b.1 f rfl;refine g _ _ (r.kp.trans kp) ?_;have T:=R.eG (o':=.lst (o.eraseIdx n.toNat)) (w':=.own (.lst (ds.eraseIdx n.toNat))) (cJ E) m b.1 b.2.1 f rfl ⟨a,rfl,b.1,b.2.1,_,ah,(c.erase n.toNat).mono kp⟩;exact T.set j (iw.mono kp)
theorem PE.Hz{e:PC}{d:List (TE×TE)}(h:PE X e (yO d)):PE X e (λσ H Q=>yO d σ H (λv m=>∃p f a,v=.ref p/\m=upd f p (.dK a)/\((p==Q8)=Pc->∀o us,KV a us->ja X.prog X.w o us->Q (.ref p) (upd f p (fV p o))))):=λc s σ H Q I z=>bp (h c s σ H _ I z) λv g n=>by
  obtain⟨w,m,l,y,p,f,a,rfl,rfl,q⟩:=n;obtain⟨z,hd,r,t,o,E,G,j,A,i,D,B,C⟩:=EE l.aH ah;have k:Inv X c σ (upd (upd f p (.dK a)) p (fV p o)) g:=l.write (h':=g.heap) (t':=g.toks) (x:=p) (e:=p) (by rw[ah];exact trivial) (.inl rfl) (λb u hb q=>q) ⟨_,j⟩ (lV j);rw[bF]at k;exact⟨.ref p,_,k,y,q hd o r t ⟨E,G,A,i,D,B,C⟩⟩
theorem Aq(i j:Nat){x y:PX}{np sp pos a B:Ro}{j0:Nat}(hN:X.N.Nodup)(hK:X.K=F.K)(hP:X.prog=F.P)(hw:X.w=F.w)(hi:X.N[i]?=O7 x)(s:Loc X.env.scope x)(z:X.fn x=Pa\/X.env.scope.names.lookup x=O7 .local)(u:X.N[j]?=O7 y)(t:s_ X.env.scope y)(hd:(y==("__debug__":PX))=Pc)(l:(y==("__classdict__":PX))=Pc)(b:Bool):DS X F (.Assign [.Name x a] (.Dict [O7 (.Name y np)] [.Constant (.bool b) j0 B] sp) pos) (λρ=>do
   let n<-fb (<-M.get (fO ρ j))pure (.nx (ρ.set i (O7 (.own (.aE [.int n] [.bl b])))))):=by
 refine⟨hK,(bV (i:=i) hN hi s (Cd (yN (dg (pos:=np) u t hd l) Ew Cc) rfl rfl (by simp) (by simp)).Hz rfl z).imp λZ C H⟨ρ,k,S,h⟩=>?_⟩;obtain⟨d,A,h⟩:=M.run_get.mp h;obtain⟨n,rfl,h⟩:=aN.mp h;obtain⟨v,g,c⟩:=S.at_ j _ (o_ A);have c:Is F.toFb H v (.int n):=c;simp only[Is]at c;subst c;intro p e;have ne:p≠F.p:=iB S.live e;have D:=S.mono (Ext.new (F:=F.toFb) (k:=k) (o:=.dK []) e);refine⟨_,g,ah,[(.inl n,.bl b)],rfl,by simp,p,_,_,rfl,rfl,λf o q r m=>?_⟩;rw[bF];rw[hP,hw]at m;exact h _ _ (Ext.new (k:=k) e).kp (S.jm i e ⟨o,[.bl b],ah,f,⟨by rw[Rg];simp,.inl ⟨_,q,r,m,rfl,rfl⟩⟩,.cons (by simp only[Is]) .nil⟩)
end
inductive Tg where|nm(i:Nat)|nil|cons(t r:Tg)|tup(n:Nat)(r:Tg)
inductive BI where|len|tuple|sorted|repr|int|dict|max|min|sortI deriving DecidableEq
inductive Ex where|var(i:Nat)|cst(d:D)|kM(i:Nat)|op(o:WS)(a b:Ex)|neg(a:Ex)|cmp(o:UO)(a b:Ex)|K0(o o':UO)(a b c:Ex)|and(a b:Ex)|one(a:Ex)|not(a:Ex)|pG(a b:Ex)|Ar(a b:Ex)|d7(a:Ex)|uo(a:Ex)|EX(a:Ex)|aW(o:UO)(a b:Ex)|nil|cons(a r:Ex)|feed(i:Nat)(r:Ex)|tup(r:Ex)|lst(r:Ex)|idx(a b:Ex)|bi(f:BI)(r:Ex)|call(f:Nat)(r:Ex)|Jr(T:String)(a:Ex)|lc(own:List PX)(js:List Nat)(tg:Tg)(it c elt:Ex)|dc(own:List PX)(js:List Nat)(tg:Tg)(it c ke ve:Ex)|fP(r:Ex)|As(r:Ex)|ba(a:Ex)|yes|Js(c:Nat)(a:Ex)|bad|iH(i:Nat)(e:Ex)|pH(o r:Ex)|Jt(i:Nat)(r:Ex)
noncomputable def bx:D->T Bool
 |.bl b=>.ok b|_=>.stuck
noncomputable def bN:D->T Int
 |.int i=>.ok i|_=>.stuck
noncomputable def gk:List A->T (List D)
 |[]=>.ok []|.d x::r=>do let a<-gk r;.ok (x::a)|.feed::_=>.stuck
noncomputable def gm(i:Int):Bool:=decide (-(2^64)<i)&&decide (i<2^64)
noncomputable def ym:WS->D->D->T D
 |.Add,d,e=>match d,e with
  |.int i,.int j=>.ok (.int (i+j))|.lst b,.lst a=>do T.need (decide (b.length+a.length<=Pl));.ok (.lst (b++a))|.str x,.str y=>do T.need (decide (x.length+y.length<=Pl));.ok (.str (x++y))|_,_=>.stuck
 |.Sub,d,e=>match d,e with
  |.int i,.int j=>.ok (.int (i-j))|_,_=>.stuck
 |.Mult,d,e=>do let i<-bN d;let j<-bN e;T.need (gm i||gm j);.ok (.int (i*j))|.Mod,d,e=>do let i<-bN d;let j<-bN e;T.need (decide (0<j));.ok (.int (i%j))|.Pow,d,e=>do let i<-bN d;let j<-bN e;T.need (decide (i=10)&&decide (j=6));.ok (.int 1000000)|_,_,_=>.stuck
noncomputable def bD:UO->D->D->T D
 |.Eq,d,e=>do let b<-T.get (cV dj d e);.ok (.bl b)|.NotEq,d,e=>do let b<-T.get (cV dj d e);.ok (.bl (!b))|.Lt,d,e=>do let i<-bN d;let j<-bN e;.ok (.bl (decide (i<j)))|.LtE,d,e=>do let i<-bN d;let j<-bN e;.ok (.bl (decide (i<=j)))|.Is,d,e=>do T.need (lC e);.ok (.bl (lC d))|.IsNot,d,e=>do let a<-bx d;let b<-bx e;.ok (.bl (a !=b))|.In,d,e=>match e with
  |.aE ks _=>do T.need (az ks d);.ok (.bl (cw ks d))|_=>do let c<-T.get (items e);let b<-T.get (lJ d c);.ok (.bl b)
 |.NotIn,d,e=>match e with
  |.aE ks _=>do T.need (az ks d);.ok (.bl (!cw ks d))|.aM c=>do T.need (decide (c.length<=300));let i<-bN d;.ok (.bl (!decide (i∈c)))|_=>do let c<-T.get (items e);let b<-T.get (lJ d c);.ok (.bl (!b))
 |_,_,_=>.stuck
noncomputable def K1:D->D->T D:=λd e=>do
 let i<-bN e;match d with
 |.tup a=>T.get (fj a i)|.lst a=>T.get (fj a i)|_=>.stuck
noncomputable def br:D->D->T D
 |.aE ks a,e=>do T.need (az ks e);T.get (aJ ks a e)|d,e=>K1 d e
noncomputable def HA(d:D):T Bool:=T.get (Dg d)
noncomputable def se(d:D):T D:=match d with
 |.aM b=>do T.need (decide (b.length<64));.ok (.lst ((sortI b).map D.int))|_=>do
  let a<-T.get (j9 d)T.need (decide (a.length<=Pl)&&iI a)T.perm a λl=>.ok (.lst l)
noncomputable def xU:BI->List D->T D
 |.len,[d]=>match d with
  |.tup a=>.ok (.int a.length)|.lst a=>.ok (.int a.length)|_=>.stuck
 |.tuple,[d]=>do let a<-T.get (items d);.ok (.tup a)|.sorted,[d]=>se d|.sortI,[d]=>match d with
  |.aE ks _=>do let ns<-T.get (kf ks);T.need (decide (ns.length<64));.ok (.lst ((sortI ns).map D.int))|_=>.stuck
 |.repr,[d]=>do T.need (jR d&&mf d);.ok (.str (og d).shown)|.int,[d]=>match d with
  |.int i=>.ok (.int i)|.bl b=>.ok (.int (if b then 1 else 0))|_=>.stuck
 |.dict,[d]=>match d with
  |.lst ps=>do let r<-T.get (eK ps ([],[]));.ok (.aE r.1 r.2)|_=>.stuck
 |.max,[d,e]=>do let i<-bN d;let j<-bN e;.ok (.int (if j>i then j else i))|.min,[d,e]=>do let i<-bN d;let j<-bN e;.ok (.int (if j<i then j else i))|_,_=>.stuck
noncomputable def vT:D->List D->T D
 |.aE ks a,[d,z]=>do T.need (az ks d&&decide (ks.length=a.length));.ok ((aJ ks a d).getD z)|_,_=>.stuck
noncomputable def DH:D->List D->T D
 |.tup a,[d]=>do T.need (a.all yk&&yk d);let i<-T.get (Aj d a 0);.ok (.int i)|_,_=>.stuck
noncomputable def EY(Ty:String)(d:D):T D:=do
 let t<-T.get (GD d)let b<-T.get (Ra [] (.type t) (.type Ty));.ok (.bl b)
mutual
noncomputable def dD:Tg->D->ag->T ag
 |.nm i,d,a=>.ok (a.set i (O7 (.d d)))|.tup n r,d,a=>match d with
  |.tup b=>if b.length=n then iM r b a else .stuck|_=>.stuck
 |_,_,_=>.stuck
noncomputable def iM:Tg->List D->ag->T ag
 |.nil,a,c=>match a with
  |[]=>.ok c|_=>.stuck
 |.cons t r,a,c=>match a with
  |d::a=>do let b<-dD t d c;iM r a b|[]=>.stuck
 |_,_,_=>.stuck
end
noncomputable def bK(g:D->ag->T ag)(e:ag->T Bool)(c:ag->T D):List D->ag->T (List D)
 |[],_=>.ok []|d::f,h=>do
  let a<-g d h;let b<-e a;if b then do
   let x<-c a;let r<-bK g e c f a;.ok (x::r)else bK g e c f a
noncomputable def gp{c:Type}(g:D->ag->T ag)(f:ag->T Bool)(h:c->ag->T (c×ag)):c->List D->ag->T (c×ag)
 |acc,[],e=>.ok (acc,e)|acc,d::i,e=>do
  let a<-g d e;let b<-f a;if b then do
   let r<-h acc a;gp g f h r.1 i r.2;else gp g f h acc i a
noncomputable def sf(c b:ag->T D)(a:List D×List D)(ρ:ag):T ((List D×List D)×ag):=do
 let x<-c ρ;let y<-b ρ;T.need (az a.1 x&&decide (a.1.length<Pl));.ok (putD a.1 a.2 x y,ρ)
noncomputable def xV(d:D):T (List D):=do
 let j<-bN d;T.need (decide (-(2^62)<=j)&&decide (j<=1000000));.ok (aT j.toNat)
noncomputable def dQ(ρ:ag)(i:Nat):Bool:=match ρ[i]? with
 |some (O7 .feed)=>Pa|_=>Pc
structure Ev where
 call:Nat->List A->T D
 kM:Nat->Option D
 cls:Nat->Option Pg
 how:Pg->Bool
 sub:Pg->Pg->Option Bool
 ins:Pg->O_->Option Bool
noncomputable def vU(v:Ev)(Ty:String):D->T D
 |.exc c _=>do let b<-T.get (v.ins c (.type Ty));.ok (.bl b)|d=>EY Ty d
noncomputable def sg(v:Ev)(P:Pg):D->T D
 |.exc c _=>do let b<-T.get (v.ins c (.ref P));.ok (.bl b)|_=>.stuck
noncomputable def EZ(v:Ev)(C:Pg)(as:List A):T D:=do T.need (decide (as.length<=Pl));.ok (.exc C [])
mutual
noncomputable def au(v:Ev):Ex->ag->T D
 |.var i,g=>T.get (fO g i)|.cst d,_=>.ok d|.kM i,_=>T.get (v.kM i)|.op o a b,g=>do let d<-au v a g;let e<-au v b g;ym o d e|.neg a,g=>do let i<-bN (<-au v a g);.ok (.int (-i))|.cmp o a b,g=>do let d<-au v a g;let e<-au v b g;bD o d e|.K0 o n a b c,g=>do
  let d<-au v a g;let e<-au v b g;let y<-bx (<-bD o d e)if y then do let f<-au v c g;bD n e f else .ok (.bl Pc)|.and a b,g=>do let c<-bx (<-au v a g);if c then au v b g else .ok (.bl Pc)|.one a,g=>au v a g|.not a,g=>do let c<-bx (<-au v a g);.ok (.bl (!c))|.tup r,g=>do let h<-gk (<-gK v r g);T.need (decide (h.length<=Pl));.ok (.tup h)|.lst r,g=>do let h<-gk (<-gK v r g);T.need (decide (h.length<=Pl));.ok (.lst h)|.idx a b,g=>do let d<-au v a g;let e<-au v b g;br d e|.bi f r,g=>do xU f (<-gk (<-gK v r g))|.call f r,g=>do let as<-gK v r g;(v.call f as).at' g|.Jr Ty a,g=>do vU v Ty (<-au v a g)|.Js c a,g=>do let P<-T.get (v.cls c);sg v P (<-au v a g)|.lc own k j it c l,g=>do
  let h<-qw v it g;let r<-bK (dD j) (λg=>(cP v c g).calm) (λg=>(au v l g).calm) h (eW g own.length k);.ok (.lst r)|.dc own k j it c p m,g=>do
  let h<-qw v it g;let r<-gp (dD j) (λg=>(cP v c g).calm) (sf (λg=>(au v p g).calm) (λg=>(au v m g).calm)) ([],[]) h (eW g own.length k);.ok (.aE r.1.1 r.1.2)|.iH i e,g=>do
  let d<-au v e (tm i g)T.need (flat (iG g i) d);.ok d|.pH o r,g=>do
  let d<-au v o g;T.need (rE d)vT d (<-gk (<-gK v r g))|.Jt i r,g=>do
  let d<-T.get (v.kM i)T.need (jR d)DH d (<-gk (<-gK v r g))|_,_=>.stuck
noncomputable def cP(v:Ev):Ex->ag->T Bool
 |.yes,_=>.ok Pa|.pG a b,f=>do let c<-cP v a f;if c then cP v b f else .ok Pc|.Ar a b,f=>do let c<-cP v a f;if c then .ok Pa else cP v b f|.d7 a,f=>cP v a f|.uo a,f=>do let c<-cP v a f;.ok (!c)|.EX a,f=>do HA (<-au v a f)|.aW o a b,f=>do let d<-au v a f;let e<-au v b f;bx (<-bD o d e)|.iH i e,f=>cP v e (tm i f)|_,_=>.stuck
noncomputable def gK(v:Ev):Ex->ag->T (List A)
 |.nil,_=>.ok []|.cons a r,b=>do let d<-au v a b;let c<-gK v r b;.ok (.d d::c)|.feed i r,b=>do T.need (dQ b i);let c<-gK v r b;.ok (.feed::c)|_,_=>.stuck
noncomputable def qw(v:Ev):Ex->ag->T (List D)
 |.fP r,b=>do match<-gk (<-gK v r b)with
  |[d]=>xV d|_=>.stuck
 |.As r,b=>do match<-gk (<-gK v r b)with
  |[.lst c]=>.ok (g9 c)|_=>.stuck
 |.ba a,b=>do T.get (jn (<-au v a b))|_,_=>.stuck
end
inductive bC where|asg(tg:Tg)(e:Ex)|set(i:Nat)(e:Ex)|par(i j:Nat)(r:Ex)|ret(e:Ex)|nil|cons(s r:bC)|iff(c:Ex)(a b:bC)|dm(tg:Tg)(it:Ex)(b:bC)|HB(c:Ex)(b:bC)|raise(c:Nat)(r:Ex)|Au(b:bC)(c i y:Nat)(h:Hd)|bad|kz(i:Nat)(r:Ex)|iG(i:Nat)|app(i:Nat)(e:Ex)|put(i:Nat)(k e:Ex)|fz(i:Nat)(s:bC)|expr(e:Ex)|vV(i j:Nat)|add(i:Nat)(e:Ex)|pop(j i:Nat)|Av(i:Nat)(a b:Ex)|xW(j i:Nat)(e:Ex)|kg(i j:Nat)(b:Bool)
noncomputable def ju:D->T (List D)
 |.lst a=>.ok a|_=>.stuck
noncomputable def Aw:D->T (List Int)
 |.aM a=>.ok a|_=>.stuck
noncomputable def vW:D->T (List D×List D)
 |.aE ks a=>.ok (ks,a)|_=>.stuck
noncomputable def T.kB{b:Type}(t:T b)(h:Xc->T b):T b:=match t with
 |.ok a=>.ok a|.exc x=>h x|.stuck=>.stuck|.draw n k=>.draw n λi=>(k i).kB h|.perm l k=>.perm l λi=>(k i).kB h
noncomputable def mi(v:Ev)(P:Pg)(i y:Nat)(h:Hd)(x:Xc):T Fl:=match x.x with
 |.exc c nm=>do
  T.need (match v.sub c P with|some Pa=>Pa|_=>Pc)let d<-T.get (Mt h (vp (O7 i) (.exc c nm) x.en));.ok (.nx (Od (O7 i) ((vp (O7 i) (.exc c nm) x.en).set y (O7 (.d d)))))|_=>.stuck
noncomputable def fA(g:D->ag->T ag)(body:ag->T Fl):List D->ag->T Fl
 |[],c=>.ok (.nx c)|d::e,c=>do
  let b<-g d c;match<-body b with
  |.nx a=>fA g body e a|.ct a=>fA g body e a|.bk a=>.ok (.nx a)|.rt r=>.ok (.rt r)
noncomputable def dR(c:ag->T Bool)(body:ag->T Fl):Nat->ag->T Fl
 |0,_=>.stuck|n+1,d=>do
  let b<-c d;if b then do match<-body d with
   |.nx a=>dR c body n a|.ct a=>dR c body n a|.bk a=>.ok (.nx a)|.rt r=>.ok (.rt r)else .ok (.nx d)
noncomputable def b5:Nat:=1000
noncomputable def ay(v:Ev):bC->ag->T Fl
 |.asg p e,f=>do let d<-au v e f;let l<-dD p d f;.ok (.nx l)|.set i e,f=>do let d<-au v e f;.ok (.nx (f.set i (O7 (.d d))))|.par i j r,f=>do match<-gk (<-gK v r f)with
  |[d,e]=>.ok (.nx ((f.set i (O7 (.d d))).set j (O7 (.d e))))|_=>.stuck
 |.ret e,f=>do let d<-au v e f;.ok (.rt d)|.nil,f=>.ok (.nx f)|.cons s r,f=>do match<-ay v s f with
  |.nx l=>ay v r l|u=>.ok u
 |.iff c a b,f=>do let x<-cP v c f;if x then ay v a f else ay v b f|.dm p it b,f=>do fA (dD p) (ay v b) (<-qw v it f) f|.HB c b,f=>dR (cP v c) (ay v b) b5 f|.raise c r,f=>do
  let C<-T.get (v.cls c)T.need (v.how C)let x<-EZ v C (<-gK v r f);.exc ⟨x,f⟩|.Au b c i y h,f=>do
  let P<-T.get (v.cls c)(ay v b f).kB (mi v P i y h)|.bad,_=>.stuck|.kz i r,f=>do
  let g<-gk (<-gK v r f)T.need (decide (g.length<=Pl));.ok (.nx (f.set i (O7 (.own (.lst g)))))|.iG i,f=>.ok (.nx (f.set i (O7 (.own (.aE [] [])))))|.app i e,f=>do
  let g<-ju (<-T.get (gb f i))let d<-au v e f;T.need (decide (g.length<Pl));.ok (.nx (f.set i (O7 (.own (.lst (g++[d]))))))|.put i k e,f=>do
  let d<-au v e f;let o<-vW (<-T.get (gb f i))let q<-au v k f;T.need (decide (o.1.length<Pl)&&az o.1 q);.ok (.nx (f.set i (O7 (.own (.aE (putD o.1 o.2 q d).1 (putD o.1 o.2 q d).2)))))|.fz i s,f=>ay v s (tm i f)|.expr e,f=>do let _<-au v e f;.ok (.nx f)|.vV i j,f=>do
  let n<-bN (<-T.get (fO f j));.ok (.nx (f.set i (O7 (.own (.aM [n])))))|.add i e,f=>do
  let m<-Aw (<-T.get (gb f i))let n<-bN (<-au v e f)T.need (decide (m.length<=300));.ok (.nx (f.set i (O7 (.own (.aM (if n∈m then m else m++[n]))))))|.pop j i,f=>do
  let g<-ju (<-T.get (gb f i))let d<-T.get g[g.length-1]?;.ok (.nx ((f.set i (O7 (.own (.lst g.dropLast)))).set j (O7 (.d d))))|.Av i a b,f=>do
  let d<-au v a f;let e<-au v b f;let m<-ju d;let t<-ju e;T.need (decide (m.length+t.length<=Pl));.ok (.nx (f.set i (O7 (.own (.lst (m++t))))))|.xW j i e,f=>do
  let g<-ju (<-T.get (gb f i))let n<-bN (<-au v e f)T.need (decide (0<=n)&&(decide (n<(g.length:Int))&&decide (g.length<=Pl)))let d<-T.get g[n.toNat]?;.ok (.nx ((f.set i (O7 (.own (.lst (g.eraseIdx n.toNat))))).set j (O7 (.d d))))|.kg i j b,f=>do
  let n<-bN (<-T.get (fO f j));.ok (.nx (f.set i (O7 (.own (.aE [.int n] [.bl b])))))
structure Df where
 np:Nat
 nn:Nat
 body:bC
noncomputable def bO(n:Nat)(as:List A):ag:=as.map (λa=>O7 a.w)++Qy (n-as.length) Pb
noncomputable def xX:Fl->T D
 |.rt d=>.ok d|.nx _=>.ok .bH|_=>.stuck
noncomputable def lEq:List Nat->List Nat->Bool
 |[],[]=>Pa|x::b,y::a=>SG x y&&lEq b a|_,_=>Pc
theorem Ax:∀{a b:List Nat},lEq a b=Pa->a=b
 |[],[],_=>rfl|[],_::_,h=>nomatch h|_::_,[],h=>nomatch h|x::d,y::c,h=>by
  simp only[lEq,Pp]at h;rw[QZ h.1,Ax h.2]
theorem sh:∀(a:List Nat),lEq a a=Pa
 |[]=>rfl|x::b=>by simp only[lEq,Pp];exact⟨Nat.beq_refl x,sh b⟩
noncomputable def sEq(x y:PX):Bool:=lEq x.cps.toList y.cps.toList
theorem bE{x y:PX}(h:sEq x y=Pa):x=y:=by
 obtain⟨⟨a⟩⟩:=x;obtain⟨⟨b⟩⟩:=y;have:=Ax h;simp only at this;rw[this]
theorem si(x:PX):sEq x x=Pa:=sh _
theorem Ay{x y:PX}(h:sEq x y=Pc):x≠y:=λe=>by rw[e,si]at h;cases h
theorem pJ(x y:PX):sEq x y=(x==y):=by cases h:sEq x y with
 |true=>rw[bE h];simp|false=>exact(beq_eq_false_iff_ne.mpr (Ay h)).symm
noncomputable def sj(x:PX):List (PX×Sj)->Option Sj
 |[]=>Pb|(y,k)::r=>if sEq x y then O7 k else sj x r
theorem mj(x:PX):∀(l:List (PX×Sj)),sj x l=l.lookup x
 |[]=>rfl|(y,k)::r=>by
  simp only[sj,Qo,pJ,mj x r];cases x==y<;>rfl
structure MC where
 N:List PX
 sc:RQ
 all:Bool
 own:List (PX×Sj)
structure eN where
 dn:List PX
 gn:List PX
 cn:List PX
noncomputable def isAt(N:List PX)(i:Nat)(x:PX):Bool:=match N[i]? with
 |some y=>sEq y x|none=>Pc
theorem eO{N:List PX}{i:Nat}{x:PX}(h:isAt N i x=Pa):N[i]?=O7 x:=by
 unfold isAt at h;split at h;.rename_i y e;rw[e,bE h]
 .cases h
noncomputable def pK(x:PX):Bool:=!sEq x "__debug__"&&!sEq x "__classdict__"&&!sEq x "__name__"
theorem ot{x:PX}(h:pK x=Pa):(x==("__debug__":PX))=Pc/\(x==("__classdict__":PX))=Pc/\x≠"__name__":=by
 simp only[pK,Pp,Ru]at h;exact⟨by rw[<-pJ];exact h.1.1,by rw[<-pJ];exact h.1.2,Ay h.2⟩
noncomputable def dE(m:MC)(i:Nat)(x:PX):Bool:=isAt m.N i x&&pK x&&match sj x m.sc.names with
 |some .local=>Pa|some .cell=>Pa|some .free=>Pa|_=>Pc
noncomputable def dq(m:MC)(i:Nat)(x:PX):Bool:=isAt m.N i x&&match sj x m.sc.names with
 |some .local=>Pa|some .cell=>m.all||(match sj x m.own with|some .cell=>Pa|_=>Pc)|_=>Pc
noncomputable def cL(m:MC)(x:PX):Bool:=pK x&&match sj x m.sc.names with
 |some .globalImplicit=>Pa|_=>Pc
noncomputable def aB:PC->Bool
 |.Starred _ _=>Pa|_=>Pc
theorem aO{e:PC}{a:List PC}{env:U_}(h:aB e=Pc):PL (e::a) env=(Pc,Rz e env)::PL a env:=by cases e<;>first|rfl|(cases h)
theorem dI{env:U_}{pos:Ro}:∀{a:List PC},(a.all λe=>!aB e)=Pa->(RR pos (PL a env)).any (·.1)=Pc
 |[],_=>rfl|e::a,h=>by
  rw[Sg,Pp,Ru]at h;rw[aO h.1];show(Pc||(RR pos (PL a env)).any (·.1))=Pc;rw[dI h.2];rfl
noncomputable def pL:PC->Bool
 |.Call _ [] [] _=>Pa|_=>Pc
noncomputable def bX:PC->Bool
 |.Set _ _ _=>Pa|_=>Pc
noncomputable def pM:PC->Bool
 |.Slice _ _ _ _=>Pa|_=>Pc
noncomputable def pN:PC->Bool
 |.UnaryOp .Not _ _=>Pc|.BoolOp _ _ _=>Pc|.IfExp _ _ _ _=>Pc|.Compare _ _ _ _=>Pc|_=>Pa
noncomputable def Az(outer sc:RQ):RQ:={sc with names:=sc.names.map λ(n,k)=>if(k==Rm&&outer.kind==.function&&outer.names.lookup n==O7 .cell)then(n,Rc)else(n,k)}
noncomputable def d8(m:MC)(own fr:List PX)(sc:RQ):MC:=⟨own++fr,Az m.sc sc,Pc,sc.names⟩
noncomputable def cy(m:MC)(js:List Nat):List PX:=js.map λj=>(m.N[j]?).getD ""
noncomputable def Ju:List PX->Bool
 |[]=>Pa|x::r=>(r.all λy=>!sEq x y)&&Ju r
noncomputable def sk:List Nat->Bool
 |[]=>Pa|x::r=>(r.all λy=>!Nat.beq x y)&&sk r
noncomputable def sr(m:MC)(own:List PX)(js:List Nat)(sc:RQ):Bool:=nP m.sc sc&&(js.all λj=>decide (j<m.N.length))&&((cy m js).all λx=>sj x sc.names==O7 .free)&&sk js&&Ju (own++cy m js)
noncomputable def iN:BI->PX|.len=>"len"|.tuple=>"tuple"|.sorted=>"sorted"|.repr=>"repr"|.int=>"int"|.dict=>"dict"|.max=>"max"|.min=>"min"|.sortI=>"sorted"
noncomputable def dF:List PX:=["len","int","tuple","list","sorted","repr","dict","isinstance","bool","range","enumerate","max","min"]
structure XC(g:eN)(v:Ev)(m:MC)(X:Cx)(F:Fx):Prop where
 hK:X.K=F.K
 hP:X.prog=F.P
 hw:X.w=F.w
 hN:X.N=m.N
 nd:m.N.Nodup
 sc:X.env.scope=m.sc
 calm:X.calm=Pa
 un:X.A.units+64<Q_
 fn:m.all=Pa->∀x,X.fn x=Pa
 fo:∀x,sj x m.own=O7 .cell->X.fn x=Pa
 Nx:X.A.mark Pb=X.A
 bl:∀x∈dF,X.mg x=Pb
 df:∀f x,g.dn[f]?=O7 x->∃n k,eT k X.A/\lL X.prog X.w X.K X.mg X.base x n k (λas=>(v.call f as).aC)/\∀as,as.length≠n->v.call f as=.stuck
 xo:yj X F
 top:m.all=Pa->X.stack=X.env::X.outer/\X.env.frame=O7 X.env.locals
 cl:∀c x C,g.cn[c]?=O7 x->v.cls c=O7 C->X.mg x=O7 (.ref C)E3:∀C,v.how C=Pa->rm X.K C=Pa
 gd:X.A.guards=O7 []sb:∀c P b,v.sub c P=O7 b->iF X.K c P=O7 b
 xH:∀c u b,v.ins c u=O7 b->BO X.K c=Pa/\Ra X.K (.ref c) u=O7 b
 co:∀i x d,g.gn[i]?=O7 x->v.kM i=O7 d->∃u w,X.mg x=O7 u/\RelV w u/\∀H,H F.p≠Pb->X.K.lookup F.p=Pb->Is F.toFb H w d
 ct:∀i x d,g.gn[i]?=O7 x->v.kM i=O7 d->jR d=Pa->∃a o,X.mg x=O7 (.ref a)/\X.K.lookup a=O7 o/\o.cls=.type "tuple"/\o.dict=Pb
 code:m.all=Pa->∃q,RJ X.K X.env.code q=Pa
section
variable{g:eN}{v:Ev}{m:MC}{X:Cx}{F:Fx}
theorem XC.at_(h:XC g v m X F){i:Nat}{x:PX}(q:isAt m.N i x=Pa):X.N[i]?=O7 x:=by rw[h.hN];exact eO q
theorem XC.lk(h:XC g v m X F)(x:PX):sj x m.sc.names=X.env.scope.names.lookup x:=by rw[mj,h.sc]
theorem XC.AA(h:XC g v m X F){i:Nat}{x:PX}(q:dE m i x=Pa):X.N[i]?=O7 x/\s_ X.env.scope x/\(x==("__debug__":PX))=Pc/\(x==("__classdict__":PX))=Pc:=by
 simp only[dE,Pp]at q;obtain⟨⟨c,b⟩,a⟩:=q;have p:=ot b;refine⟨h.at_ c,?_,p.1,p.2.1⟩;unfold s_;rw[<-h.lk];split at a;.rename_i e;exact .inl e
 .rename_i e;exact .inr (.inl e)
 .rename_i e;exact .inr (.inr e)
 .cases a
theorem XC.loc(h:XC g v m X F){i:Nat}{x:PX}(q:dq m i x=Pa):X.N[i]?=O7 x/\Loc X.env.scope x/\(X.fn x=Pa\/X.env.scope.names.lookup x=O7 .local):=by
 simp only[dq,Pp]at q;obtain⟨b,a⟩:=q;refine⟨h.at_ b,?_⟩;unfold Loc;rw[<-h.lk];split at a;.rename_i e;exact⟨.inl e,.inr e⟩
 .rename_i e;rw[Q4]at a;refine⟨.inr e,.inl ?_⟩;rcases a with a|a;.exact h.fn a x
  .split at a;.rename_i c;exact h.fo x c
   .cases a
 .cases a
theorem XC.gl(h:XC g v m X F){x:PX}(q:cL m x=Pa):Gl X x/\(x==("__debug__":PX))=Pc/\x≠"__name__":=by
 simp only[cL,Pp]at q;obtain⟨b,a⟩:=q;have p:=ot b;refine⟨?_,p.1,p.2.2⟩;show X.env.scope.names.lookup x=_;rw[<-h.lk];split at a;.rename_i e;exact e
 .cases a
end
section
variable{X:Cx}{F:Fx}{e:PC}
noncomputable abbrev Fx.su(F:Fx):Fx:={F with E:=λ_ _=>False}
theorem T.gq{d:Type}:∀(t:T d){k Q E},t.calm.aC.run k Q E->t.aC.run k Q (λ_ _=>False)
 |.ok a,_,_,_,h=>h|.exc x,_,_,_,h=>h.elim|.stuck,_,_,_,h=>h.elim|.draw n f,k,Q,E,h=>by
  have h:(T.jd n).run k (λi c=>(f i).calm.aC.run c Q E) E:=h;show(T.jd n).run k (λi c=>(f i).aC.run c Q _) _;obtain⟨m,j,g⟩:=h;exact⟨m,j,λc a b i p=>T.gq (f i) (g c a b i p)⟩|.perm l f,k,Q,E,h=>λi p=>T.gq (f i) (h i p)
theorem jv{ρ:ag}{k:Nat}{σ:St}{H:Hp}:cg F ρ k σ H↔cg F.su ρ k σ H:=⟨λh=>⟨h.len,h.at_,h.apart,h.live,h.ext,h.kJ⟩,λh=>⟨h.len,h.at_,h.apart,h.live,h.ext,h.kJ⟩⟩
theorem DE.calm{t:ag->T D}(h:DE X F.su e λρ=>(t ρ).aC):DE X F e λρ=>(t ρ).calm.aC:=⟨h.hK,h.pe.imp λa H Q⟨ρ,k,S,z⟩=>⟨ρ,k,jv.mp S,T.gq _ z⟩⟩
theorem lE.calm{ifs:List PC}{t:ag->T Bool}(h:lE X F.su ifs λρ=>(t ρ).aC):lE X F ifs λρ=>(t ρ).calm.aC:=⟨h.hK,λa s b H Q I⟨ρ,k,S,z⟩=>h.pi a s b H Q I ⟨ρ,k,jv.mp S,T.gq _ z⟩⟩
end
theorem jw(d:D):Ref (bx d).aC (iC d):=by cases d<;>first|exact .refl _|exact .fail
theorem bg(d:D):Ref (bN d).aC (fb d):=by cases d<;>first|exact .refl _|exact .fail
theorem c6:∀(as:List A),(gk as).aC=iD as
 |[]=>rfl|.d x::r=>by
  show(gk r>>=λa=>T.ok (x::a)).aC=_;rw[T.bB,c6 r];rfl|.feed::_=>rfl
theorem av{a:Type}{b:Bool}{P:Prop}{t:T a}{m:M a}(h:b=Pa->P)(q:Ref t.aC m):Ref (do T.need b;t:T a).aC (do M.need P;m):=by
 rw[T.bB];exact(Ref.need h).bind λ_=>q
theorem aa{c d:Type}{t:T c}{m:M c}{f:c->T d}{h:c->M d}(a:Ref t.aC m)(b:∀x,Ref (f x).aC (h x)):Ref (t>>=f).aC (m>>=h):=by
 rw[T.bB];exact a.bind b
theorem aP{a c:Type}{o:Option a}{f:a->T c}{h:a->M c}(b:∀x,Ref (f x).aC (h x)):Ref (T.get o>>=f).aC (M.get o>>=h):=aa .get b
section
variable{X:Cx}{F:Fx}
theorem K2(hu:X.A.units+64<Q_)(hP:X.prog=F.P)(hw:X.w=F.w)(o:WS):gV X F (Sb o) (λd e=>(ym o d e).aC):=by
 have two:∀{b:Int->Int->Bool}{C:Int->Int->Prop}{f:Int->Int->D}(d e:D),(∀i j,b i j=Pa->C i j)->Ref (do let i<-bN d;let j<-bN e;T.need (b i j);T.ok (f i j):T D).aC (mI C f d e):=λd e h=>aa (bg d) λi=>aa (bg e) λj=>av (h i j) (.refl _);refine .ref λd e=>?_;cases o with
 |Add=>
  by_cases g:∃a,d=.str a
  .obtain⟨a,rfl⟩:=g;exact⟨EW,Dz,by cases e<;>first|exact av of_decide_eq_true (.refl _)|exact .fail⟩
  refine⟨Ku,CT,?_⟩;cases d<;>first|exact absurd ⟨_,rfl⟩ g|exact .fail|(cases e<;>first|exact .refl _|exact .fail|exact av of_decide_eq_true (.refl _))
 |Sub=>cases d<;>cases e<;>first|exact⟨GR,vk,.refl _⟩|exact⟨GR,vk,.fail⟩
 |Mult=>
  refine⟨_,Gj,two d e λi j h=>?_⟩;simp only[gm,Q4,Pp,decide_eq_true_eq]at h;exact h|Mod=>exact⟨_,Gk,two d e λi j h=>of_decide_eq_true h⟩|Pow=>
  refine⟨_,Gm,aa (bg d) λi=>aa (bg e) λj=>?_⟩;intro k Q E z;rw[T.bB]at z;unfold T.need at z;split at z
  .rename_i hb;rw[Pp]at hb;obtain rfl:=of_decide_eq_true hb.1;obtain rfl:=of_decide_eq_true hb.2;exact⟨⟨by decide,by decide,by decide⟩,z⟩
  .exact z.elim|_=>exact⟨λ_ _=>M.fail,⟨λc s m H k x y v u d e Q I p n l hK t r q=>q.elim⟩,.fail⟩
theorem pO(hu:X.A.units+64<Q_)(hP:X.prog=F.P)(hw:X.w=F.w)(o:UO):gV X F (QB o) (λd e=>(bD o d e).aC):=by
 have n:X.A.units<Q_:=by omega
 have c:X.A.units+2<Q_:=by omega
 refine .ref λd e=>?_;cases o with
 |Eq=>exact⟨_,Kr hu,aP λ_=>.refl _⟩|NotEq=>exact⟨_,Ks hu,aP λ_=>.refl _⟩|Lt=>exact⟨_,Kf,aa (bg d) λi=>aa (bg e) λj=>.refl _⟩|Is=>exact⟨_,Gn,av (λh=>h) (.refl _)⟩|LtE=>exact⟨_,Kg,aa (bg d) λi=>aa (bg e) λj=>.refl _⟩|IsNot=>
  refine⟨_,DB,?_⟩;cases d<;>first|exact .fail|(cases e<;>first|exact .refl _|exact .fail)
 |In=>
  by_cases hd:∃ks f,e=.aE ks f
  .obtain⟨ks,f,rfl⟩:=hd;exact⟨_,G7 c hP hw,av cY (.refl _)⟩
  refine⟨_,Kt hu,?_⟩;have:bD .In d e=(do let a<-T.get (items e);let b<-T.get (lJ d a);.ok (.bl b)):=by cases e<;>first|rfl|exact absurd ⟨_,_,rfl⟩ hd
  rw[this];exact aP λ_=>aP λ_=>.refl _|NotIn=>
  by_cases hd:∃ks f,e=.aE ks f
  .obtain⟨ks,f,rfl⟩:=hd;exact⟨_,xI c hP hw,av cY (.refl _)⟩
  by_cases m:∃a,e=.aM a
  .obtain⟨a,rfl⟩:=m;refine⟨_,Dv hP hw,av of_decide_eq_true ?_⟩;cases d<;>first|exact .refl _|exact .fail
  refine⟨_,zG hu,?_⟩;have:bD .NotIn d e=(do let a<-T.get (items e);let b<-T.get (lJ d a);.ok (.bl (!b))):=by cases e<;>first|rfl|exact absurd ⟨_,_,rfl⟩ hd|exact absurd ⟨_,rfl⟩ m
  rw[this];exact aP λ_=>aP λ_=>.refl _|_=>exact⟨λ_ _=>M.fail,⟨λg s p H k x y v u d e Q I t r l hK B z q=>q.elim⟩,.fail⟩
theorem K3(hu:X.A.units+64<Q_)(hP:X.prog=F.P)(hw:X.w=F.w):Mr X F (λd e=>(br d e).aC):=by
 refine⟨λhK a b c s g H x y v u Q I m j h p=>?_⟩;obtain⟨k,d,e,l,o,n,q⟩:=h;by_cases hd:∃ks f,d=.aE ks f
 .obtain⟨ks,f,rfl⟩:=hd;refine(C3 (X:=X) (F:=F) (by omega) hP hw).ix hK a b c s g H x y v u Q I m j ⟨k,_,e,l,o,n,?_⟩ p;have:Ref (br (.aE ks f) e).aC (KI (.aE ks f) e):=av cY .get;exact this _ _ _ q
 .refine(CK (X:=X) (F:=F)).ix hK a b c s g H x y v u Q I m j ⟨k,d,e,l,o,n,?_⟩ p;have r:br d e=K1 d e:=by cases d<;>first|rfl|exact absurd ⟨_,_,rfl⟩ hd
  have:Ref (br d e).aC (N_ d e):=by
   rw[r];exact aa (bg e) λi=>by cases d<;>first|exact .fail|exact .get|exact av of_decide_eq_true .get
  exact this _ _ _ q
end
section
variable{X:Cx}{F:Fx}
theorem bo.stuck{f:O_}:bo X F f (λ_=>M.fail):=⟨λa s b H k c d g Q I e l hK i q=>q.elim⟩
theorem bo.one{f:O_}{t:List D->T D}(e:t []=.stuck)(c:∀a b r,t (a::b::r)=.stuck)(h:∀d,∃m,bo X F f m/\Ref (t [d]).aC (m [d])):bo X F f (λds=>(t ds).aC):=.ref λds=>by match ds with
 |[]=>exact⟨_,.stuck,by rw[e];exact .fail⟩|[d]=>exact h d|a::b::r=>exact⟨_,.stuck,by rw[c];exact .fail⟩
theorem bo.K4{f:O_}{t:List D->T D}{g:Int->Int->D}(h:bo X F f (two (Jn g)))(e:∀d e,t [d,e]=(do let i<-bN d;let j<-bN e;.ok (g i j)))(m:t []=.stuck)(l:∀a,t [a]=.stuck)(k:∀a b c r,t (a::b::c::r)=.stuck):bo X F f (λds=>(t ds).aC):=.ref λds=>by match ds with
 |[]=>exact⟨_,.stuck,by rw[m];exact .fail⟩|[a]=>exact⟨_,.stuck,by rw[l];exact .fail⟩|[d,x]=>exact⟨_,h,by rw[e];exact aa (bg d) λi=>aa (bg x) λj=>.refl _⟩|a::b::c::r=>exact⟨_,.stuck,by rw[k];exact .fail⟩
noncomputable def AB:BI->O_|.len=>.builtin "len"|.tuple=>.type "tuple"|.sorted=>.builtin "sorted"|.repr=>.builtin "repr"|.int=>.type "int"|.dict=>.type "dict"|.max=>.builtin "max"|.min=>.builtin "min"|.sortI=>.builtin "sorted"
theorem HC(f:BI):Ry (iN f)=O7 (AB f):=by cases f<;>(simp only[iN,AB];decide+kernel)
theorem K5(a:X.calm=Pa)(e:X.A.guards=O7 [])(hu:X.A.units+64<Q_)(hP:X.prog=F.P)(hw:X.w=F.w)(f:BI):bo X F (AB f) (λds=>(xU f ds).aC):=by cases f with
 |len=>
  refine .one rfl (λ_ _ _=>rfl) λd=>?_;cases d with
  |tup _=>exact⟨_,zt,.refl _⟩|lst _=>exact⟨_,zt,.refl _⟩|_=>exact⟨_,.stuck,.fail⟩
 |tuple=>exact .one rfl (λ_ _ _=>rfl) λd=>⟨_,zu,aP λ_=>.refl _⟩|sorted=>
  refine .one rfl (λ_ _ _=>rfl) λd=>?_;by_cases c:∃b,d=.aM b
  .obtain⟨b,rfl⟩:=c;exact⟨_,An a hP hw,av of_decide_eq_true (.refl _)⟩
  refine⟨_,Af a (by omega),?_⟩;show Ref (se d).aC (Ad d);have:se d=(do let ds<-T.get (j9 d);T.need (decide (ds.length<=Pl)&&iI ds);T.perm ds λl=>.ok (.lst l)):=by cases d<;>first|rfl|exact absurd ⟨_,rfl⟩ c
  rw[this];exact aP λds=>av (λz=>by rw[Pp]at z;exact⟨of_decide_eq_true z.1,z.2⟩) (.refl _)|repr=>exact .one rfl (λ_ _ _=>rfl) λd=>⟨_,Dt e (by omega),av (λz=>by rw[Pp]at z;exact z) (.refl _)⟩|int=>
  refine .one rfl (λ_ _ _=>rfl) λd=>⟨_,GC,?_⟩;cases d<;>first|exact .refl _|exact .fail
 |dict=>
  refine .one rfl (λ_ _ _=>rfl) λd=>⟨_,Ag a (by omega) hP hw,?_⟩;cases d<;>first|exact aP λ_=>.refl _|exact .fail
 |sortI=>
  refine .one rfl (λ_ _ _=>rfl) λd=>⟨_,Ap a,?_⟩;cases d<;>first|exact aP λ_=>av of_decide_eq_true (.refl _)|exact .fail
 |max=>exact .K4 (CL a) (λ_ _=>rfl) rfl (λ_=>rfl) λ_ _ _ _=>rfl|min=>exact .K4 (CM a) (λ_ _=>rfl) rfl (λ_=>rfl) λ_ _ _ _=>rfl
end
theorem iY{o:PC}{n:PX}{env:U_}{w:Vy O_}(h:pL o=Pc):Tf o n env w=w:=by
 unfold Tf;split;.cases h
 .rfl
theorem kh{a:Type}:∀{l:List (Bool×a)},l.any (·.1)=Pc->l.all (λx=>!x.1)=Pa
 |[],_=>rfl|x::l,h=>by
  rw[SD,Bool.or_eq_false_iff]at h;rw[Sg,h.1,kh h.2];rfl
theorem jS{e:PC}(h:bX e=Pc)(env:U_)(x:O_):R3 e env x=pure x:=by cases e<;>first|rfl|cases h
theorem mo{e:PC}(h:bX e=Pc)(o:UO):Te o e=Pc:=by cases e<;>first|rfl|cases h
theorem pQ{b c:PC}(h:bX c=Pc)(o o':UO):lastMarks [o,o'] [b,c]=Pc:=mo h o'
theorem uq{b:PC}(h:pM b=Pc):oQ b:=by intro o i;cases b<;>first|rfl|cases h
theorem ur{e:PC}(h:pN e=Pa)(env:U_)(whole:Vy O_):V9 e env whole=(do let v<-whole;Ug e.pos;Wa [v] (truthy v)):=by cases e with
 |UnaryOp o a p=>cases o<;>first|rfl|cases h
 |BoolOp _ _ _=>cases h|IfExp _ _ _ _=>cases h|Compare _ _ _ _=>cases h|_=>rfl
theorem gL:∀{l:List PX},Ju l=Pa->l.Nodup
 |[],_=>.nil|x::r,h=>by
  simp only[Ju,Pp,Qq,Ru]at h;exact List.nodup_cons.mpr ⟨(λz=>by have:=h.1 x z;rw[si]at this;exact nomatch this),gL h.2⟩
theorem ou:∀{l:List Nat},sk l=Pa->l.Nodup
 |[],_=>.nil|x::r,h=>by
  simp only[sk,Pp,Qq,Ru]at h;exact List.nodup_cons.mpr ⟨(λz=>by have:=h.1 x z;rw[Nat.beq_refl]at this;exact nomatch this),ou h.2⟩
section
variable{g:eN}{v:Ev}{m:MC}{X:Cx}{F:Fx}
theorem XC.ee(h:XC g v m X F){own:List PX}{js:List Nat}{sc:RQ}(q:sr m own js sc=Pa)(pins:List (Pg×Qx))(cl:List (PX×Pg))(C:Pg)(a:List Pg)(s:Pe)(H:Hp):XC g v (d8 m own (cy m js) sc) (ee X pins sc (own++cy m js) cl C a s H) F.su where
 hK:=h.hK;hP:=h.hP;hw:=h.hw;hN:=rfl;nd:=by
  simp only[sr,Pp]at q;exact gL q.2
 sc:=by
  show YI sc X.env=Az m.sc sc;unfold YI Az YA;rw[h.sc]
 calm:=h.calm;un:=h.un;fn:=λz=>nomatch z;fo:=λx e=>by
  show(sc.names.lookup x==O7 .cell)=Pa;have e:sj x sc.names=O7 .cell:=e;rw[<-mj,e];rfl
 Nx:=h.Nx;bl:=h.bl;df:=h.df;xo:=yj.never λ_ _ z=>z;top:=λz=>nomatch z;cl:=h.cl;E3:=h.E3;gd:=h.gd;sb:=h.sb;xH:=h.xH;co:=h.co;ct:=h.ct;code:=λz=>nomatch z
theorem AD(h:XC g v m X F){own:List PX}{js:List Nat}{sc:RQ}(q:sr m own js sc=Pa):nP X.env.scope sc=Pa/\js.map (λj=>X.N[j]?)=(cy m js).map O7/\(∀x∈cy m js,sc.names.lookup x=O7 .free)/\js.Nodup:=by
 simp only[sr,Pp,Qq,decide_eq_true_eq]at q;obtain⟨⟨⟨⟨d,c⟩,b⟩,a⟩,i⟩:=q;refine⟨by rw[h.sc];exact d,?_,λx e=>?_,ou a⟩
 .unfold cy;rw[Rk];refine Se λj f=>?_;rw[h.hN];have:=c j f;simp[this]
 .have:=b x e;rw[<-mj];exact beq_iff_eq.mp this
inductive Ch(P:Prop)where|y(h:P)|n
noncomputable def Ch.b{P Q:Prop}:Ch P->(P->Ch Q)->Ch Q
 |.y h,f=>f h|.n,_=>.n
noncomputable def Ch.ok{P:Prop}:Ch P->Bool
 |.y _=>Pa|.n=>Pc
theorem Ch.of{P:Prop}:∀{c:Ch P},c.ok=Pa->P
 |.y h,_=>h|.n,q=>nomatch q
noncomputable def cb:(b:Bool)->Ch (b=Pa)
 |true=>.y rfl|false=>.n
noncomputable def cn:(b:Bool)->Ch (b=Pc)
 |false=>.y rfl|true=>.n
noncomputable def cd(p:Prop):[d:Decidable p]->Ch p
 |.isTrue h=>.y h|.isFalse _=>.n
noncomputable abbrev QG(g:eN)(m:MC)(t:Tg)(e:PC):Prop:=∀v X F,XC g v m X F->DG X F e (λd a=>(dD t d a).aC)
noncomputable abbrev K6(g:eN)(m:MC)(t:Tg)(b:List PC):Prop:=∀v X F,XC g v m X F->EJ X F b (λd a=>(iM t d a).aC)
theorem vX{env:U_}{e:PC}{a:List PC}(h:aB e=Pc):RI (e::a) env=(Pc,UC e env)::RI a env:=by cases e<;>first|rfl|(cases h)
theorem as_none{env:U_}:∀{a:List PC},(a.all λe=>!aB e)=Pa->(RI a env).length=a.length/\(RI a env).findIdx? (·.1)=Pb
 |[],_=>⟨rfl,rfl⟩|e::a,z=>by
  rw[Sg,Pp,Ru]at z;rw[vX z.1];obtain⟨c,b⟩:=as_none (env:=env) z.2;exact⟨by simp[c],by simp[List.findIdx?_cons,b]⟩
end
section
variable{g:eN}{m:MC}
theorem Ny{i:Nat}{x:PX}{p:Ro}(q:dq m i x=Pa):QG g m (.nm i) (.Name x p):=λv X F h=>by
 obtain⟨c,b,a⟩:=h.loc q;exact(CN i (by rw[h.hN];exact h.nd) c b a h.hK).ref λd e=>.refl _
theorem Nz{n k:Nat}{r:Tg}{b:List PC}{p:Ro}(i:b.length=n)(f:(b.all λe=>!aB e)=Pa)(j:K6 g m r b):QG g m (.tup n r) (.Tuple b k p):=λv X F h=>by
 obtain⟨a1,l⟩:=as_none (env:=X.env) f;refine(GG (n:=n) h.calm (j v X F h) (a1.trans i) l).ref λd c=>?_;cases d with
 |tup a=>
  show Ref (if a.length=n then iM r a c else .stuck:T ag).aC (do M.need (a.length=n);(iM r a c).aC);by_cases e:a.length=n;.rw[if_pos e];exactλk Q E z=>⟨e,z⟩
  .rw[if_neg e];exact .fail|_=>exact .fail
theorem NA:K6 g m .nil []:=λv X F h=>(CO h.hK).ref λd a=>by cases d<;>first|exact .refl _|exact .fail
theorem NB{t r:Tg}{e:PC}{a:List PC}(b:aB e=Pc)(c:QG g m t e)(f:K6 g m r a):K6 g m (.cons t r) (e::a):=λv X F h=>(zw (c v X F h) (f v X F h) (by rw[vX b];rfl)).ref λd i=>by cases d with
 |nil=>exact .fail|cons d j=>exact aa (.refl _) λ_=>.refl _
variable(g m)
mutual
noncomputable def cG:(t:Tg)->(e:PC)->Ch (QG g m t e)
 |.nm i,e=>match e with
  |.Name x _=>(cb (dq m i x)).b λq=>.y (Ny q)|_=>.n
 |.tup n r,e=>match e with
  |.Tuple a _ _=>(cd (a.length=n)).b λq=>(cb (a.all λe=>!aB e)).b λc=>(Of r a).b λh=>.y (Nz q c h)|_=>.n
 |.nil,_=>.n|.cons _ _,_=>.n
noncomputable def Of:(t:Tg)->(a:List PC)->Ch (K6 g m t a)
 |.nil,a=>match a with
  |[]=>.y NA|_=>.n
 |.cons t r,a=>match a with
  |e::a=>(cn (aB e)).b λq=>(cG t e).b λh=>(Of r a).b λc=>.y (NB q h c)|[]=>.n
 |.nm _,_=>.n|.tup _ _,_=>.n
end
end
section
variable{g:D->ag->T ag}{tc:ag->T Bool}{te:ag->T D}
theorem mq:∀(ds:List D)(ρ:ag),Ref (bK g tc te ds ρ).aC (nQ (λd ρ=>(g d ρ).aC) (λρ=>(tc ρ).aC) (λρ=>(te ρ).aC) ds ρ)
 |[],ρ=>.refl _|d::ds,ρ=>aa (.refl _) λa=>aa (.refl _) λb=>by cases b with
  |true=>exact aa (.refl _) λx=>aa (mq ds a) λr=>.refl _|false=>exact mq ds a
variable{β:Type}{em:β->ag->T (β×ag)}
theorem jT{e:β->ag->M (β×ag)}(a:∀acc ρ,Ref (em acc ρ).aC (e acc ρ)):∀(acc:β)(ds:List D)(ρ:ag),Ref (gp g tc em acc ds ρ).aC (oh (λd ρ=>(g d ρ).aC) (λρ=>(tc ρ).aC) e acc ds ρ)
 |acc,[],ρ=>.refl _|acc,d::ds,ρ=>aa (.refl _) λc=>aa (.refl _) λb=>by cases b with
  |true=>exact aa (a acc c) λr=>jT a r.1 ds r.2|false=>exact jT a acc ds c
end
section
variable{g:eN}{v:Ev}{m:MC}{X:Cx}{F:Fx}
theorem xY{ρ:ag}{i:Nat}(h:dQ ρ i=Pa):ρ[i]?=O7 (O7 .feed):=by
 unfold dQ at h;split at h;.assumption
 .cases h
theorem XC.K7(h:XC g v m X F){c:Pg}{u:O_}{b:Bool}(e:v.ins c u=O7 b)(nm:List D):g_ X.K (.exc c nm) u=O7 b:=by
 unfold g_;dsimp only;rw[if_pos (h.xH c u b e).1];exact(h.xH c u b e).2
theorem AE(h:XC g v m X F){Ty:String}(d:D):Ref (vU v Ty d).aC (do let b<-M.get (g_ X.K d (.type Ty));pure (.bl b)):=by
 by_cases a:∃c nm,d=.exc c nm
 .obtain⟨c,nm,rfl⟩:=a;intro k Q E z;have z:(T.get (v.ins c (.type Ty))>>=λb=>T.ok (.bl b):T D).aC.run k Q E:=z;rw[T.bB,T.je]at z;obtain⟨b,hb,q⟩:=M.run_get.mp z;exact M.run_get.mpr ⟨b,h.K7 hb nm,q⟩
 .have e:vU v Ty d=EY Ty d:=by cases d<;>first|rfl|exact absurd ⟨_,_,rfl⟩ a
  rw[e];intro k Q E z;have z:(T.get (GD d)>>=λt=>T.get (Ra [] (.type t) (.type Ty))>>=λb=>T.ok (.bl b):T D).aC.run k Q E:=z;rw[T.bB,T.je]at z;obtain⟨t,f,z⟩:=M.run_get.mp z;dsimp only at z;rw[T.bB,T.je]at z;obtain⟨b,hb,q⟩:=M.run_get.mp z;refine M.run_get.mpr ⟨b,?_,q⟩;have i:g_ X.K d (.type Ty)=match GD d with
    |some t=>Ra X.K (.type t) (.type Ty)|none=>Pb:=by cases d<;>first|rfl|exact absurd ⟨_,_,rfl⟩ a
  rw[i,f];exact hb
theorem xZ(h:XC g v m X F){P:Pg}(d:D):Ref (sg v P d).aC (do let b<-M.get (g_ X.K d (.ref P));pure (.bl b)):=by cases d with
 |exc c nm=>
  intro k Q E z;have z:(T.get (v.ins c (.ref P))>>=λb=>T.ok (.bl b):T D).aC.run k Q E:=z;rw[T.bB,T.je]at z;obtain⟨b,hb,q⟩:=M.run_get.mp z;exact M.run_get.mpr ⟨b,h.K7 hb nm,q⟩|_=>exact .fail
theorem HD{x:PX}(h:dF.contains x=Pa):x∈dF:=List.contains_iff_mem.mp h
theorem HE(f:BI):iN f∈dF:=by cases f<;>exact HD rfl
theorem DJ(h:XC g v m X F){f:BI}{a:PC}{b:List PC}{p q:Ro}{c:ag->M (List A)}(ha:DA X F (a::b) c)(r:cL m (iN f)=Pa)(hs:aB a=Pc)(j:(b.all λe=>!aB e)=Pa):DE X F (.Call (.Name (iN f) p) (a::b) [] q) (λρ=>do(xU f (<-iD (<-c ρ))).aC):=by
 obtain⟨o,n,l⟩:=h.gl r;have hb:=HC f;have k:=h.bl _ (HE f);have hd:=K5 (X:=X) (F:=F) h.calm h.gd h.un h.hP h.hw f;have d:PL (a::b) X.env=(Pc,Rz a X.env)::PL b X.env:=aO hs;have i:(RR q (PL b X.env)).any (·.1)=Pc:=dI j;cases f<;>first|exact zr hd k hb ha o l n d i|exact xu hd k hb ha o l n d i
end
section
variable{g:eN}{v:Ev}
noncomputable def T.plain{a:Type}:T a->Bool
 |.ok _=>Pa|.stuck=>Pa|_=>Pc
theorem T.uu{a:Type}{t:T a}(h:t.plain=Pa):t.calm=t:=by cases t<;>first|rfl|cases h
mutual
theorem ox:∀(t:Tg)(d:D)(ρ:ag),(dD t d ρ).plain=Pa
 |.nm i,d,ρ=>rfl|.tup n r,d,ρ=>by
  unfold dD;split
  .split;.exact mv r _ ρ
   .rfl
  .rfl|.nil,d,ρ=>by unfold dD;rfl|.cons _ _,d,ρ=>by unfold dD;rfl
theorem mv:∀(t:Tg)(ds:List D)(ρ:ag),(iM t ds ρ).plain=Pa
 |.nil,ds,ρ=>by
  unfold iM;split<;>rfl|.cons t r,ds,ρ=>by
  unfold iM;split
  .rename_i d b;show(T.bind (dD t d ρ) λa=>iM r b a).plain=Pa;have h:=ox t d ρ;cases e:dD t d ρ with
   |ok a=>exact mv r b a|stuck=>rfl|_=>rw[e]at h;cases h
  .rfl|.nm _,ds,ρ=>by unfold iM;rfl|.tup _ _,ds,ρ=>by unfold iM;rfl
end
theorem AF(t:Tg)(d:D)(ρ:ag):(dD t d ρ).calm=dD t d ρ:=T.uu (ox t d ρ)
theorem DG.su{X:Cx}{F:Fx}{tg:PC}{t:Tg}(h:DG X F.su tg λd ρ=>(dD t d ρ).aC):DG X F tg λd ρ=>(dD t d ρ).aC:=⟨h.hK,h.pg.imp λw m H Q f=>by
  obtain⟨ρ,k,d,S,i,z⟩:=f;refine⟨ρ,k,d,jv.mp S,i,?_⟩;have j:(dD t d ρ).aC.run k (λb g=>∀a c,Ext F.toFb H k c g->cg F b g a c->Q a c) (λ_ _=>False):=T.gq (dD t d ρ) (E:=F.E) (by rw[AF];exact z);exact M.wk j λb g q a c e l=>q a c e (jv.mpr l)⟩
end
noncomputable abbrev QE(g:eN)(m:MC)(ex:Ex)(e:PC):Prop:=∀v X F,XC g v m X F->DE X F e (λa=>(au v ex a).aC)
noncomputable abbrev QU(g:eN)(m:MC)(ex:Ex)(e:PC):Prop:=∀v X F,XC g v m X F->DU X F e (λa=>(au v ex a).aC)
noncomputable abbrev QT(g:eN)(m:MC)(ex:Ex)(e:PC):Prop:=∀v X F,XC g v m X F->DT X F e (λa=>(cP v ex a).aC)
noncomputable abbrev QW(g:eN)(m:MC)(ex:Ex)(e:PC):Prop:=∀v X F,XC g v m X F->yi X F e (λa=>(cP v ex a).aC)
noncomputable abbrev QC(g:eN)(m:MC)(ex:Ex)(b:List PC):Prop:=∀v X F,XC g v m X F->lE X F b (λa=>(cP v ex a).aC)
noncomputable abbrev QA(g:eN)(m:MC)(ex:Ex)(b:List PC):Prop:=∀v X F,XC g v m X F->DA X F b (λa=>(gK v ex a).aC)
noncomputable abbrev QI(g:eN)(m:MC)(ex:Ex)(t e:PC):Prop:=∀v X F,XC g v m X F->DI X F t e (λa=>(qw v ex a).aC)
noncomputable abbrev QK(d:D)(c:Const):Prop:=∀X F,X.K=F.K->∀k p,DE X F (.Constant c k p) (λ_=>pure d)
noncomputable def cK:(d:D)->(c:Const)->Ch (QK d c)
 |.int i,c=>match c with
  |.int j=>(cd (j=i)).b λq=>.y (by subst q;exactλX F h k p=>Ge h)|_=>.n
 |.bl a,c=>match c with
  |.bool b=>(cd (b=a)).b λq=>.y (by subst q;exactλX F h k p=>Kb h)|_=>.n
 |.bH,c=>match c with
  |.none=>.y λX F h k p=>Gf h|_=>.n
 |.str x,c=>match c with
  |.str y=>(cb (sEq x y)).b λq=>.y (by rw[bE q];exactλX F h k p=>Gg h)|_=>.n
 |_,_=>.n
section
variable{g:eN}{m:MC}
theorem K8{i:Nat}{x:PX}{p:Ro}(q:dE m i x=Pa):QE g m (.var i) (.Name x p):=λv X F h=>by
 obtain⟨d,c,b,a⟩:=h.AA q;exact(zf i d c b a h.hK).ref λe=>.get
theorem NC{o o':WS}{a b:Ex}{x y:PC}{p:Ro}(q:o'=o)(ha:QE g m a x)(hb:QE g m b y):QE g m (.op o a b) (.BinOp x o' y p):=by
 subst q;exactλv X F h=>(Ke (K2 h.un h.hP h.hw o') (ha v X F h) (hb v X F h)).ref λc=>aa (.refl _) λ_=>aa (.refl _) λ_=>.refl _
theorem K9{a:Ex}{x:PC}{p:Ro}(ha:QE g m a x):QE g m (.neg a) (.UnaryOp .USub x p):=λv X F h=>(GS (ha v X F h)).ref λb=>aa (.refl _) λd=>aa (bg d) λ_=>.refl _
theorem K_{o o':UO}{a b:Ex}{x y:PC}{p:Ro}(q:o'=o)(c:bX y=Pc)(ha:QE g m a x)(hb:QE g m b y):QE g m (.cmp o a b) (.Compare x [o'] [y] p):=by
 subst q;exactλv X F h=>(Gh (pO h.un h.hP h.hw o') (ha v X F h) (hb v X F h) (mo c o')).ref λd=>aa (.refl _) λ_=>aa (.refl _) λ_=>.refl _
theorem La{a b:Ex}{x y:PC}{r:List PC}{p:Ro}(ha:QE g m a x)(hb:QE g m b (.BoolOp .And (y::r) p)):QE g m (.and a b) (.BoolOp .And (x::y::r) p):=λv X F h=>(Gq (ha v X F h) (hb v X F h)).ref λc=>aa (.refl _) λd=>aa (jw d) λb=>by cases b<;>exact .refl _
theorem Lb{a:Ex}{o:BoolOp}{x:PC}{p:Ro}(ha:QE g m a x):QE g m (.one a) (.BoolOp o [x] p):=λv X F h=>(Gp (ha v X F h)).ref λb=>.refl _
theorem Lc{a:Ex}{x:PC}{p:Ro}(ha:QE g m a x):QE g m (.not a) (.UnaryOp .Not x p):=λv X F h=>(Gu (ha v X F h)).ref λb=>aa (.refl _) λd=>aa (jw d) λ_=>.refl _
theorem Ld{r:Ex}{a:List PC}{k:Nat}{p:Ro}(b:QA g m r a):QE g m (.tup r) (.Tuple a k p):=λv X F h=>(GA (b v X F h)).ref λc=>aa (.refl _) λas=>aa (.of_eq (c6 as)) λd=>av of_decide_eq_true (.refl _)
theorem Le{r:Ex}{a:List PC}{p:Ro}(b:QA g m r a):QE g m (.lst r) (.List a p):=λv X F h=>(GB (b v X F h)).ref λc=>aa (.refl _) λas=>aa (.of_eq (c6 as)) λd=>av of_decide_eq_true (.refl _)
theorem Lf{a b:Ex}{x y:PC}{p:Ro}(q:pM y=Pc)(ha:QE g m a x)(hb:QE g m b y):QE g m (.idx a b) (.Subscript x y p):=λv X F h=>(Kj (K3 h.un h.hP h.hw) (ha v X F h) (hb v X F h) (uq q)).ref λc=>aa (.refl _) λ_=>aa (.refl _) λ_=>.refl _
theorem Lg{o o' p1 d:UO}{a b c:Ex}{x y z:PC}{p:Ro}(q:p1=o)(f:d=o')(e:bX z=Pc)(ha:QE g m a x)(hb:QE g m b y)(i:QE g m c z):QE g m (.K0 o o' a b c) (.Compare x [p1,d] [y,z] p):=by
 subst q f;refineλv X F h=>(zi (pO h.un h.hP h.hw p1) (pO h.un h.hP h.hw d) (ha v X F h) (hb v X F h) (i v X F h) (pQ e p1 d)).ref λj=>aa (.refl _) λ_=>aa (.refl _) λ_=>aa (.refl _) λr=>aa (jw r) λb=>?_;cases b with
 |true=>exact aa (.refl _) λ_=>.refl _|false=>exact .refl _
theorem ND{f:BI}{r:Ex}{x:PX}{a:PC}{b:List PC}{p k:Ro}(j:sEq x (iN f)=Pa)(i:cL m x=Pa)(d:(b.all λe=>!aB e)=Pa)(c:aB a=Pc)(l:QA g m r (a::b)):QE g m (.bi f r) (.Call (.Name x p) (a::b) [] k):=λv X F h=>by
 obtain rfl:=bE j;exact(DJ h (l v X F h) i c d).ref λn=>aa (.refl _) λas=>aa (.of_eq (c6 as)) λo=>.refl _
theorem HF{f:Nat}{r:Ex}{x:PX}{a:PC}{c:List PC}{p q:Ro}(o:isAt g.dn f x=Pa)(l:cL m x=Pa)(j:(c.all λe=>!aB e)=Pa)(i:aB a=Pc)(s:QA g m r (a::c)):QE g m (.call f r) (.Call (.Name x p) (a::c) [] q):=λv X F h=>by
 obtain⟨n,k,b,hd,t⟩:=h.df f x (eO o);obtain⟨w,u,A⟩:=h.gl l;refine(CY hd b h.xo (s v X F h) w h.hP h.hw u (aO i) (dI j)).ref λy=>aa (.refl _) λas=>?_;by_cases d:as.length=n
 .rw[T.GV];exactλk Q E z=>⟨d,z⟩
 .rw[t as d];exact .fail
theorem Lh{Ty:String}{a:Ex}{x t:PX}{y:PC}{p o n:Ro}(b1:Ry t=O7 (.type Ty))(l:sEq x "isinstance"=Pa)(k:dF.contains t=Pa)(j:cL m x=Pa)(i:cL m t=Pa)(f:aB y=Pc)(ha:QE g m a y):QE g m (.Jr Ty a) (.Call (.Name x p) [y,.Name t n] [] o):=λv X F h=>by
 obtain rfl:=bE l;obtain⟨q,u,s⟩:=h.gl j;obtain⟨e,c,b⟩:=h.gl i;refine(z_ (p1:=p) (ha v X F h) (h.bl _ (HD rfl)) (h.bl _ (HD k)) b1 q e b c (aO f)).ref λr=>aa (.refl _) λd=>?_;exact AE h d
theorem Li{c:Nat}{a:Ex}{x t:PX}{y:PC}{p r q:Ro}(o:sEq x "isinstance"=Pa)(n:isAt g.cn c t=Pa)(l:cL m x=Pa)(k:cL m t=Pa)(j:aB y=Pc)(ha:QE g m a y):QE g m (.Js c a) (.Call (.Name x p) [y,.Name t q] [] r):=λv X F h=>by
 obtain rfl:=bE o;obtain⟨s,z,w⟩:=h.gl l;obtain⟨i,f,u⟩:=h.gl k;cases e:v.cls c with
 |none=>
  refine(DE.stuck h.hK).ref λb=>?_;show Ref (T.get (v.cls c)>>=λP=>au v a b>>=λd=>sg v P d).aC _;rw[e];exact .fail|some P=>
  refine(z4 (x:=p) (p1:=p) (ha v X F h) (h.bl _ (HD rfl)) (h.cl c t P (eO n) e) s i f (aO j)).ref λb=>?_;show Ref (T.get (v.cls c)>>=λP=>au v a b>>=λd=>sg v P d).aC _;rw[e];exact aa (.refl _) λd=>xZ h d
theorem Lj{e:PC}:QE g m .bad e:=λv X F h=>DE.stuck h.hK
theorem Lk{i:Nat}{a:Ex}{e:PC}(ha:QE g m a e):QE g m (.iH i a) e:=λv X F h=>((ha v X F h).iH i).ref λb=>aa (.refl _) λd=>av (λz=>z) (.refl _)
theorem Ll{a:PC}{b:List PC}{d:Ro}{env:U_}(hs:aB a=Pc)(q:(b.all λe=>!aB e)=Pa)(l:b.length<20):((RR d (PL (a::b) env)).all (λx=>!x.1)&&(WV d (UP [] env)).all (λx=>x.1.isSome)&&decide ((a::b).length+([]:List TC).length+(if([]:List TC).isEmpty then 0 else 1)<30))=Pa:=by
 have c:(RR d (PL (a::b) env)).any (·.1)=Pc:=by
  rw[aO hs];show(Pc||(RR d (PL b env)).any (·.1))=Pc;rw[dI q];rfl
 rw[kh c];have:(a::b).length+([]:List TC).length+(if([]:List TC).isEmpty then 0 else 1)<30:=by
  show b.length+1+0+0<30;omega
 rw[decide_eq_true this];rfl
theorem AG(d:D)(ds:List D):Ref (vT d ds).aC (ES d ds):=by
 cases d<;>first|exact .fail|skip
 match ds with
 |[]=>exact .fail|[_]=>exact .fail
 |[x,z]=>exact av (λz=>by
   rw[Pp]at z;exact⟨cY z.1,of_decide_eq_true z.2⟩) (.refl _)|_::_::_::_=>exact .fail
theorem HG{o r:Ex}{x a:PC}{n:PX}{b:List PC}{j i:Ro}(q:sEq n "get"=Pa)(p:(j.endLine==i.line)=Pa)(l:pL x=Pc)(f:(b.all λe=>!aB e)=Pa)(k:b.length<20)(c:aB a=Pc)(t:QE g m o x)(s:QA g m r (a::b)):QE g m (.pH o r) (.Call (.Attribute x n j) (a::b) [] i):=λv X F h=>by
 obtain rfl:=bE q;have hu:=h.un;exact(Dd (Dq (by omega) h.hP h.hw) PySem.F.plainAttrs_dict Sn PySem.F.type_dict_get (t v X F h) (s v X F h) (iY l) p (Ll c f k) (aO c) (dI f)).ref λw=>aa (.refl _) λd=>av (λz=>z) (aa (.refl _) λas=>aa (.of_eq (c6 as)) λu=>AG d u)
theorem Ln{i:Nat}{x:PX}{p:Ro}(e:cL m x=Pa)(c:isAt g.gn i x=Pa):QE g m (.kM i) (.Name x p):=λv X F h=>by
 obtain⟨k,j,l⟩:=h.gl e;cases a:v.kM i with
 |none=>
  refine(DE.stuck h.hK).ref λb=>?_;show Ref (T.get (v.kM i)).aC _;rw[a];exact .refl _|some d=>
  obtain⟨u,w,f,r,hi⟩:=h.co i x d (eO c) a;refine(Am k f r hi j h.hK).ref λb=>?_;show Ref (T.get (v.kM i)).aC _;rw[a];exact .refl _
theorem HH(d:D)(ds:List D):Ref (DH d ds).aC (Ak d ds):=by
 cases d<;>first|exact .fail|skip
 match ds with
 |[]=>exact .fail|[x]=>exact av (λz=>by
   rw[Pp]at z;exact⟨vq z.1,ji z.2⟩) (aP λ_=>.refl _)|_::_::_=>exact .fail
theorem Lp{i:Nat}{r:Ex}{y n:PX}{a:PC}{np A j:Ro}(G:sEq n "index"=Pa)(E:(A.endLine==j.line)=Pa)(s:isAt g.gn i y=Pa)(D:cL m y=Pa)(C:aB a=Pc)(I:QA g m r [a]):QE g m (.Jt i r) (.Call (.Attribute (.Name y np) n A) [a] [] j):=λv X F h=>by
 obtain rfl:=bE G;have t:PL [a] X.env=(Pc,Rz a X.env)::PL [] X.env:=aO C;obtain⟨P,O,S⟩:=h.gl D;cases e:v.kM i with
 |none=>
  refine(DE.stuck h.hK).ref λq=>?_;show Ref (T.get (v.kM i)>>=_).aC _;rw[e];exact .fail|some d=>
  obtain⟨u,w,z,k,hi⟩:=h.co i y d (eO s) e;cases f:jR d with
  |false=>
   refine(DE.stuck h.hK).ref λq=>?_;show Ref (T.get (v.kM i)>>=_).aC _;rw[e];show Ref (T.need (jR d)>>=_).aC _;rw[f];exact .fail|true=>
   obtain⟨b,o,hb,lk,M,L⟩:=h.ct i y d (eO s) e f;rw[z]at hb;cases hb;have l:∀H,H F.p≠Pb->X.K.lookup F.p=Pb->Is F.toFb H (.ref b) d:=λH N J=>by
    have:=hi H N J;cases d<;>first|cases f|skip
    simp only[Is]at this⊢;obtain⟨R,B,rfl,r⟩:=this;cases(show PQ b=PQ R from k);exact⟨_,B,rfl,r⟩
   have c:((RR j (PL [a] X.env)).all (λx=>!x.1)&&(WV j (UP [] X.env)).all (λx=>x.1.isSome)&&decide ([a].length+([]:List TC).length+(if([]:List TC).isEmpty then 0 else 1)<30))=Pa:=by rw[t];rfl
   refine(Hv P z O l lk M L (I v X F h) (iY (by rfl)) E c t rfl).ref λq=>?_;show Ref (T.get (v.kM i)>>=_).aC _;rw[e];show Ref (T.need (jR d)>>=_).aC _;rw[f];exact aa (.refl _) λas=>aa (.of_eq (c6 as)) λQ=>HH d Q
variable{own:List PX}{js:List Nat}{sc:RQ}{tg tg2:Tg}{it c it2 c2 elt ke ve:Ex}{t i t2 i2 x y:PC}{ifs ifs2:List PC}{p:Ro}
theorem NF(d:sr m own js sc=Pa)(e:bX i=Pc)(hi:QI g m it t i)(f:QG g (d8 m own (cy m js) sc) tg t)(k:QC g (d8 m own (cy m js) sc) c ifs)(j:QE g (d8 m own (cy m js) sc) elt x):QU g m (.lc own js tg it c elt) (.ListComp x [⟨t,i,ifs,0⟩] sc p):=λv X F h=>by
 obtain⟨b1,q,o,n⟩:=AD h d;exact(zW own (cy m js) js h.calm b1 q o n (hi v X F h) (λa cl C b s H=>(f _ _ _ (h.ee d a cl C b s H)).su) (λa cl C b s H=>(k _ _ _ (h.ee d a cl C b s H)).calm) (λa cl C b s H=>(j _ _ _ (h.ee d a cl C b s H)).calm) (jS e _)).ref λu=>aa (.refl _) λl=>aa (mq l _) λr=>.refl _
theorem AH{d b:ag->T D}(a:List D×List D)(ρ:ag):Ref (sf d b a ρ).aC (Ah (λρ=>(d ρ).aC) (λρ=>(b ρ).aC) a ρ):=aa (.refl _) λx=>aa (.refl _) λy=>av (λz=>by
  rw[Pp]at z;exact⟨cY z.1,of_decide_eq_true z.2⟩) (.refl _)
theorem NG(d:sr m own js sc=Pa)(j:bX i=Pc)(hi:QI g m it t i)(n:QG g (d8 m own (cy m js) sc) tg t)(o:QC g (d8 m own (cy m js) sc) c ifs)(l:QE g (d8 m own (cy m js) sc) ke x)(k:QE g (d8 m own (cy m js) sc) ve y):QU g m (.dc own js tg it c ke ve) (.DictComp x y [⟨t,i,ifs,0⟩] sc p):=λv X F h=>by
 obtain⟨b1,z,w,u⟩:=AD h d;have hu:X.A.units+2<Q_:=by have:=h.un;omega
 exact(Ai own (cy m js) js h.calm hu b1 z w u (hi v X F h) (λa cl C b s H=>(n _ _ _ (h.ee d a cl C b s H)).su) (λa cl C b s H=>(o _ _ _ (h.ee d a cl C b s H)).calm) (λa cl C b s H=>(l _ _ _ (h.ee d a cl C b s H)).calm) (λa cl C b s H=>(k _ _ _ (h.ee d a cl C b s H)).calm) (jS j _) h.hP h.hw).ref λf=>aa (.refl _) λq=>aa (jT (λe f=>AH e f) _ q _) λr=>.refl _
theorem HJ{i:Nat}{a:Ex}{e:PC}(ha:QT g m a e):QT g m (.iH i a) e:=λv X F h=>((ha v X F h).iH i).ref λb=>.refl _
theorem AI{a b:Ex}{x y:PC}{r:List PC}{p:Ro}(ha:QT g m a x)(hb:QW g m b (.BoolOp .And (y::r) p)):QW g m (.pG a b) (.BoolOp .And (x::y::r) p):=λv X F h=>(Gx (ha v X F h) (hb v X F h)).ref λd=>aa (.refl _) λb=>by cases b<;>exact .refl _
theorem E4{a b:Ex}{x y:PC}{r:List PC}{p:Ro}(ha:QT g m a x)(hb:QW g m b (.BoolOp .Or (y::r) p)):QW g m (.Ar a b) (.BoolOp .Or (x::y::r) p):=λv X F h=>(Kh (ha v X F h) (hb v X F h)).ref λd=>aa (.refl _) λb=>by cases b<;>exact .refl _
theorem AJ{a:Ex}{o:BoolOp}{x:PC}{p:Ro}(ha:QT g m a x):QW g m (.d7 a) (.BoolOp o [x] p):=λv X F h=>by cases o with
 |And=>exact CH (ha v X F h)|Or=>exact Gw (ha v X F h)
theorem HK{ex:Ex}{e:PC}(h:QW g m ex e):QT g m ex e:=λv X F z=>(h v X F z).dt
theorem HL{a:Ex}{x:PC}{p:Ro}(ha:QT g m a x):QT g m (.uo a) (.UnaryOp .Not x p):=λv X F h=>(Gy (ha v X F h)).ref λb=>aa (.refl _) λ_=>.refl _
theorem Lq{a:Ex}{e:PC}(q:pN e=Pa)(ha:QE g m a e):QT g m (.EX a) e:=λv X F h=>(Hg (ha v X F h) λw=>ur q X.env w).ref λb=>aa (.refl _) λd=>.get
theorem HM{o o':UO}{a b:Ex}{x y:PC}{p:Ro}(q:o'=o)(e:bX y=Pc)(ha:QE g m a x)(hb:QE g m b y):QT g m (.aW o a b) (.Compare x [o'] [y] p):=by
 subst q;exactλv X F h=>(Gi (pO h.un h.hP h.hw o') (ha v X F h) (hb v X F h) (mo e o')).ref λf=>by
  rw[M.bind_assoc];refine aa (.refl _) λ_=>?_;rw[M.bind_assoc];exact aa (.refl _) λ_=>aa (.refl _) λd=>jw d
theorem HN{e:PC}:QT g m .bad e:=λv X F h=>DT.stuck h.hK
theorem HP{e:PC}:QW g m .bad e:=λv X F h=>⟨h.hK,λw a s b H Q I⟨d,k,S,z⟩=>z.elim⟩
theorem Lr:QC g m .yes []:=λv X F h=>(zE h.hK).ref λa=>.refl _
theorem Lu{a:Ex}{e:PC}(ha:QT g m a e):QC g m (.d7 a) [e]:=λv X F h=>zF (ha v X F h)
theorem NH:QA g m .nil []:=λv X F h=>(Gz h.hK).ref λa=>.refl _
theorem NJ{a r:Ex}{e:PC}{b:List PC}(q:aB e=Pc)(ha:QE g m a e)(d:QA g m r b):QA g m (.cons a r) (e::b):=λv X F h=>(CI (ha v X F h) (d v X F h) (aO q)).ref λf=>aa (.refl _) λ_=>aa (.refl _) λ_=>.refl _
theorem NL{i:Nat}{r:Ex}{x:PX}{p:Ro}{a:List PC}(q:dE m i x=Pa)(b:QA g m r a):QA g m (.feed i r) (.Name x p::a):=λv X F h=>by
 obtain⟨j,f,e,d⟩:=h.AA q;exact(CJ i (b v X F h) j f e d rfl).ref λk=>av xY (aa (.refl _) λ_=>.refl _)
theorem Lv{r:Ex}{x:PX}{t a:PC}{p k:Ro}(f:sEq x "range"=Pa)(e:cL m x=Pa)(b:aB a=Pc)(l:QA g m r [a]):QI g m (.fP r) t (.Call (.Name x p) [a] [] k):=λv X F h=>by
 obtain rfl:=bE f;refine(xy (h.bl _ (HD rfl)) (l v X F h) (h.gl e).1 (aO b)).ref λo=>aa (.refl _) λas=>aa (.of_eq (c6 as)) λn=>?_;match n with
 |[]=>exact .fail|[d]=>exact aa (bg d) λj=>av (λz=>by simp only[Pp,decide_eq_true_eq]at z;exact z) (.refl _)|_::_::_=>exact .fail
theorem Lw{r:Ex}{x:PX}{a:PC}{b:List PC}{k:Nat}{p n l:Ro}(j:sEq x "enumerate"=Pa)(f:cL m x=Pa)(e:aB a=Pc)(o:QA g m r [a]):QI g m (.As r) (.Tuple b k l) (.Call (.Name x p) [a] [] n):=λv X F h=>by
 obtain rfl:=bE j;refine(CV (h.bl _ (HD rfl)) (o v X F h) (h.gl f).1 (aO e)).ref λs=>aa (.refl _) λas=>aa (.of_eq (c6 as)) λq=>?_;match q with
 |[]=>exact .fail|[d]=>cases d<;>first|exact .refl _|exact .fail
 |d::_::_=>cases d<;>exact .fail
theorem Lx{a:Ex}{t e:PC}(ha:QE g m a e):QI g m (.ba a) t e:=λv X F h=>(De (ha v X F h)).ref λb=>aa (.refl _) λd=>.get
theorem HQ{t e:PC}:QI g m .bad t e:=λv X F h=>DI.stuck h.hK
end
noncomputable def OK{g:eN}{m:MC}{own:List PX}{js:List Nat}{tg:Tg}{it c e d:Ex}{gs:List UN}{x y:PC}{sc:RQ}{p:Ro}(hi:∀t i,Ch (QI g m it t i))(o:∀l,Ch (QC g (d8 m own (cy m js) sc) c l))(k:Ch (QE g (d8 m own (cy m js) sc) e x))(j:Ch (QE g (d8 m own (cy m js) sc) d y)):Ch (QU g m (.dc own js tg it c e d) (.DictComp x y gs sc p)):=match gs with
 |[⟨t,i,a,0⟩]=>(cb (sr m own js sc)).b λh=>(cn (bX i)).b λf=>(hi t i).b λv=>(cG g (d8 m own (cy m js) sc) tg t).b λu=>(o a).b λs=>k.b λr=>j.b λq=>.y (NG h f v u s r q)|_=>.n
noncomputable def Og{g:eN}{m:MC}{own:List PX}{js:List Nat}{tg:Tg}{it c a:Ex}{gs:List UN}{x:PC}{sc:RQ}{p:Ro}(hi:∀t i,Ch (QI g m it t i))(j:∀l,Ch (QC g (d8 m own (cy m js) sc) c l))(h:Ch (QE g (d8 m own (cy m js) sc) a x)):Ch (QU g m (.lc own js tg it c a) (.ListComp x gs sc p)):=match gs with
 |[⟨t,i,d,0⟩]=>(cb (sr m own js sc)).b λf=>(cn (bX i)).b λe=>(hi t i).b λr=>(cG g (d8 m own (cy m js) sc) tg t).b λq=>(j d).b λo=>h.b λk=>.y (NF f e r q o k)|_=>.n
noncomputable def Ch.ue{g:eN}{m:MC}{ex:Ex}{e:PC}(c:Ch (QU g m ex e)):Ch (QE g m ex e):=c.b λh=>.y λv X F z=>(h v X F z).de
mutual
noncomputable def cE(g:eN):(m:MC)->(ex:Ex)->(e:PC)->Ch (QE g m ex e)
 |m,.var i,e=>match e with
  |.Name x _=>(cb (dE m i x)).b λq=>.y (K8 q)|_=>.n
 |m,.cst d,e=>match e with
  |.Constant c _ _=>(cK d c).b λh=>.y λv X F z=>(h X F z.hK _ _).ref λP=>.refl _|_=>.n
 |m,.op o a b,e=>match e with
  |.BinOp x D y _=>(cd (D=o)).b λq=>(cE g m a x).b λh=>(cE g m b y).b λA=>.y (NC q h A)|_=>.n
 |m,.neg a,e=>match e with
  |.UnaryOp .USub x _=>(cE g m a x).b λh=>.y (K9 h)|_=>.n
 |m,.cmp o a b,e=>match e with
  |.Compare x [D] [y] _=>(cd (D=o)).b λq=>(cn (bX y)).b λj=>(cE g m a x).b λh=>(cE g m b y).b λA=>.y (K_ q j h A)|_=>.n
 |m,.and a b,e=>match e with
  |.BoolOp .And (x::y::r) p=>(cE g m a x).b λh=>(cE g m b (.BoolOp .And (y::r) p)).b λA=>.y (La h A)|_=>.n
 |m,.one a,e=>match e with
  |.BoolOp _ [x] _=>(cE g m a x).b λh=>.y (Lb h)|_=>.n
 |m,.not a,e=>match e with
  |.UnaryOp .Not x _=>(cE g m a x).b λh=>.y (Lc h)|_=>.n
 |m,.tup r,e=>match e with
  |.Tuple s _ _=>(cA g m r s).b λh=>.y (Ld h)|_=>.n
 |m,.lst r,e=>match e with
  |.List s _=>(cA g m r s).b λh=>.y (Le h)|_=>.n
 |m,.idx a b,e=>match e with
  |.Subscript x y _=>(cn (pM y)).b λq=>(cE g m a x).b λh=>(cE g m b y).b λA=>.y (Lf q h A)|_=>.n
 |m,.bi f r,e=>match e with
  |.Call (.Name x _) (a::s) [] _=>(cb (sEq x (iN f))).b λj=>(cb (cL m x)).b λk=>(cb (s.all λe=>!aB e)).b λw=>(cn (aB a)).b λu=>(cA g m r (a::s)).b λh=>.y (ND j k w u h)|_=>.n
 |m,.call f r,e=>match e with
  |.Call (.Name x _) (a::s) [] _=>(cb (isAt g.dn f x)).b λj=>(cb (cL m x)).b λk=>(cb (s.all λe=>!aB e)).b λw=>(cn (aB a)).b λu=>(cA g m r (a::s)).b λh=>.y (HF j k w u h)|_=>.n
 |m,.Jr Ty a,e=>match e with
  |.Call (.Name x _) [y,.Name t _] [] _=>(cd (Ry t=O7 (.type Ty))).b λK=>(cb (sEq x "isinstance")).b λj=>(cb (dF.contains t)).b λk=>(cb (cL m x)).b λw=>(cb (cL m t)).b λu=>(cn (aB y)).b λC=>(cE g m a y).b λh=>.y (Lh K j k w u C h)|_=>.n
 |m,.Js c a,e=>match e with
  |.Call (.Name x _) [y,.Name t _] [] _=>(cb (sEq x "isinstance")).b λj=>(cb (isAt g.cn c t)).b λk=>(cb (cL m x)).b λw=>(cb (cL m t)).b λu=>(cn (aB y)).b λC=>(cE g m a y).b λh=>.y (Li j k w u C h)|_=>.n
 |m,.lc own B tg it c G,e=>match e with
  |.ListComp x gs sc p=>(Og (tg:=tg) (gs:=gs) (p:=p) (λt i=>cI g m it t i) (λl=>cC g (d8 m own (cy m B) sc) c l) (cE g (d8 m own (cy m B) sc) G x)).ue|_=>.n
 |m,.pH o r,e=>match e with
  |.Call (.Attribute x n I) (a::s) [] H=>(cb (sEq n "get")).b λj=>(cb (I.endLine==H.line)).b λk=>(cn (pL x)).b λw=>(cb (s.all λe=>!aB e)).b λu=>(cd (s.length<20)).b λC=>(cn (aB a)).b λE=>(cE g m o x).b λh=>(cA g m r (a::s)).b λA=>.y (HG j k w u C E h A)|_=>.n
 |m,.kM i,e=>match e with
  |.Name x _=>(cb (cL m x)).b λq=>(cb (isAt g.gn i x)).b λk=>.y (Ln q k)|_=>.n
 |m,.K0 o D a b c,e=>match e with
  |.Compare x [p,M] [y,z] _=>(cd (p=o)).b λq=>(cd (M=D)).b λL=>(cn (bX z)).b λj=>(cE g m a x).b λh=>(cE g m b y).b λA=>(cE g m c z).b λO=>.y (Lg q L j h A O)|_=>.n
 |m,.dc own B tg it c N J,e=>match e with
  |.DictComp x y gs sc p=>(OK (tg:=tg) (gs:=gs) (p:=p) (λt i=>cI g m it t i) (λl=>cC g (d8 m own (cy m B) sc) c l) (cE g (d8 m own (cy m B) sc) N x) (cE g (d8 m own (cy m B) sc) J y)).ue|_=>.n
 |m,.Jt i r,e=>match e with
  |.Call (.Attribute (.Name y _) n I) [a] [] H=>(cb (sEq n "index")).b λj=>(cb (I.endLine==H.line)).b λk=>(cb (isAt g.gn i y)).b λw=>(cb (cL m y)).b λu=>(cn (aB a)).b λE=>(cA g m r [a]).b λh=>.y (Lp j k w u E h)|_=>.n
 |_,.bad,_=>.y Lj|m,.iH i a,e=>(cE g m a e).b λh=>.y (Lk h)|_,_,_=>.n
noncomputable def cW(g:eN):(m:MC)->(ex:Ex)->(e:PC)->Ch (QW g m ex e)
 |m,.pG a b,e=>match e with
  |.BoolOp .And (x::y::r) p=>(cT g m a x).b λh=>(cW g m b (.BoolOp .And (y::r) p)).b λc=>.y (AI h c)|_=>.n
 |m,.Ar a b,e=>match e with
  |.BoolOp .Or (x::y::r) p=>(cT g m a x).b λh=>(cW g m b (.BoolOp .Or (y::r) p)).b λc=>.y (E4 h c)|_=>.n
 |m,.d7 a,e=>match e with
  |.BoolOp _ [x] _=>(cT g m a x).b λh=>.y (AJ h)|_=>.n
 |_,.bad,_=>.y HP|_,_,_=>.n
noncomputable def cT(g:eN):(m:MC)->(ex:Ex)->(e:PC)->Ch (QT g m ex e)
 |m,.pG a b,e=>match e with
  |.BoolOp .And (x::y::r) p=>(cT g m a x).b λh=>(cW g m b (.BoolOp .And (y::r) p)).b λc=>.y (HK (AI h c))|_=>.n
 |m,.Ar a b,e=>match e with
  |.BoolOp .Or (x::y::r) p=>(cT g m a x).b λh=>(cW g m b (.BoolOp .Or (y::r) p)).b λc=>.y (HK (E4 h c))|_=>.n
 |m,.d7 a,e=>match e with
  |.BoolOp _ [x] _=>(cT g m a x).b λh=>.y (HK (AJ h))|_=>.n
 |m,.uo a,e=>match e with
  |.UnaryOp .Not x _=>(cT g m a x).b λh=>.y (HL h)|_=>.n
 |m,.EX a,e=>(cb (pN e)).b λq=>(cE g m a e).b λh=>.y (Lq q h)|m,.aW o a b,e=>match e with
  |.Compare x [f] [y] _=>(cd (f=o)).b λq=>(cn (bX y)).b λd=>(cE g m a x).b λh=>(cE g m b y).b λc=>.y (HM q d h c)|_=>.n
 |m,.iH i a,e=>(cT g m a e).b λh=>.y (HJ h)|_,.bad,_=>.y HN|_,_,_=>.n
noncomputable def cC(g:eN):(m:MC)->(ex:Ex)->(c:List PC)->Ch (QC g m ex c)
 |_,.yes,c=>match c with
  |[]=>.y Lr|_=>.n
 |m,.d7 a,c=>match c with
  |[e]=>(cT g m a e).b λh=>.y (Lu h)|_=>.n
 |_,_,_=>.n
noncomputable def cA(g:eN):(m:MC)->(ex:Ex)->(c:List PC)->Ch (QA g m ex c)
 |_,.nil,c=>match c with
  |[]=>.y NH|_=>.n
 |m,.cons a r,c=>match c with
  |e::c=>(cn (aB e)).b λq=>(cE g m a e).b λh=>(cA g m r c).b λd=>.y (NJ q h d)|[]=>.n
 |m,.feed i r,c=>match c with
  |.Name x _::c=>(cb (dE m i x)).b λq=>(cA g m r c).b λh=>.y (NL q h)|_=>.n
 |_,_,_=>.n
noncomputable def cI(g:eN):(m:MC)->(ex:Ex)->(t e:PC)->Ch (QI g m ex t e)
 |m,.fP r,_,e=>match e with
  |.Call (.Name x _) [a] [] _=>(cb (sEq x "range")).b λf=>(cb (cL m x)).b λd=>(cn (aB a)).b λc=>(cA g m r [a]).b λh=>.y (Lv f d c h)|_=>.n
 |m,.As r,t,e=>match t,e with
  |.Tuple _ _ _,.Call (.Name x _) [a] [] _=>(cb (sEq x "enumerate")).b λf=>(cb (cL m x)).b λd=>(cn (aB a)).b λc=>(cA g m r [a]).b λh=>.y (Lw f d c h)|_,_=>.n
 |m,.ba a,_,e=>(cE g m a e).b λh=>.y (Lx h)|_,.bad,_,_=>.y HQ|_,_,_,_=>.n
end
noncomputable def AK(sc:RQ):ScopeKind:=if sc.kind.isAnnotationScope then .function else sc.kind
noncomputable def jU:PC->Option RQ
 |.ListComp _ _ s _=>O7 s|.SetComp _ _ s _=>O7 s|.DictComp _ _ _ s _=>O7 s|_=>Pb
noncomputable def sv(m:MC)(x:PX)(a:Ro)(e:PC):Bool:=match jU e with
 |none=>Pc|some sc=>AK m.sc==.function&&m.sc.names.lookup x==O7 .local&&a.line==e.pos.line&&!(sc.names.any λ(n,k)=>n==x&&(k==.local||k==.cell))
theorem swap_eq{m:MC}{env:U_}(h:env.scope=m.sc)(x:PX)(a:Ro)(l:Nat)(e:PC):RW e (O7 (.Name x a)) l env=pure (sv m x a e):=by
 unfold RW sv Env.blockKind YA AK;rw[h];cases e<;>rfl
theorem sx{a:List PC}{k:Nat}{p:Ro}{env:U_}(l:Nat)(e:PC):VH [.Tuple a k p] e l env=pure Pc:=by
 show RW e (O7 (.Tuple a k p)) l env=pure Pc;unfold RW;cases e<;>rfl
noncomputable def tF(sc:RQ):U_:={scope:=sc,locals:=0,globals:=0,cells:=[]}
theorem sy{env c:U_}(h:env.scope=c.scope)(a:List PC)(b:PC):RX a b env=RX a b c:=by
 unfold RX Env.blockKind YA;rw[h]
noncomputable def cN:(t:Vy (Option (List PX)))->Ch (t=pure Pb)
 |.pure Pb=>.y rfl|_=>.n
noncomputable def OL(x y:PX):(t:Vy (Option (List PX)))->Ch (t=pure (O7 [x,y]))
 |.pure (O7 [a,b])=>(cb (sEq a x)).b λd=>(cb (sEq b y)).b λc=>.y (by rw[bE d,bE c];rfl)|_=>.n
noncomputable def NM(x:PX)(k:Sj)(l:List (PX×Sj)):Ch (sj x l=O7 k):=match sj x l with
 |some j=>(cd (j=k)).b λq=>.y (by rw[q])|none=>.n
section
variable{g:eN}{v:Ev}{m:MC}{X:Cx}{F:Fx}
theorem pR{b:D->ag->T ag}{body:ag->T Fl}:∀(ds:List D)(ρ:ag),Ref (fA b body ds ρ).aC (xx (λd ρ=>(b d ρ).aC) (λρ=>(body ρ).aC) ds ρ)
 |[],ρ=>.refl _|d::ds,ρ=>aa (.refl _) λc=>aa (.refl _) λe=>by cases e with
  |nx a=>exact pR ds a|ct a=>exact pR ds a|bk a=>exact .refl _|rt r=>exact .refl _
theorem jV{c:ag->T Bool}{body:ag->T Fl}:∀(n:Nat)(ρ:ag),Ref (dR c body n ρ).aC (fx (λρ=>(c ρ).aC) (λρ=>(body ρ).aC) n ρ)
 |0,ρ=>.refl _|n+1,ρ=>aa (.refl _) λb=>by cases b with
  |true=>
   refine aa (.refl _) λd=>?_;cases d with
   |nx a=>exact jV n a|ct a=>exact jV n a|bk a=>exact .refl _|rt r=>exact .refl _
  |false=>exact .refl _
theorem XC.OM(h:XC g v m X F){pn:List (Pg×Qx)}{xe:O_->Pe->Prop}{a:Xc->Nat->Prop}{Hs:Hp}{ks:Nat}(b:yj (X.as X.A Pa pn xe) {F with E:=a,Hs:=Hs,ks:=ks}):XC g v m (X.as X.A Pa pn xe) {F with E:=a,Hs:=Hs,ks:=ks}:=⟨h.hK,h.hP,h.hw,h.hN,h.nd,h.sc,rfl,h.un,h.fn,h.fo,h.Nx,h.bl,h.df,b,h.top,h.cl,h.E3,h.gd,h.sb,h.xH,h.co,h.ct,h.code⟩
theorem pS(b:Xc->T Fl):∀(t:T Fl),(t.kB b).aC=xD t.aC (λx=>(b x).aC)
 |.ok a=>rfl|.exc x=>rfl|.stuck=>rfl|.draw n k=>by
  show(T.jd n>>=λi=>((k i).kB b).aC)=xD (T.jd n>>=λi=>(k i).aC) _;have:(λi=>((k i).kB b).aC)=λi=>xD (k i).aC (λx=>(b x).aC):=by funext i;exact pS b (k i)
  rw[this];rfl|.perm l k=>by
  show((M.any λi=>i.Perm l)>>=λi=>((k i).kB b).aC)=xD ((M.any λi=>i.Perm l)>>=λi=>(k i).aC) _;have:(λi=>((k i).kB b).aC)=λi=>xD (k i).aC (λx=>(b x).aC):=by funext i;exact pS b (k i)
  rw[this];rfl
theorem AL(h:XC g v m X F)(P:Pg)(i y:Nat)(hd:Hd)(x:Xc):Ref (mi v P i y hd x).aC (rp X.K P (O7 i) y hd x):=by
 unfold mi rp;split
 .rename_i c nm ex;try rw[ex]
  refine av (λq=>h.sb c P Pa ?_) (aP λd=>.refl _);split at q;.assumption
  .cases q
 .exact .fail
theorem T.gr{d c e:Type}(f:d->T c)(b:c->T e):∀(t:T d),((t>>=f)>>=b)=(t>>=λa=>f a>>=b)
 |.ok a=>rfl|.exc x=>rfl|.stuck=>rfl|.draw n k=>by
  show T.draw n (λi=>((k i>>=f)>>=b))=T.draw n (λi=>(k i>>=λa=>f a>>=b));congr 1;funext i;exact T.gr f b (k i)|.perm l k=>by
  show T.perm l (λi=>((k i>>=f)>>=b))=T.perm l (λi=>(k i>>=λa=>f a>>=b));congr 1;funext i;exact T.gr f b (k i)
theorem fg(d:D):Ref (ju d).aC (lW d):=by cases d<;>first|exact .refl _|exact .fail
theorem uv(d:D):Ref (Aw d).aC (uk d):=by cases d<;>first|exact .refl _|exact .fail
theorem x4(d:D):Ref (vW d).aC (vC d):=by cases d<;>first|exact .refl _|exact .fail
theorem vY{e:PC}(h:(jU e).isSome=Pc)(l:Nat)(env:U_)(t:Option PC):RW e t l env=pure Pc:=by
 unfold RW;cases e<;>first|rfl|cases h
end
noncomputable abbrev QS(g:eN)(m:MC)(s:bC)(st:RP):Prop:=∀v X F,Va (Py X.prog X.w) X.A X.env X.xe->XC g v m X F->DS X F st (λa=>(ay v s a).aC)
noncomputable abbrev AM(g:eN)(m:MC)(s:bC)(a:List RP):Prop:=∀v X F,Va (Py X.prog X.w) X.A X.env X.xe->XC g v m X F->xt X F a (λb=>(ay v s b).aC)
noncomputable abbrev QH(g:eN)(m:MC)(hd:Hd)(e:PC):Prop:=(∀t l env,RW e t l env=pure Pc)/\∀v X F,XC g v m X F->∀A pn xe,DE (X.as A Pc pn xe) F e (λa=>M.get (Mt hd a))
section
variable{g:eN}{m:MC}
theorem XC.sk{v:Ev}{X:Cx}{F:Fx}(h:XC g v m X F):X.N.Nodup:=by rw[h.hN];exact h.nd
theorem HR{j:Nat}{x:PX}{p:Ro}(q:dE m j x=Pa):QH g m (.slot j) (.Name x p):=⟨λ_ _ _=>rfl,λv X F h A pn xe=>by
 obtain⟨d,c,b,a⟩:=h.AA q;exact zf (X:=X.as A Pc pn xe) j d c b a h.hK⟩
theorem Ly{d:D}{c:Const}{k:Nat}{p:Ro}(q:QK d c):QH g m (.cst d) (.Constant c k p):=⟨λ_ _ _=>rfl,λv X F h A pn xe=>q (X.as A Pc pn xe) F h.hK k p⟩
noncomputable def cH(g:eN)(m:MC):(hd:Hd)->(e:PC)->Ch (QH g m hd e)
 |.slot j,e=>match e with
  |.Name x _=>(cb (dE m j x)).b λq=>.y (HR q)|_=>.n
 |.cst d,e=>match e with
  |.Constant c _ _=>(cK d c).b λq=>.y (Ly q)|_=>.n
theorem Lz{tg:Tg}{e:Ex}{a:List PC}{k:Nat}{p b:Ro}{x:PC}(c:QG g m tg (.Tuple a k b))(f:QE g m e x)(q:RX [.Tuple a k b] x (tF m.sc)=pure Pb):QS g m (.asg tg e) (.Assign [.Tuple a k b] x p):=λv X F _ h=>(GH (f v X F h) (c v X F h) (sx _ _) ((sy (by rw[h.sc];rfl) _ _).trans q) rfl).ref λi=>aa (.refl _) λd=>aa (.refl _) λ_=>.refl _
theorem HS{i:Nat}{e:Ex}{n:PX}{p b:Ro}{x:PC}(c:dq m i n=Pa)(f:QU g m e x)(hs:sv m n b x=Pa):QS g m (.set i e) (.Assign [.Name n b] x p):=λv X F _ h=>by
 obtain⟨l,k,j⟩:=h.loc c;have a:=swap_eq (m:=m) h.sc n b p.line x;rw[hs]at a;exact(C4 i h.sk (f v X F h) l k a j).ref λo=>aa (.refl _) λd=>.refl _
theorem LA{i:Nat}{e:Ex}{n:PX}{p b:Ro}{x:PC}(c:dq m i n=Pa)(f:QE g m e x)(hs:sv m n b x=Pc):QS g m (.set i e) (.Assign [.Name n b] x p):=λv X F _ h=>by
 obtain⟨l,k,j⟩:=h.loc c;have a:=swap_eq (m:=m) h.sc n b p.line x;rw[hs]at a;exact(zx i h.sk (f v X F h) l k a j).ref λo=>aa (.refl _) λd=>.refl _
theorem LB{e:Ex}{x:PC}{p:Ro}(a:QE g m e x):QS g m (.ret e) (.Return (O7 x) p):=λv X F _ h=>(GJ (a v X F h)).ref λb=>aa (.refl _) λd=>.refl _
theorem LC{c:Ex}{a b:bC}{x:PC}{xs d:List RP}{p:Ro}(f:QT g m c x)(ha:AM g m a xs)(hb:AM g m b d):QS g m (.iff c a b) (.If x xs d p):=λv X F e h=>(Kq (f v X F h) (ha v X F e h) (hb v X F e h)).ref λi=>aa (.refl _) λz=>by cases z<;>exact .refl _
theorem LD{tg:Tg}{it:Ex}{b:bC}{t i:PC}{xs:List RP}{p:Ro}(d:bX i=Pc)(hi:QI g m it t i)(e:QG g m tg t)(hb:AM g m b xs):QS g m (.dm tg it b) (.For t i xs [] p):=λv X F a h=>(GK a h.calm (hi v X F h) (e v X F h) (hb v X F a h) (jS d _)).ref λc=>aa (.refl _) λf=>pR f c
theorem LF{c:Ex}{b:bC}{x:PC}{xs:List RP}{p:Ro}(e:QT g m c x)(hb:AM g m b xs):QS g m (.HB c b) (.While x xs [] p):=λv X F a h=>(zA a (e v X F h) (hb v X F a h)).ref λd k Q E z=>⟨b5,jV b5 d k Q E z⟩
theorem DK{c:Nat}{r:Ex}{x:PX}{a:PC}{i:List PC}{p q o:Ro}(n:isAt g.cn c x=Pa)(l:cL m x=Pa)(k:(i.all λe=>!aB e)=Pa)(j:aB a=Pc)(s:QA g m r (a::i)):QS g m (.raise c r) (.Raise (O7 (.Call (.Name x p) (a::i) [] q)) Pb o):=λv X F _ h=>by
 obtain⟨u,t,w⟩:=h.gl l;have d:∀b,ay v (.raise c r) b=T.get (v.cls c)>>=λC=>T.need (v.how C)>>=λ_=>(gK v r b>>=λas=>EZ v C as)>>=λx=>T.exc ⟨x,b⟩:=λb=>by
  show(T.get (v.cls c)>>=λC=>T.need (v.how C)>>=λ_=>gK v r b>>=λas=>EZ v C as>>=λx=>T.exc ⟨x,b⟩)=_;simp only[T.gr]
 cases f:v.cls c with
 |none=>
  refine(DS.stuck h.hK).ref λb=>?_;rw[d,f];exact .fail|some C=>
  have ev:∀b,ay v (.raise c r) b=T.need (v.how C)>>=λ_=>(gK v r b>>=λas=>EZ v C as)>>=λx=>T.exc ⟨x,b⟩:=λb=>by rw[d,f];rfl
  by_cases hw:v.how C=Pa
  .refine(zP h.calm h.xo (s v X F h) u (h.cl c x C (eO n) f) (h.E3 C hw) t (aO j) (dI k)).ref λb=>?_;rw[ev,hw];show Ref ((gK v r b>>=λas=>EZ v C as)>>=λx=>T.exc ⟨x,b⟩:T Fl).aC _;rw[T.bB,T.bB,M.bind_assoc];refine(Ref.refl _).bind λas=>?_;unfold EZ;rw[T.bB,M.bind_assoc];exact(Ref.need of_decide_eq_true).bind λ_=>.refl _
  .refine(DS.stuck h.hK).ref λb=>?_;rw[ev,Bool.eq_false_iff.mpr hw];exact .fail
theorem LG{i j:Nat}{r:Ex}{x y:PX}{a b:PC}{l k pt c p:Ro}{n k2:Nat}(u:isAt m.N i x=Pa)(t:isAt m.N j y=Pa)(s:sj x m.sc.names=O7 .local)(o:sj y m.sc.names=O7 .local)(f:i≠j)(w:QA g m r [a,b])(q:RX [.Tuple [.Name x l,.Name y k] n pt] (.Tuple [a,b] k2 c) (tF m.sc)=pure (O7 [x,y])):QS g m (.par i j r) (.Assign [.Tuple [.Name x l,.Name y k] n pt] (.Tuple [a,b] k2 c) p):=λv X F _ h=>(GI i j h.calm h.sk (w v X F h) f (λpa=>FE h.calm h.sk (h.at_ u) (h.at_ t) f (by rw[<-h.lk];exact s) (by rw[<-h.lk];exact o) pa ((sy (by rw[h.sc];rfl) _ _).trans q) (sx _ _))).ref λA=>aa (.refl _) λas=>aa (.of_eq (c6 as)) λz=>by match z with
  |[]=>exact .fail|[_]=>exact .fail|[d,e]=>exact .refl _|_::_::_::_=>exact .fail
theorem LH{b:bC}{c i y:Nat}{hd:Hd}{body:List RP}{cn n l:PX}{e:PC}{p1 J I H s:Ro}(p:m.all=Pa)(G:isAt g.cn c cn=Pa)(D:cL m cn=Pa)(C:isAt m.N i n=Pa)(d:sj n m.sc.names=O7 .local)(B:dq m y l=Pa)(o:QH g m hd e)(hb:AM g m b body):QS g m (.Au b c i y hd) (.Try body [.ExceptHandler (O7 (.Name cn p1)) (O7 n) [.Assign [.Name l s] e J] I] [] [] H):=λv X F S h=>by
 obtain⟨R,O,U⟩:=h.gl D;have L:=h.at_ C;have r:X.env.scope.names.lookup n=O7 .local:=by rw[<-h.lk];exact d
 obtain⟨w,u,t⟩:=h.loc B;cases j:v.cls c with
 |none=>
  refine(DS.stuck h.hK).ref λa=>?_;show Ref (T.get (v.cls c)>>=λP=>(ay v b a).kB (mi v P i y hd)).aC _;rw[j];exact .fail|some P=>
  refine(zR (i:=i) (y:=y) (hd:=hd) (h.top p).1 (h.top p).2 h.hK h.sk h.calm (λxe pn V Hs ks f M=>hb v _ _ f (h.OM M)) R (h.cl c cn P (eO G) j) O L r w u t (o.1 _ _ _) (λA pn xe=>o.2 v X F h A pn xe) r).ref λa=>?_;show Ref (T.get (v.cls c)>>=λP=>(ay v b a).kB (mi v P i y hd)).aC _;rw[j];show Ref ((ay v b a).kB (mi v P i y hd)).aC _;rw[pS];exactλk Q E z=>(ay v b a).aC.mono (show(ay v b a).aC.run k Q _ from z) (λ_ _ q=>q) λx K q=>AL h P i y hd x K Q E q
theorem LI{st:RP}:QS g m .bad st:=λv X F _ h=>(DS.stuck h.hK).ref λa=>.fail
theorem HU{i:Nat}{r:Ex}{n:PX}{a:List PC}{p b c:Ro}(q:dq m i n=Pa)(d:QA g m r a):QS g m (.kz i r) (.Assign [.Name n b] (.List a c) p):=λv X F _ h=>by
 obtain⟨j,f,e⟩:=h.loc q;exact(C8 i h.sk (d v X F h) j f e).ref λk=>aa (.refl _) λas=>aa (.of_eq (c6 as)) λl=>av of_decide_eq_true (.refl _)
theorem HV{i:Nat}{n:PX}{p a b:Ro}(q:dq m i n=Pa):QS g m (.iG i) (.Assign [.Name n a] (.Dict [] [] b) p):=λv X F _ h=>by
 obtain⟨e,d,c⟩:=h.loc q;exact(C9 i h.sk h.hK e d c).ref λf=>.refl _
theorem LJ{i:Nat}{e:Ex}{x f:PX}{a:PC}{np c b p:Ro}(n:sEq f "append"=Pa)(l:dE m i x=Pa)(k:(c.endLine==b.line)=Pa)(j:aB a=Pc)(o:QE g m e a):QS g m (.app i e) (.Expr (.Call (.Attribute (.Name x np) f c) [a] [] b) p):=λv X F _ h=>by
 obtain rfl:=bE n;obtain⟨t,s,r,q⟩:=h.AA l;exact(G9 i t s r q (o v X F h) k (aO j)).ref λu=>aP λd=>aa (fg d) λw=>aa (.refl _) λy=>av of_decide_eq_true (.refl _)
theorem LK{i:Nat}{k e:Ex}{x:PX}{b a:PC}{np sp p:Ro}(f:dE m i x=Pa)(c:(jU a).isSome=Pc)(j:QE g m k b)(l:QE g m e a):QS g m (.put i k e) (.Assign [.Subscript (.Name x np) b sp] a p):=λv X F _ h=>by
 obtain⟨s,r,q,n⟩:=h.AA f;have hu:X.A.units+2<Q_:=by have:=h.un;omega
 exact(G_ i hu h.hP h.hw s r q n (j v X F h) (l v X F h) (vY c _ _ _)).ref λt=>aa (.refl _) λd=>aP λo=>aa (x4 o) λw=>aa (.refl _) λu=>av (λz=>by
  rw[Pp]at z;exact⟨of_decide_eq_true z.1,cY z.2⟩) (.refl _)
theorem HW{e:Ex}{x:PC}{p:Ro}(q:(jU x).isSome=Pc)(a:QE g m e x):QS g m (.expr e) (.Expr x p):=λv X F _ h=>(CP (a v X F h) (vY q _ _ _)).ref λb=>aa (.refl _) λd=>.refl _
theorem DL{i j:Nat}{n y:PX}{p o np sp:Ro}(l:m.all=Pa)(k:dq m i n=Pa)(f:dE m j y=Pa):QS g m (.vV i j) (.Assign [.Name n o] (.Set [.Name y np] 0 sp) p):=λv X F _ h=>by
 obtain⟨u,t,s⟩:=h.loc k;obtain⟨e,c,b,a⟩:=h.AA f;obtain⟨q,r⟩:=h.code l;exact(Ao i j h.sk h.hK h.hP h.hw r u t s e c b a).ref λw=>aP λd=>aa (bg d) λn=>.refl _
theorem LL{i:Nat}{e:Ex}{x f:PX}{a:PC}{np c b p:Ro}(o:sEq f "add"=Pa)(l:dE m i x=Pa)(k:(c.endLine==b.line)=Pa)(j:aB a=Pc)(q:QE g m e a):QS g m (.add i e) (.Expr (.Call (.Attribute (.Name x np) f c) [a] [] b) p):=λv X F _ h=>by
 obtain rfl:=bE o;obtain⟨u,t,s,r⟩:=h.AA l;exact(Hx i h.hP h.hw u t s r (q v X F h) k (aO j)).ref λy=>aP λd=>aa (uv d) λz=>aa (.refl _) λw=>aa (bg w) λn=>av of_decide_eq_true (.refl _)
theorem s_pop{j i:Nat}{y x f:PX}{c np b a p:Ro}(n:sEq f "pop"=Pa)(l:dq m j y=Pa)(k:dE m i x=Pa)(e:(b.endLine==a.line)=Pa):QS g m (.pop j i) (.Assign [.Name y c] (.Call (.Attribute (.Name x np) f b) [] [] a) p):=λv X F _ h=>by
 obtain rfl:=bE n;obtain⟨r,q,o⟩:=h.loc l;obtain⟨w,u,t,s⟩:=h.AA k;exact(Hb i j h.sk h.hK w u t s r q o e).ref λz=>aP λd=>aa (fg d) λA=>aP λB=>.refl _
theorem HX{i:Nat}{a b:Ex}{n:PX}{x y:PC}{p c f:Ro}(q:dq m i n=Pa)(ha:QE g m a x)(hb:QE g m b y):QS g m (.Av i a b) (.Assign [.Name n c] (.BinOp x .Add y f) p):=λv X F _ h=>by
 obtain⟨l,k,j⟩:=h.loc q;exact(DD i h.sk (ha v X F h) (hb v X F h) l k j).ref λo=>aa (.refl _) λd=>aa (.refl _) λe=>aa (fg d) λs=>aa (fg e) λr=>av of_decide_eq_true (.refl _)
theorem HY{j i:Nat}{e:Ex}{y x f:PX}{a:PC}{l np k c p:Ro}(t:sEq f "pop"=Pa)(s:dq m j y=Pa)(r:dE m i x=Pa)(q:(k.endLine==c.line)=Pa)(o:aB a=Pc)(B:QE g m e a):QS g m (.xW j i e) (.Assign [.Name y l] (.Call (.Attribute (.Name x np) f k) [a] [] c) p):=λv X F _ h=>by
 obtain rfl:=bE t;obtain⟨A,w,u⟩:=h.loc s;obtain⟨G,E,D,C⟩:=h.AA r;exact(DF i j h.sk G E D C A w u (B v X F h) q (aO o)).ref λH=>aP λd=>aa (fg d) λI=>aa (.refl _) λb=>aa (bg b) λn=>av (λz=>by
  rw[Pp,Pp]at z;exact⟨of_decide_eq_true z.1,of_decide_eq_true z.2.1,of_decide_eq_true z.2.2⟩) (aP λb=>.refl _)
theorem DM{i j:Nat}{n y:PX}{b:Bool}{c:Nat}{p q np sp u:Ro}(o:dq m i n=Pa)(l:dE m j y=Pa):QS g m (.kg i j b) (.Assign [.Name n q] (.Dict [O7 (.Name y np)] [.Constant (.bool b) c u] sp) p):=λv X F _ h=>by
 obtain⟨t,s,r⟩:=h.loc o;obtain⟨k,f,e,a⟩:=h.AA l;exact(Aq i j h.sk h.hK h.hP h.hw t s r k f e a b).ref λw=>aP λd=>aa (bg d) λn=>.refl _
theorem NN{i:Nat}{s:bC}{st:RP}(hs:QS g m s st):QS g m (.fz i s) st:=λv X F a h=>((hs v X F a h).fz i).ref λb=>.refl _
theorem ON:AM g m .nil []:=λv X F _ h=>(CQ h.hK).ref λa=>.refl _
theorem OO{s r:bC}{x:RP}{xs:List RP}(hs:QS g m s x)(b:AM g m r xs):AM g m (.cons s r) (x::xs):=λv X F a h=>(zy (hs v X F a h) (b v X F a h)).ref λd=>aa (.refl _) λc=>by cases c<;>exact .refl _
end
noncomputable def cU(g:eN)(m:MC):(ex:Ex)->(e:PC)->Ch (QU g m ex e)
 |.lc own d j it c a,e=>match e with
  |.ListComp x r sc p=>Og (cI g m it) (cC g (d8 m own (cy m d) sc) c) (cE g (d8 m own (cy m d) sc) a x)|_=>.n
 |.bad,_=>.y λv X F h=>⟨h.hK,λb s i H I=>⟨λQ⟨f,k,S,z⟩=>z.elim,λx o l q D _ _⟨f,k,S,z⟩=>z.elim⟩⟩|_,_=>.n
noncomputable def NO(g:eN)(m:MC)(i:Nat)(e:Ex)(n:PX)(c p:Ro)(x:PC):Ch (QS g m (.set i e) (.Assign [.Name n c] x p)):=(cb (dq m i n)).b λq=>match h:sv m n c x with
  |true=>(cU g m e x).b λa=>.y (HS q a h)|false=>(cE g m e x).b λa=>.y (LA q a h)
mutual
noncomputable def cS(g:eN)(m:MC):(s:bC)->(st:RP)->Ch (QS g m s st)
 |.asg G e,st=>match st with
  |.Assign [.Tuple K k E] x _=>(cG g m G (.Tuple K k E)).b λh=>(cE g m e x).b λv=>(cN (RX [.Tuple K k E] x (tF m.sc))).b λq=>.y (Lz h v q)|_=>.n
 |.set i e,st=>match st with
  |.Assign [.Name n E] x p=>NO g m i e n E p x|_=>.n
 |.ret e,st=>match st with
  |.Return (O7 x) _=>(cE g m e x).b λh=>.y (LB h)|_=>.n
 |.iff c a b,st=>match st with
  |.If x A L _=>(cT g m c x).b λh=>(E5 g m a A).b λD=>(E5 g m b L).b λv=>.y (LC h D v)|_=>.n
 |.dm G it b,st=>match st with
  |.For t i A [] _=>(cn (bX i)).b λq=>(cI g m it t i).b λh=>(cG g m G t).b λD=>(E5 g m b A).b λv=>.y (LD q h D v)|_=>.n
 |.HB c b,st=>match st with
  |.While x A [] _=>(cT g m c x).b λh=>(E5 g m b A).b λD=>.y (LF h D)|_=>.n
 |.par i j r,st=>match st with
  |.Assign [.Tuple [.Name x R,.Name y Q] S pt] (.Tuple [a,b] U I) _=>(cb (isAt m.N i x)).b λC=>(cb (isAt m.N j y)).b λl=>(NM x .local m.sc.names).b λd=>(NM y .local m.sc.names).b λu=>(cd (i≠j)).b λB=>(cA g m r [a,b]).b λh=>(OL x y (RX [.Tuple [.Name x R,.Name y Q] S pt] (.Tuple [a,b] U I) (tF m.sc))).b λq=>.y (LG C l d u B h q)|_=>.n
 |.raise c r,st=>match st with
  |.Raise (O7 (.Call (.Name x _) (a::F) [] _)) Pb _=>(cb (isAt g.cn c x)).b λC=>(cb (cL m x)).b λl=>(cb (F.all λe=>!aB e)).b λd=>(cn (aB a)).b λu=>(cA g m r (a::F)).b λh=>.y (DK C l d u h)|_=>.n
 |.Au b c i y hd,st=>match st with
  |.Try body [.ExceptHandler (O7 (.Name cn _)) (O7 n) [.Assign [.Name M _] e _] _] [] [] _=>(cb m.all).b λC=>(cb (isAt g.cn c cn)).b λl=>(cb (cL m cn)).b λd=>(cb (isAt m.N i n)).b λu=>(NM n .local m.sc.names).b λB=>(cb (dq m y M)).b λP=>(cH g m hd e).b λO=>(E5 g m b body).b λh=>.y (LH C l d u B P O h)|_=>.n
 |.bad,_=>.y LI|.kz i r,st=>match st with
  |.Assign [.Name n _] (.List F _) _=>(cb (dq m i n)).b λq=>(cA g m r F).b λh=>.y (HU q h)|_=>.n
 |.iG i,st=>match st with
  |.Assign [.Name n _] (.Dict [] [] _) _=>(cb (dq m i n)).b λq=>.y (HV q)|_=>.n
 |.app i e,st=>match st with
  |.Expr (.Call (.Attribute (.Name x _) f z) [a] [] w) _=>(cb (sEq f "append")).b λq=>(cb (dE m i x)).b λl=>(cb (z.endLine==w.line)).b λd=>(cn (aB a)).b λu=>(cE g m e a).b λh=>.y (LJ q l d u h)|_=>.n
 |.put i k e,st=>match st with
  |.Assign [.Subscript (.Name x _) T _] J _=>(cb (dE m i x)).b λq=>(cn (jU J).isSome).b λu=>(cE g m k T).b λh=>(cE g m e J).b λv=>.y (LK q u h v)|_=>.n
 |.fz _ s,st=>(cS g m s st).b λh=>.y (NN h)|.expr e,st=>match st with
  |.Expr x _=>(cn (jU x).isSome).b λq=>(cE g m e x).b λh=>.y (HW q h)|_=>.n
 |.vV i j,st=>match st with
  |.Assign [.Name n _] (.Set [.Name y _] 0 _) _=>(cb m.all).b λq=>(cb (dq m i n)).b λl=>(cb (dE m j y)).b λd=>.y (DL q l d)|_=>.n
 |.add i e,st=>match st with
  |.Expr (.Call (.Attribute (.Name x _) f z) [a] [] w) _=>(cb (sEq f "add")).b λq=>(cb (dE m i x)).b λl=>(cb (z.endLine==w.line)).b λd=>(cn (aB a)).b λu=>(cE g m e a).b λh=>.y (LL q l d u h)|_=>.n
 |.pop j i,st=>match st with
  |.Assign [.Name y _] (.Call (.Attribute (.Name x _) f z) [] [] w) _=>(cb (sEq f "pop")).b λq=>(cb (dq m j y)).b λl=>(cb (dE m i x)).b λd=>(cb (z.endLine==w.line)).b λu=>.y (s_pop q l d u)|_=>.n
 |.Av i a b,st=>match st with
  |.Assign [.Name n _] (.BinOp x o y _) _=>(cd (o=.Add)).b λH=>(cb (dq m i n)).b λq=>(cE g m a x).b λh=>(cE g m b y).b λv=>.y (by subst H;exact HX q h v)|_=>.n
 |.xW j i e,st=>match st with
  |.Assign [.Name y _] (.Call (.Attribute (.Name x _) f z) [a] [] w) _=>(cb (sEq f "pop")).b λq=>(cb (dq m j y)).b λl=>(cb (dE m i x)).b λd=>(cb (z.endLine==w.line)).b λu=>(cn (aB a)).b λB=>(cE g m e a).b λh=>.y (HY q l d u B h)|_=>.n
 |.kg i j b,st=>match st with
  |.Assign [.Name n _] (.Dict [O7 (.Name y _)] [.Constant (.bool V) _ _] _) _=>(cd (V=b)).b λH=>(cb (dq m i n)).b λl=>(cb (dE m j y)).b λd=>.y (by subst H;exact DM l d)|_=>.n
 |_,_=>.n
noncomputable def E5(g:eN)(m:MC):(s:bC)->(a:List RP)->Ch (AM g m s a)
 |.nil,c=>match c with
  |[]=>.y ON|_=>.n
 |.cons s r,c=>match c with
  |x::d=>(cS g m s x).b λh=>(E5 g m r d).b λe=>.y (OO h e)|[]=>.n
 |_,_=>.n
end
theorem dM.any{P:PF}{w:P0}{K:Pj}{mg:PX->Option O_}{base:P7}{CX:uN}{k:Nat}{f:Pg}{fd:Rj}{ps:List PX}{sp:Sp}(h:dM P w K mg base w5 k f fd ps sp):dM P w K mg base CX k f fd ps sp:=⟨h.len,λA outer s H a c b Q E g j hb r d=>Tx (h.run A outer s H a c b Q E g j hb r d) λr l q=>by cases r with
  |error e=>exact Rr q|ok i=>cases i<;>exact q⟩
structure HZ(P:PF)(K:Pj)(mg:PX->Option O_)(g:eN)(x:PX)(d:Df):Prop where ex:∃(y qual:PX)(st:RP)(f:Pg)(fd:Rj)(N ps:List PX),yQ K y qual st f fd/\c4 N ps (ao st)/\Binds K fd ps []/\mg x=O7 (.ref f)/\ps.length=d.np/\N.length=d.nn/\AM g ⟨N,ao st,Pa,[]⟩ d.body (cz st)
structure Jv(P:PF)(w:P0)(K:Pj)(mg:PX->Option O_)(base:P7)(x:PX)(np:Nat)(t:List A->T D):Prop where
 ok:lL P w K mg base x np 1 (λas=>(t as).aC)len:∀as,as.length≠np->t as=.stuck
inductive Dk where|df(d:Df)|wit(t:List A->T D)
structure Gv where
 kM:Nat->Option D
 cls:Nat->Option Pg
 how:Pg->Bool
 sub:Pg->Pg->Option Bool
 ins:Pg->O_->Option Bool
noncomputable def Gv.ev(b:Gv)(call:Nat->List A->T D):Ev:=⟨call,b.kM,b.cls,b.how,b.sub,b.ins⟩
noncomputable def ak(defs:List Dk)(b:Gv):Nat->Nat->List A->T D
 |0,_,_=>.stuck|n+1,f,as=>match defs[f]? with
  |none=>.stuck|some (.wit t)=>t as|some (.df d)=>if as.length=d.np then do xX (<-ay (b.ev (ak defs b n)) d.body (bO d.nn as))else .stuck
structure ki(P:PF)(w:P0)(K:Pj)(mg:PX->Option O_)(base:P7)(g:eN)(defs:List Dk)(b:Gv):Prop where
 bl:∀x∈dF,mg x=Pb
 df:∀(f:Nat)(x:PX),g.dn[f]?=O7 x->(∃d,defs[f]?=O7 (Dk.df d)/\HZ P K mg g x d)\/(∃t np,defs[f]?=O7 (Dk.wit t)/\Jv P w K mg base x np t)cl:∀(c:Nat)(x:PX)(C:Pg),g.cn[c]?=O7 x->b.cls c=O7 C->mg x=O7 (.ref C)E3:∀C,b.how C=Pa->rm K C=Pa
 sb:∀c P r,b.sub c P=O7 r->iF K c P=O7 r
 xH:∀c u r,b.ins c u=O7 r->BO K c=Pa/\Ra K (.ref c) u=O7 r
 co:∀(i:Nat)(x:PX)(d:D),g.gn[i]?=O7 x->b.kM i=O7 d->∃u v,mg x=O7 u/\RelV v u/\∀(p:Pg)(H:Hp),H p≠Pb->K.lookup p=Pb->Is ⟨K,p,P,w⟩ H v d
 ct:∀i x d,g.gn[i]?=O7 x->b.kM i=O7 d->jR d=Pa->∃a o,mg x=O7 (.ref a)/\K.lookup a=O7 o/\o.cls=.type "tuple"/\o.dict=Pb
section
variable{P:PF}{w:P0}{K:Pj}{mg:PX->Option O_}{base:P7}{g:eN}{defs:List Dk}{b:Gv}
theorem mark_none{A:P9}(h:A.handled=Pb):A.mark Pb=A:=by
 cases A;simp only[Around.mark]at*;simp_all
theorem lL.mono{x:PX}{n j k:Nat}{m:List A->M D}(h:lL P w K mg base x n j m)(c:j<=k):lL P w K mg base x n k m:=by
 obtain⟨ps,a,f,fd,F,r⟩:=h;exact⟨ps,a,f,fd,F.mono c,r⟩
theorem ki.all(h:ki P w K mg base g defs b):∀(n f:Nat)(x:PX),g.dn[f]?=O7 x->∃np,lL P w K mg base x np n (λas=>(ak defs b n f as).aC)/\∀as,as.length≠np->ak defs b n f as=.stuck
 |0,f,x,o=>by
  rcases h.df f x o with⟨d,hd,⟨y,a,st,l,fd,N,ps,F,S,B,C,q,hn,Z⟩⟩|⟨t,np,hd,W⟩
  .refine⟨ps.length,⟨ps,rfl,l,fd,⟨λJ H Q E z=>?_,λA outer s H G us J Q E c e0 hb r z=>?_⟩,C,F.kp,B⟩,λ_ _=>rfl⟩;.obtain⟨p,k,as,_,_,_,z⟩:=z;exact z.elim
   .obtain⟨p,k,as,_,_,_,z⟩:=z;exact z.elim
  .obtain⟨ps,j,l,fd,FN,C,hk,hb⟩:=W.ok;refine⟨ps.length,⟨ps,rfl,l,fd,⟨λJ H Q E z=>?_,λA outer s H G us J Q E c e0 hb r z=>?_⟩,C,hk,hb⟩,λ_ _=>rfl⟩;.obtain⟨p,k,as,_,_,_,z⟩:=z;exact z.elim
   .obtain⟨p,k,as,_,_,_,z⟩:=z;exact z.elim|n+1,f,x,o=>by
  rcases h.df f x o with⟨d,hd,⟨y,a,st,l,fd,N,ps,F,S,B,C,q,hn,Z⟩⟩|⟨t,np,hd,W⟩
  .have D:∀as,ak defs b (n+1) f as=if as.length=d.np then do xX (<-ay (b.ev (ak defs b n)) d.body (bO d.nn as))else .stuck:=λas=>by
    show(match defs[f]? with
     |none=>T.stuck|some (.wit t)=>t as|some (.df d)=>if as.length=d.np then do xX (<-ay (b.ev (ak defs b n)) d.body (bO d.nn as))else .stuck)=_;rw[hd]
   refine⟨d.np,⟨ps,q,l,fd,?_,C,F.kp,B⟩,λas j=>by rw[D,if_neg j]⟩;refine F.OI (k:=n) S q λX A' outer s H p k0 E E' c R L=>?_;have xc:XC g (b.ev (ak defs b n)) ⟨N,ao st,Pa,[]⟩ (ku (GU P w) P w K mg base N a (ao st) l X A' outer s H E) ⟨⟨K,p,P,w⟩,H,k0,E',H,k0⟩:=⟨rfl,rfl,rfl,rfl,S.nd,rfl,rfl,c.units,λ_ _=>rfl,(λ_ z=>nomatch z),mark_none c.hd,h.bl,λf' x' O=>by
     obtain⟨np,V,U⟩:=ki.all h n f' x' O;exact⟨np,n,c,V,U⟩,L,λ_=>⟨rfl,rfl⟩,h.cl,h.E3,c.gd,h.sb,h.xH,λi x d o hd=>let⟨u,v,V,U,h3⟩:=h.co i x d o hd;⟨u,v,V,U,λH hH q=>h3 p H hH q⟩,h.ct,λ_=>⟨_,R⟩⟩;refine⟨_,Z _ _ _ Yb xc,λas Q j z=>?_⟩;rw[D,if_pos j,T.bB]at z;have e:fW N as=bO d.nn as:=by unfold fW bO;rw[hn]
   rw[e];refine M.wk (m:=(ay (b.ev (ak defs b n)) d.body (bO d.nn as)).aC) z λfl k' I=>?_;cases fl with
   |rt d=>exact I|nx Y=>exact I|bk Y=>exact I|ct Y=>exact I
  .have D:∀as,ak defs b (n+1) f as=t as:=λas=>by
    show(match defs[f]? with
     |none=>T.stuck|some (.wit t)=>t as|some (.df d)=>if as.length=d.np then do xX (<-ay (b.ev (ak defs b n)) d.body (bO d.nn as))else .stuck)=_;rw[hd]
   refine⟨np,?_,λas j=>by rw[D];exact W.len as j⟩;have:(λas=>(ak defs b (n+1) f as).aC)=λas=>(t as).aC:=by funext as;rw[D]
   rw[this];exact W.ok.mono (by omega)
end
end L2
end
section
namespace K33d
open PySem L2
noncomputable def H_(i:Nat):RP:=PySem.Challenge.pw_wallplan_k33_groups.main.body.getD i (.Pass ⟨0,0,0,0⟩)
noncomputable abbrev sA:RP:=H_ 21
noncomputable abbrev AN:RP:=H_ 20
noncomputable abbrev sC:RP:=H_ 34
noncomputable def Jw(p:Pg)(H H':Hp):Prop:=∀b,b≠p->H' b=H b
theorem Jw.upd{p:Pg}{H:Hp}{o:HO}:Jw p H (upd H p o):=λ_ h=>ai h
noncomputable def Ia:Sp:=λb H Q _=>∃(p q:Pg)(n:Int)(k:Nat),b=[.ref p,.int n]/\lA H p q k/\k<1000000/\0<n/\n<1073741824/\∀(z:Int)(a:Hp),0<=z->z<n->lA a p q (k+1)->Jw p H a->Q (.int z) a
section
variable{P:PF}{w:P0}{K:Pj}{mg:PX->Option O_}{base:P7}
theorem Ib:c4 ["_law_script"] ["_law_script"] (ao AN):=⟨rfl,rfl,rfl,by decide+kernel,rfl,by decide+kernel,by decide+kernel⟩
theorem iO:c4 ["_law_feed_here","_law_many","_law_got","_law_at","_law_cell","_law_number"] ["_law_feed_here","_law_many"] (ao sA):=⟨rfl,rfl,rfl,by decide+kernel,rfl,by decide+kernel,by decide+kernel⟩
theorem My{a b c:V}:fj [a,b,c] 0=O7 a:=fk (j:=0) rfl
theorem OP{a b c:V}:fj [a,b,c] 1=O7 b:=fk (j:=1) rfl
theorem at2{a b c:V}:fj [a,b,c] 2=O7 c:=fk (j:=2) rfl
theorem cF.Ic{H:Hp}{p q:Pg}{ns:List Int}{i r:Int}(F:cF H p q ns i r){b a:Int}(e:0<=b)(d:0<=a):cF (upd H p (.lst [.ref q,.int b,.int a])) p q ns b a:=let⟨o,c⟩:=F.cs;⟨ah,⟨o,by rw[ai F.ne];exact c⟩,F.ne,e,d,F.ln⟩
theorem cF.sq{K:Pj}{H:Hp}{p q:Pg}{ns:List Int}{i r:Int}(F:cF H p q ns i r):d5 K H q (ns.map V.int):=.inl (.inr F.cs)
theorem DN{ns:List Int}{i:Int}(a:(0:Int)<((ns.map V.int).length:Int)):∃c,fj (ns.map V.int) (i%((ns.map V.int).length:Int))=O7 (.int c):=by
 have f:=SU i a;have d:=T2 i (show((ns.map V.int).length:Int)≠0 by omega);have e:((i%((ns.map V.int).length:Int)).toNat:Int)=i%((ns.map V.int).length:Int):=by omega
 have b:(ns.map V.int).length=ns.length:=Pk ..;have hlt:(i%((ns.map V.int).length:Int)).toNat<ns.length:=by omega
 rw[<-e];refine⟨ns[(i%((ns.map V.int).length:Int)).toNat]'hlt,fk ?_⟩;rw[PV,PN hlt];rfl
theorem DO{f:Pg}{fd:Rj}(F:yQ K "_law_draw" "_law_draw" sA f fd)(e:mg "len"=Pb):dM P w K mg base w5 1 f fd ["_law_feed_here","_law_many"] Ia:=by
 refine F.ok iO (λC H Q E h=>?_) (λM A outer s H C Q E D h=>?_)
 .obtain⟨p,q,n,k,rfl,_⟩:=h;rfl
 .obtain⟨p,q,n,k,rfl,⟨ns,i,r,G,I⟩,N,d,m,u⟩:=h;have hu:=J5 D;refine⟨_,bq (uK (iX EB (gX c5 (pv 0) aG (λ_ _=>rfl)) aG (jJ _)) (bq (bV (i:=2) iO.nd rfl (Ul rfl) (bw eS (gX c5 (pv 0) aG (λ_ _=>rfl)) (pv 1))) (bq (oN (bw oO (gX c5 (pv 0) aG (λ_ _=>rfl)) (pv 1)) (tu (pv 0) aG set_list)) (iV (kU (pv 2))))) kF) (bq (bV (i:=3) iO.nd rfl (Ul rfl) (gX c5 (pv 0) aG (λ_ _=>rfl))) (bq (oN (bw kX (pv 3) aG) (tu (pv 0) aG set_list)) (bq (bV (i:=4) iO.nd rfl (Ul rfl) (pv 3)) (bq (uK (iX EB (e_ ft (by rfl) e Xf (be (gX c5 (pv 0) aG (λ_ _=>rfl)) dh)) aG (jJ _)) (iV (bV (i:=4) iO.nd rfl (Ul rfl) (gX c5 (gX c5 (pv 0) aG (λ_ _=>rfl)) (bw eS (pv 3) (e_ ft (by rfl) e Xf (be (gX c5 (pv 0) aG (λ_ _=>rfl)) dh))) (λ_ _=>rfl)))) kF) (bq (uK (yt (iX JP (pv 4) (bw yz aG aG) (jJ _)) (uJ (iX EA (pv 3) (e_ ft (by rfl) e Xf (be (gX c5 (pv 0) aG (λ_ _=>rfl)) dh)) (jJ _)))).pt (bq (oN (bw oO (pv 4) (pv 1)) (tu (pv 0) aG set_list)) (iV (kU (bw eS (pv 4) (pv 1))))) kF) (bq (bV (i:=5) iO.nd rfl (Ul rfl) (bw eS (bw iq (bw kX (bw kX (bw eS (pv 4) aG) (bw iq (bw iq aG (pv 3)) (pv 3))) aG) aG) aG)) (bq (bV (i:=5) iO.nd rfl (Ul rfl) (bw eS (bw kX (bw iq (pv 5) (pv 5)) (bw iq aG (pv 3))) aG)) (iV (kU (bw eS (bw oO (bw eS (bw iq (pv 5) (bw kX (bw eS (pv 5) aG) aG)) aG) aG) (pv 1))))))))))),?_⟩;refine⟨_,rfl,p,_,_,_,rfl,rfl,d5.of G.ob,at2,_,_,rfl,rfl,_,rfl,?_⟩;refine Cf (λL=>?_) (λL=>?_)
  .refine⟨_,rfl,p,_,_,_,rfl,rfl,d5.of G.ob,at2,_,rfl,_,_,rfl,rfl,d,?_⟩;refine⟨_,rfl,p,_,_,_,rfl,rfl,d5.of G.ob,at2,_,rfl,_,_,rfl,rfl,⟨d,m⟩,_,rfl,p,_,_,2,rfl,rfl,G.ob,rfl,?_⟩;refine⟨_,rfl,?_⟩;exact u _ _ (T2 _ (by omega)) (SU _ d) ⟨ns,i,_,cF.Ic G G.i0 (Int.ediv_nonneg G.r0 (by omega)),by omega⟩ Jw.upd
  .have i0:=G.i0;refine⟨_,rfl,p,_,_,_,rfl,rfl,d5.of G.ob,OP,?_⟩;refine⟨_,rfl,_,_,rfl,rfl,_,rfl,p,_,_,1,rfl,rfl,G.ob,rfl,?_⟩;have g:cF (upd H p (.lst [.ref q,.int (i+1),.int r])) p q ns (i+1) r:=cF.Ic G (by omega) G.r0;refine⟨_,rfl,?_⟩;refine⟨_,rfl,p,_,_,_,rfl,rfl,d5.of g.ob,My,q,_,rfl,.inl ((cF.sq g)),_,_,rfl,rfl,_,rfl,?_⟩;refine Cf (λB=>?a) (λB=>?b);case' a=>
    have l:(0:Int)<((ns.map V.int).length:Int):=of_decide_eq_true B;obtain⟨c,o⟩:=DN (i:=i) l;refine⟨_,rfl,p,_,_,_,rfl,rfl,d5.of g.ob,My,_,rfl,_,rfl,p,_,_,_,rfl,rfl,d5.of g.ob,My,q,_,rfl,.inl ((cF.sq g)),_,_,rfl,rfl,l,q,_,_,_,rfl,rfl,(cF.sq g),o,?_⟩;clear o
   all_goals
    refine⟨_,rfl,_,_,rfl,rfl,⟨by decide,by decide,by decide⟩,_,_,rfl,rfl,_,rfl,?_⟩;refine(λj=>Cf (λz=>?x) (λz=>M8 j)) ?y;case x=>
     refine⟨_,rfl,_,rfl,p,_,_,_,rfl,rfl,d5.of g.ob,My,q,_,rfl,.inl ((cF.sq g)),_,_,rfl,rfl,_,rfl,?_⟩;refine Cf (λJ=>?_) (λJ=>j);refine⟨_,rfl,_,rfl,_,_,rfl,rfl,⟨d,m⟩,_,rfl,p,_,_,2,rfl,rfl,g.ob,rfl,?_⟩;refine⟨_,rfl,_,rfl,_,_,rfl,rfl,d,?_⟩;have v:=of_decide_eq_true z;have t:(0:Int)<=10^(Int.toNat 18):=by decide
     refine u _ _ (T2 _ (by omega)) (SU _ d) ⟨ns,i+1,_,(by rw[bF];exact cF.Ic G (by omega) (Int.ediv_nonneg (Int.le_trans t v) (by omega))),by omega⟩ (by rw[bF];exact Jw.upd)
    case y=>
     refine⟨_,rfl,_,_,rfl,rfl,(by show(0:Int)<2147483647;decide),_,rfl,_,_,rfl,rfl,.inl ⟨by decide,by decide⟩,_,rfl,_,_,rfl,rfl,.inr ⟨by omega,by omega⟩,_,_,rfl,rfl,_,_,rfl,rfl,_,_,rfl,rfl,.inr ⟨by decide,by decide⟩,_,_,rfl,rfl,(by show(0:Int)<2147483647;decide),?_⟩;refine⟨_,rfl,_,rfl,_,_,rfl,rfl,.inl ⟨by omega,by omega⟩,_,rfl,_,_,rfl,rfl,.inl ⟨by decide,by decide⟩,_,_,rfl,rfl,_,_,rfl,rfl,(by show(0:Int)<2147483629;decide),?_⟩;refine⟨_,rfl,_,rfl,_,_,rfl,rfl,(by show(0:Int)<65521;decide),_,_,rfl,rfl,_,_,rfl,rfl,.inl ⟨by omega,by omega⟩,_,_,rfl,rfl,(by show(0:Int)<2147483587;decide),_,_,rfl,rfl,⟨by decide,by decide⟩,_,rfl,_,_,rfl,rfl,d,?_⟩;exact u _ _ (T2 _ (by omega)) (SU _ d) ⟨ns,i+1,r,g,by omega⟩ Jw.upd
noncomputable def vZ:List A->T D
 |[.feed,.d (.int n)]=>.draw n λi=>.ok (.int i)|_=>.stuck
theorem kj{d c:Type}{R:d->c->Prop}{l:List d}{y:c}{e:List c}(h:Paired R l (y::e)):∃x xs,l=x::xs/\R x y/\Paired R xs e:=by cases h with|cons a b=>exact⟨_,_,rfl,a,b⟩
theorem uw{b a:Type}{R:b->a->Prop}{l:List b}(h:Paired R l ([]:List a)):l=[]:=by cases h;rfl
theorem AO{f:Pg}{fd:Rj}(F:yQ K "_law_draw" "_law_draw" sA f fd)(c:mg "len"=Pb)(I:mg "_law_draw"=O7 (.ref f))(V:Binds K fd ["_law_feed_here","_law_many"] []):Jv P w K mg base "_law_draw" 2 vZ:=by
 refine⟨⟨["_law_feed_here","_law_many"],rfl,f,fd,(DO F c).any.imp λW H Q E z=>?_,I,F.kp,V⟩,λas h=>?_⟩
 .obtain⟨p,k,as,hp,C,h,z⟩:=z;rcases as with _|⟨a1,_|⟨T,_|⟨a3,r⟩⟩⟩;.exact absurd h (by simp)
  .exact absurd h (by simp)
  rotate_left;.exact absurd h (by simp)
  cases a1 with
  |d y=>exact Rr z|feed=>cases T with
  |feed=>exact Rr z|d y=>cases y with
  |int n=>
   obtain⟨Y,x,rfl,G,l⟩:=kj C;obtain⟨X,v,rfl,j,D⟩:=kj l;obtain rfl:=uw D;obtain⟨rfl,q,t⟩:=G;have j:Is ⟨K,p,P,w⟩ H _ (.int n):=j;simp only[Is]at j;subst j;obtain⟨⟨s,m⟩,hk,z⟩:=z;refine⟨p,q,n,k,rfl,t,by omega,s,m,λi U L J u S=>?_⟩;refine z (k+1) (by omega) (by omega) i ⟨L,J⟩ (.int i) U ⟨λb o hb e=>by rw[S b hb];exact e,λ_=>?_,by omega,λB O=>?_⟩ (by simp only[Is])
   .obtain⟨ns,i',Z,g,_⟩:=u;exactλe=>by rw[g.ob]at e;cases e
   .have:B=q:=by
     obtain⟨_,_,_,N,_⟩:=O;obtain⟨_,_,_,M,_⟩:=t;have R:=N.ob;have a:=M.ob;rw[R]at a;injection a with a;injection a with a;injection a with a _;injection a
    rw[this];exact u|_=>exact Rr z
 .match as with
  |[]=>rfl|[_]=>cases‹A›<;>rfl|[_,_]=>exact absurd rfl h|.d _::_::_::_=>rfl|.feed::.feed::_::_=>rfl|.feed::.d y::_::_=>cases y<;>rfl
end
end K33d
end
section
namespace L2
open PySem PySem.Spec PyProof.Rows
noncomputable def Ie(fd:Rj):Option (List RP):=match fd.body,fd.closure,fd.defaults with
 |.stmts b,[],.none=>if SG fd.globals Qp&&SG fd.builtins V8 then O7 b else Pb|_,_,_=>Pb
theorem AQ{fd:Rj}{b:List RP}(h:Ie fd=O7 b):fd=Wc fd.name fd.qualname fd.params b fd.scope .none fd.kwdefaults fd.doc fd.pyModule fd.annotations fd.code fd.closureTuple:=by
 obtain⟨a1,v,u,t,s,r,q,p,o,n,m,l,k,j,i⟩:=fd;unfold Ie at h;split at h
 .rename_i e d c;dsimp only at e d c h;split at h
  .rename_i a;rw[Pp]at a;cases h;subst e d c;have g:=QZ a.1;have f:=QZ a.2;subst g f;rfl
  .cases h
 .cases h
noncomputable def AR(fd:Rj)(b:List RP):RP:=.FunctionDef fd.name fd.params b [] Pb [] fd.scope Pb fd.name ⟨0,0,0,0⟩
theorem AS{K:Pj}{f:Pg}{d:O_}{c:Option Pg}{fd:Rj}{a:Array (Option O_)}{b:List RP}(l:K.lookup f=O7 ⟨d,c,.func fd,a⟩)(h:Ie fd=O7 b)(e:RJ K fd.code fd.qualname=Pa):yQ K fd.name fd.qualname (AR fd b) f fd:=by
 refine⟨⟨d,c,_,_,_,_,_,_,a,AQ h,l,e⟩,?_⟩;unfold Tr;dsimp only;rw[l]
noncomputable def AU:List PX->List PX->Bool
 |[],[]=>Pa|x::b,y::a=>sEq x y&&AU b a|_,_=>Pc
theorem pT:∀{xs a:List PX},AU xs a=Pa->xs=a
 |[],[],_=>rfl|[],_::_,h=>by cases h|_::_,[],h=>by cases h|x::xs,y::a,h=>by
  simp only[AU,Pp]at h;rw[bE h.1,pT h.2]
noncomputable def LM:ScopeKind->Bool
 |.function=>Pa|_=>Pc
noncomputable def Mz(N ps:List PX)(sc:RQ):Bool:=LM sc.kind&&!sc.isCoroutine&&!sc.isGenerator&&Ju N&&AU (N.take ps.length) ps&&(ps.all λx=>match sj x sc.names with|some .local=>Pa|some .cell=>Pa|_=>Pc)&&sc.names.all λy=>match y.2 with|.free=>Pc|_=>Pa
theorem AV{N ps:List PX}{sc:RQ}(h:Mz N ps sc=Pa):c4 N ps sc:=by
 simp only[Mz,Pp,Ru,Qq]at h;obtain⟨⟨⟨⟨⟨⟨a,k⟩,j⟩,i⟩,g⟩,f⟩,d⟩:=h;refine⟨?_,k,j,gL i,pT g,λx c=>?_,λy b z=>?_⟩;.cases e:sc.kind<;>rw[e]at a<;>first|rfl|cases a
 .have:=f x c;rw[mj]at this;split at this;.rename_i e;exact .inl e
  .rename_i e;exact .inr e
  .cases this
 .have:=d y b;rw[z]at this;cases this
noncomputable def sD(p:VQ)(ps:List PX):Bool:=p.posonlyargs.isEmpty&&AU (p.args.map (·.arg)) ps&&p.vararg.isNone&&p.kwonlyargs.isEmpty&&p.kwarg.isNone&&Ju ps
theorem mw:∀{ps:List PX}{us:List O_},ps.Nodup->us.length=ps.length->(ps.filterMap λn=>((ps.zip us).lookup n).map (n,·))=ps.zip us
 |[],[],_,_=>rfl|[],_::_,_,h=>by simp at h|_::_,[],_,h=>by simp at h|p::ps,u::us,nd,h=>by
  obtain⟨n1,n2⟩:=List.nodup_cons.mp nd;have d:=mw n2 (us:=us) (by simpa using h);rw[RE,Rf];simp only[List.lookup_cons_self,Su];congr 1;refine Eq.trans ?_ d;have a:∀(l:List PX),(∀n∈l,n≠p)->l.filterMap (λn=>(((p,u)::ps.zip us).lookup n).map (n,·))=l.filterMap λn=>((ps.zip us).lookup n).map (n,·):=by
   intro l;induction l with
   |nil=>intro _;rfl|cons n l b=>
    intro c;have e:((p,u)::ps.zip us).lookup n=(ps.zip us).lookup n:=by
     rw[Qo];have:(n==p)=Pc:=by
      rw[beq_eq_false_iff_ne];exact c n Pn
     rw[this]
    rw[Rf,Rf,e,b λm g=>c m (Po _ g)]
  exact a ps λn f e=>n1 (e▸f)
theorem lookup_some:∀{ps:List PX}{us:List O_}{n:PX},us.length=ps.length->n∈ps->((ps.zip us).lookup n).isNone=Pc
 |[],_,_,_,h=>nomatch h|_::_,[],_,h,_=>by simp at h|p::ps,u::us,n,h,a=>by
  rw[RE,Qo];cases e:n==p with
  |true=>rfl|false=>
   have:n∈ps:=by
    rcases List.mem_cons.mp a with rfl|h;.simp at e
    .exact h
   exact lookup_some (by simpa using h) this
theorem bind_eq{fd:Rj}{b:List RP}{ps:List PX}(h:Ie fd=O7 b)(k:sD fd.params ps=Pa)(us:List O_)(j:us.length=ps.length):XU fd ⟨us,[]⟩=pure (ps.zip us):=by
 simp only[sD,Pp]at k;obtain⟨⟨⟨⟨⟨i,g⟩,f⟩,d⟩,c⟩,q⟩:=k;have e:=AQ h;have hd:fd.defaults=.none:=by rw[e]
 obtain⟨⟨x,w,v,u,t,s,r⟩,a⟩:∃p:VQ,fd.params=p:=⟨_,rfl⟩;rw[a]at i g f d c;dsimp only at i g f d c;have i:=List.isEmpty_iff.mp i;have f:=Option.isNone_iff_eq_none.mp f;have d:=List.isEmpty_iff.mp d;have c:=Option.isNone_iff_eq_none.mp c;have g:=pT g;subst i f d c;have nd:=gL q;unfold XU;rw[a,hd];dsimp only;rw[g];simp only[Sw,List.nil_append,QL];have l:seqItems? Qc=pure Pb:=rfl;have o:((ps.take ps.length).filter λn=>((ps.zip us).lookup n).isNone)=[]:=by
  rw[List.take_length];refine List.filter_eq_nil_iff.mpr λn m=>?_;rw[lookup_some j m];exact QM
 rw[Um,pure_bind,l,pure_bind];dsimp only;simp only[TB,P8,Nat.zero_sub,Nat.sub_zero,List.drop_nil,o];rw[if_neg (by rw[j];simp)];simp only[TJ,Rb,P4,if_false,XA,Um,pure_bind];rw[mw nd j]
theorem AW{K:Pj}{fd:Rj}{b:List RP}{ps:List PX}(h:Ie fd=O7 b)(a:sD fd.params ps=Pa):Binds K fd ps []:=.all (bind_eq h a)
noncomputable def NP(K:Pj)(g:eN)(x:PX)(N ps:List PX)(d:Df):Bool:=match RY K Qp x with
 |some (O7 (.ref f))=>(match K.lookup f with
  |some ⟨_,_,.func fd,_⟩=>(match Ie fd with
   |some b=>RJ K fd.code fd.qualname&&Mz N ps fd.scope&&sD fd.params ps&&SG ps.length d.np&&SG N.length d.nn&&(E5 g ⟨N,fd.scope,Pa,[]⟩ d.body b).ok|none=>Pc)|_=>Pc)|_=>Pc
theorem Ig{P:PF}{K:Pj}{mg:PX->Option O_}{h:P7}{g:eN}{x:PX}{N ps:List PX}{d:Df}(X:K.In h)(G:h.Ns Qp mg)(q:NP K g x N ps d=Pa):HZ P K mg g x d:=by
 unfold NP at q;split at q
 .rename_i f e;split at q
  .rename_i p o fd n lk;split at q
   .rename_i b a;simp only[Pp]at q;obtain⟨⟨⟨⟨⟨m,l⟩,k⟩,j⟩,i⟩,c⟩:=q;exact⟨fd.name,fd.qualname,AR fd b,f,fd,N,ps,AS lk a m,AV l,AW a k,Tj X G e,QZ j,QZ i,Ch.of c⟩
   .cases q
  .cases q
 .cases q
structure En where
 x:PX
 N:List PX
 ps:List PX
 k:Dk
noncomputable def Ih(K:Pj)(g:eN)(a:List En):Bool:=a.all λe=>match e.k with
 |.df d=>NP K g e.x e.N e.ps d|.wit _=>Pa
theorem DP{P:PF}{w:P0}{K:Pj}{mg:PX->Option O_}{base h:P7}{g:eN}{b:List En}(X:K.In h)(G:h.Ns Qp mg)(q:Ih K g b=Pa)(m:g.dn=b.map (·.x))(hw:∀e∈b,∀t,e.k=.wit t->∃np,Jv P w K mg base e.x np t):∀(f:Nat)(x:PX),g.dn[f]?=O7 x->(∃d,(b.map (·.k))[f]?=O7 (Dk.df d)/\HZ P K mg g x d)\/(∃t np,(b.map (·.k))[f]?=O7 (Dk.wit t)/\Jv P w K mg base x np t):=λf x a=>by
 rw[m,PV]at a;cases i:b[f]? with
 |none=>rw[i]at a;cases a|some e=>
  rw[i]at a;have a:e.x=x:=Pm a;subst a;have l:e∈b:=Qd i;have j:=List.all_eq_true.mp q e l;rw[PV,i];cases c:e.k with
  |df d=>
   rw[c]at j;exact .inl ⟨d,by rw[Su,c],Ig X G j⟩|wit t=>
   obtain⟨np,W⟩:=hw e l t c;exact .inr ⟨t,np,by rw[Su,c],W⟩
structure Kl where
 C:Pg
 sup:List Pg
noncomputable def AX(cs:List Kl)(c:Nat):Option Pg:=(cs[c]?).map (·.C)
noncomputable def LN(cs:List Kl)(a:Pg):Bool:=cs.any λk=>SG k.C a
noncomputable def v7(cs:List Kl)(c P:Pg):Option Bool:=match cs.find? λk=>SG k.C c with
 |some k=>if cs.any λj=>SG j.C P then O7 (k.sup.any λa=>SG a P)else Pb|none=>Pb
noncomputable def AY(cs:List Kl)(c:Pg)(u:O_):Option Bool:=match u with
 |.ref P=>v7 cs c P|_=>Pb
noncomputable def DQ(a:Option Bool)(b:Bool):Bool:=match a with
 |some c=>c==b|none=>Pc
theorem v8{a:Option Bool}{b:Bool}(h:DQ a b=Pa):a=O7 b:=by
 unfold DQ at h;split at h;.rw[beq_iff_eq.mp h]
 .cases h
noncomputable def AZ(K:Pj)(x:PX)(a:Pg):Bool:=match RY K Qp x with
 |some (O7 (.ref b))=>SG a b|_=>Pc
theorem A0{K:Pj}{x:PX}{a:Pg}(h:AZ K x a=Pa):RY K Qp x=O7 (O7 (.ref a)):=by
 unfold AZ at h;split at h;.rename_i b e;rw[e,QZ h]
 .cases h
noncomputable def qx(K:Pj)(cn:List PX)(cs:List Kl):Bool:=((cn.zip cs).all λe=>AZ K e.1 e.2.C)&&cs.all λk=>BO K k.C&&rm K k.C&&cs.all λj=>DQ (iF K k.C j.C) (k.sup.any λa=>SG a j.C)&&DQ (Ra K (.ref k.C) (.ref j.C)) (k.sup.any λa=>SG a j.C)
section
variable{K:Pj}{cn:List PX}{cs:List Kl}
theorem mz(q:qx K cn cs=Pa):(∀(c:Nat)(x:PX)(C:Pg),cn[c]?=O7 x->AX cs c=O7 C->RY K Qp x=O7 (O7 (.ref C)))/\∀k∈cs,BO K k.C=Pa/\rm K k.C=Pa/\∀j∈cs,iF K k.C j.C=O7 (k.sup.any λa=>SG a j.C)/\Ra K (.ref k.C) (.ref j.C)=O7 (k.sup.any λa=>SG a j.C):=by
 simp only[qx,Pp,Qq]at q;obtain⟨h,g⟩:=q;refine⟨λc x C l b=>?_,λk d=>?_⟩
 .unfold AX at b;cases d:cs[c]? with
  |none=>rw[d]at b;cases b|some k=>
   rw[d]at b;have b:k.C=C:=Pm b;subst b;exact A0 (h (x,k) (Qd (i:=c) (by rw[TK];exact⟨l,d⟩)))
 .obtain⟨⟨a1,m⟩,f⟩:=g k d;exact⟨a1,m,λj e=>⟨v8 (f j e).1,v8 (f j e).2⟩⟩
theorem A2{c P:Pg}{r:Bool}(h:v7 cs c P=O7 r):∃k∈cs,∃j∈cs,k.C=c/\j.C=P/\r=k.sup.any λa=>SG a P:=by
 unfold v7 at h;split at h
 .rename_i k e;split at h
  .rename_i f;obtain⟨j,b,d⟩:=List.any_eq_true.mp f;exact⟨k,Vt e,j,b,QZ (List.find?_some (p:=λk:Kl=>SG k.C c) e),QZ d,(Pm h).symm⟩
  .cases h
 .cases h
end
noncomputable abbrev QD(K:Pj)(u:O_)(d:D):Prop:=∀P w,∃v,RelV v u/\∀(p:Pg)(H:Hp),H p≠Pb->K.lookup p=Pb->Is ⟨K,p,P,w⟩ H v d
noncomputable abbrev MA(K:Pj)(us:List O_)(ds:List D):Prop:=∀P w,∃a,ar a us/\∀(p:Pg)(H:Hp),H p≠Pb->K.lookup p=Pb->af ⟨K,p,P,w⟩ H a ds
theorem LO{K:Pj}{a:Pg}{T:String}{k:Option Pg}{b:Array O_}{n:Nat}{e:Array (Option O_)}{ds:List D}(lk:K.lookup a=O7 ⟨.type T,k,.seq b n,e⟩)(g:T="tuple")(f:b.size<=Pl)(h:MA K b.toList ds):QD K (.ref a) (.tup ds):=λP w=>by
 subst g;obtain⟨d,r,i⟩:=h P w;refine⟨.ref a,rfl,λp H j c=>?_⟩;simp only[Is];refine⟨a,d,rfl,⟨λz=>?_,.inr ⟨_,b,n,lk,rfl,rfl,f,r⟩⟩,i p H j c⟩;have z:a=p:=z;rw[z,c]at lk;cases lk
theorem Ii{K:Pj}{u:O_}{us:List O_}{d:D}{ds:List D}(h:QD K u d)(hs:MA K us ds):MA K (u::us) (d::ds):=λP w=>by
 obtain⟨v,r,i⟩:=h P w;obtain⟨c,e,is⟩:=hs P w;exact⟨v::c,.cons r e,λp H a b=>.cons (i p H a b) (is p H a b)⟩
mutual
noncomputable def Oh(K:Pj):(d:D)->(u:O_)->Ch (QD K u d)
 |.bH,u=>match u with
  |.none=>.y λP w=>⟨.bH,rfl,λp H _ _=>by simp only[Is]⟩|_=>.n
 |.bl b,u=>match u with
  |.bool c=>(cd (c=b)).b λq=>.y (by subst q;exactλP w=>⟨.bl _,rfl,λp H _ _=>by simp only[Is]⟩)|_=>.n
 |.int i,u=>match u with
  |.int j _=>(cd (j=i)).b λq=>.y (by subst q;exactλP w=>⟨.int _,⟨_,rfl⟩,λp H _ _=>by simp only[Is]⟩)|_=>.n
 |.str x,u=>match u with
  |.str y _=>(cb (sEq x y)).b λq=>.y (by rw[bE q];exactλP w=>⟨.str _,⟨_,rfl⟩,λp H _ _=>by simp only[Is]⟩)|_=>.n
 |.tup k,u=>match u with
  |.ref a=>match lk:K.lookup a with
   |some ⟨.type _,_,.seq e _,_⟩=>(cd (_="tuple")).b λg=>(cd (e.size<=Pl)).b λf=>(LP K k e.toList).b λh=>.y (LO lk g f h)|_=>.n
  |_=>.n
 |_,_=>.n
noncomputable def LP(K:Pj):(ds:List D)->(us:List O_)->Ch (MA K us ds)
 |[],us=>match us with
  |[]=>.y λP w=>⟨[],.nil,λp H _ _=>.nil⟩|_=>.n
 |d::ds,us=>match us with
  |u::us=>(Oh K d u).b λh=>(LP K ds us).b λa=>.y (Ii h a)|_=>.n
end
noncomputable def Oi(K:Pj)(x:PX)(d:D):Bool:=match RY K Qp x with
 |some (O7 u)=>(Oh K d u).ok|_=>Pc
noncomputable def Ij(K:Pj)(gn:List PX)(ds:List (Option D)):Bool:=(gn.zip ds).all λe=>match e.2 with
 |some d=>Oi K e.1 d|none=>Pa
theorem DR{K:Pj}{gn:List PX}{ds:List (Option D)}(q:Ij K gn ds=Pa){i:Nat}{x:PX}{d:D}(a:gn[i]?=O7 x)(hd:ds[i]?=O7 (O7 d)):∃u,RY K Qp x=O7 (O7 u)/\QD K u d:=by
 have b:(x,O7 d)∈gn.zip ds:=Qd (i:=i) (by rw[TK];exact⟨a,hd⟩);have:=List.all_eq_true.mp q _ b;dsimp only at this;unfold Oi at this;split at this;.rename_i u e;exact⟨u,e,Ch.of this⟩
 .cases this
noncomputable def Oj(K:Pj)(gn:List PX)(ds:List (Option D)):Bool:=(gn.zip ds).all λe=>match e.2 with
 |some (.tup _)=>(match RY K Qp e.1 with
  |some (O7 (.ref a))=>(match K.lookup a with
   |some ⟨.type T,Pb,_,_⟩=>decide (T="tuple")|_=>Pc)|_=>Pc)|_=>Pa
noncomputable def NQ(ds:List (Option D))(i:Nat):Option D:=(ds[i]?).join
noncomputable def LQ(ds:List (Option D))(cs:List Kl):Gv:=⟨NQ ds,AX cs,LN cs,v7 cs,AY cs⟩
noncomputable def Ol(K:Pj):Bool:=dF.all λx=>match RY K Qp x with
 |some Pb=>Pa|_=>Pc
theorem Ik{P:PF}{w:P0}{K:Pj}{mg:PX->Option O_}{base h:P7}{gn cn:List PX}{m:List En}{ds:List (Option D)}{cs:List Kl}(X:K.In h)(G:h.Ns Qp mg){dn:List PX}(vG:dn=m.map (·.x))(z:Ih K ⟨dn,gn,cn⟩ m=Pa)(y:Ij K gn ds=Pa)(s:Oj K gn ds=Pa)(l:qx K cn cs=Pa)(q:Ol K=Pa)(hw:∀e∈m,∀t,e.k=.wit t->∃np,Jv P w K mg base e.x np t):ki P w K mg base ⟨dn,gn,cn⟩ (m.map (·.k)) (LQ ds cs)where
 bl:=λx f=>by
  have:=List.all_eq_true.mp q x f;split at this;.rename_i e;exact XM X G e
  .cases this
 df:=DP X G z vG hw;cl:=λc x C f o=>Tj X G ((mz l).1 c x C f o);E3:=λC o=>by
  obtain⟨k,g,e⟩:=List.any_eq_true.mp (show(cs.any λk=>SG k.C C)=Pa from o);have e:=QZ e;subst e;exact((mz l).2 k g).2.1
 sb:=λc P r h=>by
  obtain⟨k,g,j,n,rfl,rfl,rfl⟩:=A2 h;exact(((mz l).2 k g).2.2 j n).1
 xH:=λc u r p=>by
  have h:AY cs c u=O7 r:=p;clear p;unfold AY at h;split at h
  .obtain⟨k,g,j,n,rfl,rfl,rfl⟩:=A2 h;exact⟨((mz l).2 k g).1,(((mz l).2 k g).2.2 j n).2⟩
  .cases h
 co:=λi x d f hd=>by
  obtain⟨u,e,b⟩:=DR y f (Option.join_eq_some_iff.mp hd);obtain⟨v,r,is⟩:=b P w;exact⟨u,v,Tj X G e,r,is⟩
 ct:=λi x d f hd A=>by
  have B:(x,O7 d)∈gn.zip ds:=Qd (i:=i) (by rw[TK];exact⟨f,Option.join_eq_some_iff.mp hd⟩);have:=List.all_eq_true.mp s _ B;cases d<;>first|cases A|skip
  dsimp only at this;split at this
  .rename_i a e;split at this
   .rename_i T dt E lk;have:=of_decide_eq_true this;subst this;exact⟨a,_,Tj X G e,lk,rfl,rfl⟩
   .cases this
  .cases this
noncomputable def ux(K:Pj):Sp:=λc H Q _=>∃(a:Pg)(ns:List Int),c=[.ref a]/\d5 K H a (ns.map V.int)/\ns.length<=63/\∀(p q:Pg)(b:Hp),lA b p q 0->tM H b->H p=Pb->Q (.ref p) b
theorem LR{ns:List Int}(h:ns.length<=63):wX (ns.map V.int) Pb (O7 63)=ns.map V.int:=by
 unfold wX;have e:HT.qu (ns.map V.int).length (ns.map V.int).length (O7 63)=ns.length:=by
  have:=HT.B4 (ns.map V.int).length (ns.map V.int).length 63;rw[show((63:Nat):Int)=63 from rfl]at this;rw[this,Pk];omega
 rw[e,HT.yH,List.drop_zero,Nat.sub_zero,SS (by simp)]
section
variable{P:PF}{w:P0}{K:Pj}{mg:PX->Option O_}{base:P7}
theorem DV{x d:PX}{st:RP}{f:Pg}{fd:Rj}{k1 k2 k3:Nat}{p1 L J I G D C B z n:Ro}(F:yQ K x d st f fd)(S:c4 ["_law_script"] ["_law_script"] (ao st))(c:mg "list"=Pb)(hb:cz st=[.Return (O7 (.List [.Call (.Name "list" p1) [.Subscript (.Name "_law_script" L) (.Slice Pb (O7 (.Constant (.int 63) k1 J)) Pb I) G] [] D,.Constant (.int 0) k2 C,.Constant (.int 0) k3 B] z)) n])(R:(ao st).names.lookup (O8 "list")=O7 NameKind.globalImplicit):dM P w K mg base w5 1 f fd ["_law_script"] (ux K):=by
 refine F.ok S (λy H Q E h=>?_) (λU A outer s H y Q E W h=>?_)
 .obtain⟨a,ns,rfl,_⟩:=h;rfl
 .obtain⟨a,ns,rfl,T,v,M⟩:=h;have N:s_ (ao st) "_law_script":=by
   rcases S.par _ Pn with e|e;.exact .inl e
   .exact .inr (.inl e)
  rw[hb];refine⟨_,iV (kU (tE (be (zo (nB oS R c PyProof.Rows.boot_list (be (yI B8 (dg (i:=0) rfl N) B6 (B7 aG)) dh))) (be aG (be aG dh))))),?_⟩;refine⟨_,rfl,63,rfl,a,_,rfl,T,λg r=>?_⟩;rw[LR v];refine⟨g,_,rfl,.inl (d5.of ah),λq O=>⟨q,_,rfl,ah,λo=>?_⟩⟩;refine⟨by show 3<=Pl;decide,λp k=>?_⟩;rw[bF]at k⊢;have m:tM H (upd H g (.lst (ns.map V.int))):=λb o e=>by rw[ai (aF e r)];exact e
  have l:tM (upd H g (.lst (ns.map V.int))) (upd (upd H g (.lst (ns.map V.int))) q (.bQ o (.lst (ns.map V.int)))):=λb o e=>by rw[ai (aF e O)];exact e
  have j:q≠p:=aF (ah (H:=upd H g (.lst (ns.map V.int))) (a:=q) (o:=.bQ o (.lst (ns.map V.int)))) k;have t:H p=Pb:=by cases e:H p with
   |none=>rfl|some u=>rw[l p u (m p u e)]at k;cases k
  refine M p q _ ⟨ns,0,0,⟨ah,⟨o,by rw[ai j];exact ah⟩,j,Yl _,Yl _,v⟩,Yl _⟩ (λb o e=>?_) t;rw[ai (aF (l b o (m b o e)) k)];exact l b o (m b o e)
end
inductive T.nj{α:Type}:Nat->(α->Prop)->T α->Prop where|ok{m:Nat}{P:α->Prop}{a:α}(h:P a):T.nj m P (.ok a)|draw{m:Nat}{P:α->Prop}{n:Int}{k:Int->T α}(h1:0<n)(h2:n<1073741824)(h3:∀i,0<=i->i<n->T.nj m P (k i)):T.nj (m+1) P (.draw n k)|perm{m:Nat}{P:α->Prop}{l:List D}{k:List D->T α}(h:∀l',l'.Perm l->T.nj m P (k l')):T.nj m P (.perm l k)
theorem T.A3{d:Type}{P:d->Prop}{E:Xc->Nat->Prop}{t:T d}{m:Nat}(h:t.nj m P):∀k,k+m<=1000000->t.aC.run k (λa _=>P a) E:=by induction h with
 |ok h=>intro k _;exact h|draw j g l c=>
  intro k e;exact⟨⟨j,g⟩,by omega,λf a b i hi=>c i hi.1 hi.2 f (by omega)⟩|perm h c=>
  intro k e;exactλi hi=>c i hi k e
noncomputable def A4(K:Pj):Sp:=λb H Q _=>∃(a:Pg)(ns:List Int),b=[.ref a]/\d5 K H a (ns.map V.int)/\ns.length<=63/\∀c,Q (.bl Pa) c
section
variable{P:PF}{w:P0}{K:Pj}{mg:PX->Option O_}{base:P7}{g:eN}{defs:List Dk}{b:Gv}
theorem Il{x c:PX}{st:RP}{f:Pg}{fd:Rj}{N:List PX}{r:bC}{rest:List RP}{n m:Nat}{xn Y:PX}{p1 p2 p3 p4 p5:Ro}(T:ki P w K mg base g defs b)(F:yQ K x c st f fd)(S:c4 N ["_law_script"] (ao st))(feed:∃f fd,dM P w K mg base w5 1 f fd ["_law_script"] (ux K)/\mg "_law_feed"=O7 (.ref f)/\Tr K (.ref f)=Pa/\Binds K fd ["_law_script"] [])(hb:cz st=.Assign [.Name xn p1] (.Call (.Name "_law_feed" p2) [.Name Y p3] [] p4) p5::rest)(q1:dq ⟨N,ao st,Pa,[]⟩ 1 xn=Pa)(q2:dE ⟨N,ao st,Pa,[]⟩ 0 Y=Pa)(q3:cL ⟨N,ao st,Pa,[]⟩ "_law_feed"=Pa)(q4:AM g ⟨N,ao st,Pa,[]⟩ r rest)(hm:m<=1000000)(ev:(ay (b.ev (ak defs b (n+1))) r (Pb::O7 .feed::Qy (N.length-2) Pb)).nj m (λfl=>fl=.rt (.bl Pa))):dM P w K mg base w5 (n+2) f fd ["_law_script"] (A4 K):=by
 obtain⟨oc,od,kV,a6,pm,an,C,ct,a0,rfl,lk,A⟩:=F.ex;refine yE lk A S (λvs H Q E h=>?_) λA' outer s H vs Q E y h=>?_
 .obtain⟨a,ns,rfl,_⟩:=h;rfl
 .obtain⟨a,ns,rfl,hS,hn,hQ⟩:=h;have J:∀(p:Pg)(k:Hp),XC g (b.ev (ak defs b (n+1))) ⟨N,ao st,Pa,[]⟩ (ku w5 P w K mg base N c (ao st) f C A' outer s H E) ⟨⟨K,p,P,w⟩,k,0,λ_ _=>False,k,0⟩:=λp k=>⟨rfl,rfl,rfl,rfl,S.nd,rfl,rfl,y.units,λ_ _=>rfl,(λ_ z=>nomatch z),mark_none y.hd,T.bl,λf' x' O=>by
    obtain⟨np,l,B⟩:=ki.all T (n+1) f' x' O;exact⟨np,n+1,y,l,B⟩,yj.never λ_ _ z=>z,λ_=>⟨rfl,rfl⟩,T.cl,T.E3,y.gd,T.sb,T.xH,λi x d hx hd=>let⟨u,v,l,B,X⟩:=T.co i x d hx hd;⟨u,v,l,B,λH hH hp=>X p H hH hp⟩,T.ct,λ_=>⟨_,A⟩⟩;obtain⟨l,B,X⟩:=(J 0 H).loc q1;obtain⟨v1,v2,v3,v4⟩:=(J 0 H).AA q2;obtain⟨g1,g2,g3⟩:=(J 0 H).gl q3;obtain⟨ff,a5,FF,R,U,V⟩:=feed;rw[hb];have rs:qt (ku w5 P w K mg base N c (ao st) f C A' outer s H E) rest (λZ L o=>∃p k,M_ ⟨⟨K,p,P,w⟩,k,0,λ_ _=>False,k,0⟩ (λρ=>(ay (b.ev (ak defs b (n+1))) r ρ).aC) Z L o):=λt s L o D I⟨p,k,z⟩=>(q4 _ _ _ Yb (J p k)).ps t s L o D I z;refine⟨_,bq (bV (i:=1) S.nd l B (B2 (FF.mono (by omega:1<=n+1)) y g1 R U V .nil J4 (be (dg (i:=0) v1 v2 v3 v4) dh) g2) rfl X) rs,?_⟩;refine⟨_,rfl,a,ns,rfl,hS,hn,λp q o fq sm hp=>?_⟩;have lv:o p≠Pb:=by obtain⟨_,_,_,G,_⟩:=fq;rw[G.ob];intro z;cases z
  refine⟨p,o,Pb::O7 .feed::Qy (N.length-2) Pb,0,?_,?_⟩
  .have a4:2<=N.length:=by have:=(List.getElem?_eq_some_iff.mp l).1;exact this
   have only:∀(i:Nat)(d:W),(Pb::O7 W.feed::Qy (N.length-2) Pb:ag)[i]?=O7 (O7 d)->i=1/\d=.feed:=λi d e=>by match i,e with
    |0,e=>cases e|1,e=>exact⟨rfl,by cases e;rfl⟩|i+2,e=>
     simp only[R5]at e;have:=Qd e;rw[List.mem_replicate]at this;cases this.2
   refine⟨?_,λi d e=>?_,λi j d e v a3 a1 a2 o1 o2=>?_,lv,.refl,.refl⟩
   .simp only[start,PM,RT,Wx,P6,Pk,P8];omega
   .obtain⟨rfl,rfl⟩:=only i d e;refine⟨.ref p,?_,rfl,q,fq⟩;rw[Ue];simp only[start,PM,RT,P6,Pk,P8];omega
   .obtain⟨_,rfl⟩:=only i d a1;cases o1
  .refine M.wk (L2.T.A3 ev 0 (by omega)) λfl k' e=>?_;subst e;intro v H2 e1 i;simp only[Is]at i;subst i;exact hQ H2
end
noncomputable def x6(K:Pj)(x:PX):Option (Pg×Rj×List RP):=match RY K Qp x with
 |some (O7 (.ref f))=>(match K.lookup f with
  |some ⟨_,_,.func fd,_⟩=>(match Ie fd with
   |some b=>if RJ K fd.code fd.qualname then O7 (f,fd,b)else Pb|none=>Pb)|_=>Pb)|_=>Pb
noncomputable def jx(t:Pg×Rj×List RP):PX×PX×VQ×List RP×RQ:=(t.2.1.name,t.2.1.qualname,t.2.1.params,t.2.2,t.2.1.scope)
theorem mB{K:Pj}{x y q:PX}{st:RP}{ps:List PX}(h:(x6 K x).map jx=O7 (y,q,dA st,cz st,ao st))(p:sD (dA st) ps=Pa):∃f fd,yQ K y q st f fd/\RY K Qp x=O7 (O7 (.ref f))/\∀us:List O_,us.length=ps.length->XU fd ⟨us,[]⟩=pure (ps.zip us):=by cases e:x6 K x with
 |none=>rw[e]at h;cases h|some t=>
  obtain⟨f,fd,b⟩:=t;rw[e]at h;simp only[Su,jx,R6,TR]at h;obtain⟨v,k,j,u,s⟩:=h;unfold x6 at e;split at e
  .rename_i B en;split at e
   .rename_i i g w a lk;split at e
    .rename_i C l;split at e
     .rename_i r;cases e;have F:=AS lk l r;refine⟨f,fd,⟨?_,F.kp⟩,en,?_⟩
      .obtain⟨i,g,kV,c,o,A,d,ct,a,n,z,m⟩:=F.ex;rw[v,k,show dA (AR fd b)=dA st from j,show cz (AR fd b)=cz st from u,show ao (AR fd b)=ao st from s]at n;rw[k]at m;exact⟨i,g,kV,c,o,A,d,ct,a,n,z,m⟩
      .exact bind_eq l (by rw[j];exact p)
     .cases e
    .cases e
   .cases e
  .cases e
end L2
end
section
namespace K33
open PySem L2 K33d
noncomputable def mC:bC:=(.cons (.fz 2 (.ret (.bi .tuple (.cons (.bi .sorted (.cons (.var 2) .nil)) .nil)))) .nil)
noncomputable def iP:Ex:=(.iH 3 (.EX (.var 3)))
noncomputable def bY:bC:=(.cons (.iff (.iH 2 (.aW .NotIn (.var 6) (.var 2))) (.cons (.add 2 (.var 6)) (.cons (.app 3 (.var 6)) .nil)) .nil) .nil)
noncomputable def dS:bC:=(.cons (.iff (.aW .In (.var 4) (.var 5)) (.cons (.dm (.nm 6) (.ba (.var 5)) bY) .nil) .nil) .nil)
noncomputable def iQ:bC:=(.cons (.pop 4 3) (.cons (.dm (.nm 5) (.ba (.var 0)) dS) .nil))
noncomputable def b_:bC:=(.cons (.iff (.aW .NotIn (.var 2) (.kM 0)) (.cons (.raise 2 (.cons (.cst (.str "an axis is x or y")) .nil)) .nil) .nil) .nil)
noncomputable def dr:Ex:=(.d7 (.aW .Eq (.idx (.idx (.var 2) (.var 0)) (.var 3)) (.idx (.idx (.var 2) (.var 1)) (.var 3))))
noncomputable def du:Ex:=(.tup (.cons (.var 0) (.cons (.var 1) .nil)))
noncomputable def fL:bC:=(.cons (.set 3 (.Jt 0 (.cons (.var 1) .nil))) (.cons (.ret (.lc ["a","b"] [2,3] (.tup 2 (.cons (.nm 0) (.cons (.nm 1) .nil))) (.ba (.idx (.var 0) (.cst (.int 1)))) dr du)) .nil))
noncomputable def A5:bC:=(.cons (.ret (.call 3 (.cons (.call 5 (.cons (.var 0) (.cons (.var 2) .nil))) (.cons (.var 1) .nil)))) .nil)
noncomputable def jy:bC:=(.cons (.set 9 (.Jt 0 (.cons (.var 3) .nil))) (.cons (.ret (.K0 .LtE .LtE (.var 6) (.op .Sub (.idx (.idx (.var 8) (.var 5)) (.var 9)) (.idx (.idx (.var 8) (.var 4)) (.var 9))) (.var 7))) .nil))
noncomputable def jz:Ex:=(.d7 (.pG (.aW .Eq (.var 1) (.var 6)) (.d7 (.aW .Eq (.var 4) (.var 5)))))
noncomputable def jA:Ex:=(.tup (.cons (.var 2) (.cons (.var 3) .nil)))
noncomputable def sE:bC:=(.cons (.ret (.call 3 (.cons (.op .Add (.call 5 (.cons (.var 0) (.cons (.var 3) .nil))) (.call 8 (.cons (.var 1) (.cons (.var 3) .nil)))) (.cons (.var 2) .nil)))) .nil)
noncomputable def sF:bC:=(.cons (.fz 3 (.ret (.var 3))) .nil)
noncomputable def sG:bC:=(.cons (.app 3 (.iH 3 (.op .Add (.op .Add (.idx (.var 3) (.neg (.cst (.int 1)))) (.cst (.int 1))) (.call 10 (.feed 0 (.cons (.var 2) .nil)))))) .nil)
noncomputable def sH:bC:=(.cons (.fz 3 (.ret (.bi .sorted (.cons (.var 3) .nil)))) .nil)
noncomputable def jB:bC:=(.cons (.set 9 (.tup (.cons (.op .Add (.var 5) (.var 7)) (.cons (.op .Sub (.op .Add (.var 6) (.cst (.int 1))) (.var 7)) .nil)))) (.cons (.iff (.pG (.aW .Lt (.idx (.var 9) (.cst (.int 0))) (.var 1)) (.d7 (.aW .Lt (.idx (.var 9) (.cst (.int 1))) (.var 2)))) (.cons (.put 3 (.tup (.cons (.tup (.cons (.var 5) (.cons (.var 6) .nil))) (.cons (.var 9) .nil))) (.cst (.bl Pa))) .nil) .nil) (.cons (.asg (.tup 2 (.cons (.nm 5) (.cons (.nm 6) .nil))) (.var 9)) .nil)))
noncomputable def sI:bC:=(.cons (.par 5 6 (.cons (.call 10 (.feed 0 (.cons (.var 1) .nil))) (.cons (.call 10 (.feed 0 (.cons (.var 2) .nil))) .nil))) (.cons (.set 7 (.call 10 (.feed 0 (.cons (.cst (.int 2)) .nil)))) (.cons (.dm (.nm 8) (.fP (.cons (.op .Add (.cst (.int 1)) (.call 10 (.feed 0 (.cons (.idx (.lst (.cons (.var 2) (.cons (.var 1) .nil))) (.var 7)) .nil)))) .nil)) jB) .nil)))
noncomputable def v9:bC:=(.cons (.fz 1 (.ret (.var 1))) .nil)
noncomputable def kN:bC:=(.cons (.put 1 (.tup (.cons (.var 2) (.cons (.var 3) .nil))) (.iH 1 (.op .Add (.pH (.var 1) (.cons (.tup (.cons (.var 2) (.cons (.var 3) .nil))) (.cons (.lst .nil) .nil))) (.lst (.cons (.bi .int (.cons (.cmp .Eq (.var 2) (.var 4)) .nil)) .nil))))) (.cons (.put 1 (.tup (.cons (.var 4) (.cons (.var 5) .nil))) (.iH 1 (.op .Add (.pH (.var 1) (.cons (.tup (.cons (.var 4) (.cons (.var 5) .nil))) (.cons (.lst .nil) .nil))) (.lst (.cons (.op .Add (.cst (.int 2)) (.bi .int (.cons (.cmp .Eq (.var 2) (.var 4)) .nil))) .nil))))) .nil))
noncomputable def pU:bC:=(.cons (.ret (.var 4)) .nil)
noncomputable def fB:Ex:=(.Ar (.aW .Eq (.var 4) (.var 2)) (.d7 (.aW .NotIn (.var 4) (.var 1))))
noncomputable def fC:bC:=(.cons (.set 5 (.tup (.cons (.op .Add (.idx (.var 4) (.cst (.int 0))) (.var 3)) (.cons (.op .Sub (.op .Add (.idx (.var 4) (.cst (.int 1))) (.cst (.int 1))) (.var 3)) .nil)))) (.cons (.iff (.aW .NotIn (.tup (.cons (.var 4) (.cons (.var 5) .nil))) (.var 0)) (.cons (.ret (.var 2)) .nil) .nil) (.cons (.set 4 (.var 5)) .nil)))
noncomputable def hG:bC:=(.cons (.fz 3 (.ret (.var 3))) .nil)
noncomputable def eZ:bC:=(.cons (.iff (.aW .NotEq (.var 6) (.var 4)) (.cons (.app 3 (.tup (.cons (.var 4) (.cons (.var 6) .nil)))) .nil) .nil) .nil)
noncomputable def hU:bC:=(.cons (.set 6 (.call 15 (.cons (.var 2) (.cons (.var 1) (.cons (.var 4) (.cons (.var 5) .nil)))))) eZ)
noncomputable def hV:bC:=(.cons (.dm (.nm 5) (.fP (.cons (.cst (.int 2)) .nil)) hU) .nil)
noncomputable def hX:Ex:=(.tup (.cons (.var 0) (.cons (.cst (.bl Pa)) .nil)))
noncomputable def A6:bC:=(.cons (.ret (.tup (.cons (.bi .tuple (.cons (.var 4) .nil)) (.cons (.bi .tuple (.cons (.bi .sorted (.cons (.var 5) .nil)) .nil)) .nil)))) .nil)
noncomputable def A7:Ex:=(.tup (.cons (.idx (.var 2) (.var 0)) (.cons (.idx (.var 2) (.var 1)) .nil)))
noncomputable def A8:bC:=(.cons (.set 5 (.lc ["_law_one","_law_other"] [1] (.tup 2 (.cons (.nm 0) (.cons (.nm 1) .nil))) (.ba (.call 16 (.cons (.var 0) (.cons (.bi .sorted (.cons (.var 1) .nil)) .nil)))) .yes A7)) A6)
noncomputable def A9:Ex:=(.tup (.cons (.idx (.var 2) (.tup (.cons (.var 0) (.cons (.var 1) .nil)))) (.cons (.idx (.var 3) (.var 0)) (.cons (.idx (.var 4) (.var 1)) .nil))))
noncomputable def km:bC:=(.cons (.fz 5 (.ret (.var 5))) .nil)
noncomputable def gu:bC:=(.cons (.iff (.Ar (.uo (.EX (.call 14 (.cons (.idx (.var 2) (.var 7)) .nil)))) (.d7 (.aW .Eq (.call 10 (.feed 0 (.cons (.cst (.int 5)) .nil))) (.cst (.int 0))))) (.cons (.put 5 (.var 7) (.op .Mod (.op .Add (.var 3) (.op .Mult (.var 4) (.var 6))) (.cst (.int 1000)))) .nil) .nil) .nil)
noncomputable def gw:bC:=(.cons (.iG 5) (.cons (.dm (.tup 2 (.cons (.nm 6) (.cons (.nm 7) .nil))) (.As (.cons (.bi .sorted (.cons (.var 2) .nil)) .nil)) gu) km))
noncomputable def gx:bC:=(.cons (.par 3 4 (.cons (.call 10 (.feed 0 (.cons (.cst (.int 1000)) .nil))) (.cons (.idx (.lst (.cons (.cst (.int 1)) (.cons (.cst (.int 7)) (.cons (.cst (.int 333)) (.cons (.cst (.int 999)) (.cons (.cst (.int 101)) (.cons (.cst (.int 613)) .nil))))))) (.call 10 (.feed 0 (.cons (.cst (.int 6)) .nil)))) .nil))) (.cons (.iff (.aW .Eq (.call 10 (.feed 0 (.cons (.cst (.int 2)) .nil))) (.cst (.int 0))) (.cons (.asg (.tup 2 (.cons (.nm 3) (.cons (.nm 4) .nil))) (.tup (.cons (.cst (.int 0)) (.cons (.cst (.int 1)) .nil)))) .nil) .nil) gw))
noncomputable def A_:bC:=(.cons (.fz 3 (.ret (.bi .tuple (.cons (.bi .sorted (.cons (.var 3) .nil)) .nil)))) .nil)
noncomputable def mD:bC:=(.cons (.xW 5 2 (.iH 2 (.call 10 (.feed 0 (.cons (.bi .len (.cons (.var 2) .nil)) .nil))))) (.cons (.par 6 7 (.cons (.idx (.idx (.var 1) (.cst (.int 0))) (.call 10 (.feed 0 (.cons (.bi .len (.cons (.idx (.var 1) (.cst (.int 0))) .nil)) .nil)))) (.cons (.idx (.idx (.var 1) (.cst (.int 0))) (.call 10 (.feed 0 (.cons (.bi .len (.cons (.idx (.var 1) (.cst (.int 0))) .nil)) .nil)))) .nil))) (.cons (.set 8 (.call 10 (.feed 0 (.cons (.cst (.int 2)) .nil)))) (.cons (.set 9 (.op .Sub (.idx (.var 7) (.op .Add (.cst (.int 1)) (.var 8))) (.idx (.var 6) (.op .Add (.cst (.int 1)) (.var 8))))) (.cons (.asg (.tup 2 (.cons (.nm 10) (.cons (.nm 11) .nil))) (.idx (.lst (.cons (.tup (.cons (.cst (.int 0)) (.cons (.cst (.int 0)) .nil))) (.cons (.tup (.cons (.cst (.int 0)) (.cons (.cst (.int 0)) .nil))) (.cons (.tup (.cons (.cst (.int 0)) (.cons (.cst (.int 1)) .nil))) (.cons (.tup (.cons (.cst (.int 2)) (.cons (.cst (.int 0)) .nil))) (.cons (.tup (.cons (.cst (.int 3)) (.cons (.cst (.int 9)) .nil))) .nil)))))) (.call 10 (.feed 0 (.cons (.cst (.int 5)) .nil))))) (.cons (.par 12 13 (.cons (.bi .max (.cons (.neg (.op .Pow (.cst (.int 10)) (.cst (.int 6)))) (.cons (.op .Sub (.var 9) (.var 10)) .nil))) (.cons (.bi .min (.cons (.op .Pow (.cst (.int 10)) (.cst (.int 6))) (.cons (.op .Add (.var 9) (.var 11)) .nil))) .nil))) (.cons (.app 3 (.tup (.cons (.var 5) (.cons (.idx (.lst (.cons (.cst (.str "x")) (.cons (.cst (.str "y")) .nil))) (.var 8)) (.cons (.idx (.var 6) (.cst (.int 0))) (.cons (.idx (.var 7) (.cst (.int 0))) (.cons (.var 12) (.cons (.var 13) .nil)))))))) .nil)))))))
noncomputable def sJ:Ex:=(.op .Add (.cst (.str "d")) (.var 0))
noncomputable def sL:Ex:=(.op .Add (.cst (.str "e")) (.var 0))
noncomputable def jW:bC:=(.cons (.fz 6 (.ret (.bi .tuple (.cons (.bi .sortI (.cons (.var 6) .nil)) .nil)))) .nil)
noncomputable def pV:bC:=(.cons (.iff (.Ar (.iH 6 (.aW .In (.var 8) (.var 6))) (.d7 (.iH 6 (.aW .In (.var 9) (.var 6))))) (.cons (.put 6 (.var 8) (.cst (.bl Pa))) (.cons (.put 6 (.var 9) (.cst (.bl Pa))) .nil)) .nil) .nil)
noncomputable def gy:bC:=(.cons (.dm (.tup 2 (.cons (.nm 8) (.cons (.nm 9) .nil))) (.ba (.var 5)) pV) .nil)
noncomputable def gz:Ex:=(.d7 (.pG (.aW .Eq (.idx (.var 0) (.cst (.int 1))) (.var 1)) (.d7 (.aW .Eq (.idx (.var 0) (.cst (.int 4))) (.idx (.var 0) (.cst (.int 5)))))))
noncomputable def gA:Ex:=(.tup (.cons (.idx (.var 0) (.cst (.int 2))) (.cons (.idx (.var 0) (.cst (.int 3))) .nil)))
noncomputable def mE:Ex:=(.d7 (.aW .Eq (.idx (.var 2) (.var 0)) (.idx (.var 2) (.var 1))))
noncomputable def mF:Ex:=(.tup (.cons (.var 0) (.cons (.var 1) .nil)))
noncomputable def jX:Ex:=(.tup (.cons (.var 0) (.cons (.idx (.lst (.cons (.var 1) (.cons (.var 2) .nil))) (.bi .int (.cons (.cmp .Eq (.var 3) (.cst (.str "y"))) .nil))) .nil)))
noncomputable def Im:bC:=(.cons (.iff (.aW .Is (.var 4) (.cst (.bH))) (.cons (.ret (.var 5)) .nil) .nil) (.cons (.ret (.lst (.cons (.Js 1 (.var 4)) (.cons (.Js 2 (.var 4)) .nil)))) .nil))
noncomputable def pX:bC:=(.cons (.ret (.and (.cmp .Eq (.call 21 (.cons (.var 4) (.cons (.var 5) (.cons (.var 7) (.cons (.cst (.str "z")) .nil))))) (.lst (.cons (.cst (.bl Pc)) (.cons (.cst (.bl Pa)) .nil)))) (.one (.cmp .Eq (.call 21 (.cons (.var 4) (.cons (.var 5) (.cons (.var 7) (.cons (.cst (.bH)) .nil))))) (.lst (.cons (.cst (.bl Pc)) (.cons (.cst (.bl Pa)) .nil))))))) .nil)
noncomputable def pY:bC:=(.cons (.set 7 (.idx (.idx (.idx (.var 4) (.cst (.int 0))) (.cst (.int 0))) (.cst (.int 0)))) (.cons (.iff (.Ar (.aW .NotEq (.call 21 (.cons (.var 4) (.cons (.var 5) (.cons (.cst (.int 1000)) (.cons (.cst (.str "z")) .nil))))) (.lst (.cons (.cst (.bl Pa)) (.cons (.cst (.bl Pc)) .nil)))) (.d7 (.aW .NotEq (.call 21 (.cons (.var 4) (.cons (.var 5) (.cons (.cst (.bl Pa)) (.cons (.cst (.str "x")) .nil))))) (.lst (.cons (.cst (.bl Pa)) (.cons (.cst (.bl Pc)) .nil)))))) (.cons (.ret (.cst (.bl Pc))) .nil) .nil) pX))
noncomputable def v_:bC:=(.cons (.iff (.aW .NotEq (.bi .repr (.cons (.call 9 (.cons (.var 4) (.cons (.tup .nil) (.cons (.var 7) (.cons (.var 8) .nil))))) .nil)) (.bi .repr (.cons (.call 6 (.cons (.var 4) (.cons (.var 7) (.cons (.var 8) .nil)))) .nil))) (.cons (.ret (.cst (.bl Pc))) .nil) .nil) .nil)
noncomputable def wa:bC:=(.cons (.iff (.aW .NotEq (.bi .repr (.cons (.call 21 (.cons (.var 4) (.cons (.var 5) (.cons (.var 7) (.cons (.var 8) .nil))))) .nil)) (.var 9)) (.cons (.ret (.cst (.bl Pc))) .nil) .nil) v_)
noncomputable def fD:bC:=(.cons (.set 9 (.bi .repr (.cons (.call 20 (.cons (.var 4) (.cons (.var 5) (.cons (.var 7) (.cons (.var 8) .nil))))) .nil))) wa)
noncomputable def pZ:bC:=(.cons (.set 7 (.idx (.idx (.idx (.var 4) (.cst (.int 0))) (.call 10 (.feed 0 (.cons (.bi .len (.cons (.idx (.var 4) (.cst (.int 0))) .nil)) .nil)))) (.cst (.int 0)))) (.cons (.dm (.nm 8) (.ba (.tup (.cons (.cst (.str "x")) (.cons (.cst (.str "y")) .nil)))) fD) .nil))
noncomputable def wb:bC:=(.cons (.dm (.nm 6) (.fP (.cons (.cst (.int 12)) .nil)) pZ) pY)
noncomputable def gM:Ex:=(.d7 (.aW .IsNot (.call 7 (.cons (.var 1) (.cons (.var 0) .nil))) (.cst (.bl Pa))))
noncomputable def jC:Ex:=(.var 0)
noncomputable def kO:bC:=(.cons (.iff (.aW .NotEq (.lc ["_law_hold"] [4] (.nm 0) (.ba (.var 5)) gM jC) (.lst .nil)) (.cons (.ret (.cst (.bl Pc))) .nil) .nil) wb)
noncomputable def mG:bC:=(.cons (.iff (.aW .Eq (.idx (.var 4) (.cst (.int 0))) (.tup .nil)) (.cons (.ret (.cst (.bl Pa))) .nil) .nil) (.cons (.set 5 (.call 19 (.feed 0 (.cons (.var 4) .nil)))) kO))
noncomputable def sM:bC:=(.cons (.set 4 (.call 17 (.cons (.var 3) (.cons (.call 18 (.feed 0 (.cons (.var 3) .nil))) (.cons (.call 11 (.feed 0 (.cons (.var 1) .nil))) (.cons (.call 11 (.feed 0 (.cons (.var 2) .nil))) .nil)))))) mG)
noncomputable def Ba:bC:=(.cons (.ret (.cst (.bl Pa))) .nil)
noncomputable def Bb:bC:=(.cons (.iff (.uo (.EX (.call 22 (.feed 1 .nil)))) (.cons (.ret (.cst (.bl Pc))) .nil) .nil) .nil)
noncomputable def sN:Df:=⟨1,1,(.cons (.ret (.and (.Jr "int" (.var 0)) (.one (.not (.Jr "bool" (.var 0)))))) .nil)⟩
noncomputable def wc:Df:=⟨1,1,(.cons (.ret (.dc ["c","x","y"] [] (.tup 3 (.cons (.nm 0) (.cons (.nm 1) (.cons (.nm 2) .nil)))) (.ba (.idx (.var 0) (.cst (.int 0)))) .yes (.var 0) (.tup (.cons (.var 1) (.cons (.var 2) .nil))))) .nil)⟩
noncomputable def cM:Df:=⟨2,2,(.cons (.ret (.and (.call 0 (.cons (.var 1) .nil)) (.one (.cmp .In (.var 1) (.call 1 (.cons (.var 0) .nil)))))) .nil)⟩
noncomputable def jY:Df:=⟨2,7,(.cons (.vV 2 1) (.cons (.kz 3 (.cons (.var 1) .nil)) (.cons (.HB iP iQ) mC)))⟩
noncomputable def aK:Df:=⟨3,3,(.cons (.iff (.uo (.EX (.call 2 (.cons (.var 0) (.cons (.var 1) .nil))))) (.cons (.raise 1 (.cons (.cst (.str "there is no such corner")) .nil)) .nil) .nil) b_)⟩
noncomputable def dU:Df:=⟨2,4,(.cons (.set 2 (.call 1 (.cons (.var 0) .nil))) fL)⟩
noncomputable def Bc:Df:=⟨3,3,(.cons (.expr (.call 4 (.cons (.var 0) (.cons (.var 1) (.cons (.var 2) .nil))))) A5)⟩
noncomputable def gB:Df:=⟨2,10,(.cons (.asg (.tup 6 (.cons (.nm 2) (.cons (.nm 3) (.cons (.nm 4) (.cons (.nm 5) (.cons (.nm 6) (.cons (.nm 7) .nil))))))) (.var 1)) (.cons (.set 8 (.call 1 (.cons (.var 0) .nil))) jy))⟩
noncomputable def Bd:Df:=⟨2,2,(.cons (.ret (.lc ["name","own","c","d","least","most"] [1] (.tup 6 (.cons (.nm 0) (.cons (.nm 1) (.cons (.nm 2) (.cons (.nm 3) (.cons (.nm 4) (.cons (.nm 5) .nil))))))) (.ba (.var 0)) jz jA)) .nil)⟩
noncomputable def jD:Df:=⟨4,4,(.cons (.expr (.call 4 (.cons (.var 0) (.cons (.var 2) (.cons (.var 3) .nil))))) sE)⟩
noncomputable def fE:Df:=⟨2,5,(.cons (.set 2 (.idx (.lst (.cons (.cst (.int 1)) (.cons (.cst (.int 3)) (.cons (.cst (.int 90000)) .nil)))) (.call 10 (.feed 0 (.cons (.cst (.int 3)) .nil))))) (.cons (.kz 3 (.cons (.call 10 (.feed 0 (.cons (.var 2) .nil))) .nil)) (.cons (.dm (.nm 4) (.fP (.cons (.op .Sub (.var 1) (.cst (.int 1))) .nil)) sG) sF)))⟩
noncomputable def fF:Df:=⟨3,10,(.cons (.iG 3) (.cons (.dm (.nm 4) (.fP (.cons (.op .Add (.cst (.int 1)) (.call 10 (.feed 0 (.cons (.cst (.int 12)) .nil)))) .nil)) sI) sH))⟩
noncomputable def gC:Df:=⟨1,6,(.cons (.iG 1) (.cons (.dm (.tup 2 (.cons (.tup 2 (.cons (.nm 2) (.cons (.nm 3) .nil))) (.cons (.tup 2 (.cons (.nm 4) (.cons (.nm 5) .nil))) .nil))) (.ba (.var 0)) kN) v9))⟩
noncomputable def bZ:Df:=⟨1,1,(.cons (.ret (.cmp .In (.bi .sorted (.cons (.var 0) .nil)) (.tup (.cons (.lst (.cons (.cst (.int 0)) (.cons (.cst (.int 2)) .nil))) (.cons (.lst (.cons (.cst (.int 1)) (.cons (.cst (.int 3)) .nil))) .nil))))) .nil)⟩
noncomputable def cZ:Df:=⟨4,6,(.cons (.set 4 (.var 2)) (.cons (.HB fB fC) pU))⟩
noncomputable def cO:Df:=⟨2,7,(.cons (.set 2 (.bi .dict (.cons (.lc ["_law_edge"] [] (.nm 0) (.ba (.var 0)) .yes hX) .nil))) (.cons (.kz 3 .nil) (.cons (.dm (.nm 4) (.ba (.var 1)) hV) hG)))⟩
noncomputable def iR:Df:=⟨4,6,(.cons (.set 4 (.bi .sorted (.cons (.lc ["_law_i","_law_j"] [1,2,3] (.tup 2 (.cons (.nm 0) (.cons (.nm 1) .nil))) (.ba (.bi .sorted (.cons (.var 1) .nil))) .yes A9) .nil))) A8)⟩
noncomputable def dv:Df:=⟨2,8,(.cons (.set 2 (.call 13 (.cons (.var 1) .nil))) gx)⟩
noncomputable def fG:Df:=⟨2,14,(.cons (.kz 2 (.cons (.cst (.str "b")) (.cons (.cst (.str "wide")) (.cons (.cst (.str "aa")) (.cons (.cst (.str "zz")) (.cons (.cst (.str "x")) (.cons (.cst (.str "room")) (.cons (.cst (.str "c")) (.cons (.cst (.str "yard")) (.cons (.cst (.str "m")) .nil)))))))))) (.cons (.fz 2 (.Av 2 (.op .Add (.op .Add (.var 2) (.lc ["_law_name"] [] (.nm 0) (.ba (.var 2)) .yes sJ)) (.lc ["_law_name"] [] (.nm 0) (.ba (.var 2)) .yes sL)) (.lst (.cons (.cst (.str "hall")) (.cons (.cst (.str "n")) (.cons (.cst (.str "o")) .nil)))))) (.cons (.kz 3 .nil) (.cons (.dm (.nm 4) (.fP (.cons (.call 10 (.feed 0 (.cons (.idx (.lst (.cons (.cst (.int 10)) (.cons (.cst (.int 31)) .nil))) (.call 10 (.feed 0 (.cons (.cst (.int 2)) .nil)))) .nil))) .nil)) mD) A_))))⟩
noncomputable def iS:Df:=⟨4,10,(.cons (.set 4 (.bi .dict (.cons (.lc ["_law_e","_law_x","_law_y"] [3] (.tup 3 (.cons (.nm 0) (.cons (.nm 1) (.cons (.nm 2) .nil)))) (.ba (.idx (.var 0) (.cst (.int 0)))) .yes jX) .nil))) (.cons (.set 5 (.lc ["_law_a","_law_b"] [4] (.tup 2 (.cons (.nm 0) (.cons (.nm 1) .nil))) (.ba (.idx (.var 0) (.cst (.int 1)))) mE mF)) (.cons (.set 5 (.op .Add (.var 5) (.lc ["_law_hold"] [3] (.nm 0) (.ba (.var 1)) gz gA))) (.cons (.kg 6 2 Pa) (.cons (.dm (.nm 7) (.fP (.cons (.op .Add (.bi .len (.cons (.idx (.var 0) (.cst (.int 0))) .nil)) (.cst (.int 1))) .nil)) gy) jW)))))⟩
noncomputable def dW:Df:=⟨4,7,(.cons (.asg (.tup 2 (.cons (.nm 4) (.cons (.nm 5) .nil))) (.tup (.cons (.cst (.bH)) (.cons (.cst (.bH)) .nil)))) (.cons (.Au (.cons (.set 5 (.call 9 (.cons (.var 0) (.cons (.var 1) (.cons (.var 2) (.cons (.var 3) .nil)))))) .nil) 0 6 4 (.slot 6)) Im))⟩
noncomputable def gD:Df:=⟨1,10,(.cons (.par 1 2 (.cons (.op .Add (.cst (.int 2)) (.call 10 (.feed 0 (.cons (.cst (.int 6)) .nil)))) (.cons (.op .Add (.cst (.int 2)) (.call 10 (.feed 0 (.cons (.cst (.int 5)) .nil)))) .nil))) (.cons (.set 3 (.call 12 (.feed 0 (.cons (.var 1) (.cons (.var 2) .nil))))) sM))⟩
noncomputable def dn:List PX:=[O8 "is_number",O8 "spots",O8 "has_corner",O8 "reached",O8 "look_corner_and_axis",O8 "walls_across",O8 "run",O8 "does_hold",O8 "ties",O8 "group",O8 "_law_draw",O8 "_law_table",O8 "_law_edges",O8 "_law_ways",O8 "_law_is_straight",O8 "_law_shut_from",O8 "_law_shuts_here",O8 "_law_net",O8 "_law_numbered",O8 "_law_holds",O8 "_law_due",O8 "_law_met",O8 "_law_bout"]
noncomputable def gn:List PX:=[O8 "AXES"]
noncomputable def cn:List PX:=[O8 "PlanError",O8 "NoCorner",O8 "NoAxis"]
noncomputable def MB:eN:=⟨dn,gn,cn⟩
noncomputable def MD:List (Option D):=[O7 (D.tup [(D.str "x"),(D.str "y")])]
noncomputable def ents:List En:=[⟨O8 "is_number",[O8 "thing"],[O8 "thing"],.df sN⟩,⟨O8 "spots",[O8 "net"],[O8 "net"],.df wc⟩,⟨O8 "has_corner",[O8 "net",O8 "thing"],[O8 "net",O8 "thing"],.df cM⟩,⟨O8 "reached",[O8 "walls",O8 "start",O8 "seen",O8 "waiting",O8 "corner",O8 "wall",O8 "end"],[O8 "walls",O8 "start"],.df jY⟩,⟨O8 "look_corner_and_axis",[O8 "net",O8 "c",O8 "axis"],[O8 "net",O8 "c",O8 "axis"],.df aK⟩,⟨O8 "walls_across",[O8 "net",O8 "axis",O8 "at",O8 "place"],[O8 "net",O8 "axis"],.df dU⟩,⟨O8 "run",[O8 "net",O8 "c",O8 "axis"],[O8 "net",O8 "c",O8 "axis"],.df Bc⟩,⟨O8 "does_hold",[O8 "net",O8 "hold",O8 "name",O8 "axis",O8 "c",O8 "d",O8 "least",O8 "most",O8 "at",O8 "place"],[O8 "net",O8 "hold"],.df gB⟩,⟨O8 "ties",[O8 "holds",O8 "axis"],[O8 "holds",O8 "axis"],.df Bd⟩,⟨O8 "group",[O8 "net",O8 "holds",O8 "c",O8 "axis"],[O8 "net",O8 "holds",O8 "c",O8 "axis"],.df jD⟩,⟨O8 "_law_draw",[O8 "_law_feed_here",O8 "_law_many",O8 "_law_got",O8 "_law_at",O8 "_law_cell",O8 "_law_number"],[O8 "_law_feed_here",O8 "_law_many"],.wit vZ⟩,⟨O8 "_law_table",[O8 "_law_feed_here",O8 "_law_many",O8 "_law_far",O8 "_law_found",O8 "_law_k"],[O8 "_law_feed_here",O8 "_law_many"],.df fE⟩,⟨O8 "_law_edges",[O8 "_law_feed_here",O8 "_law_wide",O8 "_law_high",O8 "_law_found",O8 "_law_turn",O8 "_law_i",O8 "_law_j",O8 "_law_level",O8 "_law_k",O8 "_law_other"],[O8 "_law_feed_here",O8 "_law_wide",O8 "_law_high"],.df fF⟩,⟨O8 "_law_ways",[O8 "_law_edges_here",O8 "_law_found",O8 "_law_i",O8 "_law_j",O8 "_law_u",O8 "_law_v"],[O8 "_law_edges_here"],.df gC⟩,⟨O8 "_law_is_straight",[O8 "_law_leaving"],[O8 "_law_leaving"],.df bZ⟩,⟨O8 "_law_shut_from",[O8 "_law_known",O8 "_law_points",O8 "_law_one",O8 "_law_level",O8 "_law_here",O8 "_law_there"],[O8 "_law_known",O8 "_law_points",O8 "_law_one",O8 "_law_level"],.df cZ⟩,⟨O8 "_law_shuts_here",[O8 "_law_edges_here",O8 "_law_points",O8 "_law_known",O8 "_law_found",O8 "_law_one",O8 "_law_level",O8 "_law_other"],[O8 "_law_edges_here",O8 "_law_points"],.df cO⟩,⟨O8 "_law_net",[O8 "_law_edges_here",O8 "_law_numbers",O8 "_law_xs",O8 "_law_ys",O8 "_law_corners",O8 "_law_shuts"],[O8 "_law_edges_here",O8 "_law_numbers",O8 "_law_xs",O8 "_law_ys"],.df iR⟩,⟨O8 "_law_numbered",[O8 "_law_feed_here",O8 "_law_edges_here",O8 "_law_leaving",O8 "_law_begin",O8 "_law_step",O8 "_law_found",O8 "_law_k",O8 "_law_point"],[O8 "_law_feed_here",O8 "_law_edges_here"],.df dv⟩,⟨O8 "_law_holds",[O8 "_law_feed_here",O8 "_law_net_here",O8 "_law_names",O8 "_law_found",O8 "_law_k",O8 "_law_name",O8 "_law_c",O8 "_law_d",O8 "_law_axis",O8 "_law_apart",O8 "_law_less",O8 "_law_more",O8 "_law_least",O8 "_law_most"],[O8 "_law_feed_here",O8 "_law_net_here"],.df fG⟩,⟨O8 "_law_due",[O8 "_law_net_here",O8 "_law_holds_here",O8 "_law_c",O8 "_law_axis",O8 "_law_spots",O8 "_law_pairs",O8 "_law_found",O8 "_law_turn",O8 "_law_a",O8 "_law_b"],[O8 "_law_net_here",O8 "_law_holds_here",O8 "_law_c",O8 "_law_axis"],.df iS⟩,⟨O8 "_law_met",[O8 "_law_net_here",O8 "_law_holds_here",O8 "_law_c",O8 "_law_axis",O8 "_law_kept",O8 "_law_told",O8 "_law_e"],[O8 "_law_net_here",O8 "_law_holds_here",O8 "_law_c",O8 "_law_axis"],.df dW⟩,⟨O8 "_law_bout",[O8 "_law_feed_here",O8 "_law_wide",O8 "_law_high",O8 "_law_edges_here",O8 "_law_net_here",O8 "_law_holds_here",O8 "_law_turn",O8 "_law_c",O8 "_law_axis",O8 "_law_due_here"],[O8 "_law_feed_here"],.df gD⟩]
noncomputable def uy:List PX:=[O8 "_law_script",O8 "_law_feed_here",O8 "_law_bout_here"]
noncomputable def rest:bC:=(.cons (.dm (.nm 2) (.fP (.cons (.cst (.int 3)) .nil)) Bb) Ba)
noncomputable def defs:List Dk:=ents.map (·.k)
noncomputable def NR:List Kl:=[⟨24,[24]⟩,⟨37,[24,37]⟩,⟨49,[24,49]⟩]
noncomputable def gv:Gv:=LQ MD NR
end K33
end
section
namespace K33
open PySem L2
theorem Om(p:UZ):Ol (head.heap_39 p)=Pa:=by kernel_rfl
theorem OQ(p:UZ):qx (head.heap_39 p) cn NR=Pa:=by kernel_rfl
theorem OR(p:UZ):Ij (head.heap_39 p) gn MD=Pa:=by kernel_rfl
theorem OS(p:UZ):Oj (head.heap_39 p) gn MD=Pa:=by kernel_rfl
theorem OT(p:UZ):Ih (head.heap_39 p) MB ents=Pa:=by kernel_rfl
end K33
end
section
namespace K33
open PySem L2
noncomputable abbrev parts(s:PX)(st:RP):Option (PX×PX×VQ×List RP×RQ):=O7 (s,s,dA st,cz st,ao st)
theorem OU(p:UZ):(x6 (head.heap_39 p) "_law_feed").map jx=parts "_law_feed" K33d.AN:=by kernel_rfl
theorem NS:sD (dA K33d.AN) ["_law_script"]=Pa:=by kernel_rfl
theorem OV(p:UZ):(x6 (head.heap_39 p) "law").map jx=parts "law" K33d.sC:=by kernel_rfl
theorem NU:sD (dA K33d.sC) ["_law_script"]=Pa:=by kernel_rfl
theorem NV:(E5 MB ⟨uy,ao K33d.sC,Pa,[]⟩ rest (cz K33d.sC).tail).ok=Pa:=by kernel_rfl
theorem NW:Mz uy ["_law_script"] (ao K33d.sC)=Pa:=by kernel_rfl
theorem NX:dq ⟨uy,ao K33d.sC,Pa,[]⟩ 1 "_law_feed_here"=Pa:=by kernel_rfl
theorem NY:dE ⟨uy,ao K33d.sC,Pa,[]⟩ 0 "_law_script"=Pa:=by kernel_rfl
theorem NZ:cL ⟨uy,ao K33d.sC,Pa,[]⟩ "_law_feed"=Pa:=by kernel_rfl
theorem OW:dn=ents.map (·.x):=by kernel_rfl
theorem OX(p:UZ):(x6 (head.heap_39 p) "_law_draw").map jx=parts "_law_draw" K33d.sA:=by kernel_rfl
theorem N0:sD (dA K33d.sA) ["_law_feed_here","_law_many"]=Pa:=by kernel_rfl
section
variable{P:PF}{w:P0}{mg:PX->Option O_}{base h:P7}{p:UZ}
theorem Be(X:U3 (head.heap_39 p) h)(G:h.Ns Qp mg)(a:mg "len"=Pb):Jv P w (head.heap_39 p) mg base "_law_draw" 2 K33d.vZ:=by
 obtain⟨f,fd,F,e,B⟩:=mB (OX p) N0;exact K33d.AO F a (Tj X G e) (.all B)
theorem DW(X:U3 (head.heap_39 p) h)(G:h.Ns Qp mg)(a:mg "list"=Pb):∃f fd,dM P w (head.heap_39 p) mg base w5 1 f fd ["_law_script"] (ux (head.heap_39 p))/\mg "_law_feed"=O7 (.ref f)/\Tr (head.heap_39 p) (.ref f)=Pa/\Binds (head.heap_39 p) fd ["_law_script"] []:=by
 obtain⟨f,fd,F,e,B⟩:=mB (OU p) NS;exact⟨f,fd,DV F K33d.Ib a rfl rfl,Tj X G e,F.kp,.all B⟩
end
end K33
end
section
namespace K33
open PySem L2
noncomputable def wd(e:En):Bool:=match e.k with
 |.wit _=>Pa|.df _=>Pc
theorem N1:(ents.filter wd).map (λe=>(e.x,e.k))=[(O8 "_law_draw",.wit K33d.vZ)]:=by kernel_rfl
theorem txt{P:PF}{w:P0}{mg:PX->Option O_}{base h:P7}(X:U3 (head.heap_39 w.params) h)(G:h.Ns Qp mg):ki P w (head.heap_39 w.params) mg base MB defs gv:=by
 have b:mg "len"=Pb:=by
  have:=List.all_eq_true.mp (Om w.params) (O8 "len") (by simp[dF]);split at this;.rename_i e;exact XM X G e
  .cases this
 refine Ik (ds:=MD) (cs:=NR) X G OW (OT w.params) (OR w.params) (OS w.params) (OQ w.params) (Om w.params) λe j t g=>?_;have i:e∈ents.filter wd:=List.mem_filter.mpr ⟨j,by unfold wd;rw[g]⟩;have a:(e.x,e.k)∈(ents.filter wd).map λe=>(e.x,e.k):=SF (f:=λe:En=>(e.x,e.k)) i;rw[N1]at a;have d:=List.mem_singleton.mp a;injection d with l c;rw[g]at c;injection c with c;subst c;rw[l];exact⟨2,Be X G b⟩
theorem LS(whole:(ay (gv.ev (ak defs gv 39)) rest (Pb::O7 .feed::Qy (uy.length-2) Pb)).nj 1000000 (λd=>d=.rt (.bl Pa)))(p:UZ):∃f fd,RY (head.heap_39 p) Qp "law"=O7 (O7 (.ref f))/\(∀us:List O_,us.length=1->XU fd ⟨us,[]⟩=pure ([O8 "_law_script"].zip us))/\∀{P:PF}{w:P0}{mg:PX->Option O_}{base:P7},w.params=p->U3 (head.heap_39 p) base->base.Ns Qp mg->dM P w (head.heap_39 p) mg base w5 40 f fd ["_law_script"] (A4 (head.heap_39 p)):=by
 obtain⟨f,fd,F,c,b⟩:=mB (OV p) NU;refine⟨f,fd,c,b,λ{P w mg base}a X G=>?_⟩;subst a;have T:ki P w (head.heap_39 w.params) mg base MB defs gv:=txt X G;exact Il (n:=38) (m:=1000000) T F (AV NW) (DW X G (T.bl _ (HD rfl))) rfl NX NY NZ (Ch.of NV) (by decide) whole
end K33
end
section
namespace L2
namespace T
variable{α β:Type}
noncomputable def wp:T α->Nat->(α->Nat->Prop)->Prop
 |.ok a,m,Q=>Q a m|.exc _,_,_=>False|.stuck,_,_=>False|.draw n k,m,Q=>0<n/\n<1073741824/\0<m/\∀i,0<=i->i<n->(k i).wp (m-1) Q|.perm l k,m,Q=>∀b,b.Perm l->(k b).wp m Q
theorem p0{P:α->Prop}:∀{t:T α}{m:Nat},t.wp m (λa _=>P a)->t.nj m P
 |.ok a,m,h=>.ok h|.exc _,_,h=>h.elim|.stuck,_,h=>h.elim|.draw n k,m,h=>by
  obtain⟨f,e,g,d⟩:=h;cases m with
  |zero=>omega|succ m=>exact .draw f e λi a b=>p0 (d i a b)
 |.perm l k,m,h=>.perm λc p=>p0 (h c p)
theorem wp_mono{Q c:α->Nat->Prop}(q:∀a m,Q a m->c a m):∀{t:T α}{m:Nat},t.wp m Q->t.wp m c
 |.ok a,m,h=>q _ _ h|.exc _,_,h=>h.elim|.stuck,_,h=>h.elim|.draw n k,m,h=>⟨h.1,h.2.1,h.2.2.1,λi a b=>wp_mono q (h.2.2.2 i a b)⟩|.perm l k,m,h=>λd p=>wp_mono q (h d p)
theorem bz(a:α)(m:Nat)(Q:α->Nat->Prop):(T.ok a).wp m Q=Q a m:=rfl
theorem wp_pure(a:α)(m:Nat)(Q:α->Nat->Prop):(pure a:T α).wp m Q=Q a m:=rfl
theorem wp_bind(f:α->T β):∀(t:T α)(m:Nat)(Q:β->Nat->Prop),(t>>=f).wp m Q=t.wp m (λa b=>(f a).wp b Q)
 |.ok a,m,Q=>rfl|.exc _,_,_=>rfl|.stuck,_,_=>rfl|.draw n k,m,Q=>by
  show(0<n/\n<1073741824/\0<m/\∀i,0<=i->i<n->(k i>>=f).wp (m-1) Q)=(0<n/\n<1073741824/\0<m/\∀i,0<=i->i<n->(k i).wp (m-1) λa b=>(f a).wp b Q);simp only[wp_bind f]|.perm l k,m,Q=>by
  show(∀c,c.Perm l->(k c>>=f).wp m Q)=(∀c,c.Perm l->(k c).wp m λa b=>(f a).wp b Q);simp only[wp_bind f]
theorem wp_at(ρ:ag):∀(t:T α)(m:Nat)(Q:α->Nat->Prop),(t.at' ρ).wp m Q=t.wp m Q
 |.ok a,m,Q=>rfl|.exc _,_,_=>rfl|.stuck,_,_=>rfl|.draw n k,m,Q=>by
  show(0<n/\n<1073741824/\0<m/\∀i,0<=i->i<n->((k i).at' ρ).wp (m-1) Q)=_;simp only[wp_at ρ];rfl|.perm l k,m,Q=>by
  show(∀b,b.Perm l->((k b).at' ρ).wp m Q)=_;simp only[wp_at ρ];rfl
theorem kP(b:Bool)(m:Nat)(Q:Unit->Nat->Prop):(T.need b).wp m Q=(b=Pa/\Q () m):=by
 unfold T.need;cases b with
 |true=>simp[wp]|false=>simp[wp]
theorem Io(o:Option α)(m:Nat)(Q:α->Nat->Prop):(T.get o).wp m Q=∃a,o=O7 a/\Q a m:=by cases o with
 |none=>simp[T.get,wp]|some a=>simp[T.get,wp]
theorem bA(a:α)(m:Nat)(Q:α->Nat->Prop):(T.get (O7 a)).wp m Q=Q a m:=rfl
theorem dG(n:Int)(k:Int->T α)(m:Nat)(Q:α->Nat->Prop):(T.draw n k).wp m Q=(0<n/\n<1073741824/\0<m/\∀i,0<=i->i<n->(k i).wp (m-1) Q):=rfl
theorem DX(l:List D)(k:List D->T α)(m:Nat)(Q:α->Nat->Prop):(T.perm l k).wp m Q=∀a,a.Perm l->(k a).wp m Q:=rfl
theorem DY(b:Bool)(x y:T α)(m:Nat)(Q:α->Nat->Prop):(if b=Pa then x else y).wp m Q=if b=Pa then x.wp m Q else y.wp m Q:=by split<;>rfl
end T
theorem wp_call{t:T D}{m:Nat}{Q b:D->Nat->Prop}(h:t.wp m Q)(q:∀a m,Q a m->b a m):t.wp m b:=T.wp_mono q h
theorem dw{g:D->ag->T ag}{body:ag->T Fl}{Q:Fl->Nat->Prop}(I:List D->ag->Nat->Prop)(step:∀d ds ρ m,I (d::ds) ρ m->(g d ρ).wp m λc j=>(body c).wp j λi e=>match i with
   |.nx a=>I ds a e|.ct a=>I ds a e|.bk a=>Q (.nx a) e|.rt r=>Q (.rt r) e)(b:∀ρ m,I [] ρ m->Q (.nx ρ) m):∀{ds:List D}{ρ:ag}{m:Nat},I ds ρ m->(fA g body ds ρ).wp m Q
 |[],ρ,m,h=>b ρ m h|d::ds,ρ,m,h=>by
  unfold fA;rw[T.wp_bind];refine T.wp_mono (λc j k=>?_) (step d ds ρ m h);rw[T.wp_bind];refine T.wp_mono (λi e f=>?_) k;cases i with
  |nx a=>exact dw I step b f|ct a=>exact dw I step b f|bk a=>exact f|rt r=>exact f
theorem mH{c:ag->T Bool}{body:ag->T Fl}{Q:Fl->Nat->Prop}(I:Nat->ag->Nat->Prop)(step:∀k ρ m,I k ρ m->(c ρ).wp m λb f=>if b=Pa then(body ρ).wp f λi e=>match i with
   |.nx a=>∃j,j<k/\I j a e|.ct a=>∃j,j<k/\I j a e|.bk a=>Q (.nx a) e|.rt r=>Q (.rt r) e else Q (.nx ρ) f):∀{n k:Nat}{ρ:ag}{m:Nat},k<n->I k ρ m->(dR c body n ρ).wp m Q
 |0,k,_,_,l,_=>by omega|n+1,k,ρ,m,l,h=>by
  unfold dR;rw[T.wp_bind];refine T.wp_mono (λb f g=>?_) (step k ρ m h);cases b with
  |false=>exact g|true=>
   rw[if_pos rfl]at g⊢;rw[T.wp_bind];refine T.wp_mono (λi e d=>?_) g;cases i with
   |nx a=>obtain⟨j,o,d⟩:=d;exact mH I step (by omega) d|ct a=>obtain⟨j,o,d⟩:=d;exact mH I step (by omega) d|bk a=>exact d|rt r=>exact d
theorem ae{b c:Type}(a:b)(f:b->T c):(T.ok a>>=f)=f a:=rfl
theorem E6(v:Ev):(∀i ρ,au v (.var i) ρ=T.get (fO ρ i))/\(∀d ρ,au v (.cst d) ρ=.ok d)/\(∀i ρ,au v (.kM i) ρ=T.get (v.kM i))/\(∀o a b ρ,au v (.op o a b) ρ=do let d<-au v a ρ;let e<-au v b ρ;ym o d e)/\(∀a ρ,au v (.neg a) ρ=do let i<-bN (<-au v a ρ);.ok (.int (-i)))/\(∀o a b ρ,au v (.cmp o a b) ρ=do let d<-au v a ρ;let e<-au v b ρ;bD o d e)/\(∀a b ρ,au v (.and a b) ρ=do let c<-bx (<-au v a ρ);if c then au v b ρ else .ok (.bl Pc))/\(∀a ρ,au v (.one a) ρ=au v a ρ)/\(∀a ρ,au v (.not a) ρ=do let c<-bx (<-au v a ρ);.ok (.bl (!c)))/\(∀r ρ,au v (.tup r) ρ=do let ds<-gk (<-gK v r ρ);T.need (decide (ds.length<=Ux));.ok (.tup ds))/\(∀r ρ,au v (.lst r) ρ=do let ds<-gk (<-gK v r ρ);T.need (decide (ds.length<=Ux));.ok (.lst ds))/\(∀a b ρ,au v (.idx a b) ρ=do let d<-au v a ρ;let e<-au v b ρ;br d e)/\(∀f r ρ,au v (.bi f r) ρ=do xU f (<-gk (<-gK v r ρ)))/\(∀f r ρ,au v (.call f r) ρ=do let as<-gK v r ρ;(v.call f as).at' ρ)/\(∀y a ρ,au v (.Jr y a) ρ=do vU v y (<-au v a ρ))/\(∀c a ρ,au v (.Js c a) ρ=do let P<-T.get (v.cls c);sg v P (<-au v a ρ))/\(∀own js tg it c g ρ,au v (.lc own js tg it c g) ρ=do let ds<-qw v it ρ;let r<-bK (dD tg) (λρ=>(cP v c ρ).calm) (λρ=>(au v g ρ).calm) ds (eW ρ own.length js);.ok (.lst r))/\(∀i e ρ,au v (.iH i e) ρ=do let d<-au v e (tm i ρ);T.need (flat (iG ρ i) d);.ok d)/\(∀o r ρ,au v (.pH o r) ρ=do let d<-au v o ρ;T.need (rE d);vT d (<-gk (<-gK v r ρ)))/\(∀i r ρ,au v (.Jt i r) ρ=do let d<-T.get (v.kM i);T.need (jR d);DH d (<-gk (<-gK v r ρ))):=⟨λ_ _=>rfl,λ_ _=>rfl,λ_ _=>rfl,λ_ _ _ _=>rfl,λ_ _=>rfl,λ_ _ _ _=>rfl,λ_ _ _=>rfl,λ_ _=>rfl,λ_ _=>rfl,λ_ _=>rfl,λ_ _=>rfl,λ_ _ _=>rfl,λ_ _ _=>rfl,λ_ _ _=>rfl,λ_ _ _=>rfl,λ_ _ _=>rfl,λ_ _ _ _ _ _ _=>rfl,λ_ _ _=>rfl,λ_ _ _=>rfl,λ_ _ _=>rfl⟩
theorem LU(v:Ev):(∀ρ,cP v .yes ρ=.ok Pa)/\(∀a b ρ,cP v (.pG a b) ρ=do let c<-cP v a ρ;if c then cP v b ρ else .ok Pc)/\(∀a b ρ,cP v (.Ar a b) ρ=do let c<-cP v a ρ;if c then .ok Pa else cP v b ρ)/\(∀a ρ,cP v (.d7 a) ρ=cP v a ρ)/\(∀a ρ,cP v (.uo a) ρ=do let c<-cP v a ρ;.ok (!c))/\(∀a ρ,cP v (.EX a) ρ=do HA (<-au v a ρ))/\(∀o a b ρ,cP v (.aW o a b) ρ=do let d<-au v a ρ;let e<-au v b ρ;bx (<-bD o d e))/\(∀i e ρ,cP v (.iH i e) ρ=cP v e (tm i ρ)):=⟨λ_=>rfl,λ_ _ _=>rfl,λ_ _ _=>rfl,λ_ _=>rfl,λ_ _=>rfl,λ_ _=>rfl,λ_ _ _ _=>rfl,λ_ _ _=>rfl⟩
theorem x8(v:Ev):(∀ρ,gK v .nil ρ=.ok [])/\(∀a r ρ,gK v (.cons a r) ρ=do let d<-au v a ρ;let xs<-gK v r ρ;.ok (.d d::xs))/\(∀i r ρ,gK v (.feed i r) ρ=do T.need (dQ ρ i);let xs<-gK v r ρ;.ok (.feed::xs)):=⟨λ_=>rfl,λ_ _ _=>rfl,λ_ _ _=>rfl⟩
theorem E7(v:Ev):(∀r ρ,qw v (.fP r) ρ=do match<-gk (<-gK v r ρ)with|[d]=>xV d|_=>.stuck)/\(∀r ρ,qw v (.As r) ρ=do match<-gk (<-gK v r ρ)with|[.lst xs]=>.ok (g9 xs)|_=>.stuck)/\(∀a ρ,qw v (.ba a) ρ=do T.get (jn (<-au v a ρ))):=⟨λ_ _=>rfl,λ_ _=>rfl,λ_ _=>rfl⟩
theorem ME:(∀i d ρ,dD (.nm i) d ρ=.ok (ρ.set i (O7 (.d d))))/\(∀n r ds ρ,dD (.tup n r) (.tup ds) ρ=if ds.length=n then iM r ds ρ else .stuck)/\(∀ρ,iM .nil [] ρ=.ok ρ)/\(∀t r d ds ρ,iM (.cons t r) (d::ds) ρ=do let ρ'<-dD t d ρ;iM r ds ρ'):=⟨λ_ _ _=>rfl,λ_ _ _ _=>rfl,λ_=>rfl,λ_ _ _ _ _=>rfl⟩
theorem dX(v:Ev)(s r:bC)(ρ:ag):ay v (.cons s r) ρ=(do match<-ay v s ρ with|.nx ρ'=>ay v r ρ'|a=>.ok a):=rfl
theorem we(v:Ev)(i:Nat)(e:Ex)(ρ:ag):ay v (.set i e) ρ=(do let d<-au v e ρ;.ok (.nx (ρ.set i (O7 (.d d))))):=rfl
theorem eP(v:Ev)(c:Ex)(a b:bC)(ρ:ag):ay v (.iff c a b) ρ=(do let x<-cP v c ρ;if x then ay v a ρ else ay v b ρ):=rfl
theorem gE(v:Ev)(tg:Tg)(it:Ex)(b:bC)(ρ:ag):ay v (.dm tg it b) ρ=(do fA (dD tg) (ay v b) (<-qw v it ρ) ρ):=rfl
theorem DZ(v:Ev)(c:Ex)(b:bC)(ρ:ag):ay v (.HB c b) ρ=dR (cP v c) (ay v b) b5 ρ:=rfl
theorem wg(v:Ev)(i:Nat)(k e:Ex)(ρ:ag):ay v (.put i k e) ρ=(do
  let d<-au v e ρ;let a<-vW (<-T.get (gb ρ i))let q<-au v k ρ;T.need (decide (a.1.length<Ux)&&az a.1 q);.ok (.nx (ρ.set i (O7 (.own (.aE (putD a.1 a.2 q d).1 (putD a.1 a.2 q d).2)))))):=rfl
theorem E8(v:Ev):(∀tg e ρ,ay v (.asg tg e) ρ=do let d<-au v e ρ;let ρ'<-dD tg d ρ;.ok (.nx ρ'))/\(∀i e ρ,ay v (.set i e) ρ=do let d<-au v e ρ;.ok (.nx (ρ.set i (O7 (.d d)))))/\(∀i j r ρ,ay v (.par i j r) ρ=do match<-gk (<-gK v r ρ)with|[d,e]=>.ok (.nx ((ρ.set i (O7 (.d d))).set j (O7 (.d e))))|_=>.stuck)/\(∀e ρ,ay v (.ret e) ρ=do let d<-au v e ρ;.ok (.rt d))/\(∀ρ,ay v .nil ρ=.ok (.nx ρ))/\(∀s r ρ,ay v (.cons s r) ρ=do match<-ay v s ρ with|.nx ρ'=>ay v r ρ'|f=>.ok f)/\(∀c a b ρ,ay v (.iff c a b) ρ=do let x<-cP v c ρ;if x then ay v a ρ else ay v b ρ)/\(∀tg it b ρ,ay v (.dm tg it b) ρ=do fA (dD tg) (ay v b) (<-qw v it ρ) ρ)/\(∀c b ρ,ay v (.HB c b) ρ=dR (cP v c) (ay v b) b5 ρ)/\(∀c r ρ,ay v (.raise c r) ρ=do let C<-T.get (v.cls c);T.need (v.how C);let x<-EZ v C (<-gK v r ρ);.exc ⟨x,ρ⟩)/\(∀b c i y h ρ,ay v (.Au b c i y h) ρ=do let P<-T.get (v.cls c);(ay v b ρ).kB (mi v P i y h))/\(∀i r ρ,ay v (.kz i r) ρ=do let ds<-gk (<-gK v r ρ);T.need (decide (ds.length<=Ux));.ok (.nx (ρ.set i (O7 (.own (.lst ds))))))/\(∀i ρ,ay v (.iG i) ρ=.ok (.nx (ρ.set i (O7 (.own (.aE [] []))))))/\(∀i e ρ,ay v (.app i e) ρ=do let ds<-ju (<-T.get (gb ρ i));let d<-au v e ρ;T.need (decide (ds.length<Ux));.ok (.nx (ρ.set i (O7 (.own (.lst (ds++[d])))))))/\(∀i s ρ,ay v (.fz i s) ρ=ay v s (tm i ρ))/\(∀e ρ,ay v (.expr e) ρ=do let _<-au v e ρ;.ok (.nx ρ)):=⟨λ_ _ _=>rfl,λ_ _ _=>rfl,λ_ _ _ _=>rfl,λ_ _=>rfl,λ_=>rfl,λ_ _ _=>rfl,λ_ _ _ _=>rfl,λ_ _ _ _=>rfl,λ_ _ _=>rfl,λ_ _ _=>rfl,λ_ _ _ _ _ _=>rfl,λ_ _ _=>rfl,λ_ _=>rfl,λ_ _ _=>rfl,λ_ _ _=>rfl,λ_ _=>rfl⟩
theorem mJ{g:D->ag->T ag}{j:ag->T Bool}{i:ag->T D}{c:D->Bool}{e:D->D}(S:ag->Prop):∀{ds:List D}{ρ:ag},(∀ρ,S ρ->∀d∈ds,∃b,g d ρ=.ok b/\S b/\j b=.ok (c d)/\(c d=Pa->i b=.ok (e d)))->S ρ->bK g j i ds ρ=.ok ((ds.filter c).map e)
 |[],ρ,_,_=>rfl|d::ds,ρ,h,q=>by
  obtain⟨b,p,o,n,m⟩:=h ρ q d Pn;have k:=mJ S (ds:=ds) (ρ:=b) (λρ a x l=>h ρ a x (Po _ l)) o;unfold bK;rw[p,ae,n,ae];cases f:c d with
  |true=>rw[if_pos rfl,m f,ae,k,ae,V4 f];rfl|false=>rw[if_neg (by simp),k,V5 (by simp[f])]
end L2
namespace K33
open PySem L2 K33d
noncomputable abbrev V(n:Nat):Ev:=gv.ev (ak defs gv n)
theorem mK(n f:Nat)(as:List A):(V n).call f as=ak defs gv n f as:=rfl
theorem aD{n f:Nat}{as:List A}{d:Df}(h:defs[f]?=O7 (.df d))(a:as.length=d.np):ak defs gv (n+1) f as=(ay (V n) d.body (bO d.nn as)>>=xX):=by
 show(match defs[f]? with
  |none=>T.stuck|some (.wit t)=>t as|some (.df d)=>if as.length=d.np then do xX (<-ay (V n) d.body (bO d.nn as))else .stuck)=_;rw[h];show(if as.length=d.np then _ else _)=_;rw[if_pos a]
theorem oy(n:Nat)(k:Int):ak defs gv (n+1) 10 [.feed,.d (.int k)]=.draw k λi=>.ok (.int i):=rfl
theorem m6:1000000<=Pl:=by decide
theorem sd{k:Nat}(h:k<=1000000):decide (k<=Pl)=Pa:=decide_eq_true (Qa h m6)
theorem wj{xs:List D}{i:Int}{m:Nat}{Q:D->Nat->Prop}{d:D}(e:fj xs i=O7 d)(h:Q d m):(br (.tup xs) (.int i)).wp m Q:=by
 show(T.get (fj xs i)).wp m Q;rw[e];exact h
theorem D1(xs:List D)(i:Int):br (.lst xs) (.int i)=T.get (fj xs i):=rfl
theorem wm(xs:List D)(i:Int):br (.tup xs) (.int i)=T.get (fj xs i):=rfl
theorem LV{a:D}{r:List D}:fj (a::r) 0=O7 a:=fk (j:=0) rfl
theorem N2{a b:D}{r:List D}:fj (a::b::r) 1=O7 b:=fk (j:=1) rfl
theorem Ip{xs:List D}{i:Int}{d:D}(a:0<=i)(h:xs[i.toNat]?=O7 d):fj xs i=O7 d:=by
 have:=fk h;rwa[show((i.toNat:Nat):Int)=i by omega]at this
theorem Iq(i j:Int):bD .Lt (.int i) (.int j)=.ok (.bl (decide (i<j))):=rfl
theorem Wp{c:Type}:(∀(a:c)(m:Nat)(Q:c->Nat->Prop),(T.ok a).wp m Q=Q a m)/\(∀(a:c)(m:Nat)(Q:c->Nat->Prop),(pure a:T c).wp m Q=Q a m)/\(∀(ρ:ag)(t:T c)(m:Nat)(Q:c->Nat->Prop),(t.at' ρ).wp m Q=t.wp m Q)/\(∀(a:c)(m:Nat)(Q:c->Nat->Prop),(T.get (O7 a)).wp m Q=Q a m)/\(∀(n:Int)(k:Int->T c)(m:Nat)(Q:c->Nat->Prop),(T.draw n k).wp m Q=(0<n/\n<1073741824/\0<m/\∀i,0<=i->i<n->(k i).wp (m-1) Q))/\(∀(l:List D)(k:List D->T c)(m:Nat)(Q:c->Nat->Prop),(T.perm l k).wp m Q=∀d,d.Perm l->(k d).wp m Q)/\∀(b:Bool)(x y:T c)(m:Nat)(Q:c->Nat->Prop),(if b=Pa then x else y).wp m Q=if b=Pa then x.wp m Q else y.wp m Q:=⟨T.bz,T.wp_pure,T.wp_at,T.bA,T.dG,T.DX,T.DY⟩
theorem Lm{b c:Type}(f:b->c):(∀(a:b)(l:List b),(a::l).map f=f a::l.map f)/\([]:List b).map f=[]:=⟨λ_ _=>rfl,rfl⟩
theorem Ls{c:Type}:(∀(a:c)(l r:List c),(a::l)++r=a::(l++r))/\(∀l:List c,[]++l=l)/\(∀(a:c)(l:List c),(a::l).length=l.length+1)/\([]:List c).length=0/\(∀(a b:c)(l:List c),(a::l).set 0 b=b::l)/\(∀(a b:c)(l:List c)(n:Nat),(a::l).set (n+1) b=a::l.set n b)/\(∀(a:c)(l:List c),(a::l)[0]?=O7 a)/\∀(a:c)(l:List c)(n:Nat),(a::l)[n+1]?=l[n]?:=⟨λ_ _ _=>rfl,λ_=>rfl,λ_ _=>rfl,rfl,λ_ _ _=>rfl,λ_ _ _ _=>rfl,λ_ _=>rfl,λ_ _ _=>rfl⟩
theorem Ix:(∀(xs:List D)(i:Int),br (.lst xs) (.int i)=T.get (fj xs i))/\(∀(xs:List D)(i:Int),br (.tup xs) (.int i)=T.get (fj xs i))/\(∀(a:D)(r:List D),fj (a::r) 0=O7 a)/\(∀(a b:D)(r:List D),fj (a::b::r) 1=O7 b)/\∀i j:Int,bD .Lt (.int i) (.int j)=.ok (.bl (decide (i<j))):=⟨D1,wm,λ_ _=>LV,λ_ _ _=>N2,Iq⟩
local macro_rules|`(tactic|subst_eqs)=>`(tactic|simp only[E8,E6,LU,x8,E7,ME,gk,bN,bx,ym,Wp,T.wp_bind,T.kP,ae,mK,oy,fO,gb,tm,dQ,ju,vW,bO,A.w,xV,Lm,Ls,Qy,Tn,TY,true_and,and_true,xX,Ix,if_true])
theorem OY:decide (0<=Pl)=Pa:=sd (by decide)
theorem OZ:decide (1<=Pl)=Pa:=sd (by decide)
theorem E9:decide (2<=Pl)=Pa:=sd (by decide)
theorem O1:decide (3<=Pl)=Pa:=sd (by decide)
theorem oz:T.need Pa=.ok ():=rfl
theorem get_some{b:Type}(a:b):T.get (O7 a)=.ok a:=rfl
theorem Cl{b:Type}(a:b):T.get (O7 a)=.ok a/\(T.ok a).calm=.ok a:=⟨rfl,rfl⟩
theorem Sd:T.need Pa=.ok ()/\decide (0<=Pl)=Pa/\decide (1<=Pl)=Pa/\decide (2<=Pl)=Pa/\decide (3<=Pl)=Pa:=⟨rfl,OY,OZ,E9,O1⟩
local macro_rules|`(tactic|bv_omega)=>`(tactic|simp only[E6,LU,x8,ME,gk,bN,bx,ae,fO,Cl,Sd,Ix,Lm,Ls,Tn,if_true])
theorem jE{g:T ag}{body:ag->T Fl}{m:Nat}{c:Fl->Nat->Prop}(h:∀Q:Fl->Nat->Prop,(∀d m,c d m->Q d m)->g.wp m λa b=>(body a).wp b Q):g.wp m λa b=>(body a).wp b c:=h c λ_ _ z=>z
theorem gF{b:Type}{t:T b}{m:Nat}{c:b->Nat->Prop}(h:∀Q:b->Nat->Prop,(∀a m,c a m->Q a m)->t.wp m Q):t.wp m c:=h c λ_ _ z=>z
theorem aQ{v:Ev}{s r:bC}{ρ ρ':ag}(h:ay v s ρ=.ok (.nx ρ')):ay v (.cons s r) ρ=ay v r ρ':=by rw[dX,h];rfl
theorem fH{v:Ev}{i:Nat}{e:Ex}{r:bC}{d:D}{ρ:ag}(h:au v e ρ=.ok d):ay v (.cons (.set i e) r) ρ=ay v r (ρ.set i (O7 (.d d))):=aQ (by rw[we,h];rfl)
theorem mL{v:Ev}{i:Nat}{e:Ex}{r:bC}{ρ:ag}{m:Nat}{Q:Fl->Nat->Prop}(h:(au v e ρ).wp m λd a=>(ay v r (ρ.set i (O7 (.d d)))).wp a Q):(ay v (.cons (.set i e) r) ρ).wp m Q:=by
 rw[dX,we,T.wp_bind,T.wp_bind];exact h
inductive TI(k f:Int)(m:Nat)(ds:List D)(ρ:ag)(m':Nat):Prop|mk(xs:List Int)(x:Int)(o:Option W)(eρ:ρ=[O7 .feed,O7 (.d (.int k)),O7 (.d (.int f)),O7 (.own (.lst (xs.map D.int++[.int x]))),o])(g1:m<=m'+2+(k-1).toNat-ds.length)(g2:ds.length<=(k-1).toNat)(g3:xs.length+1+ds.length=k)(g4:∀y∈xs,0<=y/\y<=1000000)(g5:0<=x)(g6:x<=100000*(xs.length+1))(g7:(xs++[x]).Pairwise (·<·))
theorem Bf{n:Nat}{k:Int}{m:Nat}(K:1<=k/\k<=7)(J:10<=m):(ak defs gv (n+2) 11 [.feed,.d (.int k)]).wp m (λd A=>m<=A+10/\∃xs:List Int,d=.lst (xs.map D.int)/\(xs.length:Int)=k/\(∀x∈xs,0<=x/\x<=1000000)/\xs.Pairwise (·<·)):=by
 have z:=m6;rw[aD (d:=fE) rfl rfl];unfold fE;refine gF λQ l=>?_;rw[T.wp_bind];refine mL (gF λR e=>?_);subst_eqs;refine⟨by decide,by decide,by decide,by omega,λi M L=>?_⟩;have B:∃f:Int,fj [D.int 1,D.int 3,D.int 90000] i=O7 (.int f)/\1<=f/\f<=90000:=by
  rcases(by omega:i=0\/i=1\/i=2)with rfl|rfl|rfl;.exact⟨1,rfl,by decide,by decide⟩
  .exact⟨3,rfl,by decide,by decide⟩
  .exact⟨90000,rfl,by decide,by decide⟩
 obtain⟨f,F,O,N⟩:=B;rw[F,T.bA];refine e _ _ ?_;clear e;show(ay (V (n+1)) _ [O7 .feed,O7 (.d (.int k)),O7 (.d (.int f)),Pb,Pb]).wp (m-1) _;subst_eqs;refine⟨by omega,by omega,by omega,λy u G=>⟨sd (by decide),by simp;omega,?_⟩⟩;refine dw (TI k f m) ?_ ?_ ⟨[],y,Pb,rfl,?_,?_,?_,?_,u,?_,by simp⟩
 .rintro d P t v⟨xs,x,o,c,s,r,q,p,E,C,g⟩;rw[c];clear c;simp only[PM]at s r q;refine jE λQ l=>?_;unfold sG;subst_eqs;simp only[yJ,T.bA];subst_eqs;refine⟨by omega,by omega,by omega,λw I H=>⟨rfl,?_,l _ _ ?_⟩⟩;.simp;omega
  .refine TI.mk (xs++[x]) (x+1+w) (O7 (.d d)) ?_ (by omega) (by omega) (by simp;omega) (λy j=>?_) (by omega) (by simp;omega) ?_;rotate_left 2
   .rw[W3];refine⟨g,by simp,λa ha b hb=>?_⟩;rw[List.mem_singleton.mp hb];rcases List.mem_append.mp ha with z|z
    .have:=(List.pairwise_append.mp g).2.2 a z x (List.mem_singleton.mpr rfl);omega
    .rw[List.mem_singleton.mp z];omega
   .simp
   .rcases List.mem_append.mp j with h|h;.exact p y h
    .have:=List.mem_singleton.mp h;subst this;constructor<;>omega
 .rintro t v⟨xs,x,o,c,s,r,q,p,E,C,g⟩;rw[c];clear c;unfold sF;subst_eqs;refine l _ _ ⟨by simp at*;omega,xs++[x],by simp,by simp at*;omega,λy j=>?_,g⟩;rcases List.mem_append.mp j with h|h;.exact p y h
  .have:=List.mem_singleton.mp h;subst this;simp at q;constructor<;>omega
 .simp[aT];omega
 .simp[aT]
 .simp[aT];omega
 .simp
 .simp;omega
structure Eg where
 i:Int
 j:Int
 l:Int
noncomputable def pt(i j:Int):D:=.tup [.int i,.int j]
noncomputable def eD(e:Eg):D:=.tup [pt e.i e.j,pt (e.i+e.l) (e.j+1-e.l)]
structure Eg.ok(w h:Int)(e:Eg):Prop where
 i0:0<=e.i
 j0:0<=e.j
 lv:e.l=0\/e.l=1
 iw:e.i+e.l<w
 jh:e.j+1-e.l<h
theorem wo(e:Eg):pq (eD e)=Pa:=rfl
theorem uz(E:List Eg):(E.map eD).all pq=Pa:=by
 rw[Qq];intro x a;obtain⟨e,_,rfl⟩:=List.mem_map.mp a;exact wo e
theorem Ir(E:List Eg):(E.map eD).all Hr=Pa:=by
 rw[Qq];intro x a;obtain⟨e,_,rfl⟩:=List.mem_map.mp a;rfl
theorem dY{ks:List D}{d:D}(h:ks.all pq=Pa)(q:pq d=Pa):az ks d=Pa:=by
 unfold az;rw[h,q];simp
theorem c_{i m:Type}{f:i->m}{n l:List m}(p:n.Perm l):∀{E:List i},l=E.map f->∃g:List i,g.Perm E/\n=g.map f:=by induction p with
 |nil=>intro E h;cases E with
  |nil=>exact⟨[],.nil,rfl⟩|cons _ _=>cases h
 |@cons x w v _ s=>
  intro E h;cases E with
  |nil=>cases h|cons e E=>
   injection h with d c;obtain⟨g,r,rfl⟩:=s c;exact⟨e::g,r.cons e,by rw[d];rfl⟩
 |swap x y l=>
  intro E h;match E,h with
  |a::b::E,h=>
   injection h with d c;injection c with c t;exact⟨b::a::E,.swap _ _ _,by rw[d,c,t];rfl⟩
 |trans _ _ k j=>
  intro E h;obtain⟨z,o,c⟩:=j h;obtain⟨u,q,d⟩:=k c;exact⟨u,q.trans o,d⟩
theorem cf{d:D}{ds:List D}{m:Nat}{Q:D->Nat->Prop}(e:j9 d=O7 ds)(b:ds.length<=1000000)(hs:iI ds=Pa)(h:∀a,a.Perm ds->Q (.lst a) m):(xU .sorted [d]).wp m Q:=by
 show(se d).wp m Q;have c:se d=(do let ds<-T.get (j9 d);T.need (decide (ds.length<=Pl)&&iI ds);T.perm ds λl=>.ok (.lst l)):=by cases d<;>first|rfl|cases e
 rw[c,T.wp_bind,T.Io];refine⟨ds,e,?_⟩;rw[T.wp_bind,T.kP];exact⟨by rw[hs,sd b];rfl,h⟩
theorem Bg(E:List Eg)(vs:List D)(e:Eg)(x:D):∃b a,putD (E.map eD) vs (eD e) x=(b.map eD,a)/\(b=E\/b=E++[e]):=by
 unfold putD;split;.exact⟨E,_,rfl,.inl rfl⟩
 .exact⟨E++[e],vs++[x],by simp,.inr rfl⟩
theorem Iu{k:Nat}{w h i j l:Int}{E:List Eg}{vs:List D}{s0 o4 o8 o9:Option W}(p:E.length<=84):∃(e:List Eg)(b:List D),ay (V k) jB [s0,O7 (.d (.int w)),O7 (.d (.int h)),O7 (.own (.aE (E.map eD) vs)),o4,O7 (.d (.int i)),O7 (.d (.int j)),O7 (.d (.int l)),o8,o9]=.ok (.nx [s0,O7 (.d (.int w)),O7 (.d (.int h)),O7 (.own (.aE (e.map eD) b)),o4,O7 (.d (.int (i+l))),O7 (.d (.int (j+1-l))),O7 (.d (.int l)),o8,O7 (.d (pt (i+l) (j+1-l)))])/\(e=E\/e=E++[⟨i,j,l⟩]/\i+l<w/\j+1-l<h):=by
 have z:=m6;have f:decide (2<=Pl)=Pa:=sd (by decide);unfold jB;have a:∀{e:List Eg}{b:List D},ay (V k) (.cons (.asg (.tup 2 (.cons (.nm 5) (.cons (.nm 6) .nil))) (.var 9)) .nil) [s0,O7 (.d (.int w)),O7 (.d (.int h)),O7 (.own (.aE (e.map eD) b)),o4,O7 (.d (.int i)),O7 (.d (.int j)),O7 (.d (.int l)),o8,O7 (.d (pt (i+l) (j+1-l)))]=.ok (.nx [s0,O7 (.d (.int w)),O7 (.d (.int h)),O7 (.own (.aE (e.map eD) b)),o4,O7 (.d (.int (i+l))),O7 (.d (.int (j+1-l))),O7 (.d (.int l)),o8,O7 (.d (pt (i+l) (j+1-l)))]):=rfl;have t:cP (V k) (.pG (.aW .Lt (.idx (.var 9) (.cst (.int 0))) (.var 1)) (.d7 (.aW .Lt (.idx (.var 9) (.cst (.int 1))) (.var 2)))) [s0,O7 (.d (.int w)),O7 (.d (.int h)),O7 (.own (.aE (E.map eD) vs)),o4,O7 (.d (.int i)),O7 (.d (.int j)),O7 (.d (.int l)),o8,O7 (.d (pt (i+l) (j+1-l)))]=.ok (decide (i+l<w)&&decide (j+1-l<h)):=by
  show(if decide (i+l<w)=Pa then T.ok (decide (j+1-l<h))else T.ok Pc)=_;cases decide (i+l<w)<;>rfl
 rw[fH (d:=pt (i+l) (j+1-l)) (by
  show(T.need (decide (2<=Pl))>>=λ_=>T.ok (D.tup [.int (i+l),.int (j+1-l)]))=_;rw[f];rfl)];show∃e b,ay (V k) _ [s0,O7 (.d (.int w)),O7 (.d (.int h)),O7 (.own (.aE (E.map eD) vs)),o4,O7 (.d (.int i)),O7 (.d (.int j)),O7 (.d (.int l)),o8,O7 (.d (pt (i+l) (j+1-l)))]=_/\_;by_cases c:i+l<w/\j+1-l<h
 .obtain⟨e,b,n,m⟩:=Bg E vs ⟨i,j,l⟩ (.bl Pa);refine⟨e,b,?_,m.imp id λq=>⟨q,c⟩⟩;rw[aQ (ρ':=[s0,O7 (.d (.int w)),O7 (.d (.int h)),O7 (.own (.aE (e.map eD) b)),o4,O7 (.d (.int i)),O7 (.d (.int j)),O7 (.d (.int l)),o8,O7 (.d (pt (i+l) (j+1-l)))]),a];rw[eP,t,ae,decide_eq_true c.1,decide_eq_true c.2];have o:au (V k) (.tup (.cons (.tup (.cons (.var 5) (.cons (.var 6) .nil))) (.cons (.var 9) .nil))) [s0,O7 (.d (.int w)),O7 (.d (.int h)),O7 (.own (.aE (E.map eD) vs)),o4,O7 (.d (.int i)),O7 (.d (.int j)),O7 (.d (.int l)),o8,O7 (.d (pt (i+l) (j+1-l)))]=.ok (eD ⟨i,j,l⟩):=by
   show((((T.need (decide (2<=Pl))>>=λ_=>T.ok (D.tup [.int i,.int j]))>>=λd=>T.ok [A.d d,A.d (pt (i+l) (j+1-l))])>>=gk)>>=λg=>T.need (decide (g.length<=Pl))>>=λ_=>T.ok (D.tup g))=_;rw[f];show(T.need (decide (2<=Pl))>>=λ_=>T.ok (eD ⟨i,j,l⟩))=_;rw[f];rfl
  rw[if_pos (by rfl),aQ (ρ':=[s0,O7 (.d (.int w)),O7 (.d (.int h)),O7 (.own (.aE (e.map eD) b)),o4,O7 (.d (.int i)),O7 (.d (.int j)),O7 (.d (.int l)),o8,O7 (.d (pt (i+l) (j+1-l)))])];.rfl
  .show(au (V k) (.tup (.cons (.tup (.cons (.var 5) (.cons (.var 6) .nil))) (.cons (.var 9) .nil))) _>>=λq=>T.need (decide ((E.map eD).length<Pl)&&az (E.map eD) q)>>=λ_=>T.ok (Fl.nx [s0,O7 (.d (.int w)),O7 (.d (.int h)),O7 (.own (.aE (putD (E.map eD) vs q (.bl Pa)).1 (putD (E.map eD) vs q (.bl Pa)).2)),o4,O7 (.d (.int i)),O7 (.d (.int j)),O7 (.d (.int l)),o8,O7 (.d (pt (i+l) (j+1-l)))]))=_;rw[o,ae,dY (uz E) (wo _),decide_eq_true (show(E.map eD).length<Pl by rw[Pk];omega),n];rfl
 .refine⟨E,vs,?_,.inl rfl⟩;rw[aQ (ρ':=[s0,O7 (.d (.int w)),O7 (.d (.int h)),O7 (.own (.aE (E.map eD) vs)),o4,O7 (.d (.int i)),O7 (.d (.int j)),O7 (.d (.int l)),o8,O7 (.d (pt (i+l) (j+1-l)))]),a];rw[eP,t,ae,if_neg];.rfl
  .rw[Pp,decide_eq_true_eq,decide_eq_true_eq];exact c
inductive Oo(w h:Int)(m:Nat)(ds:List D)(ρ:ag)(m':Nat):Prop|mk(E:List Eg)(vs:List D)(o4 o5 o6 o7 o8 o9:Option W)(eρ:ρ=[O7 .feed,O7 (.d (.int w)),O7 (.d (.int h)),O7 (.own (.aE (E.map eD) vs)),o4,o5,o6,o7,o8,o9])(g1:ds.length<=12)(g2:m<=m'+1+4*(12-ds.length))(g3:E.length+7*ds.length<=84)(g4:∀e∈E,e.ok w h)
inductive Oq(w h:Int)(d:D)(l:Int)(m1:Nat)(ds ds':List D)(ρ:ag)(m':Nat):Prop|mk(E:List Eg)(vs:List D)(i j:Int)(o8 o9:Option W)(eρ:ρ=[O7 .feed,O7 (.d (.int w)),O7 (.d (.int h)),O7 (.own (.aE (E.map eD) vs)),O7 (.d d),O7 (.d (.int i)),O7 (.d (.int j)),O7 (.d (.int l)),o8,o9])(hm:m'=m1-1-1-1-1)(k1:E.length+ds'.length+7*ds.length<=84)(k2:∀e∈E,e.ok w h)(k3:0<=i)(k4:0<=j)
theorem Bh{n:Nat}{w h:Int}{m:Nat}(hw:2<=w/\w<=7)(hh:2<=h/\h<=6)(hm:60<=m):(ak defs gv (n+2) 12 [.feed,.d (.int w),.d (.int h)]).wp m (λd N=>m<=N+60/\∃E:List Eg,d=.lst (E.map eD)/\E.length<=84/\∀e∈E,e.ok w h):=by
 have z:=m6;rw[aD (d:=fF) rfl rfl];unfold fF;refine gF λQ u=>?_;subst_eqs;refine⟨by decide,by decide,by omega,λt X W=>⟨by simp;omega,?_⟩⟩;refine dw (Oo w h m) ?_ ?_ ⟨[],[],Pb,Pb,Pb,Pb,Pb,Pb,rfl,?_,?_,?_,?_⟩
 .rintro d ds o F⟨E,vs,o4,M,L,K,o8,o9,a,I,y,x,v⟩;rw[a];clear a;simp only[PM]at I y x;refine jE λQ u=>?_;unfold sI;subst_eqs;refine⟨by omega,by omega,by omega,λi i0 i1=>⟨by omega,by omega,by omega,λj j0 j1=>⟨by decide,by decide,by omega,λl l0 l1=>⟨sd (by decide),?_⟩⟩⟩⟩;have O:∃f:Int,fj [D.int h,D.int w] l=O7 (.int f)/\2<=f/\f<=7:=by
   rcases(by omega:l=0\/l=1)with rfl|rfl;.exact⟨h,rfl,by omega,by omega⟩
   .exact⟨w,rfl,by omega,by omega⟩
  obtain⟨f,P,f1,f2⟩:=O;rw[P,T.bA];subst_eqs;refine⟨by omega,by omega,by omega,λq Z Y=>⟨by simp;omega,?_⟩⟩;refine dw (Oq w h d l F ds) ?_ ?_ ⟨E,vs,i,j,o8,o9,rfl,rfl,?_,v,i0,j0⟩
  .rintro J R o C⟨E,vs,i,j,o8,o9,a,c,s,g,H,G⟩;rw[a];clear a;simp only[PM]at s;obtain⟨A,r,e,b⟩:=Iu (k:=n+1) (w:=w) (h:=h) (i:=i) (j:=j) (l:=l) (E:=E) (vs:=vs) (s0:=O7 .feed) (o4:=O7 (.d d)) (o8:=O7 (.d J)) (o9:=o9) (by omega);show(ay (V (n+1)) jB [O7 .feed,O7 (.d (.int w)),O7 (.d (.int h)),O7 (.own (.aE (E.map eD) vs)),O7 (.d d),O7 (.d (.int i)),O7 (.d (.int j)),O7 (.d (.int l)),O7 (.d J),o9]).wp C _;rw[e];refine Oq.mk A r _ _ _ _ rfl c ?_ ?_ (by omega) (by omega)
   .rcases b with rfl|⟨rfl,_⟩;.omega
    .simp;omega
   .rcases b with rfl|⟨rfl,U,S⟩;.exact g
    .intro e b;rcases List.mem_append.mp b with q|q;.exact g e q
     .rw[List.mem_singleton.mp q];exact⟨H,G,by show l=0\/l=1;omega,U,S⟩
  .rintro o C⟨E,vs,i,j,o8,o9,a,c,s,g,H,G⟩;rw[a];exact u _ _ (Oo.mk E vs _ _ _ _ _ _ rfl (by omega) (by omega) (by simpa using s) g)
  .simp[aT];omega
 .rintro o F⟨E,vs,o4,M,L,K,o8,o9,a,I,y,x,v⟩;rw[a];clear a;unfold sH;subst_eqs;simp only[P8]at y x;refine cf (ds:=E.map eD) rfl (by rw[Pk];omega) (by unfold iI;rw[Ir];simp) λl' p=>?_;obtain⟨A,B,rfl⟩:=c_ p rfl;exact u _ _ ⟨by omega,A,rfl,by rw[B.length_eq];omega,λe b=>v e (B.mem_iff.mp b)⟩
 .simp[aT];omega
 .simp[aT];omega
 .simp[aT];omega
 .simp
abbrev Pt:=Int×Int
noncomputable def aj(p:Pt):D:=.tup [.int p.1,.int p.2]
theorem p_(P:List Pt):(P.map aj).all pq=Pa:=by
 rw[Qq];intro x a;obtain⟨e,_,rfl⟩:=List.mem_map.mp a;rfl
theorem qb(p q:Pt):fZ (aj p) (aj q)=decide (p=q):=by
 obtain⟨a,b⟩:=p;obtain⟨c,d⟩:=q;simp[fZ,aj,jg,xE,jf]
theorem Bi(P:List Pt)(p:Pt):cw (P.map aj) (aj p)=decide (p∈P):=by
 unfold cw;rw[List.any_map];induction P with
 |nil=>rfl|cons q P a=>
  rw[SD,a];simp only[Function.comp,qb];by_cases h:q=p;.simp[h]
  .simp[h,Q9 h,eq_comm]
theorem mM:∀{ks vs:List D}{d v:D},aJ ks vs d=O7 v->v∈vs
 |[],_,_,_,h=>by simp[aJ]at h|_::_,[],_,_,h=>by simp[aJ]at h|k::ks,w::vs,d,v,h=>by
  unfold aJ at h;split at h;.cases h;exact Pn
  .exact Po _ (mM h)
theorem x9{P:List Pt}{vs:List D}{p:Pt}(a:vs.length=P.length)(h:p∈P):∃v,aJ (P.map aj) vs (aj p)=O7 v:=by induction P generalizing vs with
 |nil=>cases h|cons q P b=>cases vs with
  |nil=>simp at a|cons w vs=>
   show∃v,(if fZ (aj q) (aj p)=Pa then O7 w else aJ (P.map aj) vs (aj p))=O7 v;rw[qb];by_cases e:q=p;.simp[e]
   .rw[decide_eq_false e];rcases List.mem_cons.mp h with z|z;.exact absurd z.symm e
    .simpa using b (by simpa using a) z
theorem sO:∀{ks vs:List D}{d x v:D},v∈eI ks vs d x->v∈vs\/v=x
 |[],vs,_,_,_,h=>by cases vs<;>simp[eI]at h|_::_,[],_,_,_,h=>by simp[eI]at h|k::ks,w::vs,d,x,v,h=>by
  unfold eI at h;rcases List.mem_cons.mp h with z|z
  .split at z;.exact .inr z
   .exact .inl (z▸Pn)
  .rcases sO z with q|q;.exact .inl (Po _ q)
   .exact .inr q
theorem sP:∀{ks vs:List D}{d x:D},vs.length=ks.length->(eI ks vs d x).length=ks.length
 |[],vs,_,_,h=>by cases vs<;>simp[eI]at*|_::_,[],_,_,h=>by simp at h|k::ks,w::vs,d,x,h=>by
  unfold eI;simp only[PM]at h⊢;rw[sP (by omega)]
theorem Iv{P:List Pt}{vs:List D}(p:Pt)(x:D)(f:P.Nodup)(g:vs.length=P.length):∃(P':List Pt)(c:List D),putD (P.map aj) vs (aj p) x=(P'.map aj,c)/\P'.Nodup/\c.length=P'.length/\(∀q∈P',q∈P\/q=p)/\(∀v∈c,v∈vs\/v=x)/\P'.length<=P.length+1:=by
 unfold putD;rw[Bi];by_cases h:p∈P
 .rw[decide_eq_true h];exact⟨P,_,rfl,f,by rw[sP (by simpa using g)];simp,λq e=>.inl e,λv d=>sO d,by omega⟩
 .rw[decide_eq_false h];refine⟨P++[p],vs++[x],by simp,?_,by simp[g],λq e=>?_,λv d=>?_,by simp⟩
  .rw[Rv];refine⟨f,by simp,λa ha b hb=>?_⟩;rw[List.mem_singleton.mp hb];exactλz=>h (z▸ha)
  .rcases List.mem_append.mp e with z|z;.exact .inl z
   .exact .inr (List.mem_singleton.mp z)
  .rcases List.mem_append.mp d with z|z;.exact .inl z
   .exact .inr (List.mem_singleton.mp z)
theorem kQ(i j:Int):bD .Eq (.int i) (.int j)=.ok (.bl (i==j)):=rfl
noncomputable def LW(c:Nat)(v:D):Prop:=∃ns:List Int,v=.lst (ns.map D.int)/\ns.length<=c
structure mO(w h:Int)(c:Nat)(P:List Pt)(vs:List D):Prop where
 nd:P.Nodup
 len:vs.length=P.length
 sz:P.length<=c
 val:∀v∈vs,LW c v
 yo:∀p∈P,0<=p.1/\p.1<w/\0<=p.2/\p.2<h
theorem mO.put{w h:Int}{c:Nat}{P:List Pt}{vs:List D}(W:mO w h c P vs)(p:Pt)(x:D)(b:LW (c+1) x)(g:0<=p.1/\p.1<w/\0<=p.2/\p.2<h):∃(P':List Pt)(a:List D),putD (P.map aj) vs (aj p) x=(P'.map aj,a)/\mO w h (c+1) P' a:=by
 obtain⟨P',a,e,l,k,j,i,n⟩:=Iv p x W.nd W.len;refine⟨P',a,e,l,k,by have:=W.sz;omega,λv d=>?_,λq f=>?_⟩
 .rcases i v d with z|z
  .obtain⟨ns,e,m⟩:=W.val v z;exact⟨ns,e,by omega⟩
  .rw[z];exact b
 .rcases j q f with z|z;.exact W.yo q z
  .rw[z];exact g
theorem mO.get{w h:Int}{c:Nat}{P:List Pt}{vs:List D}(W:mO w h c P vs)(p:Pt):∃ns:List Int,(aJ (P.map aj) vs (aj p)).getD (.lst [])=.lst (ns.map D.int)/\ns.length<=c:=by cases e:aJ (P.map aj) vs (aj p)with
 |none=>exact⟨[],rfl,Qb _⟩|some v=>
  obtain⟨ns,e,a⟩:=W.val v (mM e);exact⟨ns,e,a⟩
theorem oA:∀(l:Bool)(ns:List Int),lS l (ns.map D.int)=Pa
 |_,[]=>rfl|l,n::ns=>by simp[lS,flat,oA l ns]
theorem wq{k:Nat}{a:Option L2.W}{r:ag}{P:List Pt}{vs:List D}{b xe:Ex}{p:Pt}{y w h:Int}{c:Nat}(f:mO w h c P vs)(l:0<=p.1/\p.1<w/\0<=p.2/\p.2<h)(j:∀o,au (V k) b (a::o::r)=.ok (aj p))(m:∀o,au (V k) xe (a::o::r)=.ok (.int y))(E:c<=1000):∃(P':List Pt)(e:List D),ay (V k) (.put 1 b (.iH 1 (.op .Add (.pH (.var 1) (.cons b (.cons (.lst .nil) .nil))) (.lst (.cons xe .nil))))) (a::O7 (.own (.aE (P.map aj) vs))::r)=.ok (.nx (a::O7 (.own (.aE (P'.map aj) e))::r))/\mO w h (c+1) P' e:=by
 have z:=m6;obtain⟨ns,n,F⟩:=f.get p;obtain⟨C,g,s,B⟩:=f.put p (.lst ((ns++[y]).map D.int)) ⟨_,rfl,by simp;omega⟩ l;refine⟨C,g,?_,B⟩;have i:az (P.map aj) (aj p)=Pa:=dY (p_ P) rfl;have A:vT (.aE (P.map aj) vs) [aj p,.lst []]=.ok (.lst (ns.map D.int)):=by
  show(T.need (az (P.map aj) (aj p)&&decide ((P.map aj).length=vs.length))>>=λ_=>T.ok ((aJ (P.map aj) vs (aj p)).getD (.lst [])))=_;rw[i,decide_eq_true (by rw[Pk,f.len]),n];rfl
 have x:ym .Add (.lst (ns.map D.int)) (.lst [.int y])=.ok (.lst ((ns++[y]).map D.int)):=by
  show(T.need (decide ((ns.map D.int).length+1<=Pl))>>=λ_=>T.ok (D.lst (ns.map D.int++[.int y])))=_;rw[decide_eq_true (by rw[Pk];omega),Qm];rfl
 have v:au (V k) (.op .Add (.pH (.var 1) (.cons b (.cons (.lst .nil) .nil))) (.lst (.cons xe .nil))) (a::O7 (.d (.aE (P.map aj) vs))::r)=.ok (.lst ((ns++[y]).map D.int)):=by
  bv_omega;rw[j,m];bv_omega;rw[show T.need (rE (.aE (P.map aj) vs))=.ok ()from rfl,ae,A,ae,x]
 have u:(T.need (flat Pa (.lst ((ns++[y]).map D.int))):T Unit)=.ok ():=by
  unfold flat;rw[oA];rfl
 have t:(T.need (decide ((P.map aj).length<Pl)&&az (P.map aj) (aj p)):T Unit)=.ok ():=by rw[i,decide_eq_true (by rw[Pk];have:=f.sz;omega)];rfl
 show((au (V k) (.op .Add (.pH (.var 1) (.cons b (.cons (.lst .nil) .nil))) (.lst (.cons xe .nil))) (a::O7 (.d (.aE (P.map aj) vs))::r)>>=λd=>T.need (flat Pa d)>>=λ_=>T.ok d)>>=λd=>au (V k) b (a::O7 (.own (.aE (P.map aj) vs))::r)>>=λq=>T.need (decide ((P.map aj).length<Pl)&&az (P.map aj) q)>>=λ_=>T.ok (Fl.nx (a::O7 (.own (.aE (putD (P.map aj) vs q d).1 (putD (P.map aj) vs q d).2))::r)))=_;rw[v,ae,u,ae,ae,j,ae,t,ae,s]
theorem Iw{k:Nat}{X0:Option L2.W}{P:List Pt}{vs:List D}{i j u v w h:Int}{c:Nat}(W:mO w h c P vs)(g:0<=i/\i<w/\0<=j/\j<h)(f:0<=u/\u<w/\0<=v/\v<h)(t:c<=900):∃(P':List Pt)(a:List D),ay (V k) kN [X0,O7 (.own (.aE (P.map aj) vs)),O7 (.d (.int i)),O7 (.d (.int j)),O7 (.d (.int u)),O7 (.d (.int v))]=.ok (.nx [X0,O7 (.own (.aE (P'.map aj) a)),O7 (.d (.int i)),O7 (.d (.int j)),O7 (.d (.int u)),O7 (.d (.int v))])/\mO w h (c+1+1) P' a:=by
 have m:∀o,au (V k) (.tup (.cons (.var 2) (.cons (.var 3) .nil))) (X0::o::[O7 (.d (.int i)),O7 (.d (.int j)),O7 (.d (.int u)),O7 (.d (.int v))])=.ok (aj (i,j)):=λo=>by
  show(T.need (decide (2<=Pl))>>=λ_=>T.ok (D.tup [.int i,.int j]))=_;rw[E9];rfl
 have l:∀o,au (V k) (.tup (.cons (.var 4) (.cons (.var 5) .nil))) (X0::o::[O7 (.d (.int i)),O7 (.d (.int j)),O7 (.d (.int u)),O7 (.d (.int v))])=.ok (aj (u,v)):=λo=>by
  show(T.need (decide (2<=Pl))>>=λ_=>T.ok (D.tup [.int u,.int v]))=_;rw[E9];rfl
 obtain⟨x,e,p,r⟩:=wq (xe:=.bi .int (.cons (.cmp .Eq (.var 2) (.var 4)) .nil)) (y:=if(i==u)=Pa then 1 else 0) W g m (λo=>rfl) (by omega);obtain⟨s,b,n,q⟩:=wq (xe:=.op .Add (.cst (.int 2)) (.bi .int (.cons (.cmp .Eq (.var 2) (.var 4)) .nil))) (y:=2+if(i==u)=Pa then 1 else 0) r f l (λo=>rfl) (by omega);refine⟨s,b,?_,q⟩;unfold kN;rw[aQ p,aQ n];rfl
theorem D2{n:Nat}{w h:Int}{m:Nat}{E:List Eg}(M:∀e∈E,e.ok w h)(J:E.length<=84):(ak defs gv (n+1) 13 [.d (.lst (E.map eD))]).wp m (λd y=>y=m/\∃(P:List Pt)(vs:List D),d=.aE (P.map aj) vs/\mO w h 168 P vs):=by
 have z:=m6;rw[aD (d:=gC) rfl rfl];unfold gC;refine gF λQ L=>?_;subst_eqs;simp only[jn,T.bA];generalize D.lst (E.map eD)=X0;refine dw (λG p y=>y=m/\∃(f:List Eg)(P:List Pt)(vs:List D)(c:Nat)(x t s r:Option W),G=f.map eD/\(∀e∈f,e.ok w h)/\c+2*f.length<=168/\p=[O7 (.d X0),O7 (.own (.aE (P.map aj) vs)),x,t,s,r]/\mO w h c P vs) ?_ ?_ ⟨rfl,E,[],[],0,Pb,Pb,Pb,Pb,rfl,M,by omega,rfl,⟨List.nodup_nil,rfl,by simp,by simp,by simp⟩⟩
 .rintro d G p C⟨g,f,P,vs,c,x,t,s,r,hd,o,F,b,W⟩;rw[b];clear b;cases f with
  |nil=>cases hd|cons e f=>
   rw[(Rn hd).1,(Rn hd).2];clear hd;have a:=o e Pn;simp only[PM]at F;have I:0<=e.i/\e.i<w/\0<=e.j/\e.j<h:=by
    have:=a.lv;have:=a.iw;have:=a.jh;have:=a.i0;have:=a.j0;omega
   have H:0<=e.i+e.l/\e.i+e.l<w/\0<=e.j+1-e.l/\e.j+1-e.l<h:=by
    have:=a.lv;have:=a.iw;have:=a.jh;have:=a.i0;have:=a.j0;omega
   obtain⟨R,q,B,O⟩:=Iw (k:=n) (X0:=O7 (.d X0)) W I H (by omega);generalize hu:e.i+e.l=u at B;generalize A:e.j+1-e.l=v at B;have N:eD e=.tup [.tup [.int e.i,.int e.j],.tup [.int u,.int v]]:=by rw[<-hu,<-A];rfl
   rw[N];show(ay (V n) kN [O7 (.d X0),O7 (.own (.aE (P.map aj) vs)),O7 (.d (.int e.i)),O7 (.d (.int e.j)),O7 (.d (.int u)),O7 (.d (.int v))]).wp C _;rw[B];exact⟨g,f,R,q,c+1+1,_,_,_,_,rfl,λe K=>o e (Po _ K),by omega,rfl,O⟩
 .rintro p C⟨g,f,P,vs,c,x,t,s,r,hd,o,F,b,W⟩;rw[b];unfold v9;subst_eqs;exact L _ _ ⟨g,P,vs,rfl,W.nd,W.len,by have:=W.sz;omega,λv A=>by
   obtain⟨ns,e,J⟩:=W.val v A;exact⟨ns,e,by omega⟩,W.yo⟩
theorem uA(d:D)(xs:List D):bD .In d (.tup xs)=(T.get (lJ d xs)>>=λb=>.ok (.bl b)):=rfl
theorem sQ(d:D)(xs:List D):bD .NotIn d (.tup xs)=(T.get (lJ d xs)>>=λb=>.ok (.bl (!b))):=rfl
theorem sR(d:D)(xs:List D):bD .NotIn d (.lst xs)=(T.get (lJ d xs)>>=λb=>.ok (.bl (!b))):=rfl
theorem mP(k:Nat):∀(xs a:List Int),∃b,aZ (cV (k+1)) (xs.map D.int) (a.map D.int)=O7 b
 |[],[]=>⟨_,rfl⟩|[],_::_=>⟨_,rfl⟩|_::_,[]=>⟨_,rfl⟩|x::xs,y::a=>by
  obtain⟨b,e⟩:=mP k xs a;simp only[PY,aZ];have:cV (k+1) (.int x) (.int y)=O7 (x==y):=rfl;rw[this];cases x==y<;>simp[e]
theorem wu(k:Nat)(xs a:List Int):∃b,cV (k+2) (.lst (xs.map D.int)) (.lst (a.map D.int))=O7 b:=by
 obtain⟨b,e⟩:=mP k xs a;refine⟨b&&(xs.map D.int).length==(a.map D.int).length,?_⟩;show(aZ (cV (k+1)) (xs.map D.int) (a.map D.int)).map (λb=>b&&(xs.map D.int).length==(a.map D.int).length)=_;rw[e];rfl
theorem D3(ns:List Int):(ns.map D.int).all GY=Pa:=by
 rw[Qq];intro x a;obtain⟨e,_,rfl⟩:=List.mem_map.mp a;rfl
theorem sS{n m:Nat}{ns:List Int}(j:ns.length<=1000):(ak defs gv (n+1) 14 [.d (.lst (ns.map D.int))]).wp m (λd g=>g=m/\∃b,d=.bl b):=by
 have z:=m6;rw[aD (d:=bZ) rfl rfl];unfold bZ;subst_eqs;refine cf (ds:=ns.map D.int) rfl (by rw[Pk];omega) (by unfold iI;rw[D3];rfl) λi p=>?_;obtain⟨a,h,rfl⟩:=c_ p rfl;refine⟨sd (by decide),sd (by decide),sd (by decide),?_⟩;obtain⟨b1,e⟩:=wu 48 [0,2] a;obtain⟨f,c⟩:=wu 48 [1,3] a;have e:cV 50 (.lst [.int 0,.int 2]) (.lst (a.map D.int))=O7 b1:=e;have c:cV 50 (.lst [.int 1,.int 3]) (.lst (a.map D.int))=O7 f:=c;rw[uA,T.wp_bind];have:lJ (.lst (a.map D.int)) [.lst [.int 0,.int 2],.lst [.int 1,.int 3]]=O7 (b1||(f||Pc)):=by
  unfold lJ;rw[e];unfold lJ;rw[c];rfl
 rw[this];exact⟨rfl,_,rfl⟩
theorem uB(P:List Pt):(P.map aj).all Dr=Pa:=by
 rw[Qq];intro x a;obtain⟨e,_,rfl⟩:=List.mem_map.mp a;rfl
theorem D4{ks vs:List D}{d v:D}{m:Nat}{Q:D->Nat->Prop}(a:az ks d=Pa)(e:aJ ks vs d=O7 v)(h:Q v m):(br (.aE ks vs) d).wp m Q:=by
 show(T.need (az ks d)>>=λ_=>T.get (aJ ks vs d)).wp m Q;rw[T.wp_bind,T.kP,a,e];exact⟨rfl,h⟩
structure Num(w h:Int)(A:List (Pt×Int)):Prop where
 nd:(A.map (·.1)).Nodup
 inj:∀a∈A,∀b∈A,a.2=b.2->a.1=b.1
 val:∀a∈A,0<=a.2/\a.2<1000
 yo:∀a∈A,0<=a.1.1/\a.1.1<w/\0<=a.1.2/\a.1.2<h
 sz:A.length<=168
noncomputable def fQ(A:List (Pt×Int)):D:=.aE (A.map λa=>aj a.1) (A.map λa=>.int a.2)
noncomputable def en(k:Nat):List Pt->List D
 |[]=>[]|p::r=>.tup [.int k,aj p]::en (k+1) r
theorem D8(P:List Pt):g9 (P.map aj)=en 0 P:=by
 unfold g9;generalize 0=k;induction P generalizing k with
 |nil=>rfl|cons p P a=>
  simp only[PY,List.zipIdx_cons];rw[a];rfl
theorem uC(k:Nat)(P:List Pt):(en k P).length=P.length:=by induction P generalizing k with
 |nil=>rfl|cons p P a=>simp[en,a]
theorem steps{b s k1 k2:Int}(hs:s=1\/s=7\/s=333\/s=999\/s=101\/s=613)(c:0<=k1/\k1<1000)(a:0<=k2/\k2<1000)(h:(b+s*k1)%1000=(b+s*k2)%1000):k1=k2:=by rcases hs with rfl|rfl|rfl|rfl|rfl|rfl<;>omega+splitNatSub
theorem Bj{A:List (Pt×Int)}(p:Pt)(v:Int)(h:p∉A.map (·.1)):putD (A.map λa=>aj a.1) (A.map λa=>.int a.2) (aj p) (.int v)=((A++[(p,v)]).map λa=>aj a.1,(A++[(p,v)]).map λa=>.int a.2):=by
 unfold putD;have:(A.map λa=>aj a.1)=(A.map (·.1)).map aj:=by simp
 rw[this,Bi,decide_eq_false h];simp
theorem Iy{v:Ev}{c:Ex}{a:bC}{ρ ρ':ag}{m:Nat}{Q:Fl->Nat->Prop}(h:ay v a ρ=.ok (.nx ρ'))(H:(cP v c ρ).wp m (λb d=>Q (.nx (if b=Pa then ρ' else ρ)) d)):(ay v (.cons (.iff c a .nil) .nil) ρ).wp m Q:=by
 rw[dX,eP,h,T.wp_bind,T.wp_bind];refine T.wp_mono (λb d q=>?_) H;cases b with
 |true=>exact q|false=>exact q
theorem D9{k:Nat}{f x1 c:Option L2.W}{b s j:Int}{A:List (Pt×Int)}{p:Pt}(h:p∉A.map (·.1))(hs:gm s=Pa)(l:A.length<=400):ay (V k) (.cons (.put 5 (.var 7) (.op .Mod (.op .Add (.var 3) (.op .Mult (.var 4) (.var 6))) (.cst (.int 1000)))) .nil) [f,x1,c,O7 (.d (.int b)),O7 (.d (.int s)),O7 (.own (fQ A)),O7 (.d (.int j)),O7 (.d (aj p))]=.ok (.nx [f,x1,c,O7 (.d (.int b)),O7 (.d (.int s)),O7 (.own (fQ (A++[(p,(b+s*j)%1000)]))),O7 (.d (.int j)),O7 (.d (aj p))]):=by
 have z:=m6;have i:au (V k) (.op .Mod (.op .Add (.var 3) (.op .Mult (.var 4) (.var 6))) (.cst (.int 1000))) [f,x1,c,O7 (.d (.int b)),O7 (.d (.int s)),O7 (.own (fQ A)),O7 (.d (.int j)),O7 (.d (aj p))]=.ok (.int ((b+s*j)%1000)):=by
  show((((T.need (gm s||gm j)>>=λ_=>T.ok (D.int (s*j)))>>=λe=>ym .Add (.int b) e)>>=λd=>ym .Mod d (.int 1000)))=_;rw[hs];rfl
 have g:az (A.map λa=>aj a.1) (aj p)=Pa:=by
  have:(A.map λa=>aj a.1)=(A.map (·.1)).map aj:=by simp
  rw[this];exact dY (p_ _) rfl
 refine(aQ (ρ':=[f,x1,c,O7 (.d (.int b)),O7 (.d (.int s)),O7 (.own (fQ (A++[(p,(b+s*j)%1000)]))),O7 (.d (.int j)),O7 (.d (aj p))]) ?_).trans rfl;rw[wg,i,ae];show(T.need (decide ((A.map λa=>aj a.1).length<Pl)&&az (A.map λa=>aj a.1) (aj p))>>=λ_=>T.ok (Fl.nx [f,x1,c,O7 (.d (.int b)),O7 (.d (.int s)),O7 (.own (.aE (putD (A.map λa=>aj a.1) (A.map λa=>.int a.2) (aj p) (.int ((b+s*j)%1000))).1 (putD (A.map λa=>aj a.1) (A.map λa=>.int a.2) (aj p) (.int ((b+s*j)%1000))).2)),O7 (.d (.int j)),O7 (.d (aj p))]))=_;rw[g,decide_eq_true (show(A.map λa=>aj a.1).length<Pl by rw[Pk];omega),Bj p _ h];rfl
inductive NI(P':List Pt)(X0 XP:D)(b s:Int)(m1:Nat)(ds:List D)(ρ:ag)(m':Nat):Prop|mk(Pd Pr:List Pt)(A:List (Pt×Int))(o6 o7:Option L2.W)(g1:m1<=m'+(P'.length-ds.length))(hP:P'=Pd++Pr)(hd:ds=en Pd.length Pr)(eρ:ρ=[O7 L2.W.feed,O7 (L2.W.d X0),O7 (L2.W.d XP),O7 (L2.W.d (D.int b)),O7 (L2.W.d (D.int s)),O7 (L2.W.own (fQ A)),o6,o7])(g2:(A.map (·.1)).Nodup)(g3:A.length<=Pd.length)(g4:∀a∈A,∃k:Nat,Pd[k]?=O7 a.1/\a.2=(b+s*k)%1000)
theorem sT{n:Nat}{w h:Int}{m:Nat}{E:List Eg}(hE:∀e∈E,e.ok w h)(hl:E.length<=84)(hm:200<=m):(ak defs gv (n+2) 18 [.feed,.d (.lst (E.map eD))]).wp m (λd m'=>m<=m'+200/\∃A:List (Pt×Int),d=fQ A/\Num w h A):=by
 have z:=m6;rw[aD (d:=dv) rfl rfl];unfold dv;refine gF λQ H=>?_;rw[T.wp_bind];refine gF λQ2 Y=>?_;refine mL ?_;subst_eqs;refine wp_call (D2 hE hl) ?_;intro d m0 X;obtain⟨e0,P,B,l,W⟩:=X;rw[l,e0];clear e0 l;show(ay (V (n+1)) gx [O7 .feed,O7 (.d (.lst (E.map eD))),O7 (.d (.aE (P.map aj) B)),Pb,Pb,Pb,Pb,Pb]).wp m Q2;have key:∀(b s:Int)(r:Nat),m<=r+3->(s=1\/s=7\/s=333\/s=999\/s=101\/s=613)->(ay (V (n+1)) gw [O7 L2.W.feed,O7 (L2.W.d (D.lst (YB eD E))),O7 (L2.W.d (D.aE (YB aj P) B)),O7 (L2.W.d (D.int b)),O7 (L2.W.d (D.int s)),Pb,Pb,Pb]).wp r Q2:=by
  intro b s r a3 G;unfold gw;subst_eqs;refine cf (ds:=P.map aj) rfl (by rw[Pk];have:=W.sz;omega) (by unfold iI;rw[uB];simp) λl' pm=>?_;obtain⟨O,K,rfl⟩:=c_ pm rfl;have F:O.Nodup:=K.nodup_iff.mpr W.nd;have R:O.length<=168:=by rw[K.length_eq];exact W.sz
  subst_eqs;rw[D8];generalize D.lst (YB eD E)=N;refine dw (NI O N (D.aE (YB aj P) B) b s r) ?_ ?_ ⟨[],O,[],Pb,Pb,?_,rfl,rfl,rfl,?_,?_,?_⟩
  .rintro d ds ρ m2⟨f,o,A,o6,o7,Z,rfl,hd,j,L,g3,u⟩;rw[j];clear j;cases o with
   |nil=>cases hd|cons p o=>
    rw[(Rn hd).2]at Z;rw[(Rn hd).1,(Rn hd).2];clear hd;simp only[PM,uC,P6]at Z;have hp:p∈P:=K.mem_iff.mp (by simp);obtain⟨v,I⟩:=x9 W.len hp;obtain⟨ns,rfl,a2⟩:=W.val v (mM I);have t:p∉A.map (·.1):=λq=>by
     obtain⟨a,ha,rfl⟩:=List.mem_map.mp q;obtain⟨k,hk,_⟩:=u a ha;have:=Qd hk;rw[Rv]at F;exact F.2.2 _ this _ Pn rfl
    have sm:gm s=Pa:=by
     unfold gm;rw[Pp,decide_eq_true_eq,decide_eq_true_eq];constructor<;>omega
    have a0:f.length+(o.length+1)<=168:=by simpa using R
    have go:∀(g:Nat),r<=g+(f.length+1)->r<=g+((f++p::o).length-(en (f.length+1) o).length):=λg h=>by rw[uC,P6,PM];omega
    have C:∀a∈A,∃k:Nat,(f++[p])[k]?=O7 a.1/\a.2=(b+s*k)%1000:=λa ha=>by
     obtain⟨k,l,J⟩:=u a ha;exact⟨k,by rw[QP (List.getElem?_eq_some_iff.mp l).1];exact l,J⟩
    refine jE λQ H=>?_;show(ay (V (n+1)) gu [O7 .feed,O7 (.d N),O7 (.d (.aE (P.map aj) B)),O7 (.d (.int b)),O7 (.d (.int s)),O7 (.own (fQ A)),O7 (.d (.int f.length)),O7 (.d (aj p))]).wp m2 Q;have keep:∀(g:Nat),r<=g+(f.length+1)->Q (.nx [O7 .feed,O7 (.d N),O7 (.d (.aE (P.map aj) B)),O7 (.d (.int b)),O7 (.d (.int s)),O7 (.own (fQ A)),O7 (.d (.int f.length)),O7 (.d (aj p))]) g:=λg h=>H _ _ (NI.mk (f++[p]) o A _ _ (go g h) (by simp) (by simp) rfl L (by simp;omega) C);have add:∀(g:Nat),r<=g+(f.length+1)->Q (.nx [O7 .feed,O7 (.d N),O7 (.d (.aE (P.map aj) B)),O7 (.d (.int b)),O7 (.d (.int s)),O7 (.own (fQ (A++[(p,(b+s*f.length)%1000)]))),O7 (.d (.int f.length)),O7 (.d (aj p))]) g:=λg h=>by
     refine H _ _ (NI.mk (f++[p]) o (A++[(p,(b+s*f.length)%1000)]) _ _ (go g h) (by simp) (by simp) rfl ?_ (by simp;omega) ?_)
     .rw[Qm,Rv];refine⟨L,by simp,λx hx y hy=>?_⟩;rw[List.mem_singleton.mp hy];exactλq=>t (by rw[show x=p from q]at hx;exact hx)
     .intro a ha;rcases List.mem_append.mp ha with q|q;.exact C a q
      .rw[List.mem_singleton.mp q];exact⟨f.length,by simp,rfl⟩
    clear H;unfold gu;refine Iy (D9 t sm (by omega)) ?_;subst_eqs;refine D4 (dY (p_ P) rfl) I (wp_call (sS (by omega)) ?_);intro d m3 U;obtain⟨e3,bb,e4⟩:=U;rw[e4,e3];show(T.get (O7 bb)).wp _ _;rw[T.bA];cases bb with
    |false=>exact add _ (by omega)|true=>
     simp only[Rb,P4,if_false,kQ,T.bz];refine⟨by decide,by decide,by omega,λq q0 q1=>?_⟩;cases q==0 with
     |true=>exact add _ (by omega)|false=>exact keep _ (by omega)
  .rintro ρ m2⟨f,o,A,o6,o7,Z,rfl,hd,j,L,g3,u⟩;rw[j];clear j;have:o=[]:=by cases o with
    |nil=>rfl|cons _ _=>cases hd
   subst this;unfold km;subst_eqs;simp only[QL,P8]at*;refine Y _ _ (H _ _ ⟨by omega,A,rfl,L,λa ha c hc e=>?_,λa ha=>?_,λa ha=>?_,by omega⟩)
   .obtain⟨S,l,M⟩:=u a ha;obtain⟨k2,J,f2⟩:=u c hc;have l1:=(List.getElem?_eq_some_iff.mp l).1;have l2:=(List.getElem?_eq_some_iff.mp J).1;rw[M,f2]at e;have:=steps G (by omega) (by omega) e;have:S=k2:=by omega
    subst this;rw[l]at J;exact Pm J
   .obtain⟨S,l,M⟩:=u a ha;rw[M];omega
   .obtain⟨S,l,M⟩:=u a ha;exact W.yo _ (K.mem_iff.mp (Qd l))
  .simp[uC]
  .simp
  .simp
  .simp
 unfold gx;subst_eqs;refine⟨by decide,by decide,by omega,λb b0 b1=>⟨sd (by decide),by decide,by decide,by omega,λi i0 i1=>?_⟩⟩;have G:∃s:Int,fj [D.int 1,D.int 7,D.int 333,D.int 999,D.int 101,D.int 613] i=O7 (.int s)/\(s=1\/s=7\/s=333\/s=999\/s=101\/s=613):=by
  rcases(by omega:i=0\/i=1\/i=2\/i=3\/i=4\/i=5)with rfl|rfl|rfl|rfl|rfl|rfl;.exact⟨_,rfl,by decide⟩
  .exact⟨_,rfl,by decide⟩
  .exact⟨_,rfl,by decide⟩
  .exact⟨_,rfl,by decide⟩
  .exact⟨_,rfl,by decide⟩
  .exact⟨_,rfl,by decide⟩
 obtain⟨s,es,G⟩:=G;rw[es,T.bA];simp only[kQ,T.bz];refine⟨by decide,by decide,by omega,λq q0 q1=>?_⟩;split;.exact⟨sd (by decide),key 0 1 _ (by omega) (by decide)⟩
 .exact key b s _ (by omega) G
theorem D_{g:D->ag->T ag}{f:ag->T Bool}{b:ag->T D}{ds:List D}{ρ:ag}{m:Nat}{Q:List D->Nat->Prop}(S:ag->Prop)(c:D->Bool)(e:D->D)(h:∀ρ,S ρ->∀d∈ds,∃a,g d ρ=.ok a/\S a/\f a=.ok (c d)/\(c d=Pa->b a=.ok (e d)))(i:S ρ)(q:Q ((ds.filter c).map e) m):(bK g f b ds ρ).wp m Q:=by
 rw[mJ S h i];exact q
theorem mQ{g:D->ag->T ag}{c:ag->T Bool}{b:ag->T D}{ds:List D}{ρ:ag}{m:Nat}{Q:List D->Nat->Prop}(S:ag->Prop)(e:D->D)(h:∀ρ,S ρ->∀d∈ds,∃a,g d ρ=.ok a/\S a/\c a=.ok Pa/\b a=.ok (e d))(n:S ρ)(q:Q (ds.map e) m):(bK g c b ds ρ).wp m Q:=by
 refine D_ S (λ_=>Pa) e (λρ f d hd=>?_) n (by rw[List.filter_eq_self.mpr λ_ _=>rfl];exact q);obtain⟨a,l,k,j,i⟩:=h ρ f d hd;exact⟨a,l,k,j,λ_=>i⟩
theorem Bk(k:Nat)(p q:Pt):cV (k+2) (aj p) (aj q)=O7 (decide (p=q)):=by
 have:cV (k+2) (aj p) (aj q)=O7 (((p.1==q.1)&&((p.2==q.2)&&Pa))&&Pa):=rfl;rw[this];obtain⟨a,b⟩:=p;obtain⟨c,d⟩:=q;congr 1;simp only[Bool.and_true,TR];rw[R_];simp
theorem E_(q:Pt):∀(P:List Pt),lJ (aj q) (P.map aj)=O7 (decide (q∈P))
 |[]=>by simp[lJ]|p::P=>by
  rw[PY];unfold lJ;rw[Bk 48 p q,E_ q P];by_cases h:p=q;.simp[h]
  .simp[h,Q9 h,eq_comm]
theorem x_(p q:Pt):bD .Eq (aj p) (aj q)=.ok (.bl (decide (p=q))):=by
 show(T.get (cV dj (aj p) (aj q))>>=λb=>T.ok (D.bl b))=_;rw[show dj=58+2 from rfl,Bk];rfl
theorem ya(p q:Pt):bD .NotEq (aj p) (aj q)=.ok (.bl (!decide (p=q))):=by
 show(T.get (cV dj (aj p) (aj q))>>=λb=>T.ok (D.bl (!b)))=_;rw[show dj=58+2 from rfl,Bk];rfl
theorem uD(q:Pt)(P:List Pt):bD .NotIn (aj q) (.lst (P.map aj))=.ok (.bl (!decide (q∈P))):=by rw[sR,E_];rfl
noncomputable def yb(x:Pt×Pt):D:=.tup [aj x.1,aj x.2]
noncomputable def i7(p:Pt)(l:Int)(k:Nat):Pt:=(p.1+k*l,p.2+k*(1-l))
theorem sU(p:Pt)(l:Int):i7 p l 0=p:=by simp[i7]
theorem Bl{p:Pt}{l:Int}(a:l=0\/l=1)(k:Nat):i7 p l (k+1)=((i7 p l k).1+l,(i7 p l k).2+1-l):=by
 unfold i7;rcases a with rfl|rfl<;>simp<;>omega
theorem wx{p:Pt}{l:Int}(a:l=0\/l=1)(k:Nat):(i7 p l k).1+(i7 p l k).2=p.1+p.2+k:=by
 unfold i7;rcases a with rfl|rfl<;>simp<;>omega
noncomputable def mR(E:List Eg)(p:Pt)(l:Int)(k:Nat):Prop:=∀s:Nat,s<k->(⟨(i7 p l s).1,(i7 p l s).2,l⟩:Eg)∈E
structure bj(E:List Eg)(P:List Pt)(p:Pt)(l:Int)(k:Nat)(q:Pt):Prop where
 pos:0<k
 eq:q=i7 p l k
 chain:mR E p l k
 LX:∀s:Nat,0<s->s<k->i7 p l s∉P
 mem:q∈P
theorem bj.ne{E:List Eg}{P:List Pt}{p q:Pt}{l:Int}{k:Nat}(a:l=0\/l=1)(h:bj E P p l k q):q≠p:=λz=>by
 have:=wx (p:=p) a k;rw[<-h.eq,z]at this;have:=h.pos;omega+splitNatSub
theorem LY{a b:Eg}(e:a.i=b.i)(d:a.j=b.j)(c:a.l=b.l):a=b:=by cases a;cases b;simp only at e d c;rw[e,d,c]
theorem qc{E:List Eg}{e:Eg}:cw (E.map eD) (eD e)=Pa↔e∈E:=by
 unfold cw;rw[List.any_map,List.any_eq_true];constructor
 .rintro⟨a,ha,b⟩;have b:(((decide (a.i=e.i)&&(decide (a.j=e.j)&&Pa)))&&((decide (a.i+a.l=e.i+e.l)&&(decide (a.j+1-a.l=e.j+1-e.l)&&Pa))&&Pa))=Pa:=b;simp only[Bool.and_true,Pp,decide_eq_true_eq]at b;rw[<-LY b.1.1 b.1.2 (by omega)];exact ha
 .intro h;refine⟨e,h,?_⟩;show(((decide (e.i=e.i)&&(decide (e.j=e.j)&&Pa)))&&((decide (e.i+e.l=e.i+e.l)&&(decide (e.j+1-e.l=e.j+1-e.l)&&Pa))&&Pa))=Pa;simp
theorem Iz{k:Nat}{b a o:Option L2.W}{P:List Pt}{p q:Pt}:cP (V k) fB [b,O7 (.d (.lst (P.map aj))),O7 (.d (aj p)),a,O7 (.d (aj q)),o]=.ok (decide (q=p)||!decide (q∈P)):=by
 unfold fB;show((bD .Eq (aj q) (aj p)>>=bx)>>=λc=>if c then T.ok Pa else(bD .NotIn (aj q) (.lst (P.map aj))>>=bx))=_;rw[x_,uD];cases decide (q=p)<;>rfl
theorem IA{k:Nat}{E:List Eg}{vs:List D}{x1 o:Option L2.W}{p q:Pt}{l:Int}:ay (V k) fC [O7 (.d (.aE (E.map eD) vs)),x1,O7 (.d (aj p)),O7 (.d (.int l)),O7 (.d (aj q)),o]=if cw (E.map eD) (eD ⟨q.1,q.2,l⟩)=Pa then .ok (.nx [O7 (.d (.aE (E.map eD) vs)),x1,O7 (.d (aj p)),O7 (.d (.int l)),O7 (.d (aj (q.1+l,q.2+1-l))),O7 (.d (aj (q.1+l,q.2+1-l)))])else .ok (.rt (aj p)):=by
 unfold fC;rw[fH (d:=aj (q.1+l,q.2+1-l)) (by
  show(T.need (decide (2<=Pl))>>=λ_=>T.ok (D.tup [.int (q.1+l),.int (q.2+1-l)]))=_;rw[E9];rfl)];have t:cP (V k) (.aW .NotIn (.tup (.cons (.var 4) (.cons (.var 5) .nil))) (.var 0)) ([O7 (.d (.aE (E.map eD) vs)),x1,O7 (.d (aj p)),O7 (.d (.int l)),O7 (.d (aj q)),o].set 5 (O7 (.d (aj (q.1+l,q.2+1-l)))))=.ok (!cw (E.map eD) (eD ⟨q.1,q.2,l⟩)):=by
  show((T.need (decide (2<=Pl))>>=λ_=>T.ok (D.tup [aj q,aj (q.1+l,q.2+1-l)]))>>=λd=>bD .NotIn d (.aE (E.map eD) vs)>>=bx)=_;rw[E9];show((T.need (az (E.map eD) (eD ⟨q.1,q.2,l⟩))>>=λ_=>T.ok (D.bl (!cw (E.map eD) (eD ⟨q.1,q.2,l⟩))))>>=bx)=_;rw[dY (uz E) (wo _)];rfl
 rw[dX,eP,t,ae];cases cw (E.map eD) (eD ⟨q.1,q.2,l⟩)<;>rfl
inductive FI(E:List Eg)(P:List Pt)(p:Pt)(l w h:Int)(x0:D)(m:Nat)(j:Nat)(ρ:ag)(m':Nat):Prop|mk(k:Nat)(q:Pt)(o:Option L2.W)(hm:m'=m)(eρ:ρ=[O7 (L2.W.d x0),O7 (L2.W.d (D.lst (P.map aj))),O7 (L2.W.d (aj p)),O7 (L2.W.d (D.int l)),O7 (L2.W.d (aj q)),o])(eq:q=i7 p l k)(ch:mR E p l k)(bt:∀s:Nat,0<s->s<k->i7 p l s∉P)(hj:k+j=20)(q1:q.1<w)(q2:q.2<h)
theorem qd{n m:Nat}{w h:Int}{E:List Eg}{vs:List D}{P:List Pt}{p:Pt}{l:Int}(hw:w<=7)(W:h<=7)(M:∀e∈E,e.ok w h)(A:l=0\/l=1)(y:0<=p.1/\p.1<w/\0<=p.2/\p.2<h):(ak defs gv (n+1) 15 [.d (.aE (E.map eD) vs),.d (.lst (P.map aj)),.d (aj p),.d (.int l)]).wp m (λd K=>K=m/\∃q:Pt,d=aj q/\((∃k,bj E P p l k q)\/(q=p/\∀k u,¬bj E P p l k u))):=by
 rw[aD (d:=cZ) rfl rfl];unfold cZ;refine gF λQ B=>?_;rw[fH (d:=aj p) rfl,dX,DZ,T.wp_bind,T.wp_bind];refine mH (FI E P p l w h (D.aE (E.map eD) vs) m) ?_ (k:=20) (by unfold b5;omega) ⟨0,p,Pb,rfl,rfl,(sU p l).symm,λs g=>absurd g (R8 _),λs X N=>absurd N (R8 _),rfl,y.2.1,y.2.2.2⟩;rintro j O U⟨k,q,o,i,f,eq,C,r,V,S,R⟩;rw[f,Iz,T.bz,IA];clear f;have t:=wx (p:=p) A k;rw[<-eq]at t;by_cases a:(decide (q=p)||!decide (q∈P))=Pa
 .rw[if_pos a];have x:k=0\/q∉P:=by
   rw[Q4,decide_eq_true_eq,Ru,decide_eq_false_iff_not]at a;rcases a with z|z;.rw[z]at t;exact .inl (by omega)
   .exact .inr z
  by_cases c:cw (E.map eD) (eD ⟨q.1,q.2,l⟩)=Pa
  .rw[if_pos c,T.bz];have b:=qc.mp c;have ok:=M _ b;have J:q.1+l<w:=ok.iw;have I:q.2+1-l<h:=ok.jh;refine⟨j-1,by omega,FI.mk (k+1) (q.1+l,q.2+1-l) _ i rfl (by rw[Bl A k,<-eq]) (λs g=>?_) (λs H G=>?_) (by omega) J I⟩
   .rcases Nat.lt_succ_iff_lt_or_eq.mp g with c|c;.exact C s c
    .subst c;rw[<-eq];exact b
   .rcases Nat.lt_succ_iff_lt_or_eq.mp G with c|c;.exact r s H c
    .subst c;rw[<-eq];rcases x with z|z;.omega
     .exact z
  .rw[if_neg c,T.bz];refine B _ _ ⟨i,p,rfl,.inr ⟨rfl,λv u F=>?_⟩⟩;have L:=λz=>c (qc.mpr z);rcases Sy v k with c|c|c;.exact r v F.pos c (F.eq▸F.mem)
   .subst c;rcases x with z|z;.have:=F.pos;omega
    .exact z (by rw[eq,<-F.eq];exact F.mem)
   .have:=F.chain k c;rw[<-eq]at this;exact L this
 .rw[if_neg a];refine B _ _ ⟨i,q,rfl,.inl ⟨k,?_,eq,C,r,?_⟩⟩
  .refine Nat.pos_of_ne_zero λz=>a ?_;rw[eq,z,sU,decide_eq_true rfl];rfl
  .rw[Q4,Ru,decide_eq_false_iff_not]at a;exact Decidable.byContradiction λz=>a (.inr z)
theorem Ea{E:List Eg}{vs:List D}{e:Eg}{x:D}{a:List Eg}{b:List D}(h:putD (E.map eD) vs (eD e) x=(a.map eD,b))(d:a=E\/a=E++[e]):e∈a:=by
 rcases d with rfl|rfl
 .unfold putD at h;split at h;.rename_i c;exact qc.mp c
  .have:=congrArg (λz=>z.1.length) h;simp at this
 .simp
theorem Bm:∀(E E0:List Eg)(vs:List D),E0.length+E.length<=1000->∃(b:List Eg)(a:List D),eK (E.map λe=>.tup [eD e,.bl Pa]) (E0.map eD,vs)=O7 (b.map eD,a)/\∀e,e∈b↔e∈E0\/e∈E
 |[],E0,vs,_=>⟨E0,vs,rfl,λe=>by simp⟩|e::E,E0,vs,h=>by
  obtain⟨j,c,i,g⟩:=Bg E0 vs e (.bl Pa);have f:=Ea i g;have d:j.length+E.length<=1000:=by
   simp only[PM]at h;rcases g with rfl|rfl;.omega
   .simp;omega
  obtain⟨b,a,l,k⟩:=Bm E j c d;refine⟨b,a,?_,λx=>?_⟩
  .rw[PY];unfold eK;rw[dY (uz E0) (wo e),decide_eq_true (by have:=m6;simp only[PM]at h;show(E0.map eD).length<Pl;rw[Pk];omega)];show eK _ (putD (E0.map eD) vs (eD e) (.bl Pa))=_;rw[i,l]
  .rw[k x,Sf];rcases g with rfl|rfl
   .constructor
    .rintro(z|z);.exact .inl z
     .exact .inr (.inr z)
    .rintro(z|z|z);.exact .inl z
     .rw[z];exact .inl f
     .exact .inr z
   .rw[List.mem_append,XN,or_assoc]
theorem mR.mono{E b:List Eg}(h:∀e,e∈b↔e∈E){p:Pt}{l:Int}{k:Nat}:mR b p l k↔mR E p l k:=⟨λc s a=>(h _).mp (c s a),λc s a=>(h _).mpr (c s a)⟩
theorem bj.mono{E a:List Eg}(h:∀e,e∈a↔e∈E){P:List Pt}{p q:Pt}{l:Int}{k:Nat}:bj a P p l k q↔bj E P p l k q:=⟨λf=>⟨f.pos,f.eq,(mR.mono h).mp f.chain,f.LX,f.mem⟩,λf=>⟨f.pos,f.eq,(mR.mono h).mpr f.chain,f.LX,f.mem⟩⟩
structure LZ(E:List Eg)(P:List Pt)(S:List (Pt×Pt)):Prop where
 len:S.length<=336
 snd:∀x∈S,x.1∈P/\∃l k,(l=0\/l=1)/\bj E P x.1 l k x.2
 all:∀p∈P,∀l,(l=0\/l=1)->∀k q,bj E P p l k q->(p,q)∈S
noncomputable def Eb(S:List (Pt×Pt))(p q:Pt):List (Pt×Pt):=if q=p then S else S++[(p,q)]
theorem IB{k:Nat}{b x1 a c:Option L2.W}{S:List (Pt×Pt)}{p q:Pt}(f:S.length<=400):ay (V k) eZ [b,x1,a,O7 (.own (.lst (S.map yb))),O7 (.d (aj p)),c,O7 (.d (aj q))]=.ok (.nx [b,x1,a,O7 (.own (.lst ((Eb S p q).map yb))),O7 (.d (aj p)),c,O7 (.d (aj q))]):=by
 have z:=m6;unfold eZ;have t:cP (V k) (.aW .NotEq (.var 6) (.var 4)) [b,x1,a,O7 (.own (.lst (S.map yb))),O7 (.d (aj p)),c,O7 (.d (aj q))]=.ok (!decide (q=p)):=by
  show(bD .NotEq (aj q) (aj p)>>=bx)=_;rw[ya];rfl
 rw[aQ (ρ':=[b,x1,a,O7 (.own (.lst ((Eb S p q).map yb))),O7 (.d (aj p)),c,O7 (.d (aj q))])];.rfl
 rw[eP,t,ae];unfold Eb;by_cases e:q=p
 .rw[if_pos e,decide_eq_true e];rfl
 .rw[if_neg e,decide_eq_false e,if_pos (show(!false)=Pa from rfl),aQ (ρ':=[b,x1,a,O7 (.own (.lst ((S++[(p,q)]).map yb))),O7 (.d (aj p)),c,O7 (.d (aj q))])];.rfl
  .show((T.need (decide (2<=Pl))>>=λ_=>T.ok (D.tup [aj p,aj q]))>>=λd=>T.need (decide ((S.map yb).length<Pl))>>=λ_=>T.ok (Fl.nx [b,x1,a,O7 (.own (.lst (S.map yb++[d]))),O7 (.d (aj p)),c,O7 (.d (aj q))]))=_;rw[E9,decide_eq_true (show(S.map yb).length<Pl by rw[Pk];omega),Qm];rfl
inductive Ot(E:List Eg)(P:List Pt)(X0 XP XE:D)(m:Nat)(ds:List D)(ρ:ag)(m':Nat):Prop|mk(P':List Pt)(S:List (Pt×Pt))(o4 o5 o6:Option L2.W)(hm:m'=m)(hd:ds=P'.map aj)(hP':∀p∈P',p∈P)(eρ:ρ=[O7 (L2.W.d X0),O7 (L2.W.d XP),O7 (L2.W.d XE),O7 (L2.W.own (D.lst (S.map yb))),o4,o5,o6])(g1:S.length+2*P'.length<=336)(g2:∀x∈S,x.1∈P/\∃l k,(l=0\/l=1)/\bj E P x.1 l k x.2)(g3:∀p∈P,p∈P'\/∀l,(l=0\/l=1)->∀k q,bj E P p l k q->(p,q)∈S)
inductive N3(E:List Eg)(P P':List Pt)(p:Pt)(X0 XP XE:D)(m1:Nat)(ds:List D)(ρ:ag)(m':Nat):Prop|mk(L:List Int)(S:List (Pt×Pt))(o5 o6:Option L2.W)(hm:m'=m1)(hd:ds=L.map D.int)(hL:∀l∈L,l=0\/l=1)(eρ:ρ=[O7 (L2.W.d X0),O7 (L2.W.d XP),O7 (L2.W.d XE),O7 (L2.W.own (D.lst (S.map yb))),O7 (L2.W.d (aj p)),o5,o6])(k1:S.length+L.length+2*P'.length<=336)(k2:∀x∈S,x.1∈P/\∃l k,(l=0\/l=1)/\bj E P x.1 l k x.2)(k3:∀p'∈P,p'∈p::P'\/∀l,(l=0\/l=1)->∀k q,bj E P p' l k q->(p',q)∈S)(k4:∀l,(l=0\/l=1)->l∈L\/∀k q,bj E P p l k q->(p,q)∈S)
theorem nk{n m:Nat}{w h:Int}{E:List Eg}{P:List Pt}(hw:w<=7)(hh:h<=7)(hE:∀e∈E,e.ok w h)(b:E.length<=84)(hP:∀p∈P,0<=p.1/\p.1<w/\0<=p.2/\p.2<h)(a0:P.length<=168):(ak defs gv (n+2) 16 [.d (.lst (E.map eD)),.d (.lst (P.map aj))]).wp m (λd m'=>m'=m/\∃S:List (Pt×Pt),d=.lst (S.map yb)/\LZ E P S):=by
 have z:=m6;rw[aD (d:=cO) rfl rfl];unfold cO;refine gF λQ B=>?_;subst_eqs;simp only[jn,T.bA];refine mQ (λv=>∃o,v=[o]) (λd=>.tup [d,.bl Pa]) ?_ ⟨Pb,rfl⟩ ?_
 .rintro v⟨o,rfl⟩d hd;exact⟨_,rfl,⟨_,rfl⟩,rfl,by unfold hX;bv_omega⟩
 rw[Rk];obtain⟨C,i,d0,d2⟩:=Bm E [] [] (by simp;omega);have d3:∀e,e∈C↔e∈E:=λe=>by rw[d2 e];simp
 have X:∀e∈C,e.ok w h:=λe he=>hE e ((d3 e).mp he);show(T.get (eK (E.map λe=>.tup [eD e,.bl Pa]) ([],[]))>>=λr=>T.ok (D.aE r.1 r.2)).wp m _;have d1:eK (E.map λe=>.tup [eD e,.bl Pa]) ([],[])=O7 (C.map eD,i):=d0;rw[d1,T.wp_bind,T.bA,T.bz];clear d0 d1 d2;refine⟨sd (by decide),?_⟩;dsimp only;generalize D.lst (E.map eD)=X0;refine dw (Ot E P X0 (D.lst (P.map aj)) (D.aE (C.map eD) i) m) ?_ ?_ ?_;rotate_left 2;.exact⟨P,[],Pb,Pb,Pb,rfl,rfl,λ_ h=>h,rfl,by simp only[P8];omega,(λx U=>nomatch U),λp y=>.inl y⟩
 .rintro d ds v m1⟨u,S,o4,H,G,rfl,hd,t,a,g1,Z,Y⟩;rw[a];clear a;cases u with
  |nil=>cases hd|cons p u=>
   rw[(Rn hd).1,(Rn hd).2];clear hd;simp only[PM]at g1;have pP:=t p Pn;refine jE λQ B=>?_;unfold hV;subst_eqs;have er:aT (Int.toNat 2)=[0,1].map D.int:=rfl;refine⟨by decide,?_⟩;rw[er];clear er;refine dw (N3 E P u p X0 (D.lst (P.map aj)) (D.aE (C.map eD) i) m1) ?_ ?_ ⟨[0,1],S,H,G,rfl,rfl,by simp,rfl,by simp only[PM,P8];omega,Z,Y,λl b=>.inl (by rcases b with rfl|rfl<;>simp)⟩
   .rintro d ds v m2⟨L,S,H,G,A,hd,M,a,R,K,J,I⟩;rw[a];clear a;cases L with
    |nil=>cases hd|cons l L=>
     rw[(Rn hd).1,(Rn hd).2];clear hd;simp only[PM]at R;have b:=M l Pn;refine jE λQ B=>?_;unfold hU;subst_eqs;refine wp_call (qd hw hh X b (hP p pP)) ?_;intro d m3 V;obtain⟨e3,q,e4,hq⟩:=V;rw[e4,IB (by omega)];refine B _ _ ?_;unfold Eb;by_cases e:q=p
     .rw[if_pos e];have no:∀k f,¬bj E P p l k f:=λk f F=>by
       rcases hq with⟨k0,g⟩|⟨_,z⟩;.exact g.ne b e
       .exact z k f ((bj.mono d3).mpr F)
      exact N3.mk L S _ _ (e3.trans A) rfl (λl b=>M l (Po _ b)) rfl (by omega) K J (λO s=>by
       rcases I O s with z|z
       .rcases List.mem_cons.mp z with rfl|z;.exact .inr λk f F=>absurd F (no k f)
        .exact .inl z
       .exact .inr z)
     .rw[if_neg e];obtain⟨k0,g⟩:∃k,bj E P p l k q:=by
       rcases hq with⟨k0,g⟩|⟨z,_⟩;.exact⟨k0,(bj.mono d3).mp g⟩
       .exact absurd z e
      have one:∀k f,bj E P p l k f->f=q:=λk f F=>by
       rcases Sy k k0 with c|c|c;.exact absurd (F.eq▸F.mem) (g.LX k F.pos c)
       .rw[F.eq,g.eq,c]
       .exact absurd (g.eq▸g.mem) (F.LX k0 g.pos c)
      refine N3.mk L (S++[(p,q)]) (O7 (L2.W.d (.int l))) (O7 (L2.W.d (aj q))) (e3.trans A) rfl (λl b=>M l (Po _ b)) rfl (by simp;omega) (λx U=>?_) (λN j=>?_) (λO s=>?_)
      .rcases List.mem_append.mp U with z|z;.exact K x z
       .rw[List.mem_singleton.mp z];exact⟨pP,l,k0,b,g⟩
      .rcases J N j with z|z;.exact .inl z
       .exact .inr λl b k q F=>Qk _ (z l b k q F)
      .rcases I O s with z|z
       .rcases List.mem_cons.mp z with rfl|z;.exact .inr λk f F=>by rw[one k f F];simp
        .exact .inl z
       .exact .inr λk f F=>Qk _ (z k f F)
   .rintro v m2⟨L,S,H,G,rfl,hd,M,a,R,K,J,I⟩;rw[a];clear a;have:L=[]:=by cases L with
     |nil=>rfl|cons _ _=>cases hd
    subst this;refine B _ _ (Ot.mk u S _ _ _ rfl rfl (λp y=>t p (Po _ y)) rfl (by simpa using R) K λN j=>?_);rcases J N j with z|z
    .rcases List.mem_cons.mp z with rfl|z
     .exact .inr λl b k q F=>by
       rcases I l b with z|z;.cases z
       .exact z k q F
     .exact .inl z
    .exact .inr z
 .rintro v m1⟨u,S,o4,H,G,rfl,hd,t,a,g1,Z,Y⟩;rw[a];clear a;unfold hG;subst_eqs;have:u=[]:=by cases u with
   |nil=>rfl|cons _ _=>cases hd
  subst this;exact B _ _ ⟨rfl,S,rfl,by simpa using g1,Z,λp y l b k q F=>by
   rcases Y p y with z|z;.cases z
   .exact z l b k q F⟩
noncomputable def look:List (Pt×Int)->Pt->Int
 |[],_=>0|a::A,p=>if a.1=p then a.2 else look A p
theorem eQ:∀{A:List (Pt×Int)}{p:Pt},p∈A.map (·.1)->(p,look A p)∈A
 |[],_,h=>by cases h|a::A,p,h=>by
  unfold look;by_cases e:a.1=p;.rw[if_pos e,<-e];exact Pn
  .rw[if_neg e];rcases List.mem_cons.mp h with z|z;.exact absurd z.symm e
   .exact Po _ (eQ z)
theorem Bp:∀{A:List (Pt×Int)}{p:Pt},p∈A.map (·.1)->aJ (A.map λa=>aj a.1) (A.map λa=>.int a.2) (aj p)=O7 (.int (look A p))
 |[],_,h=>by cases h|a::A,p,h=>by
  show(if fZ (aj a.1) (aj p)=Pa then O7 (D.int a.2)else aJ (A.map λa=>aj a.1) (A.map λa=>.int a.2) (aj p))=_;rw[qb];unfold look;by_cases e:a.1=p;.rw[decide_eq_true e,if_pos rfl,if_pos e]
  .rw[decide_eq_false e,if_neg (by simp),if_neg e];rcases List.mem_cons.mp h with z|z;.exact absurd z.symm e
   .exact Bp z
theorem qf{A:List (Pt×Int)}{p:Pt}(h:p∈A.map (·.1)):br (fQ A) (aj p)=.ok (.int (look A p)):=by
 show(T.need (az (A.map λa=>aj a.1) (aj p))>>=λ_=>T.get (aJ (A.map λa=>aj a.1) (A.map λa=>.int a.2) (aj p)))=_;have:(A.map λa=>aj a.1)=(A.map (·.1)).map aj:=by simp
 rw[Bp h,this,dY (p_ _) rfl];rfl
abbrev Cn:=Int×Int×Int
noncomputable def cD(c:Cn):D:=.tup [.int c.1,.int c.2.1,.int c.2.2]
noncomputable def aw(C:List Cn)(W:List Pt):D:=.tup [.tup (C.map cD),.tup (W.map aj)]
theorem IC(C:List Cn):(C.map cD).all Dr=Pa:=by
 rw[Qq];intro x a;obtain⟨e,_,rfl⟩:=List.mem_map.mp a;rfl
noncomputable def ko(A:List (Pt×Int))(xs a:List Int)(p:Pt):Cn:=(look A p,xs.getD p.1.toNat 0,a.getD p.2.toNat 0)
noncomputable def Bq:D->Pt
 |.tup [.int i,.int j]=>(i,j)|_=>(0,0)
noncomputable def Ec:D->Pt×Pt
 |.tup [p,q]=>(Bq p,Bq q)|_=>((0,0),(0,0))
theorem wy{xs:List Int}{i:Int}(a:0<=i)(b:i<xs.length):fj (xs.map D.int) i=O7 (.int (xs.getD i.toNat 0)):=by
 refine Ip a ?_;rw[PV,RL,PN (by omega)];rfl
theorem uE{p:Pt}{a b:Option L2.W}{r:ag}:dD (.tup 2 (.cons (.nm 0) (.cons (.nm 1) .nil))) (aj p) (a::b::r)=.ok (O7 (.d (.int p.1))::O7 (.d (.int p.2))::r):=rfl
theorem ID{x:Pt×Pt}{a b:Option L2.W}{r:ag}:dD (.tup 2 (.cons (.nm 0) (.cons (.nm 1) .nil))) (yb x) (a::b::r)=.ok (O7 (.d (aj x.1))::O7 (.d (aj x.2))::r):=rfl
theorem bj.Fc{E:List Eg}{P P':List Pt}(h:∀q,q∈P'↔q∈P){p q:Pt}{l:Int}{k:Nat}(f:bj E P' p l k q):bj E P p l k q:=⟨f.pos,f.eq,f.chain,λs a b z=>f.LX s a b ((h _).mpr z),(h _).mp f.mem⟩
structure Br(E:List Eg)(A:List (Pt×Int))(xs ys:List Int)(C:List Cn)(W:List Pt):Prop where
 cl:C.length<=168
 wl:W.length<=336
 cs:∀c,c∈C↔∃p∈A.map (·.1),c=ko A xs ys p
 cn:(C.map (·.1)).Nodup
 ws:∀x,x∈W↔∃p q l k,p∈A.map (·.1)/\(l=0\/l=1)/\bj E (A.map (·.1)) p l k q/\x=(look A p,look A q)
theorem IE{n m:Nat}{w h:Int}{E:List Eg}{A:List (Pt×Int)}{xs i:List Int}(hw:w<=7)(hh:h<=7)(hE:∀e∈E,e.ok w h)(hl:E.length<=84)(B:Num w h A)(t:(xs.length:Int)=w)(hy:(i.length:Int)=h)(vx:∀x∈xs,0<=x/\x<=1000000)(vy:∀y∈i,0<=y/\y<=1000000):(ak defs gv (n+3) 17 [.d (.lst (E.map eD)),.d (fQ A),.d (.lst (xs.map D.int)),.d (.lst (i.map D.int))]).wp m (λd m'=>m'=m/\∃(C:List Cn)(W:List Pt),d=aw C W/\Br E A xs i C W):=by
 have z:=m6;rw[aD (d:=iR) rfl rfl];unfold iR;have ks:j9 (fQ A)=O7 ((A.map (·.1)).map aj):=by simp[j9,fQ]
 have N:((A.map (·.1)).map aj).length<=1000000:=by simp;have:=B.sz;omega
 have Q:iI ((A.map (·.1)).map aj)=Pa:=by unfold iI;rw[uB];simp
 simp only[E8,E6,x8,E7,gk,T.bz,T.wp_bind,fO,bO,L2.A.w,PY,Sw,List.cons_append,List.nil_append,PM,P8,Qy,SO,R5,Tn,TY,T.bA,ae];refine cf ks N Q λl' O=>?_;obtain⟨j,r,rfl⟩:=c_ O rfl;simp only[jn,T.bA];have f:∀p∈j,p∈A.map (·.1):=λp g=>r.mem_iff.mp g;refine mQ (λH=>∃K J,H=[K,J,O7 (.d (fQ A)),O7 (.d (.lst (xs.map D.int))),O7 (.d (.lst (i.map D.int)))]) (λd=>cD (ko A xs i (Bq d))) ?_ ⟨Pb,Pb,rfl⟩ ?_
 .rintro H⟨K,J,rfl⟩d hd;obtain⟨p,g,rfl⟩:=List.mem_map.mp hd;have Y:=eQ (f p g);have rg:0<=p.1/\p.1<w/\0<=p.2/\p.2<h:=B.yo _ Y;refine⟨_,uE,⟨_,_,rfl⟩,rfl,?_⟩;unfold A9;have L:=qf (f p g);have L:br (fQ A) (.tup [.int p.1,.int p.2])=.ok (.int (look A p)):=L;have V:T.get (fj (xs.map D.int) p.1)=.ok (.int (xs.getD p.1.toNat 0)):=by rw[wy (by omega) (by rw[t];exact rg.2.1)];rfl
  have i3:T.get (fj (i.map D.int) p.2)=.ok (.int (i.getD p.2.toNat 0)):=by rw[wy (by omega) (by rw[hy];exact rg.2.2.2)];rfl
  bv_omega;rw[L,ae];rw[V,ae,i3];rfl
 have R:(j.map aj).map (λd=>cD (ko A xs i (Bq d)))=(j.map (ko A xs i)).map cD:=by
  rw[Rk,Rk];exact Se λp _=>rfl
 rw[R];have o:j.length<=168:=by rw[r.length_eq,Pk];exact B.sz
 refine cf (ds:=(j.map (ko A xs i)).map cD) rfl (by simp;omega) (by unfold iI;rw[IC];simp) λl2 I=>?_;obtain⟨C,P,rfl⟩:=c_ I rfl;have Z:∀c,c∈C↔∃p∈A.map (·.1),c=ko A xs i p:=λc=>by
  rw[P.mem_iff,List.mem_map];constructor;.rintro⟨p,g,e⟩;exact⟨p,f p g,e.symm⟩
  .rintro⟨p,g,e⟩;exact⟨p,r.mem_iff.mpr g,e.symm⟩
 have a0:(C.map (·.1)).Nodup:=by
  have p1:(C.map (·.1)).Perm ((j.map (ko A xs i)).map (·.1)):=P.map _;rw[p1.nodup_iff,Rk];have nd:j.Nodup:=r.nodup_iff.mpr B.nd;refine(List.pairwise_map.mpr ?_);refine TV (λ{a b}ha hb X z=>X ?_) nd;exact B.inj _ (eQ (f a ha)) _ (eQ (f b hb)) z
 have a2:C.length<=168:=by rw[P.length_eq,Pk];exact o
 clear R I P O r f o;unfold A8;simp only[E8,E6,x8,E7,gk,T.bz,T.wp_bind,T.wp_at,mK,fO,List.set_cons_zero,List.set_cons_succ,PM,P8,SO,R5,Tn,TY,T.bA,ae];refine cf ks N Q λl' O=>?_;obtain⟨j,r,rfl⟩:=c_ O rfl;have f:∀p∈j,p∈A.map (·.1):=λp g=>r.mem_iff.mp g;have o:j.length<=168:=by rw[r.length_eq,Pk];exact B.sz
 refine wp_call (nk (w:=w) (h:=h) hw hh hE hl (λp g=>B.yo _ (eQ (f p g))) o) ?_;rintro d m1⟨rfl,S,rfl,G⟩;have M:∀x∈S,x.1∈j/\x.2∈j:=λx t=>⟨(G.snd x t).1,let⟨l,k,_,F⟩:=(G.snd x t).2;F.mem⟩;simp only[jn,T.bA];refine mQ (λH=>∃K J,H=[K,J,O7 (.d (fQ A))]) (λd=>aj (look A (Ec d).1,look A (Ec d).2)) ?_ ⟨Pb,Pb,rfl⟩ ?_
 .rintro H⟨K,J,rfl⟩d hd;obtain⟨x,t,rfl⟩:=List.mem_map.mp hd;refine⟨_,ID,⟨_,_,rfl⟩,rfl,?_⟩;unfold A7;have L:=qf (f x.1 (M x t).1);have V:=qf (f x.2 (M x t).2);bv_omega;rw[L,ae,V];rfl
 have R:(S.map yb).map (λd=>aj (look A (Ec d).1,look A (Ec d).2))=(S.map λx=>(look A x.1,look A x.2)).map aj:=by
  rw[Rk,Rk];exact Se λp _=>rfl
 rw[R];unfold A6;subst_eqs;show(T.get (items (.lst (C.map cD)))>>=λxs=>T.ok (D.tup xs)).wp _ _;rw[T.wp_bind];simp only[items,T.bA,T.bz];refine cf (ds:=(S.map λx=>(look A x.1,look A x.2)).map aj) rfl (by have:=G.len;simp;omega) (by unfold iI;rw[uB];simp) λl3 U=>?_;obtain⟨W,pW,rfl⟩:=c_ U rfl;show(T.get (items (.lst (W.map aj)))>>=λxs=>T.ok (D.tup xs)).wp _ _;rw[T.wp_bind];simp only[items,T.bA,T.bz];refine⟨sd (by decide),trivial,C,W,rfl,a2,by rw[pW.length_eq,Pk];exact G.len,Z,a0,λx=>?_⟩;have u:∀q,q∈j↔q∈A.map (·.1):=λq=>r.mem_iff;rw[pW.mem_iff,List.mem_map];constructor
 .rintro⟨s,Q,e⟩;obtain⟨h1,l,k,v,F⟩:=G.snd s Q;exact⟨s.1,s.2,l,k,f _ h1,v,F.Fc u,e.symm⟩
 .rintro⟨p,q,l,k,g,v,F,rfl⟩;exact⟨(p,q),G.all p ((u p).mpr g) l v k q (F.Fc λq=>(u q).symm),rfl⟩
theorem dy:∀{l m:List Int},l.Nodup->(∀x∈l,x∈m)->l.length<=m.length
 |[],m,_,_=>Qb _|a::l,m,nd,h=>by
  have c:=List.nodup_cons.mp nd;have ha:=h a Pn;have:=dy (l:=l) (m:=m.erase a) c.2 λx b=>(W6 (λz=>by subst z;exact c.1 b)).mpr (h x (Po _ b));rw[TU ha]at this;have d:0<m.length:=Wl ha;simp only[PM];omega
noncomputable def aL(W:List Pt)(T:Int->Prop):Prop:=∀x∈W,T x.1\/T x.2->T x.1/\T x.2
theorem Ed(i:Int)(x:Pt):bD .In (.int i) (aj x)=.ok (.bl (decide (i=x.1\/i=x.2))):=by
 have e:decide (i=x.1\/i=x.2)=((x.1==i)||((x.2==i)||Pc)):=by
  rw[R_,decide_eq_true_eq,Bool.or_false,Q4,beq_iff_eq,beq_iff_eq];exact⟨λh=>h.elim (λz=>.inl z.symm) λz=>.inr z.symm,λh=>h.elim (λz=>.inl z.symm) λz=>.inr z.symm⟩
 rw[e];rfl
noncomputable def insI(S:List Int)(e:Int):List Int:=if e∈S then S else S++[e]
noncomputable def sV(S a:List Int)(e:Int):List Int:=if e∈S then a else a++[e]
structure Rs(W:List Pt)(B:List Int)(c:Int)(S Wt:List Int):Prop where
 nd:S.Nodup
 cS:c∈S
 sB:∀x∈S,x∈B
 mn:∀T:Int->Prop,T c->aL W T->∀x∈S,T x
 wS:∀x∈Wt,x∈S
structure Gr(S Wt:List Int)(e:Int)(S' Wt':List Int):Prop where
 s:∀x∈S,x∈S'
 e:e∈S'
 n:∀x∈S',x∈S\/x∈Wt'
 w:∀x∈Wt,x∈Wt'
 l:S'.length+Wt.length=S.length+Wt'.length
theorem Rs.ins{W:List Pt}{B:List Int}{c:Int}{S g:List Int}(h:Rs W B c S g){e:Int}(j:e∈B)(i:∀T:Int->Prop,T c->aL W T->T e):Rs W B c (insI S e) (sV S g e)/\Gr S g e (insI S e) (sV S g e):=by
 unfold insI sV;by_cases f:e∈S
 .rw[if_pos f,if_pos f];exact⟨h,λ_ z=>z,f,λ_ z=>.inl z,λ_ z=>z,rfl⟩
 .rw[if_neg f,if_neg f];refine⟨⟨?_,Qk _ h.cS,λx d=>?_,λT a b x d=>?_,λx d=>?_⟩,λx d=>Qk _ d,by simp,λx d=>?_,λx d=>Qk _ d,by simp only[P6,RU];omega⟩
  .rw[Rv];exact⟨h.nd,by simp,λa ha b hb z=>by rw[List.mem_singleton.mp hb]at z;exact f (z▸ha)⟩
  .rcases List.mem_append.mp d with z|z;.exact h.sB x z
   .rw[List.mem_singleton.mp z];exact j
  .rcases List.mem_append.mp d with z|z;.exact h.mn T a b x z
   .rw[List.mem_singleton.mp z];exact i T a b
  .rcases List.mem_append.mp d with z|z;.exact Qk _ (h.wS x z)
   .exact PK _ z
  .rcases List.mem_append.mp d with z|z;.exact .inl z
   .exact .inr (PK _ z)
theorem Fd{n:Nat}{a0 a1 a4 a5:Option L2.W}{S a:List Int}{e:Int}(k:S.length<=60)(j:a.length<=60):ay (V n) bY [a0,a1,O7 (.own (.aM S)),O7 (.own (.lst (a.map D.int))),a4,a5,O7 (.d (.int e))]=.ok (.nx [a0,a1,O7 (.own (.aM (insI S e))),O7 (.own (.lst ((sV S a e).map D.int))),a4,a5,O7 (.d (.int e))]):=by
 have z:=m6;have i:cP (V n) (.iH 2 (.aW .NotIn (.var 6) (.var 2))) [a0,a1,O7 (.own (.aM S)),O7 (.own (.lst (a.map D.int))),a4,a5,O7 (.d (.int e))]=.ok (!decide (e∈S)):=by
  show((T.need (decide (S.length<=300))>>=λ_=>T.ok (D.bl (!decide (e∈S))))>>=bx)=_;rw[decide_eq_true (show S.length<=300 by omega+splitNatSub)];rfl
 show(ay (V n) (.iff (.iH 2 (.aW .NotIn (.var 6) (.var 2))) (.cons (.add 2 (.var 6)) (.cons (.app 3 (.var 6)) .nil)) .nil) _>>=_)=_;have h:∀c,ay (V n) (.iff (.iH 2 (.aW .NotIn (.var 6) (.var 2))) (.cons (.add 2 (.var 6)) (.cons (.app 3 (.var 6)) .nil)) .nil) c=(cP (V n) (.iH 2 (.aW .NotIn (.var 6) (.var 2))) c>>=λx=>if x then ay (V n) (.cons (.add 2 (.var 6)) (.cons (.app 3 (.var 6)) .nil)) c else ay (V n) .nil c):=λc=>rfl;rw[h,i,ae];by_cases b:e∈S
 .rw[decide_eq_true b];unfold insI sV;rw[if_pos b,if_pos b];rfl
 .rw[decide_eq_false b];unfold insI sV;rw[if_neg b,if_neg b];show(((T.need (decide (S.length<=300))>>=λ_=>T.ok (Fl.nx [a0,a1,O7 (.own (.aM (if e∈S then S else S++[e]))),O7 (.own (.lst (a.map D.int))),a4,a5,O7 (.d (.int e))]))>>=λg=>match g with|Fl.nx f=>ay (V n) (.cons (.app 3 (.var 6)) .nil) f|g=>.ok g)>>=_)=_;rw[decide_eq_true (show S.length<=300 by omega+splitNatSub),if_neg b,oz,ae,ae];show(((T.need (decide ((a.map D.int).length<Pl))>>=λ_=>T.ok (Fl.nx [a0,a1,O7 (.own (.aM (S++[e]))),O7 (.own (.lst (a.map D.int++[.int e]))),a4,a5,O7 (.d (.int e))]))>>=_)>>=_)=_;rw[decide_eq_true (show(a.map D.int).length<Pl by rw[Pk];omega+splitNatSub),oz,ae];rw[Qm];rfl
theorem L0{n:Nat}{W:List Pt}{B:List Int}{c a:Int}{a0 a1 a6:Option L2.W}{S i:List Int}{x:Pt}(J:B.length<=60)(qx:aL W (·∈B))(h:Rs W B c S i)(v:a∈S)(I:x∈W)(hw:i.length<=S.length):∃(o g:List Int)(X:Option L2.W),ay (V n) dS [a0,a1,O7 (.own (.aM S)),O7 (.own (.lst (i.map D.int))),O7 (.d (.int a)),O7 (.d (aj x)),a6]=.ok (.nx [a0,a1,O7 (.own (.aM o)),O7 (.own (.lst (g.map D.int))),O7 (.d (.int a)),O7 (.d (aj x)),X])/\Rs W B c o g/\(∀y∈S,y∈o)/\(a=x.1\/a=x.2->x.1∈o/\x.2∈o)/\(∀y∈o,y∈S\/y∈g)/\(∀y∈i,y∈g)/\o.length+i.length=S.length+g.length:=by
 have G:∀a6,cP (V n) (.aW .In (.var 4) (.var 5)) [a0,a1,O7 (.own (.aM S)),O7 (.own (.lst (i.map D.int))),O7 (.d (.int a)),O7 (.d (aj x)),a6]=.ok (decide (a=x.1\/a=x.2)):=λa6=>by
  show((bD .In (.int a) (aj x))>>=bx)=_;rw[Ed];rfl
 have F:∀ρ,ay (V n) dS ρ=((cP (V n) (.aW .In (.var 4) (.var 5)) ρ>>=λx=>if x then ay (V n) (.cons (.dm (.nm 6) (.ba (.var 5)) bY) .nil) ρ else ay (V n) .nil ρ)>>=λE=>match E with|.nx A=>ay (V n) .nil A|E=>.ok E):=λρ=>rfl;by_cases u:a=x.1\/a=x.2
 .have b:x.1∈B/\x.2∈B:=qx x I (u.elim (λz=>.inl (z▸h.sB _ v)) λz=>.inr (z▸h.sB _ v));have H:∀T:Int->Prop,T c->aL W T->T x.1/\T x.2:=λT p q=>q x I (u.elim (λz=>.inl (z▸h.mn T p q _ v)) λz=>.inr (z▸h.mn T p q _ v));obtain⟨C,r⟩:=h.ins b.1 λT p q=>(H T p q).1;obtain⟨K,m⟩:=C.ins b.2 λT p q=>(H T p q).2;refine⟨_,_,O7 (.d (.int x.2)),?_,K,λy t=>m.s y (r.s y t),λ_=>⟨m.s _ r.e,m.e⟩,λy t=>?_,λy t=>m.w y (r.w y t),?_⟩
  .have O:S.length<=60:=Qa (dy h.nd h.sB) J;have N:(insI S x.1).length<=60:=Qa (dy C.nd C.sB) J;have Y:=r.l;have U:=Fd (n:=n) (a0:=a0) (a1:=a1) (a4:=O7 (.d (.int a))) (a5:=O7 (.d (aj x))) (e:=x.1) O (show i.length<=60 by omega);have R:=Fd (n:=n) (a0:=a0) (a1:=a1) (a4:=O7 (.d (.int a))) (a5:=O7 (.d (aj x))) (e:=x.2) N (show(sV S i x.1).length<=60 by omega);rw[F,G,ae,decide_eq_true u,if_pos rfl];show((fA (dD (.nm 6)) (ay (V n) bY) [.int x.1,.int x.2] _>>=_)>>=_)=_;have f:∀{d ds}{ρ k j:ag},dD (.nm 6) d ρ=.ok k->ay (V n) bY k=.ok (.nx j)->fA (dD (.nm 6)) (ay (V n) bY) (d::ds) ρ=fA (dD (.nm 6)) (ay (V n) bY) ds j:=λ{d ds ρ k j}M L=>by rw[fA,M,ae,L,ae]
   have Q:=f (d:=.int x.1) (ds:=[.int x.2]) (ρ:=[a0,a1,O7 (.own (.aM S)),O7 (.own (.lst (i.map D.int))),O7 (.d (.int a)),O7 (.d (aj x)),a6]) rfl U;have P:=f (d:=.int x.2) (ds:=[]) (ρ:=[a0,a1,O7 (.own (.aM (insI S x.1))),O7 (.own (.lst ((sV S i x.1).map D.int))),O7 (.d (.int a)),O7 (.d (aj x)),O7 (.d (.int x.1))]) rfl R;rw[Q,P];rfl
  .rcases m.n y t with z|z
   .rcases r.n y z with z|z;.exact .inl z
    .exact .inr (m.w y z)
   .exact .inr z
  .have:=r.l;have:=m.l;omega
 .refine⟨S,i,a6,?_,h,λ_ z=>z,λz=>absurd z u,λ_ z=>.inl z,λ_ z=>z,rfl⟩;rw[F,G,ae,decide_eq_false u];rfl
theorem qg{g:D->ag->T ag}{body:ag->T Fl}(I:List D->ag->Prop)(step:∀d ds ρ,I (d::ds) ρ->∃b a,g d ρ=.ok b/\body b=.ok (.nx a)/\I ds a):∀{ds:List D}{ρ:ag},I ds ρ->∃ρ',fA g body ds ρ=.ok (.nx ρ')/\I [] ρ'
 |[],ρ,h=>⟨ρ,rfl,h⟩|d::ds,ρ,h=>by
  obtain⟨b,a,j,i,f⟩:=step d ds ρ h;obtain⟨ρ',e,c⟩:=qg I step f;refine⟨ρ',?_,c⟩;unfold fA;rw[j,ae,i,ae];exact e
theorem sW{c:ag->T Bool}{body:ag->T Fl}(I:Nat->ag->Prop)(R:ag->Prop)(step:∀k ρ,I k ρ->(c ρ=.ok Pc/\R ρ)\/(c ρ=.ok Pa/\∃a j,body ρ=.ok (.nx a)/\j<k/\I j a)):∀{n k:Nat}{ρ:ag},k<n->I k ρ->∃ρ',dR c body n ρ=.ok (.nx ρ')/\R ρ'
 |0,k,_,e,_=>by omega|n+1,k,ρ,e,h=>by
  unfold dR;rcases step k ρ h with⟨d,b⟩|⟨d,a,j,b,g,f⟩
  .rw[d,ae];exact⟨ρ,rfl,b⟩
  .rw[d,ae,if_pos rfl,b,ae];exact sW I R step (by omega) f
noncomputable def st(W:List Pt)(c:Int)(S b:List Int)(o4 a o6:Option L2.W):ag:=[O7 (.d (.lst (W.map aj))),O7 (.d (.int c)),O7 (.own (.aM S)),O7 (.own (.lst (b.map D.int))),o4,a,o6]
inductive Ou(W:List Pt)(B:List Int)(c:Int)(k:Nat)(ρ:ag):Prop|mk(S Wt Dn:List Int)(o4 o5 o6:Option L2.W)(eρ:ρ=st W c S Wt o4 o5 o6)(h:Rs W B c S Wt)(h5:∀x∈S,x∈Dn\/x∈Wt)(h7:∀x∈Dn,∀w∈W,x=w.1\/x=w.2->w.1∈S/\w.2∈S)(h8:k+S.length=60+Wt.length)(h9:Wt.length<=S.length)
inductive O2(W:List Pt)(B:List Int)(c:Int)(ρ:ag):Prop|mk(S:List Int)(o4 o5 o6:Option L2.W)(eρ:ρ=st W c S [] o4 o5 o6)(h:Rs W B c S [])(hc:aL W (·∈S))
inductive Ov(W:List Pt)(B:List Int)(c c0:Int)(S Wi:List Int)(ds:List D)(ρ:ag):Prop|mk(W':List Pt)(S' Wt':List Int)(o5 o6:Option L2.W)(hd:ds=W'.map aj)(hW':∀x∈W',x∈W)(eρ:ρ=st W c S' Wt' (O7 (.d (.int c0))) o5 o6)(q1:Rs W B c S' Wt')(q2:∀y∈S,y∈S')(q3:∀y∈S',y∈S\/y∈Wt')(q4:∀y∈Wi,y∈Wt')(q5:∀w∈W,w∈W'\/(c0=w.1\/c0=w.2->w.1∈S'/\w.2∈S'))(q6:S'.length+Wi.length=S.length+Wt'.length)
theorem mS{n:Nat}{W:List Pt}{c:Int}{B:List Int}(I:B.length<=60)(cB:c∈B)(qx:aL W (·∈B)):∃S:List Int,ak defs gv (n+1) 3 [.d (.lst (W.map aj)),.d (.int c)]=.ok (.tup ((sortI S).map D.int))/\S.Nodup/\c∈S/\aL W (·∈S)/\(∀T:Int->Prop,T c->aL W T->∀x∈S,T x)/\∀x∈S,x∈B:=by
 rw[aD (d:=jY) rfl rfl];unfold jY;have w:=sW (c:=cP (V n) iP) (body:=ay (V n) iQ) (Ou W B c) (O2 W B c) ?_ (n:=b5) (k:=60) (ρ:=st W c [c] [c] Pb Pb Pb) (by decide) ⟨[c],[c],[],Pb,Pb,Pb,rfl,⟨by simp,by simp,by simpa using cB,λT H _ x b=>by rw[List.mem_singleton.mp b];exact H,λx b=>b⟩,λx b=>.inr b,(λx b=>nomatch b),rfl,Pq _⟩
 .obtain⟨l,p,S,R,s,r,a,h,H⟩:=w;rw[a]at p;refine⟨S,?_,h.nd,h.cS,H,h.mn,h.sB⟩;have hl:S.length<=60:=Qa (dy h.nd h.sB) I;have M:(T.need (decide (S.length<64)):T Unit)=.ok ():=by rw[decide_eq_true (show S.length<64 by omega)];rfl
  show((dR (cP (V n) iP) (ay (V n) iQ) b5 (st W c [c] [c] Pb Pb Pb)>>=λL=>match L with|Fl.nx l=>ay (V n) mC l|L=>.ok L)>>=xX)=_;rw[p,ae];show((((((T.need (decide (S.length<64))>>=λ_=>T.ok (D.lst ((sortI S).map D.int)))>>=_)>>=_)>>=_)>>=_)>>=_)=_;rw[M];rfl
 .rintro k ρ⟨S,Wt,U,R,s,r,a,h,K,J,h8,h9⟩;rw[a];clear a;have hl:S.length<=60:=Qa (dy h.nd h.sB) I;rcases List.eq_nil_or_concat Wt with rfl|⟨i,e,rfl⟩
  .refine .inl ⟨rfl,S,R,s,r,rfl,h,λx b m=>?_⟩;have hd:∀y∈S,y∈U:=λy j=>by
    rcases K y j with z|z;.exact z
    .cases z
   rcases m with z|z;.exact J _ (hd _ z) x b (.inl rfl)
   .exact J _ (hd _ z) x b (.inr rfl)
  .rw[List.length_concat]at h8 h9;rw[List.concat_eq_append]at h K⊢;have N:e∈S:=h.wS e (by simp);have f:=qg (g:=dD (.nm 5)) (body:=ay (V n) dS) (Ov W B c e S i) ?_ (ds:=W.map aj) (ρ:=st W c S i (O7 (.d (.int e))) s r) ⟨W,S,i,s,r,rfl,λ_ z=>z,rfl,⟨h.nd,h.cS,h.sB,h.mn,λx b=>h.wS x (Qk _ b)⟩,λ_ z=>z,λ_ z=>.inl z,λ_ z=>z,λ_ z=>.inl z,rfl⟩
   .obtain⟨l,p,t,O,q,Q,G,hd,o,a,F,u,E,C,A,q6⟩:=f;rw[a]at p;clear a;have hn:t=[]:=by cases t with
     |nil=>rfl|cons _ _=>cases hd
    subst hn;refine .inr ⟨?_,st W c O q (O7 (.d (.int e))) Q G,k-1,?_,?_,Ou.mk O q (e::U) _ _ _ rfl F ?_ ?_ ?_ ?_⟩
    .show T.get (Dg (.lst ((i++[e]).map D.int)))=_;cases i<;>rfl
    .show(((T.get ((i++[e]).map D.int)[((i++[e]).map D.int).length-1]?>>=λd=>T.ok (Fl.nx [O7 (L2.W.d (.lst (W.map aj))),O7 (L2.W.d (.int c)),O7 (L2.W.own (.aM S)),O7 (L2.W.own (.lst ((i++[e]).map D.int).dropLast)),O7 (L2.W.d d),s,r]))>>=_))=_;have e2:((i++[e]).map D.int)[((i++[e]).map D.int).length-1]?=O7 (.int e):=by simp
     have M:((i++[e]).map D.int).dropLast=i.map D.int:=by simp
     rw[e2,M,get_some,ae,ae];show((fA (dD (.nm 5)) (ay (V n) dS) (W.map aj) (st W c S i (O7 (.d (.int e))) s r))>>=_)=_;rw[p];rfl
    .omega
    .intro x b;rcases E x b with z|z
     .rcases K x z with z|z;.exact .inl (Po _ z)
      .rcases List.mem_append.mp z with z|z;.exact .inr (C x z)
       .rw[List.mem_singleton.mp z];exact .inl Pn
     .exact .inr z
    .intro x b w hw m;rcases List.mem_cons.mp b with rfl|z
     .rcases A w hw with y|y;.cases y
      .exact y m
     .have:=J x z w hw m;exact⟨u _ this.1,u _ this.2⟩
    .omega
    .omega
   .rintro d ds ρ⟨t,O,q,Q,G,hd,o,a,F,u,E,C,A,q6⟩;rw[a];clear a;cases t with
    |nil=>cases hd|cons x t=>
     rw[(Rn hd).1,(Rn hd).2];obtain⟨S2,W2,b6,p,Z,v,Y,X,P,r6⟩:=L0 (n:=n) (a0:=O7 (.d (.lst (W.map aj)))) (a1:=O7 (.d (.int c))) (a6:=G) I qx F (u e N) (o x Pn) (by omega);refine⟨_,_,rfl,p,Ov.mk t S2 W2 _ _ rfl (λy j=>o y (Po _ j)) rfl Z (λy j=>v y (u y j)) (λy j=>?_) (λy j=>P y (C y j)) (λw hw=>?_) (by omega)⟩
     .rcases X y j with z|z
      .rcases E y z with z|z;.exact .inl z
       .exact .inr (P y z)
      .exact .inr z
     .rcases A w hw with z|z
      .rcases List.mem_cons.mp z with rfl|z;.exact .inr Y
       .exact .inl z
      .exact .inr λm=>⟨v _ (z m).1,v _ (z m).2⟩
theorem L1{b:Type}(a:b)(ρ:ag):(T.ok a).at' ρ=.ok a:=rfl
theorem Bt{a b:Type}(x:Xc)(f:a->T b):((T.exc x:T a)>>=f)=.exc x:=rfl
theorem Bu(C:List Cn)(W:List Pt):br (aw C W) (.int 0)=.ok (.tup (C.map cD)):=rfl
theorem Bv(C:List Cn)(W:List Pt):br (aw C W) (.int 1)=.ok (.tup (W.map aj)):=rfl
theorem L3{n:Nat}{d:D}(h:d=.bH\/(∃b,d=.bl b)\/(∃s,d=.str s)\/(∃xs,d=.tup xs)\/∃xs,d=.lst xs):ak defs gv (n+1) 0 [.d d]=.ok (.bl Pc):=by rcases h with rfl|⟨_,rfl⟩|⟨_,rfl⟩|⟨_,rfl⟩|⟨_,rfl⟩<;>kernel_rfl
theorem yc(n:Nat)(i:Int):ak defs gv (n+1) 0 [.d (.int i)]=.ok (.bl Pa):=by kernel_rfl
noncomputable def kI(c:Cn):D:=.int c.1
noncomputable def pI(c:Cn):D:=aj c.2
noncomputable def L4(C:List Cn):D:=.aE (C.map kI) (C.map pI)
theorem mT(C:List Cn)(i:Int):az (C.map kI) (.int i)=Pa:=by
 unfold az;have:(C.map kI).all yk=Pa:=by
  rw[Qq];intro x a;obtain⟨e,_,rfl⟩:=List.mem_map.mp a;rfl
 rw[this];rfl
theorem qh(i:Int):∀(C:List Cn),cw (C.map kI) (.int i)=decide (i∈C.map (·.1))
 |[]=>rfl|c::C=>by
  show(decide (c.1=i)||cw (C.map kI) (.int i))=_;rw[qh i C,R_,Q4,decide_eq_true_eq,decide_eq_true_eq,decide_eq_true_eq,PY,Sf];exact⟨λh=>h.elim (λz=>.inl z.symm) .inr,λh=>h.elim (λz=>.inl z.symm) .inr⟩
theorem wz{n:Nat}:∀(C e:List Cn)(a b c:Option L2.W),((e++C).map (·.1)).Nodup->(e++C).length<=168->∃ρ',gp (dD (.tup 3 (.cons (.nm 0) (.cons (.nm 1) (.cons (.nm 2) .nil))))) (λρ=>(cP (V n) .yes ρ).calm) (sf (λρ=>(au (V n) (.var 0) ρ).calm) (λρ=>(au (V n) (.tup (.cons (.var 1) (.cons (.var 2) .nil))) ρ).calm)) (e.map kI,e.map pI) (C.map cD) [a,b,c]=.ok (((e++C).map kI,(e++C).map pI),ρ')
 |[],e,a,b,c,_,_=>⟨[a,b,c],by rw[QL];rfl⟩|x::C,e,a,b,c,nd,f=>by
  have z:=m6;have ha:e++x::C=(e++[x])++C:=by simp
  rw[ha]at nd f⊢;obtain⟨ρ',g⟩:=wz (n:=n) C (e++[x]) (O7 (.d (.int x.1))) (O7 (.d (.int x.2.1))) (O7 (.d (.int x.2.2))) nd f;refine⟨ρ',?_⟩;have i:x.1∉e.map (·.1):=λh=>by
   rw[Qm,Rv]at nd;have:=nd.1;rw[Qm,Rv]at this;exact this.2.2 _ h x.1 (by simp) rfl
  have m:putD (e.map kI) (e.map pI) (.int x.1) (aj x.2)=((e++[x]).map kI,(e++[x]).map pI):=by
   unfold putD;rw[qh,decide_eq_false i,if_neg (by simp),Qm,Qm];rfl
  have l:(au (V n) (.tup (.cons (.var 1) (.cons (.var 2) .nil))) [O7 (.d (.int x.1)),O7 (.d (.int x.2.1)),O7 (.d (.int x.2.2))]).calm=.ok (aj x.2):=by
   show(T.need (decide (2<=Pl))>>=λ_=>T.ok (D.tup [.int x.2.1,.int x.2.2])).calm=_;rw[E9];rfl
  have k:(T.need (az (e.map kI) (.int x.1)&&decide ((e.map kI).length<Pl)):T Unit)=.ok ():=by
   rw[mT,decide_eq_true (show(e.map kI).length<Pl by rw[Pk];simp only[P6,RU]at f;omega)];rfl
  have j:sf (λρ=>(au (V n) (.var 0) ρ).calm) (λρ=>(au (V n) (.tup (.cons (.var 1) (.cons (.var 2) .nil))) ρ).calm) (e.map kI,e.map pI) [O7 (.d (.int x.1)),O7 (.d (.int x.2.1)),O7 (.d (.int x.2.2))]=.ok (((e++[x]).map kI,(e++[x]).map pI),[O7 (.d (.int x.1)),O7 (.d (.int x.2.1)),O7 (.d (.int x.2.2))]):=by
   show((au (V n) (.tup (.cons (.var 1) (.cons (.var 2) .nil))) [O7 (.d (.int x.1)),O7 (.d (.int x.2.1)),O7 (.d (.int x.2.2))]).calm>>=λy=>T.need (az (e.map kI) (.int x.1)&&decide ((e.map kI).length<Pl))>>=λ_=>T.ok (putD (e.map kI) (e.map pI) (.int x.1) y,([O7 (.d (.int x.1)),O7 (.d (.int x.2.1)),O7 (.d (.int x.2.2))]:ag)))=_;rw[l,ae,k,ae,m]
  refine Eq.trans ?_ g;rw[PY,gp];show(sf _ _ (e.map kI,e.map pI) [O7 (.d (.int x.1)),O7 (.d (.int x.2.1)),O7 (.d (.int x.2.2))]>>=_)=_;rw[j];rfl
theorem mU{n:Nat}{C:List Cn}{W:List Pt}(nd:(C.map (·.1)).Nodup)(b:C.length<=168):ak defs gv (n+1) 1 [.d (aw C W)]=.ok (L4 C):=by
 rw[aD (d:=wc) rfl rfl];obtain⟨a,e⟩:=wz (n:=n) C [] Pb Pb Pb nd b;show(((gp _ _ _ ([],[]) (C.map cD) [Pb,Pb,Pb]>>=λr=>T.ok (D.aE r.1.1 r.1.2))>>=λd=>T.ok (Fl.rt d))>>=_)>>=_=_;rw[show gp _ _ _ ([],[]) (C.map cD) [Pb,Pb,Pb]=_ from e];rfl
noncomputable def d9:List Cn->Int->Pt
 |[],_=>(0,0)|c::C,i=>if c.1=i then c.2 else d9 C i
theorem qi{i:Int}:∀{C:List Cn},i∈C.map (·.1)->aJ (C.map kI) (C.map pI) (.int i)=O7 (aj (d9 C i))/\(i,d9 C i)∈C
 |[],h=>by cases h|c::C,h=>by
  show(if decide (c.1=i)=Pa then O7 (aj c.2)else aJ (C.map kI) (C.map pI) (.int i))=_/\_;unfold d9;by_cases e:c.1=i
  .rw[decide_eq_true e,if_pos rfl,if_pos e];refine⟨rfl,?_⟩;rw[<-e];exact Pn
  .rw[decide_eq_false e,if_neg (by simp),if_neg e];rcases List.mem_cons.mp h with z|z;.exact absurd z.symm e
   .exact⟨(qi z).1,Po _ (qi z).2⟩
theorem qj{i:Int}{C:List Cn}(h:i∈C.map (·.1)):br (L4 C) (.int i)=.ok (aj (d9 C i)):=by
 show(T.need (az (C.map kI) (.int i))>>=λ_=>T.get (aJ (C.map kI) (C.map pI) (.int i)))=_;rw[mT,(qi h).1];rfl
theorem Bw(b:Bool):HA (.bl b)=.ok b:=rfl
theorem Bo:(!false)=Pa/\(!true)=Pc/\(Pc=Pa)=False:=⟨rfl,rfl,by simp⟩
theorem Kl(n:Nat):(V n).cls 1=O7 37/\(V n).cls 2=O7 49/\(V n).how 37=Pa/\(V n).how 49=Pa:=⟨rfl,rfl,rfl,rfl⟩
local macro_rules|`(tactic|symm_saturate)=>`(tactic|simp only[E8,LU,E6,x8,E7,gk,bN,bx,ae,Bt,L1,mK,fO,Cl,Sd,bO,A.w,Bw,Bu,Bv,Kl,EZ,xX,jn,items,Lm,Ls,Qy,Tn,TY,if_true,Bo,if_false])
theorem L5(C:List Cn)(i:Int):bD .In (.int i) (L4 C)=.ok (.bl (decide (i∈C.map (·.1)))):=by
 show(T.need (az (C.map kI) (.int i))>>=λ_=>T.ok (D.bl (cw (C.map kI) (.int i))))=_;rw[mT,qh];rfl
theorem has_int{n:Nat}{C:List Cn}{W:List Pt}(nd:(C.map (·.1)).Nodup)(a:C.length<=168)(i:Int):ak defs gv (n+2) 2 [.d (aw C W),.d (.int i)]=.ok (.bl (decide (i∈C.map (·.1)))):=by
 rw[aD (d:=cM) rfl rfl];unfold cM;symm_saturate;rw[yc,mU nd a];symm_saturate;rw[L5];symm_saturate
theorem IF{n:Nat}{net d:D}(h:ak defs gv (n+1) 0 [.d d]=.ok (.bl Pc)):ak defs gv (n+2) 2 [.d net,.d d]=.ok (.bl Pc):=by
 rw[aD (d:=cM) rfl rfl];unfold cM;symm_saturate;rw[h];symm_saturate
theorem Ee{n:Nat}{net d a:D}(h:ak defs gv n 2 [.d net,.d d]=.ok (.bl Pc)):∃ρ,ak defs gv (n+1) 4 [.d net,.d d,.d a]=.exc ⟨.exc 37 [],ρ⟩:=by
 rw[aD (d:=aK) rfl rfl];unfold aK;symm_saturate;rw[h];symm_saturate;exact⟨_,rfl⟩
theorem IG(n:Nat):(V n).kM 0=O7 (.tup [.str "x",.str "y"]):=rfl
theorem qk{n:Nat}{net d a:D}{b:Bool}(h:ak defs gv n 2 [.d net,.d d]=.ok (.bl Pa))(ha:lJ a [.str "x",.str "y"]=O7 b):∃ρ,ak defs gv (n+1) 4 [.d net,.d d,.d a]=if b then .ok .bH else .exc ⟨.exc 49 [],ρ⟩:=by
 rw[aD (d:=aK) rfl rfl];unfold aK;symm_saturate;rw[h];symm_saturate;unfold b_;symm_saturate;rw[IG,get_some,ae,sQ,ha];cases b with
 |true=>exact⟨[],rfl⟩|false=>exact⟨_,rfl⟩
noncomputable def gW(l:Int)(p:Pt):Int:=if l=0 then p.1 else p.2
noncomputable def dZ(l:Int):D:=if l=0 then .str "x"else .str "y"
noncomputable def sX(C:List Cn)(l:Int)(x:Pt):Bool:=decide (gW l (d9 C x.1)=gW l (d9 C x.2))
theorem kR{l:Int}(a:l=0\/l=1)(p:Pt):br (aj p) (.int l)=.ok (.int (gW l p)):=by rcases a with rfl|rfl<;>rfl
theorem Bx{l:Int}(a:l=0\/l=1):DH (.tup [.str "x",.str "y"]) [dZ l]=.ok (.int l):=by rcases a with rfl|rfl<;>rfl
theorem oB{n:Nat}{C:List Cn}{W:List Pt}{l:Int}(b:l=0\/l=1)(nd:(C.map (·.1)).Nodup)(h:C.length<=168)(hW:∀x∈W,x.1∈C.map (·.1)/\x.2∈C.map (·.1)):ak defs gv (n+2) 5 [.d (aw C W),.d (dZ l)]=.ok (.lst ((W.filter (sX C l)).map aj)):=by
 rw[aD (d:=dU) rfl rfl];unfold dU;symm_saturate;rw[mU nd h];symm_saturate;unfold fL;symm_saturate;rw[IG,get_some,ae];have j:(T.need (jR (.tup [.str "x",.str "y"])):T Unit)=.ok ():=rfl;rw[j,ae,Bx b];symm_saturate;have i:bK (dD (.tup 2 (.cons (.nm 0) (.cons (.nm 1) .nil)))) (λa=>(cP (V (n+1)) dr a).calm) (λa=>(au (V (n+1)) du a).calm) (W.map aj) (eW [O7 (L2.W.d (aw C W)),O7 (L2.W.d (dZ l)),O7 (L2.W.d (L4 C)),O7 (L2.W.d (.int l))] 2 [2,3])=.ok ((W.filter (sX C l)).map aj):=by
  refine(mJ (c:=λd=>sX C l (Bq d)) (e:=λd=>d) (λa=>∃o f,a=[o,f,O7 (.d (L4 C)),O7 (.d (.int l))]) ?_ ⟨Pb,Pb,rfl⟩).trans ?_;rotate_left
  .rw[List.map_id',List.filter_map];rfl
  .rintro a⟨o,f,rfl⟩d hd;obtain⟨y,g,rfl⟩:=List.mem_map.mp hd;refine⟨_,uE,⟨_,_,rfl⟩,?_,λ_=>?_⟩
   .unfold dr;symm_saturate;rw[qj (hW y g).1,ae,kR b,ae,qj (hW y g).2,ae,kR b,ae,kQ];exact congrArg T.ok (by unfold sX;rw[R_,beq_iff_eq,decide_eq_true_eq];rfl)
   .unfold du;symm_saturate;rfl
 rw[i];symm_saturate
theorem IH{n:Nat}{C:List Cn}{W:List Pt}{l c:Int}{r:D}(f:l=0\/l=1)(nd:(C.map (·.1)).Nodup)(g:C.length<=168)(hW:∀x∈W,x.1∈C.map (·.1)/\x.2∈C.map (·.1))(h:c∈C.map (·.1))(e:ak defs gv (n+3) 3 [.d (.lst ((W.filter (sX C l)).map aj)),.d (.int c)]=.ok r):ak defs gv (n+4) 6 [.d (aw C W),.d (.int c),.d (dZ l)]=.ok r:=by
 obtain⟨j,i⟩:=qk (n:=n+2) (net:=aw C W) (d:=.int c) (a:=dZ l) (b:=Pa) (by rw[has_int nd g,decide_eq_true h]) (by rcases f with rfl|rfl<;>rfl);rw[aD (d:=Bc) rfl rfl];unfold Bc;symm_saturate;rw[i];symm_saturate;unfold A5;symm_saturate;rw[oB f nd g hW];symm_saturate;rw[e];symm_saturate
structure Ho where
 nm:PX
 l:Int
 c:Int
 d:Int
 lo:Int
 hi:Int
noncomputable def d6(h:Ho):D:=.tup [.str h.nm,dZ h.l,.int h.c,.int h.d,.int h.lo,.int h.hi]
noncomputable def aV(hs:List Ho):D:=.tup (hs.map d6)
noncomputable def apart(C:List Cn)(h:Ho):Int:=gW h.l (d9 C h.d)-gW h.l (d9 C h.c)
structure Ho.ok(C:List Cn)(h:Ho):Prop where
 ax:h.l=0\/h.l=1
 c:h.c∈C.map (·.1)d:h.d∈C.map (·.1)lo:h.lo<=apart C h
 hi:apart C h<=h.hi
noncomputable def kC(l:Int)(h:Ho):Bool:=decide (h.l=l)&&decide (h.lo=h.hi)
noncomputable def ql(h:Ho):Pt:=(h.c,h.d)
noncomputable def pairs(C:List Cn)(W:List Pt)(hs:List Ho)(l:Int):List Pt:=W.filter (sX C l)++(hs.filter (kC l)).map ql
theorem By{a b:Int}(ha:a=0\/a=1)(hb:b=0\/b=1):bD .Eq (dZ a) (dZ b)=.ok (.bl (decide (a=b))):=by rcases ha with rfl|rfl<;>rcases hb with rfl|rfl<;>rfl
theorem dJ{i:Type}{f:i->D}{g:D->ag->T ag}{m:ag->T Bool}{k:ag->T D}{c:i->Bool}{e:i->D}(S:ag->Prop):∀{l:List i}{ρ:ag},(∀ρ,S ρ->∀a∈l,∃b,g (f a) ρ=.ok b/\S b/\m b=.ok (c a)/\(c a=Pa->k b=.ok (e a)))->S ρ->bK g m k (l.map f) ρ=.ok ((l.filter c).map e)
 |[],ρ,_,_=>rfl|d::u,ρ,h,t=>by
  obtain⟨b,s,r,q,p⟩:=h ρ t d Pn;have n:=dJ (f:=f) (e:=e) S (l:=u) (ρ:=b) (λρ a x o=>h ρ a x (Po _ o)) r;rw[PY];unfold bK;rw[s,ae,q,ae];cases j:c d with
  |true=>rw[if_pos rfl,p j,ae,n,ae,V4 j];rfl|false=>rw[if_neg (by simp),n,V5 (by simp[j])]
theorem mV(v:Ev)(own:List PX)(js:List Nat)(tg:Tg)(it c a:Ex)(ρ:ag):au v (.lc own js tg it c a) ρ=(qw v it ρ>>=λds=>bK (dD tg) (λρ=>(cP v c ρ).calm) (λρ=>(au v a ρ).calm) ds (eW ρ own.length js)>>=λr=>T.ok (D.lst r)):=rfl
theorem Ef{n:Nat}{C:List Cn}{hs:List Ho}{l:Int}(j:l=0\/l=1)(m:∀h∈hs,h.ok C):ak defs gv (n+1) 8 [.d (aV hs),.d (dZ l)]=.ok (.lst (((hs.filter (kC l)).map ql).map aj)):=by
 rw[aD (d:=Bd) rfl rfl];have e:bK (dD (.tup 6 (.cons (.nm 0) (.cons (.nm 1) (.cons (.nm 2) (.cons (.nm 3) (.cons (.nm 4) (.cons (.nm 5) .nil)))))))) (λg=>(cP (V n) jz g).calm) (λg=>(au (V n) jA g).calm) (hs.map d6) (eW [O7 (L2.W.d (aV hs)),O7 (L2.W.d (dZ l))] 6 [1])=.ok ((hs.filter (kC l)).map λh=>aj (ql h)):=by
  refine dJ (λg=>∃a b c d e f,g=[a,b,c,d,e,f,O7 (.d (dZ l))]) ?_ ⟨Pb,Pb,Pb,Pb,Pb,Pb,rfl⟩;rintro g⟨a,b,c,d,e,f,rfl⟩h k;refine⟨[O7 (.d (.str h.nm)),O7 (.d (dZ h.l)),O7 (.d (.int h.c)),O7 (.d (.int h.d)),O7 (.d (.int h.lo)),O7 (.d (.int h.hi)),O7 (.d (dZ l))],rfl,⟨_,_,_,_,_,_,rfl⟩,?_,λ_=>?_⟩
  .unfold jz;symm_saturate;rw[By (m h k).ax j];symm_saturate;have i:bD .Eq (.int h.lo) (.int h.hi)=.ok (.bl (decide (h.lo=h.hi))):=rfl;unfold kC;cases decide (h.l=l)with
   |true=>symm_saturate;rw[i];rfl|false=>rfl
  .unfold jA;symm_saturate;rfl
 have i:au (V n) (.lc ["name","own","c","d","least","most"] [1] (.tup 6 (.cons (.nm 0) (.cons (.nm 1) (.cons (.nm 2) (.cons (.nm 3) (.cons (.nm 4) (.cons (.nm 5) .nil))))))) (.ba (.var 0)) jz jA) [O7 (.d (aV hs)),O7 (.d (dZ l))]=.ok (.lst (((hs.filter (kC l)).map ql).map aj)):=by
  rw[mV];show(bK _ _ _ (hs.map d6) (eW [O7 (L2.W.d (aV hs)),O7 (L2.W.d (dZ l))] 6 [1])>>=λr=>T.ok (D.lst r))=_;rw[e,Rk];rfl
 show(((au (V n) (.lc ["name","own","c","d","least","most"] [1] (.tup 6 (.cons (.nm 0) (.cons (.nm 1) (.cons (.nm 2) (.cons (.nm 3) (.cons (.nm 4) (.cons (.nm 5) .nil))))))) (.ba (.var 0)) jz jA) [O7 (.d (aV hs)),O7 (.d (dZ l))]>>=λd=>T.ok (Fl.rt d))>>=_)>>=_)=_;rw[i];rfl
theorem oE{C:List Cn}{W:List Pt}{hs:List Ho}{l:Int}(wl:W.length<=336)(a:hs.length<=1000):ym .Add (.lst ((W.filter (sX C l)).map aj)) (.lst (((hs.filter (kC l)).map ql).map aj))=.ok (.lst ((pairs C W hs l).map aj)):=by
 show(T.need (decide (((W.filter (sX C l)).map aj).length+(((hs.filter (kC l)).map ql).map aj).length<=Pl))>>=λ_=>T.ok (D.lst ((W.filter (sX C l)).map aj++((hs.filter (kC l)).map ql).map aj)))=_;have c:=WL (sX C l) W;have b:=WL (kC l) hs;rw[sd (by simp only[Pk];omega),<-Qm];rfl
theorem sY{n:Nat}{C:List Cn}{W:List Pt}{hs:List Ho}{l c:Int}{r:D}(f:l=0\/l=1)(nd:(C.map (·.1)).Nodup)(g:C.length<=168)(wl:W.length<=336)(i:hs.length<=1000)(j:∀h∈hs,h.ok C)(hW:∀x∈W,x.1∈C.map (·.1)/\x.2∈C.map (·.1))(k:c∈C.map (·.1))(e:ak defs gv (n+3) 3 [.d (.lst ((pairs C W hs l).map aj)),.d (.int c)]=.ok r):ak defs gv (n+4) 9 [.d (aw C W),.d (aV hs),.d (.int c),.d (dZ l)]=.ok r:=by
 obtain⟨p,o⟩:=qk (n:=n+2) (net:=aw C W) (d:=.int c) (a:=dZ l) (b:=Pa) (by rw[has_int nd g,decide_eq_true k]) (by rcases f with rfl|rfl<;>rfl);rw[aD (d:=jD) rfl rfl];unfold jD;symm_saturate;rw[o];symm_saturate;unfold sE;symm_saturate;rw[oB f nd g hW];symm_saturate;rw[Ef f j];symm_saturate;have m:=oE (C:=C) (l:=l) wl i;rw[m];symm_saturate;rw[e];symm_saturate
theorem oF{n:Nat}{net hs d a:D}{x:Xc}(h:ak defs gv n 4 [.d net,.d d,.d a]=.exc x):∃ρ,ak defs gv (n+1) 9 [.d net,.d hs,.d d,.d a]=.exc ⟨x.x,ρ⟩:=by
 rw[aD (d:=jD) rfl rfl];unfold jD;symm_saturate;rw[h];exact⟨_,rfl⟩
theorem le_int(i j:Int):bD .LtE (.int i) (.int j)=.ok (.bl (decide (i<=j))):=rfl
theorem Eh(v:Ev)(o o':UO)(a b c:Ex)(ρ:ag):au v (.K0 o o' a b c) ρ=(do
  let d<-au v a ρ;let e<-au v b ρ;let y<-bx (<-bD o d e)if y then do let f<-au v c ρ;bD o' e f else .ok (.bl Pc)):=rfl
theorem sub_int(i j:Int):ym .Sub (.int i) (.int j)=.ok (.int (i-j)):=rfl
theorem Bz{n:Nat}{C:List Cn}{W:List Pt}{h:Ho}(nd:(C.map (·.1)).Nodup)(b:C.length<=168)(a:h.ok C):ak defs gv (n+2) 7 [.d (aw C W),.d (d6 h)]=.ok (.bl Pa):=by
 rw[aD (d:=gB) rfl rfl];unfold gB;have e:ay (V (n+1)) (.asg (.tup 6 (.cons (.nm 2) (.cons (.nm 3) (.cons (.nm 4) (.cons (.nm 5) (.cons (.nm 6) (.cons (.nm 7) .nil))))))) (.var 1)) (bO 10 [.d (aw C W),.d (d6 h)])=.ok (.nx [O7 (.d (aw C W)),O7 (.d (d6 h)),O7 (.d (.str h.nm)),O7 (.d (dZ h.l)),O7 (.d (.int h.c)),O7 (.d (.int h.d)),O7 (.d (.int h.lo)),O7 (.d (.int h.hi)),Pb,Pb]):=rfl;show(ay (V (n+1)) (.cons _ _) (bO 10 [.d (aw C W),.d (d6 h)])>>=xX)=_;rw[aQ e];symm_saturate;rw[mU nd b];symm_saturate;unfold jy;symm_saturate;rw[IG,get_some,ae];have f:(T.need (jR (.tup [.str "x",.str "y"])):T Unit)=.ok ():=rfl;rw[f,ae,Bx a.ax];symm_saturate;rw[Eh];symm_saturate;rw[qj a.d,ae,kR a.ax,ae,qj a.c,ae,kR a.ax,ae,sub_int,ae,le_int];symm_saturate;rw[decide_eq_true (show h.lo<=gW h.l (d9 C h.d)-gW h.l (d9 C h.c)from a.lo),if_pos rfl,le_int,decide_eq_true (show gW h.l (d9 C h.d)-gW h.l (d9 C h.c)<=h.hi from a.hi)];rfl
structure Cs(P:List Pt)(B:List Int)(c:Int)(S:List Int):Prop where
 nd:S.Nodup
 cS:c∈S
 sB:∀x∈S,x∈B
 mn:∀T:Int->Prop,T c->aL P T->∀x∈S,T x
theorem eR{S:List Int}{e x:Int}:x∈insI S e↔x∈S\/x=e:=by
 unfold insI;by_cases a:e∈S
 .rw[if_pos a];exact⟨.inl,λh=>h.elim id λz=>z▸a⟩
 .rw[if_neg a,List.mem_append,XN]
theorem Cs.ins{P:List Pt}{B:List Int}{c:Int}{S:List Int}(h:Cs P B c S){e:Int}(i:e∈B)(g:∀T:Int->Prop,T c->aL P T->T e):Cs P B c (insI S e):=by
 refine⟨?_,eR.mpr (.inl h.cS),λx d=>?_,λT a b x d=>?_⟩
 .unfold insI;by_cases f:e∈S;.rw[if_pos f];exact h.nd
  .rw[if_neg f,Rv];exact⟨h.nd,by simp,λa ha b hb z=>by rw[List.mem_singleton.mp hb]at z;exact f (z▸ha)⟩
 .rcases eR.mp d with z|z;.exact h.sB x z
  .rw[z];exact i
 .rcases eR.mp d with z|z;.exact h.mn T a b x z
  .rw[z];exact g T a b
noncomputable def yd(S:List Int)(x:Pt):List Int:=if x.1∈S\/x.2∈S then insI (insI S x.1) x.2 else S
theorem qm{S:List Int}{x:Pt}{y:Int}(h:y∈S):y∈yd S x:=by
 unfold yd;split;.exact eR.mpr (.inl (eR.mpr (.inl h)))
 .exact h
theorem II{S:List Int}{x:Pt}(h:x.1∈S\/x.2∈S):x.1∈yd S x/\x.2∈yd S x:=by
 unfold yd;rw[if_pos h];exact⟨eR.mpr (.inl (eR.mpr (.inr rfl))),eR.mpr (.inr rfl)⟩
theorem Cs.yd{P:List Pt}{B:List Int}{c:Int}{S:List Int}(h:Cs P B c S)(qx:aL P (·∈B)){x:Pt}(e:x∈P):Cs P B c (yd S x):=by
 unfold K33.yd;by_cases a:x.1∈S\/x.2∈S
 .rw[if_pos a];have b:=qx x e (a.imp (h.sB _) (h.sB _));have d:∀T:Int->Prop,T c->aL P T->T x.1/\T x.2:=λT p q=>q x e (a.imp (h.mn T p q _) (h.mn T p q _));exact(h.ins b.1 λT p q=>(d T p q).1).ins b.2 λT p q=>(d T p q).2
 .rw[if_neg a];exact h
noncomputable def m7(P:List Pt)(S:List Int):List Int:=P.foldl yd S
theorem gO:∀{P:List Pt}{S:List Int}{y:Int},y∈S->y∈m7 P S
 |[],_,_,h=>h|x::P,_,_,h=>gO (P:=P) (qm h)
theorem BA:∀{P:List Pt}{S:List Int}{x:Pt},x∈P->x.1∈S\/x.2∈S->x.1∈m7 P S/\x.2∈m7 P S
 |y::P,S,x,a,h=>by
  rcases List.mem_cons.mp a with rfl|z
  .have:=II h;exact⟨gO (P:=P) this.1,gO (P:=P) this.2⟩
  .exact BA (P:=P) z (h.imp qm qm)
theorem Cs.m7{P:List Pt}{B:List Int}{c:Int}(qx:aL P (·∈B)):∀{P':List Pt}{S:List Int},(∀x∈P',x∈P)->Cs P B c S->Cs P B c (m7 P' S)
 |[],_,_,h=>h|x::P',_,a,h=>Cs.m7 (P':=P') qx (λy b=>a y (Po _ b)) (h.yd qx (a x Pn))
theorem mW{P:List Pt}{B:List Int}{c:Int}{S:List Int}(h:Cs P B c S)(e:(m7 P S).length<=S.length):∀y∈m7 P S,y∈S:=λy b=>by
 apply Classical.byContradiction;intro d;have:=dy (l:=y::S) (m:=m7 P S) (List.nodup_cons.mpr ⟨d,h.nd⟩) λz a=>by
  rcases List.mem_cons.mp a with rfl|z;.exact b
  .exact gO z
 rw[PM]at this;omega
theorem IJ{P:List Pt}{B:List Int}{c:Int}{S:List Int}(h:Cs P B c S):aL P (·∈S)\/S.length+1<=(m7 P S).length:=by
 by_cases a:(m7 P S).length<=S.length
 .refine .inl λx b d=>?_;have:=BA b d;exact⟨mW h a _ this.1,mW h a _ this.2⟩
 .exact .inr (by omega)
theorem aL.m7{P:List Pt}{B:List Int}{c:Int}{S:List Int}(h:Cs P B c S)(a:aL P (·∈S)):aL P (·∈m7 P S):=λx b d=>by
 have sub:∀y∈K33.m7 P S,y∈S:=(Cs.m7 (B:=S) (c:=c) a (λ_ z=>z) ⟨h.nd,h.cS,λ_ z=>z,h.mn⟩).sB;have:=a x b (d.imp (sub _) (sub _));exact⟨gO this.1,gO this.2⟩
theorem wA(S:List Int)(i:Int):az (S.map D.int) (.int i)=Pa:=by
 unfold az;have:(S.map D.int).all yk=Pa:=by
  rw[Qq];intro x a;obtain⟨e,_,rfl⟩:=List.mem_map.mp a;rfl
 rw[this];rfl
theorem mX(i:Int):∀(S:List Int),cw (S.map D.int) (.int i)=decide (i∈S)
 |[]=>rfl|c::C=>by
  show(decide (c=i)||cw (C.map D.int) (.int i))=_;rw[mX i C,R_,Q4,decide_eq_true_eq,decide_eq_true_eq,decide_eq_true_eq,Sf];exact⟨λh=>h.elim (λz=>.inl z.symm) .inr,λh=>h.elim (λz=>.inl z.symm) .inr⟩
theorem Ei(S:List Int)(vs:List D)(e:Int)(x:D):∃a,putD (S.map D.int) vs (.int e) x=((insI S e).map D.int,a):=by
 unfold putD insI;rw[mX];by_cases h:e∈S;.rw[decide_eq_true h,if_pos rfl,if_pos h];exact⟨_,rfl⟩
 .rw[decide_eq_false h,if_neg (by simp),if_neg h,Qm];exact⟨_,rfl⟩
noncomputable def qo(a0 a1 a2 a3 a4 a5:Option L2.W)(S:List Int)(vs:List D)(a7 a8 a9:Option L2.W):ag:=[a0,a1,a2,a3,a4,a5,O7 (.own (.aE (S.map D.int) vs)),a7,a8,a9]
section
variable{n:Nat}{a0 a1 a2 a3 a4 a5 a7:Option L2.W}
theorem wB{S:List Int}{vs:List D}{e:Int}{a8 a9:Option L2.W}{j:Nat}(d:S.length<=60)(b:au (V n) (.var j) (qo a0 a1 a2 a3 a4 a5 S vs a7 a8 a9)=.ok (.int e)):∃a,ay (V n) (.put 6 (.var j) (.cst (.bl Pa))) (qo a0 a1 a2 a3 a4 a5 S vs a7 a8 a9)=.ok (.nx (qo a0 a1 a2 a3 a4 a5 (insI S e) a a7 a8 a9)):=by
 have z:=m6;obtain⟨a,c⟩:=Ei S vs e (.bl Pa);refine⟨a,?_⟩;rw[wg];show(au (V n) (.var j) _>>=λq=>T.need (decide ((S.map D.int).length<Pl)&&az (S.map D.int) q)>>=λ_=>T.ok (Fl.nx ((qo a0 a1 a2 a3 a4 a5 S vs a7 a8 a9).set 6 (O7 (.own (.aE (putD (S.map D.int) vs q (.bl Pa)).1 (putD (S.map D.int) vs q (.bl Pa)).2))))))=_;rw[b,ae,wA,decide_eq_true (show(S.map D.int).length<Pl by rw[Pk];omega),c];rfl
theorem L6{S:List Int}{vs:List D}{x:Pt}(s:S.length<=59):∃f,ay (V n) pV (qo a0 a1 a2 a3 a4 a5 S vs a7 (O7 (.d (.int x.1))) (O7 (.d (.int x.2))))=.ok (.nx (qo a0 a1 a2 a3 a4 a5 (yd S x) f a7 (O7 (.d (.int x.1))) (O7 (.d (.int x.2))))):=by
 have m:cP (V n) (.Ar (.iH 6 (.aW .In (.var 8) (.var 6))) (.d7 (.iH 6 (.aW .In (.var 9) (.var 6))))) (qo a0 a1 a2 a3 a4 a5 S vs a7 (O7 (.d (.int x.1))) (O7 (.d (.int x.2))))=.ok (decide (x.1∈S\/x.2∈S)):=by
  have q:∀e:Int,(bD .In (.int e) (.aE (S.map D.int) vs)>>=bx)=.ok (decide (e∈S)):=λe=>by
   show((T.need (az (S.map D.int) (.int e))>>=λ_=>T.ok (D.bl (cw (S.map D.int) (.int e))))>>=bx)=_;rw[wA,mX];rfl
  show((bD .In (.int x.1) (.aE (S.map D.int) vs)>>=bx)>>=λc=>if c then T.ok Pa else(bD .In (.int x.2) (.aE (S.map D.int) vs)>>=bx))=_;rw[q,q,ae];by_cases h:x.1∈S;.rw[decide_eq_true h,if_pos rfl,decide_eq_true (.inl h)]
  .rw[decide_eq_false h,if_neg (by simp)];exact congrArg T.ok (by simp[h])
 have l:∀a,ay (V n) pV a=((cP (V n) (.Ar (.iH 6 (.aW .In (.var 8) (.var 6))) (.d7 (.iH 6 (.aW .In (.var 9) (.var 6))))) a>>=λx=>if x then ay (V n) (.cons (.put 6 (.var 8) (.cst (.bl Pa))) (.cons (.put 6 (.var 9) (.cst (.bl Pa))) .nil)) a else ay (V n) .nil a)>>=λg=>match g with|.nx b=>ay (V n) .nil b|g=>.ok g):=λa=>rfl;rw[l,m,ae];unfold yd;by_cases h:x.1∈S\/x.2∈S
 .rw[decide_eq_true h,if_pos rfl,if_pos h];obtain⟨k,r⟩:=wB (n:=n) (a0:=a0) (a1:=a1) (a2:=a2) (a3:=a3) (a4:=a4) (a5:=a5) (a7:=a7) (S:=S) (vs:=vs) (e:=x.1) (a8:=O7 (.d (.int x.1))) (a9:=O7 (.d (.int x.2))) (j:=8) (by omega) rfl;have o:(insI S x.1).length<=60:=by
   unfold insI;split;.omega
   .rw[P6,RU];omega
  obtain⟨i,p⟩:=wB (n:=n) (a0:=a0) (a1:=a1) (a2:=a2) (a3:=a3) (a4:=a4) (a5:=a5) (a7:=a7) (S:=insI S x.1) (vs:=k) (e:=x.2) (a8:=O7 (.d (.int x.1))) (a9:=O7 (.d (.int x.2))) (j:=9) o rfl;refine⟨i,?_⟩;rw[aQ r,aQ p];rfl
 .rw[decide_eq_false h,if_neg (by simp),if_neg h];exact⟨vs,rfl⟩
inductive O3(P:List Pt)(B:List Int)(c:Int)(R:List Int)(a0 a1 a2 a3 a4 a5 a7:Option L2.W)(ds:List D)(ρ:ag):Prop|mk(P':List Pt)(S:List Int)(vs:List D)(a8 a9:Option L2.W)(hd:ds=P'.map aj)(hP:∀x∈P',x∈P)(eρ:ρ=qo a0 a1 a2 a3 a4 a5 S vs a7 a8 a9)(h:Cs P B c S)(hr:m7 P' S=R)
theorem IK{P:List Pt}{B:List Int}{c:Int}{S:List Int}{vs:List D}{a8 a9:Option L2.W}(t:B.length<=59)(qx:aL P (·∈B))(h:Cs P B c S):∃a l k,ay (V n) gy (qo a0 a1 a2 a3 a4 (O7 (.d (.lst (P.map aj)))) S vs a7 a8 a9)=.ok (.nx (qo a0 a1 a2 a3 a4 (O7 (.d (.lst (P.map aj)))) (m7 P S) a a7 l k)):=by
 have f:=qg (g:=dD (.tup 2 (.cons (.nm 8) (.cons (.nm 9) .nil)))) (body:=ay (V n) pV) (O3 P B c (m7 P S) a0 a1 a2 a3 a4 (O7 (.d (.lst (P.map aj)))) a7) ?_ (ds:=P.map aj) (ρ:=qo a0 a1 a2 a3 a4 (O7 (.d (.lst (P.map aj)))) S vs a7 a8 a9) ⟨P,S,vs,a8,a9,rfl,λ_ z=>z,rfl,h,rfl⟩
 .obtain⟨p,e,i,o,a,l,k,hd,_,b,_,j⟩:=f;have s:i=[]:=by cases i with
   |nil=>rfl|cons _ _=>cases hd
  subst s;have j:o=m7 P S:=j;rw[b,j]at e;refine⟨a,l,k,?_⟩;unfold gy;rw[aQ (by rw[gE];exact e)];rfl
 .rintro d ds ρ⟨i,o,a,l,k,hd,hP,b,m,j⟩;cases i with
  |nil=>cases hd|cons x i=>
   rw[b,(Rn hd).1,(Rn hd).2];obtain⟨q,u⟩:=L6 (n:=n) (a0:=a0) (a1:=a1) (a2:=a2) (a3:=a3) (a4:=a4) (a5:=O7 (.d (.lst (P.map aj)))) (a7:=a7) (S:=o) (vs:=a) (x:=x) (Qa (dy m.nd m.sB) t);exact⟨_,_,rfl,u,i,_,q,_,_,rfl,λy r=>hP y (Po _ r),rfl,m.yd qx (hP x Pn),j⟩
inductive O4(P:List Pt)(B:List Int)(c:Int)(N:Nat)(a0 a1 a2 a3 a4:Option L2.W)(ds:List D)(ρ:ag):Prop|mk(S:List Int)(vs:List D)(a7 a8 a9:Option L2.W)(eρ:ρ=qo a0 a1 a2 a3 a4 (O7 (.d (.lst (P.map aj)))) S vs a7 a8 a9)(h:Cs P B c S)(hc:aL P (·∈S)\/N+1<=S.length+ds.length)(hl:ds.length<=N)
theorem IL{P:List Pt}{B:List Int}{c:Int}{vs:List D}{ds:List D}(r:B.length<=59)(u:ds.length=B.length+1)(t:c∈B)(qx:aL P (·∈B)):∃S a l k j,fA (dD (.nm 7)) (ay (V n) gy) ds (qo a0 a1 a2 a3 a4 (O7 (.d (.lst (P.map aj)))) [c] vs Pb Pb Pb)=.ok (.nx (qo a0 a1 a2 a3 a4 (O7 (.d (.lst (P.map aj)))) S a l k j))/\Cs P B c S/\aL P (·∈S):=by
 have f:=qg (g:=dD (.nm 7)) (body:=ay (V n) gy) (O4 P B c (B.length+1) a0 a1 a2 a3 a4) ?_ (ds:=ds) (ρ:=qo a0 a1 a2 a3 a4 (O7 (.d (.lst (P.map aj)))) [c] vs Pb Pb Pb) ⟨[c],vs,Pb,Pb,Pb,rfl,⟨by simp,by simp,by simpa using t,λT i _ x p=>by rw[List.mem_singleton.mp p];exact i⟩,.inr (by simp;omega),by omega⟩
 .obtain⟨m,e,S,a,l,k,j,b,h,i,_⟩:=f;rw[b]at e;refine⟨S,a,l,k,j,e,h,?_⟩;rcases i with z|z;.exact z
  .have:=dy h.nd h.sB;rw[P8]at z;omega
 .rintro d ds ρ⟨S,a,l,k,j,b,h,i,q⟩;rw[b];obtain⟨o,w,v,s⟩:=IK (n:=n) (a0:=a0) (a1:=a1) (a2:=a2) (a3:=a3) (a4:=a4) (a7:=O7 (.d d)) (vs:=a) (a8:=k) (a9:=j) r qx h;refine⟨_,_,rfl,s,_,o,_,_,_,rfl,h.m7 qx (λ_ z=>z),?_,by rw[PM]at q;omega⟩;rcases i with z|z;.exact .inl (aL.m7 h z)
  .rcases IJ h with y|y;.exact .inl (aL.m7 h y)
   .rw[PM]at z;exact .inr (by omega)
end
structure Nt(C:List Cn)(W:List Pt):Prop where
 cl:C.length<=59
 wl:W.length<=336
 cn:(C.map (·.1)).Nodup
 hW:∀x∈W,x.1∈C.map (·.1)/\x.2∈C.map (·.1)cv:∀c∈C,0<=c.1/\c.1<1000
 xv:∀c∈C,0<=c.2.1/\c.2.1<=1000000
 yv:∀c∈C,0<=c.2.2/\c.2.2<=1000000
noncomputable def gI(l:Int)(c:Cn):D:=.int (gW l c.2)
theorem oG(l:Int):∀(C a:List Cn),((a++C).map (·.1)).Nodup->(a++C).length<=168->eK (C.map λc=>.tup [.int c.1,gI l c]) (a.map kI,a.map (gI l))=O7 ((a++C).map kI,(a++C).map (gI l))
 |[],a,_,_=>by rw[QL];rfl|x::C,a,nd,b=>by
  have z:=m6;have ha:a++x::C=(a++[x])++C:=by simp
  rw[ha]at nd b⊢;have d:=oG l C (a++[x]) nd b;have f:x.1∉a.map (·.1):=λe=>by
   rw[Qm,Rv]at nd;have:=nd.1;rw[Qm,Rv]at this;exact this.2.2 _ e x.1 (by simp) rfl
  have g:putD (a.map kI) (a.map (gI l)) (.int x.1) (gI l x)=((a++[x]).map kI,(a++[x]).map (gI l)):=by
   unfold putD;rw[qh,decide_eq_false f,if_neg (by simp),Qm,Qm];rfl
  rw[PY];show(if az (a.map kI) (.int x.1)&&decide ((a.map kI).length<Pl)then eK (C.map λc=>.tup [.int c.1,gI l c]) (putD (a.map kI) (a.map (gI l)) (.int x.1) (gI l x))else Pb)=_;rw[mT,decide_eq_true (show(a.map kI).length<Pl by rw[Pk];simp only[P6,RU]at b;omega),g];exact d
noncomputable def BB(C:List Cn)(l:Int):D:=.aE (C.map kI) (C.map (gI l))
theorem wC{i l:Int}:∀{C:List Cn},i∈C.map (·.1)->aJ (C.map kI) (C.map (gI l)) (.int i)=O7 (.int (gW l (d9 C i)))
 |[],h=>by cases h|c::C,h=>by
  show(if decide (c.1=i)=Pa then O7 (gI l c)else aJ (C.map kI) (C.map (gI l)) (.int i))=_;unfold d9;by_cases e:c.1=i
  .rw[decide_eq_true e,if_pos rfl,if_pos e];rfl
  .rw[decide_eq_false e,if_neg (by simp),if_neg e];rcases List.mem_cons.mp h with z|z;.exact absurd z.symm e
   .exact wC z
theorem BC{i l:Int}{C:List Cn}(h:i∈C.map (·.1)):br (BB C l) (.int i)=.ok (.int (gW l (d9 C i))):=by
 show(T.need (az (C.map kI) (.int i))>>=λ_=>T.get (aJ (C.map kI) (C.map (gI l)) (.int i)))=_;rw[mT,wC h];rfl
section
variable{n:Nat}{C:List Cn}{W:List Pt}{hs:List Ho}{l c:Int}
theorem L7{ρ:ag}(f:l=0\/l=1)(nd:(C.map (·.1)).Nodup)(g:C.length<=168)(i:ρ[0]?=O7 (O7 (.d (aw C W))))(h:ρ[3]?=O7 (O7 (.d (dZ l)))):au (V n) (.bi .dict (.cons (.lc ["_law_e","_law_x","_law_y"] [3] (.tup 3 (.cons (.nm 0) (.cons (.nm 1) (.cons (.nm 2) .nil)))) (.ba (.idx (.var 0) (.cst (.int 0)))) .yes jX) .nil)) ρ=.ok (BB C l):=by
 have i0:qw (V n) (.ba (.idx (.var 0) (.cst (.int 0)))) ρ=.ok (C.map cD):=by
  symm_saturate;rw[i];symm_saturate
 have hb:eW ρ 3 [3]=[Pb,Pb,Pb,O7 (.d (dZ l))]:=by
  show[Pb,Pb,Pb,(ρ[3]?).join]=_;rw[h];rfl
 have m:bK (dD (.tup 3 (.cons (.nm 0) (.cons (.nm 1) (.cons (.nm 2) .nil))))) (λρ=>(cP (V n) .yes ρ).calm) (λρ=>(au (V n) jX ρ).calm) (C.map cD) [Pb,Pb,Pb,O7 (.d (dZ l))]=.ok (C.map λc=>.tup [.int c.1,gI l c]):=by
  refine(dJ (c:=λ_=>Pa) (e:=λc=>.tup [.int c.1,gI l c]) (λρ=>∃a b c,ρ=[a,b,c,O7 (.d (dZ l))]) ?_ ⟨Pb,Pb,Pb,rfl⟩).trans (by rw[List.filter_eq_self.mpr λ_ _=>rfl]);rintro ρ⟨a,b,c,rfl⟩x _;refine⟨[O7 (.d (.int x.1)),O7 (.d (.int x.2.1)),O7 (.d (.int x.2.2)),O7 (.d (dZ l))],rfl,⟨_,_,_,rfl⟩,rfl,λ_=>?_⟩;unfold jX;rcases f with rfl|rfl;.symm_saturate;rfl
  .symm_saturate;rfl
 have k:=oG l C [] nd g;have j:au (V n) (.lc ["_law_e","_law_x","_law_y"] [3] (.tup 3 (.cons (.nm 0) (.cons (.nm 1) (.cons (.nm 2) .nil)))) (.ba (.idx (.var 0) (.cst (.int 0)))) .yes jX) ρ=.ok (.lst (C.map λc=>.tup [.int c.1,gI l c])):=by
  rw[mV,i0,ae];show(bK _ _ _ (C.map cD) (eW ρ 3 [3])>>=λr=>T.ok (D.lst r))=_;rw[hb,m];rfl
 show((au (V n) (.lc ["_law_e","_law_x","_law_y"] [3] (.tup 3 (.cons (.nm 0) (.cons (.nm 1) (.cons (.nm 2) .nil)))) (.ba (.idx (.var 0) (.cst (.int 0)))) .yes jX) ρ>>=λd=>T.ok [A.d d])>>=λas=>gk as>>=λo=>xU .dict o)=_;rw[j];show(T.get (eK (C.map λc=>.tup [.int c.1,gI l c]) ([],[]))>>=λr=>T.ok (D.aE r.1 r.2))=_;rw[show eK (C.map λc=>.tup [.int c.1,gI l c]) ([],[])=_ from k];rfl
theorem L8{ρ:ag}(hW:∀x∈W,x.1∈C.map (·.1)/\x.2∈C.map (·.1))(g:ρ[0]?=O7 (O7 (.d (aw C W))))(f:ρ[4]?=O7 (O7 (.d (BB C l)))):au (V n) (.lc ["_law_a","_law_b"] [4] (.tup 2 (.cons (.nm 0) (.cons (.nm 1) .nil))) (.ba (.idx (.var 0) (.cst (.int 1)))) mE mF) ρ=.ok (.lst ((W.filter (sX C l)).map aj)):=by
 have i0:qw (V n) (.ba (.idx (.var 0) (.cst (.int 1)))) ρ=.ok (W.map aj):=by
  symm_saturate;rw[g];symm_saturate
 have hb:eW ρ 2 [4]=[Pb,Pb,O7 (.d (BB C l))]:=by
  show[Pb,Pb,(ρ[4]?).join]=_;rw[f];rfl
 have h:bK (dD (.tup 2 (.cons (.nm 0) (.cons (.nm 1) .nil)))) (λρ=>(cP (V n) mE ρ).calm) (λρ=>(au (V n) mF ρ).calm) (W.map aj) [Pb,Pb,O7 (.d (BB C l))]=.ok ((W.filter (sX C l)).map aj):=by
  refine dJ (λρ=>∃a b,ρ=[a,b,O7 (.d (BB C l))]) ?_ ⟨Pb,Pb,rfl⟩;rintro ρ⟨a,b,rfl⟩x e;refine⟨_,uE,⟨_,_,rfl⟩,?_,λ_=>?_⟩
  .unfold mE;symm_saturate;rw[BC (hW x e).1,ae,BC (hW x e).2,ae,kQ];exact congrArg T.ok (by unfold sX;rw[R_,beq_iff_eq,decide_eq_true_eq])
  .unfold mF;symm_saturate;rfl
 rw[mV,i0,ae];show(bK _ _ _ (W.map aj) (eW ρ 2 [4])>>=λr=>T.ok (D.lst r))=_;rw[hb,h];rfl
theorem sZ(h:Ho):br (d6 h) (.int 1)=.ok (dZ h.l)/\br (d6 h) (.int 2)=.ok (.int h.c)/\br (d6 h) (.int 3)=.ok (.int h.d)/\br (d6 h) (.int 4)=.ok (.int h.lo)/\br (d6 h) (.int 5)=.ok (.int h.hi):=⟨rfl,rfl,rfl,rfl,rfl⟩
theorem L9{ρ:ag}(f:l=0\/l=1)(j:∀h∈hs,h.ok C)(wl:W.length<=336)(g:hs.length<=1000)(o:ρ[1]?=O7 (O7 (.d (aV hs))))(m:ρ[3]?=O7 (O7 (.d (dZ l))))(k:ρ[5]?=O7 (O7 (.d (.lst ((W.filter (sX C l)).map aj))))):au (V n) (.op .Add (.var 5) (.lc ["_law_hold"] [3] (.nm 0) (.ba (.var 1)) gz gA)) ρ=.ok (.lst ((pairs C W hs l).map aj)):=by
 have i0:qw (V n) (.ba (.var 1)) ρ=.ok (hs.map d6):=by
  symm_saturate;rw[o];rfl
 have b:au (V n) (.var 5) ρ=.ok (.lst ((W.filter (sX C l)).map aj)):=by
  symm_saturate;rw[k];rfl
 have hb:eW ρ 1 [3]=[Pb,O7 (.d (dZ l))]:=by
  show[Pb,(ρ[3]?).join]=_;rw[m];rfl
 have s:bK (dD (.nm 0)) (λρ=>(cP (V n) gz ρ).calm) (λρ=>(au (V n) gA ρ).calm) (hs.map d6) [Pb,O7 (.d (dZ l))]=.ok ((hs.filter (kC l)).map λh=>aj (ql h)):=by
  refine dJ (λρ=>∃a,ρ=[a,O7 (.d (dZ l))]) ?_ ⟨Pb,rfl⟩;rintro ρ⟨a,rfl⟩h i;refine⟨_,rfl,⟨_,rfl⟩,?_,λ_=>?_⟩
  .unfold gz;symm_saturate;rw[(sZ h).1,ae,By (j h i).ax f];symm_saturate;have q:bD .Eq (.int h.lo) (.int h.hi)=.ok (.bl (decide (h.lo=h.hi))):=rfl;unfold kC;cases decide (h.l=l)with
   |true=>rw[if_pos rfl,(sZ h).2.2.2.1,ae,(sZ h).2.2.2.2,ae,q];rfl|false=>rfl
  .unfold gA;symm_saturate;rw[(sZ h).2.1,ae,(sZ h).2.2.1];rfl
 have p:au (V n) (.lc ["_law_hold"] [3] (.nm 0) (.ba (.var 1)) gz gA) ρ=.ok (.lst (((hs.filter (kC l)).map ql).map aj)):=by
  rw[mV,i0,ae];show(bK _ _ _ (hs.map d6) (eW ρ 1 [3])>>=λr=>T.ok (D.lst r))=_;rw[hb,s,Rk];rfl
 show(au (V n) (.var 5) ρ>>=λd=>au (V n) (.lc ["_law_hold"] [3] (.nm 0) (.ba (.var 1)) gz gA) ρ>>=λe=>ym .Add d e)=_;rw[b,p,ae,ae];exact oE wl g
theorem oH:∀(S:List Int),kf (S.map D.int)=O7 S
 |[]=>rfl|x::S=>by
  show(kf (S.map D.int)).map (x::·)=_;rw[oH S];rfl
theorem mY(hW:∀x∈W,x.1∈C.map (·.1)/\x.2∈C.map (·.1))(e:∀h∈hs,h.ok C):aL (pairs C W hs l) (·∈C.map (·.1)):=λx a _=>by
 rcases List.mem_append.mp a with z|z;.exact hW x (List.mem_filter.mp z).1
 .obtain⟨h,b,rfl⟩:=List.mem_map.mp z;have:=e h (List.mem_filter.mp b).1;exact⟨this.c,this.d⟩
theorem uF{j:Int}(a:0<=j)(h:j<=1000000):xV (.int j)=.ok (aT j.toNat):=by
 unfold xV;simp only[bN,ae];rw[decide_eq_true (show-(2^62)<=j by omega),decide_eq_true h];rfl
theorem qp(xs:List D):xU .len [.tup xs]=.ok (.int xs.length):=rfl
theorem O5{a1 a2 a3 a4 a5:Option L2.W}{S:List Int}{vs:List D}{a7 a8 a9:Option L2.W}:au (V n) (.idx (.var 0) (.cst (.int 0))) (qo (O7 (.d (aw C W))) a1 a2 a3 a4 a5 S vs a7 a8 a9)=.ok (.tup (C.map cD)):=rfl
theorem N4(e:Ex)(ρ:ag)(d:D)(h:au (V n) e ρ=.ok d):au (V n) (.bi .len (.cons e .nil)) ρ=xU .len [d]:=by
 show((au (V n) e ρ>>=λd=>T.ok [A.d d])>>=λas=>gk as>>=λa=>xU .len a)=_;rw[h];rfl
theorem O6(e:Ex)(ρ:ag)(i:Int)(h:au (V n) e ρ=.ok (.int i)):au (V n) (.op .Add e (.cst (.int 1))) ρ=.ok (.int (i+1)):=by
 show(au (V n) e ρ>>=λd=>ym .Add d (.int 1))=_;rw[h];rfl
theorem Ox(e:Ex)(ρ:ag)(d:D)(h:au (V n) e ρ=.ok d):qw (V n) (.fP (.cons e .nil)) ρ=xV d:=by
 rw[(E7 (V n)).1,(x8 (V n)).2.1,h,ae,(x8 (V n)).1,ae,ae];rfl
theorem L_{a1 a2 a3 a4 a5:Option L2.W}{S:List Int}{vs:List D}{a7 a8 a9:Option L2.W}(cl:C.length<=59):qw (V n) (.fP (.cons (.op .Add (.bi .len (.cons (.idx (.var 0) (.cst (.int 0))) .nil)) (.cst (.int 1))) .nil)) (qo (O7 (.d (aw C W))) a1 a2 a3 a4 a5 S vs a7 a8 a9)=.ok (aT (C.length+1)):=by
 refine(Ox _ _ _ (O6 _ _ _ ((N4 _ _ _ O5).trans (qp _)))).trans ?_;rw[Pk,uF (by omega) (by omega),show((C.length:Int)+1).toNat=C.length+1 by omega]
theorem IM{a0 a1 a2 a3 a4 a5:Option L2.W}{S:List Int}{vs:List D}{a7 a8 a9:Option L2.W}(a:S.length<64):ay (V n) jW (qo a0 a1 a2 a3 a4 a5 S vs a7 a8 a9)=.ok (.rt (.tup ((sortI S).map D.int))):=by
 have e:xU .sortI [.aE (S.map D.int) vs]=.ok (.lst ((sortI S).map D.int)):=by
  show(T.get (kf (S.map D.int))>>=λns=>T.need (decide (ns.length<64))>>=λ_=>T.ok (D.lst ((sortI ns).map D.int)))=_;rw[oH,get_some,ae,decide_eq_true a];rfl
 show(((xU .sortI [.aE (S.map D.int) vs]>>=λd=>T.ok [A.d d])>>=λas=>gk as>>=λb=>xU .tuple b)>>=λd=>T.ok (Fl.rt d))>>=_=_;rw[e];rfl
theorem IP(N:Nt C W)(b:l=0\/l=1)(f:∀h∈hs,h.ok C)(p:hs.length<=1000)(s:c∈C.map (·.1)):∃S:List Int,ak defs gv (n+1) 20 [.d (aw C W),.d (aV hs),.d (.int c),.d (dZ l)]=.ok (.tup ((sortI S).map D.int))/\Cs (pairs C W hs l) (C.map (·.1)) c S/\aL (pairs C W hs l) (·∈S):=by
 have z:=m6;have cl:=N.cl;obtain⟨S,g,v,u,t,e,h,a⟩:=IL (n:=n) (a0:=O7 (.d (aw C W))) (a1:=O7 (.d (aV hs))) (a2:=O7 (.d (.int c))) (a3:=O7 (.d (dZ l))) (a4:=O7 (.d (BB C l))) (vs:=[.bl Pa]) (ds:=aT (C.length+1)) (P:=pairs C W hs l) (B:=C.map (·.1)) (c:=c) (by rw[Pk];exact N.cl) (by simp[aT]) s (mY N.hW f);have q:S.length<64:=by
  have:=dy h.nd h.sB;rw[Pk]at this;omega
 refine⟨S,?_,h,a⟩;have o:=fH (i:=4) (r:=.cons (.set 5 (.lc ["_law_a","_law_b"] [4] (.tup 2 (.cons (.nm 0) (.cons (.nm 1) .nil))) (.ba (.idx (.var 0) (.cst (.int 1)))) mE mF)) (.cons (.set 5 (.op .Add (.var 5) (.lc ["_law_hold"] [3] (.nm 0) (.ba (.var 1)) gz gA))) (.cons (.kg 6 2 Pa) (.cons (.dm (.nm 7) (.fP (.cons (.op .Add (.bi .len (.cons (.idx (.var 0) (.cst (.int 0))) .nil)) (.cst (.int 1))) .nil)) gy) jW)))) (L7 (n:=n) (W:=W) (ρ:=[O7 (.d (aw C W)),O7 (.d (aV hs)),O7 (.d (.int c)),O7 (.d (dZ l)),Pb,Pb,Pb,Pb,Pb,Pb]) b N.cn (by omega) rfl rfl);have m:=fH (i:=5) (r:=.cons (.set 5 (.op .Add (.var 5) (.lc ["_law_hold"] [3] (.nm 0) (.ba (.var 1)) gz gA))) (.cons (.kg 6 2 Pa) (.cons (.dm (.nm 7) (.fP (.cons (.op .Add (.bi .len (.cons (.idx (.var 0) (.cst (.int 0))) .nil)) (.cst (.int 1))) .nil)) gy) jW))) (L8 (n:=n) (C:=C) (l:=l) (ρ:=[O7 (.d (aw C W)),O7 (.d (aV hs)),O7 (.d (.int c)),O7 (.d (dZ l)),O7 (.d (BB C l)),Pb,Pb,Pb,Pb,Pb]) N.hW rfl rfl);have k:=fH (i:=5) (r:=.cons (.kg 6 2 Pa) (.cons (.dm (.nm 7) (.fP (.cons (.op .Add (.bi .len (.cons (.idx (.var 0) (.cst (.int 0))) .nil)) (.cst (.int 1))) .nil)) gy) jW)) (L9 (n:=n) (W:=W) (ρ:=[O7 (.d (aw C W)),O7 (.d (aV hs)),O7 (.d (.int c)),O7 (.d (dZ l)),O7 (.d (BB C l)),O7 (.d (.lst ((W.filter (sX C l)).map aj))),Pb,Pb,Pb,Pb]) b f N.wl p rfl rfl rfl);have j:ay (V n) (.kg 6 2 Pa) [O7 (.d (aw C W)),O7 (.d (aV hs)),O7 (.d (.int c)),O7 (.d (dZ l)),O7 (.d (BB C l)),O7 (.d (.lst ((pairs C W hs l).map aj))),Pb,Pb,Pb,Pb]=.ok (.nx (qo (O7 (.d (aw C W))) (O7 (.d (aV hs))) (O7 (.d (.int c))) (O7 (.d (dZ l))) (O7 (.d (BB C l))) (O7 (.d (.lst ((pairs C W hs l).map aj)))) [c] [.bl Pa] Pb Pb Pb)):=rfl;rw[aD (d:=iS) rfl rfl];unfold iS;refine(congrArg (·>>=xX) (o.trans (m.trans (k.trans ((aQ j).trans (aQ (by rw[gE,L_ cl,ae,e]))))))).trans ?_;show(ay (V n) jW _>>=xX)=_;rw[IM q];rfl
end
structure Fe(k wt:Nat)(d:D):Prop where
 Jx:pD d=Pa
 Jy:(og d).showable=Pa
 Jz:(og d).depth<=k
 lv:(og d).leavesShort 13=Pa
 wt:(og d).weight<=wt
structure N5(k wt:Nat)(ds:List D):Prop where
 Jx:md ds=Pa
 Jy:XO (iK ds)=Pa
 Jz:PyData.depthAll (iK ds)<=k
 lv:WM 13 (iK ds)=Pa
 wt:V6 (iK ds)<=ds.length*(wt+1)
theorem Ma{k wt:Nat}:∀{ds:List D},(∀d∈ds,Fe k wt d)->N5 k wt ds
 |[],_=>⟨rfl,rfl,Qb _,rfl,by simp[iK,V6]⟩|d::ds,h=>by
  have a:=h d Pn;have b:=Ma (ds:=ds) λx c=>h x (Po _ c);refine⟨?_,?_,?_,?_,?_⟩;.simp[md,a.Jx,b.Jx]
  .simp[iK,XO,a.Jy,b.Jy]
  .simp only[iK,PyData.depthAll];exact Nat.max_le.mpr ⟨a.Jz,b.Jz⟩
  .simp[iK,WM,a.lv,b.lv]
  .simp only[iK,V6,PM,Nat.succ_mul];have:=a.wt;have:=b.wt;omega
theorem Ej{k wt:Nat}{ds:List D}(h:∀d∈ds,Fe k wt d):Fe (k+1) (ds.length*(wt+1)) (.tup ds):=by
 have s:=Ma h;exact⟨s.Jx,s.Jy,Nat.succ_le_succ s.Jz,s.lv,s.wt⟩
theorem IQ{i:Int}(h:i.natAbs<10^12):i.natAbs.log2<40:=by
 by_cases e:i.natAbs=0;.rw[e];decide
 .exact(Nat.log2_lt e).mpr (by omega)
theorem Ek{i:Int}(h:i.natAbs<10^12):Fe 0 40 (.int i):=by
 have l:=IQ h;refine⟨rfl,?_,Pq _,?_,?_⟩
 .show decide (i.natAbs.log2<1920)=Pa;exact decide_eq_true (by omega)
 .show decide ((PyData.shown (.int i)).length<=13)=Pa;exact decide_eq_true (PyData.shown_int_le h)
 .show(if i==0 then 0 else i.natAbs.log2+1)<=40;split<;>omega
theorem Fe.mono{k b wt a:Nat}{d:D}(h:Fe k wt d)(c:k<=b)(hw:wt<=a):Fe b a d:=⟨h.Jx,h.Jy,Qa h.Jz c,h.lv,Qa h.wt hw⟩
theorem IS{d:D}(h:Fe 8 1000000 d):mf d=Pa:=by
 unfold mf;rw[h.Jx,h.Jy,decide_eq_true h.Jz,decide_eq_true (PyData.shown_fits (by decide) (by decide) h.lv (Qa h.wt (by decide)))];rfl
theorem El{F:List Int}(b:F.length<=60)(h:∀v∈F,0<=v/\v<1000):mf (.tup (F.map D.int))=Pa:=by
 refine IS ((Ej (k:=0) (wt:=40) λd hd=>?_).mono (by decide) ?_)
 .obtain⟨v,a,rfl⟩:=List.mem_map.mp hd;have:=h v a;exact Ek (by omega)
 .rw[Pk];omega
theorem qr{d:D}(b:jR d=Pa)(a:mf d=Pa):xU .repr [d]=.ok (.str (og d).shown):=by
 show(T.need (jR d&&mf d)>>=λ_=>T.ok (D.str (og d).shown))=_;rw[b,a];rfl
theorem wD(s:PX):bD .NotEq (.str s) (.str s)=.ok (.bl Pc):=by
 show(T.get (O7 (s==s))>>=λb=>T.ok (D.bl (!b)))=_;rw[beq_self_eq_true];rfl
theorem Mb(n:Nat):(V n).cls 0=O7 24:=rfl
theorem IT{n:Nat}{net hs a b d:D}(h:ak defs gv n 9 [.d net,.d hs,.d a,.d b]=.ok d):ak defs gv (n+1) 21 [.d net,.d hs,.d a,.d b]=.ok d:=by
 rw[aD (d:=dW) rfl rfl];unfold dW;simp only[E8,LU,E6,x8,E7,ME,gk,ae,mK,fO,Cl,Sd,bO,A.w,Mb,Lm,Ls,Qy,Tn,TY,if_true];rw[h];rfl
theorem BD{n:Nat}{net hs a b:D}{c:Pg}{ρ:ag}(e:c=37\/c=49)(h:ak defs gv n 9 [.d net,.d hs,.d a,.d b]=.exc ⟨.exc c [],ρ⟩):ak defs gv (n+1) 21 [.d net,.d hs,.d a,.d b]=.ok (.lst [.bl (decide (c=37)),.bl (decide (c=49))]):=by
 rw[aD (d:=dW) rfl rfl];unfold dW;simp only[E8,LU,E6,x8,E7,ME,gk,ae,mK,fO,Cl,Sd,bO,A.w,Mb,Lm,Ls,Qy,Tn,TY,if_true];rw[h];rcases e with rfl|rfl;.rfl
 .rfl
theorem BE{n:Nat}{net hs d a:D}(h:ak defs gv n 2 [.d net,.d d]=.ok (.bl Pc)):ak defs gv (n+3) 21 [.d net,.d hs,.d d,.d a]=.ok (.lst [.bl Pa,.bl Pc]):=by
 obtain⟨b,e⟩:=Ee (a:=a) h;obtain⟨b,e⟩:=oF (hs:=hs) e;exact BD (.inl rfl) e
theorem IU{n:Nat}{net hs d a:D}(h:ak defs gv n 2 [.d net,.d d]=.ok (.bl Pa))(ha:lJ a [.str "x",.str "y"]=O7 Pc):ak defs gv (n+3) 21 [.d net,.d hs,.d d,.d a]=.ok (.lst [.bl Pc,.bl Pa]):=by
 obtain⟨b,e⟩:=qk h ha;obtain⟨b,e⟩:=oF (hs:=hs) e;exact BD (.inr rfl) e
theorem ye{P:List Pt}{B:List Int}{c:Int}{S a:List Int}(h:Cs P B c S)(g:aL P (·∈S))(b:a.Nodup)(i:c∈a)(f:aL P (·∈a))(d:∀T:Int->Prop,T c->aL P T->∀x∈a,T x):sortI S=sortI a:=by
 have p:S.Perm a:=(Vn h.nd b).mpr λx=>⟨λe=>h.mn (·∈a) i f x e,λe=>d (·∈S) h.cS g x e⟩;exact r8 ((sortI_perm S).trans p) (mh S)
section
variable{k:Nat}{C:List Cn}{W:List Pt}{hs:List Ho}{l c:Int}
theorem Ff(N:Nt C W){S:List Int}(nd:S.Nodup)(b:∀x∈S,x∈C.map (·.1)):mf (.tup ((sortI S).map D.int))=Pa:=by
 have cl:=N.cl;refine El ?_ λv d=>?_
 .have:=dy nd b;rw[Pk]at this;rw[(sortI_perm S).length_eq];omega
 .obtain⟨a,ha,rfl⟩:=List.mem_map.mp (b v ((sortI_perm S).mem_iff.mp d));exact N.cv a ha
theorem Nt.met(N:Nt C W)(m:5<=k)(f:l=0\/l=1)(a:∀h∈hs,h.ok C)(g:hs.length<=1000)(b:c∈C.map (·.1)):∃F:List Int,ak defs gv k 21 [.d (aw C W),.d (aV hs),.d (.int c),.d (dZ l)]=.ok (.tup (F.map D.int))/\ak defs gv k 20 [.d (aw C W),.d (aV hs),.d (.int c),.d (dZ l)]=.ok (.tup (F.map D.int))/\mf (.tup (F.map D.int))=Pa:=by
 obtain⟨n,rfl⟩:=Qi m;have cl:=N.cl;obtain⟨S,e,p,o⟩:=IP (n:=n+4) N f a g b;obtain⟨s,r,n1,n2,n3,j,i⟩:=mS (n:=n+2) (W:=pairs C W hs l) (B:=C.map (·.1)) (by rw[Pk];omega) b (mY N.hW a);have q:=ye p o n1 n2 n3 j;rw[q]at e;exact⟨sortI s,IT (sY f N.cn (by omega) N.wl g a N.hW b r),e,Ff N n1 i⟩
theorem Nt.bare(N:Nt C W)(m:5<=k)(b:l=0\/l=1)(a:c∈C.map (·.1)):∃F:List Int,ak defs gv k 9 [.d (aw C W),.d (.tup []),.d (.int c),.d (dZ l)]=.ok (.tup (F.map D.int))/\ak defs gv k 6 [.d (aw C W),.d (.int c),.d (dZ l)]=.ok (.tup (F.map D.int))/\mf (.tup (F.map D.int))=Pa:=by
 obtain⟨n,rfl⟩:=Qi m;have cl:=N.cl;have e:∀h∈([]:List Ho),h.ok C:=λh j=>nomatch j;obtain⟨o,f,n1,n2,n3,p,g⟩:=mS (n:=n+3) (W:=pairs C W [] l) (B:=C.map (·.1)) (by rw[Pk];omega) a (mY N.hW e);have i:pairs C W [] l=W.filter (sX C l):=QL _;refine⟨sortI o,sY (n:=n+1) (hs:=[]) b N.cn (by omega) N.wl (by simp) e N.hW a f,IH (n:=n+1) b N.cn (by omega) N.hW a (by rw[<-i];exact f),Ff N n1 g⟩
end
section
variable{k m:Nat}
theorem uG(a:1<=k)(i:Int):ak defs gv k 10 [.feed,.d (.int i)]=.draw i λi=>.ok (.int i):=by
 obtain⟨n,rfl⟩:=Qi a;exact oy n i
theorem gP(b:1<=k){e:Ex}{ρ:ag}{i:Int}(c:dQ ρ 0=Pa)(h:au (V k) e ρ=.ok (.int i)):au (V k) (.call 10 (.feed 0 (.cons e .nil))) ρ=.draw i λj=>.ok (.int j):=by
 show((T.need (dQ ρ 0)>>=λ_=>(au (V k) e ρ>>=λd=>T.ok [A.d d])>>=λa=>T.ok (A.feed::a))>>=λas=>(ak defs gv k 10 as).at' ρ)=_;rw[c,h];show(ak defs gv k 10 [.feed,.d (.int i)]).at' ρ=_;rw[uG b];rfl
theorem jF{v:Ev}{s r:bC}{ρ:ag}{Q:Fl->Nat->Prop}(h:(ay v s ρ).wp m λb a=>∃ρ',b=.nx ρ'/\(ay v r ρ').wp a Q):(ay v (.cons s r) ρ).wp m Q:=by
 rw[dX,T.wp_bind];refine T.wp_mono (λb a q=>?_) h;obtain⟨ρ',rfl,q⟩:=q;exact q
noncomputable def fM(net:D)(nm fd o4 f o6 o7 o8 o9 e c b a:Option L2.W):ag:=[O7 .feed,O7 (.d net),nm,fd,o4,f,o6,o7,o8,o9,e,c,b,a]
variable{net:D}{C:List Cn}{W:List Pt}{nm fd o4 o5 o6 o7 o8 o9 o10 o11 o12 o13:Option L2.W}{Q:Fl->Nat->Prop}{r:bC}
theorem BF(v:Ev)(i j:Nat)(e:Ex)(ρ:ag):ay v (.xW j i e) ρ=(T.get (gb ρ i)>>=λo=>ju o>>=λds=>au v e ρ>>=λd=>bN d>>=λn=>T.need (decide (0<=n)&&(decide (n<(ds.length:Int))&&decide (ds.length<=Pl)))>>=λ_=>T.get ds[n.toNat]?>>=λd=>T.ok (.nx ((ρ.set i (O7 (.own (.lst (ds.eraseIdx n.toNat))))).set j (O7 (.d d))))):=rfl
theorem oI{b c:Type}(f:b->c):∀(l:List b)(n:Nat),(l.map f).eraseIdx n=(l.eraseIdx n).map f
 |[],_=>rfl|a::l,0=>rfl|a::l,n+1=>by simp[oI f l n]
theorem IV(g:1<=k){ns:List PX}(l:0<ns.length)(i:ns.length<=30)(f:0<m)(q:∀(x:PX)(a:List PX),a.length+1=ns.length->(ay (V k) r (fM net (O7 (.own (.lst (a.map D.str)))) fd o4 (O7 (.d (.str x))) o6 o7 o8 o9 o10 o11 o12 o13)).wp (m-1) Q):(ay (V k) (.cons (.xW 5 2 (.iH 2 (.call 10 (.feed 0 (.cons (.bi .len (.cons (.var 2) .nil)) .nil))))) r) (fM net (O7 (.own (.lst (ns.map D.str)))) fd o4 o5 o6 o7 o8 o9 o10 o11 o12 o13)).wp m Q:=by
 have z:=m6;have h:au (V k) (.call 10 (.feed 0 (.cons (.bi .len (.cons (.var 2) .nil)) .nil))) (fM net (O7 (.d (.lst (ns.map D.str)))) fd o4 o5 o6 o7 o8 o9 o10 o11 o12 o13)=.draw (ns.length:Int) λj=>.ok (.int j):=gP g rfl (by
  show T.ok (D.int (ns.map D.str).length)=_;rw[Pk]);have e:au (V k) (.iH 2 (.call 10 (.feed 0 (.cons (.bi .len (.cons (.var 2) .nil)) .nil)))) (fM net (O7 (.own (.lst (ns.map D.str)))) fd o4 o5 o6 o7 o8 o9 o10 o11 o12 o13)=.draw (ns.length:Int) λj=>.ok (.int j):=by
  show(au (V k) (.call 10 (.feed 0 (.cons (.bi .len (.cons (.var 2) .nil)) .nil))) (fM net (O7 (.d (.lst (ns.map D.str)))) fd o4 o5 o6 o7 o8 o9 o10 o11 o12 o13)>>=λd=>T.need (flat Pc d)>>=λ_=>T.ok d)=_;rw[h];rfl
 refine jF ?_;rw[BF,e];show(T.draw (ns.length:Int) λn=>T.need (decide (0<=n)&&(decide (n<((ns.map D.str).length:Int))&&decide ((ns.map D.str).length<=Pl)))>>=λ_=>T.get (ns.map D.str)[n.toNat]?>>=λd=>T.ok (Fl.nx (fM net (O7 (.own (.lst ((ns.map D.str).eraseIdx n.toNat)))) fd o4 (O7 (.d d)) o6 o7 o8 o9 o10 o11 o12 o13))).wp m _;rw[T.dG];refine⟨by omega,by omega,f,λj j0 c=>?_⟩;have b:j.toNat<ns.length:=by omega
 rw[Pk,decide_eq_true j0,decide_eq_true c,sd (by omega),PV,PN b,oI];exact⟨_,rfl,q _ _ (by rw[Vq b];omega)⟩
theorem BG{v:Ev}{i j:Nat}{a b:Ex}{ρ:ag}(h:(au v a ρ).wp m λd f=>(au v b ρ).wp f λe c=>(ay v r ((ρ.set i (O7 (.d d))).set j (O7 (.d e)))).wp c Q):(ay v (.cons (.par i j (.cons a (.cons b .nil))) r) ρ).wp m Q:=by
 refine jF ?_;simp only[E8,x8,T.wp_bind,T.bz,gk];exact T.wp_mono (λd f q=>T.wp_mono (λe c q=>⟨_,rfl,q⟩) q) h
theorem mZ{ρ:ag}(g:1<=k)(h:dQ ρ 0=Pa)(b:au (V k) (.idx (.var 1) (.cst (.int 0))) ρ=.ok (.tup (C.map cD)))(o:0<C.length)(n:C.length<=59)(f:0<m){Q:D->Nat->Prop}(q:∀c∈C,Q (cD c) (m-1)):(au (V k) (.idx (.idx (.var 1) (.cst (.int 0))) (.call 10 (.feed 0 (.cons (.bi .len (.cons (.idx (.var 1) (.cst (.int 0))) .nil)) .nil)))) ρ).wp m Q:=by
 have i:au (V k) (.call 10 (.feed 0 (.cons (.bi .len (.cons (.idx (.var 1) (.cst (.int 0))) .nil)) .nil))) ρ=.draw (C.length:Int) λj=>.ok (.int j):=gP g h (by rw[N4 _ _ _ b,qp,Pk]);show(au (V k) (.idx (.var 1) (.cst (.int 0))) ρ>>=λd=>au (V k) (.call 10 (.feed 0 (.cons (.bi .len (.cons (.idx (.var 1) (.cst (.int 0))) .nil)) .nil))) ρ>>=λe=>br d e).wp m Q;rw[b,i];show(T.draw (C.length:Int) λj=>br (.tup (C.map cD)) (.int j)).wp m Q;rw[T.dG];refine⟨by omega,by omega,f,λj j0 l=>?_⟩;have a:j.toNat<C.length:=by omega
 refine wj (d:=cD C[j.toNat]) (Ip j0 (by rw[PV,PN a];rfl)) (q _ (VX a))
theorem Mc(b:1<=k)(a:0<m){ρ:ag}(c:dQ ρ 0=Pa)(q:∀l:Int,l=0\/l=1->(ay (V k) r (ρ.set 8 (O7 (.d (.int l))))).wp (m-1) Q):(ay (V k) (.cons (.set 8 (.call 10 (.feed 0 (.cons (.cst (.int 2)) .nil)))) r) ρ).wp m Q:=by
 refine mL ?_;rw[gP b c rfl,T.dG];exact⟨by decide,by decide,a,λj j0 e=>q j (by omega)⟩
theorem BH{l:Int}(a:l=0\/l=1)(c:Cn):br (cD c) (.int (1+l))=.ok (.int (gW l c.2)):=by rcases a with rfl|rfl<;>rfl
theorem jG{c:Cn}:∀{C:List Cn},(C.map (·.1)).Nodup->c∈C->d9 C c.1=c.2
 |x::C,nd,h=>by
  rw[PY,List.nodup_cons]at nd;unfold d9;rcases List.mem_cons.mp h with rfl|z;.rw[if_pos rfl]
  .rw[if_neg λe=>nd.1 (by rw[e];exact List.mem_map.mpr ⟨c,z,rfl⟩)];exact jG nd.2 z
theorem Em(g:1<=k)(f:0<m)(q:∀a b:Int,0<=a->0<=b->(ay (V k) r (fM net nm fd o4 o5 o6 o7 o8 o9 (O7 (.d (.int a))) (O7 (.d (.int b))) o12 o13)).wp (m-1) Q):(ay (V k) (.cons (.asg (.tup 2 (.cons (.nm 10) (.cons (.nm 11) .nil))) (.idx (.lst (.cons (.tup (.cons (.cst (.int 0)) (.cons (.cst (.int 0)) .nil))) (.cons (.tup (.cons (.cst (.int 0)) (.cons (.cst (.int 0)) .nil))) (.cons (.tup (.cons (.cst (.int 0)) (.cons (.cst (.int 1)) .nil))) (.cons (.tup (.cons (.cst (.int 2)) (.cons (.cst (.int 0)) .nil))) (.cons (.tup (.cons (.cst (.int 3)) (.cons (.cst (.int 9)) .nil))) .nil)))))) (.call 10 (.feed 0 (.cons (.cst (.int 5)) .nil))))) r) (fM net nm fd o4 o5 o6 o7 o8 o9 o10 o11 o12 o13)).wp m Q:=by
 have h:au (V k) (.lst (.cons (.tup (.cons (.cst (.int 0)) (.cons (.cst (.int 0)) .nil))) (.cons (.tup (.cons (.cst (.int 0)) (.cons (.cst (.int 0)) .nil))) (.cons (.tup (.cons (.cst (.int 0)) (.cons (.cst (.int 1)) .nil))) (.cons (.tup (.cons (.cst (.int 2)) (.cons (.cst (.int 0)) .nil))) (.cons (.tup (.cons (.cst (.int 3)) (.cons (.cst (.int 9)) .nil))) .nil)))))) (fM net nm fd o4 o5 o6 o7 o8 o9 o10 o11 o12 o13)=.ok (.lst ([((0:Int),(0:Int)),(0,0),(0,1),(2,0),(3,9)].map aj)):=by kernel_rfl
 refine jF ?_;show(((au (V k) (.lst _) (fM net nm fd o4 o5 o6 o7 o8 o9 o10 o11 o12 o13))>>=λd=>au (V k) (.call 10 (.feed 0 (.cons (.cst (.int 5)) .nil))) (fM net nm fd o4 o5 o6 o7 o8 o9 o10 o11 o12 o13)>>=λe=>br d e)>>=λd=>dD (.tup 2 (.cons (.nm 10) (.cons (.nm 11) .nil))) d (fM net nm fd o4 o5 o6 o7 o8 o9 o10 o11 o12 o13)>>=λc=>T.ok (Fl.nx c)).wp m _;rw[h,gP g rfl rfl,ae];show(T.draw 5 λj=>br (.lst ([((0:Int),(0:Int)),(0,0),(0,1),(2,0),(3,9)].map aj)) (.int j)>>=λd=>dD (.tup 2 (.cons (.nm 10) (.cons (.nm 11) .nil))) d (fM net nm fd o4 o5 o6 o7 o8 o9 o10 o11 o12 o13)>>=λc=>T.ok (Fl.nx c)).wp m _;rw[T.dG];refine⟨by decide,by decide,f,λj j0 i=>?_⟩;rcases(by omega:j=0\/j=1\/j=2\/j=3\/j=4)with rfl|rfl|rfl|rfl|rfl;.exact⟨_,rfl,q 0 0 (by decide) (by decide)⟩
 .exact⟨_,rfl,q 0 0 (by decide) (by decide)⟩
 .exact⟨_,rfl,q 0 1 (by decide) (by decide)⟩
 .exact⟨_,rfl,q 2 0 (by decide) (by decide)⟩
 .exact⟨_,rfl,q 3 9 (by decide) (by decide)⟩
noncomputable def MF(v a:Int):Int:=if v-a>-1000000 then v-a else-1000000
noncomputable def MG(v b:Int):Int:=if v+b<1000000 then v+b else 1000000
theorem IW{v a:Int}:au (V k) (.bi .max (.cons (.neg (.op .Pow (.cst (.int 10)) (.cst (.int 6)))) (.cons (.op .Sub (.var 9) (.var 10)) .nil))) (fM net nm fd o4 o5 o6 o7 o8 (O7 (.d (.int v))) (O7 (.d (.int a))) o11 o12 o13)=.ok (.int (MF v a)):=by rfl
theorem IX{v b:Int}:au (V k) (.bi .min (.cons (.op .Pow (.cst (.int 10)) (.cst (.int 6))) (.cons (.op .Add (.var 9) (.var 11)) .nil))) (fM net nm fd o4 o5 o6 o7 o8 (O7 (.d (.int v))) o10 (O7 (.d (.int b))) o12 o13)=.ok (.int (MG v b)):=by rfl
end
section
variable{k m:Nat}{net:D}{C:List Cn}{W:List Pt}{nm fd o4 o5 o6 o7 o8 o9 o10 o11 o12 o13:Option L2.W}{Q:Fl->Nat->Prop}{r:bC}
theorem IY{x:PX}{c d:Cn}{l lo hi:Int}(a:l=0\/l=1):au (V k) (.tup (.cons (.var 5) (.cons (.idx (.lst (.cons (.cst (.str "x")) (.cons (.cst (.str "y")) .nil))) (.var 8)) (.cons (.idx (.var 6) (.cst (.int 0))) (.cons (.idx (.var 7) (.cst (.int 0))) (.cons (.var 12) (.cons (.var 13) .nil))))))) (fM net nm fd o4 (O7 (.d (.str x))) (O7 (.d (cD c))) (O7 (.d (cD d))) (O7 (.d (.int l))) o9 o10 o11 (O7 (.d (.int lo))) (O7 (.d (.int hi))))=.ok (d6 ⟨x,l,c.1,d.1,lo,hi⟩):=by rcases a with rfl|rfl<;>kernel_rfl
theorem IZ{e:Ex}{hs:List Ho}{h:Ho}(b:hs.length<=30)(a:au (V k) e (fM net nm (O7 (.own (.lst (hs.map d6)))) o4 o5 o6 o7 o8 o9 o10 o11 o12 o13)=.ok (d6 h)):ay (V k) (.cons (.app 3 e) .nil) (fM net nm (O7 (.own (.lst (hs.map d6)))) o4 o5 o6 o7 o8 o9 o10 o11 o12 o13)=.ok (.nx (fM net nm (O7 (.own (.lst ((hs++[h]).map d6)))) o4 o5 o6 o7 o8 o9 o10 o11 o12 o13)):=by
 have z:=m6;show((au (V k) e (fM net nm (O7 (.own (.lst (hs.map d6)))) o4 o5 o6 o7 o8 o9 o10 o11 o12 o13)>>=λd=>T.need (decide ((hs.map d6).length<Pl))>>=λ_=>T.ok (Fl.nx (fM net nm (O7 (.own (.lst (hs.map d6++[d])))) o4 o5 o6 o7 o8 o9 o10 o11 o12 o13)))>>=_)=_;rw[a,ae,decide_eq_true (show(hs.map d6).length<Pl by rw[Pk];omega),Qm];rfl
theorem I_(g:1<=k)(N:Nt C W)(t:0<C.length){ns:List PX}{hs:List Ho}(F:0<ns.length)(E:ns.length<=30)(B:hs.length<=30)(K:5<=m)(q:∀(e:List PX)(h:Ho)(z y w v u p o n j:Option L2.W),e.length+1=ns.length->h.ok C->Q (.nx (fM (aw C W) (O7 (.own (.lst (e.map D.str)))) (O7 (.own (.lst ((hs++[h]).map d6)))) o4 z y w v u p o n j)) (m-5)):(ay (V k) mD (fM (aw C W) (O7 (.own (.lst (ns.map D.str)))) (O7 (.own (.lst (hs.map d6)))) o4 o5 o6 o7 o8 o9 o10 o11 o12 o13)).wp m Q:=by
 unfold mD;refine IV g F E (by omega) λx e A=>?_;refine BG (mZ (C:=C) g rfl rfl t N.cl (by omega) λc cC=>mZ (C:=C) g rfl rfl t N.cl (by omega) λd f=>?_);refine Mc g (by omega) rfl λl i=>?_;have G:au (V k) (.op .Sub (.idx (.var 7) (.op .Add (.cst (.int 1)) (.var 8))) (.idx (.var 6) (.op .Add (.cst (.int 1)) (.var 8)))) (fM (aw C W) (O7 (.own (.lst (e.map D.str)))) (O7 (.own (.lst (hs.map d6)))) o4 (O7 (.d (.str x))) (O7 (.d (cD c))) (O7 (.d (cD d))) (O7 (.d (.int l))) o9 o10 o11 o12 o13)=.ok (.int (gW l d.2-gW l c.2)):=by
  show((br (cD d) (.int (1+l)))>>=λa=>(br (cD c) (.int (1+l)))>>=λb=>ym .Sub a b)=_;rw[BH i,BH i];rfl
 show(ay (V k) (.cons (.set 9 _) _) (fM (aw C W) (O7 (.own (.lst (e.map D.str)))) (O7 (.own (.lst (hs.map d6)))) o4 (O7 (.d (.str x))) (O7 (.d (cD c))) (O7 (.d (cD d))) (O7 (.d (.int l))) o9 o10 o11 o12 o13)).wp _ _;rw[fH G];show(ay (V k) _ (fM (aw C W) (O7 (.own (.lst (e.map D.str)))) (O7 (.own (.lst (hs.map d6)))) o4 (O7 (.d (.str x))) (O7 (.d (cD c))) (O7 (.d (cD d))) (O7 (.d (.int l))) (O7 (.d (.int (gW l d.2-gW l c.2)))) o10 o11 o12 o13)).wp _ _;refine Em g (by omega) λa b M L=>?_;refine BG ?_;rw[IW,T.bz,IX,T.bz];show(ay (V k) (.cons (.app 3 _) .nil) (fM (aw C W) (O7 (.own (.lst (e.map D.str)))) (O7 (.own (.lst (hs.map d6)))) o4 (O7 (.d (.str x))) (O7 (.d (cD c))) (O7 (.d (cD d))) (O7 (.d (.int l))) (O7 (.d (.int (gW l d.2-gW l c.2)))) (O7 (.d (.int a))) (O7 (.d (.int b))) (O7 (.d (.int (MF (gW l d.2-gW l c.2) a)))) (O7 (.d (.int (MG (gW l d.2-gW l c.2) b)))))).wp _ _;rw[IZ B (IY i),T.bz];have s:m-1-1-1-1-1=m-5:=by omega
 rw[s];refine q e _ _ _ _ _ _ _ _ _ _ A ⟨i,List.mem_map.mpr ⟨c,cC,rfl⟩,List.mem_map.mpr ⟨d,f,rfl⟩,?_,?_⟩
 .show MF (gW l d.2-gW l c.2) a<=gW l (d9 C d.1)-gW l (d9 C c.1);rw[jG N.cn cC,jG N.cn f];have b1:=N.xv c cC;have J:=N.yv c cC;have I:=N.xv d f;have H:=N.yv d f;unfold MF gW;split<;>split<;>omega
 .show gW l (d9 C d.1)-gW l (d9 C c.1)<=MG (gW l d.2-gW l c.2) b;rw[jG N.cn cC,jG N.cn f];have b1:=N.xv c cC;have J:=N.yv c cC;have I:=N.xv d f;have H:=N.yv d f;unfold MG gW;split<;>split<;>omega
noncomputable def n9:List PX:=["b","wide","aa","zz","x","room","c","yard","m"]
noncomputable def Md:List PX:=n9++n9.map (λx=>(O8 "d")++x)++n9.map (λx=>(O8 "e")++x)++[O8 "hall",O8 "n",O8 "o"]
theorem Me:ay (V k) (.kz 2 (.cons (.cst (.str "b")) (.cons (.cst (.str "wide")) (.cons (.cst (.str "aa")) (.cons (.cst (.str "zz")) (.cons (.cst (.str "x")) (.cons (.cst (.str "room")) (.cons (.cst (.str "c")) (.cons (.cst (.str "yard")) (.cons (.cst (.str "m")) .nil)))))))))) (fM net Pb Pb Pb Pb Pb Pb Pb Pb Pb Pb Pb Pb)=.ok (.nx (fM net (O7 (.own (.lst (n9.map D.str)))) Pb Pb Pb Pb Pb Pb Pb Pb Pb Pb Pb)):=by kernel_rfl
theorem Ja:ay (V k) (.fz 2 (.Av 2 (.op .Add (.op .Add (.var 2) (.lc ["_law_name"] [] (.nm 0) (.ba (.var 2)) .yes sJ)) (.lc ["_law_name"] [] (.nm 0) (.ba (.var 2)) .yes sL)) (.lst (.cons (.cst (.str "hall")) (.cons (.cst (.str "n")) (.cons (.cst (.str "o")) .nil)))))) (fM net (O7 (.own (.lst (n9.map D.str)))) Pb Pb Pb Pb Pb Pb Pb Pb Pb Pb Pb)=.ok (.nx (fM net (O7 (.own (.lst (Md.map D.str)))) Pb Pb Pb Pb Pb Pb Pb Pb Pb Pb Pb)):=by kernel_rfl
theorem Eo(n:1<=k){e:Ex}{ρ:ag}{Q:D->Nat->Prop}(o:dQ ρ 0=Pa)(h:(au (V k) e ρ).wp m λd a=>∃i:Int,d=.int i/\0<i/\i<1073741824/\0<a/\∀j,0<=j->j<i->Q (.int j) (a-1)):(au (V k) (.call 10 (.feed 0 (.cons e .nil))) ρ).wp m Q:=by
 show((T.need (dQ ρ 0)>>=λ_=>(au (V k) e ρ>>=λd=>T.ok [A.d d])>>=λb=>T.ok (A.feed::b))>>=λas=>(ak defs gv k 10 as).at' ρ).wp m Q;simp only[T.wp_bind,T.kP,T.bz,T.wp_at];refine⟨o,T.wp_mono (λd a q=>?_) h⟩;obtain⟨i,rfl,l,g,f,c⟩:=q;rw[uG n,T.dG];exact⟨l,g,f,c⟩
inductive HI(C:List Cn)(W:List Pt)(m:Nat)(ds:List D)(ρ:ag)(m':Nat):Prop|mk(ns:List PX)(hs:List Ho)(o4 o5 o6 o7 o8 o9 o10 o11 o12 o13:Option L2.W)(eρ:ρ=fM (aw C W) (O7 (.own (.lst (ns.map D.str)))) (O7 (.own (.lst (hs.map d6)))) o4 o5 o6 o7 o8 o9 o10 o11 o12 o13)(g1:ds.length<=ns.length)(g2:ns.length<=30)(g3:hs.length+ds.length<=30)(g4:∀h∈hs,h.ok C)(g5:m<=m'+2+5*(30-ds.length))
theorem Jb{C:List Cn}{hs:List Ho}(e:∀h∈hs,h.ok C):(hs.map d6).all Ht=Pa:=by
 rw[Qq];intro x a;obtain⟨h,b,rfl⟩:=List.mem_map.mp a;obtain⟨nm,l,c,d,lo,hi⟩:=h;have:=(e _ b).ax;rcases this with z|z
 .have z:l=0:=z;subst z;rfl
 .have z:l=1:=z;subst z;rfl
theorem BJ(N:Nt C W)(Y:0<C.length)(q:2<=k)(o:152<=m):(ak defs gv k 19 [.feed,.d (aw C W)]).wp m (λd U=>m<=U+152/\∃hs:List Ho,d=aV hs/\hs.length<=30/\∀h∈hs,h.ok C):=by
 obtain⟨n,rfl⟩:=Qi q;have z:=m6;have q:1<=n+1:=by omega
 rw[aD (d:=fG) rfl rfl];unfold fG;show(ay (V (n+1)) (.cons _ (.cons _ (.cons (.kz 3 .nil) (.cons _ _)))) (fM (aw C W) Pb Pb Pb Pb Pb Pb Pb Pb Pb Pb Pb Pb)>>=xX).wp m _;rw[aQ Me,aQ Ja];have e3:ay (V (n+1)) (.kz 3 .nil) (fM (aw C W) (O7 (.own (.lst (Md.map D.str)))) Pb Pb Pb Pb Pb Pb Pb Pb Pb Pb Pb)=.ok (.nx (fM (aw C W) (O7 (.own (.lst (Md.map D.str)))) (O7 (.own (.lst (([]:List Ho).map d6)))) Pb Pb Pb Pb Pb Pb Pb Pb Pb Pb)):=by kernel_rfl
 rw[aQ e3,T.wp_bind];refine jF ?_;rw[gE,T.wp_bind,(E7 (V (n+1))).1,T.wp_bind,(x8 (V (n+1))).2.1,T.wp_bind];refine Eo q rfl ?_;show(au (V (n+1)) (.lst (.cons (.cst (.int 10)) (.cons (.cst (.int 31)) .nil))) _>>=λd=>au (V (n+1)) (.call 10 (.feed 0 (.cons (.cst (.int 2)) .nil))) _>>=λe=>br d e).wp m _;have el:∀g,au (V (n+1)) (.lst (.cons (.cst (.int 10)) (.cons (.cst (.int 31)) .nil))) g=.ok (.lst [.int 10,.int 31]):=λg=>by
  show(T.need (decide (2<=Pl))>>=λ_=>T.ok (D.lst [.int 10,.int 31]))=_;rw[E9];rfl
 rw[el,ae,gP q rfl rfl];show(T.draw 2 λj=>br (.lst [.int 10,.int 31]) (.int j)).wp m _;rw[T.dG];refine⟨by decide,by decide,by omega,λj j0 j1=>?_⟩;have ej:∃i:Int,br (.lst [.int 10,.int 31]) (.int j)=.ok (.int i)/\0<i/\i<=31:=by
  rcases(by omega:j=0\/j=1)with rfl|rfl;.exact⟨10,rfl,by decide,by decide⟩
  .exact⟨31,rfl,by decide,by decide⟩
 obtain⟨i,ei,i0,i1⟩:=ej;rw[ei,T.bz];refine⟨i,rfl,i0,by omega,by omega,λt L t1=>?_⟩;simp only[x8,gk,T.wp_bind,T.bz];rw[uF L (by omega),T.bz];refine dw (HI C W m) ?_ ?_ ⟨Md,[],Pb,Pb,Pb,Pb,Pb,Pb,Pb,Pb,Pb,Pb,rfl,?_,by decide,?_,(λh o=>nomatch o),?_⟩
 .rintro d ds g A⟨ns,hs,E,x,w,v,u,s,f,c,b,a,l,I,K,H,B,G⟩;rw[l];rw[PM]at I H G;show(T.ok (fM (aw C W) (O7 (.own (.lst (ns.map D.str)))) (O7 (.own (.lst (hs.map d6)))) (O7 (.d d)) x w v u s f c b a)).wp A _;rw[T.bz];refine I_ q N Y (by omega) K (by omega) (by omega) λF h q5 q6 q7 q8 q9 R P O M hn X=>?_;refine HI.mk F (hs++[h]) _ _ _ _ _ _ _ _ _ _ rfl (by omega) (by omega) (by rw[P6,RU];omega) (λh' o=>?_) (by omega);rcases List.mem_append.mp o with y|y;.exact B h' y
  .rw[List.mem_singleton.mp y];exact X
 .rintro g A⟨ns,hs,E,x,w,v,u,s,f,c,b,a,l,I,K,H,B,G⟩;rw[l];rw[P8]at I H G;refine⟨_,rfl,?_⟩;have e5:au (V (n+1)) (.var 3) (fM (aw C W) (O7 (.own (.lst (ns.map D.str)))) (O7 (.d (.lst (hs.map d6)))) E x w v u s f c b a)=.ok (.lst (hs.map d6)):=rfl;show(ay (V (n+1)) (.cons (.ret (.bi .tuple (.cons (.bi .sorted (.cons (.var 3) .nil)) .nil))) .nil) (fM (aw C W) (O7 (.own (.lst (ns.map D.str)))) (O7 (.d (.lst (hs.map d6)))) E x w v u s f c b a)).wp A _;simp only[E8,E6,x8,T.wp_bind];rw[show∀g,T.get (fO g 3)=au (V (n+1)) (.var 3) g fromλg=>rfl,e5];simp only[T.bz,gk,ae,T.wp_bind];refine cf (ds:=hs.map d6) rfl (by rw[Pk];omega) (by unfold iI;rw[Jb B];simp) λl' S=>?_;obtain⟨p,J,rfl⟩:=c_ S rfl;show m<=A+152/\∃Z:List Ho,D.tup (p.map d6)=aV Z/\_;exact⟨by omega,p,rfl,by rw[J.length_eq];omega,λh o=>B h (J.mem_iff.mp o)⟩
 .have:(aT t.toNat).length=t.toNat:=by simp[aT]
  rw[this,show Md.length=30 from rfl];omega
 .have:(aT t.toNat).length=t.toNat:=by simp[aT]
  rw[this,P8];omega
 .omega
end
theorem Ep{L:List Pt}(nd:L.Nodup)(h:∀p∈L,0<=p.1/\p.1<7/\0<=p.2/\p.2<6):L.length<=42:=by
 have n2:(L.map λp=>p.1*6+p.2).Nodup:=List.pairwise_map.mpr (TV (λ{a b}ha hb c z=>c (by
  have f:=h a ha;have g:=h b hb;exact Prod.ext (by omega) (by omega))) nd);have:=dy (m:=(Qg 42).map Int.ofNat) n2 λx d=>by
  obtain⟨p,e,rfl⟩:=List.mem_map.mp d;have f:=h p e;exact List.mem_map.mpr ⟨(p.1*6+p.2).toNat,List.mem_range.mpr (by omega),by show((p.1*6+p.2).toNat:Int)=_;omega⟩
 rw[Pk,Pk,Uo]at this;exact this
theorem wF{xs:List Int}(v:∀x∈xs,0<=x/\x<=1000000)(i:Nat):0<=xs.getD i 0/\xs.getD i 0<=1000000:=by
 rw[RL];cases e:xs[i]? with
 |none=>exact⟨by decide,by decide⟩|some x=>exact v x (Qd e)
theorem Ae{w h:Int}{E:List Eg}{A:List (Pt×Int)}{xs e:List Int}{C:List Cn}{W:List Pt}(hw:w<=7)(o:h<=6)(g:Num w h A)(j:∀x∈xs,0<=x/\x<=1000000)(i:∀y∈e,0<=y/\y<=1000000)(hN:Br E A xs e C W):Nt C W:=by
 have d:∀p∈A.map (·.1),look A p∈C.map (·.1):=λp a=>List.mem_map.mpr ⟨ko A xs e p,(hN.cs _).mpr ⟨p,a,rfl⟩,rfl⟩;have n:(A.map (·.1)).length<=42:=Ep g.nd λp a=>by
  have:=g.yo _ (eQ a);exact⟨this.1,XQ this.2.1 hw,this.2.2.1,XQ this.2.2.2 o⟩
 have m:(C.map (·.1)).length<=(A.map (·.2)).length:=dy hN.cn λx f=>by
  obtain⟨c,b,rfl⟩:=List.mem_map.mp f;obtain⟨p,a,rfl⟩:=(hN.cs c).mp b;exact List.mem_map.mpr ⟨(p,look A p),eQ a,rfl⟩
 simp only[Pk]at n m;refine⟨by omega,hN.wl,hN.cn,λx f=>?_,λc b=>?_,λc b=>?_,λc b=>?_⟩
 .obtain⟨p,q,l,k,a,_,F,rfl⟩:=(hN.ws x).mp f;exact⟨d p a,d q F.mem⟩
 .obtain⟨p,a,rfl⟩:=(hN.cs c).mp b;exact g.val _ (eQ a)
 .obtain⟨p,a,rfl⟩:=(hN.cs c).mp b;exact wF j _
 .obtain⟨p,a,rfl⟩:=(hN.cs c).mp b;exact wF i _
noncomputable def iT(s1 s2 s3:Option L2.W)(net hs:D)(o6 o7 o8 o9:Option L2.W):ag:=[O7 .feed,s1,s2,s3,O7 (.d net),O7 (.d hs),o6,o7,o8,o9]
section
variable{k m:Nat}{C:List Cn}{W:List Pt}{hs:List Ho}{s1 s2 s3 o6 o7 o8 o9:Option L2.W}
theorem Fg(N:Nt C W)(b:5<=k)(n:∀h∈hs,h.ok C)(j:hs.length<=1000){l c:Int}(a:l=0\/l=1)(e:c∈C.map (·.1)):∃i,ay (V k) fD (iT s1 s2 s3 (aw C W) (aV hs) o6 (O7 (.d (.int c))) (O7 (.d (dZ l))) o9)=.ok (.nx (iT s1 s2 s3 (aw C W) (aV hs) o6 (O7 (.d (.int c))) (O7 (.d (dZ l))) i)):=by
 obtain⟨F,s,r,f⟩:=N.met b a n j e;obtain⟨G,q,p,o⟩:=N.bare b a e;refine⟨O7 (.d (.str (og (.tup (F.map D.int))).shown)),?_⟩;unfold fD;have g:au (V k) (.bi .repr (.cons (.call 20 (.cons (.var 4) (.cons (.var 5) (.cons (.var 7) (.cons (.var 8) .nil))))) .nil)) (iT s1 s2 s3 (aw C W) (aV hs) o6 (O7 (.d (.int c))) (O7 (.d (dZ l))) o9)=.ok (.str (og (.tup (F.map D.int))).shown):=by
  unfold iT;symm_saturate;rw[r];symm_saturate;rw[qr rfl f]
 rw[fH g];unfold wa v_ iT;symm_saturate;rw[s];symm_saturate;rw[qr rfl f];symm_saturate;rw[wD];symm_saturate;rw[q,p];symm_saturate;rw[qr rfl o];symm_saturate;rw[wD];symm_saturate
theorem Mf(N:Nt C W)(r:5<=k)(A:0<C.length)(t:∀h∈hs,h.ok C)(p:hs.length<=1000)(z:0<m){Q:Fl->Nat->Prop}(q:∀y x n,Q (.nx (iT s1 s2 s3 (aw C W) (aV hs) o6 y x n)) (m-1)):(ay (V k) pZ (iT s1 s2 s3 (aw C W) (aV hs) o6 o7 o8 o9)).wp m Q:=by
 have cl:=N.cl;unfold pZ;refine mL ?_;have u:au (V k) (.idx (.var 4) (.cst (.int 0))) (iT s1 s2 s3 (aw C W) (aV hs) o6 o7 o8 o9)=.ok (.tup (C.map cD)):=rfl;have G:au (V k) (.call 10 (.feed 0 (.cons (.bi .len (.cons (.idx (.var 4) (.cst (.int 0))) .nil)) .nil))) (iT s1 s2 s3 (aw C W) (aV hs) o6 o7 o8 o9)=.draw (C.length:Int) λj=>.ok (.int j):=gP (by omega) rfl (by rw[N4 _ _ _ u,qp,Pk]);show(((au (V k) (.idx (.var 4) (.cst (.int 0))) (iT s1 s2 s3 (aw C W) (aV hs) o6 o7 o8 o9)>>=λd=>au (V k) (.call 10 (.feed 0 (.cons (.bi .len (.cons (.idx (.var 4) (.cst (.int 0))) .nil)) .nil))) (iT s1 s2 s3 (aw C W) (aV hs) o6 o7 o8 o9)>>=λe=>br d e))>>=λd=>br d (.int 0)).wp m _;rw[u,G];show(T.draw (C.length:Int) λj=>br (.tup (C.map cD)) (.int j)>>=λd=>br d (.int 0)).wp m _;rw[T.dG];refine⟨by omega,by omega,z,λj j0 H=>?_⟩;have s:j.toNat<C.length:=by omega
 rw[T.wp_bind];refine wj (d:=cD C[j.toNat]) (Ip j0 (by rw[PV,PN s];rfl)) ?_;have g:C[j.toNat].1∈C.map (·.1):=List.mem_map.mpr ⟨_,VX s,rfl⟩;generalize C[j.toNat]=c at g;show(ay (V k) (.cons (.dm (.nm 8) (.ba (.tup (.cons (.cst (.str "x")) (.cons (.cst (.str "y")) .nil)))) fD) .nil) (iT s1 s2 s3 (aw C W) (aV hs) o6 (O7 (.d (.int c.1))) o8 o9)).wp (m-1) Q;obtain⟨n,F⟩:=Fg (s1:=s1) (s2:=s2) (s3:=s3) (o6:=o6) (o9:=o9) N r t p (l:=0) (.inl rfl) g;obtain⟨o,E⟩:=Fg (s1:=s1) (s2:=s2) (s3:=s3) (o6:=o6) (o9:=n) N r t p (l:=1) (.inr rfl) g;have i:qw (V k) (.ba (.tup (.cons (.cst (.str "x")) (.cons (.cst (.str "y")) .nil)))) (iT s1 s2 s3 (aw C W) (aV hs) o6 (O7 (.d (.int c.1))) o8 o9)=.ok [.str "x",.str "y"]:=by unfold iT;symm_saturate
 have f:∀{d ds}{ρ b a:ag},dD (.nm 8) d ρ=.ok b->ay (V k) fD b=.ok (.nx a)->fA (dD (.nm 8)) (ay (V k) fD) (d::ds) ρ=fA (dD (.nm 8)) (ay (V k) fD) ds a:=λ{d ds ρ b a}w v=>by rw[fA,w,ae,v,ae]
 have D:=f (d:=dZ 0) (ds:=[.str "y"]) (ρ:=iT s1 s2 s3 (aw C W) (aV hs) o6 (O7 (.d (.int c.1))) o8 o9) rfl F;have B:=f (d:=dZ 1) (ds:=[]) (ρ:=iT s1 s2 s3 (aw C W) (aV hs) o6 (O7 (.d (.int c.1))) (O7 (.d (dZ 0))) n) rfl E;rw[aQ (ρ':=iT s1 s2 s3 (aw C W) (aV hs) o6 (O7 (.d (.int c.1))) (O7 (.d (dZ 1))) o) (by
  rw[gE,i,ae];exact D.trans B)];exact q _ _ _
theorem Jc(b:5<=k)(N:Nt C W){hs a:D}{i:Int}(hi:i∉C.map (·.1)):ak defs gv k 21 [.d (aw C W),.d hs,.d (.int i),.d a]=.ok (.lst [.bl Pa,.bl Pc]):=by
 obtain⟨n,rfl⟩:=Qi b;have cl:=N.cl;exact BE (by rw[has_int N.cn (by omega),decide_eq_false hi])
theorem Jd(c:5<=k){net hs a:D}(b:Bool):ak defs gv k 21 [.d net,.d hs,.d (.bl b),.d a]=.ok (.lst [.bl Pa,.bl Pc]):=by
 obtain⟨n,rfl⟩:=Qi c;exact BE (IF (L3 (.inr (.inl ⟨_,rfl⟩))))
theorem BK(b:5<=k)(N:Nt C W){hs a:D}{i:Int}(hi:i∈C.map (·.1))(ha:lJ a [.str "x",.str "y"]=O7 Pc):ak defs gv k 21 [.d (aw C W),.d hs,.d (.int i),.d a]=.ok (.lst [.bl Pc,.bl Pa]):=by
 obtain⟨n,rfl⟩:=Qi b;have cl:=N.cl;exact IU (by rw[has_int N.cn (by omega),decide_eq_true hi]) ha
theorem Mg(N:Nt C W)(f:5<=k)(g:0<C.length):ay (V k) pY (iT s1 s2 s3 (aw C W) (aV hs) o6 o7 o8 o9)=.ok (.rt (.bl Pa)):=by
 have n1:(1000:Int)∉C.map (·.1):=λz=>by
  obtain⟨c,h,e⟩:=List.mem_map.mp z;have:=N.cv c h;omega
 match C,g,N,n1 with
 |c::C,_,N,n1=>
  have b:c.1∈(c::C).map (·.1):=Pn;have i:au (V k) (.idx (.idx (.idx (.var 4) (.cst (.int 0))) (.cst (.int 0))) (.cst (.int 0))) (iT s1 s2 s3 (aw (c::C) W) (aV hs) o6 o7 o8 o9)=.ok (.int c.1):=by
   show((br (.tup (cD c::C.map cD)) (.int 0))>>=λd=>br d (.int 0))=_;rw[wm,LV];rfl
  unfold pY;rw[fH i];have a1:∀a,ak defs gv k 21 [.d (aw (c::C) W),.d (aV hs),.d (.int 1000),.d a]=.ok (.lst [.bl Pa,.bl Pc]):=λa=>Jc f N n1;have n:∀a,ak defs gv k 21 [.d (aw (c::C) W),.d (aV hs),.d (.bl Pa),.d a]=.ok (.lst [.bl Pa,.bl Pc]):=λa=>Jd f Pa;have l:=BK (hs:=aV hs) (a:=.str "z") f N b rfl;have j:=BK (hs:=aV hs) (a:=.bH) f N b rfl;generalize aw (c::C) W=net at*;generalize aV hs=hd at*;unfold iT;symm_saturate;rw[a1,n];symm_saturate;show(ay (V k) pX [O7 .feed,s1,s2,s3,O7 (.d net),O7 (.d hd),o6,O7 (.d (.int c.1)),o8,o9])=_;unfold pX;symm_saturate;rw[l,j];symm_saturate;rfl
theorem Mh(N:Nt C W)(s:5<=k)(g:0<C.length)(x:∀h∈hs,h.ok C)(B:hs.length<=1000)(L:12<=m):(ay (V k) kO (iT s1 s2 s3 (aw C W) (aV hs) o6 o7 o8 o9)).wp m (λE p=>m<=p+12/\E=.rt (.bl Pa)):=by
 have cl:=N.cl;have H:bK (dD (.nm 0)) (λb=>(cP (V k) gM b).calm) (λb=>(au (V k) jC b).calm) (hs.map d6) (eW (iT s1 s2 s3 (aw C W) (aV hs) o6 o7 o8 o9) 1 [4])=.ok []:=by
  refine(dJ (c:=λ_=>Pc) (e:=d6) (λb=>∃a,b=[a,O7 (.d (aw C W))]) ?_ ⟨Pb,rfl⟩).trans (by rw[List.filter_eq_nil_iff.mpr (λ_ _=>by simp)];rfl);rintro b⟨a,rfl⟩h q;refine⟨_,rfl,⟨_,rfl⟩,?_,λz=>nomatch z⟩;obtain⟨n,rfl⟩:=Qi s;have e:=Bz (n:=n+3) (W:=W) N.cn (by omega) (x h q);unfold gM;symm_saturate;rw[e];rfl
 have G:cP (V k) (.aW .NotEq (.lc ["_law_hold"] [4] (.nm 0) (.ba (.var 5)) gM jC) (.lst .nil)) (iT s1 s2 s3 (aw C W) (aV hs) o6 o7 o8 o9)=.ok Pc:=by
  have F:au (V k) (.lc ["_law_hold"] [4] (.nm 0) (.ba (.var 5)) gM jC) (iT s1 s2 s3 (aw C W) (aV hs) o6 o7 o8 o9)=.ok (.lst []):=by
   rw[mV];show(bK _ _ _ (hs.map d6) (eW (iT s1 s2 s3 (aw C W) (aV hs) o6 o7 o8 o9) 1 [4])>>=λr=>T.ok (D.lst r))=_;rw[H];rfl
  show(au (V k) (.lc ["_law_hold"] [4] (.nm 0) (.ba (.var 5)) gM jC) (iT s1 s2 s3 (aw C W) (aV hs) o6 o7 o8 o9)>>=λd=>au (V k) (.lst .nil) (iT s1 s2 s3 (aw C W) (aV hs) o6 o7 o8 o9)>>=λe=>bD .NotEq d e>>=bx)=_;rw[F];rfl
 unfold kO;rw[aQ (ρ':=iT s1 s2 s3 (aw C W) (aV hs) o6 o7 o8 o9) (by rw[eP,G,ae];rfl)];unfold wb;refine jF ?_;have A:qw (V k) (.fP (.cons (.cst (.int 12)) .nil)) (iT s1 s2 s3 (aw C W) (aV hs) o6 o7 o8 o9)=.ok (aT 12):=(Ox _ _ _ rfl).trans (uF (by decide) (by decide));rw[gE,A,ae];refine dw (λv b p=>v.length<=12/\m<=p+(12-v.length)/\∃o l j i,b=iT s1 s2 s3 (aw C W) (aV hs) o l j i) ?_ ?_ ⟨by simp[aT],by simp[aT],o6,o7,o8,o9,rfl⟩
 .intro d v b w t;obtain⟨y,u,o,l,j,i,f⟩:=t;rw[f];rw[PM]at y u;show(T.ok (iT s1 s2 s3 (aw C W) (aV hs) (O7 (.d d)) l j i)).wp w _;rw[T.bz];exact Mf N s g x B (by omega) λK J I=>⟨by omega,by omega,_,_,_,_,rfl⟩
 .intro b w t;obtain⟨y,u,o,l,j,i,f⟩:=t;rw[f];rw[P8]at u;refine⟨_,rfl,?_⟩;rw[Mg N s g,T.bz];exact⟨by omega,rfl⟩
theorem yf(f:D->D->Option Bool)(xs:List D):aZ f xs []=O7 Pa:=by cases xs<;>rfl
theorem Er(xs:List D):bD .Eq (.tup xs) (.tup [])=.ok (.bl (xs.length==0)):=by
 show(T.get ((aZ (cV 59) xs []).map λb=>b&&xs.length==([]:List D).length)>>=λb=>T.ok (D.bl b))=_;rw[yf];rfl
theorem Je(N:Nt C W)(g:5<=k)(l:164<=m):(ay (V k) mG [O7 .feed,s1,s2,s3,O7 (.d (aw C W)),Pb,Pb,Pb,Pb,Pb]).wp m (λc a=>m<=a+164/\c=.rt (.bl Pa)):=by
 have e:cP (V k) (.aW .Eq (.idx (.var 4) (.cst (.int 0))) (.tup .nil)) [O7 .feed,s1,s2,s3,O7 (.d (aw C W)),Pb,Pb,Pb,Pb,Pb]=.ok ((C.map cD).length==0):=by
  symm_saturate;rw[Er];rfl
 unfold mG;by_cases b:C.length=0
 .have:ay (V k) (.cons (.iff (.aW .Eq (.idx (.var 4) (.cst (.int 0))) (.tup .nil)) (.cons (.ret (.cst (.bl Pa))) .nil) .nil) (.cons (.set 5 (.call 19 (.feed 0 (.cons (.var 4) .nil)))) kO)) [O7 .feed,s1,s2,s3,O7 (.d (aw C W)),Pb,Pb,Pb,Pb,Pb]=.ok (.rt (.bl Pa)):=by
   rw[dX,eP,e,Pk,beq_iff_eq.mpr b];rfl
  rw[this,T.bz];exact⟨by omega,rfl⟩
 .rw[aQ (ρ':=[O7 .feed,s1,s2,s3,O7 (.d (aw C W)),Pb,Pb,Pb,Pb,Pb]) (by rw[eP,e,Pk,beq_eq_false_iff_ne.mpr b];rfl)];refine mL ?_;show((T.ok [A.feed,A.d (aw C W)])>>=λas=>(ak defs gv k 19 as).at' _).wp m _;rw[ae,T.wp_at];refine wp_call (BJ N (by omega) (by omega) (by omega)) λd f hd=>?_;obtain⟨i,hs,rfl,j,h⟩:=hd;refine T.wp_mono (λc a q=>?_) (Mh (s1:=s1) (s2:=s2) (s3:=s3) (o6:=Pb) (o7:=Pb) (o8:=Pb) (o9:=Pb) (m:=f) N g (by omega) h (by omega) (by omega));exact⟨by have:=q.1;omega,q.2⟩
theorem wG{w:Int}(c:2<=k)(hw:1<=w/\w<=7)(b:10<=m):(ak defs gv k 11 [.feed,.d (.int w)]).wp m (λd a=>m<=a+10/\∃xs:List Int,d=.lst (xs.map D.int)/\(xs.length:Int)=w/\(∀x∈xs,0<=x/\x<=1000000)/\xs.Pairwise (·<·)):=by
 obtain⟨n,rfl⟩:=Qi c;exact Bf hw b
theorem Es{w h:Int}(c:2<=k)(hw:2<=w/\w<=7)(f:2<=h/\h<=6)(b:60<=m):(ak defs gv k 12 [.feed,.d (.int w),.d (.int h)]).wp m (λd a=>m<=a+60/\∃E:List Eg,d=.lst (E.map eD)/\E.length<=84/\∀e∈E,e.ok w h):=by
 obtain⟨n,rfl⟩:=Qi c;exact Bh hw f b
theorem uH{w h:Int}{E:List Eg}(f:2<=k)(g:∀e∈E,e.ok w h)(c:E.length<=84)(b:200<=m):(ak defs gv k 18 [.feed,.d (.lst (E.map eD))]).wp m (λd a=>m<=a+200/\∃A:List (Pt×Int),d=fQ A/\Num w h A):=by
 obtain⟨n,rfl⟩:=Qi f;exact sT g c b
theorem Mi{w h:Int}{E:List Eg}{A:List (Pt×Int)}{xs a:List Int}(l:3<=k)(hw:w<=7)(o:h<=7)(p:∀e∈E,e.ok w h)(j:E.length<=84)(q:Num w h A)(i:(xs.length:Int)=w)(g:(a.length:Int)=h)(c:∀x∈xs,0<=x/\x<=1000000)(b:∀y∈a,0<=y/\y<=1000000):(ak defs gv k 17 [.d (.lst (E.map eD)),.d (fQ A),.d (.lst (xs.map D.int)),.d (.lst (a.map D.int))]).wp m (λd f=>f=m/\∃(C:List Cn)(W:List Pt),d=aw C W/\Br E A xs a C W):=by
 obtain⟨n,rfl⟩:=Qi l;exact IE hw o p j q i g c b
theorem Et{n m:Nat}(L:600<=m):(ak defs gv (n+6) 22 [.feed]).wp m (λd g=>m<=g+600/\d=.bl Pa):=by
 have z:=m6;rw[aD (d:=gD) rfl rfl];obtain⟨k,a⟩:∃k,n+5=k:=⟨_,rfl⟩;rw[a];have p:5<=k:=by omega
 clear a;have cd:=uG (k:=k) (by omega);unfold gD;subst_eqs;simp only[cd,T.dG,T.bz];refine⟨by decide,by decide,by omega,λw u t=>⟨by decide,by decide,by omega,λh N M=>?_⟩⟩;refine wp_call (Es (by omega) (by omega) (by omega) (by omega)) ?_;intro d K hd;obtain⟨F,E,rfl,b,i⟩:=hd;unfold sM;subst_eqs;refine wp_call (uH (by omega) i b (by omega)) ?_;intro d J hd;obtain⟨D,A,rfl,j⟩:=hd;refine wp_call (wG (by omega) (by omega) (by omega)) ?_;intro d I hd;obtain⟨B,s,rfl,o,f,x⟩:=hd;refine wp_call (wG (by omega) (by omega) (by omega)) ?_;intro d H hd;obtain⟨y,r,rfl,l,c,v⟩:=hd;refine wp_call (Mi (by omega) (by omega) (by omega) i b j o l f c) ?_;intro d G hd;obtain⟨P,C,W,rfl,hN⟩:=hd;refine T.wp_mono (λO g q=>?_) (Je (k:=k) (Ae (by omega) (by omega) j f c hN) p (by omega));obtain⟨q,e⟩:=q;rw[e];exact⟨by omega,rfl⟩
end
theorem whole:(ay (gv.ev (ak defs gv 39)) rest (Pb::O7 .feed::Qy (uy.length-2) Pb)).nj 1000000 (λl=>l=.rt (.bl Pa)):=by
 refine T.p0 ?_;show(ay (V 39) rest [Pb,O7 .feed,Pb]).wp 1000000 _;obtain⟨k,f⟩:∃k,k=39:=⟨_,rfl⟩;rw[<-f];unfold rest;subst_eqs;refine⟨by decide,?_⟩;refine dw (λe b j=>e.length<=3/\1000000<=j+600*(3-e.length)/\∃o,b=[Pb,O7 .feed,o]) ?_ ?_ ?_;rotate_left 2;.exact⟨by simp[aT],by simp[aT],Pb,rfl⟩
 .intro d e b i c;obtain⟨h,g,o,a⟩:=c;rw[a];simp only[PM]at h g;unfold Bb;subst_eqs;rw[f];refine wp_call (Et (n:=33) (by omega)) ?_;intro d m hd;obtain⟨q,rfl⟩:=hd;rw[Bw,T.bz];simp only[Rb,P4,if_false];exact⟨by omega,by omega,_,rfl⟩
 .intro b i c;obtain⟨h,g,o,a⟩:=c;rw[a];unfold Ba;subst_eqs
end K33
end
open PySem PySem.W PyProof.Rows
theorem PySem.Challenge.cw_wallplan_k33_groups_holds : PySem.Challenge.rw_wallplan_k33_groups.Holds := by
 refine head (L2.Ce (l:=Tq) (n:=63) (k:=40) (x:=O8 "_law_script") (K:=head.heap_39) (CX:=λ_=>L2.w5) (sp:=λw=>L2.A4 (head.heap_39 w.params)) rfl (by decide) rfl ⟨rfl,by decide,by decide,rfl⟩ (λw h Y=>PySem.W.kIn_of Y) ?F ?S ?C)
 case F=>
  intro w mg m h p G b
  obtain ⟨f,fd,j,i,g⟩:=K33.LS K33.whole w.params
  have e:mg (O8 "law")=O7 (.ref f):=Tj p G j
  have o:(O7 (PQ f):Option O_)=O7 (.ref m):=e.symm.trans b
  cases o
  exact ⟨fd,λs u=>.of_eq (i [u] rfl),λbase X G=>g rfl X G⟩
 case S=>exact λw H a ns c _ d=>⟨a,ns,rfl,d,c,λ_=>rfl⟩
 case C=>exact λ_ _ _ _ _ z=>z
